import PyProof.Rows.All
import Wide.All
import OpenK.AllK
import Wide.FinOn
import Lean
import PyProof.EqAt
import PyProof.EqKinds
import PyProof.TupleCall
import PySem.Challenge.RW_inkroot_k62_great_sets
set_option Elab.async false
set_option linter.all false
set_option maxRecDepth 100000
/-! THE HAND LAYER, for ints, bools, texts, own classes, LISTS and tuples (index, slices, in, append, pop ..), calls, loops. Paste it whole ahead of your own text; what your proof does not reach may be deleted. -/
namespace L2
open PySem PySem.Spec PyProof.Rows

/-- a key: an int or a str -/
abbrev Key := Sum Int Str
def keyIs : Key → Value → Bool
  | .inl k, v => Value.isInt k v
  | .inr x, v => Value.isStrOf x v
def keyH (w : World) : Key → Int
  | .inl k => hashInt k
  | .inr x => hashStr w x
theorem keyIs_shape : ∀ {k : Key} {v : Value}, keyIs k v = true → (∃ i t, k = Sum.inl i ∧ v = Value.int i t) ∨ (∃ x t, k = Sum.inr x ∧ v = Value.str x t)
  | .inl i, v, h => by
    obtain ⟨t, e⟩ := Value.isInt_shape (k := i) (v := v) h
    exact .inl ⟨i, t, rfl, e⟩
  | .inr x, v, h => by
    obtain ⟨t, e⟩ := Value.isStrOf_shape (x := x) (v := v) h
    exact .inr ⟨x, t, rfl, e⟩
theorem keyIs_int (i : Int) (t : Tok) : keyIs (.inl i) (.int i t) = true := by simp [keyIs, Value.isInt]
theorem keyIs_str (x : Str) (t : Tok) : keyIs (.inr x) (.str x t) = true := by simp [keyIs, Value.isStrOf]
theorem key_ll (a b : Int) : decide ((Sum.inl a : Key) = Sum.inl b) = (a == b) := by
  by_cases e : a = b
  · subst e; simp
  · have h : ¬ (Sum.inl a : Key) = Sum.inl b := fun q => e (Sum.inl.inj q)
    rw [decide_eq_false h]
    exact (beq_eq_false_iff_ne.mpr e).symm
theorem key_rr (a b : Str) : decide ((Sum.inr a : Key) = Sum.inr b) = decide (a = b) := by
  by_cases e : a = b
  · subst e; simp
  · have h : ¬ (Sum.inr a : Key) = Sum.inr b := fun q => e (Sum.inr.inj q)
    rw [decide_eq_false h, decide_eq_false e]
theorem key_lr (a : Int) (b : Str) : decide ((Sum.inl a : Key) = Sum.inr b) = false := decide_eq_false (fun q => nomatch q)
theorem key_rl (a : Str) (b : Int) : decide ((Sum.inr a : Key) = Sum.inl b) = false := decide_eq_false (fun q => nomatch q)

def mixKind (prog : Program) (w : World) : PySem.KeyKind prog w Key where
  is := keyIs
  hash := keyH w
  inj := fun v a b ha hb => by
    rcases keyIs_shape ha with ⟨i, t, rfl, rfl⟩ | ⟨x, t, rfl, rfl⟩
    · rcases keyIs_shape hb with ⟨j, u, rfl, e⟩ | ⟨y, u, rfl, e⟩
      · injection e with e1 _; rw [e1]
      · exact nomatch e
    · rcases keyIs_shape hb with ⟨j, u, rfl, e⟩ | ⟨y, u, rfl, e⟩
      · exact nomatch e
      · injection e with e1 _; rw [e1]
  byValue := fun k v h => by
    rcases keyIs_shape h with ⟨i, t, rfl, rfl⟩ | ⟨x, t, rfl, rfl⟩ <;> rfl
  pyHash := fun hv h => by
    rcases keyIs_shape hv with ⟨i, t, rfl, rfl⟩ | ⟨x, t, rfl, rfl⟩
    · exact wpAny_pyHash_int h
    · exact wpAny_pyHash_str h
  eqBool := fun hu hv h => by
    rcases keyIs_shape hu with ⟨i, t, rfl, rfl⟩ | ⟨x, t, rfl, rfl⟩
    · rcases keyIs_shape hv with ⟨j, u, rfl, rfl⟩ | ⟨y, u, rfl, rfl⟩
      · rw [key_ll] at h; exact wpAny_eqBool_int h
      · rw [key_lr] at h; exact SeqAt.EqAt.int_str i t y u _ _ _ _ h
    · rcases keyIs_shape hv with ⟨j, u, rfl, rfl⟩ | ⟨y, u, rfl, rfl⟩
      · rw [key_rl] at h; exact SeqAt.EqAt.str_int x t j u _ _ _ _ h
      · rw [key_rr] at h; exact wpAny_eqBool_str h
  «strs» := fun k x t v h => by
    rcases keyIs_shape h with ⟨i, u, rfl, e⟩ | ⟨y, u, rfl, e⟩
    · exact nomatch e
    · injection e with e1 _
      subst e1
      cases v <;> rfl

theorem mixKind_int (prog : Program) (w : World) (i : Int) (t : Tok) : (mixKind prog w).is (.inl i) (.int i t) = true := keyIs_int i t
theorem mixKind_str (prog : Program) (w : World) (x : Str) (t : Tok) : (mixKind prog w).is (.inr x) (.str x t) = true := keyIs_str x t
end L2

namespace L2
open PySem PySem.Spec PyProof.Rows

/-- a value, without the heap -/
inductive V where
  | non | bl (b : Bool) | int (i : Int) | str (x : Str) | byt (b : Array UInt8) | flt (b : UInt64) | ref (a : Addr) | ty (n : String)
  deriving DecidableEq

def RelV : V → Value → Prop
  | .non, u => u = Value.none
  | .bl b, u => u = Value.bool b
  | .int i, u => ∃ t, u = Value.int i t
  | .str x, u => ∃ t, u = Value.str x t
  | .byt b, u => ∃ t, u = Value.bytes b t
  | .flt b, u => ∃ t, u = Value.float b t
  | .ref a, u => u = Value.ref a
  | .ty n, u => u = Value.type n

abbrev Vals : List V → List Value → Prop := Paired RelV
theorem Vals.length {xs : List V} {us : List Value} (r : Vals xs us) : xs.length = us.length := Paired.length r
theorem Vals.get : ∀ {xs : List V} {us : List Value} {i : Nat} {x : V}, Vals xs us → xs[i]? = some x → ∃ u, us[i]? = some u ∧ RelV x u
  | _, _, _, _, .nil, e => by simp at e
  | _, _, 0, _, .cons r _, e => by simp at e; subst e; exact ⟨_, rfl, r⟩
  | _, _, i + 1, x, .cons _ t, e => by
    obtain ⟨u, h1, h2⟩ := Vals.get (i := i) (x := x) t (by simpa using e)
    exact ⟨u, by simpa using h1, h2⟩
theorem Vals.set {x : V} {u : Value} (r : RelV x u) : ∀ {xs : List V} {us : List Value} (i : Nat), Vals xs us → Vals (xs.set i x) (us.set i u)
  | _, _, _, .nil => .nil
  | _, _, 0, .cons _ t => .cons r t
  | _, _, i + 1, .cons q t => .cons q (Vals.set r i t)
theorem Vals.append : ∀ {xs ys : List V} {us ws : List Value}, Vals xs us → Vals ys ws → Vals (xs ++ ys) (us ++ ws)
  | _, _, _, _, .nil, s => s
  | _, _, _, _, .cons r t, s => .cons r (Vals.append t s)
theorem Vals.take : ∀ {xs : List V} {us : List Value} (n : Nat), Vals xs us → Vals (xs.take n) (us.take n)
  | _, _, 0, _ => .nil
  | _, _, _ + 1, .nil => .nil
  | _, _, n + 1, .cons r t => .cons r (Vals.take n t)
theorem Vals.drop : ∀ {xs : List V} {us : List Value} (n : Nat), Vals xs us → Vals (xs.drop n) (us.drop n)
  | _, _, 0, r => r
  | _, _, _ + 1, .nil => .nil
  | _, _, n + 1, .cons _ t => Vals.drop n t
theorem Vals.none_of : ∀ {xs : List V} {us : List Value} {i : Nat}, Vals xs us → xs[i]? = none → us[i]? = none := fun {xs us i} r e => by
  have h1 := r.length
  have h2 : xs.length ≤ i := List.getElem?_eq_none_iff.mp e
  exact List.getElem?_eq_none_iff.mpr (by omega)

def RelO : Option V → Option Value → Prop
  | some v, some u => RelV v u
  | none, none => True
  | _, _ => False
def KV {κ : Type} : List (κ × V) → List (κ × Value) → Prop := Paired fun (p : κ × V) (q : κ × Value) => p.1 = q.1 ∧ RelV p.2 q.2

/-- a key of a dict (00_mix): an int or a text -/
def kV : Key → V
  | .inl i => .int i
  | .inr x => .str x

/-- what stands at a tracked address -/
inductive HO where
  /-- a list -/
  | lst (xs : List V)
  /-- a tuple (never changes) -/
  | tup (xs : List V)
  /-- a dict whose keys are ints and texts; one whose keys are tuples of ints and texts (the empty one is both) -/
  | dK (kvs : List (Key × V)) | dT (kvs : List (List Key × V))
  /-- a set of ints: its members, its size -/
  | set (S : Int → Bool) (n : Nat)
  /-- an instance of the class at C, its dict at dx, its attributes -/
  | ins (C dx : Addr) (fs : List (Str × V))
  /-- the dict of the instance at x -/
  | own (x : Addr)
  /-- the dict of an exception -/
  | xd (fs : List (Str × V))
  /-- a bound method, f of x -/
  | met (f x : Addr)
  /-- a range object lo, lo + 1, .. below hi -/
  | rng (lo hi : Int)
  /-- a thing that is known to the object (the script; a dict while a loop walks it): read, never written while it is so -/
  | frz (o : Obj) (u : HO)
  /-- a code object's table -/
  | tbl (ps : Array Value)
  /-- any other thing, by what is true of its one object (a def of one's own: SetO a S n := HO.ext fun h => ..) -/
  | ext (φ : Heap → Prop)

abbrev Hp := Addr → Option HO
def upd (H : Hp) (a : Addr) (o : HO) : Hp := fun b => if b = a then some o else H b
theorem upd_same {H : Hp} {a : Addr} {o : HO} : upd H a o a = some o := by unfold upd; rw [if_pos rfl]
theorem upd_ne {H : Hp} {a b : Addr} {o : HO} (h : b ≠ a) : upd H a o b = H b := by unfold upd; rw [if_neg h]
/-- two objects of different content stand apart -/
theorem ne_of {H : Hp} {a b : Addr} {o u : HO} (h : H a = some o) (h' : H b = some u) (d : o ≠ u) : a ≠ b := by
  intro e; subst e; rw [h] at h'; exact d (Option.some.inj h')
theorem ne_of_none {H : Hp} {a b : Addr} {o : HO} (h : H a = some o) (h' : H b = none) : a ≠ b := by
  intro e; subst e; rw [h] at h'; cases h'

section
variable (P : Program) (w : World)
def ObjOk (H : Hp) (h : Heap) (a : Addr) : HO → Prop
  | .lst xs => xs.length ≤ sizeLine ∧ ∃ (its : List Value) (n : Nat), Vals xs its ∧ h.get? a = some { cls := .type "list", data := .seq its.toArray n }
  | .tup xs => xs.length ≤ sizeLine ∧ ∃ its : List Value, Vals xs its ∧ IsTup h a its.toArray
  | .dK kvs => kvs.length ≤ sizeLine ∧ (a == sysModules) = false ∧ ∃ vs, KV kvs vs ∧ h.DictOf (mixKind P w) a vs
  | .dT kvs => kvs.length ≤ sizeLine ∧ (a == sysModules) = false ∧ ∃ xs : List (List Key × Addr × Value),
      Paired (fun (p : List Key × V) (q : List Key × Addr × Value) => p.1 = q.1 ∧ H q.2.1 = some (.tup (p.1.map kV)) ∧ RelV p.2 q.2.2) kvs xs ∧
      ∃ o es ep, h.get? a = some o ∧ o.ExactDict ∧ o.data = .dict es ep ∧ es.toList = xs.map (entryOfKey (tupleKind (mixKind P w))) ∧ (xs.map (·.1)).Nodup
  | .set S n => h.SetOf (intKind P w) a S n
  | .ins C dx fs => H dx = some (.own a) ∧ fs.length ≤ 1000 ∧ dx ≠ a ∧ h.get? a = some (PySem.W.instObj C dx) ∧
      ∃ mA, h.Ns1 dx mA ∧ (∀ f, RelO (fs.lookup f) (mA f)) ∧ PySem.Within mA (fs.map (·.1))
  | .own _ => ∃ o, h.get? a = some o
  | .xd fs => ∃ mA, h.Ns1 a mA ∧ ∀ f, RelO (fs.lookup f) (mA f)
  | .rng lo hi => ∃ t u v, h.get? a = some { cls := .type "range", data := .fields #[.int lo t, .int hi u, .int 1 v] }
  | .frz o u => h.get? a = some o ∧ ObjOk H h a u
  | .tbl ps => h.get? a = some { cls := .none, data := .fields ps }
  | .met f x => h.get? a = some (PySem.W.methodObj (.ref f) (.ref x))
  | .ext φ => φ h ∧ (∃ o, h.get? a = some o) ∧ ∀ h1 h2 : Heap, φ h1 → (∀ o, h1.get? a = some o → h2.get? a = some o) → φ h2
/-- the abstract heap is held -/
def HOk (H : Hp) (h : Heap) : Prop := ∀ a o, H a = some o → ObjOk P w H h a o
end

section
variable {P : Program} {w : World} {H H' : Hp} {h h' : Heap} {a : Addr} {o : HO}
theorem ObjOk.lt (x : ObjOk P w H h a o) : a < h.objs.size := by
  cases o with
  | lst xs => obtain ⟨_, _, _, _, e⟩ := x; exact Heap.lt_size e
  | tup xs => obtain ⟨_, _, _, p⟩ := x; exact p.lt
  | dK kvs => obtain ⟨_, _, _, _, o, _, _, e, _⟩ := x; exact Heap.lt_size e
  | dT kvs => obtain ⟨_, _, _, _, o, _, _, e, _⟩ := x; exact Heap.lt_size e
  | set S n => obtain ⟨o, _, _, _, e, _⟩ := x; exact Heap.lt_size e
  | ins C dx fs => obtain ⟨_, _, _, e, _⟩ := x; exact Heap.lt_size e
  | own y => obtain ⟨_, e⟩ := x; exact Heap.lt_size e
  | xd fs => obtain ⟨_, ⟨_, _, _, e, _⟩, _⟩ := x; exact Heap.lt_size e
  | rng lo hi => obtain ⟨_, _, _, e⟩ := x; exact Heap.lt_size e
  | frz ob u => obtain ⟨e, _⟩ := x; exact Heap.lt_size e
  | tbl ps => exact Heap.lt_size (show h.get? a = some _ from x)
  | met f y => exact Heap.lt_size (show h.get? a = some _ from x)
  | ext φ => obtain ⟨_, ⟨_, e⟩, _⟩ := x; exact Heap.lt_size e
theorem Paired.mapP {α β : Type} {F G : α → β → Prop} : ∀ {l₁ : List α} {l₂ : List β}, Paired F l₁ l₂ → (∀ a b, F a b → G a b) → Paired G l₁ l₂
  | _, _, .nil, _ => .nil
  | _, _, .cons r t, f => .cons (f _ _ r) (Paired.mapP t f)
/-- what an object's description leans on: its own object, its own dict, the tuples -/
theorem ObjOk.stay (x : ObjOk P w H h a o) (k : ∀ b u, (b = a ∨ H b = some (.own a)) → h.get? b = some u → h'.get? b = some u)
    (ho : ∀ b, H b = some (.own a) → H' b = some (.own a)) (ht : ∀ b xs, H b = some (.tup xs) → H' b = some (.tup xs)) : ObjOk P w H' h' a o := by
  induction o with
  | lst xs => obtain ⟨z, its, n, r, e⟩ := x; exact ⟨z, its, n, r, k _ _ (.inl rfl) e⟩
  | tup xs => obtain ⟨z, its, r, ob, e, c⟩ := x; exact ⟨z, its, r, ob, k _ _ (.inl rfl) e, c⟩
  | dK kvs => obtain ⟨z, y, vs, r, ob, es, ep, e, c⟩ := x; exact ⟨z, y, vs, r, ob, es, ep, k _ _ (.inl rfl) e, c⟩
  | dT kvs =>
    obtain ⟨z, y, xs, r, ob, es, ep, e, c⟩ := x
    exact ⟨z, y, xs, Paired.mapP r fun p q z => ⟨z.1, ht _ _ z.2.1, z.2.2⟩, ob, es, ep, k _ _ (.inl rfl) e, c⟩
  | set S n => obtain ⟨ob, es, ep, t, e, c⟩ := x; exact ⟨ob, es, ep, t, k _ _ (.inl rfl) e, c⟩
  | ins C dx fs =>
    obtain ⟨d, z, ne, e, mA, ⟨od, es, ep, e2, c⟩, r⟩ := x
    exact ⟨ho _ d, z, ne, k _ _ (.inl rfl) e, mA, ⟨od, es, ep, k _ _ (.inr d) e2, c⟩, r⟩
  | own y => obtain ⟨ob, e⟩ := x; exact ⟨ob, k _ _ (.inl rfl) e⟩
  | xd fs => obtain ⟨mA, ⟨od, es, ep, e, c⟩, r⟩ := x; exact ⟨mA, ⟨od, es, ep, k _ _ (.inl rfl) e, c⟩, r⟩
  | rng lo hi => obtain ⟨t, u, v, e⟩ := x; exact ⟨t, u, v, k _ _ (.inl rfl) e⟩
  | frz ob u ih => obtain ⟨e, q⟩ := x; exact ⟨k _ _ (.inl rfl) e, ih q⟩
  | tbl ps =>
    have e : h.get? a = some { cls := .none, data := .fields ps } := x
    show h'.get? a = some { cls := .none, data := .fields ps }
    exact k a _ (.inl rfl) e
  | met f y =>
    have e : h.get? a = some (PySem.W.methodObj (.ref f) (.ref y)) := x
    show h'.get? a = some (PySem.W.methodObj (.ref f) (.ref y))
    exact k a _ (.inl rfl) e
  | ext φ => obtain ⟨p, ⟨o, e⟩, st⟩ := x; exact ⟨st _ _ p fun o q => k _ _ (.inl rfl) q, ⟨o, k _ _ (.inl rfl) e⟩, st⟩
theorem HOk.lt (x : HOk P w H h) (e : H a = some o) : a < h.objs.size := (x a o e).lt
theorem HOk.fresh (x : HOk P w H h) (e : h.objs.size ≤ a) : H a = none := by
  cases q : H a with
  | none => rfl
  | some u => exact absurd (Nat.lt_of_lt_of_le (x.lt q) e) (Nat.lt_irrefl _)
/-- every object of the heap is kept -/
theorem HOk.kept (x : HOk P w H h) (k : ∀ b u, h.get? b = some u → h'.get? b = some u) : HOk P w H h' := fun a o e =>
  (x a o e).stay (fun b u _ q => k b u q) (fun _ q => q) fun _ _ q => q
/-- a new object is laid and tracked -/
theorem HOk.laid (x : HOk P w H h) (k : ∀ b u, h.get? b = some u → h'.get? b = some u) (hp : h.objs.size ≤ a) (new : ObjOk P w (upd H a o) h' a o) : HOk P w (upd H a o) h' := fun b u e => by
  have hn := x.fresh hp
  by_cases hb : b = a
  · subst hb; rw [upd_same] at e; cases e; exact new
  · rw [upd_ne hb] at e
    exact (x b u e).stay (fun c v _ q => k c v q) (fun c q => by rw [upd_ne (ne_of_none q hn)]; exact q) fun c xs q => by rw [upd_ne (ne_of_none q hn)]; exact q
end

/-- what may be read as u: it is u, or a known u -/
def Rd (H : Hp) (a : Addr) (u : HO) : Prop := H a = some u ∨ ∃ o, H a = some (.frz o u)
theorem Rd.of {H : Hp} {a : Addr} {u : HO} (h : H a = some u) : Rd H a u := .inl h
theorem Rd.ok {P : Program} {w : World} {H : Hp} {h : Heap} {a : Addr} {u : HO} (r : Rd H a u) (x : HOk P w H h) : ObjOk P w H h a u := by
  rcases r with r | ⟨o, r⟩
  · exact x a u r
  · obtain ⟨_, q⟩ := x a _ r
    exact q
/-- what may be written -/
def Mut : Option HO → Prop
  | some (.lst _) => True
  | some (.dK _) => True
  | some (.dT _) => True
  | some (.set _ _) => True
  | some (.ins _ _ _) => True
  | some (.ext _) => True
  | _ => False
section
variable {P : Program} {w : World} {H : Hp} {h h' : Heap} {x e : Addr} {o' : HO}
/-- the object at e is changed: x itself, or the dict of the instance x -/
theorem HOk.write (ok : HOk P w H h) (mu : Mut (H x)) (he : e = x ∨ H e = some (.own x)) (k : ∀ b u, b ≠ e → h.get? b = some u → h'.get? b = some u) (heo : ∃ u, h'.get? e = some u)
    (new : ObjOk P w (upd H x o') h' x o') : HOk P w (upd H x o') h' := fun b u q => by
  have nown : ∀ c y, H c = some (.own y) → c ≠ x := fun c y r z => by subst z; rw [r] at mu; exact mu
  have ntup : ∀ c xs, H c = some (.tup xs) → c ≠ x := fun c xs r z => by subst z; rw [r] at mu; exact mu
  by_cases hb : b = x
  · subst hb; rw [upd_same] at q; cases q; exact new
  · rw [upd_ne hb] at q
    by_cases hbe : b = e
    · have q' : H b = some (.own x) := by
        rcases he with z | z
        · exact absurd (hbe.trans z) hb
        · rw [hbe]; exact z
      rw [q] at q'; cases q'
      obtain ⟨v, hv⟩ := heo
      exact ⟨v, by rw [hbe]; exact hv⟩
    · refine (ok b u q).stay (fun c v hc r => k c v ?_ r) (fun c r => by rw [upd_ne (nown c b r)]; exact r) fun c xs r => by rw [upd_ne (ntup c xs r)]; exact r
      rcases hc with rfl | hc
      · exact hbe
      · rintro rfl
        rcases he with z | z
        · exact nown c b hc z
        · rw [hc] at z; cases z; exact hb rfl
end

/-! ### kept unless tracked; of the frames at fs (the callers') the slots may change (an exception that passes writes there); of the records at ex (iterators) nothing is said -/
structure Un (fs ex : List Addr) (H H' : Hp) (h h' : Heap) : Prop where
  keep : ∀ b o, h.get? b = some o → H b = none → b ∉ fs → b ∉ ex → h'.get? b = some o
  slot : ∀ b o, h.get? b = some o → H b = none → b ∈ fs → b ∉ ex → ∃ sl, h'.get? b = some { o with slots := sl }
  free : ∀ b o, h.get? b = some o → H b = none → b ∉ ex → H' b = none
  there : ∀ b o, h.get? b = some o → b ∉ ex → ∃ o', h'.get? b = some o'
  tups : ∀ b xs, H b = some (.tup xs) → H' b = some (.tup xs)
  frzs : ∀ b o u, H b = some (.frz o u) → H' b = some (.frz o u)
  tbls : ∀ b ps, H b = some (.tbl ps) → ∃ more, H' b = some (.tbl (ps ++ more))
section
variable {fs fs' ex ex' : List Addr} {H H1 H2 : Hp} {h h1 h2 h' : Heap} {a x e : Addr} {o : HO}
theorem Un.any (u : Un fs ex H H1 h h1) {b : Addr} {ob : Obj} (q : h.get? b = some ob) (n : H b = none) (hx : b ∉ ex) : ∃ sl, h1.get? b = some { ob with slots := sl } := by
  by_cases hb : b ∈ fs
  · exact u.slot b ob q n hb hx
  · exact ⟨ob.slots, u.keep b ob q n hb hx⟩
theorem Un.trans (a : Un fs ex H H1 h h1) (b : Un fs ex H1 H2 h1 h2) : Un fs ex H H2 h h2 where
  keep := fun c ob q n hc hx => b.keep c ob (a.keep c ob q n hc hx) (a.free c ob q n hx) hc hx
  slot := fun c ob q n hc hx => by
    obtain ⟨sl, e1⟩ := a.slot c ob q n hc hx
    obtain ⟨sl', e2⟩ := b.slot c _ e1 (a.free c ob q n hx) hc hx
    exact ⟨sl', e2⟩
  free := fun c ob q n hx => by
    obtain ⟨o', e1⟩ := a.there c ob q hx
    exact b.free c o' e1 (a.free c ob q n hx) hx
  there := fun c ob q hx => by
    obtain ⟨o', e1⟩ := a.there c ob q hx
    exact b.there c o' e1 hx
  tups := fun c xs q => b.tups c xs (a.tups c xs q)
  frzs := fun c ob xs q => b.frzs c ob xs (a.frzs c ob xs q)
  tbls := fun c ps q => by
    obtain ⟨m1, e1⟩ := a.tbls c ps q
    obtain ⟨m2, e2⟩ := b.tbls c _ e1
    exact ⟨m1 ++ m2, by rw [e2, Array.append_assoc]⟩
theorem Un.kept (k : ∀ b u, h.get? b = some u → h'.get? b = some u) : Un fs ex H H h h' :=
  ⟨fun b ob q _ _ _ => k b ob q, fun b ob q _ _ _ => ⟨ob.slots, k b ob q⟩, fun _ _ _ n _ => n, fun b ob q _ => ⟨ob, k b ob q⟩, fun _ _ q => q, fun _ _ _ q => q, fun _ ps q => ⟨#[], by rw [q]; simp⟩⟩
theorem Un.refl : Un fs ex H H h h := Un.kept fun _ _ q => q
theorem Un.laid (k : ∀ b u, h.get? b = some u → h'.get? b = some u) (hp : h.objs.size ≤ a) (hn : H a = none) : Un fs ex H (upd H a o) h h' where
  keep := fun b u q _ _ _ => k b u q
  slot := fun b u q _ _ _ => ⟨u.slots, k b u q⟩
  free := fun b u q n _ => by rw [upd_ne (Nat.ne_of_lt (Nat.lt_of_lt_of_le (Heap.lt_size q) hp))]; exact n
  there := fun b u q _ => ⟨u, k b u q⟩
  tups := fun b xs q => by rw [upd_ne (ne_of_none q hn)]; exact q
  frzs := fun b u xs q => by rw [upd_ne (ne_of_none q hn)]; exact q
  tbls := fun b ps q => ⟨#[], by rw [upd_ne (ne_of_none q hn), q]; simp⟩
theorem Un.write (mu : Mut (H x)) (he : e = x ∨ H e = some (.own x)) (k : ∀ b u, b ≠ e → h.get? b = some u → h'.get? b = some u) (heo : ∃ u, h'.get? e = some u) : Un fs ex H (upd H x o) h h' := by
  have hx : ∀ b, H b = none → b ≠ x := fun b n z => by subst z; rw [n] at mu; exact mu
  have hb : ∀ b, H b = none → b ≠ e := fun b n z => by
    subst z
    rcases he with r | r
    · exact hx b n r
    · rw [n] at r; cases r
  have hm : ∀ b u, H b = some u → ¬ Mut (some u) → b ≠ x := fun b u q nm z => by subst z; rw [q] at mu; exact nm mu
  refine ⟨fun b u q n _ _ => k b u (hb b n) q, fun b u q n _ _ => ⟨u.slots, k b u (hb b n) q⟩, fun b u q n _ => by rw [upd_ne (hx b n)]; exact n, fun b u q _ => ?_,
    fun b xs q => by rw [upd_ne (hm b _ q fun z => z)]; exact q, fun b u xs q => by rw [upd_ne (hm b _ q fun z => z)]; exact q, fun b ps q => ⟨#[], by rw [upd_ne (hm b _ q fun z => z), q]; simp⟩⟩
  by_cases hbe : b = e
  · subst hbe; exact heo
  · exact ⟨u, k b u hbe q⟩
theorem Un.mono (u : Un fs ex H H1 h h1) (hs : ∀ b ∈ fs, b ∈ fs') (hx : ∀ b ∈ ex, b ∈ ex') : Un fs' ex' H H1 h h1 :=
  ⟨fun b ob q n hb he => u.keep b ob q n (fun z => hb (hs b z)) fun z => he (hx b z), fun _ _ q n _ he => u.any q n fun z => he (hx _ z), fun b ob q n he => u.free b ob q n fun z => he (hx b z), fun b ob q he => u.there b ob q fun z => he (hx b z), u.tups, u.frzs, u.tbls⟩
end

/-! ### the heap without what is tracked -/
def trk (h : Heap) (H : Hp) : List Addr := (List.range h.objs.size).filter fun a => (H a).isSome
def hidT (h : Heap) (H : Hp) : Heap := PySem.W.hideAll h (trk h H)
theorem hidT_size (h : Heap) (H : Hp) : (hidT h H).objs.size = h.objs.size := PySem.W.hideAll_size _ _
theorem hidT_get {h : Heap} {H : Hp} {b : Addr} {o : Obj} (e : h.get? b = some o) (n : H b = none) : (hidT h H).get? b = some o :=
  PySem.W.hideAll_get _ e fun hm => by
    have q : (H b).isSome = true := (List.mem_filter.mp hm).2
    rw [n] at q; simp at q
theorem of_hidT {h : Heap} {H : Hp} {b : Addr} {o : Obj} (e : (hidT h H).get? b = some o) : h.get? b = some o ∧ H b = none := by
  have e' : h.get? b = some o := PySem.W.of_hideAll (trk h H) e
  refine ⟨e', ?_⟩
  cases q : H b with
  | none => rfl
  | some x =>
    have hm : b ∈ trk h H := List.mem_filter.mpr ⟨List.mem_range.mpr (Heap.lt_size e'), by simp [q]⟩
    have z : (hidT h H).get? b = none := PySem.W.hideAll_none (trk h H) hm
    rw [z] at e; cases e

/-! ### OpenK's ledger, filled with every new object but one -/
def allNews (g h : Heap) (L : Addr) : List (Addr × Obj) := (List.range h.objs.size).filterMap fun a => if a = L ∨ (g.get? a).isSome = true then none else (h.get? a).map fun o => (a, o)
def rest (g h : Heap) (L d : Addr) : List (Addr × Obj) := (allNews g h L).filter fun p => decide (p.1 ≠ d)
end L2

namespace L2
open PySem PySem.Spec PyProof.Rows

/-- the module's facts, over the base: the heap at the law's entry without what is tracked there -/
structure Mod (K : PySem.W.Frag) (mg : Str → Option Value) (base : Heap) : Prop where
  kin : K.In base
  glob : base.Ns mainGlobals mg
  blt : ∃ mb, base.Ns builtinsNs mb ∧ ∀ x : Str, x ≠ "__name__" → mb x = bootBuiltins x
  nolimit : base.NoLimit

/-- the context: a def's body (or a comprehension's block) running. base: fixed through the whole law; s₀, H₀: the entry; outer: the frames whose slots others may change (a def's callers); stack: all frames that run;
   ex: iterators that were made ahead of the entry and are walked here (a comprehension's); fn: the names whose cells were made at the entry (a def: all; a comprehension's block: its own); calm: not within an except suite; pn: pins that every state bears; xe: what is wanted of an exception that leaves the code -/
structure Cx where
  prog : Program
  w : World
  K : PySem.W.Frag
  mg : Str → Option Value
  base : Heap
  A : Around
  N : List Str
  s₀ : Shared
  H₀ : Hp
  env : Env
  outer : List Env
  stack : List Env
  ex : List Addr
  fn : Str → Bool
  calm : Bool
  pn : List (Addr × Obj)
  xe : Value → Shared → Prop
/-- the callers' frames -/
def frs (l : List Env) : List Addr := l.filterMap (·.frame)
abbrev Cx.fs (X : Cx) : List Addr := frs X.outer

def Vis (sc : Scope) (x : Str) : Prop := sc.names.lookup x = some .local ∨ sc.names.lookup x = some .cell ∨ sc.names.lookup x = some .free
def Loc (sc : Scope) (x : Str) : Prop := sc.names.lookup x = some .local ∨ sc.names.lookup x = some .cell
def Look (env : Env) (h : Heap) (m : Str → Option Value) (x : Str) (u : Value) : Prop :=
  (env.kindOf x = some .local ∧ m x = some u) ∨ ((env.kindOf x = some .cell ∨ env.kindOf x = some .free) ∧ ∃ c, env.cells.lookup x = some c ∧ h.IsCell c (some u))

structure Cx.Ok (X : Cx) : Prop where
  mod : Mod X.K X.mg X.base
  kind : X.env.scope.kind = .function
  glob : X.env.globals = mainGlobals
  blt : X.env.builtins = builtinsNs
  above : X.s₀.heap.objs.size ≤ X.env.locals
  inj : ∀ x y c, X.env.cells.lookup x = some c → X.env.cells.lookup y = some c → x = y
  has : ∀ x, (X.env.kindOf x = some .cell ∨ X.env.kindOf x = some .free) → ∃ c, X.env.cells.lookup x = some c
  cab : ∀ x c, X.fn x = true → X.env.cells.lookup x = some c → X.s₀.heap.objs.size ≤ c
  hd : X.calm = true → X.A.handled = none
  frames : X.A.frames = some X.stack
  stk : X.stack = X.outer ∨ (X.stack = X.env :: X.outer ∧ X.env.frame = some X.env.locals)
  exf : ∀ b ∈ X.ex, b ≠ X.env.locals ∧ ∀ x c, X.env.cells.lookup x = some c → c ≠ b
  bs : ∀ b o, X.base.get? b = some o → X.s₀.heap.get? b = some o ∧ X.H₀ b = none
  bsz : X.base.objs.size ≤ X.s₀.heap.objs.size
  noex : ∀ b o, X.base.get? b = some o → b ∉ X.ex
  exfs : ∀ b ∈ X.ex, b ∉ X.fs
  funs : X.s₀.heap.FunFrames X.base X.outer
  frf : ∀ b ∈ X.fs, X.H₀ b = none

structure Inv (X : Cx) (pins : List (Addr × Obj)) (σ : List (Option V)) (H : Hp) (s : Shared) : Prop where
  ok : X.Ok
  os : s.os = X.s₀.os
  bare : AllBare s.gens
  base : Un X.fs X.ex X.H₀ H X.s₀.heap s.heap
  loc : ∃ m, s.heap.Ns X.env.locals m ∧ ∀ (i : Nat) (x : Str) (v : V), X.N[i]? = some x → σ[i]? = some (some v) → Vis X.env.scope x → ∃ u, RelV v u ∧ Look X.env s.heap m x u
  cell : ∀ x c, X.env.cells.lookup x = some c → ∃ v, s.heap.IsCell c v
  free : H X.env.locals = none
  freeC : ∀ x c, X.env.cells.lookup x = some c → H c = none
  pin : ∀ p ∈ X.pn ++ pins, s.heap.get? p.1 = some p.2 ∧ H p.1 = none ∧ p.1 ≠ X.env.locals ∧ p.1 ∉ X.fs ∧ ∀ v, p.2.data ≠ .cell v
  hok : HOk X.prog X.w H s.heap
  len : σ.length = X.N.length

section
variable {X : Cx} {pins : List (Addr × Obj)} {σ : List (Option V)} {H H' : Hp} {s : Shared} {h' : Heap}

theorem Cx.Ok.nofr (ok : X.Ok) {b : Addr} {o : Obj} (e : X.base.get? b = some o) : b ∉ X.fs := fun hb => by
  have := (ok.funs.mem hb).1
  rw [e] at this; cases this
theorem Inv.bs (I : Inv X pins σ H s) : ∀ b o, X.base.get? b = some o → s.heap.get? b = some o ∧ H b = none := fun b o e =>
  ⟨I.base.keep b o (I.ok.bs b o e).1 (I.ok.bs b o e).2 (I.ok.nofr e) (I.ok.noex b o e), I.base.free b o (I.ok.bs b o e).1 (I.ok.bs b o e).2 (I.ok.noex b o e)⟩
theorem Inv.bk (I : Inv X pins σ H s) : ∀ b o, X.base.get? b = some o → s.heap.get? b = some o := fun b o e => (I.bs b o e).1
theorem Inv.mod (I : Inv X pins σ H s) : Mod X.K X.mg X.base := I.ok.mod
theorem Inv.kIn (I : Inv X pins σ H s) : X.K.In s.heap := I.ok.mod.kin.keeps I.bk
theorem Inv.nolimit (I : Inv X pins σ H s) : s.heap.NoLimit := I.ok.mod.nolimit.keeps I.bk
/-- the frame over the base: for OpenK's rules (K.In X.base is I.mod.kin) -/
theorem Inv.fr (I : Inv X pins σ H s) : ∃ m, Fr X.base X.env.locals s.heap m :=
  let ⟨m, hn, _⟩ := I.loc
  ⟨m, hn, I.bk, Nat.le_trans I.ok.bsz I.ok.above⟩
theorem Inv.lt (I : Inv X pins σ H s) : X.env.locals < s.heap.objs.size := let ⟨_, hn, _⟩ := I.loc; hn.lt
theorem Inv.sz (I : Inv X pins σ H s) : X.s₀.heap.objs.size ≤ s.heap.objs.size := Nat.le_trans I.ok.above (Nat.le_of_lt I.lt)
theorem Inv.nofs (I : Inv X pins σ H s) {a : Addr} (h : s.heap.objs.size ≤ a) : a ∉ X.fs := fun hb => by
  obtain ⟨_, o, ho, _⟩ := I.ok.funs.mem hb
  exact absurd (Nat.lt_of_lt_of_le (Heap.lt_size ho) (Nat.le_trans I.sz h)) (Nat.lt_irrefl _)
theorem Inv.cne (I : Inv X pins σ H s) : ∀ x c, X.env.cells.lookup x = some c → c ≠ X.env.locals := fun x c e z => by
  obtain ⟨v, o, ho, hd⟩ := I.cell x c e
  obtain ⟨m, ⟨o', es, ep, ho', hd', _⟩, _⟩ := I.loc
  rw [z, ho'] at ho; cases ho; rw [hd'] at hd; cases hd
theorem Inv.funs (I : Inv X pins σ H s) : s.heap.FunFrames X.base X.outer := by
  have all : ∀ (l : List Env), (∀ b ∈ frs l, b ∈ X.fs) → X.s₀.heap.FunFrames X.base l → s.heap.FunFrames X.base l := by
    intro l
    induction l with
    | nil => intro _ _; trivial
    | cons env r ih =>
      intro hs hl
      obtain ⟨hk, ⟨L, o, hf, hn, ho, hd⟩, hr⟩ := hl
      have hL : L ∈ X.fs := hs L (by unfold frs; rw [List.filterMap_cons, hf]; exact List.mem_cons_self)
      obtain ⟨sl, e⟩ := I.base.slot L o ho (I.ok.frf L hL) hL fun z => I.ok.exfs L z hL
      exact ⟨hk, ⟨L, _, hf, hn, e, hd⟩, ih (fun b hb => hs b (by unfold frs; rw [List.filterMap_cons, hf]; exact List.mem_cons_of_mem _ hb)) hr⟩
  exact all X.outer (fun _ hb => hb) I.ok.funs

/-- the frames that run, for a call -/
theorem Inv.stack (I : Inv X pins σ H s) : s.heap.FunFrames X.base X.stack := by
  rcases I.ok.stk with e | ⟨e, hf⟩
  · rw [e]; exact I.funs
  · rw [e]
    obtain ⟨m, hn, _⟩ := I.loc
    refine .cons (by rw [I.ok.kind]; decide) hf hn ?_ I.funs
    exact Heap.get?_none_of_le (Nat.le_trans I.ok.bsz I.ok.above)
theorem Inv.stkSub (I : Inv X pins σ H s) : ∀ b ∈ frs X.stack, b ∈ X.env.locals :: X.fs := fun b hb => by
  rcases I.ok.stk with e | ⟨e, hf⟩
  · rw [e] at hb; exact List.mem_cons_of_mem _ hb
  · rw [e] at hb
    unfold frs at hb
    rw [List.filterMap_cons, hf] at hb
    exact hb
theorem Inv.stkFree (I : Inv X pins σ H s) : ∀ b ∈ frs X.stack, H b = none := fun b hb => by
  rcases List.mem_cons.mp (I.stkSub b hb) with e | hb
  · rw [e]; exact I.free
  · obtain ⟨_, o, ho, _⟩ := I.ok.funs.mem hb
    exact I.base.free b o ho (I.ok.frf b hb) fun z => I.ok.exfs b z hb

/-- THE STEP: the untracked objects but the frame and the records at ch are kept (the callers' frames up to slots), the frame's map is kept, the new abstract heap is held -/
theorem Inv.step {g' : Array GenState} {t' : Nat} {d' : Drawn} {ch : List Addr} (I : Inv X pins σ H s)
    (hch : ∀ b ∈ ch, (b ∈ X.ex ∨ X.s₀.heap.objs.size ≤ b) ∧ b ≠ X.env.locals ∧ (∀ x c, X.env.cells.lookup x = some c → c ≠ b) ∧ ∀ p ∈ X.pn ++ pins, p.1 ≠ b)
    (keep : ∀ b o, b ≠ X.env.locals → b ∉ X.fs → b ∉ ch → s.heap.get? b = some o → H b = none → h'.get? b = some o)
    (slot : ∀ b o, b ≠ X.env.locals → b ∈ X.fs → b ∉ ch → s.heap.get? b = some o → H b = none → ∃ sl, h'.get? b = some { o with slots := sl }) (free : ∀ b o, b ∉ ch → s.heap.get? b = some o → H b = none → H' b = none)
    (there : ∀ b o, b ∉ ch → s.heap.get? b = some o → ∃ o', h'.get? b = some o')
    (tups : ∀ b xs, H b = some (.tup xs) → H' b = some (.tup xs)) (frzs : ∀ b o u, H b = some (.frz o u) → H' b = some (.frz o u)) (tbls : ∀ b ps, H b = some (.tbl ps) → ∃ more, H' b = some (.tbl (ps ++ more)))
    (ns : ∀ m, s.heap.Ns X.env.locals m → h'.Ns X.env.locals m) (hok : HOk X.prog X.w H' h') (hg : AllBare g') :
    Inv X pins σ H' { s with heap := h', gens := g', drawn := d', toks := t' } := by
  have neL : ∀ b o, X.s₀.heap.get? b = some o → b ≠ X.env.locals := fun b o e => Nat.ne_of_lt (Nat.lt_of_lt_of_le (Heap.lt_size e) I.ok.above)
  have neC : ∀ b o, X.s₀.heap.get? b = some o → b ∉ X.ex → b ∉ ch := fun b o e hx hb => by
    rcases (hch b hb).1 with z | z
    · exact hx z
    · exact absurd (Nat.lt_of_lt_of_le (Heap.lt_size e) z) (Nat.lt_irrefl _)
  have cellK : ∀ x c, X.env.cells.lookup x = some c → ∀ v, s.heap.IsCell c v → h'.IsCell c v := fun x c e v ⟨o, ho, hd⟩ => by
    have nch : c ∉ ch := fun z => (hch c z).2.2.1 x c e rfl
    by_cases hc : c ∈ X.fs
    · obtain ⟨sl, q⟩ := slot c o (I.cne x c e) hc nch ho (I.freeC x c e)
      exact ⟨_, q, hd⟩
    · exact ⟨o, keep c o (I.cne x c e) hc nch ho (I.freeC x c e), hd⟩
  refine ⟨I.ok, I.os, hg, ⟨fun b o e n hb hx => ?_, fun b o e n hb hx => ?_, fun b o e n hx => ?_, fun b o e hx => ?_, fun b xs e => tups b xs (I.base.tups b xs e), fun b o xs e => frzs b o xs (I.base.frzs b o xs e), fun b ps e => ?_⟩, ?_, fun x c e => ?_, ?_, fun x c e => ?_, fun p hp => ?_, hok, I.len⟩
  · exact keep b o (neL b o e) hb (neC b o e hx) (I.base.keep b o e n hb hx) (I.base.free b o e n hx)
  · obtain ⟨sl, e1⟩ := I.base.slot b o e n hb hx
    obtain ⟨sl', e2⟩ := slot b _ (neL b o e) hb (neC b o e hx) e1 (I.base.free b o e n hx)
    exact ⟨sl', e2⟩
  · obtain ⟨o', e1⟩ := I.base.there b o e hx
    exact free b o' (neC b o e hx) e1 (I.base.free b o e n hx)
  · obtain ⟨o', e1⟩ := I.base.there b o e hx
    exact there b o' (neC b o e hx) e1
  · obtain ⟨m1, e1⟩ := I.base.tbls b ps e
    obtain ⟨m2, e2⟩ := tbls b _ e1
    exact ⟨m1 ++ m2, by rw [e2, Array.append_assoc]⟩
  · obtain ⟨m, hn, hl⟩ := I.loc
    refine ⟨m, ns m hn, fun i x v e1 e2 e3 => ?_⟩
    obtain ⟨u, r, l⟩ := hl i x v e1 e2 e3
    refine ⟨u, r, ?_⟩
    rcases l with l | ⟨k, c, e, z⟩
    · exact .inl l
    · exact .inr ⟨k, c, e, cellK x c e _ z⟩
  · obtain ⟨v, z⟩ := I.cell x c e
    exact ⟨v, cellK x c e v z⟩
  · obtain ⟨m, ⟨o, _, _, ho, _⟩, _⟩ := I.loc
    exact free _ o (fun z => (hch _ z).2.1 rfl) ho I.free
  · obtain ⟨v, o, ho, hd⟩ := I.cell x c e
    exact free c o (fun z => (hch c z).2.2.1 x c e rfl) ho (I.freeC x c e)
  · obtain ⟨e, n, ne, nf, d⟩ := I.pin p hp
    have nch : p.1 ∉ ch := fun z => (hch p.1 z).2.2.2 p hp rfl
    exact ⟨keep p.1 p.2 ne nf nch e n, free p.1 p.2 nch e n, ne, nf, d⟩
/-- .. where the frame's own object is kept too -/
theorem Inv.un {t' : Nat} (I : Inv X pins σ H s) (u : Un X.fs [] H H' s.heap h') (hok : HOk X.prog X.w H' h') : Inv X pins σ H' { s with heap := h', toks := t' } := by
  obtain ⟨m, ⟨o, es, ep, ho, r⟩, _⟩ := id I.loc
  obtain ⟨sl, hL⟩ := u.any ho I.free (by simp)
  exact I.step (g' := s.gens) (d' := s.drawn) (ch := []) (fun _ z => nomatch z) (fun b o _ hb _ e n => u.keep b o e n hb (by simp)) (fun b o _ hb _ e n => u.slot b o e n hb (by simp)) (fun b o _ e n => u.free b o e n (by simp)) (fun b o _ e => u.there b o e (by simp)) u.tups u.frzs u.tbls (fun m' hm => by
    obtain ⟨o', es', ep', ho', r'⟩ := hm
    rw [ho] at ho'; cases ho'
    exact ⟨_, es', ep', hL, r'⟩) hok I.bare
/-- behind a call (or a comprehension's block): the slots of this frame may have changed too, the records at ch may have turned -/
theorem Inv.call {g' : Array GenState} {t' : Nat} {d' : Drawn} {ch : List Addr} (I : Inv X pins σ H s) (u : Un (frs X.stack) ch H H' s.heap h') (hok : HOk X.prog X.w H' h') (hg : AllBare g')
    (hch : ∀ b ∈ ch, (b ∈ X.ex ∨ X.s₀.heap.objs.size ≤ b) ∧ b ≠ X.env.locals ∧ (∀ x c, X.env.cells.lookup x = some c → c ≠ b) ∧ ∀ p ∈ X.pn ++ pins, p.1 ≠ b) :
    Inv X pins σ H' { s with heap := h', gens := g', drawn := d', toks := t' } := by
  obtain ⟨m, ⟨o, es, ep, ho, r⟩, _⟩ := id I.loc
  obtain ⟨sl, hL⟩ := u.any ho I.free fun z => (hch _ z).2.1 rfl
  exact I.step (ch := ch) hch (fun b o hL hb hc e n => u.keep b o e n (fun z => (List.mem_cons.mp (I.stkSub b z)).elim hL hb) hc) (fun b o _ _ hc e n => u.any e n hc) (fun b o hc e n => u.free b o e n hc) (fun b o hc e => u.there b o e hc) u.tups u.frzs u.tbls (fun m' hm => by
    obtain ⟨o', es', ep', ho', r'⟩ := hm
    rw [ho] at ho'; cases ho'
    exact ⟨_, es', ep', hL, r'⟩) hok hg
/-- an untracked record of ours (an iterator) has turned -/
theorem Inv.turned {t' : Nat} {it : Addr} (I : Inv X pins σ H s) (k : ∀ b o, b ≠ it → s.heap.get? b = some o → h'.get? b = some o) (hn : H it = none) (hL : it ≠ X.env.locals)
    (h1 : it ∈ X.ex ∨ X.s₀.heap.objs.size ≤ it) (h2 : ∀ x c, X.env.cells.lookup x = some c → c ≠ it) (h3 : ∀ p ∈ X.pn ++ pins, p.1 ≠ it) : Inv X pins σ H { s with heap := h', toks := t' } := by
  have nit : ∀ b u, H b = some u → b ≠ it := fun b u e z => by rw [z, hn] at e; cases e
  refine I.step (g' := s.gens) (d' := s.drawn) (ch := [it]) (fun b hb => ?_) (fun b o _ _ hc e _ => k b o (fun z => hc (by simp [z])) e) (fun b o _ _ hc e _ => ⟨o.slots, k b o (fun z => hc (by simp [z])) e⟩) (fun _ _ _ _ n => n)
    (fun b o hc e => ⟨o, k b o (fun z => hc (by simp [z])) e⟩) (fun _ _ e => e) (fun _ _ _ e => e) (fun b ps e => ⟨#[], by rw [e]; simp⟩) (fun m hm => ?_) (fun b u e => ?_) I.bare
  · have e : b = it := by simpa using hb
    subst e
    exact ⟨h1, hL, h2, h3⟩
  · obtain ⟨o, es, ep, ho, r⟩ := hm
    exact ⟨o, es, ep, k _ o (Ne.symm hL) ho, r⟩
  · refine (I.hok b u e).stay (fun c v hc q => k c v ?_ q) (fun _ q => q) fun _ _ q => q
    rcases hc with z | z
    · rw [z]; exact nit b u e
    · exact nit c _ z
theorem Inv.tok (I : Inv X pins σ H s) (t : Nat) : Inv X pins σ H { s with toks := t } := I.un (h' := s.heap) (t' := t) Un.refl I.hok
/-- all objects kept -/
theorem Inv.kept {t' : Nat} (I : Inv X pins σ H s) (k : ∀ b u, s.heap.get? b = some u → h'.get? b = some u) : Inv X pins σ H { s with heap := h', toks := t' } := I.un (Un.kept k) (I.hok.kept k)
/-- a new object laid and tracked -/
theorem Inv.laid {a : Addr} {o : HO} {t' : Nat} (I : Inv X pins σ H s) (k : ∀ b u, s.heap.get? b = some u → h'.get? b = some u) (hp : s.heap.objs.size ≤ a) (new : ObjOk X.prog X.w (upd H a o) h' a o) :
    Inv X pins σ (upd H a o) { s with heap := h', toks := t' } := I.un (Un.laid k hp (I.hok.fresh hp)) (I.hok.laid k hp new)
/-- an object written -/
theorem Inv.write {x e : Addr} {o : HO} {t' : Nat} (I : Inv X pins σ H s) (mu : Mut (H x)) (he : e = x ∨ H e = some (.own x)) (k : ∀ b u, b ≠ e → s.heap.get? b = some u → h'.get? b = some u) (heo : ∃ u, h'.get? e = some u)
    (new : ObjOk X.prog X.w (upd H x o) h' x o) : Inv X pins σ (upd H x o) { s with heap := h', toks := t' } := I.un (Un.write mu he k heo) (I.hok.write mu he k heo new)
theorem Inv.pins_of {pins' : List (Addr × Obj)} (I : Inv X pins σ H s) (h : ∀ p ∈ pins', s.heap.get? p.1 = some p.2 ∧ H p.1 = none ∧ p.1 ≠ X.env.locals ∧ p.1 ∉ X.fs ∧ ∀ v, p.2.data ≠ .cell v) : Inv X pins' σ H s :=
  ⟨I.ok, I.os, I.bare, I.base, I.loc, I.cell, I.free, I.freeC, fun p hp => (List.mem_append.mp hp).elim (fun z => I.pin p (List.mem_append_left _ z)) (h p), I.hok, I.len⟩

theorem nodup_ix {N : List Str} (hN : N.Nodup) {i j : Nat} {x : Str} (a : N[i]? = some x) (b : N[j]? = some x) : i = j := by
  obtain ⟨h1, e1⟩ := List.getElem?_eq_some_iff.mp a
  obtain ⟨h2, e2⟩ := List.getElem?_eq_some_iff.mp b
  exact (List.getElem_inj hN).mp (e1.trans e2.symm)

/-- a name is stored; what changed -/
theorem store_ok2 {M : Model} {A : Around} {E : Value → Shared → Prop} {i : Nat} {x : Str} {v : V} {u : Value} {Q : Unit → Shared → Prop} (I : Inv X pins σ H s) (hN : X.N.Nodup) (hi : X.N[i]? = some x) (hx : Loc X.env.scope x) (r : RelV v u)
    (h : ∀ s', Inv X pins (σ.set i (some v)) H s' → (∃ a, Heap.SameBut a s.heap s'.heap ∧ (a = X.env.locals ∨ X.env.cells.lookup x = some a)) → Q () s') (hf : X.fn x = true ∨ X.env.scope.names.lookup x = some .local := by first | exact .inl rfl | exact .inr rfl | assumption) : wpAny M A (storeName X.env x u) Q E s := by
  obtain ⟨m, hn, hl⟩ := id I.loc
  have hcls : (X.env.scope.kind == .class || (X.env.scope.kind == .module && X.env.locals != X.env.globals)) = false := by rw [I.ok.kind]; rfl
  have hiσ : i < σ.length := by rw [I.len]; exact (List.getElem?_eq_some_iff.mp hi).1
  have cne := I.cne
  have tracked : ∀ {a : Addr} {h' : Heap}, (∃ o, s.heap.get? a = some o ∧ H a = none) → Heap.SameBut a s.heap h' → HOk X.prog X.w H h' := fun {a h'} ha hs b ob e => by
    obtain ⟨_, _, hfree⟩ := ha
    refine (I.hok b ob e).stay (fun c w' hc q => (hs.2 c ?_).trans q) (fun _ q => q) fun _ _ q => q
    rintro rfl
    rcases hc with rfl | hc
    · rw [hfree] at e; cases e
    · rw [hfree] at hc; cases hc
  rcases hx with hk | hk
  · refine wpAny_storeName_local hk hn (fun h' hn' hs => ?_) hcls
    obtain ⟨oL, _, _, hoL, _⟩ := id hn
    refine h _ ⟨I.ok, I.os, I.bare, ⟨fun b o e n hb hx => ?_, fun b o e n hb hx => ?_, I.base.free, fun b o e hx => ?_, I.base.tups, I.base.frzs, I.base.tbls⟩, ⟨_, hn', fun j y v' e1 e2 e3 => ?_⟩, fun y c e => ?_, I.free, I.freeC, fun p hp => ?_, tracked ⟨oL, hoL, I.free⟩ hs, by simpa using I.len⟩ ⟨_, hs, .inl rfl⟩
    · exact (hs.2 b (Nat.ne_of_lt (Nat.lt_of_lt_of_le (Heap.lt_size e) I.ok.above))).trans (I.base.keep b o e n hb hx)
    · obtain ⟨sl, e1⟩ := I.base.slot b o e n hb hx
      exact ⟨sl, (hs.2 b (Nat.ne_of_lt (Nat.lt_of_lt_of_le (Heap.lt_size e) I.ok.above))).trans e1⟩
    · obtain ⟨o', e1⟩ := I.base.there b o e hx
      exact ⟨o', (hs.2 b (Nat.ne_of_lt (Nat.lt_of_lt_of_le (Heap.lt_size e) I.ok.above))).trans e1⟩
    · by_cases hj : j = i
      · subst hj
        rw [hi] at e1; cases e1
        rw [List.getElem?_set_self hiσ] at e2
        cases e2
        exact ⟨u, r, .inl ⟨hk, by simp⟩⟩
      · rw [List.getElem?_set_ne (Ne.symm hj)] at e2
        obtain ⟨u', r', q⟩ := hl j y v' e1 e2 e3
        refine ⟨u', r', ?_⟩
        rcases q with ⟨k, e⟩ | ⟨k, c, e, z⟩
        · refine .inl ⟨k, ?_⟩
          have : y ≠ x := fun e => hj (nodup_ix hN e1 (e ▸ hi))
          simp [this, e]
        · exact .inr ⟨k, c, e, z.sameBut hs (cne y c e)⟩
    · obtain ⟨w', z⟩ := I.cell y c e
      exact ⟨w', z.sameBut hs (cne y c e)⟩
    · obtain ⟨e, n, ne, nf, d⟩ := I.pin p hp
      exact ⟨(hs.2 p.1 ne).trans e, n, ne, nf, d⟩
  · have hfn : X.fn x = true := by
      rcases hf with z | z
      · exact z
      · rw [z] at hk; cases hk
    obtain ⟨c, hc⟩ := I.ok.has x (.inl hk)
    obtain ⟨w', z⟩ := I.cell x c hc
    refine wpAny_storeName_cell I.ok.kind hk hc z (fun h' hc' hs => ?_)
    obtain ⟨oc, hoc, hocd⟩ := id z
    refine h { s with heap := h' } ⟨I.ok, I.os, I.bare, ⟨fun b o e n hb hx => ?_, fun b o e n hb hx => ?_, I.base.free, fun b o e hx => ?_, I.base.tups, I.base.frzs, I.base.tbls⟩, ⟨m, hn.sameBut hs (Ne.symm (cne x c hc)), fun j y v' e1 e2 e3 => ?_⟩, fun y c' e => ?_, I.free, I.freeC, fun p hp => ?_, tracked ⟨oc, hoc, I.freeC x c hc⟩ hs, by simpa using I.len⟩ ⟨c, hs, .inr hc⟩
    · exact (hs.2 b (Nat.ne_of_lt (Nat.lt_of_lt_of_le (Heap.lt_size e) (I.ok.cab x c hfn hc)))).trans (I.base.keep b o e n hb hx)
    · obtain ⟨sl, e1⟩ := I.base.slot b o e n hb hx
      exact ⟨sl, (hs.2 b (Nat.ne_of_lt (Nat.lt_of_lt_of_le (Heap.lt_size e) (I.ok.cab x c hfn hc)))).trans e1⟩
    · obtain ⟨o', e1⟩ := I.base.there b o e hx
      exact ⟨o', (hs.2 b (Nat.ne_of_lt (Nat.lt_of_lt_of_le (Heap.lt_size e) (I.ok.cab x c hfn hc)))).trans e1⟩
    · by_cases hj : j = i
      · subst hj
        rw [hi] at e1; cases e1
        rw [List.getElem?_set_self hiσ] at e2
        cases e2
        exact ⟨u, r, .inr ⟨.inl hk, c, hc, hc'⟩⟩
      · rw [List.getElem?_set_ne (Ne.symm hj)] at e2
        obtain ⟨u', r', q⟩ := hl j y v' e1 e2 e3
        refine ⟨u', r', ?_⟩
        rcases q with q | ⟨k, c', e, z'⟩
        · exact .inl q
        · refine .inr ⟨k, c', e, z'.sameBut hs ?_⟩
          rintro rfl
          exact hj (nodup_ix hN e1 (I.ok.inj _ _ _ e hc ▸ hi))
    · by_cases hcc : c' = c
      · subst hcc; exact ⟨_, hc'⟩
      · obtain ⟨w2, z2⟩ := I.cell y c' e
        exact ⟨w2, z2.sameBut hs hcc⟩
    · obtain ⟨e, n, ne, nf, d⟩ := I.pin p hp
      refine ⟨(hs.2 p.1 ?_).trans e, n, ne, nf, d⟩
      intro q
      rw [q, hoc] at e
      have q' : oc = p.2 := Option.some.inj e
      exact d w' (by rw [← q']; exact hocd)
theorem store_ok {M : Model} {A : Around} {E : Value → Shared → Prop} {i : Nat} {x : Str} {v : V} {u : Value} {Q : Unit → Shared → Prop} (I : Inv X pins σ H s) (hN : X.N.Nodup) (hi : X.N[i]? = some x) (hx : Loc X.env.scope x) (r : RelV v u)
    (h : ∀ s', Inv X pins (σ.set i (some v)) H s' → Q () s') (hf : X.fn x = true ∨ X.env.scope.names.lookup x = some .local := by first | exact .inl rfl | exact .inr rfl | assumption) : wpAny M A (storeName X.env x u) Q E s :=
  store_ok2 I hN hi hx r (fun s' I' _ => h s' I') hf
/-- behind a call or a block, the state as it is -/
theorem Inv.call' {s' : Shared} {ch : List Addr} (I : Inv X pins σ H s) (ho : s'.os = s.os) (u : Un (frs X.stack) ch H H' s.heap s'.heap) (hok : HOk X.prog X.w H' s'.heap) (hg : AllBare s'.gens)
    (hch : ∀ b ∈ ch, (b ∈ X.ex ∨ X.s₀.heap.objs.size ≤ b) ∧ b ≠ X.env.locals ∧ (∀ x c, X.env.cells.lookup x = some c → c ≠ b) ∧ ∀ p ∈ X.pn ++ pins, p.1 ≠ b) : Inv X pins σ H' s' := by
  obtain ⟨h', g', d', t', o'⟩ := s'
  have e : o' = s.os := ho
  subst e
  exact I.call (g' := g') (t' := t') (d' := d') u hok hg hch
end

/-! ### the judgements -/
/-- an exception: its class, its own dict's address (where it has one), the abstract heap behind it -/
abbrev XK := Value → Option Addr → Hp → Prop
abbrev St := List (Option V)
abbrev VK := V → Hp → Prop
/-- an expression's reading; a test's; an argument list's -/
abbrev TE := St → Hp → VK → Prop
abbrev TT := St → Hp → (Bool → Hp → Prop) → Prop
abbrev TA := St → Hp → (List V → Hp → Prop) → Prop
/-- what is wanted behind a statement -/
structure Ends where
  nx : St → Hp → Prop
  rt : VK
  bk : St → Hp → Prop := fun _ _ => False
  ct : St → Hp → Prop := fun _ _ => False
abbrev TS := Ends → St → Hp → Prop

def EP (X : Cx) (pins : List (Addr × Obj)) (σ : St) (Q : VK) (u : Value) (s' : Shared) : Prop := ∃ v H', Inv X pins σ H' s' ∧ RelV v u ∧ Q v H'
def TP (X : Cx) (pins : List (Addr × Obj)) (σ : St) (Q : Bool → Hp → Prop) (b : Bool) (s' : Shared) : Prop := ∃ H', Inv X pins σ H' s' ∧ Q b H'
def AP (X : Cx) (pins : List (Addr × Obj)) (σ : St) (Q : List V → Hp → Prop) (us : List Value) (s' : Shared) : Prop := ∃ vs H', Inv X pins σ H' s' ∧ Vals vs us ∧ Q vs H'
def SP (X : Cx) (pins : List (Addr × Obj)) (D : Ends) (f : Flow) (s' : Shared) : Prop :=
  match f with
  | .next => ∃ σ' H', Inv X pins σ' H' s' ∧ D.nx σ' H'
  | .brk => ∃ σ' H', Inv X pins σ' H' s' ∧ D.bk σ' H'
  | .cont => ∃ σ' H', Inv X pins σ' H' s' ∧ D.ct σ' H'
  | .ret u => ∃ v σ' H', Inv X pins σ' H' s' ∧ RelV v u ∧ D.rt v H'

def PE (X : Cx) (e : Expr) (t : TE) : Prop :=
  ∀ (pins : List (Addr × Obj)) (s : Shared) (σ : St) (H : Hp) (Q : VK), Inv X pins σ H s → t σ H Q → wpAny (model X.prog X.w) X.A (eval e X.env) (EP X pins σ Q) X.xe s
def PT (X : Cx) (e : Expr) (t : TT) : Prop :=
  ∀ (pins : List (Addr × Obj)) (s : Shared) (σ : St) (H : Hp) (Q : Bool → Hp → Prop), Inv X pins σ H s → t σ H Q → wpAny (model X.prog X.w) X.A (isTrue e X.env (eval e X.env)) (TP X pins σ Q) X.xe s
/-- a test whatever its 'whole' is (and, or) -/
def PW (X : Cx) (e : Expr) (t : TT) : Prop :=
  ∀ (whole : Sem Value) (pins : List (Addr × Obj)) (s : Shared) (σ : St) (H : Hp) (Q : Bool → Hp → Prop), Inv X pins σ H s → t σ H Q → wpAny (model X.prog X.w) X.A (isTrue e X.env whole) (TP X pins σ Q) X.xe s
theorem PW.pt {X : Cx} {e : Expr} {t : TT} (h : PW X e t) : PT X e t := h _
/-- an argument list (no star), from the left -/
def PA (X : Cx) (es : List Expr) (t : TA) : Prop :=
  ∀ (pos : Pos) (pins : List (Addr × Obj)) (s : Shared) (σ : St) (H : Hp) (Q : List V → Hp → Prop), Inv X pins σ H s → t σ H Q → wpAny (model X.prog X.w) X.A (spliced (backTo pos (starEach es X.env))) (AP X pins σ Q) X.xe s
def PS (X : Cx) (st : Stmt) (t : TS) : Prop :=
  ∀ (pins : List (Addr × Obj)) (s : Shared) (σ : St) (H : Hp) (D : Ends), Inv X pins σ H s → t D σ H → wpAny (model X.prog X.w) X.A (exec st X.env) (SP X pins D) X.xe s
def PSs (X : Cx) (st : List Stmt) (t : TS) : Prop :=
  ∀ (pins : List (Addr × Obj)) (s : Shared) (σ : St) (H : Hp) (D : Ends), Inv X pins σ H s → t D σ H → wpAny (model X.prog X.w) X.A (execs st X.env) (SP X pins D) X.xe s
/-- weaken the end -/
theorem thn {α : Type} {t : Sem α} {Q Q' : α → Shared → Prop} {M : Model} {A : Around} {E : Value → Shared → Prop} {s : Shared} (h : wpAny M A t Q E s) (hQ : ∀ a s, Q a s → Q' a s) : wpAny M A t Q' E s := wpAny_mono h hQ fun _ _ x => x
end L2

namespace L2
open PySem PySem.Spec PyProof.Rows
section
variable {X : Cx}

/-! ### names and constants -/
def tVar (i : Nat) : TE := fun σ H Q => ∃ v, σ[i]? = some (some v) ∧ Q v H
def tC (v : V) : TE := fun _ H Q => Q v H
theorem pe_var {i : Nat} {x : Str} {pos : Pos} (hN : X.N[i]? = some x) (hv : Vis X.env.scope x) (hd : (x == ("__debug__" : Str)) = false := by decide) (hcd : (x == ("__classdict__" : Str)) = false := by decide) : PE X (.Name x pos) (tVar i) := by
  intro pins s σ H Q I h
  obtain ⟨v, e, h⟩ := h
  obtain ⟨m, hn, hl⟩ := I.loc
  obtain ⟨u, r, l⟩ := hl i x v hN e hv
  have fin : EP X pins σ Q u s := ⟨v, H, I, r, h⟩
  rcases l with ⟨hk, hm⟩ | ⟨hk, c, hc, hcell⟩
  · exact wpAny_Name (wpAny_loadName_local I.ok.kind hk hn hm fin) hd
  · rcases hk with hk | hk
    · exact wpAny_Name (wpAny_loadName_cell I.ok.kind hk hc hcell fin) hd
    · exact wpAny_Name (wpAny_loadName_free I.ok.kind hk hc hcell fin hcd) hd
theorem pe_int {i j pos} : PE X (.Constant (.int i) j pos) (tC (.int i)) := fun _ _ _ H _ I h => wpAny_Constant_int ⟨.int i, H, I.tok _, ⟨_, rfl⟩, h⟩
theorem pe_bl {b j pos} : PE X (.Constant (.bool b) j pos) (tC (.bl b)) := fun _ _ _ H _ I h => Constant_bool ⟨.bl b, H, I, rfl, h⟩
/-- a global name of the def -/
def Gl (X : Cx) (x : Str) : Prop := X.env.kindOf x = some .globalImplicit
theorem ld_glob {E : Value → Shared → Prop} {pins : List (Addr × Obj)} {s : Shared} {σ : St} {H : Hp} {x : Str} {u : Value} {pos : Pos} {Q : Value → Shared → Prop} (I : Inv X pins σ H s) (hg : Gl X x) (hm : X.mg x = some u) (h : Q u s)
    (hd : (x == ("__debug__" : Str)) = false := by decide) : wpAny (model X.prog X.w) X.A (eval (.Name x pos) X.env) Q E s :=
  Calls.Name_function_global I.ok.kind hg (Calls.loadGlobal_global (by rw [I.ok.glob]; exact I.mod.glob.keeps I.bk) hm h) hd
theorem ld_blt {E : Value → Shared → Prop} {pins : List (Addr × Obj)} {s : Shared} {σ : St} {H : Hp} {x : Str} {u : Value} {pos : Pos} {Q : Value → Shared → Prop} (I : Inv X pins σ H s) (hg : Gl X x) (hm : X.mg x = none) (hv : bootBuiltins x = some u) (h : Q u s)
    (hn : x ≠ "__name__" := by decide) (hd : (x == ("__debug__" : Str)) = false := by decide) : wpAny (model X.prog X.w) X.A (eval (.Name x pos) X.env) Q E s := by
  obtain ⟨mb, h1, h2⟩ := I.mod.blt
  exact Calls.Name_function_global I.ok.kind hg (Calls.loadGlobal_builtin (by rw [I.ok.glob]; exact I.mod.glob.keeps I.bk) hm (by rw [I.ok.blt]; exact h1.keeps I.bk) ((h2 x hn).trans hv) h) hd
theorem pe_bltn {x : Str} {v : V} {u : Value} {pos : Pos} (hg : Gl X x) (hm : X.mg x = none) (hv : bootBuiltins x = some u) (r : RelV v u) (hn : x ≠ "__name__" := by decide) (hd : (x == ("__debug__" : Str)) = false := by decide) : PE X (.Name x pos) (tC v) :=
  fun _ _ _ H _ I h => ld_blt I hg hm hv ⟨v, H, I, r, h⟩ hn hd

/-! ### arithmetic -/
variable {a b : Expr} {ta tb : TE} {pos : Pos}
/-! ### comparisons -/
def PC (X : Cx) (op : CmpOp) (a b : Expr) (t : TE) : Prop :=
  ∀ (pins : List (Addr × Obj)) (s : Shared) (σ : St) (H : Hp) (Q : VK), Inv X pins σ H s → t σ H Q →
    wpAny (model X.prog X.w) X.A (eval a X.env) (fun v s₁ => wpAny (model X.prog X.w) X.A (eval b X.env) (fun u s₂ => wpAny (model X.prog X.w) X.A (compareOp op v u) (EP X pins σ Q) X.xe s₂) X.xe s₁) X.xe s
theorem nobehind (b : Expr) {op : CmpOp} (h : op ≠ .In) (h2 : op ≠ .NotIn) : behindInMarks op b = false := by
  have e1 : (op == CmpOp.In) = false := by cases op <;> first | rfl | exact absurd rfl h
  have e2 : (op == CmpOp.NotIn) = false := by cases op <;> first | rfl | exact absurd rfl h2
  cases b <;> simp [behindInMarks, e1, e2]
/-- is None -/
def tIsN (ta : TE) : TE := fun σ H Q => ta σ H fun x H1 => Q (.bl (decide (x = .non))) H1
theorem RelV.none_iff {x : V} {v : Value} (r : RelV x v) : (v == Value.none) = decide (x = .non) := by
  cases x with
  | non => cases r; rfl
  | bl _ => cases r; rfl
  | int _ => obtain ⟨t, rfl⟩ := r; rfl
  | str _ => obtain ⟨t, rfl⟩ := r; rfl
  | byt _ => obtain ⟨t, rfl⟩ := r; rfl
  | flt _ => obtain ⟨t, rfl⟩ := r; rfl
  | ref _ => cases r; rfl
  | ty _ => cases r; rfl
theorem pc_isN {j pos'} (ha : PE X a ta) : PC X .Is a (.Constant .none j pos') (tIsN ta) := by
  intro pins s σ H Q I h
  refine thn (ha pins s σ H _ I h) fun v s1 ⟨x, H1, I1, r1, q1⟩ => ?_
  exact Constant_none (is_none_gen ⟨.bl _, H1, I1, by rw [r1.none_iff]; rfl, q1⟩)
/-- a comparison as a value, as a test -/
def tB (t : TE) : TT := fun σ H Q => t σ H fun x H1 => ∃ c, x = .bl c ∧ Q c H1
theorem pe_cmp {op : CmpOp} {t : TE} (h : PC X op a b t) (h1 : behindInMarks op b = false := by first | exact nobehind _ (by decide) (by decide) | rfl) : PE X (.Compare a [op] [b] pos) t := fun pins s σ H Q I hw => wpAny_Compare1 (h pins s σ H Q I hw) h1
theorem pt_cmp {op : CmpOp} {t : TE} (h : PC X op a b t) (h1 : behindInMarks op b = false := by first | exact nobehind _ (by decide) (by decide) | rfl) : PT X (.Compare a [op] [b] pos) (tB t) := by
  intro pins s σ H Q I hw
  refine wpAny_isTrue_Compare1 (thn (h pins s σ H _ I hw) fun v s1 h1 => thn h1 fun u s2 h2 => thn h2 fun c s3 ⟨x, H1, I1, r1, q1⟩ => ?_) h1
  obtain ⟨d, rfl, q⟩ := q1
  cases r1
  exact wpAny_truthy_bool ⟨H1, I1, q⟩
/-- an expression whose value is a bool, as a test -/
theorem pt_val {e : Expr} {t : TE} (h : PE X e t) (he : ∀ whole, isTrue e X.env whole = (do let v ← whole; standAt e.pos; holding [v] (truthy v)) := by intro _; rfl) : PT X e (tB t) := by
  intro pins s σ H Q I hw
  refine isTrue_plain (thn (h pins s σ H _ I hw) fun v s1 ⟨x, H1, I1, r1, q1⟩ => ?_) (he _)
  obtain ⟨d, rfl, q⟩ := q1
  cases r1
  exact wpAny_truthy_bool ⟨H1, I1, q⟩

/-! ### and, or, not -/
variable {tA tB' : TT} {rest : List Expr}
def tAnd (t u : TT) : TT := fun σ H Q => t σ H fun c H1 => if c = true then u σ H1 Q else Q false H1
def tOr (t u : TT) : TT := fun σ H Q => t σ H fun c H1 => if c = true then Q true H1 else u σ H1 Q
def tNot (t : TT) : TT := fun σ H Q => t σ H fun c H1 => Q (!c) H1
theorem pw_and1 (ha : PT X a tA) : PW X (.BoolOp .And [a] pos) tA := by
  intro wh pins s σ H Q I h
  refine isTrue_and (thn (ha pins s σ H Q I h) fun c s1 e => ?_)
  cases c with
  | true => exact isTrue_and_nil e
  | false => exact e
theorem pw_or1 (ha : PT X a tA) : PW X (.BoolOp .Or [a] pos) tA := by
  intro wh pins s σ H Q I h
  refine isTrue_or (thn (ha pins s σ H Q I h) fun c s1 e => ?_)
  cases c with
  | false => exact isTrue_or_nil e
  | true => exact e
theorem pw_and (ha : PT X a tA) (hb : PW X (.BoolOp .And (b :: rest) pos) tB') : PW X (.BoolOp .And (a :: b :: rest) pos) (tAnd tA tB') := by
  intro wh pins s σ H Q I h
  refine isTrue_and (thn (ha pins s σ H _ I h) fun c s1 ⟨H1, I1, q1⟩ => ?_)
  cases c with
  | true => exact hb wh pins s1 σ H1 Q I1 q1
  | false => exact ⟨H1, I1, q1⟩
theorem pw_or (ha : PT X a tA) (hb : PW X (.BoolOp .Or (b :: rest) pos) tB') : PW X (.BoolOp .Or (a :: b :: rest) pos) (tOr tA tB') := by
  intro wh pins s σ H Q I h
  refine isTrue_or (thn (ha pins s σ H _ I h) fun c s1 ⟨H1, I1, q1⟩ => ?_)
  cases c with
  | true => exact ⟨H1, I1, q1⟩
  | false => exact hb wh pins s1 σ H1 Q I1 q1
theorem pt_not (ha : PT X a tA) : PT X (.UnaryOp .Not a pos) (tNot tA) := by
  intro pins s σ H Q I h
  exact isTrue_not (ha pins s σ H (fun c H1 => Q (!c) H1) I h)
/-- .. as values (bools) -/
def tAndV (ta tb : TE) : TE := fun σ H Q => ta σ H fun x H1 => ∃ c, x = .bl c ∧ if c = true then tb σ H1 Q else Q (.bl false) H1
def tNotV (ta : TE) : TE := fun σ H Q => ta σ H fun x H1 => ∃ c, x = .bl c ∧ Q (.bl (!c)) H1
theorem pe_one {op} {t : TE} (h : PE X a t) : PE X (.BoolOp op [a] pos) t := fun pins s σ H Q I hw => BoolOp_one (h pins s σ H Q I hw)
theorem pe_and (ha : PE X a ta) (hb : PE X (.BoolOp .And (b :: rest) pos) tb) : PE X (.BoolOp .And (a :: b :: rest) pos) (tAndV ta tb) := by
  intro pins s σ H Q I h
  refine BoolOp_and (thn (ha pins s σ H _ I h) fun v s1 ⟨x, H1, I1, r1, q1⟩ => ?_)
  obtain ⟨c, rfl, q1⟩ := q1
  cases r1
  refine wpAny_truthy_bool ?_
  cases c with
  | true => exact hb pins s1 σ H1 Q I1 q1
  | false => exact ⟨.bl false, H1, I1, rfl, q1⟩
theorem pe_not (ha : PE X a ta) : PE X (.UnaryOp .Not a pos) (tNotV ta) := by
  intro pins s σ H Q I h
  refine UnaryOp_ (thn (ha pins s σ H _ I h) fun v s1 ⟨x, H1, I1, r1, q1⟩ => ?_)
  obtain ⟨c, rfl, q1⟩ := q1
  cases r1
  exact not_of (wpAny_truthy_bool ⟨.bl (!c), H1, I1, rfl, q1⟩)
end
end L2

namespace L2
open PySem PySem.Spec PyProof.Rows

/-! ### a list, a tuple that is read: tracked, frozen, or an object of the module -/
def SqL (K : PySem.W.Frag) (H : Hp) (a : Addr) (xs : List V) : Prop :=
  Rd H a (.lst xs) ∨
    ∃ (o : Obj) (its : Array Value) (n : Nat), K.lookup a = some o ∧ o.cls = .type "list" ∧ o.dict = none ∧ o.data = .seq its n ∧ its.size ≤ sizeLine ∧ Vals xs its.toList
def SqT (K : PySem.W.Frag) (H : Hp) (a : Addr) (xs : List V) : Prop :=
  Rd H a (.tup xs) ∨
    ∃ (o : Obj) (its : Array Value) (n : Nat), K.lookup a = some o ∧ o.cls = .type "tuple" ∧ o.data = .seq its n ∧ its.size ≤ sizeLine ∧ Vals xs its.toList
def absV : Value → Option V
  | .none => some .non
  | .bool b => some (.bl b)
  | .int i _ => some (.int i)
  | .str x _ => some (.str x)
  | .bytes b _ => some (.byt b)
  | .float b _ => some (.flt b)
  | .ref a => some (.ref a)
  | .type n => some (.ty n)
  | _ => none
theorem RelV.abs {x : V} {u : Value} (r : RelV x u) : absV u = some x := by
  cases x with
  | non => cases r; rfl
  | bl _ => cases r; rfl
  | int _ => obtain ⟨t, rfl⟩ := r; rfl
  | str _ => obtain ⟨t, rfl⟩ := r; rfl
  | byt _ => obtain ⟨t, rfl⟩ := r; rfl
  | flt _ => obtain ⟨t, rfl⟩ := r; rfl
  | ref _ => cases r; rfl
  | ty _ => cases r; rfl
theorem RelV.inj {x y : V} {u : Value} (r : RelV x u) (q : RelV y u) : x = y := Option.some.inj (r.abs.symm.trans q.abs)
theorem Vals.inj : ∀ {xs ys : List V} {us : List Value}, Vals xs us → Vals ys us → xs = ys
  | _, _, _, .nil, .nil => rfl
  | _, _, _, .cons r t, .cons r' t' => by rw [r.inj r', Vals.inj t t']
section
variable {X : Cx} {pins : List (Addr × Obj)} {σ : St} {H : Hp} {s : Shared} {a : Addr} {xs ys : List V}
theorem SqL.of {K : PySem.W.Frag} (h : H a = some (.lst xs)) : SqL K H a xs := .inl (.inl h)
theorem SqT.of {K : PySem.W.Frag} (h : H a = some (.tup xs)) : SqT K H a xs := .inl (.inl h)
theorem Inv.list (I : Inv X pins σ H s) (h : SqL X.K H a xs) : ∃ its : List Value, Vals xs its ∧ PlainL s.heap a its.toArray ∧ xs.length ≤ sizeLine := by
  rcases h with h | ⟨o, its, n, hk, hc, hd, hs, hz, r⟩
  · obtain ⟨z, its, n, r, e⟩ := h.ok I.hok
    exact ⟨its, r, ⟨_, n, e, rfl, rfl, rfl⟩, z⟩
  · refine ⟨its.toList, r, ⟨o, n, I.kIn a o hk, hc, hd, by simpa using hs⟩, ?_⟩
    have e := r.length
    simp only [Array.length_toList] at e
    omega
theorem Inv.tuple (I : Inv X pins σ H s) (h : SqT X.K H a xs) : ∃ its : List Value, Vals xs its ∧ IsTup s.heap a its.toArray ∧ xs.length ≤ sizeLine := by
  rcases h with h | ⟨o, its, n, hk, hc, hs, hz, r⟩
  · obtain ⟨z, its, r, p⟩ := h.ok I.hok
    exact ⟨its, r, p, z⟩
  · refine ⟨its.toList, r, ⟨o, I.kIn a o hk, hc, n, by simpa using hs⟩, ?_⟩
    have e := r.length
    simp only [Array.length_toList] at e
    omega
theorem Inv.list_inj (I : Inv X pins σ H s) (h : SqL X.K H a xs) (h' : SqL X.K H a ys) : xs = ys := by
  obtain ⟨its, r, ⟨o, n, e, _, _, d⟩, _⟩ := I.list h
  obtain ⟨its', r', ⟨o', n', e', _, _, d'⟩, _⟩ := I.list h'
  rw [e] at e'; cases e'
  rw [d] at d'
  injection d' with d1 _
  have : its = its' := by simpa using congrArg Array.toList d1
  subst this
  exact r.inj r'
theorem Inv.tuple_inj (I : Inv X pins σ H s) (h : SqT X.K H a xs) (h' : SqT X.K H a ys) : xs = ys := by
  obtain ⟨its, r, ⟨o, e, _, n, d⟩, _⟩ := I.tuple h
  obtain ⟨its', r', ⟨o', e', _, n', d'⟩, _⟩ := I.tuple h'
  rw [e] at e'; cases e'
  rw [d] at d'
  injection d' with d1 _
  have : its = its' := by simpa using congrArg Array.toList d1
  subst this
  exact r.inj r'
end

/-! ### another wish about exceptions -/
abbrev Cx.wish (X : Cx) (E : Value → Shared → Prop) : Cx := { X with xe := E }
/-- no exception leaves -/
abbrev Cx.nox (X : Cx) : Cx := X.wish fun _ _ => False
theorem Cx.Ok.wish {X : Cx} (ok : X.Ok) (E : Value → Shared → Prop) : (X.wish E).Ok :=
  ⟨ok.mod, ok.kind, ok.glob, ok.blt, ok.above, ok.inj, ok.has, ok.cab, ok.hd, ok.frames, ok.stk, ok.exf, ok.bs, ok.bsz, ok.noex, ok.exfs, ok.funs, ok.frf⟩
theorem Cx.Ok.unwish {X : Cx} {E : Value → Shared → Prop} (ok : (X.wish E).Ok) : X.Ok :=
  ⟨ok.mod, ok.kind, ok.glob, ok.blt, ok.above, ok.inj, ok.has, ok.cab, ok.hd, ok.frames, ok.stk, ok.exf, ok.bs, ok.bsz, ok.noex, ok.exfs, ok.funs, ok.frf⟩
section
variable {X : Cx} {pins : List (Addr × Obj)} {σ : St} {H : Hp} {s : Shared} {E : Value → Shared → Prop}
theorem Inv.wish (I : Inv X pins σ H s) (E : Value → Shared → Prop) : Inv (X.wish E) pins σ H s := ⟨I.ok.wish E, I.os, I.bare, I.base, I.loc, I.cell, I.free, I.freeC, I.pin, I.hok, I.len⟩
theorem Inv.unwish (I : Inv (X.wish E) pins σ H s) : Inv X pins σ H s := ⟨I.ok.unwish, I.os, I.bare, I.base, I.loc, I.cell, I.free, I.freeC, I.pin, I.hok, I.len⟩
theorem SP.unwish {D : Ends} {f : Flow} {s' : Shared} (h : SP (X.wish E) pins D f s') : SP X pins D f s' := by
  cases f with
  | next => obtain ⟨σ', H', I, q⟩ := h; exact ⟨σ', H', I.unwish, q⟩
  | brk => obtain ⟨σ', H', I, q⟩ := h; exact ⟨σ', H', I.unwish, q⟩
  | cont => obtain ⟨σ', H', I, q⟩ := h; exact ⟨σ', H', I.unwish, q⟩
  | ret u => obtain ⟨v, σ', H', I, r, q⟩ := h; exact ⟨v, σ', H', I.unwish, r, q⟩
theorem PE.nox {e : Expr} {t : TE} (h : PE X.nox e t) : PE X e t := fun pins s σ H Q I hw =>
  wpAny_mono (h pins s σ H Q (I.wish _) hw) (fun _ _ ⟨v, H', I', r, q⟩ => ⟨v, H', I'.unwish, r, q⟩) fun _ _ z => False.elim z
theorem PT.nox {e : Expr} {t : TT} (h : PT X.nox e t) : PT X e t := fun pins s σ H Q I hw =>
  wpAny_mono (h pins s σ H Q (I.wish _) hw) (fun _ _ ⟨H', I', q⟩ => ⟨H', I'.unwish, q⟩) fun _ _ z => False.elim z
theorem PSs.nox {st : List Stmt} {t : TS} (h : PSs X.nox st t) : PSs X st t := fun pins s σ H D I hw =>
  wpAny_mono (h pins s σ H D (I.wish _) hw) (fun _ _ q => q.unwish) fun _ _ z => False.elim z
end

/-! ### blocks and small statements -/
section
variable {X : Cx} {st : Stmt} {rest : List Stmt} {t u : TS} {e : Expr} {te : TE} {pos : Pos}
def tNext : TS := fun D σ H => D.nx σ H
def tSeq (t u : TS) : TS := fun D σ H => t { D with nx := u D } σ H
theorem pss_nil : PSs X [] tNext := fun _ _ σ H _ I h => wpAny_execs_nil ⟨σ, H, I, h⟩
theorem pss_cons (h1 : PS X st t) (h2 : PSs X rest u) : PSs X (st :: rest) (tSeq t u) := by
  intro pins s σ H D I h
  refine wpAny_execs_cons (thn (h1 pins s σ H { D with nx := u D } I h) fun f s1 q => ?_)
  cases f with
  | next =>
    obtain ⟨σ', H', I', q⟩ := q
    exact h2 pins s1 σ' H' D I' q
  | ret v => exact q
  | brk => exact q
  | cont => exact q
theorem pss_one (h1 : PS X st t) : PSs X [st] t := by
  intro pins s σ H D I h
  refine wpAny_execs_cons (thn (h1 pins s σ H D I h) fun f s1 q => ?_)
  cases f with
  | next => exact wpAny_execs_nil q
  | ret v => exact q
  | brk => exact q
  | cont => exact q
def tCont : TS := fun D σ H => D.ct σ H
theorem ps_continue : PS X (.Continue pos) tCont := fun _ _ σ H _ I h => wpAny_Continue ⟨σ, H, I, h⟩
/-- in a def's body nothing is shown -/
theorem Inv.quiet {pins : List (Addr × Obj)} {σ : St} {H : Hp} {s : Shared} (I : Inv X pins σ H s) : interactive X.env = false := by simp [interactive, I.ok.kind]
/-- an expression whose value is dropped -/
def tDrop (te : TE) : TS := fun D σ H => te σ H fun _ H1 => D.nx σ H1
theorem ps_expr (he : PE X e te) (hs : swapsWith e none pos.line X.env = pure false := by rfl) : PS X (.Expr e pos) (tDrop te) := by
  intro pins s σ H D I h
  exact wpAny_Expr_any (thn (he pins s σ H _ I h) fun v s1 ⟨x, H1, I1, r1, q1⟩ => ⟨σ, H1, I1, q1⟩) I.quiet hs
def tRet (te : TE) : TS := fun D σ H => te σ H D.rt
theorem ps_ret (he : PE X e te) : PS X (.Return (some e) pos) (tRet te) := by
  intro pins s σ H D I h
  exact wpAny_Return_some (thn (he pins s σ H _ I h) fun v s1 ⟨x, H1, I1, r1, q1⟩ => ⟨x, σ, H1, I1, r1, q1⟩)
def tIfS (c : TT) (t u : TS) : TS := fun D σ H => c σ H fun b H1 => if b = true then t D σ H1 else u D σ H1
theorem ps_if {c : Expr} {a b : List Stmt} {tc : TT} (hc : PT X c tc) (ha : PSs X a t) (hb : PSs X b u) : PS X (.If c a b pos) (tIfS tc t u) := by
  intro pins s σ H D I h
  refine wpAny_If (thn (hc pins s σ H _ I h) fun d s1 ⟨H1, I1, q1⟩ => ?_)
  cases d with
  | true => exact ha pins s1 σ H1 D I1 q1
  | false => exact hb pins s1 σ H1 D I1 q1
end

/-! ### targets -/
abbrev TG := V → St → Hp → (St → Hp → Prop) → Prop
abbrev TGs := List V → St → Hp → (St → Hp → Prop) → Prop
def PG (X : Cx) (target : Expr) (t : TG) : Prop :=
  ∀ (pins : List (Addr × Obj)) (s : Shared) (σ : St) (H : Hp) (v : V) (u : Value) (Q : St → Hp → Prop), Inv X pins σ H s → RelV v u → t v σ H Q →
    wpAny (model X.prog X.w) X.A (assign target X.env u) (fun _ s' => ∃ σ' H', Inv X pins σ' H' s' ∧ Q σ' H') X.xe s
/-- several targets, one after another -/
def PGs (X : Cx) (ts : List Expr) (t : TGs) : Prop :=
  ∀ (pins : List (Addr × Obj)) (s : Shared) (σ : St) (H : Hp) (vs : List V) (us : List Value) (Q : St → Hp → Prop), Inv X pins σ H s → Vals vs us → t vs σ H Q →
    wpAny (model X.prog X.w) X.A (assignInOrder ((assignEach ts X.env).map (·.2)) us) (fun _ s' => ∃ σ' H', Inv X pins σ' H' s' ∧ Q σ' H') X.xe s
/-- o[i] = v, by values -/
abbrev TSet := V → V → V → Hp → (Hp → Prop) → Prop
def PSet (X : Cx) (t : TSet) : Prop :=
  ∀ (pins : List (Addr × Obj)) (s : Shared) (σ : St) (H : Hp) (o i v : V) (ov iv u : Value) (Q : Hp → Prop), Inv X pins σ H s → RelV o ov → RelV i iv → RelV v u → t o i v H Q →
    wpAny (model X.prog X.w) X.A (setItem ov iv u) (fun _ s' => ∃ H', Inv X pins σ H' s' ∧ Q H') X.xe s
/-- a op= b, by values -/
abbrev TIp := V → V → Hp → VK → Prop
def PIp (X : Cx) (op : Operator) (t : TIp) : Prop :=
  ∀ (pins : List (Addr × Obj)) (s : Shared) (σ : St) (H : Hp) (x y : V) (v u : Value) (Q : VK), Inv X pins σ H s → RelV x v → RelV y u → t x y H Q →
    wpAny (model X.prog X.w) X.A (inplaceOp op v u) (EP X pins σ Q) X.xe s
section
variable {X : Cx} {pos : Pos}
def gName (i : Nat) : TG := fun v σ H Q => Q (σ.set i (some v)) H
theorem pg_name {i : Nat} {x : Str} (hN : X.N.Nodup) (hi : X.N[i]? = some x) (hx : Loc X.env.scope x) (hf : X.fn x = true ∨ X.env.scope.names.lookup x = some .local := by first | exact .inl rfl | exact .inr rfl | assumption) : PG X (.Name x pos) (gName i) := by
  intro pins s σ H v u Q I r h
  exact wpAny_assign_Name (store_ok I hN hi hx r (fun s' I' => ⟨_, H, I', h⟩) hf)
def gNil : TGs := fun vs σ H Q => vs = [] ∧ Q σ H
def gCons (t : TG) (u : TGs) : TGs := fun vs σ H Q => ∃ v r, vs = v :: r ∧ t v σ H fun σ' H' => u r σ' H' Q
theorem pgs_nil : PGs X [] gNil := by
  intro pins s σ H vs us Q I r h
  obtain ⟨e, h⟩ := h
  subst e
  cases r
  exact assignInOrder_nil ⟨σ, H, I, h⟩
theorem pgs_cons {e : Expr} {es : List Expr} {t : TG} {u : TGs} (h1 : PG X e t) (h2 : PGs X es u)
    (hs : (assignEach (e :: es) X.env).map (·.2) = assign e X.env :: (assignEach es X.env).map (·.2) := by rfl) : PGs X (e :: es) (gCons t u) := by
  intro pins s σ H vs us Q I r h
  obtain ⟨v, vr, e1, h⟩ := h
  subst e1
  cases r with
  | cons r rr =>
    rw [hs]
    refine assignInOrder_cons (thn (h1 pins s σ H _ _ _ I r h) fun _ s1 ⟨σ1, H1, I1, q1⟩ => ?_)
    exact h2 pins s1 σ1 H1 _ _ Q I1 rr q1
/-- (a, b, ..) = a tuple of that length -/
def gTup (K : PySem.W.Frag) (n : Nat) (t : TGs) : TG := fun v σ H Q => ∃ a xs, v = .ref a ∧ SqT K H a xs ∧ xs.length = n ∧ t xs σ H Q
theorem pg_tup {es : List Expr} {k : Nat} {t : TGs} {n : Nat} (hc : X.calm = true) (h : PGs X es t)
    (hn : (assignEach es X.env).length = n := by rfl) (hst : (assignEach es X.env).findIdx? (·.1) = none := by rfl) : PG X (.Tuple es k pos) (gTup X.K n t) := by
  intro pins s σ H v u Q I r hw
  obtain ⟨a, xs, e1, hq, hl, hw⟩ := hw
  subst e1
  cases r
  obtain ⟨its, rv, ht, hz⟩ := I.tuple hq
  refine assign_Tuple_tuple (I.ok.hd hc) ht (by simp [hn, ← hl, rv.length]) hst fun h' hx => ?_
  have I1 : Inv X pins σ H { s with heap := h' } := I.kept (t' := s.toks) fun b o e => hx b o (Nat.ne_of_lt (Heap.lt_size e)) e
  exact h pins _ σ H xs _ Q I1 (by simpa using rv) hw
/-- o[i] = .. -/
def gSub (to ti : TE) (t : TSet) : TG := fun v σ H Q => to σ H fun o H1 => ti σ H1 fun i H2 => t o i v H2 fun H3 => Q σ H3
theorem pg_sub {o i : Expr} {to ti : TE} {t : TSet} (ho : PE X o to) (hi : PE X i ti) (hs : PSet X t)
    (ha : ∀ v, assign (.Subscript o i pos) X.env v = (do
      let ov ← holding [v] (eval o X.env)
      let iv ← holding [v, ov] (eval i X.env)
      standAt pos
      holding [v, ov, iv] (setItem ov iv v)
      release [v, ov, iv] []) := by intro _; rfl) : PG X (.Subscript o i pos) (gSub to ti t) := by
  intro pins s σ H v u Q I r h
  rw [ha]
  refine wpAny_bind (wpAny_holding (thn (ho pins s σ H _ I h) fun ov s1 ⟨x, H1, I1, r1, q1⟩ => ?_))
  refine wpAny_bind (wpAny_holding (thn (hi pins s1 σ H1 _ I1 q1) fun iv s2 ⟨y, H2, I2, r2, q2⟩ => ?_))
  refine wpAny_bind (wpAny_standAt (wpAny_bind (wpAny_holding (thn (hs pins s2 σ H2 x y v ov iv u _ I2 r1 r2 r q2) fun _ s3 ⟨H3, I3, q3⟩ => ?_))))
  exact wpAny_release ⟨σ, H3, I3, q3⟩
/-- target = value -/
def tAsg (te : TE) (g : TG) : TS := fun D σ H => te σ H fun x H1 => g x σ H1 D.nx
theorem ps_asg {tg e : Expr} {te : TE} {g : TG} (he : PE X e te) (hg : PG X tg g) (hs : swapsWithSole [tg] e pos.line X.env = pure false := by rfl) (hw : swappedStores [tg] e X.env = pure none := by rfl)
    (h1 : (assignEach [tg] X.env).map (·.2) = [assign tg X.env] := by rfl) : PS X (.Assign [tg] e pos) (tAsg te g) := by
  intro pins s σ H D I h
  refine wpAny_Assign_stores (thn (he pins s σ H _ I h) fun v s1 ⟨x, H1, I1, r1, q1⟩ => ?_) hs hw
  rw [h1]
  exact thn (hg pins s1 σ H1 x v _ I1 r1 q1) fun _ s2 q => q
/-- name = value -/
theorem ps_set {i : Nat} {x : Str} {e : Expr} {te : TE} {pos' : Pos} (hN : X.N.Nodup) (hi : X.N[i]? = some x) (hx : Loc X.env.scope x) (he : PE X e te) (hs : swapsWith e (some (.Name x pos')) pos.line X.env = pure false := by rfl) (hf : X.fn x = true ∨ X.env.scope.names.lookup x = some .local := by first | exact .inl rfl | exact .inr rfl | assumption) :
    PS X (.Assign [.Name x pos'] e pos) (tAsg te (gName i)) := by
  intro pins s σ H D I h
  refine wpAny_Assign_Name (thn (he pins s σ H _ I h) fun v s1 ⟨y, H1, I1, r1, q1⟩ => ?_) hs
  exact store_ok I1 hN hi hx r1 (fun s2 I2 => ⟨_, H1, I2, q1⟩) hf
/-- name op= e -/
def tAug (i : Nat) (te : TE) (ti : TIp) : TS := fun D σ H => ∃ x, σ[i]? = some (some x) ∧ te σ H fun y H1 => ti x y H1 fun z H2 => D.nx (σ.set i (some z)) H2
theorem ps_aug {i : Nat} {x : Str} {e : Expr} {te : TE} {op : Operator} {ti : TIp} {pos' : Pos} (hN : X.N.Nodup) (hi : X.N[i]? = some x) (hx : Loc X.env.scope x) (he : PE X e te) (ho : PIp X op ti) (hf : X.fn x = true ∨ X.env.scope.names.lookup x = some .local := by first | exact .inl rfl | exact .inr rfl | assumption) :
    PS X (.AugAssign (.Name x pos') op e pos) (tAug i te ti) := by
  intro pins s σ H D I h
  obtain ⟨v, e1, h⟩ := h
  obtain ⟨m, hn, hl⟩ := I.loc
  have vis : Vis X.env.scope x := by rcases hx with k | k; exact .inl k; exact .inr (.inl k)
  obtain ⟨u, r, l⟩ := hl i x v hi e1 vis
  refine wpAny_AugAssign_Name ?_
  have go : wpAny (model X.prog X.w) X.A (eval e X.env) (fun w s₂ => wpAny (model X.prog X.w) X.A (inplaceOp op u w) (fun r s₃ => wpAny (model X.prog X.w) X.A (storeName X.env x r) (fun _ => SP X pins D .next) X.xe s₃) X.xe s₂) X.xe s := by
    refine thn (he pins s σ H _ I h) fun w s1 ⟨y, H1, I1, r1, q1⟩ => ?_
    refine thn (ho pins s1 σ H1 v y u w _ I1 r r1 q1) fun z s2 ⟨zv, H2, I2, r2, q2⟩ => ?_
    exact store_ok I2 hN hi hx r2 (fun s3 I3 => ⟨_, H2, I3, q2⟩) hf
  rcases l with ⟨hk, hm⟩ | ⟨hk, c, hc, hcell⟩
  · exact wpAny_loadName_local I.ok.kind hk hn hm go
  · rcases hk with hk | hk
    · exact wpAny_loadName_cell I.ok.kind hk hc hcell go
    · rcases hx with k | k
      · have : X.env.scope.names.lookup x = some .free := hk
        rw [k] at this; cases this
      · have : X.env.scope.names.lookup x = some .free := hk
        rw [k] at this; cases this
/-- ints -/
def ipI (f : Int → Int → Int) : TIp := fun x y H Q => ∃ i j, x = .int i ∧ y = .int j ∧ Q (.int (f i j)) H
theorem ip_add : PIp X .Add (ipI fun i j => i + j) := by
  intro pins s σ H x y v u Q I r1 r2 h
  obtain ⟨i, j, e1, e2, q⟩ := h
  subst e1; subst e2
  obtain ⟨t, rfl⟩ := r1
  obtain ⟨t', rfl⟩ := r2
  exact iadd_int ⟨.int _, H, I.tok _, ⟨_, rfl⟩, q⟩
end

/-! ### while -/
section
variable {X : Cx} {pos : Pos}
/-- the invariant W with its measure -/
def tWhile (c : TT) (tb : TS) : TS := fun D σ H => ∃ W : Nat → St → Hp → Prop, (∃ m, W m σ H) ∧ ∀ m σ H, W m σ H →
  c σ H fun b H1 => if b = true then ∃ N : St → Hp → Prop, (∀ σ' H', N σ' H' → ∃ m', m' < m ∧ W m' σ' H') ∧ tb { D with nx := N, ct := N, bk := D.nx } σ H1 else D.nx σ H1
theorem ps_while {c : Expr} {body : List Stmt} {tc : TT} {tb : TS} (hp : PassesOwn (model X.prog X.w) X.A X.env X.xe) (hc : PT X c tc) (hb : PSs X body tb) : PS X (.While c body [] pos) (tWhile tc tb) := by
  intro pins s σ H D I h
  obtain ⟨W, ⟨m0, w0⟩, turn⟩ := h
  refine wpAny_While (codeAny_whileLoop (fun n s' => ∃ σ' H', Inv X pins σ' H' s' ∧ W n σ' H') ?_ m0 ⟨σ, H, I, w0⟩)
  rintro n s1 ⟨σ1, H1, I1, w1⟩
  refine wpAny_passesOwn hp (thn (hc pins s1 σ1 H1 _ I1 (turn n σ1 H1 w1)) fun b s2 ⟨H2, I2, q2⟩ => ?_)
  cases b with
  | true =>
    obtain ⟨N, hN, q2⟩ := q2
    rw [if_pos rfl]
    refine wpAny_passesOwn hp (thn (hb pins s2 σ1 H2 _ I2 q2) fun f s3 q3 => ?_)
    cases f with
    | next =>
      obtain ⟨σ3, H3, I3, n3⟩ := q3
      obtain ⟨m', hm, w3⟩ := hN σ3 H3 n3
      exact ⟨m', hm, σ3, H3, I3, w3⟩
    | cont =>
      obtain ⟨σ3, H3, I3, n3⟩ := q3
      obtain ⟨m', hm, w3⟩ := hN σ3 H3 n3
      exact ⟨m', hm, σ3, H3, I3, w3⟩
    | brk => exact q3
    | ret v => exact q3
  | false =>
    rw [if_neg Bool.false_ne_true]
    exact wpAny_execs_nil ⟨σ1, H2, I2, q2⟩
end

/-! ### what a loop or a comprehension walks -/
/-- at turn i: it yields x (the heap may grow), or it stops -/
structure It where
  go : Nat → Hp → Prop
  yld : Nat → Hp → V → Hp → Prop
  stop : Nat → Hp → Prop
/-- the iterator's own objects may turn: they are not the frame's, not pinned, younger than the entry (or a comprehension's own) -/
def FpOk (X : Cx) (pins : List (Addr × Obj)) (H : Hp) (b : Addr) : Prop :=
  H b = none ∧ b ≠ X.env.locals ∧ b ∉ X.fs ∧ (b ∈ X.ex ∨ X.s₀.heap.objs.size ≤ b) ∧ (∀ x c, X.env.cells.lookup x = some c → c ≠ b) ∧ ∀ p ∈ X.pn ++ pins, p.1 ≠ b
theorem Inv.fpOk {X : Cx} {pins : List (Addr × Obj)} {σ : St} {H H' : Hp} {s : Shared} {b : Addr} (I : Inv X pins σ H s) (hb : s.heap.objs.size ≤ b) (hn : H' b = none) : FpOk X pins H' b := by
  refine ⟨hn, Nat.ne_of_gt (Nat.lt_of_lt_of_le I.lt hb), I.nofs hb, .inr (Nat.le_trans I.sz hb), fun x c e z => ?_, fun p hp z => ?_⟩
  · obtain ⟨v, q⟩ := I.cell x c e
    exact absurd (Nat.lt_of_lt_of_le q.lt (by rw [z]; exact hb)) (Nat.lt_irrefl _)
  · exact absurd (Nat.lt_of_lt_of_le (Heap.lt_size (I.pin p hp).1) (by rw [z]; exact hb)) (Nat.lt_irrefl _)
structure Turn (P : Program) (w : World) (K : PySem.W.Frag) (tg : Expr) (J : It) (fp : List Addr) (it : Addr) (tn : Nat → Heap → Prop) : Prop where
  mem : it ∈ fp
  obj : ∀ i h, tn i h → ∀ b ∈ fp, ∃ o, h.get? b = some o ∧ ∀ v, o.data ≠ .cell v
  keep : ∀ i h h', tn i h → (∀ b ∈ fp, ∀ o, h.get? b = some o → h'.get? b = some o) → tn i h'
  item : ∀ (X : Cx), X.prog = P → X.w = w → X.K = K → X.calm = true → ∀ (i : Nat) (pins : List (Addr × Obj)) (s : Shared) (σ : St) (H : Hp) (E : Value → Shared → Prop), Inv X pins σ H s → (∀ b ∈ fp, FpOk X pins H b) → tn i s.heap → J.go i H →
    wpAny (model P w) X.A (pyNext (.ref it)) (fun r s1 => ∃ u, r = some u ∧
      wpAny (model P w) X.A (letOwnedTupleGo tg (.ref it) u) (fun _ s2 => ∃ x H', Inv X pins σ H' s2 ∧ RelV x u ∧ J.yld i H x H' ∧ tn (i + 1) s2.heap ∧ ∀ b ∈ fp, H' b = none) E s1) E s
  done : ∀ (X : Cx), X.prog = P → X.w = w → X.K = K → X.calm = true → ∀ (i : Nat) (pins : List (Addr × Obj)) (s : Shared) (σ : St) (H : Hp) (E : Value → Shared → Prop), Inv X pins σ H s → (∀ b ∈ fp, FpOk X pins H b) → tn i s.heap → J.stop i H →
    wpAny (model P w) X.A (pyNext (.ref it)) (fun r s1 => r = none ∧ Inv X pins σ H s1) E s
  self : ∀ (A : Around) (i : Nat) (s : Shared) (Q : Value → Shared → Prop) (E : Value → Shared → Prop), tn i s.heap → Q (.ref it) s → wpAny (model P w) A (pyIter (.ref it)) Q E s
abbrev TI := St → Hp → (It → Hp → Prop) → Prop
/-- an iterator has come -/
def PIE (X : Cx) (pins : List (Addr × Obj)) (σ : St) (tg : Expr) (R : It → Hp → Prop) (itv : Value) (s2 : Shared) : Prop :=
  ∃ (it : Addr) (fp : List Addr) (tn : Nat → Heap → Prop) (J : It) (H' : Hp), itv = .ref it ∧ Inv X pins σ H' s2 ∧ Turn X.prog X.w X.K tg J fp it tn ∧ tn 0 s2.heap ∧ (∀ b ∈ fp, FpOk X pins H' b) ∧ R J H'
def PI (X : Cx) (tg iter : Expr) (wi : TI) : Prop :=
  ∀ (pins : List (Addr × Obj)) (s : Shared) (σ : St) (H : Hp) (R : It → Hp → Prop), Inv X pins σ H s → wi σ H R →
    wpAny (model X.prog X.w) X.A (eval iter X.env) (fun v s1 => wpAny (model X.prog X.w) X.A (pyIter v) (PIE X pins σ tg R) X.xe s1) X.xe s

/-- the step ahead of the store is nothing for an iterator that keeps no tuple -/
theorem go_of {M : Model} {A : Around} {E : Value → Shared → Prop} {s : Shared} {tg : Expr} {it : Addr} {u : Value} {o : Obj} {n : String} {vs : Array Value} {Q : Unit → Shared → Prop} (ho : s.heap.get? it = some o) (hc : o.cls = .type n) (hd : o.data = .fields vs)
    (hn : ["enumerate", "zip", "dict_itemiterator", "dict_reverseitemiterator", "odict_iterator", "itertools.zip_longest", "itertools.pairwise"].contains n = false) (hQ : Q () s) : wpAny M A (letOwnedTupleGo tg (.ref it) u) Q E s := by
  unfold letOwnedTupleGo
  cases tg <;> first
    | exact wpAny_pure hQ
    | (cases u <;> first
        | exact wpAny_pure hQ
        | (refine wpAny_bind (wpAny_load ho ?_)
           rw [hc, hd]
           show wpAny M A (if (["enumerate", "zip", "dict_itemiterator", "dict_reverseitemiterator", "odict_iterator", "itertools.zip_longest", "itertools.pairwise"].contains n && vs[0]? == some (rawInt _)) = true then _ else _) Q E s
           rw [if_neg (by intro h; rw [hn, Bool.false_and] at h; cases h)]
           exact wpAny_pure hQ))

/-- the list at a, as it stands at each turn (a loop may append to it) -/
def Itl (K : PySem.W.Frag) (a : Addr) : It :=
  ⟨fun i H => ∃ xs x, SqL K H a xs ∧ xs[i]? = some x, fun i H x H' => H' = H ∧ ∀ xs, SqL K H a xs → xs[i]? = some x, fun i H => ∃ xs, SqL K H a xs ∧ xs.length ≤ i⟩
/-- lo, lo + 1, .. (n of them) -/
def Itr (lo : Int) (n : Nat) : It := ⟨fun i _ => i < n, fun i H x H' => H' = H ∧ x = .int (lo + i), fun i _ => n ≤ i⟩
theorem turn_list {P : Program} {w : World} {K : PySem.W.Frag} {tg : Expr} (a it : Addr) : Turn P w K tg (Itl K a) [it] it (fun i h => h.IsListIter it a i) where
  mem := by simp
  obj := fun i h st b hb => by
    have e : b = it := by simpa using hb
    subst e
    obtain ⟨o, e, c, d⟩ := st
    exact ⟨o, e, fun v z => by rw [d] at z; cases z⟩
  keep := fun i h h' st k => st.at fun o e => k it (by simp) o e
  item := by
    intro X hP hw hK hc i pins s σ H E I hf st hg
    subst hP hw hK
    obtain ⟨xs, x, hq, hx⟩ := hg
    obtain ⟨its, rv, p, hz⟩ := I.list hq
    obtain ⟨u, hu, ru⟩ := rv.get hx
    obtain ⟨f0, f1, f2, f3, f4, f5⟩ := hf it (by simp)
    refine wpAny_pyNext_list_item st p.isList (x := u) (by simpa using hu) fun h' st' sb => ?_
    have I1 : Inv X pins σ H { s with heap := h' } := I.turned (t' := s.toks) (fun b o hb e => (sb.2 b hb).trans e) f0 f1 f3 f4 f5
    obtain ⟨o, e, c, d⟩ := id st'
    exact ⟨u, rfl, go_of (s := { s with heap := h' }) e c d (by decide) ⟨x, H, I1, ru, ⟨rfl, fun ys hy => by rw [I.list_inj hy hq]; exact hx⟩, st', fun b hb => (hf b hb).1⟩⟩
  done := by
    intro X hP hw hK hc i pins s σ H E I hf st hg
    subst hP hw hK
    obtain ⟨xs, hq, hx⟩ := hg
    obtain ⟨its, rv, p, hz⟩ := I.list hq
    obtain ⟨f0, f1, f2, f3, f4, f5⟩ := hf it (by simp)
    have hl := rv.length
    exact wpAny_pyNext_list_end (I.ok.hd hc) st p.isList (by simp; omega) fun h' eb => ⟨rfl, I.turned (t' := s.toks) (fun b o hb e => eb b o hb e) f0 f1 f3 f4 f5⟩
  self := fun _ _ _ _ _ st h => wpAny_pyIter_listiter st h
theorem turn_range {P : Program} {w : World} {K : PySem.W.Frag} {tg : Expr} (it : Addr) (lo : Int) (n : Nat) : Turn P w K tg (Itr lo n) [it] it (fun i h => IsRangeIter h it (lo + (i : Nat) * 1) ((n : Int) - (i : Nat)) 1) where
  mem := by simp
  obj := fun i h st b hb => by
    have e : b = it := by simpa using hb
    subst e
    exact ⟨_, st, fun v z => by
      have z' : Data.fields _ = Data.cell v := z
      cases z'⟩
  keep := fun i h h' st k => k it (by simp) _ st
  item := by
    intro X hP hw hK hc i pins s σ H E I hf st hg
    subst hP hw hK
    obtain ⟨f0, f1, f2, f3, f4, f5⟩ := hf it (by simp)
    have W := Walks.range (prog := X.prog) (w := X.w) (I.ok.hd hc) it lo 1 n
    refine W.item i s _ _ hg st fun v h' tk hv st' kk => ?_
    obtain ⟨t, rfl⟩ := hv
    have I1 : Inv X pins σ H { s with heap := h', toks := tk } := I.turned (fun b o hb e => kk b o (by simpa using hb) e) f0 f1 f3 f4 f5
    refine ⟨_, rfl, go_of (s := { s with heap := h', toks := tk }) (n := "range_iterator") st' rfl rfl (by decide) ⟨.int (lo + i), H, I1, ⟨t, ?_⟩, ⟨rfl, rfl⟩, st', fun b hb => (hf b hb).1⟩⟩
    rw [Int.mul_one]
  done := by
    intro X hP hw hK hc i pins s σ H E I hf st hg
    subst hP hw hK
    obtain ⟨f0, f1, f2, f3, f4, f5⟩ := hf it (by simp)
    exact wpAny_pyNext_range_end (I.ok.hd hc) st (by have : n ≤ i := hg; omega) fun h' eb => ⟨rfl, I.turned (t' := s.toks) (fun b o hb e => eb b o hb e) f0 f1 f3 f4 f5⟩
  self := fun _ _ _ _ _ st h => wpAny_pyIter_rangeiter st h
end L2

namespace L2
open PySem PySem.Spec PyProof.Rows
section
variable {X : Cx} {tg : Expr}
def iList (K : PySem.W.Frag) (tl : TE) : TI := fun σ H R => tl σ H fun x H1 => ∃ a, x = .ref a ∧ (∃ xs, SqL K H1 a xs) ∧ R (Itl K a) H1
theorem pi_list {l : Expr} {tl : TE} (hl : PE X l tl) : PI X tg l (iList X.K tl) := by
  intro pins s σ H R I h
  refine thn (hl pins s σ H _ I h) fun v s1 ⟨x, H1, I1, r1, q1⟩ => ?_
  obtain ⟨a, e, ⟨xs, hq⟩, q⟩ := q1
  subst e
  cases r1
  obtain ⟨its, rv, p, hz⟩ := I1.list hq
  refine wpAny_pyIter_list p.isList ?_
  refine ⟨s1.heap.objs.size, [s1.heap.objs.size], _, _, H1, rfl, I1.kept (t' := s1.toks) fun b o e => Heap.get?_push_of_some _ e, turn_list a _, ⟨_, Heap.get?_push_size _ rfl, rfl, rfl⟩, fun b hb => ?_, q⟩
  have e : b = s1.heap.objs.size := by simpa using hb
  subst e
  exact I1.fpOk (Nat.le_refl _) (I1.hok.fresh (Nat.le_refl _))
/-- a range object just made, walked -/
theorem range_it {pins : List (Addr × Obj)} {σ : St} {H : Hp} {s : Shared} {R : It → Hp → Prop} {E : Value → Shared → Prop} {lo hi : Int} {t u v : Tok} {tk : Nat} (I : Inv X pins σ H s) (h1 : -(2 ^ 62) ≤ lo) (h2 : lo < 2 ^ 62) (h3 : -(2 ^ 62) ≤ hi) (h4 : hi < 2 ^ 62)
    (q : R (Itr lo (hi - lo).toNat) H) : wpAny (model X.prog X.w) X.A (pyIter (.ref s.heap.objs.size)) (PIE X pins σ tg R) E { s with heap := s.heap.push { cls := .type "range", data := .fields #[.int lo t, .int hi u, .int 1 v] }, toks := tk } := by
  refine wpAny_pyIter_range (IsRange.new ..) (small_one h1 h2 h3 h4) ?_
  have I1 : Inv X pins σ H { s with heap := s.heap.push { cls := .type "range", data := .fields #[.int lo t, .int hi u, .int 1 v] }, toks := tk } := I.kept fun b o e => Heap.get?_push_of_some _ e
  refine ⟨(s.heap.push { cls := .type "range", data := .fields #[.int lo t, .int hi u, .int 1 v] }).objs.size, [(s.heap.push { cls := .type "range", data := .fields #[.int lo t, .int hi u, .int 1 v] }).objs.size], _, _, H, rfl,
    I1.kept (t' := tk) fun b o e => Heap.get?_push_of_some _ e, turn_range _ lo (hi - lo).toNat, ?_, fun b hb => ?_, q⟩
  · have e1 : lo + ((0 : Nat) : Int) * 1 = lo := by simp
    have e2 : (((hi - lo).toNat : Nat) : Int) - ((0 : Nat) : Int) = Builtin.Range.rangeSize lo hi 1 := by rw [rangeSize_one]; split <;> omega
    show IsRangeIter _ _ (lo + ((0 : Nat) : Int) * 1) ((((hi - lo).toNat : Nat) : Int) - ((0 : Nat) : Int)) 1
    rw [e1, e2]
    exact Heap.get?_push_size _ rfl
  · have e : b = (s.heap.push { cls := .type "range", data := .fields #[.int lo t, .int hi u, .int 1 v] }).objs.size := by simpa using hb
    subst e
    exact I1.fpOk (Nat.le_refl _) (I1.hok.fresh (Nat.le_refl _))
def iRng1 (ta : TA) : TI := fun σ H R => ta σ H fun vs H1 => ∃ j : Int, vs = [.int j] ∧ -(2 ^ 62) ≤ j ∧ j < 2 ^ 62 ∧ R (Itr 0 j.toNat) H1
theorem pi_range1 {a : Expr} {ta : TA} {p pos : Pos} (hg : Gl X "range") (hm : X.mg "range" = none) (ha : PA X [a] ta) (hs : starEach [a] X.env = [(false, eval a X.env)] := by rfl) : PI X tg (.Call (.Name "range" p) [a] [] pos) (iRng1 ta) := by
  intro pins s σ H R I h
  refine Call_ (ld_blt I hg hm boot_range (PyProof.Rows.callWith_type1 (thn (ha pos pins s σ H _ I h) fun us s1 ⟨vs, H1, I1, r1, q1⟩ => ?_) hs rfl))
  obtain ⟨j, e, q1, q2, q⟩ := q1
  subst e
  cases r1 with
  | cons r rr =>
    cases rr
    obtain ⟨t, rfl⟩ := r
    exact call_range_1 (range_it I1 (by omega) (by omega) q1 q2 (by simpa using q))
/-! ### for -/
/-- W: the invariant by the turn and a measure; N: what the body is to reach -/
def tFor (wi : TI) (g : TG) (tb : TS) : TS := fun D σ H => wi σ H fun J H1 => ∃ W : Nat → Nat → St → Hp → Prop, (∃ m, W 0 m σ H1) ∧ ∀ i m σ H, W i m σ H →
  (J.stop i H ∧ D.nx σ H) ∨ (J.go i H ∧ ∃ N : St → Hp → Prop, (∀ σ' H', N σ' H' → ∃ m', m' < m ∧ W (i + 1) m' σ' H') ∧ ∀ x H', J.yld i H x H' → g x σ H' fun σ2 H2 => tb { D with nx := N, ct := N, bk := D.nx } σ2 H2)
/-- the records at fp as they stand -/
def pinsAt (fp : List Addr) (h : Heap) : List (Addr × Obj) := fp.filterMap fun b => (h.get? b).map fun o => (b, o)
theorem mem_pinsAt {fp : List Addr} {h : Heap} {b : Addr} {o : Obj} (hb : b ∈ fp) (e : h.get? b = some o) : (b, o) ∈ pinsAt fp h := List.mem_filterMap.mpr ⟨b, hb, by rw [e]; rfl⟩
theorem of_pinsAt {fp : List Addr} {h : Heap} {p : Addr × Obj} (hp : p ∈ pinsAt fp h) : p.1 ∈ fp ∧ h.get? p.1 = some p.2 := by
  obtain ⟨b, hb, e⟩ := List.mem_filterMap.mp hp
  cases q : h.get? b with
  | none => rw [q] at e; cases e
  | some o =>
    rw [q] at e
    have e' : (b, o) = p := Option.some.inj e
    subst e'
    exact ⟨hb, q⟩
theorem Inv.pinned {pins : List (Addr × Obj)} {σ : St} {H : Hp} {s : Shared} {fp : List Addr} (I : Inv X pins σ H s) (hf : ∀ b ∈ fp, FpOk X pins H b) (ho : ∀ b ∈ fp, ∃ o, s.heap.get? b = some o ∧ ∀ v, o.data ≠ .cell v) : Inv X (pins ++ pinsAt fp s.heap) σ H s :=
  I.pins_of fun p hp => (List.mem_append.mp hp).elim (fun z => I.pin p (List.mem_append_right _ z)) fun z => by
    obtain ⟨hb, e⟩ := of_pinsAt z
    obtain ⟨f0, f1, f2, _⟩ := hf p.1 hb
    obtain ⟨o, e', d⟩ := ho p.1 hb
    rw [e] at e'; cases e'
    exact ⟨e, f0, f1, f2, d⟩
theorem Inv.unpinned {pins pl : List (Addr × Obj)} {σ : St} {H : Hp} {s : Shared} (I : Inv X (pins ++ pl) σ H s) : Inv X pins σ H s := I.pins_of fun p hp => I.pin p (List.mem_append_right _ (List.mem_append_left _ hp))
theorem ps_for {iter : Expr} {body : List Stmt} {wi : TI} {g : TG} {tb : TS} {pos : Pos} (hp : PassesOwn (model X.prog X.w) X.A X.env X.xe) (hc : X.calm = true) (hi : PI X tg iter wi) (hg : PG X tg g) (hb : PSs X body tb)
    (hs : ∀ x, foldedSetIterable iter X.env x = pure x := by intro _; rfl) : PS X (.For tg iter body [] pos) (tFor wi g tb) := by
  intro pins s σ H D I h
  refine wpAny_For (thn (hi pins s σ H _ I h) fun v s1 h1 => thn h1 fun itv s2 h2 => ?_) hs
  obtain ⟨it, fp, tn, J, H2, e, I2, T, st2, f2, W, ⟨m0, w0⟩, turn⟩ := h2
  subst e
  -- what stays true of the iterator's objects through the loop
  have stat : ∀ {H' : Hp}, (∀ b ∈ fp, H' b = none) → ∀ b ∈ fp, FpOk X pins H' b := fun hn b hb => ⟨hn b hb, (f2 b hb).2⟩
  refine codeAny_forLoop_any (fun n s' => ∃ i σ' H', Inv X pins σ' H' s' ∧ tn i s'.heap ∧ (∀ b ∈ fp, H' b = none) ∧ W i n σ' H') ?_ m0 ⟨0, σ, H2, I2, st2, fun b hb => (f2 b hb).1, w0⟩
  rintro n s3 ⟨i, σ3, H3, I3, st3, fr3, w3⟩
  rcases turn i n σ3 H3 w3 with ⟨stop, qn⟩ | ⟨go, N, hN, step⟩
  · refine wpAny_passesOwn hp (thn (T.done X rfl rfl rfl hc i pins s3 σ3 H3 X.xe I3 (stat fr3) st3 stop) fun r s4 ⟨hr, I4⟩ => ?_)
    subst hr
    exact wpAny_execs_nil ⟨σ3, H3, I4, qn⟩
  · refine wpAny_passesOwn hp (thn (T.item X rfl rfl rfl hc i pins s3 σ3 H3 X.xe I3 (stat fr3) st3 go) fun r s4 ⟨u, hr, h4⟩ => ?_)
    subst hr
    refine wpAny_passesOwn hp (thn h4 fun _ s5 ⟨x, H5, I5, r5, y5, st5, fr5⟩ => ?_)
    have I5' := I5.pinned (stat fr5) (T.obj _ _ st5)
    refine wpAny_passesOwn hp (thn (hg _ s5 σ3 H5 x u _ I5' r5 (step x H5 y5)) fun _ s6 ⟨σ6, H6, I6, q6⟩ => ?_)
    refine wpAny_passesOwn hp (thn (hb _ s6 σ6 H6 _ I6 q6) fun f s7 q7 => ?_)
    have again : ∀ {σ7 : St} {H7 : Hp}, Inv X (pins ++ pinsAt fp s5.heap) σ7 H7 s7 → N σ7 H7 → ∃ m, m < n ∧ ∃ i σ' H', Inv X pins σ' H' s7 ∧ tn i s7.heap ∧ (∀ b ∈ fp, H' b = none) ∧ W i m σ' H' := fun {σ7 H7} I7 n7 => by
      obtain ⟨m', hm, w7⟩ := hN σ7 H7 n7
      refine ⟨m', hm, i + 1, σ7, H7, I7.unpinned, T.keep _ _ _ st5 fun b hb o e => (I7.pin (b, o) (List.mem_append_right _ (List.mem_append_right _ (mem_pinsAt hb e)))).1, fun b hb => ?_, w7⟩
      obtain ⟨o, e, d⟩ := T.obj _ _ st5 b hb
      exact (I7.pin (b, o) (List.mem_append_right _ (List.mem_append_right _ (mem_pinsAt hb e)))).2.1
    cases f with
    | next => obtain ⟨σ7, H7, I7, n7⟩ := q7; exact again I7 n7
    | cont => obtain ⟨σ7, H7, I7, n7⟩ := q7; exact again I7 n7
    | brk => obtain ⟨σ7, H7, I7, q7⟩ := q7; exact ⟨σ7, H7, I7.unpinned, q7⟩
    | ret v => obtain ⟨x7, σ7, H7, I7, r7, q7⟩ := q7; exact ⟨x7, σ7, H7, I7.unpinned, r7, q7⟩
end

/-! ### the forms one uses -/
/-- over a list that the body leaves as it is -/
theorem for_list {K : PySem.W.Frag} {a : Addr} {xs : List V} {g : TG} {tb : TS} {D : Ends} {σ : St} {H : Hp} (Pv : Nat → St → Hp → Prop) (h0 : Pv 0 σ H) (hl : ∀ i σ H, i ≤ xs.length → Pv i σ H → SqL K H a xs)
    (hs : ∀ i x σ H, xs[i]? = some x → Pv i σ H → g x σ H fun σ2 H2 => tb { D with nx := Pv (i + 1), ct := Pv (i + 1), bk := D.nx } σ2 H2) (hd : ∀ σ H, Pv xs.length σ H → D.nx σ H) :
    ∃ W : Nat → Nat → St → Hp → Prop, (∃ m, W 0 m σ H) ∧ ∀ i m σ H, W i m σ H →
      ((Itl K a).stop i H ∧ D.nx σ H) ∨ ((Itl K a).go i H ∧ ∃ N : St → Hp → Prop, (∀ σ' H', N σ' H' → ∃ m', m' < m ∧ W (i + 1) m' σ' H') ∧ ∀ x H', (Itl K a).yld i H x H' → g x σ H' fun σ2 H2 => tb { D with nx := N, ct := N, bk := D.nx } σ2 H2) := by
  refine ⟨fun i m σ H => m = xs.length - i ∧ i ≤ xs.length ∧ Pv i σ H, ⟨xs.length, by simp, Nat.zero_le _, h0⟩, ?_⟩
  rintro i m σ H ⟨rfl, hi, p⟩
  have q := hl i σ H hi p
  by_cases hlt : i < xs.length
  · refine .inr ⟨⟨xs, xs[i], q, by simp [hlt]⟩, Pv (i + 1), fun σ' H' p' => ⟨xs.length - (i + 1), by omega, rfl, hlt, p'⟩, fun x H' y => ?_⟩
    obtain ⟨e, y⟩ := y
    subst e
    exact hs i x σ _ (y xs q) p
  · have e : i = xs.length := by omega
    subst e
    exact .inl ⟨⟨xs, q, Nat.le_refl _⟩, hd σ H p⟩
theorem for_range {lo : Int} {n : Nat} {g : TG} {tb : TS} {D : Ends} {σ : St} {H : Hp} (Pv : Nat → St → Hp → Prop) (h0 : Pv 0 σ H)
    (hs : ∀ i σ H, i < n → Pv i σ H → g (.int (lo + i)) σ H fun σ2 H2 => tb { D with nx := Pv (i + 1), ct := Pv (i + 1), bk := D.nx } σ2 H2) (hd : ∀ σ H, Pv n σ H → D.nx σ H) :
    ∃ W : Nat → Nat → St → Hp → Prop, (∃ m, W 0 m σ H) ∧ ∀ i m σ H, W i m σ H →
      ((Itr lo n).stop i H ∧ D.nx σ H) ∨ ((Itr lo n).go i H ∧ ∃ N : St → Hp → Prop, (∀ σ' H', N σ' H' → ∃ m', m' < m ∧ W (i + 1) m' σ' H') ∧ ∀ x H', (Itr lo n).yld i H x H' → g x σ H' fun σ2 H2 => tb { D with nx := N, ct := N, bk := D.nx } σ2 H2) := by
  refine ⟨fun i m σ H => m = n - i ∧ i ≤ n ∧ Pv i σ H, ⟨n, by simp, Nat.zero_le _, h0⟩, ?_⟩
  rintro i m σ H ⟨rfl, hi, p⟩
  by_cases hlt : i < n
  · refine .inr ⟨hlt, Pv (i + 1), fun σ' H' p' => ⟨n - (i + 1), by omega, rfl, hlt, p'⟩, fun x H' y => ?_⟩
    obtain ⟨e, y⟩ := y
    subst e y
    exact hs i σ _ hlt p
  · have e : i = n := by omega
    subst e
    exact .inl ⟨Nat.le_refl _, hd σ H p⟩
end L2

namespace L2
open PySem PySem.Spec PyProof.Rows

abbrev R2 := V → V → Hp → VK → Prop
/-- a two-place operation on values: f is binaryOp op, inplaceOp op or compareOp op -/
def OpR (X : Cx) (f : Value → Value → Sem Value) (r : R2) : Prop :=
  ∀ (pins : List (Addr × Obj)) (s : Shared) (σ : St) (H : Hp) (x y : V) (v u : Value) (Q : VK), Inv X pins σ H s → RelV x v → RelV y u → r x y H Q →
    wpAny (model X.prog X.w) X.A (f v u) (EP X pins σ Q) X.xe s
/-- a one-place operation -/
def UnR (X : Cx) (f : Value → Sem Value) (r : V → Hp → VK → Prop) : Prop :=
  ∀ (pins : List (Addr × Obj)) (s : Shared) (σ : St) (H : Hp) (x : V) (v : Value) (Q : VK), Inv X pins σ H s → RelV x v → r x H Q →
    wpAny (model X.prog X.w) X.A (f v) (EP X pins σ Q) X.xe s
/-- a call of a value that is known (a builtin, a type) with values -/
def CallR (X : Cx) (f : Value) (r : List V → Hp → VK → Prop) : Prop :=
  ∀ (pins : List (Addr × Obj)) (s : Shared) (σ : St) (H : Hp) (xs : List V) (us : List Value) (Q : VK), Inv X pins σ H s → Vals xs us → r xs H Q →
    wpAny (model X.prog X.w) X.A (call f us) (EP X pins σ Q) X.xe s
/-- a value's truth -/
def TruR (X : Cx) (r : V → Hp → (Bool → Hp → Prop) → Prop) : Prop :=
  ∀ (pins : List (Addr × Obj)) (s : Shared) (σ : St) (H : Hp) (x : V) (v : Value) (Q : Bool → Hp → Prop), Inv X pins σ H s → RelV x v → r x H Q →
    wpAny (model X.prog X.w) X.A (truthy v) (TP X pins σ Q) X.xe s

def tOp (r : R2) (ta tb : TE) : TE := fun σ H Q => ta σ H fun x H1 => tb σ H1 fun y H2 => r x y H2 Q
def tUn (r : V → Hp → VK → Prop) (ta : TE) : TE := fun σ H Q => ta σ H fun x H1 => r x H1 Q
/-- ints in, under C, and a value out -/
def rI (C : Int → Int → Prop) (g : Int → Int → V) : R2 := fun x y H Q => ∃ i j, x = .int i ∧ y = .int j ∧ C i j ∧ Q (g i j) H
def rI0 (g : Int → Int → V) : R2 := fun x y H Q => ∃ i j, x = .int i ∧ y = .int j ∧ Q (g i j) H
def rU (g : Int → V) : V → Hp → VK → Prop := fun x H Q => ∃ i, x = .int i ∧ Q (g i) H

section
variable {X : Cx} {a b c : Expr} {ta tb tc : TE} {pos : Pos}

theorem binT (ha : PE X a ta) (hb : PE X b tb) {pins : List (Addr × Obj)} {s : Shared} {σ : St} {H : Hp} {R : V → V → Hp → Prop} (I : Inv X pins σ H s)
    (h : ta σ H fun x H1 => tb σ H1 fun y H2 => R x y H2) {Q : Value → Shared → Prop} {f : Value → Value → Sem Value}
    (hf : ∀ v u s2 x y H2, Inv X pins σ H2 s2 → RelV x v → RelV y u → R x y H2 → wpAny (model X.prog X.w) X.A (f v u) Q X.xe s2) :
    wpAny (model X.prog X.w) X.A (eval a X.env) (fun v s₁ => wpAny (model X.prog X.w) X.A (eval b X.env) (fun u s₂ => wpAny (model X.prog X.w) X.A (f v u) Q X.xe s₂) X.xe s₁) X.xe s := by
  refine thn (ha pins s σ H _ I h) fun v s1 ⟨x, H1, I1, r1, q1⟩ => ?_
  refine thn (hb pins s1 σ H1 _ I1 q1) fun u s2 ⟨y, H2, I2, r2, q2⟩ => ?_
  exact hf v u s2 x y H2 I2 r1 r2 q2

theorem pe_op {op : Operator} {r : R2} (ho : OpR X (binaryOp op) r) (ha : PE X a ta) (hb : PE X b tb) : PE X (.BinOp a op b pos) (tOp r ta tb) := by
  intro pins s σ H Q I h
  exact wpAny_BinOp (binT ha hb I h fun v u s2 x y H2 I2 rx ry q => ho pins s2 σ H2 x y v u Q I2 rx ry q)
theorem pe_un {op : UnaryOp} {r : V → Hp → VK → Prop} (ho : UnR X (unaryOp op) r) (ha : PE X a ta) : PE X (.UnaryOp op a pos) (tUn r ta) := by
  intro pins s σ H Q I h
  exact UnaryOp_ (thn (ha pins s σ H _ I h) fun v s1 ⟨x, H1, I1, r1, q1⟩ => ho pins s1 σ H1 x v Q I1 r1 q1)
/-! ### ints -/
theorem opI {f : Value → Value → Sem Value} {C : Int → Int → Prop} {g : Int → Int → Int}
    (rule : ∀ (i j : Int) (t u : Tok) (s : Shared) (Q : Value → Shared → Prop) (E : Value → Shared → Prop), C i j → Q (.int (g i j) s.toks) { s with toks := s.toks + 1 } → wpAny (model X.prog X.w) X.A (f (.int i t) (.int j u)) Q E s) :
    OpR X f (rI C fun i j => .int (g i j)) := by
  intro pins s σ H x y v u Q I rx ry h
  obtain ⟨i, j, rfl, rfl, hc, q⟩ := h
  obtain ⟨t, rfl⟩ := rx
  obtain ⟨t', rfl⟩ := ry
  exact rule i j t t' s _ _ hc ⟨.int (g i j), H, I.tok _, ⟨_, rfl⟩, q⟩
theorem opI0 {f : Value → Value → Sem Value} {g : Int → Int → Int}
    (rule : ∀ (i j : Int) (t u : Tok) (s : Shared) (Q : Value → Shared → Prop) (E : Value → Shared → Prop), Q (.int (g i j) s.toks) { s with toks := s.toks + 1 } → wpAny (model X.prog X.w) X.A (f (.int i t) (.int j u)) Q E s) :
    OpR X f (rI0 fun i j => .int (g i j)) := by
  intro pins s σ H x y v u Q I rx ry h
  obtain ⟨i, j, rfl, rfl, q⟩ := h
  obtain ⟨t, rfl⟩ := rx
  obtain ⟨t', rfl⟩ := ry
  exact rule i j t t' s _ _ ⟨.int (g i j), H, I.tok _, ⟨_, rfl⟩, q⟩
theorem opB0 {f : Value → Value → Sem Value} {g : Int → Int → Bool}
    (rule : ∀ (i j : Int) (t u : Tok) (s : Shared) (Q : Value → Shared → Prop) (E : Value → Shared → Prop), Q (.bool (g i j)) s → wpAny (model X.prog X.w) X.A (f (.int i t) (.int j u)) Q E s) :
    OpR X f (rI0 fun i j => .bl (g i j)) := by
  intro pins s σ H x y v u Q I rx ry h
  obtain ⟨i, j, rfl, rfl, q⟩ := h
  obtain ⟨t, rfl⟩ := rx
  obtain ⟨t', rfl⟩ := ry
  exact rule i j t t' s _ _ ⟨.bl (g i j), H, I, rfl, q⟩

def CPow (i j : Int) : Prop := 0 ≤ j ∧ j ≤ 1000000 ∧ i.natAbs < 2 ^ 64
def CMul (i j : Int) : Prop := (-(2 ^ 64) < i ∧ i < 2 ^ 64) ∨ (-(2 ^ 64) < j ∧ j < 2 ^ 64)
theorem CMul.ok {i j : Int} (h : CMul i j) : IntMulOk i j := by
  rcases h with ⟨h1, h2⟩ | ⟨h1, h2⟩
  · exact .of_left (intBits_le_64 h1 h2)
  · exact .of_right (intBits_le_64 h1 h2)
theorem op_add : OpR X (binaryOp .Add) (rI0 fun i j => .int (i + j)) := opI0 fun _ _ _ _ _ _ _ q => add_int q
theorem op_sub : OpR X (binaryOp .Sub) (rI0 fun i j => .int (i - j)) := opI0 fun _ _ _ _ _ _ _ q => sub_int q
theorem op_mul : OpR X (binaryOp .Mult) (rI CMul fun i j => .int (i * j)) := opI fun _ _ _ _ _ _ _ hc q => mul_int q hc.ok
/-- % by a positive divisor of any size -/
theorem op_mod : OpR X (binaryOp .Mod) (rI (fun _ j => 0 < j) fun i j => .int (i % j)) := opI fun i j _ _ _ _ _ hc q => by
  have h1 : (0 : Int) < j := hc
  exact mod_int' (by omega) (by rw [Int.fmod_eq_emod_of_nonneg i (by omega)]; exact q)
theorem op_pow : OpR X (binaryOp .Pow) (rI CPow fun i j => .int (i ^ j.toNat)) := opI fun _ _ _ _ _ _ _ hc q => pow_int_small hc.1 hc.2.1 hc.2.2 q
theorem unI {f : Value → Sem Value} {g : Int → Int}
    (rule : ∀ (i : Int) (t : Tok) (s : Shared) (Q : Value → Shared → Prop) (E : Value → Shared → Prop), Q (.int (g i) s.toks) { s with toks := s.toks + 1 } → wpAny (model X.prog X.w) X.A (f (.int i t)) Q E s) :
    UnR X f (rU fun i => .int (g i)) := by
  intro pins s σ H x v Q I rx h
  obtain ⟨i, rfl, q⟩ := h
  obtain ⟨t, rfl⟩ := rx
  exact rule i t s _ _ ⟨.int (g i), H, I.tok _, ⟨_, rfl⟩, q⟩
theorem un_neg : UnR X (unaryOp .USub) (rU fun i => .int (-i)) := unI fun _ _ _ _ _ q => neg_int q
/-! ### bools among ints: n += (a < b) -/
end

/-! ### comparisons -/
/-- the scalars that == tells apart as data does -/
def scal : V → V → Bool
  | .non, .non => true | .non, .int _ => true | .int _, .non => true | .non, .bl _ => true | .bl _, .non => true | .non, .str _ => true | .str _, .non => true
  | .int _, .int _ => true | .bl _, .bl _ => true | .str _, .str _ => true | .byt _, .byt _ => true
  | .int _, .str _ => true | .str _, .int _ => true | .bl _, .str _ => true | .str _, .bl _ => true
  | _, _ => false
def rEq : R2 := fun x y H Q => scal x y = true ∧ Q (.bl (decide (x = y))) H
def rNe : R2 := fun x y H Q => scal x y = true ∧ Q (.bl (!decide (x = y))) H

theorem dec_int {i j : Int} : decide (V.int i = V.int j) = (i == j) := by
  rw [Bool.eq_iff_iff]
  simp
theorem dec_bl {i j : Bool} : decide (V.bl i = V.bl j) = (i == j) := by
  rw [Bool.eq_iff_iff]
  simp
theorem dec_str {i j : Str} : decide (V.str i = V.str j) = (i == j) := by
  rw [Bool.eq_iff_iff]
  simp
theorem dec_byt {i j : Array UInt8} : decide (V.byt i = V.byt j) = (i.toList == j.toList) := by
  rw [Bool.eq_iff_iff]
  cases i
  cases j
  simp

section
variable {X : Cx} {a b c : Expr} {ta tb tc : TE} {pos : Pos}
theorem fin_bl {pins : List (Addr × Obj)} {σ : St} {H : Hp} {s : Shared} {Q : VK} {k k' : Bool} (I : Inv X pins σ H s) (q : Q (.bl k) H) (e : k = k') : EP X pins σ Q (.bool k') s := by
  subst e
  exact ⟨.bl k, H, I, rfl, q⟩
theorem op_eq : OpR X (compareOp .Eq) rEq := by
  intro pins s σ H x y v u Q I rx ry h
  obtain ⟨hs, q⟩ := h
  cases x with
  | non =>
    cases rx
    cases y with
    | non => cases ry; exact PySem.EqNone.eq_none_none (fin_bl I q (by simp))
    | bl j => cases ry; exact PySem.EqNone.eq_none_bool (fin_bl I q (by simp))
    | int j => obtain ⟨t', rfl⟩ := ry; exact PySem.EqNone.eq_none_int (fin_bl I q (by simp))
    | str j => obtain ⟨t', rfl⟩ := ry; exact PySem.EqNone.eq_none_str (fin_bl I q (by simp))
    | _ => exact absurd (show false = true from hs) Bool.false_ne_true
  | bl i =>
    cases rx
    cases y with
    | non => cases ry; exact PySem.EqNone.eq_bool_none (fin_bl I q (by simp))
    | bl j => cases ry; exact eq_bool (fin_bl I q dec_bl)
    | str j => obtain ⟨t', rfl⟩ := ry; exact PySem.EqMixed.eq_bool_str (fin_bl I q (by simp))
    | _ => exact absurd (show false = true from hs) Bool.false_ne_true
  | int i =>
    obtain ⟨t, rfl⟩ := rx
    cases y with
    | non => cases ry; exact PySem.EqNone.eq_int_none (fin_bl I q (by simp))
    | int j => obtain ⟨t', rfl⟩ := ry; exact eq_int (fin_bl I q dec_int)
    | str j => obtain ⟨t', rfl⟩ := ry; exact PySem.EqMixed.eq_int_str (fin_bl I q (by simp))
    | _ => exact absurd (show false = true from hs) Bool.false_ne_true
  | str i =>
    obtain ⟨t, rfl⟩ := rx
    cases y with
    | non => cases ry; exact PySem.EqNone.eq_str_none (fin_bl I q (by simp))
    | bl j => cases ry; exact PySem.EqMixed.eq_str_bool (fin_bl I q (by simp))
    | int j => obtain ⟨t', rfl⟩ := ry; exact PySem.EqMixed.eq_str_int (fin_bl I q (by simp))
    | str j => obtain ⟨t', rfl⟩ := ry; exact eq_str (fin_bl I q dec_str)
    | _ => exact absurd (show false = true from hs) Bool.false_ne_true
  | byt i =>
    obtain ⟨t, rfl⟩ := rx
    cases y with
    | byt j => obtain ⟨t', rfl⟩ := ry; exact PySem.W.eq_bytes (fin_bl I q dec_byt)
    | _ => exact absurd (show false = true from hs) Bool.false_ne_true
  | _ => cases y <;> exact absurd (show false = true from hs) Bool.false_ne_true
theorem op_ne : OpR X (compareOp .NotEq) rNe := by
  intro pins s σ H x y v u Q I rx ry h
  obtain ⟨hs, q⟩ := h
  cases x with
  | non =>
    cases rx
    cases y with
    | non => cases ry; exact PySem.EqNone.ne_none_none (fin_bl I q (by simp))
    | bl j => cases ry; exact PySem.EqNone.ne_none_bool (fin_bl I q (by simp))
    | int j => obtain ⟨t', rfl⟩ := ry; exact PySem.EqNone.ne_none_int (fin_bl I q (by simp))
    | str j => obtain ⟨t', rfl⟩ := ry; exact PySem.EqNone.ne_none_str (fin_bl I q (by simp))
    | _ => exact absurd (show false = true from hs) Bool.false_ne_true
  | bl i =>
    cases rx
    cases y with
    | non => cases ry; exact PySem.EqNone.ne_bool_none (fin_bl I q (by simp))
    | bl j => cases ry; exact ne_bool (fin_bl I q (congrArg not dec_bl))
    | str j => obtain ⟨t', rfl⟩ := ry; exact PySem.EqMixed.ne_bool_str (fin_bl I q (by simp))
    | _ => exact absurd (show false = true from hs) Bool.false_ne_true
  | int i =>
    obtain ⟨t, rfl⟩ := rx
    cases y with
    | non => cases ry; exact PySem.EqNone.ne_int_none (fin_bl I q (by simp))
    | int j => obtain ⟨t', rfl⟩ := ry; exact ne_int (fin_bl I q (congrArg not dec_int))
    | str j => obtain ⟨t', rfl⟩ := ry; exact PySem.EqMixed.ne_int_str (fin_bl I q (by simp))
    | _ => exact absurd (show false = true from hs) Bool.false_ne_true
  | str i =>
    obtain ⟨t, rfl⟩ := rx
    cases y with
    | non => cases ry; exact PySem.EqNone.ne_str_none (fin_bl I q (by simp))
    | bl j => cases ry; exact PySem.EqMixed.ne_str_bool (fin_bl I q (by simp))
    | int j => obtain ⟨t', rfl⟩ := ry; exact PySem.EqMixed.ne_str_int (fin_bl I q (by simp))
    | str j => obtain ⟨t', rfl⟩ := ry; exact ne_str (fin_bl I q (congrArg not dec_str))
    | _ => exact absurd (show false = true from hs) Bool.false_ne_true
  | byt i =>
    obtain ⟨t, rfl⟩ := rx
    cases y with
    | byt j => obtain ⟨t', rfl⟩ := ry; exact PySem.W.ne_bytes (fin_bl I q (congrArg not dec_byt))
    | _ => exact absurd (show false = true from hs) Bool.false_ne_true
  | _ => cases y <;> exact absurd (show false = true from hs) Bool.false_ne_true

theorem op_lt : OpR X (compareOp .Lt) (rI0 fun i j => .bl (decide (i < j))) := opB0 fun _ _ _ _ _ _ _ q => lt_int q
theorem op_le : OpR X (compareOp .LtE) (rI0 fun i j => .bl (decide (i ≤ j))) := opB0 fun _ _ _ _ _ _ _ q => le_int q
theorem op_gt : OpR X (compareOp .Gt) (rI0 fun i j => .bl (decide (j < i))) := opB0 fun _ _ _ _ _ _ _ q => gt_int q
theorem op_ge : OpR X (compareOp .GtE) (rI0 fun i j => .bl (decide (j ≤ i))) := opB0 fun _ _ _ _ _ _ _ q => ge_int q
/-- two rules for one operation: by cases -/
theorem OpR.or {f : Value → Value → Sem Value} {r r' : R2} (h : OpR X f r) (h' : OpR X f r') : OpR X f (fun x y H Q => r x y H Q ∨ r' x y H Q) := by
  intro pins s σ H x y v u Q I rx ry q
  rcases q with q | q
  · exact h pins s σ H x y v u Q I rx ry q
  · exact h' pins s σ H x y v u Q I rx ry q

theorem nomark (b : Expr) {op : CmpOp} (h : op ≠ .In := by decide) (h2 : op ≠ .NotIn := by decide) : behindInMarks op b = false := by
  have e1 : (op == CmpOp.In) = false := by cases op <;> first | rfl | exact absurd rfl h
  have e2 : (op == CmpOp.NotIn) = false := by cases op <;> first | rfl | exact absurd rfl h2
  cases b <;> simp [behindInMarks, e1, e2]
/-- a comparison as a value; hm: nomark b, or (for in, not in) by with_unfolding_all rfl -/
theorem pe_cmpR {op : CmpOp} {r : R2} (ho : OpR X (compareOp op) r) (ha : PE X a ta) (hb : PE X b tb) (hm : behindInMarks op b = false) : PE X (.Compare a [op] [b] pos) (tOp r ta tb) := by
  intro pins s σ H Q I h
  exact wpAny_Compare1 (binT ha hb I h fun v u s2 x y H2 I2 rx ry q => ho pins s2 σ H2 x y v u Q I2 rx ry q) hm
/-- a reading of a value as a test -/
def tTest (t : TE) : TT := fun σ H Q => t σ H fun x H' => ∃ k, x = .bl k ∧ Q k H'
theorem pt_cmpR {op : CmpOp} {r : R2} (ho : OpR X (compareOp op) r) (ha : PE X a ta) (hb : PE X b tb) (hm : behindInMarks op b = false) : PT X (.Compare a [op] [b] pos) (tTest (tOp r ta tb)) := by
  intro pins s σ H Q I h
  refine wpAny_isTrue_Compare1 (thn (ha pins s σ H _ I h) fun v s1 ⟨x, H1, I1, r1, q1⟩ => thn (hb pins s1 σ H1 _ I1 q1) fun u s2 ⟨y, H2, I2, r2, q2⟩ =>
    thn (ho pins s2 σ H2 x y v u _ I2 r1 r2 q2) fun c s3 ⟨z, H3, I3, r3, k, e, q3⟩ => ?_) hm
  subst e
  cases r3
  exact wpAny_truthy_bool ⟨H3, I3, q3⟩
/-! ### truth -/
/-- a value's truth by the abstract heap -/
def TruV (K : PySem.W.Frag) (x : V) (H : Hp) (k : Bool) : Prop :=
  match x with
  | .non => k = false
  | .bl b => k = b
  | .int i => k = (i != 0)
  | .str y => y.length ≤ sizeLine ∧ k = ((y.length : Int) != 0)
  | .byt y => y.size ≤ sizeLine ∧ k = ((y.size : Int) != 0)
  | .ref p => (∃ xs, SqL K H p xs ∧ k = !xs.isEmpty) ∨ (∃ xs, SqT K H p xs ∧ k = !xs.isEmpty) ∨ ∃ kvs, H p = some (.dK kvs) ∧ k = !kvs.isEmpty
  | _ => False
theorem isEmpty_kv {κ : Type} {kvs : List (κ × V)} {vs : List (κ × Value)} (r : KV kvs vs) : (!vs.isEmpty) = !kvs.isEmpty := by
  cases r <;> rfl
theorem isEmpty_of {xs : List V} {its : List Value} (r : Vals xs its) : (!its.toArray.isEmpty) = !xs.isEmpty := by
  cases r <;> simp
theorem line63 : (sizeLine : Nat) < 2 ^ 63 := by rw [sizeLine_eq]; decide
theorem tru_ok : TruR X (fun x H Q => ∃ k, TruV X.K x H k ∧ Q k H) := by
  intro pins s σ H x v Q I rx h
  obtain ⟨k, e, q⟩ := h
  have hl := line63
  have hs : sizeLine = 16777216 := sizeLine_eq
  cases x with
  | non =>
    cases rx
    have e' : k = false := e
    subst e'
    exact truthy_none ⟨H, I, q⟩
  | bl b =>
    cases rx
    have e' : k = b := e
    subst e'
    exact wpAny_truthy_bool ⟨H, I, q⟩
  | int i =>
    obtain ⟨t, rfl⟩ := rx
    have e' : k = (i != 0) := e
    subst e'
    exact PySem.P.truthy_int ⟨H, I, q⟩
  | str y =>
    obtain ⟨t, rfl⟩ := rx
    obtain ⟨hy, e'⟩ : y.length ≤ sizeLine ∧ k = ((y.length : Int) != 0) := e
    subst e'
    exact PySem.P.truthy_str (by omega) ⟨H, I.tok _, q⟩
  | byt y =>
    obtain ⟨t, rfl⟩ := rx
    obtain ⟨hy, e'⟩ : y.size ≤ sizeLine ∧ k = ((y.size : Int) != 0) := e
    subst e'
    exact PySem.W.truthy_bytes (by omega) ⟨H, I.tok _, q⟩
  | ref p =>
    cases rx
    have e' : (∃ xs, SqL X.K H p xs ∧ k = !xs.isEmpty) ∨ (∃ xs, SqT X.K H p xs ∧ k = !xs.isEmpty) ∨ ∃ kvs, H p = some (.dK kvs) ∧ k = !kvs.isEmpty := e
    rcases e' with ⟨xs, hx, e'⟩ | ⟨xs, hx, e'⟩ | ⟨kvs, hx, e'⟩
    · subst e'
      obtain ⟨its, r, pl, hz⟩ := I.list hx
      have hlen := r.length
      exact wpAny_truthy_list pl.isList (by simp only [List.size_toArray]; omega) ⟨H, I.tok _, by rw [isEmpty_of r]; exact q⟩
    · subst e'
      obtain ⟨its, r, pl, hz⟩ := I.tuple hx
      have hlen := r.length
      exact truthy_tuple pl (by simp only [List.size_toArray]; omega) ⟨H, I.tok _, by rw [isEmpty_of r]; exact q⟩
    · subst e'
      obtain ⟨hz, hS, vs, r, m⟩ : kvs.length ≤ sizeLine ∧ (p == sysModules) = false ∧ ∃ vs, KV kvs vs ∧ s.heap.DictOf (mixKind X.prog X.w) p vs := I.hok p _ hx
      have hlen : kvs.length = vs.length := Paired.length r
      exact wpAny_truthy_dict hS m (by omega) ⟨H, I.tok _, by rw [isEmpty_kv r]; exact q⟩
  | _ => exact (show False from e).elim
/-- any expression whose test is its value's truth (a name, a call, a subscript, a field ..: he by fun _ => rfl) -/
theorem pt_truth (ha : PE X a ta) (he : ∀ whole, isTrue a X.env whole = (do let v ← whole; standAt a.pos; holding [v] (truthy v))) :
    PT X a (fun σ H Q => ta σ H fun x H' => ∃ k, TruV X.K x H' k ∧ Q k H') := by
  intro pins s σ H Q I h
  exact isTrue_plain (thn (ha pins s σ H _ I h) fun v s1 ⟨x, H1, I1, r1, q1⟩ => tru_ok pins s1 σ H1 x v Q I1 r1 q1) (he _)

/-! ### strs and bytes -/
/-! ### scalar builtins, by CallR -/
theorem vals1 {x : V} {us : List Value} (r : Vals [x] us) : ∃ u, us = [u] ∧ RelV x u := by
  cases r with
  | cons r1 r2 => cases r2; exact ⟨_, rfl, r1⟩
theorem vals2 {x y : V} {us : List Value} (r : Vals [x, y] us) : ∃ u w', us = [u, w'] ∧ RelV x u ∧ RelV y w' := by
  cases r with
  | cons r1 r2 =>
    cases r2 with
    | cons r3 r4 => cases r4; exact ⟨_, _, rfl, r1, r3⟩
theorem call_max2 (hc : X.calm = true) : CallR X (.builtin "max") (fun xs H Q => ∃ i j, xs = [.int i, .int j] ∧ Q (.int (if j > i then j else i)) H) := by
  intro pins s σ H xs us Q I r h
  obtain ⟨i, j, rfl, q⟩ := h
  obtain ⟨u, w', rfl, ⟨t, rfl⟩, ⟨t', rfl⟩⟩ := vals2 r
  refine max_two_ints (I.ok.hd hc) fun h' tk k => ⟨_, H, I.kept k, ?_, q⟩
  by_cases hj : j > i
  · rw [if_pos hj, if_pos hj]; exact ⟨_, rfl⟩
  · rw [if_neg hj, if_neg hj]; exact ⟨_, rfl⟩
theorem call_min2 (hc : X.calm = true) : CallR X (.builtin "min") (fun xs H Q => ∃ i j, xs = [.int i, .int j] ∧ Q (.int (if j < i then j else i)) H) := by
  intro pins s σ H xs us Q I r h
  obtain ⟨i, j, rfl, q⟩ := h
  obtain ⟨u, w', rfl, ⟨t, rfl⟩, ⟨t', rfl⟩⟩ := vals2 r
  refine min_two_ints (I.ok.hd hc) fun h' tk k => ⟨_, H, I.kept k, ?_, q⟩
  by_cases hj : j < i
  · rw [if_pos hj, if_pos hj]; exact ⟨_, rfl⟩
  · rw [if_neg hj, if_neg hj]; exact ⟨_, rfl⟩
theorem call_int1 : CallR X (.type "int") (fun xs H Q => (∃ i, xs = [.int i] ∧ Q (.int i) H) ∨ ∃ k, xs = [.bl k] ∧ Q (.int (if k then 1 else 0)) H) := by
  intro pins s σ H xs us Q I r h
  rcases h with ⟨i, rfl, q⟩ | ⟨k, rfl, q⟩
  · obtain ⟨u, rfl, t, rfl⟩ := vals1 r
    exact call_int_int ⟨.int i, H, I, ⟨_, rfl⟩, q⟩
  · obtain ⟨u, rfl, r1⟩ := vals1 r
    cases r1
    exact call_int_bool ⟨.int (if k then 1 else 0), H, I.tok _, ⟨_, rfl⟩, q⟩
end
end L2

namespace L2
open PySem PySem.Spec PyProof.Rows

/-! ### an instance, its attributes a map -/
structure ObjM (h : Heap) (x dx C : Addr) (mA : Str → Option Value) : Prop where
  obj : h.get? x = some (PySem.W.instObj C dx)
  ns : h.Ns1 dx mA
  ne : dx ≠ x

theorem lookIn_ns {h : Heap} {dx : Addr} {mA : Str → Option Value} (n : h.Ns1 dx mA) : ∃ od, h.get? dx = some od ∧ ∀ name, PySem.W.lookIn name od = some (mA name) := by
  obtain ⟨o, es, ep, ho, hd, hk, _, hm⟩ := n
  refine ⟨o, ho, fun name => ?_⟩
  have e := hm name
  unfold nsFind findBy at e
  rw [← Array.find?_toList] at e
  unfold PySem.W.lookIn
  rw [hd]
  dsimp only
  split
  · rename_i y q
    rw [q] at e
    exact congrArg some e
  · rename_i q
    rw [q] at e
    have a : es.toList.any (·.refKey) = false := by
      rw [List.any_eq_false]
      intro y hy
      obtain ⟨z, t, hkey⟩ := hk y (Array.mem_toList_iff.mp hy)
      simp [DictEntry.refKey, hkey]
    have a' : ¬ es.toList.any (·.refKey) = true := by rw [a]; exact Bool.false_ne_true
    rw [if_neg a']
    exact congrArg some e

theorem ObjM.look {h : Heap} {x dx C : Addr} {mA : Str → Option Value} (I : ObjM h x dx C mA) : ∃ od, PySem.W.InstAt h x (PySem.W.instObj C dx) C (some od) ∧ ∀ name, PySem.W.lookIn name od = some (mA name) :=
  let ⟨od, ho, hl⟩ := lookIn_ns I.ns
  ⟨od, ⟨I.obj, rfl, rfl, ho⟩, hl⟩

section
variable {prog : Program} {w : World} {A : Around} {E : Value → Shared → Prop} {s : Shared} {K : PySem.W.Frag} {x dx C f : Addr} {mA : Str → Option Value} {name : Str} {v : Value}

theorem get_map {expr : Bool} {Q : Value → Shared → Prop} (X : K.In s.heap) (I : ObjM s.heap x dx C mA) (hg : PySem.W.plainGet K C name = true) (hh : PySem.W.hasDictIn K C = true)
    (ha : PySem.W.findIn K (.ref C) name = some none) (hv : mA name = some v) (hv' : PySem.W.handedIn v = true) (h : Q v { s with toks := s.toks + 1 }) :
    wpAny (model prog w) A (getAttr (.ref x) name expr) Q E s := by
  obtain ⟨od, J, hl⟩ := I.look
  exact PySem.W.get_value X J (PySem.W.plainGet_of hg).1 (PySem.W.findObj_own hh ha rfl (by rw [hl, hv])) hv' h

theorem get_meth {pl : Sem Bool} {Q : Value × List Value → Shared → Prop} (X : K.In s.heap) (I : ObjM s.heap x dx C mA) (hg : PySem.W.plainGet K C name = true)
    (hf : PySem.W.findIn K (.ref C) name = some (some (.ref f))) (ht : PySem.W.isFn K (.ref f) = true) (hv : mA name = none) (h : Q (.ref f, [.ref x]) s) :
    wpAny (model prog w) A (getMethod (.ref x) name pl) Q E s := by
  obtain ⟨od, J, hl⟩ := I.look
  exact PySem.W.method_fn X J (PySem.W.plainGet_of hg).1 (PySem.W.plainGet_of hg).2 hf (beq_iff_eq.mp ht) (by show (PySem.W.lookIn name od).map (·.isSome) = some false; rw [hl, hv]; rfl) h

theorem set_map {ns : List Str} {Q : Unit → Shared → Prop} (X : K.In s.heap) (I : ObjM s.heap x dx C mA)
    (hs : PySem.W.findIn K (.ref C) "__setattr__" = some (some (.builtin "object.__setattr__"))) (hp : PySem.W.plainOver K C = true) (ht : PySem.W.takerIn K C name = some none) (hh : PySem.W.hasDictIn K C = true)
    (hw : PySem.Within mA ns) (hsz : ns.length ≤ sizeLine)
    (h : ∀ h', ObjM h' x dx C (fun y => if y = name then some v else mA y) → Heap.SameBut dx s.heap h' → Q () { s with heap := h', toks := s.toks + 2 }) :
    wpAny (model prog w) A (setAttr (.ref x) name v) Q E s := by
  obtain ⟨od, J, hl⟩ := I.look
  refine PySem.W.set_plain X J hs (PySem.W.osa_open (s := { s with toks := s.toks + 1 }) (r := none) X J hp ht fun b => ?_)
  obtain ⟨cd, hc, hd'⟩ := PySem.W.any_some hh
  have hx : s.heap.get? x = some ⟨.ref C, some dx, .plain, #[]⟩ := I.obj
  refine wpAny_bind (wpAny_pure (wpAny_bind (wpAny_bind (wpAny_loadPart hx (wpAny_bind (PySem.W.Looks.here (s := { s with toks := s.toks + 1 }) (PySem.W.looks_clsIn X hc) ?_))))))
  rw [hd']
  refine wpAny_pure (a := some dx) (wpAny_bind (wpAny_pure (wpAny_bind ?_)))
  refine wpAny_nsSet1 (s := { s with toks := s.toks + 1 }) I.ns fun h' hn2 hs2 => ?_
  obtain ⟨oD, esD, epD, hoD, hdD, hcD⟩ := hn2.count (PySem.Within.cons name v hw)
  refine wpAny_bind (wpAny_lookBehind hoD (by rw [hdD]; exact pastItsLine_dict (Nat.le_trans hcD (by rw [List.length_cons]; omega))) ?_)
  exact wpAny_pure (h _ ⟨(hs2.2 _ (Ne.symm I.ne)).trans I.obj, hn2, I.ne⟩ hs2)

/-- C(..): the dict at the heap's end, the instance behind it; then its __init__ -/
theorem make_map {R : Result → Shared → Prop} {vs : List Value} {kw : List (Str × Value)} (X : K.In s.heap) (hm : PySem.W.makesIn K C = true)
    (hi : PySem.W.findIn K (.ref C) "__init__" = some (some (.ref f))) (hf : PySem.W.typeIn K (.ref f) = some (.type "function"))
    (h : codeAny (model prog w) (A.under (.builtin "type.__call__" ⟨.ref C :: vs, kw⟩)) (.call (.ref f) ⟨.ref (s.heap.objs.size + 1) :: vs, kw⟩) (PySem.W.InitBack (s.heap.objs.size + 1) R)
      { s with heap := (s.heap.push PySem.W.emptyDict).push (PySem.W.instObj C s.heap.objs.size) }) :
    codeAny (model prog w) A (.call (.ref C) ⟨vs, kw⟩) R s := by
  obtain ⟨hh, g, d, t, os⟩ := s
  exact PySem.W.make_core (PySem.W.makes_of X hm) (PySem.W.looks_findIn X hi) (fun self => PySem.W.bind_fn X self hf) (.inl rfl) h
end

/-! ### the attributes as a list of pairs -/
def putF (f : Str) (v : V) : List (Str × V) → List (Str × V)
  | [] => [(f, v)]
  | (g, x) :: r => if g = f then (g, v) :: r else (g, x) :: putF f v r
theorem lookup_putF (f g : Str) (v : V) : ∀ fs : List (Str × V), (putF f v fs).lookup g = if g = f then some v else fs.lookup g
  | [] => by
    show List.lookup g [(f, v)] = _
    by_cases h : g = f
    · have hb : (g == f) = true := beq_iff_eq.mpr h
      simp only [List.lookup, hb, if_pos h]
    · have hb : (g == f) = false := beq_eq_false_iff_ne.mpr h
      simp only [List.lookup, hb, if_neg h]
  | (k, x) :: r => by
    have ih := lookup_putF f g v r
    rw [show putF f v ((k, x) :: r) = (if k = f then (k, v) :: r else (k, x) :: putF f v r) from rfl]
    by_cases hk : k = f
    · rw [if_pos hk]
      by_cases h : g = k
      · have hb : (g == k) = true := beq_iff_eq.mpr h
        simp only [List.lookup, hb, if_pos (h.trans hk)]
      · have hb : (g == k) = false := beq_eq_false_iff_ne.mpr h
        simp only [List.lookup, hb, if_neg (fun e : g = f => h (e.trans hk.symm))]
    · rw [if_neg hk]
      by_cases h : g = k
      · have hb : (g == k) = true := beq_iff_eq.mpr h
        simp only [List.lookup, hb, if_neg (fun e : g = f => hk (h.symm.trans e))]
      · have hb : (g == k) = false := beq_eq_false_iff_ne.mpr h
        simp only [List.lookup, hb]
        exact ih
theorem keys_putF (f : Str) (v : V) : ∀ fs : List (Str × V), f ∈ (putF f v fs).map (·.1) ∧ ∀ g, g ∈ fs.map (·.1) → g ∈ (putF f v fs).map (·.1)
  | [] => ⟨by simp [putF], fun g h => by simp at h⟩
  | (k, x) :: r => by
    obtain ⟨i1, i2⟩ := keys_putF f v r
    rw [show putF f v ((k, x) :: r) = (if k = f then (k, v) :: r else (k, x) :: putF f v r) from rfl]
    by_cases hk : k = f
    · rw [if_pos hk]
      subst hk
      exact ⟨by simp, fun g h => by simpa using h⟩
    · rw [if_neg hk]
      refine ⟨?_, fun g h => ?_⟩
      · rw [List.map_cons]
        exact List.mem_cons_of_mem _ i1
      · rw [List.map_cons] at h ⊢
        rcases List.mem_cons.mp h with e | e
        · exact List.mem_cons.mpr (.inl e)
        · exact List.mem_cons_of_mem _ (i2 g e)
theorem length_putF (f : Str) (v : V) : ∀ fs : List (Str × V), (putF f v fs).length ≤ fs.length + 1
  | [] => by simp [putF]
  | (k, x) :: r => by
    have ih := length_putF f v r
    rw [show putF f v ((k, x) :: r) = (if k = f then (k, v) :: r else (k, x) :: putF f v r) from rfl]
    by_cases hk : k = f
    · rw [if_pos hk, List.length_cons, List.length_cons]; omega
    · rw [if_neg hk, List.length_cons, List.length_cons]; omega

theorem RelO.some_of {v : V} {o : Option Value} (r : RelO (some v) o) : ∃ u, o = some u ∧ RelV v u := by
  cases o with
  | none => exact (show False from r).elim
  | some u => exact ⟨u, rfl, r⟩
theorem RelO.none_of {o : Option Value} (r : RelO none o) : o = none := by
  cases o with
  | none => rfl
  | some u => exact (show False from r).elim
theorem handed_of {v : V} {u : Value} (r : RelV v u) : PySem.W.handedIn u = true := by
  cases v with
  | non => cases (show u = Value.none from r); rfl
  | bl b => cases (show u = Value.bool b from r); rfl
  | int i => obtain ⟨t, e⟩ := (show ∃ t, u = Value.int i t from r); cases e; rfl
  | str x => obtain ⟨t, e⟩ := (show ∃ t, u = Value.str x t from r); cases e; rfl
  | byt b => obtain ⟨t, e⟩ := (show ∃ t, u = Value.bytes b t from r); cases e; rfl
  | flt b => obtain ⟨t, e⟩ := (show ∃ t, u = Value.float b t from r); cases e; rfl
  | ref a => cases (show u = Value.ref a from r); rfl
  | ty n => cases (show u = Value.type n from r); rfl

section
variable {P : Program} {w : World} {H H' : Hp} {h h' : Heap} {a C dx : Addr} {fs fs' : List (Str × V)}
theorem ins_get (hok : HOk P w H h) (e : H a = some (.ins C dx fs)) : ∃ mA, ObjM h a dx C mA ∧ (∀ f, RelO (fs.lookup f) (mA f)) ∧ PySem.Within mA (fs.map (·.1)) ∧ fs.length ≤ 1000 ∧ H dx = some (.own a) := by
  obtain ⟨d, z, ne, ob, mA, n, r, q⟩ := (show ObjOk P w H h a (.ins C dx fs) from hok a _ e)
  exact ⟨mA, ⟨ob, n, ne⟩, r, q, z, d⟩
end

/-! ### what of the text a class must have -/
structure Cls (K : PySem.W.Frag) (C : Addr) : Prop where
  pg : PySem.W.plainGet K C Str.empty = true
  hd : PySem.W.hasDictIn K C = true
  po : PySem.W.plainOver K C = true
  sa : PySem.W.findIn K (.ref C) "__setattr__" = some (some (.builtin "object.__setattr__"))
theorem Cls.get {K : PySem.W.Frag} {C : Addr} (c : Cls K C) (f : Str) : PySem.W.plainGet K C f = true := c.pg
/-- no class of it has the name -/
def NoAttr (K : PySem.W.Frag) (C : Addr) (f : Str) : Prop := PySem.W.findIn K (.ref C) f = some none
theorem NoAttr.taker {K : PySem.W.Frag} {C : Addr} {f : Str} (n : NoAttr K C f) : PySem.W.takerIn K C f = some none := by
  unfold PySem.W.takerIn
  rw [show PySem.W.findIn K (.ref C) f = some none from n]
  rfl
/-- a constant of the class -/
structure Con (K : PySem.W.Frag) (C : Addr) (f : Str) (v : V) (u : Value) : Prop where
  at_ : PySem.W.findIn K (.ref C) f = some (some u)
  rel : RelV v u
  get : PySem.W.specialIn K u "__get__" = some none
  cp : PySem.W.copiedNames.contains f = false
/-- a method: a plain def of the class or of one above it -/
structure Meth (K : PySem.W.Frag) (C : Addr) (m : Str) (f : Addr) : Prop where
  at_ : PySem.W.findIn K (.ref C) m = some (some (.ref f))
  fn : PySem.W.isFn K (.ref f) = true
  kp : PySem.W.keepIn K (.ref f) = true

section
variable {X : Cx} {pins : List (Addr × Obj)} {σ : St} {H : Hp} {s : Shared} {a C dx : Addr} {fs : List (Str × V)} {f : Str} {v : V} {A : Around} {E : Value → Shared → Prop}

theorem getattr_ok {b : Bool} {Q : Value → Shared → Prop} (I : Inv X pins σ H s) (e : H a = some (.ins C dx fs)) (c : Cls X.K C) (n : NoAttr X.K C f) (l : fs.lookup f = some v)
    (h : ∀ u s', Inv X pins σ H s' → RelV v u → Q u s') : wpAny (model X.prog X.w) A (getAttr (.ref a) f b) Q E s := by
  obtain ⟨mA, O, r, _, _, _⟩ := ins_get I.hok e
  obtain ⟨u, hu, ru⟩ := RelO.some_of (v := v) (o := mA f) (by rw [← l]; exact r f)
  exact get_map I.kIn O (c.get f) c.hd n hu (handed_of ru) (h u _ (I.tok _) ru)

theorem getmeth_ok {m : Str} {g : Addr} {pl : Sem Bool} {Q : Value × List Value → Shared → Prop} (I : Inv X pins σ H s) (e : H a = some (.ins C dx fs)) (c : Cls X.K C) (k : Meth X.K C m g) (l : fs.lookup m = none)
    (h : Q (.ref g, [.ref a]) s) : wpAny (model X.prog X.w) A (getMethod (.ref a) m pl) Q E s := by
  obtain ⟨mA, O, r, _, _, _⟩ := ins_get I.hok e
  have hn : mA m = none := RelO.none_of (by rw [← l]; exact r m)
  exact get_meth I.kIn O (c.get m) k.at_ k.fn hn h

theorem setattr_ok {y : V} {u : Value} {Q : Unit → Shared → Prop} (I : Inv X pins σ H s) (e : H a = some (.ins C dx fs)) (c : Cls X.K C) (n : NoAttr X.K C f) (hl : fs.length < 1000) (ry : RelV y u)
    (h : ∀ s', Inv X pins σ (upd H a (.ins C dx (putF f y fs))) s' → Q () s') : wpAny (model X.prog X.w) A (setAttr (.ref a) f u) Q E s := by
  obtain ⟨mA, O, r, wi, _, ho⟩ := ins_get I.hok e
  have hz : (fs.map (·.1)).length ≤ sizeLine := by rw [List.length_map, sizeLine_eq]; omega
  refine set_map I.kIn O c.sa c.po n.taker c.hd wi hz fun h' O' sb => h _ ?_
  have hd : ∃ o, h'.get? dx = some o := let ⟨o, _, _, e', _⟩ := O'.ns; ⟨o, e'⟩
  refine I.write (x := a) (e := dx) (by rw [e]; exact True.intro) (.inr ho) (fun b q hb z => (sb.2 b hb).trans z) hd ?_
  refine ⟨by rw [upd_ne O.ne]; exact ho, ?_, O.ne, O'.obj, _, O'.ns, fun g => ?_, fun g hg => ?_⟩
  · have := length_putF f y fs; omega
  · show RelO ((putF f y fs).lookup g) (if g = f then some u else mA g)
    rw [lookup_putF]
    by_cases q : g = f
    · rw [if_pos q, if_pos q]; exact ry
    · rw [if_neg q, if_neg q]; exact r g
  · by_cases q : g = f
    · rw [q]; exact (keys_putF f y fs).1
    · refine (keys_putF f y fs).2 g (wi g fun z => hg ?_)
      show (if g = f then some u else mA g) = none
      rw [if_neg q]; exact z

/-- a new instance, tracked, without attributes -/
theorem Inv.made (I : Inv X pins σ H s) : Inv X pins σ (upd (upd H s.heap.objs.size (.own (s.heap.objs.size + 1))) (s.heap.objs.size + 1) (.ins C s.heap.objs.size []))
    { s with heap := (s.heap.push PySem.W.emptyDict).push (PySem.W.instObj C s.heap.objs.size) } := by
  have e1 : (s.heap.push PySem.W.emptyDict).get? s.heap.objs.size = some PySem.W.emptyDict := Heap.get?_push_size s.heap rfl
  have e2 : ((s.heap.push PySem.W.emptyDict).push (PySem.W.instObj C s.heap.objs.size)).get? (s.heap.objs.size + 1) = some (PySem.W.instObj C s.heap.objs.size) := by
    have := Heap.get?_push_size (s.heap.push PySem.W.emptyDict) (o := PySem.W.instObj C s.heap.objs.size) rfl
    rwa [Heap.size_push] at this
  have e3 : (s.heap.push PySem.W.emptyDict).Ns s.heap.objs.size (fun _ => none) := ⟨PySem.W.emptyDict, #[], _, e1, rfl, (fun e he => absurd he (by simp)), fun _ => rfl⟩
  have I1 := I.laid (a := s.heap.objs.size) (o := .own (s.heap.objs.size + 1)) (h' := s.heap.push PySem.W.emptyDict) (t' := s.toks) (fun b u q => Heap.get?_push_of_some _ q) (Nat.le_refl _) ⟨_, e1⟩
  refine I1.laid (a := s.heap.objs.size + 1) (o := .ins C s.heap.objs.size []) (t' := s.toks) (fun b u q => Heap.get?_push_of_some _ q) (Nat.le_of_eq (Heap.size_push _ _)) ?_
  have ne : s.heap.objs.size ≠ s.heap.objs.size + 1 := Nat.ne_of_lt (Nat.lt_succ_self _)
  refine ⟨by rw [upd_ne ne, upd_same], Nat.zero_le _, ne, e2, fun _ => none, (Heap.Ns1.of_empty e3).at fun o q => Heap.get?_push_of_some _ q, fun _ => True.intro, fun y hy => absurd rfl hy⟩

/-- e.f where nothing but the object is asked: through attributeBase (super) and the last hold -/
theorem attr_of {prog : Program} {w : World} {env : Env} {e : Expr} {f : Str} {pos : Pos} {s : Shared} {Q : Value → Shared → Prop} (hb : attributeBase e f env (eval e env) = eval e env)
    (h : wpAny (model prog w) A (eval e env) (fun o s₁ => wpAny (model prog w) A (getAttr o f true) Q E s₁) E s) : wpAny (model prog w) A (eval (.Attribute e f pos) env) Q E s :=
  Attribute_any_ h (by rw [arm_eval_Attribute, hb])
end

/-! ### readings and rules -/
/-- e.f, an attribute of the instance -/
def tFld (K : PySem.W.Frag) (ta : TE) (f : Str) : TE := fun σ H Q => ta σ H fun x H1 => ∃ a C dx fs v, x = .ref a ∧ H1 a = some (.ins C dx fs) ∧ Cls K C ∧ NoAttr K C f ∧ fs.lookup f = some v ∧ Q v H1
/-- e.f = value -/
def sFld (K : PySem.W.Frag) (ta tv : TE) (f : Str) : TS := fun D σ H => tv σ H fun y H1 => ta σ H1 fun x H2 => ∃ a C dx fs, x = .ref a ∧ H2 a = some (.ins C dx fs) ∧ Cls K C ∧ NoAttr K C f ∧ fs.length < 1000 ∧
  D.nx σ (upd H2 a (.ins C dx (putF f y fs)))
/-- an augmented operator on two values -/
def InOp (X : Cx) (op : Operator) (rd : V → V → Hp → VK → Prop) : Prop :=
  ∀ (pins : List (Addr × Obj)) (s : Shared) (σ : St) (H : Hp) (x y : V) (u v : Value) (Q : VK), Inv X pins σ H s → RelV x u → RelV y v → rd x y H Q → wpAny (model X.prog X.w) X.A (inplaceOp op u v) (EP X pins σ Q) X.xe s
/-- e.f op= value -/
def sFldAug (K : PySem.W.Frag) (ta tv : TE) (rd : V → V → Hp → VK → Prop) (f : Str) : TS := fun D σ H => ta σ H fun x H1 => ∃ a C dx fs v, x = .ref a ∧ H1 a = some (.ins C dx fs) ∧ Cls K C ∧ NoAttr K C f ∧ fs.lookup f = some v ∧
  tv σ H1 fun y H2 => rd v y H2 fun z H3 => ∃ dx' fs', H3 a = some (.ins C dx' fs') ∧ fs'.length < 1000 ∧ D.nx σ (upd H3 a (.ins C dx' (putF f z fs')))

section
variable {X : Cx} {o e value : Expr} {f : Str} {pos pos' tpos : Pos} {ta tv : TE}
theorem pe_fld (he : PE X e ta) (hb : attributeBase e f X.env (eval e X.env) = eval e X.env) : PE X (.Attribute e f pos) (tFld X.K ta f) := by
  intro pins s σ H Q I h
  refine attr_of hb (thn (he pins s σ H _ I h) fun u s1 ⟨x, H1, I1, rx, a, C, dx, fs, v, ex, ea, c, n, l, q⟩ => ?_)
  subst ex
  obtain rfl : u = Value.ref a := rx
  exact getattr_ok I1 ea c n l fun u' s2 I2 ru => ⟨v, H1, I2, ru, q⟩
theorem ps_fld (ha : PE X o ta) (hv : PE X value tv) (hs : swapsWith value (some (.Attribute o f pos')) pos.line X.env = pure false) : PS X (.Assign [.Attribute o f pos'] value pos) (sFld X.K ta tv f) := by
  intro pins s σ H D I h
  refine plainObj_wpAny_Assign_Attribute (thn (hv pins s σ H _ I h) fun u s1 ⟨y, H1, I1, ry, q⟩ => thn (ha pins s1 σ H1 _ I1 q) fun ov s2 ⟨x, H2, I2, rx, a, C, dx, fs, ex, ea, c, n, l, q2⟩ => ?_) hs
  subst ex
  obtain rfl : ov = Value.ref a := rx
  exact setattr_ok I2 ea c n l ry fun s3 I3 => ⟨σ, _, I3, q2⟩
theorem ps_fldaug {op : Operator} {rd : V → V → Hp → VK → Prop} (ha : PE X o ta) (hv : PE X value tv) (hop : InOp X op rd) : PS X (.AugAssign (.Attribute o f tpos) op value pos) (sFldAug X.K ta tv rd f) := by
  intro pins s σ H D I h
  refine wpAny_AugAssign_AttributeAny (thn (ha pins s σ H _ I h) fun ov s1 ⟨x, H1, I1, rx, a, C, dx, fs, v, ex, ea, c, n, l, q⟩ => ?_)
  subst ex
  obtain rfl : ov = Value.ref a := rx
  refine getattr_ok I1 ea c n l fun u s2 I2 ru => thn (hv pins s2 σ H1 _ I2 q) fun w3 s3 ⟨y, H2, I3, ry, q3⟩ => thn (hop pins s3 σ H2 v y u w3 _ I3 ru ry q3) fun w4 s4 ⟨z, H3, I4, rz, dx', fs', ea', l', q4⟩ => ?_
  exact setattr_ok I4 ea' c n l' rz fun s5 I5 => ⟨σ, _, I5, q4⟩
def rAdd : V → V → Hp → VK → Prop := fun x y H Q => ∃ i j, x = .int i ∧ y = .int j ∧ Q (.int (i + j)) H
theorem in_add : InOp X .Add rAdd := by
  rintro pins s σ H x y u v Q I rx ry ⟨i, j, rfl, rfl, q⟩
  obtain ⟨t, rfl⟩ := (show ∃ t, u = Value.int i t from rx)
  obtain ⟨t', rfl⟩ := (show ∃ t', v = Value.int j t' from ry)
  exact PyProof.Rows.iadd_int ⟨.int (i + j), H, I.tok _, ⟨_, rfl⟩, q⟩
end

/-! ### isinstance -/
section
variable {X : Cx} {pins : List (Addr × Obj)} {σ : St} {H : Hp} {s : Shared} {A : Around} {E : Value → Shared → Prop} {Q : Value → Shared → Prop} {c : Value} {b : Bool}
/-- the type of a value, as the fragment's deciders take it; for an instance its class -/
inductive TyOf (K : PySem.W.Frag) (H : Hp) : V → Value → Prop where
  | non : TyOf K H .non (.type "NoneType")
  | bl (x : Bool) : TyOf K H (.bl x) (.type "bool")
  | int (i : Int) : TyOf K H (.int i) (.type "int")
  | str (x : Str) : TyOf K H (.str x) (.type "str")
  | flt (x : UInt64) : TyOf K H (.flt x) (.type "float")
  | lst {a : Addr} {xs : List V} (e : H a = some (.lst xs)) : TyOf K H (.ref a) (.type "list")
  | frz {a : Addr} {o : Obj} {xs : List V} (e : H a = some (.frz o (.lst xs))) : TyOf K H (.ref a) (.type "list")
  | tup {a : Addr} {xs : List V} (e : H a = some (.tup xs)) : TyOf K H (.ref a) (.type "tuple")
  | dK {a : Addr} {kvs : List (Key × V)} (e : H a = some (.dK kvs)) : TyOf K H (.ref a) (.type "dict")
  | dT {a : Addr} {kvs : List (List Key × V)} (e : H a = some (.dT kvs)) : TyOf K H (.ref a) (.type "dict")
  | ins {a C dx : Addr} {fs : List (Str × V)} (e : H a = some (.ins C dx fs)) (cl : Cls K C) (ha : PySem.W.findIn K (.ref C) "__class__" = some (some (.builtin "object.__class__")))
      (hn : PySem.W.specialIn K (.builtin "object.__class__") "__get__" = some (some (.builtin "getset_descriptor.__get__"))) (htk : PySem.W.takesIn K (.builtin "object.__class__") = some true)
      (hm : PySem.W.mroIn K C (.type "object") = some true) : TyOf K H (.ref a) (.ref C)
/-- isinstance(x, c) for one class c, a built-in or an own one: kitOne's answer -/
theorem isinst_ok {x : V} {u t : Value} (I : Inv X pins σ H s) (rx : RelV x u) (ty : TyOf X.K H x t) (e : PySem.W.kitOne X.K t c = some b) (h : ∀ tk, Q (.bool b) { s with toks := tk }) :
    wpAny (model X.prog X.w) A (call (.builtin "isinstance") [u, c]) Q E s := by
  cases ty with
  | non => cases (show u = Value.none from rx); exact PySem.W.kia_one PySem.W.kitx_none I.kIn True.intro e (fun z => nomatch z) h
  | bl y => cases (show u = Value.bool y from rx); exact PySem.W.kia_one PySem.W.kitx_bool I.kIn True.intro e (fun z => nomatch z) h
  | int i => obtain ⟨t, q⟩ := (show ∃ t, u = Value.int i t from rx); cases q; exact PySem.W.kia_one PySem.W.kitx_int I.kIn True.intro e (fun z => nomatch z) h
  | str y => obtain ⟨t, q⟩ := (show ∃ t, u = Value.str y t from rx); cases q; exact PySem.W.kia_one PySem.W.kitx_str I.kIn True.intro e (fun z => nomatch z) h
  | flt y => obtain ⟨t, q⟩ := (show ∃ t, u = Value.float y t from rx); cases q; exact PySem.W.kia_one PySem.W.kitx_float I.kIn True.intro e (fun z => nomatch z) h
  | @lst a xs ea =>
    cases (show u = Value.ref a from rx)
    obtain ⟨_, _, n, _, h1⟩ := (show ObjOk X.prog X.w H s.heap a (.lst xs) from I.hok a _ ea)
    exact PySem.W.kia_one PySem.W.kitx_list I.kIn ⟨_, h1, rfl⟩ e (fun z => nomatch z) h
  | @frz a ob xs ea =>
    cases (show u = Value.ref a from rx)
    obtain ⟨_, _, _, n, _, h1⟩ := (show ObjOk X.prog X.w H s.heap a (.frz ob (.lst xs)) from I.hok a _ ea)
    exact PySem.W.kia_one PySem.W.kitx_list I.kIn ⟨_, h1, rfl⟩ e (fun z => nomatch z) h
  | @tup a xs ea =>
    cases (show u = Value.ref a from rx)
    obtain ⟨_, _, _, p⟩ := (show ObjOk X.prog X.w H s.heap a (.tup xs) from I.hok a _ ea)
    obtain ⟨o, h1, h2, _⟩ := p
    exact PySem.W.kia_one PySem.W.kitx_tuple I.kIn ⟨o, h1, h2⟩ e (fun z => nomatch z) h
  | @dK a kvs ea =>
    cases (show u = Value.ref a from rx)
    obtain ⟨_, _, vs, _, p⟩ := (show ObjOk X.prog X.w H s.heap a (.dK kvs) from I.hok a _ ea)
    obtain ⟨o, es, ep, h1, h2, _⟩ := p
    exact PySem.W.kia_one PySem.W.kitx_dict I.kIn ⟨o, h1, h2.1⟩ e (fun z => nomatch z) h
  | @dT a kvs ea =>
    cases (show u = Value.ref a from rx)
    obtain ⟨_, _, xs, _, o, es, ep, h1, h2, _⟩ := (show ObjOk X.prog X.w H s.heap a (.dT kvs) from I.hok a _ ea)
    exact PySem.W.kia_one PySem.W.kitx_dict I.kIn ⟨o, h1, h2.1⟩ e (fun z => nomatch z) h
  | @ins a C dx fs ea cl ha hn htk hm =>
    cases (show u = Value.ref a from rx)
    obtain ⟨mA, O, _⟩ := ins_get I.hok ea
    obtain ⟨od, J, _⟩ := O.look
    exact PySem.W.kia_one (PySem.W.kitx_own (cl.get _) cl.hd ha hn htk hm) I.kIn J e (fun z => nomatch z) h
end
end L2

namespace L2
open PySem PySem.Spec PyProof.Rows

/-! ### room -/
structure Room (k : Nat) (A : Around) : Prop where
  hd : A.handled = none
  dp : A.depth + 3 * k + 5 < recursionLimit
  un : A.units + 16 * k + 200 < cLine
theorem Room.mono {j k : Nat} {A : Around} (r : Room k A) (h : j ≤ k) : Room j A := ⟨r.hd, by have := r.dp; omega, by have := r.un; omega⟩
theorem Room.deeper {k : Nat} {A : Around} (r : Room (k + 1) A) (env : Env) : Room k (A.deeper env) :=
  ⟨r.hd, by have := r.dp; show A.depth + 1 + 3 * k + 5 < _; omega, by have := r.un; show A.units + 3 + 16 * k + 200 < _; omega⟩
theorem Room.in1 {k : Nat} {A : Around} (r : Room (k + 1) A) : Room k A.in1 :=
  ⟨r.hd, by have := r.dp; show A.depth + 3 * k + 5 < _; omega, by have := r.un; show A.units + 1 + 16 * k + 200 < _; omega⟩
theorem make_depth {A : Around} {C : Addr} {us : List Value} {kw : List (Str × Value)} : (A.under (.builtin "type.__call__" ⟨.ref C :: us, kw⟩)).depth = A.depth + 1 := by
  first | rfl | simp [Around.under, Code.weight, Code.isCreation, Code.isGuard, Code.isCaller, Code.frames, Code.isFrame, guardIds]
theorem make_units {A : Around} {C : Addr} {us : List Value} {kw : List (Str × Value)} : (A.under (.builtin "type.__call__" ⟨.ref C :: us, kw⟩)).units = A.units + 1 := by
  first | rfl | simp [Around.under, Code.cUnits, Code.frames, Code.isFrame]
theorem Room.make {k : Nat} {A : Around} (r : Room (k + 1) A) (C : Addr) (us : List Value) (kw : List (Str × Value)) : Room k (A.under (.builtin "type.__call__" ⟨.ref C :: us, kw⟩)) :=
  ⟨r.hd, by have := r.dp; rw [make_depth]; omega, by have := r.un; rw [make_units]; omega⟩
theorem Room.depth {k : Nat} {A : Around} (r : Room k A) : A.depth < recursionLimit := by have := r.dp; omega
theorem Room.units {k : Nat} {A : Around} (r : Room k A) : A.units + 64 < cLine := by have := r.un; omega
/-! ### argument lists and displays -/
def tNil : TA := fun _ H Q => Q [] H
def tCons (ta : TE) (tr : TA) : TA := fun σ H Q => ta σ H fun x H1 => tr σ H1 fun xs H2 => Q (x :: xs) H2
section
variable {X : Cx} {e : Expr} {es : List Expr} {te : TE} {t : TA} {pos : Pos}
theorem pa_nil : PA X [] tNil := fun _ _ _ _ H Q I h => Calls.spliced_nil ⟨[], H, I, .nil, h⟩
theorem pa_cons (ha : PE X e te) (hr : PA X es t) (hs : starEach (e :: es) X.env = (false, eval e X.env) :: starEach es X.env := by rfl) : PA X (e :: es) (tCons te t) := by
  intro pos pins s σ H Q I h
  rw [hs]
  show wpAny _ _ (spliced ((false, eval e X.env) :: backTo pos (starEach es X.env))) _ _ s
  refine Calls.spliced_cons (thn (ha pins s σ H _ I h) fun u s1 ⟨x, H1, I1, r1, q1⟩ => ?_)
  exact thn (hr pos pins s1 σ H1 _ I1 q1) fun us s2 ⟨xs, H2, I2, r2, q2⟩ => ⟨x :: xs, H2, I2, .cons r1 r2, q2⟩

/-- a tuple, a list of written items -/
def tTup (t : TA) : TE := fun σ H Q => t σ H fun xs H1 => xs.length ≤ sizeLine ∧ ∀ p, H1 p = none → Q (.ref p) (upd H1 p (.tup xs))
def tLst (t : TA) : TE := fun σ H Q => t σ H fun xs H1 => xs.length ≤ sizeLine ∧ ∀ p, H1 p = none → Q (.ref p) (upd H1 p (.lst xs))
theorem pe_tup {x1} (h : PA X es t) : PE X (.Tuple es x1 pos) (tTup t) := by
  intro pins s σ H Q I hq
  refine wpAny_Tuple_spliced (thn (h pos pins s σ H _ I hq) fun us s1 ⟨xs, H1, I1, r, z, q⟩ => ⟨by rw [← r.length]; exact z, ?_⟩)
  have hf : H1 s1.heap.objs.size = none := I1.hok.fresh (Nat.le_refl _)
  refine ⟨.ref s1.heap.objs.size, upd H1 s1.heap.objs.size (.tup xs), I1.laid (t' := s1.toks) (fun b u e => Heap.get?_push_of_some _ e) (Nat.le_refl _) ?_, rfl, q _ hf⟩
  exact ⟨z, us, r, ⟨_, Heap.get?_push_size _ rfl, rfl, _, rfl⟩⟩
theorem pe_lst (h : PA X es t) : PE X (.List es pos) (tLst t) := by
  intro pins s σ H Q I hq
  refine wpAny_List_spliced (thn (h pos pins s σ H _ I hq) fun us s1 ⟨xs, H1, I1, r, z, q⟩ => ⟨by rw [← r.length]; exact z, ?_⟩)
  have hf : H1 s1.heap.objs.size = none := I1.hok.fresh (Nat.le_refl _)
  refine ⟨.ref s1.heap.objs.size, upd H1 s1.heap.objs.size (.lst xs), I1.laid (t' := s1.toks) (fun b u e => Heap.get?_push_of_some _ e) (Nat.le_refl _) ?_, rfl, q _ hf⟩
  exact ⟨z, us, 0, r, Heap.get?_push_size _ rfl⟩
end

/-! ### what a def promises -/
/-- a def's promise: the bound arguments in the parameters' order, the heap, the wanted end, the wanted exception -/
abbrev Sp := List V → Hp → VK → XK → Prop
/-- how an exception lies behind a call (file 08 gives it): the callers' frames, abstract heap and state ahead of the call, the wish, the exception, the state -/
abbrev CXT := List Env → Hp → Shared → XK → Value → Shared → Prop

/-- the state at a call -/
structure Env0 (P : Program) (w : World) (K : PySem.W.Frag) (mg : Str → Option Value) (base : Heap) (A : Around) (outer : List Env) (s : Shared) (H : Hp) : Prop where
  frames : A.frames = some outer
  mod : Mod K mg base
  bs : ∀ b o, base.get? b = some o → s.heap.get? b = some o ∧ H b = none
  bsz : base.objs.size ≤ s.heap.objs.size
  funs : s.heap.FunFrames base outer
  frf : ∀ b ∈ frs outer, H b = none
  hok : HOk P w H s.heap
  bare : AllBare s.gens
/-- a call's end -/
def CE (outer : List Env) (P : Program) (w : World) (H : Hp) (s : Shared) (Q : VK) (u : Value) (s' : Shared) : Prop :=
  ∃ v H', s'.os = s.os ∧ AllBare s'.gens ∧ Un (frs outer) [] H H' s.heap s'.heap ∧ HOk P w H' s'.heap ∧ RelV v u ∧ Q v H'
def CR (CX : CXT) (outer : List Env) (P : Program) (w : World) (H : Hp) (s : Shared) (Q : VK) (E : XK) (r : Result) (s' : Shared) : Prop :=
  match r with
  | .ok (.ret u) => CE outer P w H s Q u s'
  | .ok _ => False
  | .error e => CX outer H s E e s'
structure FnOk (P : Program) (w : World) (K : PySem.W.Frag) (mg : Str → Option Value) (base : Heap) (CX : CXT) (k : Nat) (f : Addr) (fd : FuncData) (ps : List Str) (sp : Sp) : Prop where
  len : ∀ vs H Q E, sp vs H Q E → vs.length = ps.length
  run : ∀ (A : Around) (outer : List Env) (s : Shared) (H : Hp) (args : Args) (us : List Value) (vs : List V) (Q : VK) (E : XK), Room k A → Env0 P w K mg base A outer s H → BindsTo s fd args (ps.zip us) → Vals vs us → sp vs H Q E →
    codeAny (model P w) A (.call (.ref f) args) (CR CX outer P w H s Q E) s
theorem FnOk.mono {P : Program} {w : World} {K : PySem.W.Frag} {mg : Str → Option Value} {base : Heap} {CX : CXT} {j k : Nat} {f : Addr} {fd : FuncData} {ps : List Str} {sp : Sp} (F : FnOk P w K mg base CX j f fd ps sp) (h : j ≤ k) :
    FnOk P w K mg base CX k f fd ps sp := ⟨F.len, fun A outer s H args us vs Q E hr => F.run A outer s H args us vs Q E (hr.mono h)⟩
/-- a weaker promise -/
theorem FnOk.imp {P : Program} {w : World} {K : PySem.W.Frag} {mg : Str → Option Value} {base : Heap} {CX : CXT} {k : Nat} {f : Addr} {fd : FuncData} {ps : List Str} {sp sp' : Sp} (F : FnOk P w K mg base CX k f fd ps sp)
    (h : ∀ vs H Q E, sp' vs H Q E → sp vs H Q E) : FnOk P w K mg base CX k f fd ps sp' :=
  ⟨fun vs H Q E q => F.len vs H Q E (h _ _ _ _ q), fun A outer s H args us vs Q E hr he hb hv hs => F.run A outer s H args us vs Q E hr he hb hv (h _ _ _ _ hs)⟩

theorem Env0.make {P : Program} {w : World} {K : PySem.W.Frag} {mg : Str → Option Value} {base : Heap} {A : Around} {outer : List Env} {s : Shared} {H : Hp} (e : Env0 P w K mg base A outer s H) (C : Addr) (us : List Value) (kw : List (Str × Value)) :
    Env0 P w K mg base (A.under (.builtin "type.__call__" ⟨.ref C :: us, kw⟩)) outer s H := ⟨by first | exact e.frames | (simpa [Around.under, Code.envs, Code.isFrame, pushEnvs] using e.frames), e.mod, e.bs, e.bsz, e.funs, e.frf, e.hok, e.bare⟩
theorem Env0.in1 {P : Program} {w : World} {K : PySem.W.Frag} {mg : Str → Option Value} {base : Heap} {A : Around} {outer : List Env} {s : Shared} {H : Hp} (e : Env0 P w K mg base A outer s H) :
    Env0 P w K mg base A.in1 outer s H := ⟨e.frames, e.mod, e.bs, e.bsz, e.funs, e.frf, e.hok, e.bare⟩

section
variable {X : Cx} {pins : List (Addr × Obj)} {σ : St} {H : Hp} {s s' : Shared}
/-- from a body: what a callee wants -/
theorem Inv.env0 (I : Inv X pins σ H s) : Env0 X.prog X.w X.K X.mg X.base X.A X.stack s H :=
  ⟨I.ok.frames, I.ok.mod, I.bs, Nat.le_trans I.ok.bsz I.sz, I.stack, I.stkFree, I.hok, I.bare⟩
/-- behind a call -/
theorem Inv.after {Q : VK} {u : Value} (I : Inv X pins σ H s) (h : CE X.stack X.prog X.w H s Q u s') : EP X pins σ Q u s' := by
  obtain ⟨v, H', os, bare, un, hok, r, q⟩ := h
  obtain ⟨hh, g, d, t, os'⟩ := s'
  obtain rfl : os' = s.os := os
  exact ⟨v, H', I.call (h' := hh) (g' := g) (d' := d) (t' := t) (ch := []) un hok bare (fun b z => absurd z (by simp)), r, q⟩
end

/-! ### calls -/
/-- f(..): the written arguments, then the defaults dvs; E: what is wanted of an exception -/
def tCall (sp : Sp) (dvs : List V) (E : XK) (t : TA) : TE := fun σ H Q => t σ H fun vs H1 => sp (vs ++ dvs) H1 Q E
/-- o.m(..) of an instance of the class at C -/
def tMeth (C : Addr) (m : Str) (sp : Sp) (dvs : List V) (E : XK) (ta : TE) (t : TA) : TE := fun σ H Q => ta σ H fun x H1 => ∃ a dx fs, x = .ref a ∧ H1 a = some (.ins C dx fs) ∧ fs.lookup m = none ∧
  t σ H1 fun vs H2 => sp (x :: (vs ++ dvs)) H2 Q E
/-- C(..): a new instance and its dict, then __init__ -/
def tMake (C : Addr) (sp : Sp) (dvs : List V) (E : XK) (t : TA) : TE := fun σ H Q => t σ H fun vs H1 => ∀ x dx, H1 x = none → H1 dx = none → dx ≠ x →
  sp (.ref x :: (vs ++ dvs)) (upd (upd H1 dx (.own x)) x (.ins C dx [])) (fun v H2 => v = .non ∧ Q (.ref x) H2) E

/-- how the parameters are bound: us the positional arguments, kw the keywords' values by name, ds the defaults that fill up -/
def Binds (K : PySem.W.Frag) (fd : FuncData) (ps : List Str) (ds : List Value) : Prop :=
  ∀ (s : Shared) (us : List Value), K.In s.heap → (us ++ ds).length = ps.length → BindsTo s fd ⟨us, []⟩ (ps.zip (us ++ ds))
/-- every parameter is given -/
theorem Binds.all {K : PySem.W.Frag} {fd : FuncData} {ps : List Str} (h : ∀ us : List Value, us.length = ps.length → bindArgs fd ⟨us, []⟩ = pure (ps.zip us)) : Binds K fd ps [] := fun s us _ hl => by
  rw [List.append_nil] at hl ⊢
  exact .of_eq (h us hl)

/-- an exception of a callee reaches what this body wants of exceptions -/
def Passes (CX : CXT) (X : Cx) (E : XK) : Prop := ∀ (pins : List (Addr × Obj)) (σ : St) (H : Hp) (s : Shared) (e : Value) (s' : Shared), Inv X pins σ H s → CX X.stack H s E e s' → X.xe e s'

section
variable {X : Cx} {CX : CXT} {k : Nat} {f C : Addr} {fd : FuncData} {ps : List Str} {sp : Sp} {dvs : List V} {ds : List Value} {E : XK} {x m : Str} {p pos apos : Pos} {e o : Expr} {es : List Expr} {ta : TE} {t : TA}

/-- the callee runs -/
theorem run_fn {pins : List (Addr × Obj)} {σ : St} {H : Hp} {s : Shared} {Q : VK} {us : List Value} {vs : List V} (F : FnOk X.prog X.w X.K X.mg X.base CX k f fd ps sp) (hr : Room k X.A) (hb : Binds X.K fd ps ds) (hd : Vals dvs ds) (hx : Passes CX X E)
    (I : Inv X pins σ H s) (r : Vals vs us) (h : sp (vs ++ dvs) H Q E) : wpAny (model X.prog X.w) X.A (call (.ref f) us) (EP X pins σ Q) X.xe s := by
  have r2 : Vals (vs ++ dvs) (us ++ ds) := r.append hd
  have hl : (us ++ ds).length = ps.length := by rw [← r2.length]; exact F.len _ _ _ _ h
  refine wpAny_call (codeAny_mono (F.run X.A X.stack s H ⟨us, []⟩ (us ++ ds) (vs ++ dvs) Q E hr I.env0 (hb s us I.kIn hl) r2 h) fun r s' hq => ?_)
  cases r with
  | error e => exact hx pins σ H s e s' I hq
  | ok fl =>
    cases fl with
    | ret u => exact I.after hq
    | next => exact False.elim hq
    | brk => exact False.elim hq
    | cont => exact False.elim hq

theorem pe_call (F : FnOk X.prog X.w X.K X.mg X.base CX k f fd ps sp) (hr : Room k X.A) (hg : Gl X x) (hm : X.mg x = some (.ref f)) (hk : PySem.W.keepIn X.K (.ref f) = true) (hb : Binds X.K fd ps ds) (hd : Vals dvs ds) (hx : Passes CX X E)
    (ha : PA X (e :: es) t) (hdb : (x == ("__debug__" : Str)) = false := by decide) (he : starEach (e :: es) X.env = (false, eval e X.env) :: starEach es X.env := by rfl) (hpl : (backTo pos (starEach es X.env)).any (·.1) = false := by rfl) :
    PE X (.Call (.Name x p) (e :: es) [] pos) (tCall sp dvs E t) := by
  intro pins s σ H Q I h
  refine wpAny_Call_Name_kw (ld_glob I hg hm ?_ hdb)
  refine PySem.W.callWith_K (h₀ := X.base) I.ok.mod.kin hk (thn (ha pos pins s σ H _ I h) fun us s1 ⟨vs, H1, I1, r, q⟩ => ⟨I1.kIn, ?_⟩) he hpl
  exact run_fn F hr hb hd hx I1 r q
/-- o.m(e, ..) -/
theorem pe_meth {pl : Sem Bool} (he : PE X o ta) (c : Cls X.K C) (hm : Meth X.K C m f) (F : FnOk X.prog X.w X.K X.mg X.base CX k f fd ps sp) (hr : Room k X.A) (hb : Binds X.K fd ps ds) (hd : Vals dvs ds) (hx : Passes CX X E) (ha : PA X (e :: es) t)
    (hst : starEach (e :: es) X.env = (false, eval e X.env) :: starEach es X.env := by rfl) (hpl : (backTo pos (starEach es X.env)).any (·.1) = false := by rfl)
    (ht : eval (.Call (.Attribute o m apos) (e :: es) [] pos) X.env = (do
      let ov ← eval o X.env
      standAt apos.atName
      let (f, first) ← holding [ov] (getMethod ov m pl)
      callWith pos f first (backTo pos (starEach (e :: es) X.env)) (backToKw pos (keywordEach [] X.env))) := by rfl) :
    PE X (.Call (.Attribute o m apos) (e :: es) [] pos) (tMeth C m sp dvs E ta t) := by
  intro pins s σ H Q I h
  refine PySem.W.methodCall_KW (pl := pl) (thn (he pins s σ H _ I h) fun u s1 ⟨x, H1, I1, rx, a, dx, fs, ex, ea, l, q⟩ => ?_) ht
  subst ex
  obtain rfl : u = Value.ref a := rx
  refine getmeth_ok I1 ea c hm l ?_
  refine PySem.W.callWith_K (first := [.ref a]) (h₀ := X.base) I.ok.mod.kin hm.kp (thn (ha pos pins s1 σ H1 _ I1 q) fun us s2 ⟨vs, H2, I2, r, q2⟩ => ⟨I2.kIn, ?_⟩) hst hpl
  exact run_fn (us := .ref a :: us) (vs := .ref a :: vs) F hr hb hd hx I2 (.cons rfl r) q2
/-- o.m() -/
theorem pe_meth0 {pl : Sem Bool} (he : PE X o ta) (c : Cls X.K C) (hm : Meth X.K C m f) (F : FnOk X.prog X.w X.K X.mg X.base CX k f fd ps sp) (hr : Room k X.A) (hb : Binds X.K fd ps ds) (hd : Vals dvs ds) (hx : Passes CX X E)
    (ht : eval (.Call (.Attribute o m apos) [] [] pos) X.env = (do
      let ov ← eval o X.env
      standAt apos.atName
      let (f, first) ← holding [ov] (getMethod ov m pl)
      callWith pos f first (backTo pos (starEach [] X.env)) (backToKw pos (keywordEach [] X.env))) := by rfl) :
    PE X (.Call (.Attribute o m apos) [] [] pos) (tMeth C m sp dvs E ta tNil) := by
  intro pins s σ H Q I h
  refine PySem.W.methodCall_KW (pl := pl) (thn (he pins s σ H _ I h) fun u s1 ⟨x, H1, I1, rx, a, dx, fs, ex, ea, l, q⟩ => ?_) ht
  subst ex
  obtain rfl : u = Value.ref a := rx
  refine getmeth_ok I1 ea c hm l ?_
  exact PySem.W.callWith_K0 (first := [.ref a]) I1.kIn hm.kp (run_fn (us := [.ref a]) (vs := [.ref a]) F hr hb hd hx I1 (.cons rfl .nil) q)

/-- what a class must have to be made -/
structure Mk (K : PySem.W.Frag) (C f : Addr) : Prop where
  makes : PySem.W.makesIn K C = true
  init : PySem.W.findIn K (.ref C) "__init__" = some (some (.ref f))
  fn : PySem.W.isFn K (.ref f) = true
  kp : PySem.W.keepIn K (.ref C) = true

theorem run_make {pins : List (Addr × Obj)} {σ : St} {H : Hp} {s : Shared} {Q : VK} {us : List Value} {vs : List V} (M : Mk X.K C f) (F : FnOk X.prog X.w X.K X.mg X.base CX k f fd ps sp) (hr : Room (k + 1) X.A) (hb : Binds X.K fd ps ds) (hd : Vals dvs ds)
    (hx : Passes CX X E) (I : Inv X pins σ H s) (r : Vals vs us)
    (h : ∀ x dx, H x = none → H dx = none → dx ≠ x → sp (.ref x :: (vs ++ dvs)) (upd (upd H dx (.own x)) x (.ins C dx [])) (fun v H2 => v = .non ∧ Q (.ref x) H2) E) :
    wpAny (model X.prog X.w) X.A (call (.ref C) us) (EP X pins σ Q) X.xe s := by
  have hq := h (s.heap.objs.size + 1) s.heap.objs.size (I.hok.fresh (Nat.le_succ _)) (I.hok.fresh (Nat.le_refl _)) (Nat.ne_of_lt (Nat.lt_succ_self _))
  have I2 := Inv.made (C := C) I
  have r2 : Vals (V.ref (s.heap.objs.size + 1) :: (vs ++ dvs)) (Value.ref (s.heap.objs.size + 1) :: (us ++ ds)) := .cons rfl (r.append hd)
  have hl : (Value.ref (s.heap.objs.size + 1) :: us ++ ds).length = ps.length := by
    have e := r2.length
    rw [F.len _ _ _ _ hq] at e
    exact e.symm
  refine wpAny_call (make_map (f := f) I.kIn M.makes M.init (beq_iff_eq.mp M.fn) (codeAny_mono (F.run _ X.stack _ _ ⟨Value.ref (s.heap.objs.size + 1) :: us, []⟩ (Value.ref (s.heap.objs.size + 1) :: (us ++ ds)) _ _ E (hr.make C us [])
    (I2.env0.make C us []) (hb _ (Value.ref (s.heap.objs.size + 1) :: us) I2.kIn hl) r2 hq) fun r s' hq' => ?_))
  cases r with
  | error e => exact hx pins σ _ _ e s' I2 hq'
  | ok fl =>
    cases fl with
    | ret u =>
      obtain ⟨v, H', I3, rv, ev, q3⟩ := I2.after hq'
      subst ev
      exact ⟨rv, ⟨V.ref (s.heap.objs.size + 1), H', I3, rfl, q3⟩⟩
    | next => exact False.elim hq'
    | brk => exact False.elim hq'
    | cont => exact False.elim hq'
theorem pe_make0 (M : Mk X.K C f) (F : FnOk X.prog X.w X.K X.mg X.base CX k f fd ps sp) (hr : Room (k + 1) X.A) (hg : Gl X x) (hm : X.mg x = some (.ref C)) (hb : Binds X.K fd ps ds) (hd : Vals dvs ds) (hx : Passes CX X E)
    (hdb : (x == ("__debug__" : Str)) = false := by decide) : PE X (.Call (.Name x p) [] [] pos) (tMake C sp dvs E tNil) := by
  intro pins s σ H Q I h
  refine wpAny_Call_Name_kw (ld_glob I hg hm ?_ hdb)
  exact PySem.W.callWith_K0 I.kIn M.kp (run_make (us := []) M F hr hb hd hx I .nil h)
end

/-! ### keywords -/
section
variable {X : Cx} {CX : CXT} {k : Nat} {f C : Addr} {fd : FuncData} {ps ks : List Str} {sp : Sp} {E : XK} {x m : Str} {p pos apos kpos : Pos} {e o : Expr} {es : List Expr} {kws : List Keyword} {te ta : TE} {t tk : TA} {nm : Option Str}
/-- how a call with keywords binds: g puts the positional values us and the keywords' values ws (names ks) in the parameters' order, defaults among them -/
structure KBinds (K : PySem.W.Frag) (fd : FuncData) (ps ks : List Str) (g : List Value → List Value → List Value) (gV : List V → List V → List V) : Prop where
  to : ∀ (s : Shared) (us ws : List Value), K.In s.heap → (g us ws).length = ps.length → BindsTo s fd ⟨us, ks.zip ws⟩ (ps.zip (g us ws))
  rel : ∀ {vs : List V} {us : List Value} {zs : List V} {ws : List Value}, Vals vs us → Vals zs ws → Vals (gV vs zs) (g us ws)
variable {g : List Value → List Value → List Value} {gV : List V → List V → List V}
end

/-! ### a def's body keeps its promise -/
/-- names: the parameters first -/
structure FnScope (N P : List Str) (sc : Scope) : Prop where
  kind : sc.kind = .function
  co : sc.isCoroutine = false
  gen : sc.isGenerator = false
  nd : N.Nodup
  pre : N.take P.length = P
  par : ∀ x ∈ P, sc.names.lookup x = some .local ∨ sc.names.lookup x = some .cell
  nofree : ∀ y ∈ sc.names, y.2 ≠ .free

theorem bindL_out {kindOf : Str → Option NameKind} {x : Str} : ∀ {binds : List (Str × Value)} {m : Str → Option Value}, (∀ v, (x, v) ∉ binds) → bindL kindOf binds m x = m x
  | [], _, _ => rfl
  | (n, v) :: r, m, h => by
    unfold bindL
    rw [bindL_out fun w hw => h w (List.mem_cons_of_mem _ hw)]
    split
    · have : x ≠ n := by rintro rfl; exact h v List.mem_cons_self
      simp [this]
    · rfl
theorem bindC_out {kindOf : Str → Option NameKind} {x : Str} : ∀ {binds : List (Str × Value)} {m : Str → Option Value}, (∀ v, (x, v) ∉ binds) → bindC kindOf binds m x = m x
  | [], _, _ => rfl
  | (n, v) :: r, m, h => by
    unfold bindC
    rw [bindC_out fun w hw => h w (List.mem_cons_of_mem _ hw)]
    split
    · rfl
    · have : x ≠ n := by rintro rfl; exact h v List.mem_cons_self
      simp [this]
theorem bindL_get {kindOf : Str → Option NameKind} {x : Str} {v : Value} : ∀ {P : List Str} {vs : List Value} {i : Nat} {m : Str → Option Value}, P.Nodup → P[i]? = some x → vs[i]? = some v → kindOf x = some .local →
    bindL kindOf (P.zip vs) m x = some v
  | [], _, _, _, _, h, _, _ => by simp at h
  | _ :: _, [], _, _, _, _, h, _ => by simp at h
  | p :: P, w :: vs, 0, m, nd, h1, h2, hk => by
    simp at h1 h2; subst h1; subst h2
    show bindL kindOf ((p, w) :: P.zip vs) m p = _
    unfold bindL
    rw [bindL_out fun v hv => (List.nodup_cons.mp nd).1 (List.of_mem_zip hv).1, if_pos hk]
    simp
  | p :: P, w :: vs, i + 1, m, nd, h1, h2, hk => by
    show bindL kindOf ((p, w) :: P.zip vs) m x = _
    unfold bindL
    exact bindL_get (i := i) (List.nodup_cons.mp nd).2 (by simpa using h1) (by simpa using h2) hk
theorem bindC_get {kindOf : Str → Option NameKind} {x : Str} {v : Value} : ∀ {P : List Str} {vs : List Value} {i : Nat} {m : Str → Option Value}, P.Nodup → P[i]? = some x → vs[i]? = some v → kindOf x ≠ some .local →
    bindC kindOf (P.zip vs) m x = some v
  | [], _, _, _, _, h, _, _ => by simp at h
  | _ :: _, [], _, _, _, _, h, _ => by simp at h
  | p :: P, w :: vs, 0, m, nd, h1, h2, hk => by
    simp at h1 h2; subst h1; subst h2
    show bindC kindOf ((p, w) :: P.zip vs) m p = _
    unfold bindC
    rw [bindC_out fun v hv => (List.nodup_cons.mp nd).1 (List.of_mem_zip hv).1, if_neg hk]
    simp
  | p :: P, w :: vs, i + 1, m, nd, h1, h2, hk => by
    show bindC kindOf ((p, w) :: P.zip vs) m x = _
    unfold bindC
    exact bindC_get (i := i) (List.nodup_cons.mp nd).2 (by simpa using h1) (by simpa using h2) hk

/-- the names' values at the entry -/
def start (N : List Str) (vs : List V) : St := vs.map some ++ List.replicate (N.length - vs.length) none

/-- the context of a def's body, at its entry; an exception leaves the frame, then lies as CX says -/
def cxOf (CX : CXT) (P : Program) (w : World) (K : PySem.W.Frag) (mg : Str → Option Value) (base : Heap) (N : List Str) (qual : Str) (scope : Scope) (f : Addr) (cd : Value) (A : Around) (outer : List Env) (s : Shared) (H : Hp) (E : XK) : Cx where
  prog := P
  w := w
  K := K
  mg := mg
  base := base
  A := A.deeper (envOfC qual scope s.heap.objs.size f cd)
  N := N
  s₀ := s
  H₀ := H
  env := envOfC qual scope s.heap.objs.size f cd
  outer := outer
  stack := envOfC qual scope s.heap.objs.size f cd :: outer
  ex := []
  calm := true
  fn := fun _ => true
  pn := []
  xe := fun e s' => wpAny (model P w) (A.deeper (envOfC qual scope s.heap.objs.size f cd)) (leaving (envOfC qual scope s.heap.objs.size f cd) e) (fun _ s'' => CX outer H s E e s'') (fun e' s'' => CX outer H s E e' s'') s'

theorem cell_has {sc : Scope} {n : Nat} {x : Str} (h : sc.names.lookup x = some .cell) : ∃ c, (cellsFrom n sc.names []).lookup x = some c := by
  have q := PySem.W.cellsFrom_some sc.names n [] (.inl h)
  exact Option.isSome_iff_exists.mp q

theorem inv_start {CX : CXT} {P : Program} {w : World} {K : PySem.W.Frag} {mg : Str → Option Value} {base : Heap} {N ps : List Str} {qual : Str} {scope : Scope} {f : Addr} {cd : Value} {A : Around} {outer : List Env} {s s1 : Shared} {H : Hp} {E : XK} {us : List Value} {vs : List V}
    (S : FnScope N ps scope) (hd : A.handled = none) (e0 : Env0 P w K mg base A outer s H) (hl : vs.length = ps.length) (r : Vals vs us)
    (x : InCallC s s.heap.objs.size (bindL (envOfC qual scope s.heap.objs.size f cd).kindOf (ps.zip us) fun _ => none) (cellsFrom (s.heap.objs.size + 1) scope.names []) (bindC (envOfC qual scope s.heap.objs.size f cd).kindOf (ps.zip us) fun _ => none) s1) :
    Inv (cxOf CX P w K mg base N qual scope f cd A outer s H E) [] (start N vs) H s1 := by
  have hpl : ps.length ≤ N.length := by have := congrArg List.length S.pre; rw [List.length_take] at this; omega
  obtain ⟨h1, tk, rfl, hk⟩ := x.done
  have noA : ∀ b : Addr, b ∉ (cxOf CX P w K mg base N qual scope f cd A outer s H E).ex := fun b z => absurd (show b ∈ ([] : List Addr) from z) (by simp)
  refine ⟨⟨e0.mod, S.kind, rfl, rfl, Nat.le_refl _, fun y z c h1 h2 => ?_, fun y hy => ?_, fun y c _ h => ?_, fun _ => hd, Around.frames_deeper e0.frames, .inr ⟨rfl, rfl⟩, fun b z => absurd z (noA b), e0.bs, e0.bsz, fun b _ _ => noA b, fun b z => absurd z (noA b), e0.funs, e0.frf⟩,
    rfl, e0.bare, Un.kept hk, ⟨_, x.toInCall.ns, fun i y v h1 h2 h3 => ?_⟩, fun y c h => ⟨_, x.cell y c h⟩, e0.hok.fresh (Nat.le_refl _), fun y c h => ?_, fun p hp => absurd (show p ∈ ([] : List (Addr × Obj)) from hp) (by simp), e0.hok.kept hk, ?_⟩
  · exact name_of_addr x.apart (PySem.mem_of_lookup h1) (PySem.mem_of_lookup h2)
  · have hy : scope.names.lookup y = some .cell ∨ scope.names.lookup y = some .free := hy
    rcases hy with hy | hy
    · exact cell_has hy
    · exact absurd rfl (S.nofree _ (PySem.mem_of_lookup hy))
  · exact Nat.le_of_lt (x.above y c (PySem.mem_of_lookup h))
  · have hi : i < vs.length := by
      unfold start at h2
      by_cases hi : i < vs.length
      · exact hi
      · rw [List.getElem?_append_right (by simpa using hi)] at h2
        rw [List.getElem?_replicate] at h2
        split at h2 <;> cases h2
    have ha : vs[i]? = some v := by
      unfold start at h2
      rw [List.getElem?_append_left (by simpa using hi), List.getElem?_map] at h2
      cases e : vs[i]? with
      | none => rw [e] at h2; cases h2
      | some a => rw [e] at h2; cases h2; rfl
    obtain ⟨u, hu, rv⟩ := r.get ha
    have hp : ps[i]? = some y := by
      rw [← S.pre, List.getElem?_take_of_lt (by omega)]; exact h1
    have ndP : ps.Nodup := by rw [← S.pre]; exact S.nd.sublist (List.take_sublist _ _)
    refine ⟨u, rv, ?_⟩
    rcases S.par y (List.mem_of_getElem? hp) with k | k
    · exact .inl ⟨k, bindL_get ndP hp hu k⟩
    · obtain ⟨c, e⟩ := cell_has (n := s.heap.objs.size + 1) k
      refine .inr ⟨.inl k, c, e, ?_⟩
      have q := x.cell y c e
      rw [bindC_get ndP hp hu (by show scope.names.lookup y ≠ _; rw [k]; decide)] at q
      exact q
  · exact e0.hok.fresh (Nat.le_of_lt (x.above y c (PySem.mem_of_lookup h)))
  · unfold start
    show _ = N.length
    rw [List.length_append, List.length_map, List.length_replicate]
    omega

/-- THE RULE: a def (or a method) of the text, by its body. The body's reading t is chosen for each entry; it is run at the parameters' values -/
theorem fn_of {CX : CXT} {P : Program} {w : World} {K : PySem.W.Frag} {mg : Str → Option Value} {base : Heap} {k : Nat} {f : Addr} {name qual : Str} {params : Arguments} {body : List Stmt} {scope : Scope} {dV kV doc pm cdv ct oc : Value} {an od : Option Addr}
    {osl : Array (Option Value)} {N ps : List Str} {sp : Sp} (lk : K.lookup f = some ⟨oc, od, .func (PySem.W.fnOf name qual params body scope dV kV doc pm an cdv ct), osl⟩) (hcd : PySem.W.codeIn K cdv qual = true) (S : FnScope N ps scope)
    (len : ∀ vs H Q E, sp vs H Q E → vs.length = ps.length)
    (hbody : ∀ (A : Around) (outer : List Env) (s : Shared) (H : Hp) (vs : List V) (Q : VK) (E : XK), Room k (A.deeper (envOfC qual scope s.heap.objs.size f cdv)) → sp vs H Q E →
      ∃ t, PSs (cxOf CX P w K mg base N qual scope f cdv A outer s H E) body t ∧ t { nx := fun _ H' => Q .non H', rt := Q } (start N vs) H) :
    FnOk P w K mg base CX (k + 1) f (PySem.W.fnOf name qual params body scope dV kV doc pm an cdv ct) ps sp := by
  refine ⟨len, fun A outer s H args us vs Q E hr e0 hb r hsp => ?_⟩
  have hl := len _ _ _ _ hsp
  have KX : K.In s.heap := e0.mod.kin.keeps fun b o e => (e0.bs b o e).1
  have lim : s.heap.NoLimit := e0.mod.nolimit.keeps fun b o e => (e0.bs b o e).1
  have hkind : ∀ y ∈ ps.zip us, scope.names.lookup y.1 = some .local ∨ (scope.names.lookup y.1 = some .cell ∧ ((cellsFrom (s.heap.objs.size + 1) scope.names []).lookup y.1).isSome = true) := fun ⟨n, v⟩ hy => by
    rcases S.par n (List.of_mem_zip hy).1 with q | q
    · exact .inl q
    · exact .inr ⟨q, PySem.W.cellsFrom_some _ _ _ (.inl q)⟩
  refine codeAny_call_function hr.depth (KX _ _ lk) rfl S.co S.gen rfl (PySem.W.codeRec_of KX hcd) (hb _ _ _ _ ?_)
  refine wpAny_newFunctionEnv_cells S.kind hkind fun env he s1 x => ?_
  subst he
  refine ⟨lim.keeps x.toInCall.keep, codeAny_func ?_⟩
  obtain ⟨t, ht, hq⟩ := hbody A outer s H vs Q E (hr.deeper _) hsp
  have I : Inv (cxOf CX P w K mg base N qual scope f cdv A outer s H E) [] (start N vs) H s1 := inv_start S hr.hd e0 hl r x
  refine wpAny_mono (ht [] s1 (start N vs) H _ I hq) (fun fl s' hs => ?_) fun e s' hs => hs
  have fin : ∀ {σ' : St} {H' : Hp} {v : V} {u : Value}, Inv (cxOf CX P w K mg base N qual scope f cdv A outer s H E) [] σ' H' s' → RelV v u → Q v H' → CE outer P w H s Q u s' :=
    fun {σ' H' v u} J rv q => ⟨v, H', J.os, J.bare, J.base, J.hok, rv, q⟩
  cases fl with
  | ret u =>
    obtain ⟨v, σ', H', J, rv, q⟩ := hs
    exact fin J rv q
  | next =>
    obtain ⟨σ', H', J, q⟩ := hs
    exact fin (v := V.non) (u := Value.none) J rfl q
  | brk =>
    obtain ⟨_, _, _, q⟩ := hs
    exact False.elim q
  | cont =>
    obtain ⟨_, _, _, q⟩ := hs
    exact False.elim q
end L2

namespace L2
open PySem PySem.Spec PyProof.Rows
section
variable {X : Cx} {x : Str} {p pos : Pos} {e : Expr} {es : List Expr} {t : TA} {id T : String} {r : List V → Hp → VK → Prop}

def tCB (r : List V → Hp → VK → Prop) (t : TA) : TE := fun σ H Q => t σ H fun vs H1 => r vs H1 Q
/-- f(e, ..), f a built-in function -/
theorem pe_callB (hc : CallR X (.builtin id) r) (hg : Gl X x) (hm : X.mg x = none) (hv : bootBuiltins x = some (.builtin id)) (ha : PA X (e :: es) t) (hn : x ≠ "__name__" := by decide) (hdb : (x == ("__debug__" : Str)) = false := by decide)
    (he : starEach (e :: es) X.env = (false, eval e X.env) :: starEach es X.env := by rfl) (hpl : (backTo pos (starEach es X.env)).any (·.1) = false := by rfl) : PE X (.Call (.Name x p) (e :: es) [] pos) (tCB r t) := by
  intro pins s σ H Q I h
  refine wpAny_Call_Name_kw (ld_blt I hg hm hv ?_ hn hdb)
  exact PyProof.Rows.callWith_builtin1 (thn (ha pos pins s σ H _ I h) fun us s1 ⟨vs, H1, I1, r1, q1⟩ => hc pins s1 σ H1 vs us Q I1 r1 q1) he hpl
/-- T(e, ..), T a built-in type -/
theorem pe_callTy (hc : CallR X (.type T) r) (hg : Gl X x) (hm : X.mg x = none) (hv : bootBuiltins x = some (.type T)) (ha : PA X (e :: es) t) (hn : x ≠ "__name__" := by decide) (hdb : (x == ("__debug__" : Str)) = false := by decide)
    (he : starEach (e :: es) X.env = (false, eval e X.env) :: starEach es X.env := by rfl) (hpl : (backTo pos (starEach es X.env)).any (·.1) = false := by rfl) : PE X (.Call (.Name x p) (e :: es) [] pos) (tCB r t) := by
  intro pins s σ H Q I h
  refine wpAny_Call_Name_kw (ld_blt I hg hm hv ?_ hn hdb)
  exact PyProof.Rows.callWith_type1 (thn (ha pos pins s σ H _ I h) fun us s1 ⟨vs, H1, I1, r1, q1⟩ => hc pins s1 σ H1 vs us Q I1 r1 q1) he hpl
end
end L2

namespace HT
open PySem PyProof.Rows

section
open PySem.SeqAt
open PySem.AutoSeq1 (wpAny_loadPart')
open PySem.MeetsSeq PySem.MeetsSeq2 PySem.MeetsSeq3

end

section
variable {prog : Program} {w : World} {A : Around} {E : Value → Shared → Prop} {s : Shared}

/-! ### t[a:b], not the whole -/
/-- a slice's bound as a place among n (d where it is left out) -/
def sIx (n d : Nat) : Option Int → Nat
  | none => d
  | some v => if v < 0 then (v + (n : Int)).toNat else min v.toNat n
end
end HT

namespace L2
open PySem PySem.Spec PyProof.Rows

/-! ### the parts of a slice -/
abbrev TO := St → Hp → (Option Int → Hp → Prop) → Prop
/-- a slice's part (left out, or an int) -/
def PO (X : Cx) (e : Option Expr) (t : TO) : Prop :=
  ∀ (pins : List (Addr × Obj)) (s : Shared) (σ : St) (H : Hp) (Q : Option Int → Hp → Prop), Inv X pins σ H s → t σ H Q →
    wpAny (model X.prog X.w) X.A (evalPart e X.env) (fun u s' => ∃ o H', Inv X pins σ H' s' ∧ IsPart u o ∧ Q o H') X.xe s
def tNoPart : TO := fun _ H Q => Q none H
def tPart (t : TE) : TO := fun σ H Q => t σ H fun x H1 => ∃ i, x = .int i ∧ Q (some i) H1

theorem intsAre_of {ns : List Int} : ∀ {us : List Value}, Vals (ns.map V.int) us → IntsAre us ns := by
  induction ns with
  | nil => intro us r; rw [List.map_nil] at r; cases r; exact .nil
  | cons n ns ih =>
    intro us r
    rw [List.map_cons] at r
    cases r with
    | cons r1 r2 =>
      obtain ⟨t, e⟩ := r1
      subst e
      exact .cons n t (ih r2)

section
variable {X : Cx} {e : Expr} {te : TE} {lo hi : Option Expr} {tl th : TO} {pos p2 : Pos}

theorem po_none : PO X none tNoPart := by
  intro pins s σ H Q I h
  rw [evalPart_none]
  exact wpAny_pure ⟨none, H, I, .none, h⟩
theorem po_some (h : PE X e te) : PO X (some e) (tPart te) := by
  intro pins s σ H Q I hw
  rw [evalPart_some]
  refine thn (h pins s σ H _ I hw) fun u s1 ⟨x, H1, I1, r1, q1⟩ => ?_
  obtain ⟨i, rfl, q⟩ := q1
  obtain ⟨t, rfl⟩ := r1
  exact ⟨some i, H1, I1, .int i t, q⟩

/-- what a slice of a value is, by values: the slice object stands at sl -/
def SlR (X : Cx) (r : V → Option Int → Option Int → Hp → VK → Prop) : Prop :=
  ∀ (pins : List (Addr × Obj)) (s : Shared) (σ : St) (H : Hp) (x : V) (v vl vu : Value) (lo hi : Option Int) (sl : Addr) (Q : VK), Inv X pins σ H s → RelV x v → s.heap.IsSliceOf sl vl vu .none → IsPart vl lo → IsPart vu hi → r x lo hi H Q →
    ∃ T id, typeLookup (.type T) "__getitem__" = pure (some (.builtin id)) ∧ s.TypeIs v T ∧ wpAny (model X.prog X.w) X.A (getItem v (.ref sl)) (EP X pins σ Q) X.xe s
theorem SlR.or {r r' : V → Option Int → Option Int → Hp → VK → Prop} (h : SlR X r) (h' : SlR X r') : SlR X (fun x lo hi H Q => r x lo hi H Q ∨ r' x lo hi H Q) := by
  intro pins s σ H x v vl vu lo hi sl Q I rx hs pl pu q
  rcases q with q | q
  · exact h pins s σ H x v vl vu lo hi sl Q I rx hs pl pu q
  · exact h' pins s σ H x v vl vu lo hi sl Q I rx hs pl pu q
def tSl (r : V → Option Int → Option Int → Hp → VK → Prop) (te : TE) (tl th : TO) : TE := fun σ H Q => te σ H fun x H1 => tl σ H1 fun l H2 => th σ H2 fun u H3 => r x l u H3 Q
/-- a[lo:hi], any a -/
theorem pe_slice {r : V → Option Int → Option Int → Hp → VK → Prop} (hr : SlR X r) (he : PE X e te) (hl : PO X lo tl) (hu : PO X hi th) : PE X (.Subscript e (.Slice lo hi none p2) pos) (tSl r te tl th) := by
  intro pins s σ H Q I h
  refine Subscript_ (thn (he pins s σ H _ I h) fun v s1 ⟨x, H1, I1, r1, q1⟩ => ?_)
  refine wpAny_Slice (thn (hl pins s1 σ H1 _ I1 q1) fun vl s2 ⟨l, H2, I2, pl, q2⟩ => thn (hu pins s2 σ H2 _ I2 q2) fun vu s3 ⟨u, H3, I3, pu, q3⟩ => ?_)
  rw [evalPart_none]
  refine wpAny_pure ?_
  have I4 : Inv X pins σ H3 { s3 with heap := s3.heap.push { cls := .type "slice", data := .fields #[vl, vu, .none] } } := I3.kept (t' := s3.toks) fun b ob q => Heap.get?_push_of_some _ q
  obtain ⟨T, id, hT, ht, hg⟩ := hr pins { s3 with heap := s3.heap.push { cls := .type "slice", data := .fields #[vl, vu, .none] } } σ H3 x v vl vu l u s3.heap.objs.size Q I4 r1 (Heap.IsSliceOf.new ..) pl pu q3
  show wpAny (model X.prog X.w) X.A (subscriptTail e (.Slice lo hi none p2) v (.ref s3.heap.objs.size)) (EP X pins σ Q) X.xe { s3 with heap := s3.heap.push { cls := .type "slice", data := .fields #[vl, vu, .none] } }
  exact tail_any (ops := [.ref s3.heap.objs.size, v]) ht hT hg (by with_unfolding_all rfl)

/-- the items of xs[lo:hi] -/
def cutV (xs : List V) (lo hi : Option Int) : List V := (xs.drop (HT.sIx xs.length 0 lo)).take (HT.sIx xs.length xs.length hi - HT.sIx xs.length 0 lo)
theorem cutV_length (xs : List V) (lo hi : Option Int) : (cutV xs lo hi).length ≤ xs.length := by
  unfold cutV
  rw [List.length_take, List.length_drop]
  omega
/-! ### t < u, t + u -/
end
end L2

namespace L2
open PySem PySem.Spec PyProof.Rows

/-! ### places -/
/-- the place that an index of any sign means -/
def ixN (n : Nat) (i : Int) : Option Nat := if 0 ≤ i then (if i < n then some i.toNat else none) else if -(n : Int) ≤ i then some (i + n).toNat else none
def atI {α : Type} (xs : List α) (i : Int) : Option α := (ixN xs.length i).bind fun j => xs[j]?
theorem ixN_seq {n : Nat} {i : Int} {j : Nat} (h : ixN n i = some j) : seqIndex? i n = some j ∧ j < n ∧ -(n : Int) ≤ i ∧ i < n := by
  unfold ixN at h
  by_cases h0 : 0 ≤ i
  · rw [if_pos h0] at h
    by_cases h1 : i < n
    · rw [if_pos h1] at h
      have e : i.toNat = j := Option.some.inj h
      exact ⟨by rw [seqIndex_of h0 h1, e], by omega, by omega, h1⟩
    · rw [if_neg h1] at h; cases h
  · rw [if_neg h0] at h
    by_cases h1 : -(n : Int) ≤ i
    · rw [if_pos h1] at h
      have e : (i + n).toNat = j := Option.some.inj h
      exact ⟨by rw [seqIndex_neg (by omega) h1, e], by omega, h1, by omega⟩
    · rw [if_neg h1] at h; cases h
theorem atI_get {α : Type} {xs : List α} {i : Int} {v : α} (h : atI xs i = some v) : ∃ j, seqIndex? i xs.length = some j ∧ xs[j]? = some v ∧ j < xs.length ∧ -(xs.length : Int) ≤ i ∧ i < xs.length := by
  unfold atI at h
  cases e : ixN xs.length i with
  | none => rw [e] at h; cases h
  | some j =>
    rw [e] at h
    obtain ⟨h1, h2, h3, h4⟩ := ixN_seq e
    exact ⟨j, h1, h, h2, h3, h4⟩
theorem atI_nat {α : Type} {xs : List α} {j : Nat} {v : α} (h : xs[j]? = some v) : atI xs (j : Int) = some v := by
  have hj : j < xs.length := (List.getElem?_eq_some_iff.mp h).1
  have e : ixN xs.length (j : Int) = some j := by
    unfold ixN
    rw [if_pos (by omega), if_pos (by omega)]; simp
  unfold atI; rw [e]; exact h
theorem atI_last {α : Type} (xs : List α) (v : α) : atI (xs ++ [v]) (-1) = some v := by
  have hl : (xs ++ [v]).length = xs.length + 1 := by simp
  have e : ixN (xs ++ [v]).length (-1) = some xs.length := by
    unfold ixN
    rw [hl, if_neg (by decide), if_pos (by omega)]
    congr 1
    omega
  unfold atI
  rw [e]
  show (xs ++ [v])[xs.length]? = some v
  simp

/-! ### what may be subscripted -/
/-- what stands as an index of a plain subscript -/
def PlainIx (b : Expr) : Prop := ∀ o i, subscripted b false o i = operate [o, i] (getItem o i)
/-- a subscript by values -/
def IxR (X : Cx) (r : R2) : Prop :=
  ∀ (value slice : Expr) (pins : List (Addr × Obj)) (s : Shared) (σ : St) (H : Hp) (x y : V) (v u : Value) (Q : VK), Inv X pins σ H s → RelV x v → RelV y u → r x y H Q →
    subscripted slice false v u = operate [v, u] (getItem v u) → wpAny (model X.prog X.w) X.A (subscriptTail value slice v u) (EP X pins σ Q) X.xe s
/-- a call of a builtin's method by values: the receiver, the arguments -/
def MtR (X : Cx) (id : String) (r : V → List V → Hp → VK → Prop) : Prop :=
  ∀ (pins : List (Addr × Obj)) (s : Shared) (σ : St) (H : Hp) (x : V) (xs : List V) (v : Value) (us : List Value) (Q : VK), Inv X pins σ H s → RelV x v → Vals xs us → r x xs H Q →
    wpAny (model X.prog X.w) X.A (call (.builtin id) (v :: us)) (EP X pins σ Q) X.xe s
section
variable {X : Cx} {a b : Expr} {ta tb : TE} {pos : Pos}
theorem IxR.or {r r' : R2} (h : IxR X r) (h' : IxR X r') : IxR X (fun x y H Q => r x y H Q ∨ r' x y H Q) := by
  intro value slice pins s σ H x y v u Q I rx ry q hs
  rcases q with q | q
  · exact h value slice pins s σ H x y v u Q I rx ry q hs
  · exact h' value slice pins s σ H x y v u Q I rx ry q hs
theorem MtR.or {id : String} {r r' : V → List V → Hp → VK → Prop} (h : MtR X id r) (h' : MtR X id r') : MtR X id (fun x xs H Q => r x xs H Q ∨ r' x xs H Q) := by
  intro pins s σ H x xs v us Q I rx rs q
  rcases q with q | q
  · exact h pins s σ H x xs v us Q I rx rs q
  · exact h' pins s σ H x xs v us Q I rx rs q
/-- a[b] -/
theorem pe_ix {r : R2} (hr : IxR X r) (ha : PE X a ta) (hb : PE X b tb) (hs : PlainIx b) : PE X (.Subscript a b pos) (tOp r ta tb) := by
  intro pins s σ H Q I h
  exact Subscript_ (binT ha hb I h fun v u s2 x y H2 I2 rx ry q => hr a b pins s2 σ H2 x y v u Q I2 rx ry q (hs _ _))

def rIxL (K : PySem.W.Frag) : R2 := fun x y H Q => ∃ p xs i v, x = .ref p ∧ y = .int i ∧ SqL K H p xs ∧ atI xs i = some v ∧ Q v H
def rIxT (K : PySem.W.Frag) : R2 := fun x y H Q => ∃ p xs i v, x = .ref p ∧ y = .int i ∧ SqT K H p xs ∧ atI xs i = some v ∧ Q v H
theorem ix_list : IxR X (rIxL X.K) := by
  intro value slice pins s σ H x y v u Q I rx ry h hs
  obtain ⟨p, xs, i, z, rfl, rfl, hq, he, q⟩ := h
  cases rx
  obtain ⟨t, rfl⟩ := ry
  obtain ⟨its, r, pl, hz⟩ := I.list hq
  obtain ⟨j, h1, h2, h3, h4, h5⟩ := atI_get he
  obtain ⟨w, ew, rw'⟩ := r.get h2
  have hl := r.length
  have hn := line63
  have fin : EP X pins σ Q w s := ⟨z, H, I, rw', q⟩
  by_cases h0 : 0 ≤ i
  · have hj : i.toNat = j := by
      rw [seqIndex_of h0 h5] at h1
      exact Option.some.inj h1
    exact item_listR pl.isList h0 (by omega) (by rw [hj]; simpa using ew) fin hs
  · have hj : (i + (its.toArray.size : Int)).toNat = j := by
      rw [seqIndex_neg (by omega) h4] at h1
      rw [List.size_toArray, ← hl]
      exact Option.some.inj h1
    exact subscriptTail_builtinR (x := w) pl.isList.typeIs slot_list_getitem.lookup
      (wpAny_getItem_list_neg (Q := fun r s' => r = w ∧ EP X pins σ Q r s') pl.isList (by omega) (by rw [List.size_toArray] <;> omega) (by omega) (by rw [hj]; simpa using ew) ⟨rfl, fin⟩) hs
theorem ix_tup : IxR X (rIxT X.K) := by
  intro value slice pins s σ H x y v u Q I rx ry h hs
  obtain ⟨p, xs, i, z, rfl, rfl, hq, he, q⟩ := h
  cases rx
  obtain ⟨t, rfl⟩ := ry
  obtain ⟨its, r, pl, hz⟩ := I.tuple hq
  obtain ⟨j, h1, h2, h3, h4, h5⟩ := atI_get he
  obtain ⟨w, ew, rw'⟩ := r.get h2
  have hl := r.length
  have hn := line63
  have fin : EP X pins σ Q w s := ⟨z, H, I, rw', q⟩
  exact subscriptTail_builtinR (x := w) pl.typeIs slot_tuple_getitem.lookup
    (getItem_tuple (j := j) (Q := fun r s' => r = w ∧ EP X pins σ Q r s') pl (by omega) (by omega) (by rw [List.size_toArray, ← hl]; exact h1) (by simpa using ew) ⟨rfl, fin⟩) hs
/-! ### xs[i] = v, any sign -/
/-- the list's object behind a store -/
theorem mapSeq_set (its : List Value) (n j : Nat) (u : Value) : Obj.mapSeq (·.setIfInBounds j u) { cls := .type "list", data := .seq its.toArray n } = { cls := .type "list", data := .seq (its.set j u).toArray n } := by
  simp [Obj.mapSeq]
theorem Inv.lst {pins : List (Addr × Obj)} {σ : St} {H : Hp} {s : Shared} {p : Addr} {xs : List V} (I : Inv X pins σ H s) (h : H p = some (.lst xs)) :
    ∃ (its : List Value) (n : Nat), Vals xs its ∧ s.heap.get? p = some { cls := .type "list", data := .seq its.toArray n } ∧ xs.length ≤ sizeLine := by
  obtain ⟨z, its, n, r, e⟩ := I.hok p _ h
  exact ⟨its, n, r, e, z⟩
/-- the list at p is written by an update of its object -/
theorem Inv.lstUpd {pins : List (Addr × Obj)} {σ : St} {H : Hp} {s : Shared} {p : Addr} {xs ys : List V} {its its' : List Value} {n n' : Nat} {f : Obj → Obj} (I : Inv X pins σ H s) (h : H p = some (.lst xs))
    (ho : s.heap.get? p = some { cls := .type "list", data := .seq its.toArray n }) (hf : f { cls := .type "list", data := .seq its.toArray n } = { cls := .type "list", data := .seq its'.toArray n' }) (r : Vals ys its') (hz : ys.length ≤ sizeLine) (t : Nat) :
    Inv X pins σ (upd H p (.lst ys)) { s with heap := s.heap.update p f, toks := t } := by
  have e : (s.heap.update p f).get? p = some { cls := .type "list", data := .seq its'.toArray n' } := by
    rw [Heap.get?_update_self f ho (by rw [hf] <;> rfl), hf]
  refine I.write (x := p) (e := p) (by rw [h]; trivial) (.inl rfl) (fun b u hb q => (Heap.get?_update_other _ _ (Ne.symm hb)).trans q) ⟨_, e⟩ ?_
  exact ⟨hz, its', n', r, e⟩
def rSetL : V → V → V → Hp → (Hp → Prop) → Prop := fun o i v H Q => ∃ p xs k j, o = .ref p ∧ i = .int k ∧ H p = some (.lst xs) ∧ ixN xs.length k = some j ∧ Q (upd H p (.lst (xs.set j v)))
theorem set_list : PSet X rSetL := by
  intro pins s σ H o i v ov iv u Q I ro ri rv h
  obtain ⟨p, xs, k, j, rfl, rfl, hp, hj, q⟩ := h
  cases ro
  obtain ⟨t, rfl⟩ := ri
  obtain ⟨its, n, r, ho, hz⟩ := I.lst hp
  obtain ⟨h1, h2, h3, h4⟩ := ixN_seq hj
  have hl := r.length
  have hn := line63
  have I' : Inv X pins σ (upd H p (.lst (xs.set j v))) { s with heap := s.heap.update p (Obj.mapSeq (·.setIfInBounds j u)) } :=
    I.lstUpd hp ho (mapSeq_set its n j u) (r.set rv j) (by rw [List.length_set]; exact hz) s.toks
  by_cases h0 : 0 ≤ k
  · have hk : k.toNat = j := by
      rw [seqIndex_of h0 h4] at h1
      exact Option.some.inj h1
    exact PySem.W.ki_setAt ho h0 (by omega) (by rw [List.size_toArray, ← hl]; exact h4) (by rw [hk]; exact ⟨_, I', q⟩)
  · have hk : (k + (its.toArray.size : Int)).toNat = j := by
      rw [seqIndex_neg (by omega) h3] at h1
      rw [List.size_toArray, ← hl]
      exact Option.some.inj h1
    exact PySem.W.ki_setBack ho (by omega) (by rw [List.size_toArray, ← hl]; exact h3) (by omega) (by rw [hk]; exact ⟨_, I', q⟩)

/-! ### slices -/
theorem slice_bounds (lo hi : Option Int) (n : Nat) : (sliceBounds lo hi none n).1 = ((HT.sIx n 0 lo : Nat) : Int) ∧ (sliceBounds lo hi none n).2.1 = ((HT.sIx n n hi : Nat) : Int) ∧ (sliceBounds lo hi none n).2.2 = 1 := by
  refine ⟨?_, ?_, rfl⟩
  · cases lo with
    | none => simp [sliceBounds, HT.sIx]
    | some i =>
      simp only [sliceBounds, HT.sIx, Option.getD_none, show (1 : Int) > 0 by decide, if_true]
      by_cases h : i < 0
      · simp only [h, if_true] <;> omega
      · simp only [h, if_false] <;> omega
  · cases hi with
    | none => simp [sliceBounds, HT.sIx]
    | some i =>
      simp only [sliceBounds, HT.sIx, Option.getD_none, show (1 : Int) > 0 by decide, if_true]
      by_cases h : i < 0
      · simp only [h, if_true] <;> omega
      · simp only [h, if_false] <;> omega
theorem slicePick_cut (its : List Value) (lo hi : Option Int) : slicePick its.toArray lo hi none = ((its.drop (HT.sIx its.length 0 lo)).take (HT.sIx its.length its.length hi - HT.sIx its.length 0 lo)).toArray := by
  obtain ⟨h1, h2, h3⟩ := slice_bounds lo hi its.toArray.size
  unfold slicePick
  rw [h1, h2, h3]
  simp only [sliceRange_one, pick_run, List.size_toArray] <;> rfl
/-- xs[lo:hi] of a list: a new list -/
def rSlL (K : PySem.W.Frag) : V → Option Int → Option Int → Hp → VK → Prop := fun x lo hi H Q => ∃ a xs, x = .ref a ∧ SqL K H a xs ∧ ∀ p, H p = none → Q (.ref p) (upd H p (.lst (cutV xs lo hi)))
theorem sl_list : SlR X (rSlL X.K) := by
  intro pins s σ H x v vl vu lo hi sl Q I rx hs pl pu h
  obtain ⟨a, xs, rfl, hx, q⟩ := h
  cases rx
  obtain ⟨its, r, ht, hz⟩ := I.list hx
  have hlen := r.length
  refine ⟨"list", _, slot_list_getitem.lookup, ht.isList.typeIs, ?_⟩
  refine wpAny_getItem_list_slice ht.isList hs pl pu .none (by simp) ?_ (by rw [List.size_toArray] <;> omega)
  rw [slicePick_cut, ← hlen]
  refine ⟨.ref s.heap.objs.size, _, I.laid (t' := s.toks) (o := .lst (cutV xs lo hi)) (fun b ob q => Heap.get?_push_of_some _ q) (Nat.le_refl _) ?_, rfl, q _ (I.hok.fresh (Nat.le_refl _))⟩
  exact ⟨Nat.le_trans (cutV_length xs lo hi) hz, _, 0, (r.drop (HT.sIx xs.length 0 lo)).take (HT.sIx xs.length xs.length hi - HT.sIx xs.length 0 lo), Heap.get?_push_size _ rfl⟩

/-! ### in, not in: flat items -/
/-! ### len, list(x), tuple(x) of any list or tuple that is read -/
theorem call_len_seq : CallR X (.builtin "len") (fun xs H Q => ∃ p ys, xs = [.ref p] ∧ (SqL X.K H p ys ∨ SqT X.K H p ys) ∧ Q (.int ys.length) H) := by
  intro pins s σ H xs us Q I r h
  obtain ⟨p, ys, rfl, hq, q⟩ := h
  obtain ⟨u, rfl, rx⟩ := vals1 r
  cases rx
  have hn := line63
  rcases hq with hq | hq
  · obtain ⟨its, r', pl, hz⟩ := I.list hq
    have hlen := r'.length
    exact Calls.call_len_list pl.isList (by simp only [List.size_toArray] <;> omega) ⟨.int ys.length, H, I.tok _, ⟨s.toks + 1, by rw [List.size_toArray, hlen]⟩, q⟩
  · obtain ⟨its, r', pl, hz⟩ := I.tuple hq
    have hlen := r'.length
    exact len_tuple pl (by simp only [List.size_toArray] <;> omega) ⟨.int ys.length, H, I.tok _, ⟨s.toks + 1, by rw [List.size_toArray, hlen]⟩, q⟩
theorem CallR.or {f : Value} {r r' : List V → Hp → VK → Prop} (h : CallR X f r) (h' : CallR X f r') : CallR X f (fun xs H Q => r xs H Q ∨ r' xs H Q) := by
  intro pins s σ H xs us Q I rs q
  rcases q with q | q
  · exact h pins s σ H xs us Q I rs q
  · exact h' pins s σ H xs us Q I rs q
theorem call_list_of : CallR X (.type "list") (fun xs H Q => ∃ p ys, xs = [.ref p] ∧ (SqL X.K H p ys ∨ SqT X.K H p ys) ∧ ∀ l, H l = none → Q (.ref l) (upd H l (.lst ys))) := by
  intro pins s σ H xs us Q I r h
  obtain ⟨p, ys, rfl, hq, q⟩ := h
  obtain ⟨u, rfl, rx⟩ := vals1 r
  cases rx
  have fin : ∀ (its : List Value), Vals ys its → ys.length ≤ sizeLine → ∀ (h' : Heap) (c' : Nat), (∀ b o', s.heap.get? b = some o' → h'.get? b = some o') →
      h'.get? s.heap.objs.size = some { cls := .type "list", dict := none, data := .seq its.toArray c', slots := #[] } → EP X pins σ Q (.ref s.heap.objs.size) { s with heap := h' } := fun its r' hz h' c' kp e =>
    ⟨.ref s.heap.objs.size, _, I.laid (t' := s.toks) kp (Nat.le_refl _) (show ObjOk X.prog X.w _ h' _ (.lst ys) from ⟨hz, its, c', r', e⟩), rfl, q _ (I.hok.fresh (Nat.le_refl _))⟩
  rcases hq with hq | hq
  · obtain ⟨its, r', pl, hz⟩ := I.list hq
    have hlen := r'.length
    obtain ⟨o, ho, hc, n, hd⟩ := pl.isList
    exact call_list_seq p (.inl rfl) ho hc hd (fun h' c' kp e => fin its r' hz h' c' kp e) (by simp only [List.size_toArray] <;> omega)
  · obtain ⟨its, r', pl, hz⟩ := I.tuple hq
    have hlen := r'.length
    obtain ⟨o, ho, hc, n, hd⟩ := pl
    exact call_list_seq p (.inr rfl) ho hc hd (fun h' c' kp e => fin its r' hz h' c' kp e) (by simp only [List.size_toArray] <;> omega)
/-! ### the call of a builtin's method: o.m(..) -/
/-- the value is of that builtin type -/
def tyV (K : PySem.W.Frag) (T : String) (x : V) (H : Hp) : Prop := match x with
  | .str _ => T = "str"
  | .int _ => T = "int"
  | .ref p => (T = "list" ∧ ∃ xs, SqL K H p xs) ∨ (T = "tuple" ∧ ∃ o, K.lookup p = some o ∧ o.cls = .type "tuple" ∧ o.dict = none) ∨
      (T = "dict" ∧ ((∃ kvs, H p = some (.dK kvs)) ∨ ∃ kvs, H p = some (.dT kvs))) ∨ (T = "set" ∧ ∃ S n, H p = some (.set S n))
  | _ => False
theorem tyV_is {pins : List (Addr × Obj)} {σ : St} {H : Hp} {s : Shared} {T : String} {x : V} {v : Value} (I : Inv X pins σ H s) (r : RelV x v) (ty : tyV X.K T x H) :
    s.TypeIs v T ∧ ∀ a, v = .ref a → ∃ ob, s.heap.get? a = some ob ∧ ob.dict = none := by
  cases x with
  | str z =>
    obtain ⟨t, rfl⟩ := r
    cases (show T = "str" from ty)
    exact ⟨typeIs_str s z t, fun _ e => nomatch e⟩
  | int i =>
    obtain ⟨t, rfl⟩ := r
    cases (show T = "int" from ty)
    exact ⟨typeIs_int s i t, fun _ e => nomatch e⟩
  | ref p =>
    cases r
    rcases ty with ⟨rfl, xs, hq⟩ | ⟨rfl, o, hk, hc, hd⟩ | ⟨rfl, hk⟩ | ⟨rfl, S, n, hk⟩
    · obtain ⟨its, _, pl, _⟩ := I.list hq
      refine ⟨pl.isList.typeIs, fun a e => ?_⟩
      cases e
      obtain ⟨o, n, e, c, hd, _⟩ := pl
      exact ⟨o, e, hd⟩
    · refine ⟨⟨o, I.kIn p o hk, hc⟩, fun a e => ?_⟩
      cases e
      exact ⟨o, I.kIn _ o hk, hd⟩
    · have z : ∃ o, s.heap.get? p = some o ∧ o.ExactDict := by
        rcases hk with ⟨kvs, hk⟩ | ⟨kvs, hk⟩
        · obtain ⟨_, _, _, _, o, _, _, e, ex, _⟩ := I.hok p _ hk
          exact ⟨o, e, ex⟩
        · obtain ⟨_, _, _, _, o, _, _, e, ex, _⟩ := I.hok p _ hk
          exact ⟨o, e, ex⟩
      obtain ⟨o, e, ex⟩ := z
      refine ⟨⟨o, e, ex.1⟩, fun a e2 => ?_⟩
      cases e2
      exact ⟨o, e, ex.2.1⟩
    · obtain ⟨o, _, _, _, e, ex, _⟩ := I.hok p _ hk
      refine ⟨⟨o, e, ex.1⟩, fun a e2 => ?_⟩
      cases e2
      exact ⟨o, e, ex.2.1⟩
  | _ => exact False.elim ty
def tBM (K : PySem.W.Frag) (T : String) (r : V → List V → Hp → VK → Prop) (to : TE) (t : TA) : TE := fun σ H Q => to σ H fun x H1 => tyV K T x H1 ∧ t σ H1 fun xs H2 => r x xs H2 Q
variable {o e : Expr} {es : List Expr} {to : TE} {t : TA} {name : Str} {apos cpos : Pos} {T id : String} {r : V → List V → Hp → VK → Prop}
theorem pe_bm (pa : PlainAttrs T) (slot : Slot T name id) (hty : typeOf (.builtin id) = pure (.type "method_descriptor")) (hm : MtR X id r) (ho : PE X o to) (ha : PA X (e :: es) t)
    (hbase : attributeBase o name X.env (eval o X.env) = eval o X.env := by rfl)
    (hfew : ((backTo cpos (starEach (e :: es) X.env)).all (fun x => !x.1) && (backToKw cpos (keywordEach [] X.env)).all (fun x => x.1.isSome)
      && decide ((e :: es).length + ([] : List Keyword).length + (if ([] : List Keyword).isEmpty then 0 else 1) < 30)) = true := by rfl)
    (hline : (apos.endLine == cpos.line) = true := by rfl) (hs : starEach (e :: es) X.env = (false, eval e X.env) :: starEach es X.env := by rfl) (hplain : (backTo cpos (starEach es X.env)).any (·.1) = false := by rfl) :
    PE X (.Call (.Attribute o name apos) (e :: es) [] cpos) (tBM X.K T r to t) := by
  intro pins s σ H Q I h
  refine wpAny_Call_method_late hbase hfew hline rfl (thn (ho pins s σ H _ I h) fun v s1 ⟨x, H1, I1, r1, ty, q1⟩ => ?_)
  obtain ⟨h1, h2⟩ := tyV_is I1 r1 ty
  refine ⟨T, id, pa, slot, hty, h1, h2, ?_⟩
  have hA := ha cpos pins s1 σ H1 _ I1 q1
  rw [hs] at hA ⊢
  refine Calls.callWith_builtin (by show (false || (backTo cpos (starEach es X.env)).any (·.1)) = false; rw [hplain] <;> rfl) (Calls.evalArgs_plain ?_)
  exact thn hA fun us s2 ⟨vs, H2, I2, r2, q2⟩ => hm pins s2 σ H2 x vs v us Q I2 r1 r2 q2
/- xs.append(e), list.index on a module's tuple .. are MtR facts of 06m -/
end
end L2

namespace L2
open PySem PySem.Spec PyProof.Rows

def MtM (X : Cx) (id : String) (r : V → List V → Hp → VK → Prop) : Prop :=
  ∀ (pins : List (Addr × Obj)) (s : Shared) (σ : St) (H : Hp) (x : V) (xs : List V) (v : Value) (us : List Value) (Q : VK), Inv X pins σ H s → RelV x v → Vals xs us → r x xs H Q →
    wpAny (model X.prog X.w) X.A (call (.builtin id) (v :: us)) (EP X pins σ Q) X.xe s

/-! ### lists of values -/
theorem Vals.one : ∀ {x : V} {us : List Value}, Vals [x] us → ∃ u, us = [u] ∧ RelV x u
  | _, _, .cons r .nil => ⟨_, rfl, r⟩
theorem Vals.two : ∀ {x y : V} {us : List Value}, Vals [x, y] us → ∃ u v, us = [u, v] ∧ RelV x u ∧ RelV y v
  | _, _, _, .cons r (.cons q .nil) => ⟨_, _, rfl, r, q⟩
theorem Vals.zero : ∀ {us : List Value}, Vals [] us → us = []
  | _, .nil => rfl
theorem Vals.dropLast {xs : List V} {us : List Value} (h : Vals xs us) : Vals xs.dropLast us.dropLast := by
  induction h with
  | nil => exact .nil
  | cons r t ih =>
    cases t with
    | nil => exact .nil
    | cons q t' => exact .cons r ih
theorem Vals.eraseIdx : ∀ {xs : List V} {us : List Value} (i : Nat), Vals xs us → Vals (xs.eraseIdx i) (us.eraseIdx i)
  | _, _, _, .nil => .nil
  | _, _, 0, .cons _ t => t
  | _, _, i + 1, .cons r t => .cons r (Vals.eraseIdx i t)
theorem Vals.reverse {xs : List V} {us : List Value} (h : Vals xs us) : Vals xs.reverse us.reverse := by
  induction h with
  | nil => exact .nil
  | cons r t ih => rw [List.reverse_cons, List.reverse_cons]; exact Vals.append ih (.cons r .nil)
theorem Vals.rep {xs : List V} {us : List Value} (h : Vals xs us) : ∀ k : Nat, Vals (List.replicate k xs).flatten (List.replicate k us).flatten
  | 0 => .nil
  | k + 1 => by
    rw [List.replicate_succ, List.replicate_succ, List.flatten_cons, List.flatten_cons]
    exact Vals.append h (Vals.rep h k)
theorem foldl_rep (its : List Value) : ∀ (k : Nat) (acc : List Value),
    List.foldl (fun x1 x2 => x1 ++ x2) acc.toArray (List.replicate k its.toArray) = (acc ++ (List.replicate k its).flatten).toArray
  | 0, acc => by simp
  | k + 1, acc => by
    have e : acc.toArray ++ its.toArray = (acc ++ its).toArray := by simp
    have e2 : (acc ++ its) ++ (List.replicate k its).flatten = acc ++ (List.replicate (k + 1) its).flatten := by
      rw [List.replicate_succ, List.flatten_cons, List.append_assoc]
    rw [← e2, ← foldl_rep its k (acc ++ its), ← e, List.replicate_succ, List.foldl_cons]

section
variable {X : Cx} {pins : List (Addr × Obj)} {σ : St} {H : Hp} {s : Shared} {l b : Addr} {xs ys zs : List V}

/-! ### the two steps: a tracked list is rewritten, a new list is laid -/
theorem Inv.lset {its its' : List Value} {n : Nat} {f : Array Value → Array Value} {t' : Nat} (I : Inv X pins σ H s) (hH : H l = some (.lst xs))
    (e : s.heap.get? l = some { cls := .type "list", data := .seq its.toArray n }) (hf : f its.toArray = its'.toArray) (hv : Vals ys its') (hz : ys.length ≤ sizeLine) :
    Inv X pins σ (upd H l (.lst ys)) { s with heap := s.heap.update l (Obj.mapSeq f), toks := t' } := by
  have q := PySem.IsL.update e f
  rw [hf] at q
  refine I.write (x := l) (e := l) (by rw [hH]; exact trivial) (.inl rfl) (fun b' u hb hu => (Heap.get?_update_other s.heap (Obj.mapSeq f) (Ne.symm hb)).trans hu) ⟨_, q⟩ ?_
  exact ⟨hz, its', _, hv, q⟩
theorem Inv.lnew {its : List Value} {t' : Nat} (I : Inv X pins σ H s) (hv : Vals ys its) (hz : ys.length ≤ sizeLine) :
    Inv X pins σ (upd H s.heap.objs.size (.lst ys)) { s with heap := s.heap.push { cls := .type "list", data := .seq its.toArray }, toks := t' } :=
  I.laid (fun _ _ q => Heap.get?_push_of_some _ q) (Nat.le_refl _) ⟨hz, its, 0, hv, Heap.get?_push_size _ rfl⟩
theorem Inv.fresh (I : Inv X pins σ H s) : H s.heap.objs.size = none := I.hok.fresh (Nat.le_refl _)
theorem Inv.lstM (I : Inv X pins σ H s) (hH : H l = some (.lst xs)) : xs.length ≤ sizeLine ∧ ∃ (its : List Value) (n : Nat), Vals xs its ∧ xs.length = its.length ∧ s.heap.get? l = some { cls := .type "list", data := .seq its.toArray n } := by
  obtain ⟨z, its, n, r, e⟩ := I.hok l _ hH
  exact ⟨z, its, n, r, r.length, e⟩

theorem notLongL {n : Nat} (h : n ≤ sizeLine) : Builtin.List.listTooLong n = false := by
  unfold Builtin.List.listTooLong
  exact decide_eq_false (by omega)
end

section
variable {X : Cx}

/-! ### methods -/
def rAppend : V → List V → Hp → VK → Prop := fun x vs H Q => ∃ l xs y, x = .ref l ∧ vs = [y] ∧ H l = some (.lst xs) ∧ xs.length < sizeLine ∧ Q .non (upd H l (.lst (xs ++ [y])))
theorem mt_append : MtM X "list.append" rAppend := by
  intro pins s σ H x vs v us Q I rx rv h
  obtain ⟨l, xs, y, rfl, rfl, hH, hz, q⟩ := h
  cases rx
  obtain ⟨u, rfl, ru⟩ := rv.one
  obtain ⟨z, its, n, r, hl, e⟩ := I.lstM hH
  refine call_meets F.slot_list_append ⟨_, e, rfl⟩ F.entry_list_append (F.args_list_append_2 _ _) (PySem.list_append l its.toArray n u (by rw [List.size_toArray]; omega)) ⟨e, ?_⟩
  refine ⟨.non, _, I.lset (its' := its ++ [u]) hH e (by simp) (r.append (.cons ru .nil)) ?_, rfl, q⟩
  rw [List.length_append, List.length_singleton]
  omega

def rExtend : V → List V → Hp → VK → Prop := fun x vs H Q => ∃ l b xs zs, x = .ref l ∧ vs = [.ref b] ∧ H l = some (.lst xs) ∧ H b = some (.lst zs) ∧ xs.length + zs.length ≤ sizeLine ∧ Q .non (upd H l (.lst (xs ++ zs)))
theorem mt_extend : MtM X "list.extend" rExtend := by
  intro pins s σ H x vs v us Q I rx rv h
  obtain ⟨l, b, xs, zs, rfl, rfl, hH, hB, hz, q⟩ := h
  cases rx
  obtain ⟨u, rfl, ru⟩ := rv.one
  cases ru
  obtain ⟨z, its, n, r, hl, e⟩ := I.lstM hH
  obtain ⟨z2, its2, n2, r2, hl2, e2⟩ := I.lstM hB
  have hsz : its.toArray.size + its2.toArray.size ≤ sizeLine := by rw [List.size_toArray, List.size_toArray]; omega
  have hlong : ¬ (!its.toArray.isEmpty && Builtin.List.listTooLong (its.toArray.size + its2.toArray.size)) = true := by
    rw [notLongL hsz, Bool.and_false]
    exact Bool.false_ne_true
  refine call_meets F.slot_list_extend ⟨_, e, rfl⟩ F.entry_list_extend (F.args_list_extend_2 _ _)
    (AutoSeq1.list_extend_list_list_0 l its.toArray n b its2.toArray n2 hlong (by rw [List.size_toArray]; omega) (by omega)) ⟨e, e2, ?_⟩
  refine ⟨.non, _, I.lset (its' := its ++ its2) hH e (by simp) (r.append r2) ?_, rfl, q⟩
  rw [List.length_append]
  omega

/-! ### list + list, list += list, list * int -/
def rCat : R2 := fun x y H Q => ∃ l b xs zs, x = .ref l ∧ y = .ref b ∧ H l = some (.lst xs) ∧ H b = some (.lst zs) ∧ xs.length + zs.length ≤ sizeLine ∧ ∀ p, H p = none → Q (.ref p) (upd H p (.lst (xs ++ zs)))
theorem op_cat : OpR X (binaryOp .Add) rCat := by
  intro pins s σ H x y v u Q I rx ry h
  obtain ⟨l, b, xs, zs, rfl, rfl, hH, hB, hz, q⟩ := h
  cases rx
  cases ry
  obtain ⟨z, its, n, r, hl, e⟩ := I.lstM hH
  obtain ⟨z2, its2, n2, r2, hl2, e2⟩ := I.lstM hB
  refine PySem.P.add_list e e2 ?_ (by rw [List.size_toArray, List.size_toArray]; omega)
  have ea : its.toArray ++ its2.toArray = (its ++ its2).toArray := by simp
  rw [ea]
  exact ⟨.ref _, _, I.lnew (t' := s.toks) (r.append r2) (by rw [List.length_append]; omega), rfl, q _ I.fresh⟩
/-- a list times an int (a negative one is nothing) -/
def rRep : R2 := fun x y H Q => ∃ l k xs, x = .ref l ∧ y = .int k ∧ H l = some (.lst xs) ∧ -(2 ^ 63) ≤ k ∧ k < 2 ^ 63 ∧ xs.length * k.toNat ≤ sizeLine ∧
  ∀ p, H p = none → Q (.ref p) (upd H p (.lst (List.replicate k.toNat xs).flatten))
theorem len_rep {α : Type} (xs : List α) (k : Nat) : (List.replicate k xs).flatten.length = k * xs.length := by
  induction k with
  | zero => simp
  | succ k ih => rw [List.replicate_succ, List.flatten_cons, List.length_append, ih, Nat.succ_mul, Nat.add_comm]
theorem op_rep : OpR X (binaryOp .Mult) rRep := by
  intro pins s σ H x y v u Q I rx ry h
  obtain ⟨l, k, xs, rfl, rfl, hH, h1, h2, hz, q⟩ := h
  cases rx
  obtain ⟨t, rfl⟩ := ry
  obtain ⟨z, its, n, r, hl, e⟩ := I.lstM hH
  have hlen : its.toArray.size * k.toNat ≤ sizeLine := by rw [List.size_toArray, ← hl]; exact hz
  have hcap : ¬ its.toArray.size * k.toNat > (2 ^ 63 - 1) / 8 := by
    have : (sizeLine : Nat) ≤ (2 ^ 63 - 1) / 8 := by decide
    omega
  have hfit : ¬ (!Builtin.List.listFitsIndex k) = true := by
    rw [fitsIndex_both h1 h2]
    exact Bool.false_ne_true
  have hlong : ¬ Builtin.List.listTooLong (its.toArray.size * k.toNat) = true := by
    rw [notLongL hlen]
    exact Bool.false_ne_true
  have hnew : List.foldl (fun x1 x2 => x1 ++ x2) #[] (List.replicate (if its.toArray.isEmpty = true then 0 else k.toNat) its.toArray) = (List.replicate k.toNat its).flatten.toArray := by
    have f0 : ∀ m : Nat, List.foldl (fun x1 x2 => x1 ++ x2) #[] (List.replicate m its.toArray) = (List.replicate m its).flatten.toArray := fun m => by
      have := foldl_rep its m []
      rw [List.nil_append] at this
      exact this
    rw [f0]
    cases its with
    | nil => simp
    | cons a r' => rw [if_neg (by simp)]
  refine wpAny_binaryOp_repeat_ref (T := "list") (U := "int") (by decide) ⟨_, e, rfl⟩ (fun s' => typeIs_int s' k t) noFill_list_mul F.fills_int_mul F.slot_int_rmul repeat_list F.slot_int_index.lookup
    (call_meets F.slot_int_rmul (typeIs_int s k t) F.entry_int_rmul (F.args_int_rmul_2 _ _) (int___rmul___int_list k t l its.toArray n)
      ⟨e, rfl, ⟨_, e, rfl⟩, call_meets F.slot_list_mul ⟨_, e, rfl⟩ F.entry_list_mul (F.args_list_mul_2 _ _) (AutoListH.list___mul___list_int_3 l its.toArray n k t hfit hcap hlong) ⟨e, ?_⟩⟩)
  rw [hnew]
  exact ⟨.ref _, _, I.lnew (t' := s.toks) (r.rep k.toNat) (by rw [len_rep, Nat.mul_comm]; exact hz), rfl, q _ I.fresh⟩

/-! ### del xs[i] -/
end

/-! ### xs[a:b] = ys -/
section
variable {prog : Program} {w : World} {A : Around} {E : Value → Shared → Prop} {s : Shared}
end

section
variable {X : Cx}
end
end L2

namespace Att
open PySem PySem.W PySem.Calls PyProof.Rows

/-! ### the script -/
theorem ints_of_wellAll {P : Params} {h : Heap} : ∀ (ns : List Int) (vs : List Value), WellAll P h vs (ns.map WData.int) → IntsAre vs ns := by
  intro ns
  induction ns with
  | nil =>
    intro vs w
    rw [List.map_nil] at w
    cases w
    exact .nil
  | cons n ns ih =>
    intro vs w
    rw [List.map_cons] at w
    cases w with
    | cons a b =>
      cases a
      exact .cons _ _ (ih _ b)

theorem script_of {l : OpenLaw} {n : Nat} (hn : l.most = some n) {P : Params} {h : Heap} {args : List WData} {vals : List Value}
    (hpre : l.row.toRowW.claim.pre args = true) (hwl : WellAll P h vals args) :
    ∃ a vs ns, vals = [Value.ref a] ∧ args = [WData.list (ns.map WData.int)] ∧ h.get? a = some { cls := .type "list", data := .seq vs.toArray } ∧ IntsAre vs ns ∧ ns.length ≤ n := by
  have hsh : WShape.hasAll [] args [.list .int] = true := (pre_splitW hpre).1
  have hc : l.pre.holds [] { args := args } = true := (pre_splitW hpre).2
  obtain ⟨d, r, rfl, h1, h2⟩ := hasAllW_cons hsh
  obtain rfl := hasAllW_nil h2
  obtain ⟨xs, rfl, h3⟩ := hasW_list h1
  obtain ⟨ns, rfl⟩ := items_int h3
  have hlen : ns.length ≤ n := by
    unfold OpenLaw.pre at hc
    have h4 : (WTm.not (.lt (.lit (.int (n : Int))) (.len (.arg 0)))).holds [] { args := [.list (ns.map .int)] } = true := by
      have h4 := (holds_andW hc).1
      rw [hn] at h4
      exact h4
    have h5 := condW_of h4 (w_not (w_lt w_lit (w_len_list (w_arg rfl))))
    rw [List.length_map] at h5
    refine Nat.le_of_not_lt fun q => ?_
    have q' : (n : Int) < ((ns.length : Nat) : Int) := by omega
    first
      | (rw [decide_eq_true q'] at h5; exact absurd h5 (by decide))
      | (simp at h5; omega)
  cases hwl with
  | cons w1 w2 =>
    cases w2
    cases w1 with
    | list ho hall => exact ⟨_, _, ns, rfl, rfl, ho, ints_of_wellAll ns _ hall, hlen⟩

theorem post_true (l : OpenLaw) (args : List WData) : l.row.toRowW.claim.post args (.bool true) args = true :=
  postW_of (r := l.row.toRowW) (X := (true == true))
    (show WShape.has [] (.bool true) .bool = true by first | rfl | decide | simp [WShape.has, WShape.arms, WShape.armsAll])
    (show (WTm.eq .res (.lit (.bool true))).value [] { args := args, res := some (.bool true), after := args } = some (.bool (true == true)) from w_eq_bool (w_res rfl) w_lit) rfl

/-! ### the attachment: holds_open's last premise (the goal 'hc' behind k_head) from a wpAny of the law's body -/
/-- the same from a codeAny of the CALL (for a layer whose function contracts speak of calls) -/
theorem attach_call {l : OpenLaw} {n : Nat} {q : Program} {loose : List Str} {XP : (Str → Option Value) → Heap → Prop} {YP : World → Heap → Prop} {d : DefRec}
    (hn : l.most = some n) (hdf : d.params.defaults = [])
    (call : ∀ (w : World) (s₀ s₁ : Shared) (mg mb : Str → Option Value) (fa : Addr) (o : Obj) (pm cd doc : Value) (a : Addr) (vs : List Value) (ns : List Int),
      Ground q loose [] XP w s₀ mg mb s₁.heap → YP w s₁.heap →
      s₁.heap.get? fa = some o → o.data = .func (docDef d.name d.params d.body d.scope pm cd doc) → s₁.heap.CodeRec cd d.name → mg d.name = some (.ref fa) →
      s₁.heap.get? a = some { cls := .type "list", data := .seq vs.toArray } → IntsAre vs ns → ns.length ≤ n → s₁.gens = #[] →
      codeAny (model l.prog w) callerA (.call (.ref fa) ⟨[.ref a], []⟩) (fun r s' => r = .ok (.ret (.bool true)) ∧ OldK s₁.heap s'.heap ∧ s'.os = s₁.os ∧ AllBare s'.gens) s₁) :
    WalkO q loose XP YP l.row.toRowW d [] (fun f vs => PySem.call f vs) := by
  intro w s₀ s₁ mg mb G Y fa o pm cd doc dV kV ho hd hcd hD hmg hg args vals as hpre hlay hrd hwl hlo
  obtain rfl : dV = .none := Dflts.none hD hdf
  obtain rfl : kV = .none := Dflts.noKw hD
  obtain ⟨a, vs, ns, rfl, rfl, hobj, hints, hlen⟩ := script_of hn hpre hwl
  refine enter_call (codeAny_mono (call w s₀ s₁ mg mb fa o pm cd doc a vs ns G Y ho (fd_plain hd) hcd hmg hobj hints hlen hg) fun r s' hq => ?_)
  obtain ⟨rfl, h2, h3, h4⟩ := hq
  exact ⟨.inl ⟨.bool true, .bool true, [], rfl, fun _ => rfl, .bool true, post_true l _, fun _ => ⟨List.Pairwise.nil, fun _ hm => (nomatch hm)⟩⟩, h2, h3, h4⟩

/-! ### rules over ANY heap (no ledger) from facts about the written part K: the library's own take a ledger (News) for what they write -/
section
variable {prog : Program} {w : World} {A : Around} {E : Value → Shared → Prop} {s : Shared} {K : Frag}

/-! the whole heap as the ledger: makes every rule that writes through a ledger a rule over any heap -/
def ledger (h : Heap) (L d : Addr) : List (Addr × Obj) := (List.range h.objs.size).filterMap fun a => if a = L ∨ a = d then none else (h.get? a).map fun o => (a, o)
end
end Att

namespace L2
open PySem PySem.Spec PyProof.Rows

theorem vals_ints : ∀ {vs : List Value} {ns : List Int}, IntsAre vs ns → Vals (ns.map V.int) vs
  | _, _, .nil => .nil
  | _, _, .cons n t h => .cons ⟨t, rfl⟩ (vals_ints h)

/-- nothing is tracked but the script, known to the object (or it is an object of the module) -/
def Only (H : Hp) : Prop := ∀ b, H b = none ∨ ∃ o xs, H b = some (.frz o (.lst xs))

/-- THE HEAD: the law's promise, at the heap behind the top. F, the promise of the law's def, may use that base is part of the heap (so K.In base, base.Ns mainGlobals mg stand in Mod) -/
theorem law_call {P : Program} {w : World} {K : PySem.W.Frag} {mg mb : Str → Option Value} {CX : CXT} {k : Nat} {fa a : Addr} {fd : FuncData} {x : Str} {sp : Sp} {s₁ : Shared} {vs : List Value} {ns : List Int}
    (KX : K.In s₁.heap) (hns : s₁.heap.Ns mainGlobals mg) (hb : s₁.heap.Ns builtinsNs mb) (hbb : ∀ x : Str, x ≠ "__name__" → mb x = bootBuiltins x) (hlim : s₁.heap.NoLimit) (hg : s₁.gens = #[])
    (ha : s₁.heap.get? a = some { cls := .type "list", data := .seq vs.toArray }) (hi : IntsAre vs ns) (hl : ns.length ≤ sizeLine) (hr : Room k callerA)
    (F : ∀ base : Heap, K.In base → base.Ns mainGlobals mg → FnOk P w K mg base CX k fa fd [x] sp) (hbind : ∀ (s : Shared) (u : Value), BindsTo s fd ⟨[u], []⟩ [(x, u)])
    (hsp : ∀ H : Hp, Only H → SqL K H a (ns.map V.int) → sp [.ref a] H (fun v _ => v = .bl true) fun _ _ _ => False)
    (hCX : ∀ H e s', CX [] H s₁ (fun _ _ _ => False) e s' → False) :
    codeAny (model P w) callerA (.call (.ref fa) ⟨[.ref a], []⟩) (fun r s' => r = .ok (.ret (.bool true)) ∧ OldK s₁.heap s'.heap ∧ s'.os = s₁.os ∧ AllBare s'.gens) s₁ := by
  have rv := vals_ints hi
  have lenV := hi.length
  -- from an abstract heap in which nothing but the script may be tracked
  have core : ∀ H : Hp, Only H → SqL K H a (ns.map V.int) → HOk P w H s₁.heap → (∀ b, H b ≠ none → b = a) → (H a ≠ none → K.lookup a = none) →
      codeAny (model P w) callerA (.call (.ref fa) ⟨[.ref a], []⟩) (fun r s' => r = .ok (.ret (.bool true)) ∧ OldK s₁.heap s'.heap ∧ s'.os = s₁.os ∧ AllBare s'.gens) s₁ := by
    intro H hO hS hok hA hK
    have base_of : ∀ {b : Addr} {o : Obj}, s₁.heap.get? b = some o → H b = none → (hidT s₁.heap H).get? b = some o := fun e n => hidT_get e n
    have noA : ∀ {b : Addr} {o : Obj} {es : Array DictEntry} {ep : Nat}, s₁.heap.get? b = some o → o.data = .dict es ep → H b = none := fun {b o es ep} e d => by
      cases q : H b with
      | none => rfl
      | some u =>
        have e' : b = a := hA b (by rw [q]; simp)
        subst e'
        rw [ha] at e; cases e
        have d' : Data.seq vs.toArray _ = Data.dict es ep := d
        cases d'
    have nsK : ∀ {b : Addr} {m : Str → Option Value}, s₁.heap.Ns b m → (hidT s₁.heap H).Ns b m := fun {b m} ⟨o, es, ep, e, d, r⟩ => ⟨o, es, ep, base_of e (noA e d), d, r⟩
    have hKb : K.In (hidT s₁.heap H) := fun b o e => base_of (KX b o e) (by
      cases q : H b with
      | none => rfl
      | some u =>
        have e' : b = a := hA b (by rw [q]; simp)
        subst e'
        rw [hK (by rw [q]; simp)] at e; cases e)
    have hM : Mod K mg (hidT s₁.heap H) := ⟨hKb, nsK hns, ⟨mb, nsK hb, hbb⟩, let ⟨mc, h1, h2⟩ := hlim; ⟨mc, nsK h1, h2⟩⟩
    have e0 : Env0 P w K mg (hidT s₁.heap H) callerA [] s₁ H := ⟨rfl, hM, fun b o e => of_hidT e, Nat.le_of_eq (hidT_size _ _), trivial, fun b hb => absurd (show b ∈ ([] : List Addr) from hb) (by simp), hok, .of_eq hg⟩
    refine codeAny_mono ((F _ hKb (nsK hns)).run callerA [] s₁ H ⟨[.ref a], []⟩ [.ref a] [.ref a] _ _ hr e0 (hbind s₁ (.ref a)) (.cons rfl .nil) (hsp H hO hS)) fun r s' h => ?_
    cases r with
    | error e => exact (hCX H e s' h).elim
    | ok fl =>
      cases fl with
      | next => exact False.elim h
      | brk => exact False.elim h
      | cont => exact False.elim h
      | ret u =>
        obtain ⟨v, H', os, bare, un, hok', r', q⟩ := h
        have q' : v = .bl true := q
        subst q'
        obtain rfl : u = Value.bool true := r'
        refine ⟨rfl, OldK.of_keep fun b o e => ?_, os, bare⟩
        cases q : H b with
        | none => exact un.keep b o e q (by intro z; exact absurd (show b ∈ ([] : List Addr) from z) (by simp)) (by simp)
        | some u =>
          rcases hO b with z | ⟨ob, xs, z⟩
          · rw [q] at z; cases z
          · have z2 := un.frzs b ob _ z
            obtain ⟨e1, _⟩ := hok b _ z
            obtain ⟨e2, _⟩ := hok' b _ z2
            rw [e] at e1; cases e1
            exact e2
  cases hk : K.lookup a with
  | some o =>
    -- the script is one of the module's own objects
    have e := KX a o hk
    rw [ha] at e
    cases e
    refine core (fun _ => none) (fun _ => .inl rfl) (.inr ⟨_, vs.toArray, _, hk, rfl, rfl, rfl, by rw [List.size_toArray, lenV]; exact hl, by simpa using rv⟩) (fun b u z => by have z' : (none : Option HO) = some u := z; cases z') (fun b z => absurd rfl z) fun z => absurd rfl z
  | none =>
    refine core (fun b => if b = a then some (.frz { cls := .type "list", data := .seq vs.toArray } (.lst (ns.map V.int))) else none) (fun b => ?_) (.inl (.inr ⟨{ cls := .type "list", data := .seq vs.toArray }, if_pos rfl⟩)) (fun b u z => ?_) (fun b z => ?_) fun _ => hk
    · by_cases hb : b = a
      · exact .inr ⟨_, _, if_pos hb⟩
      · exact .inl (if_neg hb)
    · by_cases hb : b = a
      · have z' := (if_pos hb).symm.trans z
        cases z'
        subst hb
        exact ⟨ha, by rw [List.length_map]; exact hl, vs, _, rv, ha⟩
      · have z' := (if_neg hb).symm.trans z
        cases z'
    · by_cases hb : b = a
      · exact hb
      · exact absurd (if_neg hb) z
end L2

namespace L2
open PySem PySem.Spec PyProof.Rows

abbrev KOf {K : PySem.W.Frag} {h : Heap} (_ : K.In h) : PySem.W.Frag := K

/-- the goal that k_head leaves (case hc), from the law's promise. F gives the function object fd (K's own) once, then the promise over every base -/
theorem walk_of {l : PySem.W.OpenLaw} {n k : Nat} {q : Program} {loose : List Str} {XP : (Str → Option Value) → Heap → Prop} {YP : World → Heap → Prop} {d : DefRec} {K : Params → PySem.W.Frag} {CX : World → CXT} {sp : World → Sp} {x : Str}
    (hn : l.most = some n) (hn2 : n ≤ sizeLine) (hdf : d.params.defaults = []) (hr : Room k callerA)
    (hY : ∀ (w : World) (h : Heap), YP w h → (K w.params).In h)
    (F : ∀ (w : World) (mg : Str → Option Value) (fa : Addr) (h : Heap), (K w.params).In h → h.Ns mainGlobals mg → mg d.name = some (.ref fa) →
      ∃ fd : FuncData, (∀ (s : Shared) (u : Value), BindsTo s fd ⟨[u], []⟩ [(x, u)]) ∧
        ∀ base : Heap, (K w.params).In base → base.Ns mainGlobals mg → FnOk l.prog w (K w.params) mg base (CX w) k fa fd [x] (sp w))
    (hsp : ∀ (w : World) (H : Hp) (a : Addr) (ns : List Int), ns.length ≤ n → Only H → SqL (K w.params) H a (ns.map V.int) → sp w [.ref a] H (fun v _ => v = .bl true) fun _ _ _ => False)
    (hCX : ∀ (w : World) (H : Hp) (s : Shared) (e : Value) (s' : Shared), CX w [] H s (fun _ _ _ => False) e s' → False) :
    PySem.W.WalkO q loose XP YP l.row.toRowW d [] (fun f vs => PySem.call f vs) := by
  refine Att.attach_call hn hdf fun w s₀ s₁ mg mb fa o pm cd doc a vs ns G Y ho hd hcd hmg hobj hints hlen hg => ?_
  have KX := hY w _ Y
  obtain ⟨fd, hb, hF⟩ := F w mg fa _ KX G.T.g hmg
  exact law_call KX G.T.g G.T.b G.T.builtins G.T.nolimit hg hobj hints (Nat.le_trans hlen hn2) hr hF hb (fun H hO hS => hsp w H a ns hlen hO hS) fun H e s' => hCX w H s₁ e s'
end L2

/- THE LAST THEOREM (shape; LID, My.* are yours):
   My.Adr: a structure of the addresses that your layer names (classes, functions); My.Txt K t: a structure (Prop) of the equations over K;
   My.txt_mk : {K} {implicit addresses ..} (e1 : nsIn K mainGlobals "law" = some (some (.ref f))) (e2 : K.lookup f = some ⟨oc, od, .func (fnOf "law" "law" params body scope dV kV doc pm an cdv ct), sl⟩) (e3 : codeIn K cdv "law" = true) .. : ∃ t, My.Txt K t

set_option maxRecDepth 100000 in
set_option maxHeartbeats 0 in
theorem PySem.Challenge.cw_LID_holds : PySem.Challenge.rw_LID.Holds := by
  w_on; o_law; k_head; (case hw => w_witness2)
  k_fill
  refine L2.walk_of (l := PySem.Challenge.rw_LID) (n := 63) (k := 40) (x := "script") (CX := fun w => ..) (sp := fun _ => My.sp_law) rfl (by decide) rfl ⟨rfl, by decide, by decide⟩ (fun w h Y => PySem.W.kIn_of Y) ?F ?S ?C
  case F =>
    intro w mg fa h KX G hmg
    have T : ∃ t, My.Txt (L2.KOf KX) t := by
      dsimp only [L2.KOf]                          -- K must stand as «<heap const> w.params» for k_is
      refine' My.txt_mk ?e1 ?e2 ?e3 ..
      (case e1 => PySem.W.k_is)                    -- in the order: a name -> its address -> its object -> its parts
      (case e2 => PySem.W.k_is)
      ..
    obtain ⟨t, T⟩ := T
    have e0 := hmg.symm.trans (PySem.W.mg_of KX G T.law)
    cases e0                                       -- fa is the law's own address
    exact ⟨_, fun s u => .of_eq rfl, fun base kb nb => My.law_fn T kb nb⟩     -- if «.of_eq rfl» comes too early: refine' ⟨_, ?b, fun base kb nb => My.law_fn T kb nb⟩; exact fun s u => .of_eq rfl
  case S => exact fun w H a ns hl hO hS => ..
  case C => exact ..
(the tactic k_is has no namespace: write k_is) -/

/-! SHORT WORDS over the layer: a def of the text, its body, what a loop and a test want. -/
namespace L2
open PySem PySem.Spec PyProof.Rows

/-! ### the text by places -/
def defArgs (s : Stmt) : Arguments := match s with
  | .FunctionDef _ a _ _ _ _ _ _ _ _ => a
  | _ => { posonlyargs := [], args := [], vararg := none, kwonlyargs := [], kw_defaults := [], kwarg := none, defaults := [] }
def defBody (s : Stmt) : List Stmt := match s with
  | .FunctionDef _ _ b _ _ _ _ _ _ _ => b
  | _ => []
def defScope (s : Stmt) : Scope := match s with
  | .FunctionDef _ _ _ _ _ _ sc _ _ _ => sc
  | _ => { kind := .function, names := [], isGenerator := false, isCoroutine := false }

/-! ### no exception leaves a def -/
abbrev CX0 : CXT := fun _ _ _ _ _ _ => False
abbrev E0 : XK := fun _ _ _ => False
theorem pass0 {X : Cx} : Passes CX0 X E0 := fun _ _ _ _ _ _ _ h => h.elim

/-! ### a def (or method) of the text as it stands behind the top -/
structure Fun (K : PySem.W.Frag) (x qual : Str) (st : Stmt) (f : Addr) (fd : FuncData) : Prop where
  ex : ∃ (oc : Value) (od : Option Addr) (kV doc pm : Value) (an : Option Addr) (cdv ct : Value) (osl : Array (Option Value)),
    fd = PySem.W.fnOf x qual (defArgs st) (defBody st) (defScope st) .none kV doc pm an cdv ct ∧ K.lookup f = some ⟨oc, od, .func fd, osl⟩ ∧ PySem.W.codeIn K cdv qual = true
  kp : PySem.W.keepIn K (.ref f) = true
section
variable {P : Program} {w : World} {K : PySem.W.Frag} {mg : Str → Option Value} {base : Heap}
/-- THE RULE for a def: its body as a term of rules, and the reading of that term -/
theorem Fun.ok {x qual : Str} {st : Stmt} {f : Addr} {fd : FuncData} {N ps : List Str} {k : Nat} {sp : Sp} (F : Fun K x qual st f fd) (S : FnScope N ps (defScope st)) (len : ∀ vs H Q E, sp vs H Q E → vs.length = ps.length)
    (hbody : ∀ (cdv : Value) (A : Around) (outer : List Env) (s : Shared) (H : Hp) (vs : List V) (Q : VK) (E : XK), Room k (A.deeper (envOfC qual (defScope st) s.heap.objs.size f cdv)) → sp vs H Q E →
      ∃ t, PSs (cxOf CX0 P w K mg base N qual (defScope st) f cdv A outer s H E).nox (defBody st) t ∧ t { nx := fun _ H' => Q .non H', rt := Q } (start N vs) H) : FnOk P w K mg base CX0 (k + 1) f fd ps sp := by
  obtain ⟨oc, od, kV, doc, pm, an, cdv, ct, osl, rfl, lk, hcd⟩ := F.ex
  refine fn_of lk hcd S len fun A outer s H vs Q E hr hsp => ?_
  obtain ⟨t, h, q⟩ := hbody cdv A outer s H vs Q E hr hsp
  exact ⟨t, h.nox, q⟩
/-- how its arguments bind (no defaults): h is «fun _ _ _ _ _ _ us hl => match us, hl with | [_, _], _ => rfl», one _ a parameter -/
theorem Fun.binds {x qual : Str} {st : Stmt} {f : Addr} {fd : FuncData} {ps : List Str} (F : Fun K x qual st f fd)
    (h : ∀ (kV doc pm : Value) (an : Option Addr) (cdv ct : Value) (us : List Value), us.length = ps.length → bindArgs (PySem.W.fnOf x qual (defArgs st) (defBody st) (defScope st) .none kV doc pm an cdv ct) ⟨us, []⟩ = pure (ps.zip us)) : Binds K fd ps [] := by
  obtain ⟨oc, od, kV, doc, pm, an, cdv, ct, osl, rfl, lk, hcd⟩ := F.ex
  exact .all (h kV doc pm an cdv ct)
theorem fun_mk {x qual : Str} {st : Stmt} {f : Addr} {oc : Value} {od an : Option Addr} {osl : Array (Option Value)} {kV doc pm cdv ct : Value} (l : K.lookup f = some ⟨oc, od, .func (PySem.W.fnOf x qual (defArgs st) (defBody st) (defScope st) .none kV doc pm an cdv ct), osl⟩)
    (c : PySem.W.codeIn K cdv qual = true) (k : PySem.W.keepIn K (.ref f) = true) : Fun K x qual st f (PySem.W.fnOf x qual (defArgs st) (defBody st) (defScope st) .none kV doc pm an cdv ct) := ⟨⟨oc, od, kV, doc, pm, an, cdv, ct, osl, rfl, l, c⟩, k⟩
end
theorem hu_of {A : Around} {k : Nat} (hr : Room k A) : A.units + 1 < cLine := Nat.lt_of_le_of_lt (Nat.add_le_add_left (by decide : 1 ≤ 64) _) hr.units
/-! ### expressions in short: the name that stands in the i-th slot -/
section
variable {X : Cx}
theorem pv (i : Nat) {x : Str} {pos : Pos} (hN : X.N[i]? = some x := by rfl) (hv : Vis X.env.scope x := by first | exact Or.inl rfl | exact Or.inr (Or.inl rfl) | exact Or.inr (Or.inr rfl)) (hd : (x == ("__debug__" : Str)) = false := by decide)
    (hcd : (x == ("__classdict__" : Str)) = false := by decide) : PE X (.Name x pos) (tVar i) := pe_var hN hv hd hcd
end

/-! ### tests -/
theorem iteF {A B : Prop} (h : B) : if false = true then A else B := by
  rw [if_neg Bool.false_ne_true]
  exact h
theorem iteT {A B : Prop} (h : A) : if true = true then A else B := by
  rw [if_pos rfl]
  exact h
theorem ite2 {c A B : Prop} [Decidable c] (h1 : c → A) (h2 : ¬ c → B) : if c then A else B := by
  by_cases h : c
  · rw [if_pos h]
    exact h1 h
  · rw [if_neg h]
    exact h2 h
theorem iteNS {c A B : Prop} [Decidable c] (hc : c) (h : B) : if (!decide c) = true then A else B := by
  rw [decide_eq_true hc]
  exact iteF h

/-! ### heaps -/
/-- all that was tracked is as it was -/
def Same (H H' : Hp) : Prop := ∀ b o, H b = some o → H' b = some o
theorem Same.refl (H : Hp) : Same H H := fun _ _ h => h
theorem Same.trans {H H1 H2 : Hp} (a : Same H H1) (b : Same H1 H2) : Same H H2 := fun c o h => b c o (a c o h)
theorem Same.free {H H' : Hp} (e : Same H H') {l : Addr} (h : H' l = Option.none) : H l = Option.none := by
  cases q : H l with
  | none => rfl
  | some o =>
    rw [e l o q] at h
    cases h
theorem Same.seq {K : PySem.W.Frag} {H H' : Hp} {a : Addr} {xs : List V} (e : Same H H') (h : SqL K H a xs) : SqL K H' a xs := by
  rcases h with (h | ⟨o, h⟩) | h
  · exact .inl (.inl (e _ _ h))
  · exact .inl (.inr ⟨o, e _ _ h⟩)
  · exact .inr h

end L2

namespace InkX
open PySem PySem.Spec PyProof.Rows L2

/-! ### isinstance, as a call by values -/
section
variable {X : Cx}
theorem call_isinst : CallR X (.builtin "isinstance") (fun xs H Q => ∃ x T t b, xs = [x, .ty T] ∧ TyOf X.K H x t ∧ PySem.W.kitOne X.K t (.type T) = some b ∧ Q (.bl b) H) := by
  intro pins s σ H xs us Q I r h
  obtain ⟨x, T, t, b, rfl, ty, e, q⟩ := h
  obtain ⟨u, v, rfl, rx, rv⟩ := r.two
  cases (show v = Value.type T from rv)
  exact isinst_ok I rx ty e fun tk => ⟨.bl b, H, I.tok tk, rfl, q⟩
/-- a built-in type as a value -/
theorem pe_ty {x : Str} {T : String} {pos : Pos} (hg : Gl X x) (hm : X.mg x = none) (hv : bootBuiltins x = some (.type T)) (hn : x ≠ "__name__" := by decide) (hd : (x == ("__debug__" : Str)) = false := by decide) : PE X (.Name x pos) (tC (.ty T)) :=
  pe_bltn hg hm hv rfl hn hd
end

/-! ### several untracked records of ours have turned -/
theorem turnedN {X : Cx} {pins : List (Addr × Obj)} {σ : L2.St} {H : Hp} {s : Shared} {h' : Heap} {t' : Nat} {ch : List Addr} (I : Inv X pins σ H s) (k : ∀ b o, b ∉ ch → s.heap.get? b = some o → h'.get? b = some o)
    (hf : ∀ b ∈ ch, FpOk X pins H b) : Inv X pins σ H { s with heap := h', toks := t' } := by
  have nit : ∀ b u, H b = some u → b ∉ ch := fun b u e z => by rw [(hf b z).1] at e; cases e
  refine I.step (g' := s.gens) (d' := s.drawn) (ch := ch) (fun b hb => ?_) (fun b o _ _ hc e _ => k b o hc e) (fun b o _ _ hc e _ => ⟨o.slots, k b o hc e⟩) (fun _ _ _ _ n => n)
    (fun b o hc e => ⟨o, k b o hc e⟩) (fun _ _ e => e) (fun _ _ _ e => e) (fun b ps e => ⟨#[], by rw [e]; simp⟩) (fun m hm => ?_) (fun b u e => ?_) I.bare
  · obtain ⟨_, f1, _, f3, f4, f5⟩ := hf b hb
    exact ⟨f3, f1, f4, f5⟩
  · obtain ⟨o, es, ep, ho, r⟩ := hm
    exact ⟨o, es, ep, k _ o (fun z => (hf _ z).2.1 rfl) ho, r⟩
  · refine (I.hok b u e).stay (fun c v hc q => k c v ?_ q) (fun _ q => q) fun _ _ q => q
    rcases hc with z | z
    · rw [z]; exact nit b u e
    · exact nit c _ z
/-- .. and a tuple that stands there untracked is taken up -/
theorem adopt {X : Cx} {pins : List (Addr × Obj)} {σ : L2.St} {H : Hp} {s : Shared} {h' : Heap} {t' : Nat} {ch : List Addr} {p : Addr} {xs : List V} {us : List Value} (I : Inv X pins σ H s) (k : ∀ b o, b ∉ ch → s.heap.get? b = some o → h'.get? b = some o)
    (hf : ∀ b ∈ ch, FpOk X pins H b) (hp : s.heap.objs.size ≤ p) (hz : xs.length ≤ sizeLine) (rv : Vals xs us) (ht : IsTup h' p us.toArray) : Inv X pins σ (upd H p (.tup xs)) { s with heap := h', toks := t' } := by
  have hn : H p = none := I.hok.fresh hp
  have nit : ∀ b u, H b = some u → b ∉ ch := fun b u e z => by rw [(hf b z).1] at e; cases e
  have nep : ∀ b o, s.heap.get? b = some o → b ≠ p := fun b o e z => by subst z; exact absurd (Nat.lt_of_lt_of_le (Heap.lt_size e) hp) (Nat.lt_irrefl _)
  refine I.step (g' := s.gens) (d' := s.drawn) (ch := ch) (fun b hb => ?_) (fun b o _ _ hc e _ => k b o hc e) (fun b o _ _ hc e _ => ⟨o.slots, k b o hc e⟩) (fun b o _ e n => by rw [upd_ne (nep b o e)]; exact n)
    (fun b o hc e => ⟨o, k b o hc e⟩) (fun b ys e => by rw [upd_ne (ne_of_none e hn)]; exact e) (fun b _ _ e => by rw [upd_ne (ne_of_none e hn)]; exact e) (fun b ps e => ⟨#[], by rw [upd_ne (ne_of_none e hn), e]; simp⟩) (fun m hm => ?_) (fun b u e => ?_) I.bare
  · obtain ⟨_, f1, _, f3, f4, f5⟩ := hf b hb
    exact ⟨f3, f1, f4, f5⟩
  · obtain ⟨o, es, ep, ho, r⟩ := hm
    exact ⟨o, es, ep, k _ o (fun z => (hf _ z).2.1 rfl) ho, r⟩
  · by_cases hb : b = p
    · subst hb
      rw [upd_same] at e
      cases e
      exact ⟨hz, us, rv, ht⟩
    · rw [upd_ne hb] at e
      refine (I.hok b u e).stay (fun c v hc q => k c v ?_ q) (fun c q => by rw [upd_ne (ne_of_none q hn)]; exact q) fun c ys q => by rw [upd_ne (ne_of_none q hn)]; exact q
      rcases hc with z | z
      · rw [z]; exact nit b u e
      · exact nit c _ z

/-! ### zip of two lists, or of two tuples -/
/-- k: a list (true) or a tuple (false) -/
def ItA (k : Bool) (h : Heap) (i a : Addr) (n : Nat) : Prop := match k with
  | true => h.IsListIter i a n
  | false => h.IsTupleIter i a n
def SqA (k : Bool) (h : Heap) (a : Addr) (xs : Array Value) : Prop := match k with
  | true => h.IsList a xs
  | false => h.IsTuple a xs
theorem ItA.at {k : Bool} {h h' : Heap} {i a : Addr} {n : Nat} (x : ItA k h i a n) (e : ∀ o, h.get? i = some o → h'.get? i = some o) : ItA k h' i a n := by
  cases k
  · obtain ⟨o, ho, r⟩ := x; exact ⟨o, e o ho, r⟩
  · obtain ⟨o, ho, r⟩ := x; exact ⟨o, e o ho, r⟩
theorem SqA.at {k : Bool} {h h' : Heap} {a : Addr} {xs : Array Value} (x : SqA k h a xs) (e : ∀ o, h.get? a = some o → h'.get? a = some o) : SqA k h' a xs := by
  cases k
  · obtain ⟨o, ho, r⟩ := x; exact ⟨o, e o ho, r⟩
  · obtain ⟨o, ho, r⟩ := x; exact ⟨o, e o ho, r⟩
theorem ItA.obj {k : Bool} {h : Heap} {i a : Addr} {n : Nat} (x : ItA k h i a n) : ∃ o, h.get? i = some o ∧ ∀ v, o.data ≠ .cell v := by
  cases k
  · obtain ⟨o, ho, _, d⟩ := x; exact ⟨o, ho, fun v z => by rw [d] at z; cases z⟩
  · obtain ⟨o, ho, _, d⟩ := x; exact ⟨o, ho, fun v z => by rw [d] at z; cases z⟩
section
variable {prog : Program} {w : World} {A : Around} {E : Value → Shared → Prop} {s : Shared}
theorem drawT_item {it t : Addr} {i : Nat} {items : Array Value} {x : Value} {Q : Value → Shared → Prop} (hit : s.heap.IsTupleIter it t i) (ht : s.heap.IsTuple t items) (hx : items[i]? = some x)
    (hQ : ∀ h', h'.IsTupleIter it t (i + 1) → Heap.SameBut it s.heap h' → Q x { s with heap := h' }) : wpAny (model prog w) A (Builtin.SmallTypes.nextOf (.ref it)) Q E s := by
  obtain ⟨o, ho, hc, hd⟩ := id hit
  obtain ⟨ol, hol, _, nl, hdl⟩ := ht
  unfold Builtin.SmallTypes.nextOf
  refine wpAny_bind (wpAny_callSpecial?_slot (name := Str.ofString "__next__") hit.typeIs F.slot_tuple_iterator_next (wpAny_call_entry F.slot_tuple_iterator_next hit.typeIs F.entry_tuple_iterator_next ?_ (F.args_tuple_iterator_next_1 _)))
  show wpAny _ _ (field (.ref it) 0 >>= _) _ _ s
  refine wpAny_bind (wpAny_field ho hd (x := .ref t) rfl ?_)
  show wpAny _ _ (if (Value.ref t == Value.none) = true then _ else _) _ _ s
  rw [if_neg (show ¬ ((Value.ref t == Value.none) = true) from Bool.false_ne_true)]
  show wpAny _ _ (field (.ref it) 1 >>= _) _ _ s
  refine wpAny_bind (wpAny_field ho hd (x := .int i 0) rfl ?_)
  show wpAny _ _ (seqItems? (.ref t) >>= _) _ _ s
  refine wpAny_bind (wpAny_seqItems hol hdl ?_)
  simp only [Int.toNat_natCast, hx]
  refine wpAny_bind (wpAny_setField ho hd (by simp) (wpAny_pure ⟨x, rfl, wpAny_pure (hQ _ ?_ (Heap.SameBut.update ..))⟩))
  refine ⟨_, Heap.get?_update_self _ ho (Obj.isFreed_of_fields (Obj.data_mapFields hd _)), (Obj.cls_mapFields ..).trans hc, ?_⟩
  rw [Obj.data_mapFields hd]; simp [rawInt]
theorem drawT_end {it t : Addr} {i : Nat} {items : Array Value} {Q : Value → Shared → Prop} (hh : A.handled = none) (hit : s.heap.IsTupleIter it t i) (ht : s.heap.IsTuple t items) (hx : items[i]? = none)
    (hE : ∀ h' e, Heap.ExtBut it s.heap h' → (∃ o, h'.get? e = some o ∧ o.cls = .type "StopIteration") → E (.ref e) { s with heap := h' }) : wpAny (model prog w) A (Builtin.SmallTypes.nextOf (.ref it)) Q E s := by
  obtain ⟨o, ho, hc, hd⟩ := id hit
  obtain ⟨ol, hol, _, nl, hdl⟩ := ht
  unfold Builtin.SmallTypes.nextOf
  refine wpAny_bind (wpAny_callSpecial?_slot (name := Str.ofString "__next__") hit.typeIs F.slot_tuple_iterator_next (wpAny_call_entry F.slot_tuple_iterator_next hit.typeIs F.entry_tuple_iterator_next ?_ (F.args_tuple_iterator_next_1 _)))
  show wpAny _ _ (field (.ref it) 0 >>= _) _ _ s
  refine wpAny_bind (wpAny_field ho hd (x := .ref t) rfl ?_)
  show wpAny _ _ (if (Value.ref t == Value.none) = true then _ else _) _ _ s
  rw [if_neg (show ¬ ((Value.ref t == Value.none) = true) from Bool.false_ne_true)]
  show wpAny _ _ (field (.ref it) 1 >>= _) _ _ s
  refine wpAny_bind (wpAny_field ho hd (x := .int i 0) rfl ?_)
  show wpAny _ _ (seqItems? (.ref t) >>= _) _ _ s
  refine wpAny_bind (wpAny_seqItems hol hdl ?_)
  simp only [Int.toNat_natCast, hx]
  refine wpAny_bind (wpAny_rule (wpAny_bind (wpAny_setField ho hd (by simp) ?_)))
  show wpAny _ _ (newExc (.type "StopIteration") [] >>= _) _ _ _
  refine wpAny_bind ?_
  simp only [newExc, newTuple]
  refine wpAny_bind (wpAny_newObj_type ?_ (by size_fits))
  refine wpAny_bind (m := firstArgMember _ _) (wpAny_of_eq (a := Value.none) (by first | rfl | (simp only [firstArgMember]; rfl)) ?_)
  refine wpAny_newObj_type ?_ (by size_fits)
  simp only [raiseNew]
  refine wpAny_bind (wpAny_handled ?_)
  first | rw [show A.in1.handled = none from hh] | rw [hh]
  refine wpAny_bind (wpAny_pure (wpAny_throw ?_))
  exact hE _ _ (((Heap.SameBut.update ..).extBut.push _).push _) ⟨_, Heap.get?_push_size _ rfl, rfl⟩
theorem drawA_item {k : Bool} {it t : Addr} {i : Nat} {items : Array Value} {x : Value} {Q : Value → Shared → Prop} (hit : ItA k s.heap it t i) (ht : SqA k s.heap t items) (hx : items[i]? = some x)
    (hQ : ∀ h', ItA k h' it t (i + 1) → Heap.SameBut it s.heap h' → Q x { s with heap := h' }) : wpAny (model prog w) A (Builtin.SmallTypes.nextOf (.ref it)) Q E s := by
  cases k
  · exact drawT_item hit ht hx hQ
  · exact wpAny_nextOf_list_item hit ht hx hQ
theorem drawA_end {k : Bool} {it t : Addr} {i : Nat} {items : Array Value} {Q : Value → Shared → Prop} (hh : A.handled = none) (hit : ItA k s.heap it t i) (ht : SqA k s.heap t items) (hx : items[i]? = none)
    (hE : ∀ h' e, Heap.ExtBut it s.heap h' → (∃ o, h'.get? e = some o ∧ o.cls = .type "StopIteration") → E (.ref e) { s with heap := h' }) : wpAny (model prog w) A (Builtin.SmallTypes.nextOf (.ref it)) Q E s := by
  cases k
  · exact drawT_end hh hit ht hx hE
  · exact wpAny_nextOf_list_end hh hit ht hx hE
abbrev itObj (k : Bool) (l : Addr) : Obj := { cls := .type (if k then "list_iterator" else "tuple_iterator"), data := .fields #[.ref l, .int 0 0] }
theorem iterA {k : Bool} {l : Addr} {xs : Array Value} {Q : Value → Shared → Prop} (h : SqA k s.heap l xs) (hQ : Q (.ref s.heap.objs.size) { s with heap := s.heap.push (itObj k l) }) : wpAny (model prog w) A (pyIter (.ref l)) Q E s := by
  cases k
  · exact wpAny_pyIter_tuple h hQ
  · exact wpAny_pyIter_list h hQ

/-- the zip's own records -/
structure ZipSt (k : Bool) (h : Heap) (z TI TO i1 i2 l1 l2 : Addr) (n : Nat) : Prop where
  z : IsZip h z TI TO .none
  ti : IsPair h TI (.ref i1) (.ref i2)
  to : ∃ a b, IsPair h TO a b
  i1 : ItA k h i1 l1 n
  i2 : ItA k h i2 l2 n
theorem zipA_item {k : Bool} {z TI TO i1 i2 l1 l2 : Addr} {n : Nat} {xs ys : Array Value} {x y : Value} {Q : Value → Shared → Prop} (D : ZipApart z TI TO i1 i2 l1 l2) (st : ZipSt k s.heap z TI TO i1 i2 l1 l2 n)
    (hl1 : SqA k s.heap l1 xs) (hl2 : SqA k s.heap l2 ys) (hx : xs[n]? = some x) (hy : ys[n]? = some y)
    (hQ : ∀ h', IsZip h' z TI TO (rawInt s.heap.objs.size) → IsPair h' TO x y → ItA k h' i1 l1 (n + 1) → ItA k h' i2 l2 (n + 1) → IsPair h' s.heap.objs.size x y →
      (∀ c o, c ≠ z → c ≠ TO → c ≠ i1 → c ≠ i2 → s.heap.get? c = some o → h'.get? c = some o) → Q (.ref s.heap.objs.size) { s with heap := h' }) :
    wpAny (model prog w) A (Builtin.«zip.__next__» ⟨[.ref z], []⟩) (fun fin s' => ∃ v, fin = .done (.ret v) ∧ Q v s') E s := by
  obtain ⟨hz, hTI, ⟨a, b, hTO⟩, h1, h2⟩ := st
  show wpAny _ _ (field (.ref z) 2 >>= _) _ _ _
  refine wpAny_bind (wpAny_field hz rfl (x := .bool false) rfl ?_)
  show wpAny _ _ (field (.ref z) 3 >>= _) _ _ _
  refine wpAny_bind (wpAny_field hz rfl (x := .ref TI) rfl (wpAny_bind (wpAny_seqItems hTI rfl ?_)))
  show wpAny _ _ (Builtin.SmallTypes.ownedTupleIsFree (.ref z) >>= _) _ _ _
  refine wpAny_bind ?_
  unfold Builtin.SmallTypes.ownedTupleIsFree
  refine wpAny_bind (wpAny_field hz rfl (x := .none) rfl (wpAny_pure ?_))
  simp only [if_true]
  refine wpAny_bind (wpAny_rule (wpAny_bind (wpAny_field hz rfl (x := .ref TO) rfl (wpAny_bind (wpAny_setField_rec hz (by simp) fun g1 z1 c1 => ?_)))))
  replace z1 : IsZip g1 z TI TO .ellipsis := z1
  refine wpAny_bind ?_
  simp only [List.zipIdx_cons, List.zipIdx_nil, List.forIn_cons, List.forIn_nil]
  refine wpAny_bind (wpAny_bind (wpAny_onRaise ?_))
  show wpAny _ _ (Builtin.SmallTypes.nextOf (.ref i1) >>= _) _ _ _
  refine wpAny_bind (drawA_item (h1.at fun o e => c1.extBut _ _ D.i1z e) (hl1.at fun o e => c1.extBut _ _ D.l1z e) hx fun g2 h12 c2 => wpAny_pure ?_)
  have o2 : IsPair g2 TO a b := c2.extBut _ _ D.TOi1 (c1.extBut _ _ D.TOz hTO)
  refine wpAny_bind (wpAny_seqItems o2 rfl (wpAny_bind (wpAny_updateSeq_pair o2 fun g3 o3 c3 => ?_)))
  replace o3 : IsPair g3 TO x b := o3
  refine wpAny_bind (wpAny_letGo (wpAny_pure (wpAny_bind (wpAny_bind (wpAny_onRaise ?_)))))
  show wpAny _ _ (Builtin.SmallTypes.nextOf (.ref i2) >>= _) _ _ _
  refine wpAny_bind (drawA_item (((h2.at fun o e => c1.extBut _ _ D.i2z e).at fun o e => c2.extBut _ _ D.i12.symm e).at fun o e => c3.extBut _ _ D.TOi2.symm e)
    (((hl2.at fun o e => c1.extBut _ _ D.l2z e).at fun o e => c2.extBut _ _ D.l2i1 e).at fun o e => c3.extBut _ _ D.l2TO e) hy fun g4 h24 c4 => wpAny_pure ?_)
  have o4 : IsPair g4 TO x b := c4.extBut _ _ D.TOi2 o3
  refine wpAny_bind (wpAny_seqItems o4 rfl (wpAny_bind (wpAny_updateSeq_pair o4 fun g5 o5 c5 => ?_)))
  replace o5 : IsPair g5 TO x y := o5
  refine wpAny_bind (wpAny_letGo (wpAny_pure (wpAny_pure (wpAny_bind (wpAny_seqItems o5 rfl (wpAny_bind (wpAny_newTuple ?_)))))))
  have sz : g5.objs.size = s.heap.objs.size := by rw [c5.1, c4.1, c3.1, c2.1, c1.1]
  have z5 : IsZip g5 z TI TO .ellipsis := c5.extBut _ _ D.TOz.symm (c4.extBut _ _ D.i2z.symm (c3.extBut _ _ D.TOz.symm (c2.extBut _ _ D.i1z.symm z1)))
  have k5 : ∀ c o, c ≠ z → c ≠ TO → c ≠ i1 → c ≠ i2 → s.heap.get? c = some o → g5.get? c = some o := fun c o n1 n2 n3 n4 e => c5.extBut _ _ n2 (c4.extBut _ _ n4 (c3.extBut _ _ n2 (c2.extBut _ _ n3 (c1.extBut _ _ n1 e))))
  have h15 : ItA k g5 i1 l1 (n + 1) := ((h12.at fun o e => c3.extBut _ _ D.TOi1.symm e).at fun o e => c4.extBut _ _ D.i12 e).at fun o e => c5.extBut _ _ D.TOi1.symm e
  have h25 : ItA k g5 i2 l2 (n + 1) := h24.at fun o e => c5.extBut _ _ D.TOi2.symm e
  have zlt : z < g5.objs.size := Heap.lt_size z5
  show wpAny _ _ (Builtin.SmallTypes.ownedTupleHandOut (.ref z) (.ref g5.objs.size) >>= _) _ _ _
  refine wpAny_bind ?_
  unfold Builtin.SmallTypes.ownedTupleHandOut
  have z6 : IsZip (g5.push { cls := .type "tuple", data := .seq #[x, y] }) z TI TO .ellipsis := Heap.get?_push_of_some _ z5
  refine wpAny_bind (wpAny_setField_rec z6 (by simp) fun g7 z7 c7 => ?_)
  replace z7 : IsZip g7 z TI TO (rawInt g5.objs.size) := z7
  refine wpAny_setField_rec z7 (by simp) fun g8 z8 c8 => ?_
  replace z8 : IsZip g8 z TI TO (rawInt g5.objs.size) := z8
  have up : ∀ c o, c ≠ z → g5.get? c = some o → g8.get? c = some o := fun c o n1 e => c8.extBut _ _ n1 (c7.extBut _ _ n1 (Heap.get?_push_of_some _ e))
  have t8 : IsPair g8 g5.objs.size x y := c8.extBut _ _ (Nat.ne_of_gt zlt) (c7.extBut _ _ (Nat.ne_of_gt zlt) (Heap.get?_push_size _ rfl))
  rw [sz] at z8 t8
  refine wpAny_pure ⟨_, rfl, ?_⟩
  show Q (.ref g5.objs.size) _
  rw [sz]
  exact hQ g8 z8 (up _ _ D.TOz o5) (h15.at fun o e => up _ o D.i1z e) (h25.at fun o e => up _ o D.i2z e) t8 fun c o n1 n2 n3 n4 e => up c o n1 (k5 c o n1 n2 n3 n4 e)
theorem zipA_end {k : Bool} {z TI TO i1 i2 l1 l2 : Addr} {n : Nat} {xs ys : Array Value} {Q : Fin → Shared → Prop} (hh : A.handled = none) (D : ZipApart z TI TO i1 i2 l1 l2) (st : ZipSt k s.heap z TI TO i1 i2 l1 l2 n)
    (hl1 : SqA k s.heap l1 xs) (hl2 : SqA k s.heap l2 ys) (hend : xs[n]? = none ∨ ys[n]? = none)
    (hE : ∀ h' e, (∀ c o, c ≠ z → c ≠ TO → c ≠ i1 → c ≠ i2 → s.heap.get? c = some o → h'.get? c = some o) → (∃ o, h'.get? e = some o ∧ o.cls = .type "StopIteration") → E (.ref e) { s with heap := h' }) :
    wpAny (model prog w) A (Builtin.«zip.__next__» ⟨[.ref z], []⟩) Q E s := by
  obtain ⟨hz, hTI, ⟨a, b, hTO⟩, h1, h2⟩ := st
  show wpAny _ _ (field (.ref z) 2 >>= _) _ _ _
  refine wpAny_bind (wpAny_field hz rfl (x := .bool false) rfl ?_)
  show wpAny _ _ (field (.ref z) 3 >>= _) _ _ _
  refine wpAny_bind (wpAny_field hz rfl (x := .ref TI) rfl (wpAny_bind (wpAny_seqItems hTI rfl ?_)))
  show wpAny _ _ (Builtin.SmallTypes.ownedTupleIsFree (.ref z) >>= _) _ _ _
  refine wpAny_bind ?_
  unfold Builtin.SmallTypes.ownedTupleIsFree
  refine wpAny_bind (wpAny_field hz rfl (x := .none) rfl (wpAny_pure ?_))
  simp only [if_true]
  refine wpAny_bind (wpAny_rule (wpAny_bind (wpAny_field hz rfl (x := .ref TO) rfl (wpAny_bind (wpAny_setField_rec hz (by simp) fun g1 z1 c1 => ?_)))))
  replace z1 : IsZip g1 z TI TO .ellipsis := z1
  refine wpAny_bind ?_
  simp only [List.zipIdx_cons, List.zipIdx_nil, List.forIn_cons, List.forIn_nil]
  refine wpAny_bind (wpAny_bind (wpAny_onRaise ?_))
  show wpAny _ _ (Builtin.SmallTypes.nextOf (.ref i1) >>= _) _ _ _
  cases hx : xs[n]? with
  | none =>
    refine wpAny_bind (drawA_end hh (h1.at fun o e => c1.extBut _ _ D.i1z e) (hl1.at fun o e => c1.extBut _ _ D.l1z e) hx fun g2 e c2 he => ?_)
    obtain ⟨oe, hoe, hce⟩ := he
    have z2 : IsZip g2 z TI TO .ellipsis := c2 _ _ D.i1z.symm z1
    have hez : e ≠ z := fun x => by subst x; rw [z2] at hoe; cases hoe; simp at hce
    exact wpAny_setField_rec z2 (by simp) fun g3 _ c3 => hE g3 e (fun c o n1 _ n3 _ x => c3.extBut _ _ n1 (c2 _ _ n3 (c1.extBut _ _ n1 x))) ⟨oe, c3.extBut _ _ hez hoe, hce⟩
  | some x =>
    have hy : ys[n]? = none := by rcases hend with h | h; (rw [hx] at h; cases h); exact h
    refine wpAny_bind (drawA_item (h1.at fun o e => c1.extBut _ _ D.i1z e) (hl1.at fun o e => c1.extBut _ _ D.l1z e) hx fun g2 h12 c2 => wpAny_pure ?_)
    have o2 : IsPair g2 TO a b := c2.extBut _ _ D.TOi1 (c1.extBut _ _ D.TOz hTO)
    refine wpAny_bind (wpAny_seqItems o2 rfl (wpAny_bind (wpAny_updateSeq_pair o2 fun g3 o3 c3 => ?_)))
    refine wpAny_bind (wpAny_letGo (wpAny_pure (wpAny_bind (wpAny_bind (wpAny_onRaise ?_)))))
    show wpAny _ _ (Builtin.SmallTypes.nextOf (.ref i2) >>= _) _ _ _
    refine wpAny_bind (drawA_end hh (((h2.at fun o e => c1.extBut _ _ D.i2z e).at fun o e => c2.extBut _ _ D.i12.symm e).at fun o e => c3.extBut _ _ D.TOi2.symm e)
      (((hl2.at fun o e => c1.extBut _ _ D.l2z e).at fun o e => c2.extBut _ _ D.l2i1 e).at fun o e => c3.extBut _ _ D.l2TO e) hy fun g4 e c4 he => ?_)
    obtain ⟨oe, hoe, hce⟩ := he
    have z4 : IsZip g4 z TI TO .ellipsis := c4 _ _ D.i2z.symm (c3.extBut _ _ D.TOz.symm (c2.extBut _ _ D.i1z.symm z1))
    have hez : e ≠ z := fun x => by subst x; rw [z4] at hoe; cases hoe; simp at hce
    exact wpAny_setField_rec z4 (by simp) fun g5 _ c5 => hE g5 e (fun c o n1 n2 n3 n4 x => c5.extBut _ _ n1 (c4 _ _ n4 (c3.extBut _ _ n2 (c2.extBut _ _ n3 (c1.extBut _ _ n1 x))))) ⟨oe, c5.extBut _ _ hez hoe, hce⟩
theorem nextA_item {k : Bool} {z TI TO i1 i2 l1 l2 : Addr} {n : Nat} {xs ys : Array Value} {x y : Value} {Q : Option Value → Shared → Prop} (D : ZipApart z TI TO i1 i2 l1 l2) (st : ZipSt k s.heap z TI TO i1 i2 l1 l2 n)
    (hl1 : SqA k s.heap l1 xs) (hl2 : SqA k s.heap l2 ys) (hx : xs[n]? = some x) (hy : ys[n]? = some y)
    (hQ : ∀ h', IsZip h' z TI TO (rawInt s.heap.objs.size) → IsPair h' TO x y → ItA k h' i1 l1 (n + 1) → ItA k h' i2 l2 (n + 1) → IsPair h' s.heap.objs.size x y →
      (∀ c o, c ≠ z → c ≠ TO → c ≠ i1 → c ≠ i2 → s.heap.get? c = some o → h'.get? c = some o) → Q (some (.ref s.heap.objs.size)) { s with heap := h' }) : wpAny (model prog w) A (pyNext (.ref z)) Q E s := by
  have hT : s.TypeIs (.ref z) "zip" := ⟨_, st.z, rfl⟩
  unfold pyNext
  exact wpAny_bind (wpAny_attempt (wpAny_callSpecial?_slot (name := Str.ofString "__next__") hT F.slot_zip_next (wpAny_call_entry F.slot_zip_next hT F.entry_zip_next
    (zipA_item D st hl1 hl2 hx hy fun h' a1 a2 a3 a4 a5 a7 => wpAny_pure (hQ h' a1 a2 a3 a4 a5 a7)) (F.args_zip_next_1 _))))
theorem nextA_end {k : Bool} {z TI TO i1 i2 l1 l2 : Addr} {n : Nat} {xs ys : Array Value} {Q : Option Value → Shared → Prop} (hh : A.handled = none) (D : ZipApart z TI TO i1 i2 l1 l2) (st : ZipSt k s.heap z TI TO i1 i2 l1 l2 n)
    (hl1 : SqA k s.heap l1 xs) (hl2 : SqA k s.heap l2 ys) (hend : xs[n]? = none ∨ ys[n]? = none)
    (hQ : ∀ h', (∀ c o, c ≠ z → c ≠ TO → c ≠ i1 → c ≠ i2 → s.heap.get? c = some o → h'.get? c = some o) → Q none { s with heap := h' }) : wpAny (model prog w) A (pyNext (.ref z)) Q E s := by
  have hT : s.TypeIs (.ref z) "zip" := ⟨_, st.z, rfl⟩
  unfold pyNext
  refine wpAny_bind (wpAny_attempt (wpAny_callSpecial?_slot (name := Str.ofString "__next__") hT F.slot_zip_next (wpAny_call_entry F.slot_zip_next hT F.entry_zip_next
    (zipA_end hh D st hl1 hl2 hend fun h' e hk he => ?_) (F.args_zip_next_1 _))))
  obtain ⟨o, ho, hc⟩ := he
  exact wpAny_bind (wpAny_isInstance (T := "StopIteration") (b := true) ⟨o, ho, hc⟩ isSubtype_stop (wpAny_pure (hQ _ hk)))
end
abbrev zH1 (k : Bool) (h : Heap) (l1 : Addr) : Heap := h.push (itObj k l1)
abbrev zH2 (k : Bool) (h : Heap) (l1 l2 : Addr) : Heap := (zH1 k h l1).push (itObj k l2)
abbrev zH3 (k : Bool) (h : Heap) (l1 l2 : Addr) : Heap := (zH2 k h l1 l2).push { cls := .type "tuple", data := .seq #[.ref h.objs.size, .ref (zH1 k h l1).objs.size] }
abbrev zH4 (k : Bool) (h : Heap) (l1 l2 : Addr) : Heap := (zH3 k h l1 l2).push { cls := .type "tuple", data := .seq #[.none, .none] }
abbrev zH5 (k : Bool) (h : Heap) (l1 l2 : Addr) : Heap := (zH4 k h l1 l2).push { cls := .type "zip", data := .fields #[.none, .bool false, .bool false, .ref (zH2 k h l1 l2).objs.size, .ref (zH3 k h l1 l2).objs.size] }
theorem meets_zipA (k : Bool) (l1 l2 : Addr) (xs ys : Array Value) :
    Meets (Builtin.«zip.__new__» ⟨[.type "zip", .ref l1, .ref l2], []⟩) (fun _ R s => SqA k s.heap l1 xs ∧ SqA k s.heap l2 ys ∧ R (.ok (.ret (.ref (zH4 k s.heap l1 l2).objs.size))) { s with heap := zH5 k s.heap l1 l2 }) :=
  .of_wp fun prog w A R s h => by
    obtain ⟨hp, g, d, tk, os⟩ := s; obtain ⟨hl1, hl2, h⟩ := h
    have hsub := sub_zip
    have hL1 : SqA k (Shared.heap ⟨hp, g, d, tk, os⟩) l1 xs := hl1
    have hL2 : SqA k (Shared.heap ⟨hp.push (itObj k l1), g, d, tk, os⟩) l2 ys := hl2.at fun o e => Heap.get?_push_of_some _ e
    wp_walk using iterA hL1, iterA hL2
    exact ⟨_, rfl, h⟩
section
variable {prog : Program} {w : World} {A : Around} {E : Value → Shared → Prop} {s : Shared}
theorem call_zipA {k : Bool} {l1 l2 : Addr} {xs ys : Array Value} {Q : Value → Shared → Prop} (hl1 : SqA k s.heap l1 xs) (hl2 : SqA k s.heap l2 ys)
    (h : ∀ h', ZipSt k h' (s.heap.objs.size + 4) (s.heap.objs.size + 2) (s.heap.objs.size + 3) s.heap.objs.size (s.heap.objs.size + 1) l1 l2 0 → (∀ c o, s.heap.get? c = some o → h'.get? c = some o) → Q (.ref (s.heap.objs.size + 4)) { s with heap := h' }) :
    wpAny (model prog w) A (call (.type "zip") [.ref l1, .ref l2]) Q E s := by
  refine callType_new F.called_zip (by decide) (F.typeCall_zip_2 _ _) (F.newCall_zip_2 _ _) (fun obj => F.args_object_init_3 obj _ _) F.entry_zip_new (meets_zipA k l1 l2 xs ys) ⟨hl1, hl2, ?_⟩
  have z1 : (zH1 k s.heap l1).objs.size = s.heap.objs.size + 1 := Heap.size_push ..
  have z2 : (zH2 k s.heap l1 l2).objs.size = s.heap.objs.size + 2 := by rw [Heap.size_push, z1]
  have z3 : (zH3 k s.heap l1 l2).objs.size = s.heap.objs.size + 3 := by rw [Heap.size_push, z2]
  have z4 : (zH4 k s.heap l1 l2).objs.size = s.heap.objs.size + 4 := by rw [Heap.size_push, z3]
  have g5 : (zH5 k s.heap l1 l2).get? (zH4 k s.heap l1 l2).objs.size = some _ := Heap.get?_push_size _ rfl
  have g4 : (zH5 k s.heap l1 l2).get? (zH3 k s.heap l1 l2).objs.size = some _ := Heap.get?_push_of_some _ (Heap.get?_push_size _ rfl)
  have g3 : (zH5 k s.heap l1 l2).get? (zH2 k s.heap l1 l2).objs.size = some _ := Heap.get?_push_of_some _ (Heap.get?_push_of_some _ (Heap.get?_push_size _ rfl))
  have g2 : (zH5 k s.heap l1 l2).get? (zH1 k s.heap l1).objs.size = some (itObj k l2) := Heap.get?_push_of_some _ (Heap.get?_push_of_some _ (Heap.get?_push_of_some _ (Heap.get?_push_size _ rfl)))
  have g1 : (zH5 k s.heap l1 l2).get? s.heap.objs.size = some (itObj k l1) := Heap.get?_push_of_some _ (Heap.get?_push_of_some _ (Heap.get?_push_of_some _ (Heap.get?_push_of_some _ (Heap.get?_push_size _ rfl))))
  show _ ∧ _
  rw [z2, z3, z4] at g5
  rw [z1, z2] at g3
  rw [z3] at g4
  rw [z1] at g2
  rw [z4]
  refine ⟨⟨_, g5, rfl⟩, h _ ⟨g5, g3, ⟨_, _, g4⟩, ?_, ?_⟩ fun c o x => Heap.get?_push_of_some _ (Heap.get?_push_of_some _ (Heap.get?_push_of_some _ (Heap.get?_push_of_some _ (Heap.get?_push_of_some _ x))))⟩
  · cases k
    · exact ⟨_, g1, rfl, rfl⟩
    · exact ⟨_, g1, rfl, rfl⟩
  · cases k
    · exact ⟨_, g2, rfl, rfl⟩
    · exact ⟨_, g2, rfl, rfl⟩
end
/-- a list or a tuple that is read -/
def SqB (K : PySem.W.Frag) (k : Bool) (H : Hp) (a : Addr) (xs : List V) : Prop := match k with
  | true => SqL K H a xs
  | false => SqT K H a xs
theorem sqB_at {X : Cx} {pins : List (Addr × Obj)} {σ : L2.St} {H : Hp} {s : Shared} {k : Bool} {a : Addr} {xs : List V} (I : Inv X pins σ H s) (h : SqB X.K k H a xs) : ∃ its : List Value, Vals xs its ∧ SqA k s.heap a its.toArray ∧ xs.length ≤ sizeLine := by
  cases k
  · obtain ⟨its, r, p, z⟩ := I.tuple h
    exact ⟨its, r, p, z⟩
  · obtain ⟨its, r, p, z⟩ := I.list h
    exact ⟨its, r, p.isList, z⟩
theorem sqB_inj {X : Cx} {pins : List (Addr × Obj)} {σ : L2.St} {H : Hp} {s : Shared} {k : Bool} {a : Addr} {xs ys : List V} (I : Inv X pins σ H s) (h : SqB X.K k H a xs) (h' : SqB X.K k H a ys) : xs = ys := by
  cases k
  · exact I.tuple_inj h h'
  · exact I.list_inj h h'
theorem sqA_lt {k : Bool} {h : Heap} {a : Addr} {xs : Array Value} (x : SqA k h a xs) : a < h.objs.size := by
  cases k
  · obtain ⟨o, ho, _⟩ := x; exact Heap.lt_size ho
  · obtain ⟨o, ho, _⟩ := x; exact Heap.lt_size ho
def Itz (K : PySem.W.Frag) (k : Bool) (a1 a2 : Addr) : It :=
  ⟨fun i H => ∃ xs ys x y, SqB K k H a1 xs ∧ SqB K k H a2 ys ∧ xs[i]? = some x ∧ ys[i]? = some y,
   fun i H v H' => ∃ p x y, H p = none ∧ v = .ref p ∧ H' = upd H p (.tup [x, y]) ∧ (∀ xs, SqB K k H a1 xs → xs[i]? = some x) ∧ ∀ ys, SqB K k H a2 ys → ys[i]? = some y,
   fun i H => ∃ xs ys, SqB K k H a1 xs ∧ SqB K k H a2 ys ∧ (xs.length ≤ i ∨ ys.length ≤ i)⟩
theorem turn_zip {P : Program} {w : World} {K : PySem.W.Frag} {elts : List Expr} {x1 : Nat} {tpos : Pos} {k : Bool} {z TI TO i1 i2 l1 l2 : Addr} (D : ZipApart z TI TO i1 i2 l1 l2) :
    Turn P w K (.Tuple elts x1 tpos) (Itz K k l1 l2) [z, TI, TO, i1, i2] z (fun i h => ZipSt k h z TI TO i1 i2 l1 l2 i) where
  mem := by simp
  obj := fun i h st b hb => by
    obtain ⟨hz, hTI, ⟨a, c, hTO⟩, h1, h2⟩ := st
    simp only [List.mem_cons, List.not_mem_nil, or_false] at hb
    rcases hb with rfl | rfl | rfl | rfl | rfl
    · exact ⟨_, hz, fun v e => by cases e⟩
    · exact ⟨_, hTI, fun v e => by cases e⟩
    · exact ⟨_, hTO, fun v e => by cases e⟩
    · exact h1.obj
    · exact h2.obj
  keep := fun i h h' st kk => by
    obtain ⟨hz, hTI, ⟨a, c, hTO⟩, h1, h2⟩ := st
    exact ⟨kk z (by simp) _ hz, kk TI (by simp) _ hTI, ⟨a, c, kk TO (by simp) _ hTO⟩, h1.at fun o e => kk i1 (by simp) o e, h2.at fun o e => kk i2 (by simp) o e⟩
  item := by
    intro X hP hw hK hc i pins s σ H E I hf st hg
    subst hP hw hK
    obtain ⟨xs, ys, x, y, q1, q2, e1, e2⟩ := hg
    obtain ⟨us, r1, p1, _⟩ := sqB_at I q1
    obtain ⟨vs, r2, p2, _⟩ := sqB_at I q2
    obtain ⟨u, eu, ru⟩ := r1.get e1
    obtain ⟨v, ev, rv⟩ := r2.get e2
    refine nextA_item (x := u) (y := v) D st p1 p2 (by simpa using eu) (by simpa using ev) fun h' g1 g2 g3 g4 g5 g7 => ?_
    refine ⟨_, rfl, wpAny_letOwnedTupleGo_zip g1 fun h2 hz2 c2 => ?_⟩
    have ne : ∀ {b o}, s.heap.get? b = some o → s.heap.objs.size ≠ b := fun e => Nat.ne_of_gt (Heap.lt_size e)
    have k2 : ∀ b o, b ∉ [z, TI, TO, i1, i2] → s.heap.get? b = some o → h2.get? b = some o := fun b o hb e => by
      simp only [List.mem_cons, List.not_mem_nil, or_false, not_or] at hb
      exact c2.extBut _ _ hb.1 (g7 b o hb.1 hb.2.2.1 hb.2.2.2.1 hb.2.2.2.2 e)
    have I2 : Inv X pins σ (upd H s.heap.objs.size (.tup [x, y])) { s with heap := h2, toks := s.toks } :=
      adopt I k2 hf (Nat.le_refl _) (by show 2 ≤ sizeLine; decide) (.cons ru (.cons rv .nil)) ⟨_, c2.extBut _ _ (ne st.z) g5, rfl, _, rfl⟩
    refine ⟨.ref s.heap.objs.size, _, I2, rfl, ⟨_, x, y, I.hok.fresh (Nat.le_refl _), rfl, rfl, fun xs' q => ?_, fun ys' q => ?_⟩, ?_, fun b hb => ?_⟩
    · rw [sqB_inj I q q1]; exact e1
    · rw [sqB_inj I q q2]; exact e2
    · exact ⟨hz2, c2.extBut _ _ D.TIz (g7 _ _ D.TIz D.TITO D.TIi1 D.TIi2 st.ti), ⟨u, v, c2.extBut _ _ D.TOz g2⟩, g3.at fun o e => c2.extBut _ _ D.i1z e, g4.at fun o e => c2.extBut _ _ D.i2z e⟩
    · have hlt : ∃ o, s.heap.get? b = some o := by
        obtain ⟨hz, hTI, ⟨a, c, hTO⟩, h1, h2⟩ := st
        simp only [List.mem_cons, List.not_mem_nil, or_false] at hb
        rcases hb with rfl | rfl | rfl | rfl | rfl
        · exact ⟨_, hz⟩
        · exact ⟨_, hTI⟩
        · exact ⟨_, hTO⟩
        · exact h1.obj.imp fun _ e => e.1
        · exact h2.obj.imp fun _ e => e.1
      obtain ⟨o, e⟩ := hlt
      rw [upd_ne (ne e).symm]
      exact (hf b hb).1
  done := by
    intro X hP hw hK hc i pins s σ H E I hf st hg
    subst hP hw hK
    obtain ⟨xs, ys, q1, q2, e⟩ := hg
    obtain ⟨us, r1, p1, _⟩ := sqB_at I q1
    obtain ⟨vs, r2, p2, _⟩ := sqB_at I q2
    have l1 := r1.length
    have l2 := r2.length
    refine nextA_end (I.ok.hd hc) D st p1 p2 (e.imp (fun e => by simp; omega) (fun e => by simp; omega)) fun h' kk => ⟨rfl, turnedN (t' := s.toks) (ch := [z, TI, TO, i1, i2]) I (fun b o hb e => ?_) hf⟩
    simp only [List.mem_cons, List.not_mem_nil, or_false, not_or] at hb
    exact kk b o hb.1 hb.2.2.1 hb.2.2.2.1 hb.2.2.2.2 e
  self := fun _ _ _ _ _ st h => wpAny_pyIter_zip st.z h
def iZip (K : PySem.W.Frag) (ta : TA) : TI := fun σ H R => ta σ H fun vs H1 => ∃ k a1 a2 xs ys, vs = [.ref a1, .ref a2] ∧ SqB K k H1 a1 xs ∧ SqB K k H1 a2 ys ∧ R (Itz K k a1 a2) H1
theorem pi_zip {X : Cx} {elts : List Expr} {x1 : Nat} {tpos : Pos} {a b : Expr} {ta : TA} {p pos : Pos} (hg : Gl X "zip") (hm : X.mg "zip" = none) (ha : PA X [a, b] ta)
    (hs : starEach [a, b] X.env = [(false, eval a X.env), (false, eval b X.env)] := by rfl) (hs2 : starEach [b] X.env = [(false, eval b X.env)] := by rfl) : PI X (.Tuple elts x1 tpos) (.Call (.Name "zip" p) [a, b] [] pos) (iZip X.K ta) := by
  intro pins s σ H R I h
  refine Call_ (ld_blt I hg hm boot_zip (PyProof.Rows.callWith_type1 (thn (ha pos pins s σ H _ I h) fun us s1 ⟨vs, H1, I1, r1, q1⟩ => ?_) (by rw [hs, hs2]) (by rw [hs2]; rfl)))
  obtain ⟨k, a1, a2, xs, ys, e, q1, q2, q⟩ := q1
  subst e
  obtain ⟨u1, u2, rfl, e1, e2⟩ := r1.two
  cases (show u1 = Value.ref a1 from e1)
  cases (show u2 = Value.ref a2 from e2)
  obtain ⟨us, rr1, p1, _⟩ := sqB_at I1 q1
  obtain ⟨ws, rr2, p2, _⟩ := sqB_at I1 q2
  have b1 := sqA_lt p1
  have b2 := sqA_lt p2
  refine call_zipA p1 p2 fun h' st kk => wpAny_pyIter_zip st.z ?_
  have I2 : Inv X pins σ H1 { s1 with heap := h', toks := s1.toks } := I1.kept kk
  refine ⟨_, _, _, _, H1, rfl, I2, turn_zip (zipApart_new b1 b2), st, fun b hb => ?_, q⟩
  have hb' : s1.heap.objs.size ≤ b := by
    simp only [List.mem_cons, List.not_mem_nil, or_false] at hb
    rcases hb with rfl | rfl | rfl | rfl | rfl
    · exact Nat.le_add_right _ _
    · exact Nat.le_add_right _ _
    · exact Nat.le_add_right _ _
    · exact Nat.le_refl _
    · exact Nat.le_add_right _ _
  exact I1.fpOk hb' (I1.hok.fresh hb')
theorem for_zip {K : PySem.W.Frag} {k : Bool} {a1 a2 : Addr} {xs ys : List V} {g : TG} {tb : TS} {D : Ends} {σ : L2.St} {H : Hp} (Pv : Nat → L2.St → Hp → Prop) (hn : xs.length = ys.length) (h0 : Pv 0 σ H)
    (hl : ∀ i σ H, i ≤ xs.length → Pv i σ H → SqB K k H a1 xs ∧ SqB K k H a2 ys)
    (hs : ∀ i x y p σ H, xs[i]? = some x → ys[i]? = some y → H p = none → Pv i σ H → g (.ref p) σ (upd H p (.tup [x, y])) fun σ2 H2 => tb { D with nx := Pv (i + 1), ct := Pv (i + 1), bk := D.nx } σ2 H2) (hd : ∀ σ H, Pv xs.length σ H → D.nx σ H) :
    ∃ W : Nat → Nat → L2.St → Hp → Prop, (∃ m, W 0 m σ H) ∧ ∀ i m σ H, W i m σ H →
      ((Itz K k a1 a2).stop i H ∧ D.nx σ H) ∨ ((Itz K k a1 a2).go i H ∧ ∃ N : L2.St → Hp → Prop, (∀ σ' H', N σ' H' → ∃ m', m' < m ∧ W (i + 1) m' σ' H') ∧ ∀ x H', (Itz K k a1 a2).yld i H x H' → g x σ H' fun σ2 H2 => tb { D with nx := N, ct := N, bk := D.nx } σ2 H2) := by
  refine ⟨fun i m σ H => m = xs.length - i ∧ i ≤ xs.length ∧ Pv i σ H, ⟨xs.length, by simp, Nat.zero_le _, h0⟩, ?_⟩
  rintro i m σ H ⟨rfl, hi, p⟩
  obtain ⟨q1, q2⟩ := hl i σ H hi p
  by_cases hlt : i < xs.length
  · have hlt2 : i < ys.length := by omega
    refine .inr ⟨⟨xs, ys, xs[i], ys[i], q1, q2, by simp [hlt], by simp [hlt2]⟩, Pv (i + 1), fun σ' H' p' => ⟨xs.length - (i + 1), by omega, rfl, hlt, p'⟩, fun x H' y => ?_⟩
    obtain ⟨a, x', y', hn', rfl, rfl, e1, e2⟩ := y
    exact hs i x' y' a σ _ (e1 xs q1) (e2 ys q2) hn' p
  · have e : i = xs.length := by omega
    subst e
    exact .inl ⟨⟨xs, ys, q1, q2, .inl (Nat.le_refl _)⟩, hd σ H p⟩

/-! ### range(a, b) as a thing, list(range(a, b)) -/
section
variable {X : Cx}
end

/-! ### // by any divisor of some size; sum of a list of ints -/
section
variable {X : Cx}
theorem log2_big {j : Int} (h0 : 0 < j) (h1 : j < 10 ^ 70) : j.natAbs.log2 < 9000 := by
  have h : j.natAbs < 2 ^ 9000 := Nat.lt_trans (show j.natAbs < 10 ^ 70 by omega) (by decide +kernel)
  exact (Nat.log2_lt (by omega)).mpr h
theorem op_fdivB : OpR X (binaryOp .FloorDiv) (rI (fun _ j => 0 < j ∧ j < 10 ^ 70) fun i j => .int (i / j)) := opI fun i j _ _ _ _ _ hc q => by
  have h1 : (0 : Int) < j := hc.1
  exact floordiv_int (by omega) (by rw [Int.fdiv_eq_ediv_of_nonneg i (by omega)]; exact q) (.inl (PyProof.noPylong_of_log2 (log2_big hc.1 hc.2)))
theorem call_sum (hc : X.calm = true) : CallR X (.builtin "sum") (fun xs H Q => ∃ (p : Addr) (ns : List Int), xs = [.ref p] ∧ SqL X.K H p (ns.map V.int) ∧ Q (.int ns.sum) H) := by
  intro pins s σ H xs us Q I r h
  obtain ⟨p, ns, rfl, hq, q⟩ := h
  obtain ⟨u, rfl, rx⟩ := r.one
  cases (show u = Value.ref p from rx)
  obtain ⟨its, rv, pl, hz⟩ := I.list hq
  have hi : IntsAre its ns := intsAre_of rv
  have hall : AllInts its.toArray := hi.allInts
  obtain ⟨zs, ez⟩ := hall.items
  have hl := pl.isList
  have es : (numsOf its.toArray.toList).sum = ns.sum := by rw [show its.toArray.toList = its from rfl, hi.numsOf]
  rw [ez] at hl es
  rw [nums_intItems] at es
  refine PySem.sum_intListG (I.ok.hd hc) hl fun h' tk t' hk => ⟨.int ns.sum, H, I.kept hk, ⟨t', ?_⟩, q⟩
  rw [preSum_eq, List.take_of_length_le (by simp), es]
end

/-! ### two lists of the very same values compared -/
def idV : V → Bool
  | .int _ | .bl _ | .str _ | .non | .ref _ => true
  | _ => false
theorem eqAt_id {A : Around} {s : Shared} {x : V} {u v : Value} (hx : idV x = true) (ru : RelV x u) (rv : RelV x v) : SeqAt.EqAt A s u v true := by
  cases x with
  | int i => obtain ⟨t, rfl⟩ := ru; obtain ⟨t', rfl⟩ := rv; simpa using SeqAt.EqAt.int_int (A := A) (s := s) i t i t'
  | bl b => cases (show u = Value.bool b from ru); cases (show v = Value.bool b from rv); exact SeqAt.EqAt.same _
  | str b => obtain ⟨t, rfl⟩ := ru; obtain ⟨t', rfl⟩ := rv; simpa using SeqAt.EqAt.str_str (A := A) (s := s) b t b t'
  | non => cases (show u = Value.none from ru); cases (show v = Value.none from rv); exact SeqAt.EqAt.same _
  | ref a => cases (show u = Value.ref a from ru); cases (show v = Value.ref a from rv); exact SeqAt.EqAt.same _
  | _ => cases hx
section
variable {X : Cx}
theorem sameL_at {pins : List (Addr × Obj)} {σ : L2.St} {H : Hp} {s : Shared} {A : Around} {a b : Addr} {xs : List V} (I : Inv X pins σ H s) (h1 : SqL X.K H a xs) (h2 : SqL X.K H b xs) (hx : xs.all idV = true) :
    ∃ us vs : List Value, s.heap.IsList a us.toArray ∧ s.heap.IsList b vs.toArray ∧ us.toArray.size = vs.toArray.size ∧ ∀ j (g1 : j < us.toArray.size) (g2 : j < vs.toArray.size), SeqAt.EqAt A s us.toArray[j] vs.toArray[j] ((fun _ => true) j) := by
  obtain ⟨us, r1, p1, _⟩ := I.list h1
  obtain ⟨vs, r2, p2, _⟩ := I.list h2
  have l1 := r1.length
  have l2 := r2.length
  refine ⟨us, vs, p1.isList, p2.isList, by simp; omega, fun j g1 g2 => ?_⟩
  have hj : j < xs.length := by simpa [l1] using g1
  have ej : xs[j]? = some xs[j] := by simp [hj]
  obtain ⟨u, eu, ru⟩ := r1.get ej
  obtain ⟨v, ev, rv⟩ := r2.get ej
  have hu : us.toArray[j] = u := by
    have : us[j]? = some us.toArray[j] := by simp
    rw [this] at eu; exact Option.some.inj eu
  have hv : vs.toArray[j] = v := by
    have : vs[j]? = some vs.toArray[j] := by simp
    rw [this] at ev; exact Option.some.inj ev
  rw [hu, hv]
  exact eqAt_id (List.all_eq_true.mp hx _ (List.getElem_mem hj)) ru rv
end
end InkX

namespace Ink
/-- rows: pairs of ints -/
abbrev Row := List (Int × Int)
/-- the last pair grown, or one more -/
def grow (t : Row) (s e : Int) : Row :=
  match t.getLast? with
  | some p => if p.2 = s then t.dropLast ++ [(p.1, e)] else t ++ [(s, e)]
  | none => t ++ [(s, e)]
def plainStep (t : Row) (p : Int × Int) : Row := if p.1 = p.2 then t else grow t p.1 p.2
def plainF (r : Row) : Row := r.foldl plainStep []
/-- s, s+1, .., n of them -/
def run (s : Int) : Nat → List Int
  | 0 => []
  | n + 1 => s :: run (s + 1) n
def span (p : Int × Int) : List Int := run p.1 (p.2 - p.1).toNat
def spell (r : Row) : List Int := r.flatMap span
def rowOf (ns : List Int) : Row := ns.foldl (fun t n => grow t n (n + 1)) []
theorem run_length (s : Int) (n : Nat) : (run s n).length = n := by
  induction n generalizing s with
  | zero => rfl
  | succ n ih => simp [run, ih]
theorem grow_nil (s e : Int) : grow [] s e = [(s, e)] := rfl
theorem grow_pos (t : Row) {q : Int × Int} {s : Int} {e : Int} (h : q.2 = s) : grow (t ++ [q]) s e = t ++ [(q.1, e)] := by
  simp [grow, h]
theorem grow_neg (t : Row) {q : Int × Int} {s : Int} {e : Int} (h : ¬ q.2 = s) : grow (t ++ [q]) s e = t ++ [q] ++ [(s, e)] := by
  simp [grow, h]
theorem grow_snoc (t : Row) (a s e : Int) : grow (t ++ [(a, s)]) s e = t ++ [(a, e)] := by
  simp [grow]
theorem grow_run (t : Row) (a s : Int) (n : Nat) : (run s n).foldl (fun t n => grow t n (n + 1)) (t ++ [(a, s)]) = t ++ [(a, s + n)] := by
  induction n generalizing s with
  | zero => simp [run]
  | succ n ih =>
    rw [run, List.foldl_cons, grow_snoc, ih]
    have : s + 1 + (n : Int) = s + ((n + 1 : Nat) : Int) := by omega
    rw [this]
theorem step_run (t : Row) (p : Int × Int) (h : p.1 ≤ p.2) : plainStep t p = (span p).foldl (fun t n => grow t n (n + 1)) t := by
  obtain ⟨s, e⟩ := p
  simp only at h
  unfold plainStep span
  by_cases he : s = e
  · subst he; simp [run]
  · obtain ⟨n, hn⟩ : ∃ n : Nat, e = s + 1 + n := ⟨(e - s - 1).toNat, by omega⟩
    subst hn
    rw [if_neg he]
    have h2 : ((s, s + 1 + (n : Int)).2 - (s, s + 1 + (n : Int)).1).toNat = n + 1 := by simp only; omega
    rw [h2, run, List.foldl_cons]
    simp only
    rcases List.eq_nil_or_concat t with rfl | ⟨u, q, rfl⟩
    · rw [grow_nil, grow_nil]
      exact (grow_run [] s (s + 1) n).symm
    · by_cases hq : q.2 = s
      · rw [List.concat_eq_append, grow_pos u hq, grow_pos u hq, grow_run]
      · rw [List.concat_eq_append, grow_neg u hq, grow_neg u hq, grow_run]
theorem foldl_flatMap' {α β γ : Type} (f : γ → β → γ) (g : α → List β) : ∀ (l : List α) (c : γ), (l.flatMap g).foldl f c = l.foldl (fun c a => (g a).foldl f c) c
  | [], _ => rfl
  | a :: l, c => by rw [List.flatMap_cons, List.foldl_append, List.foldl_cons, foldl_flatMap' f g l]
theorem plain_eq (r : Row) (h : ∀ p ∈ r, p.1 ≤ p.2) : plainF r = rowOf (spell r) := by
  unfold plainF rowOf spell
  rw [foldl_flatMap']
  have key : ∀ (r : Row), (∀ p ∈ r, p.1 ≤ p.2) → ∀ t : Row, r.foldl plainStep t = r.foldl (fun c a => (span a).foldl (fun t n => grow t n (n + 1)) c) t := by
    intro r
    induction r with
    | nil => intro _ t; rfl
    | cons p r ih =>
      intro h t
      rw [List.foldl_cons, List.foldl_cons, step_run t p (h p (List.mem_cons_self ..))]
      exact ih (fun q hq => h q (List.mem_cons_of_mem _ hq)) _
  exact key r h []
theorem grow_length (t : Row) (s e : Int) : (grow t s e).length ≤ t.length + 1 := by
  rcases List.eq_nil_or_concat t with rfl | ⟨u, q, rfl⟩
  · rw [grow_nil]; simp
  · by_cases hq : q.2 = s
    · rw [List.concat_eq_append, grow_pos u hq]; simp
    · rw [List.concat_eq_append, grow_neg u hq]; simp
theorem foldl_take_succ {α β : Type} (f : β → α → β) (l : List α) (b : β) (i : Nat) (x : α) (h : l[i]? = some x) : (l.take (i + 1)).foldl f b = f ((l.take i).foldl f b) x := by
  rw [List.take_add_one, h, List.foldl_append]
  rfl
end Ink

namespace Ink
/-! ### sizes and places -/
def tot (r : Row) : Int := (r.map fun p => p.2 - p.1).sum
theorem tot_cons (p : Int × Int) (r : Row) : tot (p :: r) = (p.2 - p.1) + tot r := by simp [tot]
theorem tot_snoc (r : Row) (p : Int × Int) : tot (r ++ [p]) = tot r + (p.2 - p.1) := by simp [tot]
theorem take_snoc {α : Type} {l : List α} {i : Nat} {x : α} (h : l[i]? = some x) : l.take (i + 1) = l.take i ++ [x] := by rw [List.take_add_one, h]; rfl
theorem mul_bd {v s n m : Int} (h0 : 0 ≤ v) (h1 : v ≤ n) (h2 : 0 ≤ s) (h3 : s ≤ m) : 0 ≤ v * s ∧ v * s ≤ n * m :=
  ⟨Int.mul_nonneg h0 h2, Int.mul_le_mul h1 h3 h2 (Int.le_trans h0 h1)⟩
theorem spot_bd {v t : Int} (h0 : 0 ≤ v) (h1 : v ≤ 1000000000) (h2 : 0 ≤ t) : 0 ≤ v * t / 1000000000 ∧ v * t / 1000000000 ≤ t := by
  have b := mul_bd h0 h1 h2 (Int.le_refl t)
  constructor
  · exact Int.ediv_nonneg b.1 (by decide)
  · have : v * t ≤ t * 1000000000 := by rw [Int.mul_comm t]; exact b.2
    exact Int.ediv_le_of_le_mul (by decide) this
end Ink
namespace Ink
theorem run_snoc (s : Int) (n : Nat) : run s (n + 1) = run s n ++ [s + n] := by
  induction n generalizing s with
  | zero => simp [run]
  | succ n ih =>
    rw [run, ih, run]
    have : s + 1 + (n : Int) = s + ((n + 1 : Nat) : Int) := by omega
    rw [this]; rfl
theorem span_more {a n : Int} (h : a ≤ n) : span (a, n + 1) = span (a, n) ++ [n] := by
  unfold span
  have e : ((a, n + 1).2 - (a, n + 1).1).toNat = ((a, n).2 - (a, n).1).toNat + 1 := by simp only; omega
  rw [e, run_snoc]
  have : a + ((((a, n).2 - (a, n).1).toNat : Nat) : Int) = n := by simp only; omega
  simp only at this ⊢
  rw [this]
theorem span_one (n : Int) : span (n, n + 1) = [n] := by
  have := span_more (a := n) (n := n) (Int.le_refl _)
  rw [this]
  have e : span (n, n) = [] := by unfold span; simp [run]
  rw [e]; rfl
theorem spell_append (r q : Row) : spell (r ++ q) = spell r ++ spell q := by unfold spell; rw [List.flatMap_append]
theorem spell_one (p : Int × Int) : spell [p] = span p := by simp [spell]
theorem spell_grow (t : Row) (n : Int) (h : ∀ p ∈ t, p.1 ≤ p.2) : spell (grow t n (n + 1)) = spell t ++ [n] := by
  rcases List.eq_nil_or_concat t with rfl | ⟨u, q, rfl⟩
  · rw [grow_nil, spell_one, span_one]; rfl
  · rw [List.concat_eq_append] at h ⊢
    by_cases hq : q.2 = n
    · obtain ⟨a, b⟩ := q
      simp only at hq
      subst hq
      have hb : a ≤ b := h (a, b) (by simp)
      rw [grow_pos u rfl, spell_append, spell_append, spell_one, spell_one, span_more hb, List.append_assoc]
    · rw [grow_neg u hq, spell_append, spell_one, span_one]
theorem grow_ok (t : Row) (n : Int) (h : ∀ p ∈ t, p.1 ≤ p.2) : ∀ p ∈ grow t n (n + 1), p.1 ≤ p.2 := by
  rcases List.eq_nil_or_concat t with rfl | ⟨u, q, rfl⟩
  · rw [grow_nil]; intro p hp; simp at hp; subst hp; show n ≤ n + 1; omega
  · rw [List.concat_eq_append] at h ⊢
    by_cases hq : q.2 = n
    · rw [grow_pos u hq]
      intro p hp
      rcases List.mem_append.mp hp with z | z
      · exact h p (List.mem_append_left _ z)
      · simp at z; subst z
        have := h q (by simp)
        show q.1 ≤ n + 1
        omega
    · rw [grow_neg u hq]
      intro p hp
      rcases List.mem_append.mp hp with z | z
      · exact h p z
      · simp at z; subst z; show n ≤ n + 1; omega
theorem spell_rowOf (ns : List Int) : spell (rowOf ns) = ns := by
  have key : ∀ (ns : List Int) (t : Row), (∀ p ∈ t, p.1 ≤ p.2) → spell (ns.foldl (fun t n => grow t n (n + 1)) t) = spell t ++ ns := by
    intro ns
    induction ns with
    | nil => intro t _; simp
    | cons n ns ih =>
      intro t h
      rw [List.foldl_cons, ih _ (grow_ok t n h), spell_grow t n h, List.append_assoc]; rfl
  have := key ns [] (fun p hp => by cases hp)
  simpa [rowOf, spell] using this
theorem rowOf_ok (ns : List Int) : ∀ p ∈ rowOf ns, p.1 ≤ p.2 := by
  have key : ∀ (ns : List Int) (t : Row), (∀ p ∈ t, p.1 ≤ p.2) → ∀ p ∈ ns.foldl (fun t n => grow t n (n + 1)) t, p.1 ≤ p.2 := by
    intro ns
    induction ns with
    | nil => intro t h; exact h
    | cons n ns ih => intro t h; exact ih _ (grow_ok t n h)
  exact key ns [] (fun p hp => by cases hp)
end Ink
namespace Ink
theorem span_length (p : Int × Int) (h : p.1 ≤ p.2) : ((span p).length : Int) = p.2 - p.1 := by
  unfold span; rw [run_length]; omega
theorem spell_len : ∀ (r : Row), (∀ p ∈ r, p.1 ≤ p.2) → ((spell r).length : Int) = tot r
  | [], _ => rfl
  | p :: r, h => by
    have ih := spell_len r fun q hq => h q (List.mem_cons_of_mem _ hq)
    have hp := span_length p (h p (List.mem_cons_self ..))
    have e : spell (p :: r) = span p ++ spell r := rfl
    rw [e, List.length_append, tot_cons]
    omega
end Ink

namespace Ink
open PySem L2 InkX

/-! ### a def of the text, called by its promise -/
structure DefAt (K : PySem.W.Frag) (mg : Str → Option Value) (x : Str) (st : Stmt) (ps : List Str) (a : Addr) (d : FuncData) : Prop where
  F : Fun K x x st a d
  b : Binds K d ps []
  m : mg x = some (.ref a)
section
variable {X : Cx}
theorem pe_def {x : Str} {st : Stmt} {ps : List Str} {f : Addr} {fd : FuncData} {j k : Nat} {sp : Sp} {e : Expr} {es : List Expr} {t : TA} {p pos : Pos} (d : DefAt X.K X.mg x st ps f fd) (G : FnOk X.prog X.w X.K X.mg X.base CX0 k f fd ps sp) (hr : Room j X.A)
    (ha : PA X (e :: es) t) (hjk : k ≤ j := by first | decide | omega) (hg : Gl X x := by rfl) (hdb : (x == ("__debug__" : Str)) = false := by decide) (he : starEach (e :: es) X.env = (false, eval e X.env) :: starEach es X.env := by rfl)
    (hpl : (backTo pos (starEach es X.env)).any (·.1) = false := by rfl) : PE X (.Call (.Name x p) (e :: es) [] pos) (tCall sp [] E0 t) :=
  pe_call G (hr.mono hjk) hg d.m d.F.kp d.b .nil pass0 ha hdb he hpl
theorem ps_imp {st : Stmt} {t t' : TS} (h : PS X st t) (hi : ∀ D σ H, t' D σ H → t D σ H) : PS X st t' := fun pins s σ H D I q => h pins s σ H D I (hi D σ H q)
end

/-! ### heaps -/
/-- all but what stands at l is as it was -/
def Keep (l : Addr) (H H' : Hp) : Prop := ∀ a o, H a = some o → a ≠ l → H' a = some o
theorem Same.keep {l : Addr} {H H' : Hp} (s : Same H H') : Keep l H H' := fun a o e _ => s a o e
theorem Keep.refl (l : Addr) (H : Hp) : Keep l H H := fun _ _ e _ => e
theorem Keep.trans {l : Addr} {H H1 H2 : Hp} (a : Keep l H H1) (b : Keep l H1 H2) : Keep l H H2 := fun c o e n => b c o (a c o e n) n
theorem keep_upd (l : Addr) (H : Hp) (o : HO) : Keep l H (upd H l o) := fun a u e n => by rw [upd_ne n]; exact e
theorem keep_of {l : Addr} {H H1 H2 : Hp} (h : H l = none) (a : Same H H1) (b : Keep l H1 H2) : Same H H2 := fun c o e => b c o (a c o e) (ne_of_none e h)
theorem same_new {H : Hp} {p : Addr} (h : H p = none) (o : HO) : Same H (upd H p o) := fun b u q => by rw [upd_ne (ne_of_none q h)]; exact q
theorem free_keep {l a : Addr} {H H' : Hp} (k : Keep l H H') (n : a ≠ l) (h : H' a = none) : H a = none := by
  cases q : H a with
  | none => rfl
  | some o => rw [k a o q n] at h; cases h
/-! ### the reader of a script: a list of the cells, a place, a rest, a mix -/
def SrcOk (H : Hp) (l c : Addr) : Prop := c ≠ l ∧ ∃ (ns : List Int) (i d r : Int), H l = some (.lst [.ref c, .int i, .int d, .int r]) ∧ H c = some (.lst (ns.map V.int)) ∧ 0 ≤ i ∧ 0 ≤ r ∧ r < 2147483647
theorem SrcOk.same {H H' : Hp} {l c : Addr} (s : SrcOk H l c) (k : Same H H') : SrcOk H' l c := by
  obtain ⟨n, ns, i, d, r, h1, h2, h3⟩ := s
  exact ⟨n, ns, i, d, r, k _ _ h1, k _ _ h2, h3⟩
theorem SrcOk.keep {H H' : Hp} {l c m : Addr} (s : SrcOk H l c) (k : Keep m H H') (h1 : l ≠ m) (h2 : c ≠ m) : SrcOk H' l c := by
  obtain ⟨n, ns, i, d, r, e1, e2, h3⟩ := s
  exact ⟨n, ns, i, d, r, k _ _ e1 h1, k _ _ e2 h2, h3⟩
theorem SrcOk.ne {H : Hp} {l c a : Addr} (s : SrcOk H l c) (h : H a = none) : l ≠ a ∧ c ≠ a := by
  obtain ⟨n, ns, i, d, r, e1, e2, h3⟩ := s
  exact ⟨ne_of_none e1 h, ne_of_none e2 h⟩
theorem SrcOk.has {H : Hp} {l c : Addr} (s : SrcOk H l c) : (∃ o, H l = some o) ∧ ∃ o, H c = some o := by
  obtain ⟨n, ns, i, d, r, e1, e2, h3⟩ := s
  exact ⟨⟨_, e1⟩, ⟨_, e2⟩⟩
theorem at40 {a b c d : V} : atI [a, b, c, d] 0 = some a := rfl
theorem at41 {a b c d : V} : atI [a, b, c, d] 1 = some b := rfl
theorem at42 {a b c d : V} : atI [a, b, c, d] 2 = some c := rfl
theorem at43 {a b c d : V} : atI [a, b, c, d] 3 = some d := rfl
theorem at20 {a b : V} : atI [a, b] 0 = some a := rfl
theorem at21 {a b : V} : atI [a, b] 1 = some b := rfl
/-- the promise of the reader's step: any number below the base -/
def spNext : Sp := fun vs H Q _ => ∃ (l c : Addr) (b : Int), vs = [.ref l, .int b] ∧ SrcOk H l c ∧ 0 < b ∧ b < 10 ^ 70 ∧
  ∀ (v : Int) (H' : Hp), 0 ≤ v → v < b → SrcOk H' l c → (∀ a, a ≠ l → H' a = H a) → Q (.int v) H'
def spSrc (K : PySem.W.Frag) : Sp := fun vs H Q _ => ∃ (a : Addr) (ns : List Int), vs = [.ref a] ∧ SqL K H a (ns.map V.int) ∧
  ∀ (l c : Addr) (H' : Hp), SrcOk H' l c → Same H H' → H l = none → H c = none → Q (.ref l) H'

/-! ### the same things, to a depth -/
def flat : V → Bool
  | .int _ | .bl _ | .str _ | .non => true
  | _ => false
def AtS (k : Bool) (H : Hp) (a : Addr) (xs : List V) : Prop := match k with
  | true => H a = some (.lst xs)
  | false => H a = some (.tup xs)
theorem AtS.same {k : Bool} {H H' : Hp} {a : Addr} {xs : List V} (h : AtS k H a xs) (s : Same H H') : AtS k H' a xs := by
  cases k
  · exact s _ _ h
  · exact s _ _ h
theorem AtS.sq {K : PySem.W.Frag} {k : Bool} {H : Hp} {a : Addr} {xs : List V} (h : AtS k H a xs) : SqB K k H a xs := by
  cases k
  · exact SqT.of h
  · exact SqL.of h
def Eqv (H : Hp) : Nat → V → V → Prop
  | 0, _, _ => False
  | n + 1, x, y => (flat x = true ∧ x = y) ∨ ∃ (k : Bool) (a b : Addr) (xs ys : List V), x = .ref a ∧ y = .ref b ∧ AtS k H a xs ∧ AtS k H b ys ∧ xs.length = ys.length ∧
      ∀ (i : Nat) (u v : V), xs[i]? = some u → ys[i]? = some v → Eqv H n u v
theorem Eqv.same {H H' : Hp} (s : Same H H') : ∀ {n : Nat} {x y : V}, Eqv H n x y → Eqv H' n x y
  | 0, _, _, h => h
  | n + 1, x, y, h => by
    rcases h with h | ⟨k, a, b, xs, ys, e1, e2, h1, h2, hl, hi⟩
    · exact .inl h
    · exact .inr ⟨k, a, b, xs, ys, e1, e2, h1.same s, h2.same s, hl, fun i u v eu ev => Eqv.same s (hi i u v eu ev)⟩
theorem Eqv.int {H : Hp} {n : Nat} (i : Int) : Eqv H (n + 1) (.int i) (.int i) := .inl ⟨rfl, rfl⟩
def spSame (n : Nat) : Sp := fun vs H Q _ => ∃ x y, vs = [x, y] ∧ Eqv H n x y ∧ ∀ H', Same H H' → Q (.bl true) H'
def spWhole : Sp := fun vs H Q _ => ∃ i : Int, vs = [.int i] ∧ Q (.bl true) H
section
variable (K : PySem.W.Frag)
theorem k_bb : PySem.W.kitOne K (.type "bool") (.type "bool") = some true := by rfl
theorem k_ib : PySem.W.kitOne K (.type "int") (.type "bool") = some false := by kernel_rfl
theorem k_ii : PySem.W.kitOne K (.type "int") (.type "int") = some true := by rfl
theorem k_sb : PySem.W.kitOne K (.type "str") (.type "bool") = some false := by kernel_rfl
theorem k_si : PySem.W.kitOne K (.type "str") (.type "int") = some false := by kernel_rfl
theorem k_ss : PySem.W.kitOne K (.type "str") (.type "str") = some true := by rfl
theorem k_lb : PySem.W.kitOne K (.type "list") (.type "bool") = some false := by kernel_rfl
theorem k_li : PySem.W.kitOne K (.type "list") (.type "int") = some false := by kernel_rfl
theorem k_ls : PySem.W.kitOne K (.type "list") (.type "str") = some false := by kernel_rfl
theorem k_ll : PySem.W.kitOne K (.type "list") (.type "list") = some true := by rfl
theorem k_lt : PySem.W.kitOne K (.type "list") (.type "tuple") = some false := by kernel_rfl
theorem k_tb : PySem.W.kitOne K (.type "tuple") (.type "bool") = some false := by kernel_rfl
theorem k_ti : PySem.W.kitOne K (.type "tuple") (.type "int") = some false := by kernel_rfl
theorem k_ts : PySem.W.kitOne K (.type "tuple") (.type "str") = some false := by kernel_rfl
theorem k_tl : PySem.W.kitOne K (.type "tuple") (.type "list") = some false := by kernel_rfl
theorem k_tt : PySem.W.kitOne K (.type "tuple") (.type "tuple") = some true := by rfl
end
def tyS (k : Bool) : Value := .type (if k then "list" else "tuple")
theorem AtS.ty {K : PySem.W.Frag} {k : Bool} {H : Hp} {a : Addr} {xs : List V} (h : AtS k H a xs) : TyOf K H (.ref a) (tyS k) := by
  cases k
  · exact TyOf.tup h
  · exact TyOf.lst h
theorem k_qb (K : PySem.W.Frag) (k : Bool) : PySem.W.kitOne K (tyS k) (.type "bool") = some false := by cases k; exact k_tb K; exact k_lb K
theorem k_qi (K : PySem.W.Frag) (k : Bool) : PySem.W.kitOne K (tyS k) (.type "int") = some false := by cases k; exact k_ti K; exact k_li K
theorem k_qs (K : PySem.W.Frag) (k : Bool) : PySem.W.kitOne K (tyS k) (.type "str") = some false := by cases k; exact k_ts K; exact k_ls K
theorem k_ql (K : PySem.W.Frag) (k : Bool) : PySem.W.kitOne K (tyS k) (.type "list") = some k := by cases k; exact k_tl K; exact k_ll K
theorem k_qt (K : PySem.W.Frag) (k : Bool) : PySem.W.kitOne K (tyS k) (.type "tuple") = some (!k) := by cases k; exact k_tt K; exact k_lt K

/-! ### rows: lists of pairs -/
def PairAt (H : Hp) (a : Addr) (p : Int × Int) : Prop := H a = some (.tup [.int p.1, .int p.2])
abbrev PairsAt (H : Hp) : List Addr → Row → Prop := Paired (PairAt H)
def RowAt (H : Hp) (r : Addr) (row : Row) : Prop := ∃ as : List Addr, H r = some (.lst (as.map V.ref)) ∧ PairsAt H as row
theorem PairsAt.tups {H H' : Hp} {as : List Addr} {row : Row} (h : PairsAt H as row) (t : ∀ a xs, H a = some (.tup xs) → H' a = some (.tup xs)) : PairsAt H' as row := Paired.mapP h fun a p e => t a _ e
theorem PairsAt.same {H H' : Hp} {as : List Addr} {row : Row} (h : PairsAt H as row) (s : Same H H') : PairsAt H' as row := h.tups fun a xs e => s a _ e
theorem RowAt.same {H H' : Hp} {r : Addr} {row : Row} (h : RowAt H r row) (s : Same H H') : RowAt H' r row := by
  obtain ⟨as, h1, h2⟩ := h
  exact ⟨as, s _ _ h1, h2.same s⟩
/-- what stands at l is no tuple -/
theorem PairsAt.keep {H H' : Hp} {as : List Addr} {row : Row} {l : Addr} {xs : List V} (h : PairsAt H as row) (hl : H l = some (.lst xs)) (s : Keep l H H') : PairsAt H' as row :=
  h.tups fun a ys e => s a _ e (ne_of e hl (by intro z; cases z))
theorem RowAt.keep {H H' : Hp} {r : Addr} {row : Row} {l : Addr} {xs : List V} (h : RowAt H r row) (hl : H l = some (.lst xs)) (n : r ≠ l) (s : Keep l H H') : RowAt H' r row := by
  obtain ⟨as, h1, h2⟩ := h
  exact ⟨as, s _ _ h1 n, h2.keep hl s⟩
theorem PairsAt.get {H : Hp} : ∀ {as : List Addr} {row : Row} {i : Nat} {a : Addr}, PairsAt H as row → as[i]? = some a → ∃ p, row[i]? = some p ∧ PairAt H a p
  | _, _, _, _, .nil, e => by simp at e
  | _, _, 0, _, .cons r _, e => by simp at e; subst e; exact ⟨_, rfl, r⟩
  | _, _, i + 1, a, .cons _ t, e => by
    obtain ⟨p, h1, h2⟩ := PairsAt.get (i := i) (a := a) t (by simpa using e)
    exact ⟨p, by simpa using h1, h2⟩
theorem PairsAt.snoc {H : Hp} : ∀ {as : List Addr} {row : Row} {a : Addr} {p : Int × Int}, PairsAt H as row → PairAt H a p → PairsAt H (as ++ [a]) (row ++ [p])
  | _, _, _, _, .nil, e => .cons e .nil
  | _, _, _, _, .cons r t, e => .cons r (PairsAt.snoc t e)
theorem PairsAt.split {H : Hp} : ∀ {as : List Addr} {row : Row} {p : Int × Int}, PairsAt H as (row ++ [p]) → ∃ bs a, as = bs ++ [a] ∧ PairsAt H bs row ∧ PairAt H a p
  | as, [], p, h => by
    cases h with
    | cons r t => cases t; exact ⟨[], _, rfl, .nil, r⟩
  | as, q :: row, p, h => by
    cases h with
    | cons r t =>
      obtain ⟨bs, a, rfl, h1, h2⟩ := PairsAt.split (row := row) (p := p) t
      exact ⟨_ :: bs, a, rfl, .cons r h1, h2⟩
theorem PairsAt.len {H : Hp} {as : List Addr} {row : Row} (h : PairsAt H as row) : as.length = row.length := Paired.length h
theorem RowAt.eqv {H : Hp} {r q : Addr} {row : Row} (h : RowAt H r row) (g : RowAt H q row) (n : Nat) : Eqv H (n + 3) (.ref r) (.ref q) := by
  obtain ⟨as, h1, h2⟩ := h
  obtain ⟨bs, g1, g2⟩ := g
  refine .inr ⟨true, r, q, _, _, rfl, rfl, h1, g1, by rw [List.length_map, List.length_map, h2.len, g2.len], fun i u v eu ev => ?_⟩
  rw [List.getElem?_map] at eu ev
  obtain ⟨a, ea, rfl⟩ := Option.map_eq_some_iff.mp eu
  obtain ⟨b, eb, rfl⟩ := Option.map_eq_some_iff.mp ev
  obtain ⟨p, e1, k1⟩ := h2.get ea
  obtain ⟨p', e2, k2⟩ := g2.get eb
  rw [e1] at e2
  cases e2
  refine .inr ⟨false, a, b, _, _, rfl, rfl, k1, k2, rfl, fun j u v eu ev => ?_⟩
  rw [eu] at ev
  cases ev
  match j, eu with
  | 0, eu => cases eu; exact Eqv.int _
  | 1, eu => cases eu; exact Eqv.int _
theorem all_ref : ∀ as : List Addr, (as.map V.ref).all idV = true
  | [] => rfl
  | _ :: as => by rw [List.map_cons, List.all_cons, all_ref as]; rfl
theorem atI_neg1 {α : Type} (xs : List α) (v : α) : atI (xs ++ [v]) (-1) = some v := atI_last xs v
theorem ixN_neg1 (n : Nat) : ixN (n + 1) (-1) = some n := by
  unfold ixN
  rw [if_neg (by decide), if_pos (by omega)]
  congr 1
  omega
theorem set_last {α : Type} (xs : List α) (a b : α) : (xs ++ [a]).set xs.length b = xs ++ [b] := by
  simp
def spPlain : Sp := fun vs H Q _ => ∃ (r : Addr) (row : Row), vs = [.ref r] ∧ RowAt H r row ∧ row.length ≤ 1000000 ∧
  ∀ (q : Addr) (H' : Hp), RowAt H' q (plainF row) → Same H H' → H q = none → Q (.ref q) H'
def spLaw (K : PySem.W.Frag) : Sp := fun vs H Q _ => ∃ (a : Addr) (ns : List Int), vs = [.ref a] ∧ SqL K H a (ns.map V.int) ∧ ns.length ≤ 63 ∧ ∀ H', Q (.bl true) H'
theorem million {n : Nat} (h : n ≤ 1000001) : n < sizeLine := Nat.lt_of_le_of_lt h (by decide)
end Ink

namespace Ink
open PySem L2 InkX
/-! ### defs that all laws share -/
def nextT1 : TS := fun D σ H => ∃ (l c : Addr) (b : Int), σ = [some (.ref l), some (.int b), none, none] ∧ SrcOk H l c ∧
  ∀ (cell : Option V) (H' : Hp), SrcOk H' l c → (∀ a, a ≠ l → H' a = H a) → D.nx [some (.ref l), some (.int b), cell, none] H'
def nextT2 : TS := fun D σ H => ∃ (l c : Addr) (b : Int), σ = [some (.ref l), some (.int b), some (.int 7), none] ∧ SrcOk H l c ∧
  ∀ (cell : Int) (H' : Hp), SrcOk H' l c → (∀ a, a ≠ l → H' a = H a) → D.nx [some (.ref l), some (.int b), some (.int cell), none] H'
theorem at_ints {ns : List Int} {i : Int} (h0 : 0 ≤ i) (h1 : i < (ns.length : Int)) : ∃ v : Int, atI (ns.map V.int) i = some (.int v) := by
  have hk : i.toNat < ns.length := by omega
  refine ⟨ns[i.toNat], ?_⟩
  have q : atI (ns.map V.int) ((i.toNat : Nat) : Int) = some (.int ns[i.toNat]) := atI_nat (by rw [List.getElem?_map, List.getElem?_eq_getElem hk] <;> rfl)
  have ei : ((i.toNat : Nat) : Int) = i := by omega
  rw [ei] at q
  exact q
theorem cut_ints (ns : List Int) (lo hi : Option Int) : ∃ ms : List Int, cutV (ns.map V.int) lo hi = ms.map V.int := by
  unfold cutV
  refine ⟨(ns.drop (HT.sIx (ns.map V.int).length 0 lo)).take (HT.sIx (ns.map V.int).length (ns.map V.int).length hi - HT.sIx (ns.map V.int).length 0 lo), ?_⟩
  rw [List.map_take, List.map_drop]
theorem tt {p : Prop} [Decidable p] {Q : V → Hp → Prop} {H : Hp} (hp : p) (h : Q (.bl true) H) : Q (.bl (decide p)) H := by
  rw [decide_eq_true hp]
  exact h
theorem AtS.or {K : PySem.W.Frag} {k : Bool} {H : Hp} {a : Addr} {xs : List V} (h : AtS k H a xs) : SqL K H a xs ∨ SqT K H a xs := by
  cases k
  · exact .inr (SqT.of h)
  · exact .inl (SqL.of h)
theorem off_keep {l : Addr} {H H' : Hp} (k : ∀ a, a ≠ l → H' a = H a) : Keep l H H' := fun a o e n => by rw [k a n]; exact e
end Ink

namespace Ink
open PySem L2 InkX
def Great (row : Row) : Prop := ∀ p ∈ row, 0 ≤ p.1 ∧ p.1 ≤ p.2 ∧ p.2 ≤ 10 ^ 40
def spBigBy : Sp := fun vs H Q _ => ∃ (l c : Addr) (most : Int), vs = [.ref l, .int most] ∧ SrcOk H l c ∧ 0 ≤ most ∧ most ≤ 1000 ∧
  ∀ (r : Addr) (row : Row) (H' : Hp), RowAt H' r row → (row.length : Int) ≤ most → Great row → SrcOk H' l c → Keep l H H' → H r = none → Q (.ref r) H'
def spTotal : Sp := fun vs H Q _ => ∃ (r : Addr) (row : Row), vs = [.ref r] ∧ RowAt H r row ∧ Q (.int (tot row)) H
def spSpot : Sp := fun vs H Q _ => ∃ (l c : Addr) (t : Int), vs = [.ref l, .int t] ∧ SrcOk H l c ∧ 0 ≤ t ∧ t < 10 ^ 60 ∧
  ∀ (v : Int) (H' : Hp), 0 ≤ v → v ≤ t → SrcOk H' l c → (∀ a, a ≠ l → H' a = H a) → Q (.int v) H'
theorem ints_eqv {H : Hp} {p q : Addr} {ns : List Int} (h : H p = some (.lst (ns.map V.int))) (g : H q = some (.lst (ns.map V.int))) (n : Nat) : Eqv H (n + 2) (.ref p) (.ref q) := by
  refine .inr ⟨true, p, q, _, _, rfl, rfl, h, g, rfl, fun i u v eu ev => ?_⟩
  rw [eu] at ev
  cases ev
  rw [List.getElem?_map] at eu
  obtain ⟨a, _, rfl⟩ := Option.map_eq_some_iff.mp eu
  exact Eqv.int _
theorem pow9 : (10 : Int) ^ (9 : Int).toNat = 1000000000 := by decide
theorem scales {v : Int} (h0 : 0 ≤ v) (h1 : v < 3) : ∃ sc : Int, atI [V.int 1, V.int (10 ^ (9 : Int).toNat), V.int (10 ^ (30 : Int).toNat)] v = some (.int sc) ∧ 0 ≤ sc ∧ sc ≤ 10 ^ 30 := by
  have h : v = 0 ∨ v = 1 ∨ v = 2 := by omega
  rcases h with rfl | rfl | rfl
  · exact ⟨1, rfl, by decide, by decide⟩
  · exact ⟨_, rfl, by decide, by decide⟩
  · exact ⟨_, rfl, by decide, by decide⟩
def bigT1 : TS := fun D σ H => ∃ (l c q : Addr) (most here sc : Int) (kk mm : Option V), σ = [some (.ref l), some (.int most), some (.ref q), some (.int here), some (.int sc), kk, mm] ∧ SrcOk H l c ∧ 0 ≤ here ∧ 0 ≤ sc ∧ sc ≤ 10 ^ 30 ∧
  ∀ (here' : Int) (H' : Hp), 0 ≤ here' → (here' ≤ here ∨ here' ≤ 10 ^ 33) → SrcOk H' l c → (∀ a, a ≠ l → H' a = H a) → D.nx [some (.ref l), some (.int most), some (.ref q), some (.int here'), some (.int sc), kk, mm] H'
theorem SrcOk.lst {H : Hp} {l c : Addr} (s : SrcOk H l c) : ∃ xs, H l = some (.lst xs) := by
  obtain ⟨n, ns, i, d, r, e1, _⟩ := s
  exact ⟨_, e1⟩
end Ink

namespace InkX
open PySem PySem.Spec PyProof.Rows L2
/-! ### a list made by one clause: [elt for tg in iter if ..]; its own names are local, it names none of the def's -/
/-- the context of the block -/
def cxC (X : Cx) (N : List Str) (scope : Scope) (C : Addr) (s₀ : Shared) (H₀ : Hp) (ex : List Addr) (pn : List (Addr × Obj)) : Cx where
  prog := X.prog
  w := X.w
  K := X.K
  mg := X.mg
  base := X.base
  A := X.A
  N := N
  s₀ := s₀
  H₀ := H₀
  env := newEnv scope C X.env.globals [] X.env.qual none .none (some X.env) X.env.builtins
  outer := X.stack
  stack := X.stack
  ex := ex
  fn := fun _ => true
  calm := X.calm
  pn := pn
  xe := fun _ _ => False
structure CompScope (scope : Scope) : Prop where
  kind : scope.kind = .function
  free : ∀ x ∈ scope.names, x.2 ≠ .free
  cell : ∀ x ∈ scope.names, x.2 ≠ .cell
  names : ∀ x ∈ scope.names, x.2 = .local → scope.names.lookup x.1 = some .local
section
variable {prog : Program} {w : World} {A : Around} {R : Result → Shared → Prop} {s : Shared}
/-- the tests of a clause -/
def testsOf (ifs : List Expr) (env : Env) : Sem Bool := forIn ifs true fun c r => if r = true then do let ok ← isTrue c env (eval c env); pure (ForInStep.yield ok) else pure (ForInStep.yield r)
theorem compLoopG {elt target iter : Expr} {ifs : List Expr} {scope : Scope} {pos : Pos} {it acc : Value} {env : Env} (I : Nat → Shared → Prop)
    (turn : ∀ n s, I n s → wpAny (model prog w) A (pyNext it) (fun r s₁ => match r with
      | none => R (.ok .next) s₁
      | some v => wpAny (model prog w) A (letOwnedTupleGo target it v) (fun _ s₂ => wpAny (model prog w) A (assign target env v) (fun _ s₃ =>
          wpAny (model prog w) A (testsOf ifs env) (fun ok s₄ =>
            if ok = true then wpAny (model prog w) A (eval elt env) (fun x s₅ => wpAny (model prog w) A (call (.builtin "list.append") [acc, x]) (fun _ s₆ => ∃ m, m < n ∧ I m s₆) (fun _ _ => False) s₅) (fun _ _ => False) s₄
            else ∃ m, m < n ∧ I m s₄) (fun _ _ => False) s₃) (fun _ _ => False) s₂) (fun _ _ => False) s₁) (fun _ _ => False) s)
    (n : Nat) (h : I n s) : codeAny (model prog w) A (.compLoop (.ListComp elt [⟨target, iter, ifs, 0⟩] scope pos) 0 it acc env) R s := by
  refine codeAny_loop rfl I (fun n s hI => ?_) n h
  show wpAny _ A ((compTurn (.ListComp elt [⟨target, iter, ifs, 0⟩] scope pos) 0 it acc env).onRaise (fun x => do noteFrame x env; theTreesLotGoes x)) _ _ s
  refine wpAny_noted ?_
  rw [compTurn_list]
  refine wpAny_bind (wpAny_standAt (wpAny_bind (wpAny_mono (turn n s hI) (fun r s₁ h₁ => ?_) fun _ _ h' => h'.elim)))
  cases r with
  | none => exact wpAny_pure h₁
  | some v =>
    refine wpAny_bind (wpAny_mono h₁ (fun _ s₂ h₂ => wpAny_bind (wpAny_mono h₂ (fun _ s₃ h₃ => wpAny_bind (wpAny_mono h₃ (fun ok s₄ h₄ => ?_) fun _ _ h' => h'.elim)) fun _ _ h' => h'.elim)) fun _ _ h' => h'.elim)
    cases ok with
    | false => exact wpAny_pure ⟨rfl, h₄⟩
    | true => exact wpAny_bind (wpAny_bind (wpAny_mono h₄ (fun x s₅ h₅ => wpAny_bind (wpAny_mono h₅ (fun _ s₆ h₆ => wpAny_pure (wpAny_pure ⟨rfl, h₆⟩)) fun _ _ h' => h'.elim)) fun _ _ h' => h'.elim))
end
section
variable {X : Cx} {N : List Str} {scope : Scope}
/-- the block's entry: iterators at fp, the list at acc stands in H already -/
theorem comp_start {pins : List (Addr × Obj)} {σ : L2.St} {H : Hp} {s : Shared} {fp : List Addr} {h₁ : Heap} {t : Nat} (cs : CompScope scope) (I : Inv X pins σ H s) (hf : ∀ b ∈ fp, FpOk X pins H b) (hlt : ∀ b ∈ fp, b < s.heap.objs.size)
    (hns : h₁.Ns s.heap.objs.size fun _ => none) (hk : ∀ b o, s.heap.get? b = some o → h₁.get? b = some o) :
    Inv (cxC X N scope s.heap.objs.size s H fp (X.pn ++ pins)) [] (List.replicate N.length none) H { s with heap := h₁, toks := t } := by
  have nol : ∀ {x c}, (cxC X N scope s.heap.objs.size s H fp (X.pn ++ pins)).env.cells.lookup x = some c → False := fun {x c} e => by
    have e' : (none : Option Addr) = some c := e
    cases e'
  refine ⟨⟨I.ok.mod, cs.kind, I.ok.glob, I.ok.blt, Nat.le_refl _, fun x y c e _ => (nol e).elim, fun x hx => ?_, fun x c _ e => (nol e).elim, I.ok.hd, I.ok.frames, .inl rfl, fun b hb => ⟨Nat.ne_of_lt (hlt b hb), fun x c e => (nol e).elim⟩, I.bs, Nat.le_trans I.ok.bsz I.sz, fun b o e hb => ?_, fun b hb z => ?_, I.stack, I.stkFree⟩,
    rfl, I.bare, Un.kept hk, ⟨_, hns, fun i x v e1 e2 _ => ?_⟩, fun x c e => (nol e).elim, I.hok.fresh (Nat.le_refl _), fun x c e => (nol e).elim, fun p hp => ?_, I.hok.kept hk, by rw [List.length_replicate]; rfl⟩
  · have hx' : scope.names.lookup x = some .cell ∨ scope.names.lookup x = some .free := hx
    rcases hx' with z | z
    · exact absurd rfl (cs.cell _ (PySem.mem_of_lookup z))
    · exact absurd rfl (cs.free _ (PySem.mem_of_lookup z))
  · rcases (hf b hb).2.2.2.1 with z | z
    · exact I.ok.noex b o e z
    · exact absurd (Nat.lt_of_lt_of_le (Heap.lt_size (I.ok.bs b o e).1) z) (Nat.lt_irrefl _)
  · rcases List.mem_cons.mp (I.stkSub b z) with e | e
    · exact (hf b hb).2.1 e
    · exact (hf b hb).2.2.1 e
  · rw [List.getElem?_replicate] at e2
    split at e2 <;> cases e2
  · have hp' : p ∈ X.pn ++ pins := by
      have z : p ∈ (X.pn ++ pins) ++ [] := hp
      simpa using z
    obtain ⟨e, n, nl, nf, d⟩ := I.pin p hp'
    refine ⟨hk _ _ e, n, Nat.ne_of_lt (Heap.lt_size e), fun z => ?_, d⟩
    rcases List.mem_cons.mp (I.stkSub p.1 z) with e | e
    · exact nl e
    · exact nf e
/-- the block's end -/
theorem comp_end {pins : List (Addr × Obj)} {σ σ' : L2.St} {H H' : Hp} {s s' : Shared} {fp : List Addr} {h' : Heap} (I : Inv X pins σ H s) (hf : ∀ b ∈ fp, FpOk X pins H b) (J : Inv (cxC X N scope s.heap.objs.size s H fp (X.pn ++ pins)) [] σ' H' s')
    (hs : Heap.SameBut s.heap.objs.size s'.heap h') : Inv X pins σ H' { s' with heap := h' } := by
  have I4 : Inv X pins σ H' s' := I.call' (ch := fp) J.os J.base J.hok J.bare fun b hb => ⟨(hf b hb).2.2.2.1, (hf b hb).2.1, (hf b hb).2.2.2.2.1, (hf b hb).2.2.2.2.2⟩
  refine I4.turned (t' := s'.toks) (it := s.heap.objs.size) (fun b o hb e => hs.extBut _ _ hb e) J.free (Nat.ne_of_gt I.lt) (.inr I.sz) (fun x c e z => ?_) fun p hp z => ?_
  · obtain ⟨v, o, ho, _⟩ := I.cell x c e
    exact absurd (Heap.lt_size ho) (by rw [z]; exact Nat.lt_irrefl _)
  · exact absurd (Heap.lt_size (I.pin p hp).1) (by rw [z]; exact Nat.lt_irrefl _)

def PTs (X : Cx) (ifs : List Expr) (t : TT) : Prop :=
  ∀ (pins : List (Addr × Obj)) (s : Shared) (σ : L2.St) (H : Hp) (Q : Bool → Hp → Prop), Inv X pins σ H s → t σ H Q → wpAny (model X.prog X.w) X.A (testsOf ifs X.env) (TP X pins σ Q) X.xe s
def tYes : TT := fun _ H Q => Q true H
theorem pts_nil : PTs X [] tYes := fun pins s σ H Q I h => wpAny_tests_nil ⟨H, I, h⟩
theorem pts_one {c : Expr} {t : TT} (h : PT X c t) : PTs X [c] t := fun pins s σ H Q I q => wpAny_tests_one (h pins s σ H Q I q)

/-- the turns of a block -/
def tTurns (J : It) (acc : Addr) (g : TG) (tt : TT) (te : TE) (n : Nat) (H : Hp) (Q : VK) : Prop :=
  ∃ W : Nat → Nat → L2.St → Hp → Prop, (∃ m, W 0 m (List.replicate n none) H) ∧ ∀ i m σ H, W i m σ H →
    (J.stop i H ∧ Q (.ref acc) H) ∨ (J.go i H ∧ ∃ Nx : L2.St → Hp → Prop, (∀ σ' H', Nx σ' H' → ∃ m', m' < m ∧ W (i + 1) m' σ' H') ∧ ∀ x H', J.yld i H x H' → g x σ H' fun σ2 H2 => tt σ2 H2 fun b H3 =>
      if b = true then te σ2 H3 fun v H4 => ∃ xs, H4 acc = some (.lst xs) ∧ xs.length < sizeLine ∧ Nx σ2 (upd H4 acc (.lst (xs ++ [v]))) else Nx σ2 H3)
def tComp (n : Nat) (wi : TI) (g : TG) (tt : TT) (te : TE) : TE := fun σ H Q => wi σ H fun J H1 => ∀ acc, H1 acc = none → tTurns J acc g tt te n (upd H1 acc (.lst [])) Q
theorem pe_comp {elt tg iter : Expr} {ifs : List Expr} {pos : Pos} {wi : TI} {g : TG} {tt : TT} {te : TE} (cs : CompScope scope) (hc : X.calm = true) (hi : PI X tg iter wi)
    (hg : ∀ C s₀ H₀ ex pn, PG (cxC X N scope C s₀ H₀ ex pn) tg g) (ht : ∀ C s₀ H₀ ex pn, PTs (cxC X N scope C s₀ H₀ ex pn) ifs tt) (he : ∀ C s₀ H₀ ex pn, PE (cxC X N scope C s₀ H₀ ex pn) elt te)
    (hs : ∀ x, foldedSetIterable iter X.env x = pure x := by intro _; rfl) : PE X (.ListComp elt [⟨tg, iter, ifs, 0⟩] scope pos) (tComp N.length wi g tt te) := by
  intro pins s σ H Q I h
  refine wpAny_ListComp cs.free cs.kind cs.names (thn (hi pins s σ H _ I h) fun v s1 h1 => thn h1 fun itv s2 h2 => ?_) hs
  obtain ⟨it, fp, tn, J, H2, e, I2, T, st2, f2, q⟩ := h2
  subst e
  refine wpAny_newObj_type (hd := by size_fits) ?_
  have hacc : H2 s2.heap.objs.size = none := I2.hok.fresh (Nat.le_refl _)
  have I3 : Inv X pins σ (upd H2 s2.heap.objs.size (.lst [])) { s2 with heap := s2.heap.push { cls := .type "list", data := .seq ([] : List Value).toArray }, toks := s2.toks } := I2.lnew (ys := []) .nil (Nat.zero_le _)
  have ftn : ∀ b ∈ fp, b < s2.heap.objs.size := fun b hb => by
    obtain ⟨o, ho, _⟩ := T.obj _ _ st2 b hb
    exact Heap.lt_size ho
  have f3 : ∀ b ∈ fp, FpOk X pins (upd H2 s2.heap.objs.size (.lst [])) b := fun b hb => ⟨by rw [upd_ne (Nat.ne_of_lt (ftn b hb))]; exact (f2 b hb).1, (f2 b hb).2⟩
  have k3 : ∀ b o, s2.heap.get? b = some o → (s2.heap.push { cls := .type "list", data := .seq ([] : List Value).toArray }).get? b = some o := fun b o e => Heap.get?_push_of_some _ e
  have q3 := q _ hacc
  generalize hs3 : ({ s2 with heap := s2.heap.push { cls := .type "list", data := .seq ([] : List Value).toArray }, toks := s2.toks } : Shared) = s3 at I3
  generalize hH3 : upd H2 s2.heap.objs.size (.lst []) = H3 at I3 f3 q3
  have hh3 : s3.heap = s2.heap.push { cls := .type "list", data := .seq ([] : List Value).toArray } := by rw [← hs3]
  have ft3 : ∀ b ∈ fp, b < s3.heap.objs.size := fun b hb => by rw [hh3, Heap.size_push]; exact Nat.lt_succ_of_lt (ftn b hb)
  have st3 : tn 0 s3.heap := T.keep _ _ _ st2 fun b _ o e => by rw [hh3]; exact k3 b o e
  show wpAny _ _ _ _ _ s3
  refine wpAny_newFunctionEnv cs.cell (fun y hy => by simp at hy) (fun h₁ hns hsb => ?_) cs.kind
  have kh : ∀ b o, s3.heap.get? b = some o → h₁.get? b = some o := fun b o e => hsb.extBut _ _ (Nat.ne_of_lt (Heap.lt_size e)) (Heap.get?_push_of_some _ e)
  have J0 : Inv (cxC X N scope s3.heap.objs.size s3 H3 fp (X.pn ++ pins)) [] (List.replicate N.length none) H3 { s3 with heap := h₁, toks := s3.toks + ([] : List (Str × Value)).length } := comp_start cs I3 f3 ft3 hns kh
  have st4 : tn 0 h₁ := T.keep _ _ _ st3 fun b _ o e => kh b o e
  obtain ⟨W, ⟨m0, w0⟩, turn⟩ := q3
  have stat : ∀ {H' : Hp}, (∀ b ∈ fp, H' b = none) → ∀ b ∈ fp, FpOk (cxC X N scope s3.heap.objs.size s3 H3 fp (X.pn ++ pins)) [] H' b := fun hn b hb => by
    refine ⟨hn b hb, Nat.ne_of_lt (ft3 b hb), fun z => ?_, .inl hb, fun x c e => ?_, fun p hp => ?_⟩
    · rcases List.mem_cons.mp (I3.stkSub b z) with e | e
      · exact (f3 b hb).2.1 e
      · exact (f3 b hb).2.2.1 e
    · have e' : (none : Option Addr) = some c := e
      cases e'
    · have hp' : p ∈ X.pn ++ pins := by
        have z : p ∈ (X.pn ++ pins) ++ [] := hp
        simpa using z
      exact (f3 b hb).2.2.2.2.2 p hp'
  have loop : ∀ s5 : Shared, s5 = { s3 with heap := h₁, toks := s3.toks + ([] : List (Str × Value)).length } → codeAny (model X.prog X.w) X.A (.compLoop (.ListComp elt [⟨tg, iter, ifs, 0⟩] scope pos) 0 (.ref it) (.ref s2.heap.objs.size) (cxC X N scope s3.heap.objs.size s3 H3 fp (X.pn ++ pins)).env)
      (fun r s' => ∃ m, s'.heap.Ns s3.heap.objs.size m ∧ ∀ h', Heap.SameBut s3.heap.objs.size s'.heap h' → match r with
        | .ok _ => EP X pins σ Q (.ref s2.heap.objs.size) { s' with heap := h' }
        | .error x => wpAny (model X.prog X.w) X.A (passOn "comprehension.variables-let-go" x (cxC X N scope s3.heap.objs.size s3 H3 fp (X.pn ++ pins)).env) (EP X pins σ Q) X.xe { s' with heap := h' }) s5 := by
    rintro s5 rfl
    refine compLoopG (fun n s' => ∃ i σ' H', Inv (cxC X N scope s3.heap.objs.size s3 H3 fp (X.pn ++ pins)) [] σ' H' s' ∧ tn i s'.heap ∧ (∀ b ∈ fp, H' b = none) ∧ W i n σ' H') ?_ m0 ⟨0, _, H3, J0, st4, fun b hb => (f3 b hb).1, w0⟩
    rintro n s6 ⟨i, σ6, H6, I6, st6, fr6, w6⟩
    rcases turn i n σ6 H6 w6 with ⟨stop, qn⟩ | ⟨go, Nx, hN, step⟩
    · refine thn (T.done (cxC X N scope s3.heap.objs.size s3 H3 fp (X.pn ++ pins)) rfl rfl rfl hc i [] s6 σ6 H6 _ I6 (stat fr6) st6 stop) fun r s7 ⟨hr, I7⟩ => ?_
      subst hr
      obtain ⟨m, hm, _⟩ := I7.loc
      exact ⟨m, hm, fun h' hsb' => ⟨.ref s2.heap.objs.size, H6, comp_end I3 f3 I7 hsb', rfl, qn⟩⟩
    · refine thn (T.item (cxC X N scope s3.heap.objs.size s3 H3 fp (X.pn ++ pins)) rfl rfl rfl hc i [] s6 σ6 H6 _ I6 (stat fr6) st6 go) fun r s7 ⟨u, hr, h7⟩ => ?_
      subst hr
      refine thn h7 fun _ s8 ⟨x, H8, I8, r8, y8, st8, fr8⟩ => ?_
      have I8' := I8.pinned (stat fr8) (T.obj _ _ st8)
      refine thn (hg _ _ _ _ _ _ s8 σ6 H8 x u _ I8' r8 (step x H8 y8)) fun _ s9 ⟨σ9, H9, I9, q9⟩ => ?_
      refine thn (ht _ _ _ _ _ _ s9 σ9 H9 _ I9 q9) fun ok s10 ⟨H10, I10, q10⟩ => ?_
      have again : ∀ {σ7 : L2.St} {H7 : Hp} {s11 : Shared}, Inv (cxC X N scope s3.heap.objs.size s3 H3 fp (X.pn ++ pins)) ([] ++ pinsAt fp s8.heap) σ7 H7 s11 → Nx σ7 H7 → ∃ m, m < n ∧ ∃ i σ' H', Inv (cxC X N scope s3.heap.objs.size s3 H3 fp (X.pn ++ pins)) [] σ' H' s11 ∧ tn i s11.heap ∧ (∀ b ∈ fp, H' b = none) ∧ W i m σ' H' := fun {σ7 H7 s11} I7 n7 => by
        obtain ⟨m', hm, w7⟩ := hN σ7 H7 n7
        refine ⟨m', hm, i + 1, σ7, H7, I7.unpinned, T.keep _ _ _ st8 fun b hb o e => (I7.pin (b, o) (List.mem_append_right _ (List.mem_append_right _ (mem_pinsAt hb e)))).1, fun b hb => ?_, w7⟩
        obtain ⟨o, e, d⟩ := T.obj _ _ st8 b hb
        exact (I7.pin (b, o) (List.mem_append_right _ (List.mem_append_right _ (mem_pinsAt hb e)))).2.1
      cases ok with
      | false =>
        rw [if_neg Bool.false_ne_true] at q10
        exact again I10 q10
      | true =>
        rw [if_pos rfl] at q10
        refine thn (he _ _ _ _ _ _ s10 σ9 H10 _ I10 q10) fun v s11 ⟨y, H11, I11, r11, xs, hx, hz, n11⟩ => ?_
        refine thn (mt_append _ s11 σ9 H11 (.ref s2.heap.objs.size) [y] (.ref s2.heap.objs.size) [v] (fun _ H' => Nx σ9 H') I11 rfl (.cons r11 .nil) ⟨_, xs, y, rfl, rfl, hx, hz, n11⟩) fun _ s12 ⟨_, H12, I12, _, n12⟩ => ?_
        exact again I12 n12
  exact codeAny_compStart_list (loop _ rfl) (T.self _ _ _ _ _ st4 (loop _ rfl))
/-- the forms one uses: a list that the block leaves as it is, each item one value -/
theorem comp_list {K : PySem.W.Frag} {a acc : Addr} {xs : List V} {g : TG} {tt : TT} {te : TE} {n : Nat} {H : Hp} {Q : VK} (Pv : Nat → L2.St → Hp → Prop) (h0 : Pv 0 (List.replicate n none) H) (hl : ∀ i σ H, i ≤ xs.length → Pv i σ H → SqL K H a xs)
    (hs : ∀ i x σ H, xs[i]? = some x → Pv i σ H → g x σ H fun σ2 H2 => tt σ2 H2 fun b H3 => if b = true then te σ2 H3 fun v H4 => ∃ ys, H4 acc = some (.lst ys) ∧ ys.length < sizeLine ∧ Pv (i + 1) σ2 (upd H4 acc (.lst (ys ++ [v]))) else Pv (i + 1) σ2 H3)
    (hd : ∀ σ H, Pv xs.length σ H → Q (.ref acc) H) : tTurns (Itl K a) acc g tt te n H Q := by
  refine ⟨fun i m σ H => m = xs.length - i ∧ i ≤ xs.length ∧ Pv i σ H, ⟨xs.length, by simp, Nat.zero_le _, h0⟩, ?_⟩
  rintro i m σ H ⟨rfl, hi, p⟩
  have q := hl i σ H hi p
  by_cases hlt : i < xs.length
  · refine .inr ⟨⟨xs, xs[i], q, by simp [hlt]⟩, Pv (i + 1), fun σ' H' p' => ⟨xs.length - (i + 1), by omega, rfl, hlt, p'⟩, fun x H' y => ?_⟩
    obtain ⟨e, y⟩ := y
    subst e
    exact hs i x σ _ (y xs q) p
  · have e : i = xs.length := by omega
    subst e
    exact .inl ⟨⟨xs, q, Nat.le_refl _⟩, hd σ H p⟩
end
end InkX
namespace InkX
open PySem PySem.Spec PyProof.Rows L2
/-! ### ranges of any bounds -/
section
variable {X : Cx} {tg : Expr}
end
end InkX

namespace InkX
open PySem PySem.Spec PyProof.Rows L2
/-! ### two clauses: [elt for tg in iter for tg2 in iter2 if ..] -/
section
variable {prog : Program} {w : World} {A : Around} {R : Result → Shared → Prop} {s : Shared}
theorem turn_in (elt tg iter tg2 iter2 : Expr) (ifs ifs2 : List Expr) (scope : Scope) (pos : Pos) (it acc : Value) (env : Env) :
    compTurn (.ListComp elt [⟨tg, iter, ifs, 0⟩, ⟨tg2, iter2, ifs2, 0⟩] scope pos) 1 it acc env = (do
      standAt iter2.pos
      match ← pyNext it with
      | none => pure (.done .next)
      | some v =>
        letOwnedTupleGo tg2 it v
        assign tg2 env v
        let ok ← testsOf ifs2 env
        if ok then (do let _ ← call (.builtin "list.append") [acc, ← eval elt env])
        again (.compLoop (.ListComp elt [⟨tg, iter, ifs, 0⟩, ⟨tg2, iter2, ifs2, 0⟩] scope pos) 1 it acc env)) := by rfl
theorem turn_out (elt tg iter tg2 iter2 : Expr) (ifs ifs2 : List Expr) (scope : Scope) (pos : Pos) (it acc : Value) (env : Env) :
    compTurn (.ListComp elt [⟨tg, iter, ifs, 0⟩, ⟨tg2, iter2, ifs2, 0⟩] scope pos) 0 it acc env = (do
      standAt iter.pos
      match ← pyNext it with
      | none => pure (.done .next)
      | some v =>
        letOwnedTupleGo tg it v
        assign tg env v
        let ok ← testsOf ifs env
        if ok then
          let x ← eval iter2 env
          standAt iter2.pos
          let x ← foldedSetIterable iter2 env x
          let _ ← runOwn (.compStart (.ListComp elt [⟨tg, iter, ifs, 0⟩, ⟨tg2, iter2, ifs2, 0⟩] scope pos) 1 (← holding [x] (pyIter x)) acc env) env
        again (.compLoop (.ListComp elt [⟨tg, iter, ifs, 0⟩, ⟨tg2, iter2, ifs2, 0⟩] scope pos) 0 it acc env)) := by rfl
theorem loopIn {elt tg iter tg2 iter2 : Expr} {ifs ifs2 : List Expr} {scope : Scope} {pos : Pos} {it acc : Value} {env : Env} (I : Nat → Shared → Prop)
    (turn : ∀ n s, I n s → wpAny (model prog w) A (pyNext it) (fun r s₁ => match r with
      | none => R (.ok .next) s₁
      | some v => wpAny (model prog w) A (letOwnedTupleGo tg2 it v) (fun _ s₂ => wpAny (model prog w) A (assign tg2 env v) (fun _ s₃ =>
          wpAny (model prog w) A (testsOf ifs2 env) (fun ok s₄ =>
            if ok = true then wpAny (model prog w) A (eval elt env) (fun x s₅ => wpAny (model prog w) A (call (.builtin "list.append") [acc, x]) (fun _ s₆ => ∃ m, m < n ∧ I m s₆) (fun _ _ => False) s₅) (fun _ _ => False) s₄
            else ∃ m, m < n ∧ I m s₄) (fun _ _ => False) s₃) (fun _ _ => False) s₂) (fun _ _ => False) s₁) (fun _ _ => False) s)
    (n : Nat) (h : I n s) : codeAny (model prog w) A (.compLoop (.ListComp elt [⟨tg, iter, ifs, 0⟩, ⟨tg2, iter2, ifs2, 0⟩] scope pos) 1 it acc env) R s := by
  refine codeAny_loop rfl I (fun n s hI => ?_) n h
  show wpAny _ A ((compTurn (.ListComp elt [⟨tg, iter, ifs, 0⟩, ⟨tg2, iter2, ifs2, 0⟩] scope pos) 1 it acc env).onRaise (fun x => do noteFrame x env; theTreesLotGoes x)) _ _ s
  refine wpAny_noted ?_
  rw [turn_in]
  refine wpAny_bind (wpAny_standAt (wpAny_bind (wpAny_mono (turn n s hI) (fun r s₁ h₁ => ?_) fun _ _ h' => h'.elim)))
  cases r with
  | none => exact wpAny_pure h₁
  | some v =>
    refine wpAny_bind (wpAny_mono h₁ (fun _ s₂ h₂ => wpAny_bind (wpAny_mono h₂ (fun _ s₃ h₃ => wpAny_bind (wpAny_mono h₃ (fun ok s₄ h₄ => ?_) fun _ _ h' => h'.elim)) fun _ _ h' => h'.elim)) fun _ _ h' => h'.elim)
    cases ok with
    | false => exact wpAny_pure ⟨rfl, h₄⟩
    | true => exact wpAny_bind (wpAny_bind (wpAny_mono h₄ (fun x s₅ h₅ => wpAny_bind (wpAny_mono h₅ (fun _ s₆ h₆ => wpAny_pure (wpAny_pure ⟨rfl, h₆⟩)) fun _ _ h' => h'.elim)) fun _ _ h' => h'.elim))
theorem startIn {elt tg iter tg2 iter2 : Expr} {ifs ifs2 : List Expr} {scope : Scope} {pos : Pos} {it acc : Value} {env : Env}
    (h0 : codeAny (model prog w) A (.compLoop (.ListComp elt [⟨tg, iter, ifs, 0⟩, ⟨tg2, iter2, ifs2, 0⟩] scope pos) 1 it acc env) R s)
    (h : wpAny (model prog w) A (pyIter it) (fun it' s' => codeAny (model prog w) A (.compLoop (.ListComp elt [⟨tg, iter, ifs, 0⟩, ⟨tg2, iter2, ifs2, 0⟩] scope pos) 1 it' acc env) R s') (fun _ _ => False) s) :
    codeAny (model prog w) A (.compStart (.ListComp elt [⟨tg, iter, ifs, 0⟩, ⟨tg2, iter2, ifs2, 0⟩] scope pos) 1 it acc env) R s := by
  refine codeAny_of_tree ?_
  show wpAny _ _ ((compStart (.ListComp elt [⟨tg, iter, ifs, 0⟩, ⟨tg2, iter2, ifs2, 0⟩] scope pos) 1 it acc env).onRaise (fun x => do noteFrame x env; standAt theWindowsPlace)) _ _ s
  refine wpAny_notedAt ?_
  unfold compStart
  show wpAny _ _ (ask >>= _) _ _ s
  refine wpAny_bind (wpAny_askSetting (wpAny_ite ?_))
  split
  · first
      | exact wpAny_bind (wpAny_pure (wpAny_pure (And.intro rfl h0)))
      | exact wpAny_pure (And.intro rfl h0)
  · first
      | exact wpAny_bind (wpAny_rule (wpAny_bind (wpAny_standAt (wpAny_bind (wpAny_mono h (fun it' s' h' => wpAny_pure (And.intro rfl h')) fun _ _ x => x.elim)))))
      | (refine wpAny_bind (wpAny_rule ?_); show wpAny _ _ (standAt iter2.pos >>= _) _ _ s; exact wpAny_bind (wpAny_standAt (wpAny_bind (wpAny_mono h (fun it' s' h' => wpAny_pure (And.intro rfl h')) fun _ _ x => x.elim))))
theorem loopOut {elt tg iter tg2 iter2 : Expr} {ifs ifs2 : List Expr} {scope : Scope} {pos : Pos} {it acc : Value} {env : Env} (I : Nat → Shared → Prop)
    (hs2 : ∀ x, foldedSetIterable iter2 env x = pure x)
    (turn : ∀ n s, I n s → wpAny (model prog w) A (pyNext it) (fun r s₁ => match r with
      | none => R (.ok .next) s₁
      | some v => wpAny (model prog w) A (letOwnedTupleGo tg it v) (fun _ s₂ => wpAny (model prog w) A (assign tg env v) (fun _ s₃ =>
          wpAny (model prog w) A (testsOf ifs env) (fun ok s₄ =>
            if ok = true then wpAny (model prog w) A (eval iter2 env) (fun x s₅ => wpAny (model prog w) A (pyIter x) (fun it2 s₆ =>
              codeAny (model prog w) A (.compStart (.ListComp elt [⟨tg, iter, ifs, 0⟩, ⟨tg2, iter2, ifs2, 0⟩] scope pos) 1 it2 acc env) (fun r s₇ => (∃ f, r = .ok f) ∧ ∃ m, m < n ∧ I m s₇) s₆) (fun _ _ => False) s₅) (fun _ _ => False) s₄
            else ∃ m, m < n ∧ I m s₄) (fun _ _ => False) s₃) (fun _ _ => False) s₂) (fun _ _ => False) s₁) (fun _ _ => False) s)
    (n : Nat) (h : I n s) : codeAny (model prog w) A (.compLoop (.ListComp elt [⟨tg, iter, ifs, 0⟩, ⟨tg2, iter2, ifs2, 0⟩] scope pos) 0 it acc env) R s := by
  refine codeAny_loop rfl I (fun n s hI => ?_) n h
  show wpAny _ A ((compTurn (.ListComp elt [⟨tg, iter, ifs, 0⟩, ⟨tg2, iter2, ifs2, 0⟩] scope pos) 0 it acc env).onRaise (fun x => do noteFrame x env; theTreesLotGoes x)) _ _ s
  refine wpAny_noted ?_
  rw [turn_out]
  refine wpAny_bind (wpAny_standAt (wpAny_bind (wpAny_mono (turn n s hI) (fun r s₁ h₁ => ?_) fun _ _ h' => h'.elim)))
  cases r with
  | none => exact wpAny_pure h₁
  | some v =>
    refine wpAny_bind (wpAny_mono h₁ (fun _ s₂ h₂ => wpAny_bind (wpAny_mono h₂ (fun _ s₃ h₃ => wpAny_bind (wpAny_mono h₃ (fun ok s₄ h₄ => ?_) fun _ _ h' => h'.elim)) fun _ _ h' => h'.elim)) fun _ _ h' => h'.elim)
    cases ok with
    | false => exact wpAny_pure ⟨rfl, h₄⟩
    | true =>
      refine wpAny_bind (wpAny_mono h₄ (fun x s₅ h₅ => wpAny_bind (wpAny_standAt (wpAny_bind (wpAny_of_eq (hs2 x) (wpAny_bind (wpAny_holding (wpAny_mono h₅ (fun it2 s₆ h₆ => ?_) fun _ _ h' => h'.elim))))))) fun _ _ h' => h'.elim)
      refine wpAny_bind (wpAny_runOwn (codeAny_mono h₆ fun r s₇ ⟨⟨f, hf⟩, hm⟩ => ?_))
      subst hf
      exact wpAny_pure ⟨rfl, hm⟩
end
section
variable {X : Cx} {N : List Str} {scope : Scope}
/-- the inner turns: they end with Nx -/
def tInner (wi : TI) (acc : Addr) (g : TG) (tt : TT) (te : TE) : L2.St → Hp → (L2.St → Hp → Prop) → Prop := fun σ H Nx => wi σ H fun J H1 =>
  ∃ W : Nat → Nat → L2.St → Hp → Prop, (∃ m, W 0 m σ H1) ∧ ∀ i m σ H, W i m σ H →
    (J.stop i H ∧ Nx σ H) ∨ (J.go i H ∧ ∃ N2 : L2.St → Hp → Prop, (∀ σ' H', N2 σ' H' → ∃ m', m' < m ∧ W (i + 1) m' σ' H') ∧ ∀ x H', J.yld i H x H' → g x σ H' fun σ2 H2 => tt σ2 H2 fun b H3 =>
      if b = true then te σ2 H3 fun v H4 => ∃ xs, H4 acc = some (.lst xs) ∧ xs.length < sizeLine ∧ N2 σ2 (upd H4 acc (.lst (xs ++ [v]))) else N2 σ2 H3)
/-- the inner block within a context Y whose frame is the block's -/
theorem inner_run {Y : Cx} {elt tg iter tg2 iter2 : Expr} {ifs ifs2 : List Expr} {pos : Pos} {wi2 : TI} {g2 : TG} {tt2 : TT} {te : TE} {acc : Addr} (hc : Y.calm = true) (hxe : Y.xe = fun _ _ => False) (hi : PI Y tg2 iter2 wi2) (hg : PG Y tg2 g2) (ht : PTs Y ifs2 tt2) (he : PE Y elt te)
    {pins : List (Addr × Obj)} {s : Shared} {σ : L2.St} {H : Hp} {Nx : L2.St → Hp → Prop} (I : Inv Y pins σ H s) (h : tInner wi2 acc g2 tt2 te σ H Nx) :
    wpAny (model Y.prog Y.w) Y.A (eval iter2 Y.env) (fun x s₅ => wpAny (model Y.prog Y.w) Y.A (pyIter x) (fun it2 s₆ =>
      codeAny (model Y.prog Y.w) Y.A (.compStart (.ListComp elt [⟨tg, iter, ifs, 0⟩, ⟨tg2, iter2, ifs2, 0⟩] scope pos) 1 it2 (.ref acc) Y.env) (fun r s₇ => (∃ f, r = .ok f) ∧ ∃ σ' H', Inv Y pins σ' H' s₇ ∧ Nx σ' H') s₆) (fun _ _ => False) s₅) (fun _ _ => False) s := by
  have hi' := hi pins s σ H _ I h
  have hg' := hg
  have ht' := ht
  have he' := he
  unfold PG at hg'
  unfold PTs at ht'
  unfold PE at he'
  rw [hxe] at hi' hg' ht' he'
  refine thn hi' fun v s1 h1 => thn h1 fun itv s2 h2 => ?_
  obtain ⟨it, fp, tn, J, H2, e, I2, T, st2, f2, W, ⟨m0, w0⟩, turn⟩ := h2
  subst e
  have stat : ∀ {H' : Hp}, (∀ b ∈ fp, H' b = none) → ∀ b ∈ fp, FpOk Y pins H' b := fun hn b hb => ⟨hn b hb, (f2 b hb).2⟩
  have loop : codeAny (model Y.prog Y.w) Y.A (.compLoop (.ListComp elt [⟨tg, iter, ifs, 0⟩, ⟨tg2, iter2, ifs2, 0⟩] scope pos) 1 (.ref it) (.ref acc) Y.env) (fun r s₇ => (∃ f, r = .ok f) ∧ ∃ σ' H', Inv Y pins σ' H' s₇ ∧ Nx σ' H') s2 := by
    refine loopIn (fun n s' => ∃ i σ' H', Inv Y pins σ' H' s' ∧ tn i s'.heap ∧ (∀ b ∈ fp, H' b = none) ∧ W i n σ' H') ?_ m0 ⟨0, σ, H2, I2, st2, fun b hb => (f2 b hb).1, w0⟩
    rintro n s6 ⟨i, σ6, H6, I6, st6, fr6, w6⟩
    rcases turn i n σ6 H6 w6 with ⟨stop, qn⟩ | ⟨go, N2, hN, step⟩
    · refine thn (T.done Y rfl rfl rfl hc i pins s6 σ6 H6 _ I6 (stat fr6) st6 stop) fun r s7 ⟨hr, I7⟩ => ?_
      subst hr
      exact ⟨⟨_, rfl⟩, σ6, H6, I7, qn⟩
    · refine thn (T.item Y rfl rfl rfl hc i pins s6 σ6 H6 _ I6 (stat fr6) st6 go) fun r s7 ⟨u, hr, h7⟩ => ?_
      subst hr
      refine thn h7 fun _ s8 ⟨x, H8, I8, r8, y8, st8, fr8⟩ => ?_
      have I8' := I8.pinned (stat fr8) (T.obj _ _ st8)
      refine thn (hg' _ s8 σ6 H8 x u _ I8' r8 (step x H8 y8)) fun _ s9 ⟨σ9, H9, I9, q9⟩ => ?_
      refine thn (ht' _ s9 σ9 H9 _ I9 q9) fun ok s10 ⟨H10, I10, q10⟩ => ?_
      have again : ∀ {σ7 : L2.St} {H7 : Hp} {s11 : Shared}, Inv Y (pins ++ pinsAt fp s8.heap) σ7 H7 s11 → N2 σ7 H7 → ∃ m, m < n ∧ ∃ i σ' H', Inv Y pins σ' H' s11 ∧ tn i s11.heap ∧ (∀ b ∈ fp, H' b = none) ∧ W i m σ' H' := fun {σ7 H7 s11} I7 n7 => by
        obtain ⟨m', hm, w7⟩ := hN σ7 H7 n7
        refine ⟨m', hm, i + 1, σ7, H7, I7.unpinned, T.keep _ _ _ st8 fun b hb o e => (I7.pin (b, o) (List.mem_append_right _ (List.mem_append_right _ (mem_pinsAt hb e)))).1, fun b hb => ?_, w7⟩
        obtain ⟨o, e, d⟩ := T.obj _ _ st8 b hb
        exact (I7.pin (b, o) (List.mem_append_right _ (List.mem_append_right _ (mem_pinsAt hb e)))).2.1
      cases ok with
      | false =>
        rw [if_neg Bool.false_ne_true] at q10
        exact again I10 q10
      | true =>
        rw [if_pos rfl] at q10
        refine thn (he' _ s10 σ9 H10 _ I10 q10) fun v s11 ⟨y, H11, I11, r11, xs, hx, hz, n11⟩ => ?_
        have ap := mt_append _ s11 σ9 H11 (.ref acc) [y] (.ref acc) [v] (fun _ H' => N2 σ9 H') I11 rfl (.cons r11 .nil) ⟨_, xs, y, rfl, rfl, hx, hz, n11⟩
        rw [hxe] at ap
        exact thn ap fun _ s12 ⟨_, H12, I12, _, n12⟩ => again I12 n12
  exact startIn loop (T.self _ _ _ _ _ st2 loop)

end

/-! ### rules that name the written part, within a block -/
theorem yesN {i : Nat} {v : V} {σ : L2.St} {H : Hp} {Q : L2.St → Bool → Hp → Prop} (h : Q (σ.set i (some v)) true H) : gName i v σ H (fun σ2 H2 => tYes σ2 H2 (Q σ2)) := h
theorem yes {σ : L2.St} {H : Hp} {Q : Bool → Hp → Prop} (h : Q true H) : tYes σ H Q := h
section
variable {X : Cx} {N : List Str} {scope : Scope} {C : Addr} {s₀ : Shared} {H₀ : Hp} {ex : List Addr} {pn : List (Addr × Obj)}
theorem pgC_tup {es : List Expr} {k : Nat} {t : TGs} {n : Nat} {pos : Pos} (hc : X.calm = true) (h : PGs (cxC X N scope C s₀ H₀ ex pn) es t)
    (hn : (assignEach es (cxC X N scope C s₀ H₀ ex pn).env).length = n := by rfl) (hst : (assignEach es (cxC X N scope C s₀ H₀ ex pn).env).findIdx? (·.1) = none := by rfl) : PG (cxC X N scope C s₀ H₀ ex pn) (.Tuple es k pos) (gTup X.K n t) := pg_tup (X := cxC X N scope C s₀ H₀ ex pn) hc h hn hst
theorem ixC_tup : IxR (cxC X N scope C s₀ H₀ ex pn) (rIxT X.K) := ix_tup
end
end InkX

namespace Ink
open PySem L2 InkX
/-- one pair more at the end of a list that is ours alone -/
theorem grown {H0 H2 : Hp} {q t : Addr} {bs : List Addr} {row : Row} {st en : Int} (hq0 : H0 q = none) (s : Same H0 H2) (hq2 : H2 q = some (.lst (bs.map V.ref))) (hb : PairsAt H2 bs row) (ht : H2 t = none) :
    (upd (upd H2 t (.tup [.int st, .int en])) q (.lst (bs.map V.ref ++ [.ref t]))) q = some (.lst ((bs ++ [t]).map V.ref)) ∧
    PairsAt (upd (upd H2 t (.tup [.int st, .int en])) q (.lst (bs.map V.ref ++ [.ref t]))) (bs ++ [t]) (row ++ [(st, en)]) ∧ Same H0 (upd (upd H2 t (.tup [.int st, .int en])) q (.lst (bs.map V.ref ++ [.ref t]))) := by
  have ntq : q ≠ t := ne_of_none hq2 ht
  have s1 : Same H2 (upd H2 t (.tup [.int st, .int en])) := same_new ht _
  refine ⟨by rw [upd_same, List.map_append]; rfl, ?_, keep_of hq0 (s.trans s1) (keep_upd q _ _)⟩
  refine PairsAt.snoc ((hb.same s1).keep (s1 _ _ hq2) (keep_upd q _ _)) ?_
  show upd _ q _ t = _
  rw [upd_ne ntq.symm, upd_same]
/-- the last pair changed -/
theorem turned {H0 H2 : Hp} {q t a : Addr} {bs : List Addr} {row : Row} {st en : Int} (hq0 : H0 q = none) (s : Same H0 H2) (hq2 : H2 q = some (.lst (bs.map V.ref ++ [.ref a]))) (hb : PairsAt H2 bs row) (ht : H2 t = none) :
    (upd (upd H2 t (.tup [.int st, .int en])) q (.lst ((bs.map V.ref ++ [V.ref a]).set bs.length (V.ref t)))) q = some (.lst ((bs ++ [t]).map V.ref)) ∧
    PairsAt (upd (upd H2 t (.tup [.int st, .int en])) q (.lst ((bs.map V.ref ++ [V.ref a]).set bs.length (V.ref t)))) (bs ++ [t]) (row ++ [(st, en)]) ∧ Same H0 (upd (upd H2 t (.tup [.int st, .int en])) q (.lst ((bs.map V.ref ++ [V.ref a]).set bs.length (V.ref t)))) := by
  have ntq : q ≠ t := ne_of_none hq2 ht
  have s1 : Same H2 (upd H2 t (.tup [.int st, .int en])) := same_new ht _
  have e : (bs.map V.ref ++ [V.ref a]).set bs.length (V.ref t) = (bs ++ [t]).map V.ref := by
    have z := set_last (bs.map V.ref) (V.ref a) (V.ref t)
    rw [List.length_map] at z
    rw [z, List.map_append]; rfl
  rw [e]
  refine ⟨upd_same, ?_, keep_of hq0 (s.trans s1) (keep_upd q _ _)⟩
  refine PairsAt.snoc ((hb.same s1).keep (s1 _ _ hq2) (keep_upd q _ _)) ?_
  show upd _ q _ t = _
  rw [upd_ne ntq.symm, upd_same]
theorem ixLast (bs : List Addr) (a : Addr) : ixN (bs.map V.ref ++ [V.ref a]).length (-1) = some bs.length := by
  rw [List.length_append, List.length_map, List.length_singleton]
  exact ixN_neg1 _
theorem take_fold {f : Row → Int × Int → Row} {row : Row} {i : Nat} {p : Int × Int} (h : row[i]? = some p) : (row.take (i + 1)).foldl f [] = f ((row.take i).foldl f []) p := foldl_take_succ f row [] i p h
theorem plain_le (row : Row) : ∀ t : Row, (row.foldl plainStep t).length ≤ t.length + row.length := by
  induction row with
  | nil => intro t; simp
  | cons p row ih =>
    intro t
    have h1 := ih (plainStep t p)
    have h2 : (plainStep t p).length ≤ t.length + 1 := by
      unfold plainStep
      split
      · omega
      · exact grow_length _ _ _
    rw [List.foldl_cons, List.length_cons]
    omega
end Ink

namespace Ink
open PySem PySem.Spec PyProof.Rows L2 InkX
/-! ### rows compared, whatever they tell -/
def spSize : Sp := fun vs H Q _ => ∃ (r : Addr) (row : Row), vs = [.ref r] ∧ RowAt H r row ∧ row.length ≤ 1000000 ∧ ∀ H', Same H H' → Q (.int (tot row)) H'
def Ends (ns : List Int) (row : Row) : Prop := 0 < ns.length → ∃ (r0 : Row) (p0 : Int × Int), row = r0 ++ [p0] ∧ p0.1 < p0.2
end Ink

namespace InkE
open PySem PySem.Spec PyProof.Rows PySem.W L2

/-! ### an exception in the air -/
section
variable {P : Program} {w : World} {H H' : Hp} {h h0 g : Heap} {a T : Addr} {C a0 : Value} {o : HO}
theorem objHere (x : ObjOk P w H h a o) : ∃ u, h.get? a = some u := by
  cases o with
  | lst xs => obtain ⟨_, _, _, _, e⟩ := x; exact ⟨_, e⟩
  | tup xs => obtain ⟨_, _, _, _, e, _⟩ := x; exact ⟨_, e⟩
  | dK kvs => obtain ⟨_, _, _, _, _, _, _, e, _⟩ := x; exact ⟨_, e⟩
  | dT kvs => obtain ⟨_, _, _, _, _, _, _, e, _⟩ := x; exact ⟨_, e⟩
  | set S n => obtain ⟨_, _, _, _, e, _⟩ := x; exact ⟨_, e⟩
  | ins C dx fs => obtain ⟨_, _, _, e, _⟩ := x; exact ⟨_, e⟩
  | own y => exact x
  | xd fs => obtain ⟨_, ⟨_, _, _, e, _⟩, _⟩ := x; exact ⟨_, e⟩
  | rng lo hi => obtain ⟨_, _, _, e⟩ := x; exact ⟨_, e⟩
  | frz ob u => exact ⟨_, x.1⟩
  | tbl ps => exact ⟨_, x⟩
  | met f y => exact ⟨_, x⟩
  | ext φ => exact x.2.1
theorem hokNone (x : HOk P w H h) {b : Addr} (e : h.get? b = none) : H b = none := by
  cases q : H b with
  | none => rfl
  | some u =>
    obtain ⟨z, hz⟩ := objHere (x b u q)
    rw [e] at hz
    cases hz
theorem hide_none {l : List Addr} {b : Addr} (e : (hideAll h l).get? b = none) : b ∈ l ∨ h.get? b = none := by
  by_cases hb : b ∈ l
  · exact .inl hb
  · right
    cases q : h.get? b with
    | none => rfl
    | some u => rw [hideAll_get l q hb] at e; cases e

/-- the object at a of class C (first field a0), its record at T; neither lay in h0, neither is tracked -/
def Fly (h0 : Heap) (H : Hp) (h : Heap) (a T : Addr) (C a0 : Value) : Prop :=
  (∃ oe vs oT ts, h.get? a = some oe ∧ (oe.cls = C ∧ vs[0]? = some a0) ∧ oe.data = .fields vs ∧ vs[1]? = some (.ref T) ∧ T ≠ a ∧ h.get? T = some oT ∧ oT.data = .fields ts ∧ ts[3]? = some .none) ∧ (H a = none ∧ H T = none) ∧ h0.get? a = none ∧ h0.get? T = none

theorem fly_land {fs hd : List Addr} {l' : List Env} (u : Un fs [] H H' h0 h) (hok : HOk P w H' h) (h1 : ∀ b o, h0.get? b = some o → b ∉ fs → b ∉ hd) (h2 : ∀ b ∈ hd, H' b = none)
    (h3 : ∀ b ∈ fs, ∃ o, h.get? b = some o ∧ ∀ vs, o.data ≠ .fields vs) (h4 : ∀ b ∈ hd, h0.get? b = none ∨ ∃ o, h.get? b = some o ∧ ∀ vs, o.data ≠ .fields vs)
    (ha : h0.get? a = none) (ha' : H' a = none) (f : Heap.FlyingW (hideAll h hd) l' a C a0 g) (k : h.UpToSlots g) :
    Un fs [] H H' h0 g ∧ HOk P w H' g ∧ ∃ T, Fly h0 H' g a T C a0 := by
  have nil : ∀ b : Addr, b ∉ ([] : List Addr) := fun b => List.not_mem_nil
  have kp : ∀ b o, h.get? b = some o → b ∉ hd → g.get? b = some o := fun b o e n => f.1 b o (hideAll_get hd e n)
  refine ⟨⟨fun b o e n hb _ => kp b o (u.keep b o e n hb (nil b)) (h1 b o e hb), fun b o e n hb _ => ?_, fun b o e n _ => u.free b o e n (nil b), fun b o e _ => ?_, u.tups, u.frzs, u.tbls⟩, fun b o e => ?_, ?_⟩
  · obtain ⟨sl, e1⟩ := u.slot b o e n hb (nil b)
    obtain ⟨o', e2, nf⟩ := h3 b hb
    obtain ⟨sl', e3⟩ := k b o' e2 nf
    rw [e1] at e2
    cases e2
    exact ⟨sl', e3⟩
  · by_cases hb : b ∈ fs
    · obtain ⟨o', e2, nf⟩ := h3 b hb
      obtain ⟨sl', e3⟩ := k b o' e2 nf
      exact ⟨_, e3⟩
    · obtain ⟨o', e1⟩ := u.there b o e (nil b)
      exact ⟨o', kp b o' e1 (h1 b o e hb)⟩
  · refine (hok b o e).stay (fun c v hc q => kp c v q fun hm => ?_) (fun _ q => q) fun _ _ q => q
    have hn := h2 c hm
    rcases hc with rfl | hc
    · rw [e] at hn; cases hn
    · rw [hc] at hn; cases hn
  · obtain ⟨_, _, _, oe, vs, T, oT, ts, e1, e2, e3, e4, e5, e6, e7, e8, e9⟩ := f
    refine ⟨T, ⟨oe, vs, oT, ts, e1, e2, e3, e4, e6, e7, e8, e9⟩, ⟨ha', ?_⟩, ha, ?_⟩
    · rcases hide_none e5 with hm | hn
      · exact h2 T hm
      · exact hokNone hok hn
    · rcases hide_none e5 with hm | hn
      · rcases h4 T hm with z | ⟨o, eo, nf⟩
        · exact z
        · obtain ⟨sl, eg⟩ := k T o eo nf
          rw [e7] at eg
          cases eg
          exact absurd e8 (nf ts)
      · cases q : h0.get? T with
        | none => rfl
        | some o =>
          obtain ⟨o', eo⟩ := u.there T o q (nil T)
          rw [hn] at eo
          cases eo
theorem fly_ground {base : Heap} {l : List Env} (F : Fly h0 H h a T C a0) (S : h.FunFrames base l) : Heap.FlyingW (hideAll h (a :: T :: frs l)) l a C a0 h := by
  obtain ⟨⟨oe, vs, oT, ts, e1, e2, e3, e4, e5, e6, e7, e8⟩, _, _⟩ := F
  refine ⟨fun b o e => of_hideAll _ e, hideAll_none _ (List.mem_cons_self), funFrames_hide S fun env he b hb => ?_, oe, vs, T, oT, ts, e1, e2, e3, e4, ?_, e5, e6, e7, e8⟩
  · exact List.mem_cons_of_mem _ (List.mem_cons_of_mem _ (List.mem_filterMap.mpr ⟨env, he, hb⟩))
  · exact hideAll_none _ (List.mem_cons_of_mem _ List.mem_cons_self)
end

/-- behind a call that an exception left -/
def CX1 (P : Program) (w : World) : CXT := fun outer H s E e s' => ∃ a T C a0 H', e = .ref a ∧ (s'.os = s.os ∧ AllBare s'.gens) ∧ Un (frs outer) [] H H' s.heap s'.heap ∧ HOk P w H' s'.heap ∧ Fly s.heap H' s'.heap a T C a0 ∧ E C none H'

section
variable {X : Cx} {pins : List (Addr × Obj)} {σ : L2.St} {H H1 : Hp} {s s' : Shared} {a T : Addr} {C a0 : Value}
/-- what is hidden behind the frames and the two records -/
theorem hid_frame (I : Inv X pins σ H s) : ∀ b ∈ frs X.stack, ∃ o, s.heap.get? b = some o ∧ ∀ vs, o.data ≠ .fields vs := fun b hb => (I.stack.mem hb).2
/-- a call's exception, at the caller: the state goes on as h says -/
theorem fly_here {l' : List Env} {g : Heap} (I : Inv X pins σ H s) (os : s'.os = s.os) (bare : AllBare s'.gens) (u : Un (frs X.stack) [] H H1 s.heap s'.heap) (hok : HOk X.prog X.w H1 s'.heap) (F : Fly s.heap H1 s'.heap a T C a0)
    (f : Heap.FlyingW (hideAll s'.heap (a :: T :: frs X.stack)) l' a C a0 g) (k : s'.heap.UpToSlots g) : Inv X pins σ H1 { s' with heap := g } := by
  have I1 : Inv X pins σ H1 s' := I.call' (ch := []) os u hok bare (fun b z => absurd z (by simp))
  obtain ⟨_, ⟨na, nT⟩, sa, sT⟩ := id F
  have p1 : ∀ b o, s.heap.get? b = some o → b ∉ frs X.stack → b ∉ a :: T :: frs X.stack := fun b o e hb hm => by
    rcases List.mem_cons.mp hm with rfl | hm
    · rw [sa] at e; cases e
    rcases List.mem_cons.mp hm with rfl | hm
    · rw [sT] at e; cases e
    · exact hb hm
  have p2 : ∀ b ∈ a :: T :: frs X.stack, H1 b = none := fun b hm => by
    rcases List.mem_cons.mp hm with rfl | hm
    · exact na
    rcases List.mem_cons.mp hm with rfl | hm
    · exact nT
    · exact I1.stkFree b hm
  have p4 : ∀ b ∈ a :: T :: frs X.stack, s.heap.get? b = none ∨ ∃ o, s'.heap.get? b = some o ∧ ∀ vs, o.data ≠ .fields vs := fun b hm => by
    rcases List.mem_cons.mp hm with rfl | hm
    · exact .inl sa
    rcases List.mem_cons.mp hm with rfl | hm
    · exact .inl sT
    · exact .inr (hid_frame I1 b hm)
  obtain ⟨u', hok', _⟩ := fly_land (hd := a :: T :: frs X.stack) u hok p1 p2 (hid_frame I1) p4 sa na f k
  exact I.call' (s' := { s' with heap := g }) (ch := []) os u' hok' bare (fun b z => absurd z (by simp))
end

/-! ### through a def's frame -/
section
variable {P : Program} {w : World} {K : PySem.W.Frag} {mg : Str → Option Value} {base : Heap} {N : List Str} {qual : Str} {scope : Scope} {f : Addr} {cd : Value} {A : Around} {outer : List Env} {s : Shared} {H : Hp} {E : XK}
end

/-! ### raise -/
section
variable {X : Cx}
end

/-! ### a def that may raise, called -/
section
variable {X : Cx} {x : Str} {st : Stmt} {ps : List Str} {f : Addr} {fd : FuncData} {j k : Nat} {sp : Sp} {e : Expr} {es : List Expr} {t : TA} {p pos : Pos} {E : XK}
end

/-! ### try: one statement with one call, one clause -/
abbrev cxH (X : Cx) (a : Addr) : Cx := { X with A := X.A.mark (some (.ref a)), calm := false, xe := fun _ _ => False }
section
variable {X : Cx} {pins : List (Addr × Obj)} {σ : L2.St} {H : Hp} {s : Shared} {a : Addr}
theorem okH (ok : X.Ok) (a : Addr) : (cxH X a).Ok :=
  { mod := ok.mod, kind := ok.kind, glob := ok.glob, blt := ok.blt, above := ok.above, inj := ok.inj, has := ok.has, cab := ok.cab, hd := fun z => (Bool.false_ne_true z).elim, frames := ok.frames, stk := ok.stk, exf := ok.exf, bs := ok.bs, bsz := ok.bsz, noex := ok.noex, exfs := ok.exfs, funs := ok.funs, frf := ok.frf }
theorem inH (I : Inv X pins σ H s) (a : Addr) : Inv (cxH X a) pins σ H s := { ok := okH I.ok a, os := I.os, bare := I.bare, base := I.base, loc := I.loc, cell := I.cell, free := I.free, freeC := I.freeC, pin := I.pin, hok := I.hok, len := I.len }
theorem outH (ok : X.Ok) (I : Inv (cxH X a) pins σ H s) : Inv X pins σ H s := { ok := ok, os := I.os, bare := I.bare, base := I.base, loc := I.loc, cell := I.cell, free := I.free, freeC := I.freeC, pin := I.pin, hok := I.hok, len := I.len }
theorem spH (ok : X.Ok) {D : Ends} {f : Flow} {s' : Shared} (h : SP (cxH X a) pins D f s') : SP X pins D f s' := by
  cases f with
  | next => obtain ⟨σ', H', I, q⟩ := h; exact ⟨σ', H', outH ok I, q⟩
  | brk => obtain ⟨σ', H', I, q⟩ := h; exact ⟨σ', H', outH ok I, q⟩
  | cont => obtain ⟨σ', H', I, q⟩ := h; exact ⟨σ', H', outH ok I, q⟩
  | ret u => obtain ⟨v, σ', H', I, r, q⟩ := h; exact ⟨v, σ', H', outH ok I, r, q⟩

/-- the clause takes it -/
theorem clause {y : Str} {C Cy : Addr} {b0 : Stmt} {suite : List Stmt} {tb : TS} {np hpos : Pos} {D : Ends} {e : Value} {s' : Shared} (hst : X.stack = X.env :: X.outer) (hf : X.env.frame = some X.env.locals) (hmy : X.mg y = some (.ref Cy)) (hx : exmOne X.K (.ref C) (.ref Cy) = some true)
    (hb : ∀ a, PSs (cxH X a) (b0 :: suite) tb) (hg : Gl X y) (hdb : (y == ("__debug__" : Str)) = false) (I : Inv X pins σ H s) (h : CX1 X.prog X.w X.stack H s (fun c _ H2 => c = .ref C ∧ tb D σ H2) e s') :
    wpAny (model X.prog X.w) X.A (noteFrame e X.env) (fun _ s₂ => wpAny (model X.prog X.w) X.A (setFlight e none) (fun _ s₃ => wpAny (model X.prog X.w) X.A (handleBy e X.env [.ExceptHandler (some (.Name y np)) none (b0 :: suite) hpos]) (SP X pins D) X.xe s₃) X.xe s₂) X.xe s' := by
  obtain ⟨a, T, c, a0, H2, rfl, ⟨os, bare⟩, u, hok, F, rfl, q⟩ := h
  have I1 : Inv X pins σ H2 s' := I.call' (ch := []) os u hok bare (fun b z => absurd z (by simp))
  have G0 := fly_ground F I1.stack
  have G0' : Heap.FlyingW (hideAll s'.heap (a :: T :: frs X.stack)) (X.env :: X.outer) a (.ref C) a0 s'.heap := by
    have z := G0
    rw [hst] at z
    rw [hst]
    exact z
  refine wpAny_looks_onW (I.ok.frames.trans (by rw [hst])) hf G0' fun h4 held k4 => wpAny_landsW held fun h5 fl5 k5 => ?_
  have I5 : Inv X pins σ H2 { s' with heap := h5 } := fly_here I os bare u hok F fl5 (k4.trans k5)
  obtain ⟨ob, hob, hcl⟩ := fl5.there
  have LT : Looks (model X.prog X.w) h5 (typeOf (.ref a)) (.ref C) := hcl ▸ (Looks.ld hob).andThen .now
  refine wpAny_handleBy_cons (codeAny_handlers_test (ld_glob (X := cxH X a) (inH I5 a) hg hmy ?_ hdb)) (by intro z; cases z)
  refine (exm_one (M := model X.prog X.w) I5.kIn LT hx).here ?_
  refine codeAny_handlers_suite (lands_againW fl5 fun h6 fl6 k6 => ?_)
  have I6 : Inv X pins σ H2 { s' with heap := h6 } := fly_here I os bare u hok F fl6 ((k4.trans k5).trans k6)
  exact wpAny_mono (hb a pins _ σ H2 D (inH I6 a) q) (fun fl s2 z => spH I6.ok z) fun _ _ z => False.elim z

variable {x y : Str} {st : Stmt} {ps : List Str} {f : Addr} {fd : FuncData} {j k : Nat} {sp : Sp} {e : Expr} {es : List Expr} {t : TA} {p pos pos1 pos2 pos3 np hpos : Pos} {C Cy : Addr} {b0 : Stmt} {suite : List Stmt} {tb : TS}
end
end InkE

namespace InkE
open PySem PySem.Spec PyProof.Rows L2
/-! ### a text with fields: some text -/
section
variable {X : Cx}
/-! ### a op b op c op d -/
end
end InkE
namespace Ink
open PySem L2 InkX InkE
theorem free_same {H H' : Hp} {a : Addr} (s : Same H H') (h : H' a = none) : H a = none := by
  cases q : H a with
  | none => rfl
  | some o => rw [s a o q] at h; cases h
/-! ### parts of a row -/
/-- one stretch's part -/
def pc1 (a b h : Int) (p : Int × Int) : Row := if max (a - h) 0 < min (b - h) (p.2 - p.1) then [(p.1 + max (a - h) 0, p.1 + min (b - h) (p.2 - p.1))] else []
def pcs (a b : Int) : Int → Row → Row
  | _, [] => []
  | h, p :: r => pc1 a b h p ++ pcs a b (h + (p.2 - p.1)) r
/-- the classes of refusals -/
structure ExcAt (K : PySem.W.Frag) (mg : Str → Option Value) (C : Addr) : Prop where
  m : mg "OutOfPlace" = some (.ref C)
  x : PySem.W.excIn K C [.type "ValueError", .type "Exception", .type "BaseException", .type "object"] "ValueError.__new__" = true
  h : PySem.W.exmOne K (.ref C) (.ref C) = some true
structure ExcAt2 (K : PySem.W.Frag) (mg : Str → Option Value) (C D : Addr) : Prop where
  m : mg "InkError" = some (.ref D)
  h : PySem.W.exmOne K (.ref C) (.ref D) = some true
end Ink

namespace Ink
open PySem L2 InkX InkE
end Ink

namespace Ink
open PySem L2 InkX InkE
theorem spell_plain (r : Row) (ok : ∀ p ∈ r, p.1 ≤ p.2) : spell (plainF r) = spell r := by rw [plain_eq r ok, spell_rowOf]
theorem plain_ok (r : Row) (ok : ∀ p ∈ r, p.1 ≤ p.2) : ∀ p ∈ plainF r, p.1 ≤ p.2 := by rw [plain_eq r ok]; exact rowOf_ok _
theorem plainF_le (r : Row) : (plainF r).length ≤ r.length := by
  have z := plain_le r []
  simpa [plainF] using z
end Ink

namespace Ink
open PySem PySem.Spec PyProof.Rows L2 InkX InkE
/-! ### pairs of lists of the very same values compared -/
theorem eqAt_lists {X : Cx} {pins : List (Addr × Obj)} {σ : L2.St} {H : Hp} {s : Shared} {A : Around} {a b : Addr} {xs : List V} (hu : A.units < cLine) (I : L2.Inv X pins σ H s) (h1 : SqL X.K H a xs) (h2 : SqL X.K H b xs) (hx : xs.all idV = true) : SeqAt.EqAt A s (.ref a) (.ref b) true := by
  by_cases hab : a = b
  · subst hab
    exact SeqAt.EqAt.same _
  · obtain ⟨us, vs, p1, p2, hz, he⟩ := sameL_at (A := A.in1) I h1 h2 hx
    have key := SeqAt.RcAt.lists (A := A) (s := s) p1 p2 hz hu he
    have : (List.range us.toArray.size).all (fun _ => true) = true := by simp
    rw [this] at key
    exact SeqAt.EqAt.of_refs hab key
def rSameT2 (K : PySem.W.Frag) : R2 := fun x y H Q => ∃ a b a1 a2 b1 b2 xs ys, x = .ref a ∧ y = .ref b ∧ H a = some (.tup [.ref a1, .ref a2]) ∧ H b = some (.tup [.ref b1, .ref b2]) ∧ SqL K H a1 xs ∧ SqL K H b1 xs ∧ SqL K H a2 ys ∧ SqL K H b2 ys ∧ xs.all idV = true ∧ ys.all idV = true ∧ Q (.bl true) H
theorem op_eqT2 {X : Cx} (hu : X.A.units + 1 < cLine) : OpR X (compareOp .Eq) (rSameT2 X.K) := by
  intro pins s σ H x y v u Q I rx ry h
  obtain ⟨a, b, a1, a2, b1, b2, xs, ys, rfl, rfl, ha, hb, h1, h2, h3, h4, hx, hy, q⟩ := h
  cases (show v = Value.ref a from rx)
  cases (show u = Value.ref b from ry)
  obtain ⟨us, r1, p1, _⟩ := I.tuple (SqT.of (K := X.K) ha)
  obtain ⟨vs, r2, p2, _⟩ := I.tuple (SqT.of (K := X.K) hb)
  obtain ⟨u1, u2, rfl, e1, e2⟩ := r1.two
  obtain ⟨v1, v2, rfl, e3, e4⟩ := r2.two
  cases (show u1 = Value.ref a1 from e1)
  cases (show u2 = Value.ref a2 from e2)
  cases (show v1 = Value.ref b1 from e3)
  cases (show v2 = Value.ref b2 from e4)
  refine SeqAt.eq_tupleAt (e := fun _ => true) p1 p2 (by omega) (fun j g1 g2 => ?_) ?_
  · match j, g1 with
    | 0, _ => exact eqAt_lists (show X.A.in1.units < cLine from hu) I h1 h2 hx
    | 1, _ => exact eqAt_lists (show X.A.in1.units < cLine from hu) I h3 h4 hy
    | k + 2, g1 => exact absurd g1 (by simp)
  · exact ⟨.bl true, H, I, rfl, q⟩
/-! ### rows joined, put in, cut out -/
theorem PairsAt.append {H : Hp} : ∀ {as bs : List Addr} {r q : Row}, PairsAt H as r → PairsAt H bs q → PairsAt H (as ++ bs) (r ++ q)
  | _, _, _, _, .nil, t => t
  | _, _, _, _, .cons e r, t => .cons e (PairsAt.append r t)
def putF (p : Int) (row other : Row) : Row := pcs 0 p 0 row ++ other ++ pcs p (tot row) 0 row
end Ink

namespace L2
open PySem PySem.Spec PyProof.Rows

/-! ### lists of pairs as tables -/
section
variable {κ : Type} [DecidableEq κ]
def valV (kvs : List (κ × V)) (k : κ) : Option V := (kvs.find? fun kv => decide (kv.1 = k)).map (·.2)
/-- in its place, or at the end -/
def putK (kvs : List (κ × V)) (k : κ) (v : V) : List (κ × V) :=
  if (kvs.any fun kv => decide (kv.1 = k)) = true then kvs.map (fun kv => if kv.1 = k then (kv.1, v) else kv) else kvs ++ [(k, v)]
def dropK (kvs : List (κ × V)) (k : κ) : List (κ × V) := kvs.filter fun kv => decide (kv.1 ≠ k)

theorem valV_pos {p : κ × V} {r : List (κ × V)} {k : κ} (e : p.1 = k) : valV (p :: r) k = some p.2 := by simp [valV, List.find?_cons, e]
theorem valV_neg {p : κ × V} {r : List (κ × V)} {k : κ} (e : ¬ p.1 = k) : valV (p :: r) k = valV r k := by simp [valV, List.find?_cons, e]
theorem valV_any (k : κ) : ∀ kvs : List (κ × V), (kvs.any fun kv => decide (kv.1 = k)) = (valV kvs k).isSome
  | [] => rfl
  | p :: r => by
    rw [List.any_cons]
    by_cases e : p.1 = k
    · simp only [valV_pos e, decide_eq_true e, Bool.true_or, Option.isSome_some]
    · rw [valV_neg e, decide_eq_false e, Bool.false_or]; exact valV_any k r
theorem length_putK (kvs : List (κ × V)) (k : κ) (v : V) : (putK kvs k v).length ≤ kvs.length + 1 := by
  unfold putK
  split
  · rw [List.length_map]; omega
  · rw [List.length_append, List.length_cons, List.length_nil]; omega
theorem putK_new {kvs : List (κ × V)} {k : κ} (v : V) (h : valV kvs k = none) : putK kvs k v = kvs ++ [(k, v)] := by
  unfold putK
  rw [valV_any, h]
  exact if_neg (by decide)

theorem RelO.isSome_eq {o : Option V} {u : Option Value} (r : RelO o u) : o.isSome = u.isSome := by
  cases o with
  | none => cases u with
    | none => rfl
    | some _ => exact (show False from r).elim
  | some _ => cases u with
    | none => exact (show False from r).elim
    | some _ => rfl
theorem RelO.getD {o : Option V} {u : Option Value} {d : V} {d' : Value} (r : RelO o u) (rd : RelV d d') : RelV (o.getD d) (u.getD d') := by
  cases o with
  | none => cases u with
    | none => exact rd
    | some _ => exact (show False from r).elim
  | some _ => cases u with
    | none => exact (show False from r).elim
    | some _ => exact r

/-- raw tables of the same keys -/
theorem KV.val {kvs : List (κ × V)} {vs : List (κ × Value)} (r : KV kvs vs) (k : κ) : RelO (valV kvs k) (valueAt vs k) := by
  unfold KV at r
  induction r with
  | nil => exact True.intro
  | @cons p q ps qs h t ih =>
    obtain ⟨h1, h2⟩ := h
    by_cases e : p.1 = k
    · have e' : q.1 = k := h1.symm.trans e
      have b : valueAt (q :: qs) k = some q.2 := by simp [valueAt, List.find?_cons, e']
      rw [valV_pos e, b]; exact h2
    · have e' : ¬ q.1 = k := fun z => e (h1.trans z)
      have b : valueAt (q :: qs) k = valueAt qs k := by simp [valueAt, List.find?_cons, e']
      rw [valV_neg e, b]; exact ih
theorem KV.any {kvs : List (κ × V)} {vs : List (κ × Value)} (r : KV kvs vs) (k : κ) : (kvs.any fun kv => decide (kv.1 = k)) = vs.any fun kv => decide (kv.1 = k) := by
  unfold KV at r
  induction r with
  | nil => rfl
  | cons h t ih => rw [List.any_cons, List.any_cons, ih, h.1]
theorem KV.repl {kvs : List (κ × V)} {vs : List (κ × Value)} (r : KV kvs vs) (k : κ) {y : V} {u : Value} (ry : RelV y u) :
    KV (kvs.map fun kv => if kv.1 = k then (kv.1, y) else kv) (vs.map fun kv => if kv.1 = k then (kv.1, u) else kv) := by
  unfold KV at r ⊢
  induction r with
  | nil => exact .nil
  | @cons p q ps qs h t ih =>
    rw [List.map_cons, List.map_cons]
    refine .cons ?_ ih
    obtain ⟨h1, h2⟩ := h
    by_cases e : p.1 = k
    · rw [if_pos e, if_pos (h1.symm.trans e)]; exact ⟨h1, ry⟩
    · rw [if_neg e, if_neg (fun z => e (h1.trans z))]; exact ⟨h1, h2⟩
theorem KV.put {kvs : List (κ × V)} {vs : List (κ × Value)} (r : KV kvs vs) (k : κ) {y : V} {u : Value} (ry : RelV y u) : KV (putK kvs k y) (stored vs k u) := by
  unfold putK stored
  rw [r.any k]
  by_cases e : (vs.any fun kv => decide (kv.1 = k)) = true
  · rw [if_pos e, if_pos e]; exact r.repl k ry
  · rw [if_neg e, if_neg e]; exact Paired.snoc r ⟨rfl, ry⟩
theorem KV.drop {kvs : List (κ × V)} {vs : List (κ × Value)} (r : KV kvs vs) (k : κ) : KV (dropK kvs k) (without vs k) := by
  unfold KV at r ⊢
  unfold dropK without
  induction r with
  | nil => exact .nil
  | @cons p q ps qs h t ih =>
    obtain ⟨h1, h2⟩ := h
    rw [List.filter_cons, List.filter_cons]
    by_cases e : p.1 = k
    · have a : ¬ decide (p.1 ≠ k) = true := by simp [e]
      have b : ¬ decide (q.1 ≠ k) = true := by simp [h1.symm.trans e]
      rw [if_neg a, if_neg b]; exact ih
    · have e' : ¬ q.1 = k := fun z => e (h1.trans z)
      have a : decide (p.1 ≠ k) = true := by simp [e]
      have b : decide (q.1 ≠ k) = true := by simp [e']
      rw [if_pos a, if_pos b]; exact .cons ⟨h1, h2⟩ ih
theorem KV.keys {kvs : List (κ × V)} {vs : List (κ × Value)} (r : KV kvs vs) : kvs.map (·.1) = vs.map (·.1) := by
  unfold KV at r
  induction r with
  | nil => rfl
  | cons h t ih => rw [List.map_cons, List.map_cons, ih, h.1]
theorem KV.length {kvs : List (κ × V)} {vs : List (κ × Value)} (r : KV kvs vs) : kvs.length = vs.length := Paired.length r
end


/-! ### a tracked dict, its keys ints and texts or tuples of these -/
theorem kV_is {P : Program} {w : World} {k : Key} {u : Value} (r : RelV (kV k) u) : (mixKind P w).is k u = true := by
  cases k with
  | inl i => obtain ⟨t, e⟩ := (show ∃ t, u = Value.int i t from r); subst e; exact mixKind_int P w i t
  | inr x => obtain ⟨t, e⟩ := (show ∃ t, u = Value.str x t from r); subst e; exact mixKind_str P w x t
theorem items_are {P : Program} {w : World} : ∀ {ks : List Key} {us : List Value}, Vals (ks.map kV) us → ItemsAre (mixKind P w) ks us
  | [], _, r => by rw [List.map_nil] at r; cases r; exact .nil
  | k :: ks, _, r => by
    rw [List.map_cons] at r
    cases r with
    | cons h t => exact .cons (kV_is h) (items_are t)

/-- raw entries of a dict with tuple keys -/
abbrev KT (H : Hp) : List (List Key × V) → List (List Key × Addr × Value) → Prop := Paired fun p q => p.1 = q.1 ∧ H q.2.1 = some (.tup (p.1.map kV)) ∧ RelV p.2 q.2.2
theorem KT.val {H : Hp} {kvs : List (List Key × V)} {xs : List (List Key × Addr × Value)} (r : KT H kvs xs) (k : List Key) : RelO (valV kvs k) ((atKey xs k).map (·.2)) := by
  induction r with
  | nil => exact True.intro
  | @cons p q ps qs h t ih =>
    obtain ⟨h1, _, h2⟩ := h
    by_cases e : p.1 = k
    · have e' : q.1 = k := h1.symm.trans e
      have b : atKey (q :: qs) k = some q.2 := by simp [atKey, List.find?_cons, e']
      rw [valV_pos e, b]; exact h2
    · have e' : ¬ q.1 = k := fun z => e (h1.trans z)
      have b : atKey (q :: qs) k = atKey qs k := by simp [atKey, List.find?_cons, e']
      rw [valV_neg e, b]; exact ih
theorem KT.repl {H : Hp} {kvs : List (List Key × V)} {xs : List (List Key × Addr × Value)} (r : KT H kvs xs) (k : List Key) {y : V} {u : Value} (ry : RelV y u) :
    KT H (kvs.map fun kv => if kv.1 = k then (kv.1, y) else kv) (xs.map (putAt k u)) := by
  induction r with
  | nil => exact .nil
  | @cons p q ps qs h t ih =>
    rw [List.map_cons, List.map_cons]
    refine .cons ?_ ih
    obtain ⟨h1, h2, h3⟩ := h
    unfold putAt
    by_cases e : p.1 = k
    · rw [if_pos e, if_pos (h1.symm.trans e)]; exact ⟨h1, h2, ry⟩
    · rw [if_neg e, if_neg (fun z => e (h1.trans z))]; exact ⟨h1, h2, h3⟩
theorem KT.put {H : Hp} {kvs : List (List Key × V)} {xs : List (List Key × Addr × Value)} (r : KT H kvs xs) (k : List Key) {b : Addr} {y : V} {u : Value} (hb : H b = some (.tup (k.map kV))) (ry : RelV y u) :
    KT H (putK kvs k y) (storedH xs k b u) := by
  have e : (kvs.any fun kv => decide (kv.1 = k)) = (atKey xs k).isSome := by
    rw [valV_any, (r.val k).isSome_eq, Option.isSome_map]
  unfold putK storedH
  rw [e]
  by_cases q : (atKey xs k).isSome = true
  · rw [if_pos q, if_pos q]; exact r.repl k ry
  · rw [if_neg q, if_neg q]; exact Paired.snoc r ⟨rfl, hb, ry⟩
theorem KT.keeps {H H' : Hp} {kvs : List (List Key × V)} {xs : List (List Key × Addr × Value)} (r : KT H kvs xs) (ht : ∀ b ys, H b = some (.tup ys) → H' b = some (.tup ys)) : KT H' kvs xs :=
  Paired.mapP r fun _ _ z => ⟨z.1, ht _ _ z.2.1, z.2.2⟩

section
variable {P : Program} {w : World} {H : Hp} {h : Heap} {a : Addr}
theorem rd_of {u : HO} (ok : HOk P w H h) (e : Rd H a u) : ObjOk P w H h a u := e.ok ok
theorem dk_rd {kvs : List (Key × V)} (ok : HOk P w H h) (e : Rd H a (.dK kvs)) : kvs.length ≤ sizeLine ∧ (a == sysModules) = false ∧ ∃ vs, KV kvs vs ∧ h.DictOf (mixKind P w) a vs :=
  show ObjOk P w H h a (.dK kvs) from rd_of ok e
theorem dk_of {kvs : List (Key × V)} (ok : HOk P w H h) (e : H a = some (.dK kvs)) : kvs.length ≤ sizeLine ∧ (a == sysModules) = false ∧ ∃ vs, KV kvs vs ∧ h.DictOf (mixKind P w) a vs := dk_rd ok (.inl e)
/-- a tracked tuple of ints and texts is a key -/
theorem key_of {ks : List Key} (ok : HOk P w H h) (e : H a = some (.tup (ks.map kV))) : (tupleKind (mixKind P w)).is h ks a := by
  obtain ⟨_, its, r, o, h1, h2, n, h3⟩ := (show ObjOk P w H h a (.tup (ks.map kV)) from ok a _ e)
  exact ⟨o, its.toArray, n, h1, h2, h3, by simpa using items_are r⟩
theorem dt_rd {kvs : List (List Key × V)} (ok : HOk P w H h) (e : Rd H a (.dT kvs)) : kvs.length ≤ sizeLine ∧ (a == sysModules) = false ∧
    ∃ xs, KT H kvs xs ∧ h.DictOfH (tupleKind (mixKind P w)) a xs := by
  obtain ⟨z, y, xs, r, o, es, ep, h1, h2, h3, h4, h5⟩ := (show ObjOk P w H h a (.dT kvs) from rd_of ok e)
  refine ⟨z, y, xs, r, o, es, ep, h1, h2, h3, h4, fun x hx => ?_, h5⟩
  have all : ∀ {l : List (List Key × V)} {m : List (List Key × Addr × Value)}, KT H l m → ∀ x ∈ m, (tupleKind (mixKind P w)).is h x.1 x.2.1 := by
    intro l m q
    induction q with
    | nil => intro x hx; exact nomatch hx
    | @cons p q ps qs hq t ih =>
      intro x hx
      rcases List.mem_cons.mp hx with e | hx
      · subst e
        exact key_of ok (by rw [← hq.1]; exact hq.2.1)
      · exact ih x hx
  exact all r x hx
theorem dt_of {kvs : List (List Key × V)} (ok : HOk P w H h) (e : H a = some (.dT kvs)) : kvs.length ≤ sizeLine ∧ (a == sysModules) = false ∧
    ∃ xs, KT H kvs xs ∧ h.DictOfH (tupleKind (mixKind P w)) a xs := dt_rd ok (.inl e)
end

/-- what the dict at a holds at the key y -/
def DGet (H : Hp) (a : Addr) (y : V) (r : Option V) : Prop :=
  (∃ kvs k, Rd H a (.dK kvs) ∧ y = kV k ∧ r = valV kvs k) ∨ ∃ kvs k b, Rd H a (.dT kvs) ∧ y = .ref b ∧ H b = some (.tup (k.map kV)) ∧ r = valV kvs k
/-- the heap behind a[y] = v -/
def DPut (H : Hp) (a : Addr) (y v : V) (H' : Hp) : Prop :=
  (∃ kvs k, H a = some (.dK kvs) ∧ y = kV k ∧ kvs.length < sizeLine ∧ H' = upd H a (.dK (putK kvs k v))) ∨
  ∃ kvs k b, H a = some (.dT kvs) ∧ y = .ref b ∧ H b = some (.tup (k.map kV)) ∧ kvs.length < sizeLine ∧ H' = upd H a (.dT (putK kvs k v))
theorem DGet.k {H : Hp} {a : Addr} {kvs : List (Key × V)} {k : Key} (e : H a = some (.dK kvs)) : DGet H a (kV k) (valV kvs k) := .inl ⟨kvs, k, .inl e, rfl, rfl⟩
theorem DGet.t {H : Hp} {a b : Addr} {kvs : List (List Key × V)} {k : List Key} (e : H a = some (.dT kvs)) (eb : H b = some (.tup (k.map kV))) : DGet H a (.ref b) (valV kvs k) := .inr ⟨kvs, k, b, .inl e, rfl, eb, rfl⟩
theorem DPut.k {H : Hp} {a : Addr} {kvs : List (Key × V)} {k : Key} {v : V} (e : H a = some (.dK kvs)) (hl : kvs.length < sizeLine) : DPut H a (kV k) v (upd H a (.dK (putK kvs k v))) := .inl ⟨kvs, k, e, rfl, hl, rfl⟩
theorem DPut.t {H : Hp} {a b : Addr} {kvs : List (List Key × V)} {k : List Key} {v : V} (e : H a = some (.dT kvs)) (eb : H b = some (.tup (k.map kV))) (hl : kvs.length < sizeLine) :
    DPut H a (.ref b) v (upd H a (.dT (putK kvs k v))) := .inr ⟨kvs, k, b, e, rfl, eb, hl, rfl⟩


section
variable {X : Cx} {pins : List (Addr × Obj)} {σ : St} {H : Hp} {s : Shared} {a : Addr} {y v : V} {u r : Value} {o : Option V} {A : Around} {E : Value → Shared → Prop}

theorem Inv.big (I : Inv X pins σ H s) : sysModules < s.heap.objs.size := by
  have h : mainGlobals < s.heap.objs.size := (I.mod.glob.keeps I.bk).lt
  exact Nat.lt_trans (by decide) h

/-- d[y], there -/
theorem d_getItem {Q : Value → Shared → Prop} (hu : A.units + 1 < cLine) (I : Inv X pins σ H s) (g : DGet H a y (some v)) (ry : RelV y u) (h : ∀ w' s', Inv X pins σ H s' → RelV v w' → Q w' s') :
    wpAny (model X.prog X.w) A (getItem (.ref a) u) Q E s := by
  rcases g with ⟨kvs, k, e, ey, l⟩ | ⟨kvs, k, b, e, ey, eb, l⟩
  · subst ey
    obtain ⟨z, hd, vs, rel, dd⟩ := dk_rd I.hok e
    obtain ⟨w', hw, rw'⟩ := RelO.some_of (v := v) (o := valueAt vs k) (by rw [l]; exact rel.val k)
    exact wpAny_getItem_of (kV_is ry) dd.mapOf hw (h w' _ (I.tok _) rw')
  · subst ey
    cases (show u = Value.ref b from ry)
    obtain ⟨z, hd, xs, rel, dd⟩ := dt_rd I.hok e
    obtain ⟨w', hw, rw'⟩ := RelO.some_of (v := v) (o := (atKey xs k).map (·.2)) (by rw [l]; exact rel.val k)
    obtain ⟨p, hp, hp2⟩ := Option.map_eq_some_iff.mp hw
    refine wpAny_getItem_heap (tupleKind_room_in1 hu) (key_of I.hok eb) dd hp ?_
    rw [hp2]
    exact h w' _ (I.tok _) rw'
/-- a dict's object is replaced -/
theorem d_write {h' : Heap} {t' : Nat} {ob : HO} (I : Inv X pins σ H s) (mu : Mut (H a)) (hs : Heap.SameBut a s.heap h') (he : ∃ q, h'.get? a = some q) (new : ObjOk X.prog X.w (upd H a ob) h' a ob) :
    Inv X pins σ (upd H a ob) { s with heap := h', toks := t' } :=
  I.write (x := a) (e := a) mu (.inl rfl) (fun b q hb z => (hs.2 b hb).trans z) he new
theorem dk_new {P : Program} {w : World} {H' : Hp} {h' : Heap} {kvs : List (Key × V)} {vs : List (Key × Value)} (z : kvs.length ≤ sizeLine) (hd : (a == sysModules) = false) (rel : KV kvs vs) (dd : h'.DictOf (mixKind P w) a vs) :
    ObjOk P w H' h' a (.dK kvs) := ⟨z, hd, vs, rel, dd⟩
/-- d[y] = v -/
theorem d_setItem {H' : Hp} {Q : Unit → Shared → Prop} (hu : A.units + 1 < cLine) (I : Inv X pins σ H s) (g : DPut H a y v H') (ry : RelV y u) (rv : RelV v r) (h : ∀ s', Inv X pins σ H' s' → Q () s') :
    wpAny (model X.prog X.w) A (setItem (.ref a) u r) Q E s := by
  rcases g with ⟨kvs, k, e, ey, l, eH⟩ | ⟨kvs, k, b, e, ey, eb, l, eH⟩
  · subst ey eH
    obtain ⟨z, hd, vs, rel, dd⟩ := dk_of I.hok e
    have hz : vs.length ≤ sizeLine := by rw [← rel.length]; exact z
    have hl : (putK kvs k v).length ≤ sizeLine := by have := length_putK kvs k v; omega
    refine wpAny_setItem_pairs (hsz := hz) (kV_is ry) dd fun h' dd' hs => h _ ?_
    have he : ∃ q, h'.get? a = some q := let ⟨q, _, _, hq, _⟩ := dd'; ⟨q, hq⟩
    exact d_write I (by rw [e]; exact True.intro) hs he (dk_new hl hd (rel.put k rv) dd')
  · subst ey eH
    cases (show u = Value.ref b from ry)
    obtain ⟨z, hd, xs, rel, dd⟩ := dt_of I.hok e
    have hz : xs.length ≤ sizeLine := by rw [← Paired.length rel]; exact z
    have hl : (putK kvs k v).length ≤ sizeLine := by have := length_putK kvs k v; omega
    refine wpAny_setItem_heap (hsz := hz) (tupleKind_room_in1 hu) (key_of I.hok eb) dd fun h' dd' hs => h _ ?_
    obtain ⟨q, es, ep, hq, h2, h3, h4, _, h5⟩ := dd'
    refine d_write I (by rw [e]; exact True.intro) hs ⟨q, hq⟩ ⟨hl, hd, _, (rel.put k eb rv).keeps fun c ys ec => ?_, q, es, ep, hq, h2, h3, h4, h5⟩
    rw [upd_ne (ne_of ec e (fun z => nomatch z))]
    exact ec
end

section
variable {X : Cx} {pins : List (Addr × Obj)} {σ : St} {H : Hp} {s : Shared} {a : Addr} {kvs : List (Key × V)} {k : Key} {u : Value} {A : Around} {E : Value → Shared → Prop}
end


/-! ### readings and rules -/
/-- the element of a subscription, not a slice -/
def NoSl (i : Expr) : Prop := ∀ ov iv, subscripted i false ov iv = operate [ov, iv] (getItem ov iv)
theorem subD_of {prog : Program} {w : World} {A : Around} {E : Value → Shared → Prop} {s : Shared} {env : Env} {value slice : Expr} {pos : Pos} {T id : String} {Q : Value → Shared → Prop}
    (hl : typeLookup (.type T) "__getitem__" = pure (some (.builtin id))) (hs : NoSl slice)
    (h : wpAny (model prog w) A (eval value env) (fun o s₁ => wpAny (model prog w) A (eval slice env) (fun i s₂ => s₂.TypeIs o T ∧ wpAny (model prog w) A (getItem o i) Q E s₂) E s₁) E s) :
    wpAny (model prog w) A (eval (.Subscript value slice pos) env) Q E s := by
  refine Subscript_ (wpAny_mono h (fun o s₁ h₁ => wpAny_mono h₁ (fun i s₂ h₂ => ?_) fun _ _ x => x) fun _ _ x => x)
  obtain ⟨hT, h₂⟩ := h₂
  unfold subscriptTail
  refine wpAny_bind ?_
  rw [getitemInPython_of_ne hT.not_modules]
  refine wpAny_bind (wpAny_specialOf hT hl ?_)
  have fin : wpAny (model prog w) A (subscripted slice false o i) (fun r s₃ => wpAny (model prog w) A (letTemporaryGo value o r >>= fun _ => pure r) Q E s₃) E s₂ := by
    rw [hs o i]
    exact wpAny_operating (wpAny_mono h₂ (fun r s₃ h₃ => wpAny_bind (wpAny_letTemporaryGo (wpAny_pure h₃))) fun _ _ x => x)
  first
    | exact wpAny_pure (wpAny_bind fin)
    | exact wpAny_bind (wpAny_pure (wpAny_bind fin))
    | exact wpAny_bind fin

theorem dict_typeIs {X : Cx} {pins : List (Addr × Obj)} {σ : St} {H : Hp} {s : Shared} {a : Addr} {y : V} {o : Option V} (I : Inv X pins σ H s) (g : DGet H a y o) : s.TypeIs (.ref a) "dict" := by
  rcases g with ⟨kvs, k, e, _, _⟩ | ⟨kvs, k, b, e, _, _, _⟩
  · obtain ⟨_, _, vs, _, dd⟩ := dk_rd I.hok e
    exact dd.typeIs
  · obtain ⟨_, _, xs, _, dd⟩ := dt_rd I.hok e
    exact dd.typeIs
/-- d[y] -/
def tDGet (td ty : TE) : TE := fun σ H Q => td σ H fun x H1 => ty σ H1 fun y H2 => ∃ a v, x = .ref a ∧ DGet H2 a y (some v) ∧ Q v H2
/-- d[y] = v -/
def sDPut (td ty tv : TE) : TS := fun D σ H => tv σ H fun v H1 => td σ H1 fun x H2 => ty σ H2 fun y H3 => ∃ a H4, x = .ref a ∧ DPut H3 a y v H4 ∧ D.nx σ H4
section
variable {X : Cx} {o i e value : Expr} {pos pos' tpos : Pos} {td ty tv : TE}
theorem pe_dget (hu : X.A.units + 1 < cLine) (ho : PE X o td) (hi : PE X i ty) (hs : NoSl i) : PE X (.Subscript o i pos) (tDGet td ty) := by
  intro pins s σ H Q I h
  refine subD_of PySem.F.slot_dict_getitem.lookup hs (thn (ho pins s σ H _ I h) fun u s1 ⟨x, H1, I1, rx, q1⟩ => thn (hi pins s1 σ H1 _ I1 q1) fun iv s2 ⟨y, H2, I2, ry, a, v, ex, g, q2⟩ => ?_)
  subst ex
  obtain rfl : u = Value.ref a := rx
  exact ⟨dict_typeIs I2 g, d_getItem hu I2 g ry fun w' s3 I3 rw' => ⟨v, H2, I3, rw', q2⟩⟩
theorem ps_dput (hu : X.A.units + 1 < cLine) (ho : PE X o td) (hi : PE X i ty) (hv : PE X value tv) (hs : swapsWith value (some (.Subscript o i pos')) pos.line X.env = pure false) :
    PS X (.Assign [.Subscript o i pos'] value pos) (sDPut td ty tv) := by
  intro pins s σ H D I h
  refine wpAny_Assign_Subscript (thn (hv pins s σ H _ I h) fun r s1 ⟨v, H1, I1, rv, q1⟩ => thn (ho pins s1 σ H1 _ I1 q1) fun u s2 ⟨x, H2, I2, rx, q2⟩ => thn (hi pins s2 σ H2 _ I2 q2) fun iv s3 ⟨y, H3, I3, ry, a, H4, ex, g, q3⟩ => ?_) hs
  subst ex
  obtain rfl : u = Value.ref a := rx
  exact d_setItem hu I3 g ry rv fun s4 I4 => ⟨σ, H4, I4, q3⟩
end


/-! ### displays -/
theorem dk_empty {P : Program} {w : World} {H : Hp} (h : Heap) (hb : sysModules < h.objs.size) : ObjOk P w H (h.push { cls := .type "dict", data := .dict #[] }) h.objs.size (.dK []) :=
  ⟨Nat.zero_le _, beq_eq_false_iff_ne.mpr (Ne.symm (Nat.ne_of_lt hb)), [], .nil, Heap.DictOf.new h⟩
/-- {}, to be a dict of the kind that is wanted -/
def tDNewK : TE := fun _ H Q => ∀ p, H p = none → Q (.ref p) (upd H p (.dK []))
section
variable {X : Cx} {pos : Pos}
theorem pe_dnewK : PE X (.Dict [] [] pos) tDNewK := fun pins s σ H Q I h =>
  wpAny_Dict_empty ⟨.ref s.heap.objs.size, _, I.laid (a := s.heap.objs.size) (o := .dK []) (t' := s.toks) (fun _ _ q => Heap.get?_push_of_some _ q) (Nat.le_refl _) (dk_empty s.heap I.big), rfl, h _ (I.hok.fresh (Nat.le_refl _))⟩
end

/-! ### methods -/
/-- a method call o.m(e) of a built-in, with one argument: what must be seen of the text -/
structure M1 (X : Cx) (o : Expr) (m : Str) (apos : Pos) (e : Expr) (cpos : Pos) : Prop where
  base : attributeBase o m X.env (eval o X.env) = eval o X.env
  few : ((backTo cpos (starEach [e] X.env)).all (fun x => !x.1) && (backToKw cpos (keywordEach [] X.env)).all (fun x => x.1.isSome)
    && decide (([e] : List Expr).length + ([] : List Keyword).length + (if ([] : List Keyword).isEmpty then 0 else 1) < 30)) = true
  line : (apos.endLine == cpos.line) = true
  trees : backTo cpos (starEach [e] X.env) = [(false, eval e X.env)]
structure M2 (X : Cx) (o : Expr) (m : Str) (apos : Pos) (e f : Expr) (cpos : Pos) : Prop where
  base : attributeBase o m X.env (eval o X.env) = eval o X.env
  few : ((backTo cpos (starEach [e, f] X.env)).all (fun x => !x.1) && (backToKw cpos (keywordEach [] X.env)).all (fun x => x.1.isSome)
    && decide (([e, f] : List Expr).length + ([] : List Keyword).length + (if ([] : List Keyword).isEmpty then 0 else 1) < 30)) = true
  line : (apos.endLine == cpos.line) = true
  trees : backTo cpos (starEach [e, f] X.env) = [(false, eval e X.env), (false, eval f X.env)]

section
variable {X : Cx} {pins : List (Addr × Obj)} {σ : St} {H : Hp} {s : Shared} {a : Addr} {y d : V} {u r : Value} {o : Option V} {A : Around} {E : Value → Shared → Prop}
end

section
variable {X : Cx} {o e f : Expr} {apos cpos : Pos} {td ty tx : TE}
end

/-! ### dict(d): a copy -/
section
variable {X : Cx} {pins : List (Addr × Obj)} {σ : St} {H : Hp} {s : Shared} {a : Addr} {kvs : List (Key × V)} {A : Around} {E : Value → Shared → Prop}
end


section
variable {X : Cx} {pins : List (Addr × Obj)} {σ : St} {H : Hp} {s : Shared} {a : Addr} {y : V} {u : Value} {A : Around} {E : Value → Shared → Prop}
end
end L2


namespace InkX
open PySem PySem.Spec PyProof.Rows L2
/-! ### a list made by one clause whose tests and item may name the def's captured names; kept, or stored under a plain name -/
def cxF (X : Cx) (N : List Str) (scope : Scope) (cl : List (Str × Addr)) (C : Addr) (s₀ : Shared) (H₀ : Hp) (ex : List Addr) (pn : List (Addr × Obj)) : Cx where
  prog := X.prog
  w := X.w
  K := X.K
  mg := X.mg
  base := X.base
  A := X.A
  N := N
  s₀ := s₀
  H₀ := H₀
  env := compEnvC scope cl C X.env
  outer := X.stack
  stack := X.stack
  ex := ex
  fn := fun _ => false
  calm := X.calm
  pn := pn
  xe := fun _ _ => False
structure CompF (X : Cx) (N : List Str) (scope : Scope) (cl : List (Str × Addr)) (jx : List (Option Nat)) : Prop where
  kind : scope.kind = .function
  cell : ∀ x ∈ scope.names, x.2 ≠ .cell
  names : ∀ x ∈ scope.names, x.2 = .local → scope.names.lookup x.1 = some .local
  clos : closureFor scope X.env = pure cl
  sub : ∀ x c, cl.lookup x = some c → X.env.cells.lookup x = some c
  has : ∀ x, ((relabel scope X.env).names.lookup x = some .cell ∨ (relabel scope X.env).names.lookup x = some .free) → ∃ c, cl.lookup x = some c
  len : jx.length = N.length
  free : ∀ (i j : Nat) (x : Str), jx[i]? = some (some j) → N[i]? = some x → X.N[j]? = some x ∧ X.env.scope.names.lookup x = some .cell ∧ (relabel scope X.env).names.lookup x = some .cell
def startF (jx : List (Option Nat)) (σ : L2.St) : L2.St := jx.map fun o => o.bind fun j => (σ[j]?).join
section
variable {X : Cx} {N : List Str} {scope : Scope} {cl : List (Str × Addr)} {jx : List (Option Nat)}
theorem comp_startF {pins : List (Addr × Obj)} {σ : L2.St} {H : Hp} {s : Shared} {fp : List Addr} {h₁ : Heap} {t : Nat} (cs : CompF X N scope cl jx) (I : Inv X pins σ H s) (hf : ∀ b ∈ fp, FpOk X pins H b) (hlt : ∀ b ∈ fp, b < s.heap.objs.size)
    (hns : h₁.Ns s.heap.objs.size fun _ => none) (hk : ∀ b o, s.heap.get? b = some o → h₁.get? b = some o) :
    Inv (cxF X N scope cl s.heap.objs.size s H fp (X.pn ++ pins)) [] (startF jx σ) H { s with heap := h₁, toks := t } := by
  have sub : ∀ {x c}, (cxF X N scope cl s.heap.objs.size s H fp (X.pn ++ pins)).env.cells.lookup x = some c → X.env.cells.lookup x = some c := fun {x c} e => cs.sub x c e
  refine ⟨⟨I.ok.mod, cs.kind, I.ok.glob, I.ok.blt, Nat.le_refl _, fun x y c e e' => I.ok.inj x y c (sub e) (sub e'), fun x hx => cs.has x hx, fun x c z _ => (by cases z), I.ok.hd, I.ok.frames, .inl rfl, fun b hb => ⟨Nat.ne_of_lt (hlt b hb), fun x c e => (hf b hb).2.2.2.2.1 x c (sub e)⟩, I.bs, Nat.le_trans I.ok.bsz I.sz, fun b o e hb => ?_, fun b hb z => ?_, I.stack, I.stkFree⟩,
    rfl, I.bare, Un.kept hk, ⟨_, hns, fun i x v e1 e2 _ => ?_⟩, fun x c e => ?_, I.hok.fresh (Nat.le_refl _), fun x c e => I.freeC x c (sub e), fun p hp => ?_, I.hok.kept hk, by unfold startF; rw [List.length_map]; exact cs.len⟩
  · rcases (hf b hb).2.2.2.1 with z | z
    · exact I.ok.noex b o e z
    · exact absurd (Nat.lt_of_lt_of_le (Heap.lt_size (I.ok.bs b o e).1) z) (Nat.lt_irrefl _)
  · rcases List.mem_cons.mp (I.stkSub b z) with e | e
    · exact (hf b hb).2.1 e
    · exact (hf b hb).2.2.1 e
  · unfold startF at e2
    rw [List.getElem?_map] at e2
    cases ej : jx[i]? with
    | none => rw [ej] at e2; cases e2
    | some o =>
      rw [ej] at e2
      cases o with
      | none => cases e2
      | some j =>
        have e3 : σ[j]? = some (some v) := by
          have z : ((σ[j]?).join) = some v := Option.some.inj e2
          cases hs : σ[j]? with
          | none => rw [hs] at z; cases z
          | some q => rw [hs] at z; exact congrArg some z
        obtain ⟨f1, f2, f3⟩ := cs.free i j x ej e1
        obtain ⟨m, hn, hl⟩ := I.loc
        obtain ⟨u, ru, look⟩ := hl j x v f1 e3 (.inr (.inl f2))
        refine ⟨u, ru, ?_⟩
        rcases look with ⟨k, _⟩ | ⟨_, c, hc, o, ho, hd⟩
        · have k' : X.env.scope.names.lookup x = some .local := k
          rw [f2] at k'
          cases k'
        · obtain ⟨c', hc'⟩ := cs.has x (.inl f3)
          have z := cs.sub x c' hc'
          rw [hc] at z
          cases z
          exact .inr ⟨.inl f3, c, hc', o, hk _ _ ho, hd⟩
  · obtain ⟨v, o, ho, hd⟩ := I.cell x c (sub e)
    exact ⟨v, o, hk _ _ ho, hd⟩
  · have hp' : p ∈ X.pn ++ pins := by
      have z : p ∈ (X.pn ++ pins) ++ [] := hp
      simpa using z
    obtain ⟨e, n, nl, nf, d⟩ := I.pin p hp'
    refine ⟨hk _ _ e, n, Nat.ne_of_lt (Heap.lt_size e), fun z => ?_, d⟩
    rcases List.mem_cons.mp (I.stkSub p.1 z) with e | e
    · exact nl e
    · exact nf e
theorem comp_midF {pins : List (Addr × Obj)} {σ σ' : L2.St} {H H' : Hp} {s s' : Shared} {fp : List Addr} (I : Inv X pins σ H s) (hf : ∀ b ∈ fp, FpOk X pins H b) (J : Inv (cxF X N scope cl s.heap.objs.size s H fp (X.pn ++ pins)) [] σ' H' s') : Inv X pins σ H' s' :=
  I.call' (ch := fp) J.os J.base J.hok J.bare fun b hb => ⟨(hf b hb).2.2.2.1, (hf b hb).2.1, (hf b hb).2.2.2.2.1, (hf b hb).2.2.2.2.2⟩
theorem comp_outF {pins : List (Addr × Obj)} {σ σ2 : L2.St} {H H' : Hp} {s s' : Shared} {h' : Heap} (I : Inv X pins σ H s) (I4 : Inv X pins σ2 H' s') (hfree : H' s.heap.objs.size = none) (hs : Heap.SameBut s.heap.objs.size s'.heap h') : Inv X pins σ2 H' { s' with heap := h' } := by
  refine I4.turned (t' := s'.toks) (it := s.heap.objs.size) (fun b o hb e => hs.extBut _ _ hb e) hfree (Nat.ne_of_gt I.lt) (.inr I.sz) (fun x c e z => ?_) fun p hp z => ?_
  · obtain ⟨v, o, ho, _⟩ := I.cell x c e
    exact absurd (Heap.lt_size ho) (by rw [z]; exact Nat.lt_irrefl _)
  · exact absurd (Heap.lt_size (I.pin p hp).1) (by rw [z]; exact Nat.lt_irrefl _)
def tTurnsF (J : It) (acc : Addr) (g : TG) (tt : TT) (te : TE) (σ0 : L2.St) (H : Hp) (Q : VK) : Prop :=
  ∃ W : Nat → Nat → L2.St → Hp → Prop, (∃ m, W 0 m σ0 H) ∧ ∀ i m σ H, W i m σ H →
    (J.stop i H ∧ Q (.ref acc) H) ∨ (J.go i H ∧ ∃ Nx : L2.St → Hp → Prop, (∀ σ' H', Nx σ' H' → ∃ m', m' < m ∧ W (i + 1) m' σ' H') ∧ ∀ x H', J.yld i H x H' → g x σ H' fun σ2 H2 => tt σ2 H2 fun b H3 =>
      if b = true then te σ2 H3 fun v H4 => ∃ xs, H4 acc = some (.lst xs) ∧ xs.length < sizeLine ∧ Nx σ2 (upd H4 acc (.lst (xs ++ [v]))) else Nx σ2 H3)
def tCompF (jx : List (Option Nat)) (wi : TI) (g : TG) (tt : TT) (te : TE) : TE := fun σ H Q => wi σ H fun J H1 => ∀ acc, H1 acc = none → tTurnsF J acc g tt te (startF jx σ) (upd H1 acc (.lst [])) Q
theorem comp_core {elt tg iter : Expr} {ifs : List Expr} {pos pos' : Pos} {wi : TI} {g : TG} {tt : TT} {te : TE} (cs : CompF X N scope cl jx) (hc : X.calm = true) (hi : PI X tg iter wi)
    (hg : ∀ C s₀ H₀ ex pn, PG (cxF X N scope cl C s₀ H₀ ex pn) tg g) (ht : ∀ C s₀ H₀ ex pn, PTs (cxF X N scope cl C s₀ H₀ ex pn) ifs tt) (he : ∀ C s₀ H₀ ex pn, PE (cxF X N scope cl C s₀ H₀ ex pn) elt te)
    (hs : ∀ x, foldedSetIterable iter X.env x = pure x) {use : Option (Value → Sem Unit)} {Q' : Value → Shared → Prop} {Q : VK} {pins : List (Addr × Obj)} {s : Shared} {σ : L2.St} {H : Hp} (I : Inv X pins σ H s) (h : tCompF jx wi g tt te σ H Q)
    (fin : ∀ (s3 : Shared) (H3 : Hp) (fp : List Addr) (acc : Addr) (σ6 : L2.St) (H6 : Hp) (s7 : Shared), Inv X pins σ H3 s3 → (∀ b ∈ fp, FpOk X pins H3 b) → Inv (cxF X N scope cl s3.heap.objs.size s3 H3 fp (X.pn ++ pins)) [] σ6 H6 s7 → Q (.ref acc) H6 →
      compPost (model X.prog X.w) X.A X.xe use Q' (.ref acc) s3.heap.objs.size (.ok .next) s7) :
    wpAny (model X.prog X.w) X.A (comprehension (.ListComp elt [⟨tg, iter, ifs, 0⟩] scope pos) scope X.env pos' (newList []) false (eval iter X.env) use) Q' X.xe s := by
  refine wpAny_comprehension_free (use := use) rfl hs cs.clos cs.kind cs.names (thn (hi pins s σ H _ I h) fun v s1 h1 => thn h1 fun itv s2 h2 => ?_)
  obtain ⟨it, fp, tn, J, H2, e, I2, T, st2, f2, q⟩ := h2
  subst e
  refine wpAny_newObj_type (hd := by size_fits) ?_
  have hacc : H2 s2.heap.objs.size = none := I2.hok.fresh (Nat.le_refl _)
  have I3 : Inv X pins σ (upd H2 s2.heap.objs.size (.lst [])) { s2 with heap := s2.heap.push { cls := .type "list", data := .seq ([] : List Value).toArray }, toks := s2.toks } := I2.lnew (ys := []) .nil (Nat.zero_le _)
  have ftn : ∀ b ∈ fp, b < s2.heap.objs.size := fun b hb => by
    obtain ⟨o, ho, _⟩ := T.obj _ _ st2 b hb
    exact Heap.lt_size ho
  have f3 : ∀ b ∈ fp, FpOk X pins (upd H2 s2.heap.objs.size (.lst [])) b := fun b hb => ⟨by rw [upd_ne (Nat.ne_of_lt (ftn b hb))]; exact (f2 b hb).1, (f2 b hb).2⟩
  have k3 : ∀ b o, s2.heap.get? b = some o → (s2.heap.push { cls := .type "list", data := .seq ([] : List Value).toArray }).get? b = some o := fun b o e => Heap.get?_push_of_some _ e
  have q3 := q _ hacc
  generalize hs3 : ({ s2 with heap := s2.heap.push { cls := .type "list", data := .seq ([] : List Value).toArray }, toks := s2.toks } : Shared) = s3 at I3
  generalize hH3 : upd H2 s2.heap.objs.size (.lst []) = H3 at I3 f3 q3
  have hh3 : s3.heap = s2.heap.push { cls := .type "list", data := .seq ([] : List Value).toArray } := by rw [← hs3]
  have ft3 : ∀ b ∈ fp, b < s3.heap.objs.size := fun b hb => by rw [hh3, Heap.size_push]; exact Nat.lt_succ_of_lt (ftn b hb)
  have st3 : tn 0 s3.heap := T.keep _ _ _ st2 fun b _ o e => by rw [hh3]; exact k3 b o e
  show wpAny _ _ _ _ _ s3
  refine wpAny_newFunctionEnv cs.cell (fun y hy => by simp at hy) (fun h₁ hns hsb => ?_) cs.kind
  have kh : ∀ b o, s3.heap.get? b = some o → h₁.get? b = some o := fun b o e => hsb.extBut _ _ (Nat.ne_of_lt (Heap.lt_size e)) (Heap.get?_push_of_some _ e)
  have J0 : Inv (cxF X N scope cl s3.heap.objs.size s3 H3 fp (X.pn ++ pins)) [] (startF jx σ) H3 { s3 with heap := h₁, toks := s3.toks + ([] : List (Str × Value)).length } := comp_startF cs I3 f3 ft3 hns kh
  have st4 : tn 0 h₁ := T.keep _ _ _ st3 fun b _ o e => kh b o e
  obtain ⟨W, ⟨m0, w0⟩, turn⟩ := q3
  have stat : ∀ {H' : Hp}, (∀ b ∈ fp, H' b = none) → ∀ b ∈ fp, FpOk (cxF X N scope cl s3.heap.objs.size s3 H3 fp (X.pn ++ pins)) [] H' b := fun hn b hb => by
    refine ⟨hn b hb, Nat.ne_of_lt (ft3 b hb), fun z => ?_, .inl hb, fun x c e => (f3 b hb).2.2.2.2.1 x c (cs.sub x c e), fun p hp => ?_⟩
    · rcases List.mem_cons.mp (I3.stkSub b z) with e | e
      · exact (f3 b hb).2.1 e
      · exact (f3 b hb).2.2.1 e
    · have hp' : p ∈ X.pn ++ pins := by
        have z : p ∈ (X.pn ++ pins) ++ [] := hp
        simpa using z
      exact (f3 b hb).2.2.2.2.2 p hp'
  have loop : ∀ s5 : Shared, s5 = { s3 with heap := h₁, toks := s3.toks + ([] : List (Str × Value)).length } → codeAny (model X.prog X.w) X.A (.compLoop (.ListComp elt [⟨tg, iter, ifs, 0⟩] scope pos) 0 (.ref it) (.ref s2.heap.objs.size) (cxF X N scope cl s3.heap.objs.size s3 H3 fp (X.pn ++ pins)).env)
      (compPost (model X.prog X.w) X.A X.xe use Q' (.ref s2.heap.objs.size) s3.heap.objs.size) s5 := by
    rintro s5 rfl
    refine compLoopG (fun n s' => ∃ i σ' H', Inv (cxF X N scope cl s3.heap.objs.size s3 H3 fp (X.pn ++ pins)) [] σ' H' s' ∧ tn i s'.heap ∧ (∀ b ∈ fp, H' b = none) ∧ W i n σ' H') ?_ m0 ⟨0, _, H3, J0, st4, fun b hb => (f3 b hb).1, w0⟩
    rintro n s6 ⟨i, σ6, H6, I6, st6, fr6, w6⟩
    rcases turn i n σ6 H6 w6 with ⟨stop, qn⟩ | ⟨go, Nx, hN, step⟩
    · refine thn (T.done (cxF X N scope cl s3.heap.objs.size s3 H3 fp (X.pn ++ pins)) rfl rfl rfl hc i [] s6 σ6 H6 _ I6 (stat fr6) st6 stop) fun r s7 ⟨hr, I7⟩ => ?_
      subst hr
      exact fin s3 H3 fp _ σ6 H6 s7 I3 f3 I7 qn
    · refine thn (T.item (cxF X N scope cl s3.heap.objs.size s3 H3 fp (X.pn ++ pins)) rfl rfl rfl hc i [] s6 σ6 H6 _ I6 (stat fr6) st6 go) fun r s7 ⟨u, hr, h7⟩ => ?_
      subst hr
      refine thn h7 fun _ s8 ⟨x, H8, I8, r8, y8, st8, fr8⟩ => ?_
      have I8' := I8.pinned (stat fr8) (T.obj _ _ st8)
      refine thn (hg _ _ _ _ _ _ s8 σ6 H8 x u _ I8' r8 (step x H8 y8)) fun _ s9 ⟨σ9, H9, I9, q9⟩ => ?_
      refine thn (ht _ _ _ _ _ _ s9 σ9 H9 _ I9 q9) fun ok s10 ⟨H10, I10, q10⟩ => ?_
      have again : ∀ {σ7 : L2.St} {H7 : Hp} {s11 : Shared}, Inv (cxF X N scope cl s3.heap.objs.size s3 H3 fp (X.pn ++ pins)) ([] ++ pinsAt fp s8.heap) σ7 H7 s11 → Nx σ7 H7 → ∃ m, m < n ∧ ∃ i σ' H', Inv (cxF X N scope cl s3.heap.objs.size s3 H3 fp (X.pn ++ pins)) [] σ' H' s11 ∧ tn i s11.heap ∧ (∀ b ∈ fp, H' b = none) ∧ W i m σ' H' := fun {σ7 H7 s11} I7 n7 => by
        obtain ⟨m', hm, w7⟩ := hN σ7 H7 n7
        refine ⟨m', hm, i + 1, σ7, H7, I7.unpinned, T.keep _ _ _ st8 fun b hb o e => (I7.pin (b, o) (List.mem_append_right _ (List.mem_append_right _ (mem_pinsAt hb e)))).1, fun b hb => ?_, w7⟩
        obtain ⟨o, e, d⟩ := T.obj _ _ st8 b hb
        exact (I7.pin (b, o) (List.mem_append_right _ (List.mem_append_right _ (mem_pinsAt hb e)))).2.1
      cases ok with
      | false =>
        rw [if_neg Bool.false_ne_true] at q10
        exact again I10 q10
      | true =>
        rw [if_pos rfl] at q10
        refine thn (he _ _ _ _ _ _ s10 σ9 H10 _ I10 q10) fun v s11 ⟨y, H11, I11, r11, xs, hx, hz, n11⟩ => ?_
        refine thn (mt_append _ s11 σ9 H11 (.ref s2.heap.objs.size) [y] (.ref s2.heap.objs.size) [v] (fun _ H' => Nx σ9 H') I11 rfl (.cons r11 .nil) ⟨_, xs, y, rfl, rfl, hx, hz, n11⟩) fun _ s12 ⟨_, H12, I12, _, n12⟩ => ?_
        exact again I12 n12
  exact codeAny_compStart_list (loop _ rfl) (T.self _ _ _ _ _ st4 (loop _ rfl))
theorem pe_compF {elt tg iter : Expr} {ifs : List Expr} {pos : Pos} {wi : TI} {g : TG} {tt : TT} {te : TE} (cs : CompF X N scope cl jx) (hc : X.calm = true) (hi : PI X tg iter wi)
    (hg : ∀ C s₀ H₀ ex pn, PG (cxF X N scope cl C s₀ H₀ ex pn) tg g) (ht : ∀ C s₀ H₀ ex pn, PTs (cxF X N scope cl C s₀ H₀ ex pn) ifs tt) (he : ∀ C s₀ H₀ ex pn, PE (cxF X N scope cl C s₀ H₀ ex pn) elt te)
    (hs : ∀ x, foldedSetIterable iter X.env x = pure x := by intro _; rfl) : PE X (.ListComp elt [⟨tg, iter, ifs, 0⟩] scope pos) (tCompF jx wi g tt te) := by
  intro pins s σ H Q I h
  rw [eval_ListComp]
  refine comp_core (use := none) cs hc hi hg ht he hs I h fun s3 H3 fp acc σ6 H6 s7 I3 f3 I7 qn => ?_
  obtain ⟨m, hm, _⟩ := I7.loc
  exact ⟨m, hm, fun h' hsb => ⟨.ref acc, H6, comp_outF I3 (comp_midF I3 f3 I7) I7.free hsb, rfl, qn⟩⟩
/-- no captured names -/
theorem CompF.none (cs : CompScope scope) (N : List Str) : CompF X N scope [] (N.map fun _ => none) where
  kind := cs.kind
  cell := cs.cell
  names := cs.names
  clos := closureFor_none cs.free
  sub := fun x c e => by cases e
  has := fun x hx => by
    have e : relabel scope X.env = scope := by
      unfold relabel
      have z : (scope.names.map fun (n, k) => if (k == NameKind.free && X.env.scope.kind == .function && X.env.kindOf n == some .cell) then (n, NameKind.cell) else (n, k)) = scope.names := by
        have z2 : (scope.names.map fun (n, k) => if (k == NameKind.free && X.env.scope.kind == .function && X.env.kindOf n == some .cell) then (n, NameKind.cell) else (n, k)) = scope.names.map id := List.map_congr_left fun p hp => by
          obtain ⟨n, k⟩ := p
          have q : (k == NameKind.free) = false := by
            have q := cs.free _ hp
            cases k <;> first | rfl | exact absurd rfl q
          simp [q]
        rw [z2, List.map_id]
      rw [z]
    rw [e] at hx
    rcases hx with z | z
    · exact absurd rfl (cs.cell _ (PySem.mem_of_lookup z))
    · exact absurd rfl (cs.free _ (PySem.mem_of_lookup z))
  len := by rw [List.length_map]
  free := fun i j x e _ => by
    rw [List.getElem?_map] at e
    cases h : N[i]? with
    | none => rw [h] at e; cases e
    | some y => rw [h] at e; cases e
theorem compF_list {K : PySem.W.Frag} {a acc : Addr} {xs : List V} {g : TG} {tt : TT} {te : TE} {σ0 : L2.St} {H : Hp} {Q : VK} (Pv : Nat → L2.St → Hp → Prop) (h0 : Pv 0 σ0 H) (hl : ∀ i σ H, i ≤ xs.length → Pv i σ H → SqL K H a xs)
    (hs : ∀ i x σ H, xs[i]? = some x → Pv i σ H → g x σ H fun σ2 H2 => tt σ2 H2 fun b H3 => if b = true then te σ2 H3 fun v H4 => ∃ ys, H4 acc = some (.lst ys) ∧ ys.length < sizeLine ∧ Pv (i + 1) σ2 (upd H4 acc (.lst (ys ++ [v]))) else Pv (i + 1) σ2 H3)
    (hd : ∀ σ H, Pv xs.length σ H → Q (.ref acc) H) : tTurnsF (Itl K a) acc g tt te σ0 H Q := by
  refine ⟨fun i m σ H => m = xs.length - i ∧ i ≤ xs.length ∧ Pv i σ H, ⟨xs.length, by simp, Nat.zero_le _, h0⟩, ?_⟩
  rintro i m σ H ⟨rfl, hi, p⟩
  have q := hl i σ H hi p
  by_cases hlt : i < xs.length
  · refine .inr ⟨⟨xs, xs[i], q, by simp [hlt]⟩, Pv (i + 1), fun σ' H' p' => ⟨xs.length - (i + 1), by omega, rfl, hlt, p'⟩, fun x H' y => ?_⟩
    obtain ⟨e, y⟩ := y
    subst e
    exact hs i x σ _ (y xs q) p
  · have e : i = xs.length := by omega
    subst e
    exact .inl ⟨⟨xs, q, Nat.le_refl _⟩, hd σ H p⟩
end
section
variable {X : Cx} {N : List Str} {scope : Scope} {cl : List (Str × Addr)} {C : Addr} {s₀ : Shared} {H₀ : Hp} {ex : List Addr} {pn : List (Addr × Obj)}
theorem pgF_tup {es : List Expr} {k : Nat} {t : TGs} {n : Nat} {pos : Pos} (hc : X.calm = true) (h : PGs (cxF X N scope cl C s₀ H₀ ex pn) es t)
    (hn : (assignEach es (cxF X N scope cl C s₀ H₀ ex pn).env).length = n := by rfl) (hst : (assignEach es (cxF X N scope cl C s₀ H₀ ex pn).env).findIdx? (·.1) = none := by rfl) : PG (cxF X N scope cl C s₀ H₀ ex pn) (.Tuple es k pos) (gTup X.K n t) := pg_tup (X := cxF X N scope cl C s₀ H₀ ex pn) hc h hn hst
theorem piF_list {tg l : Expr} {tl : TE} (hl : PE (cxF X N scope cl C s₀ H₀ ex pn) l tl) : PI (cxF X N scope cl C s₀ H₀ ex pn) tg l (iList X.K tl) := pi_list hl
theorem ixF_tup : IxR (cxF X N scope cl C s₀ H₀ ex pn) (rIxT X.K) := ix_tup
end
theorem closureFor_cells {scope : Scope} {env : Env} (h : ∀ p ∈ scope.names, p.2 = .free → ∃ c, env.cells.lookup p.1 = some c) :
    ∃ cl, closureFor scope env = pure cl ∧ (∀ x c, cl.lookup x = some c → env.cells.lookup x = some c) ∧ (∀ p ∈ scope.names, p.2 = .free → ∃ c, cl.lookup p.1 = some c) := by
  unfold closureFor
  have key : ∀ (l : List (Str × NameKind)) (cs : List (Str × Addr)), (∀ p ∈ l, p.2 = .free → ∃ c, env.cells.lookup p.1 = some c) → (∀ x c, cs.lookup x = some c → env.cells.lookup x = some c) →
      ∃ cl, (forIn l cs (fun p r => if (p.2 == NameKind.free) = true then do let c ← cellOf env p.1; pure (ForInStep.yield ((p.1, c) :: r)) else pure (ForInStep.yield r)) : Sem (List (Str × Addr))) = pure cl ∧ (∀ x c, cl.lookup x = some c → env.cells.lookup x = some c) ∧ (∀ p ∈ l, p.2 = .free → ∃ c, cl.lookup p.1 = some c) ∧ (∀ x c, cs.lookup x = some c → ∃ c, cl.lookup x = some c) := by
    intro l
    induction l with
    | nil => intro cs _ hcs; exact ⟨cs, rfl, hcs, (fun p hp => by cases hp), fun x c e => ⟨c, e⟩⟩
    | cons p l ih =>
      intro cs hl hcs
      rw [List.forIn_cons]
      by_cases hp : p.2 = .free
      · obtain ⟨c, hc⟩ := hl p List.mem_cons_self hp
        have e1 : (p.2 == NameKind.free) = true := by rw [hp]; rfl
        have e2 : cellOf env p.1 = pure c := by
          unfold cellOf
          rw [hc]
        rw [if_pos e1, e2]
        simp only [pure_bind]
        obtain ⟨cl, h1, h2, h3, h4⟩ := ih ((p.1, c) :: cs) (fun q hq => hl q (List.mem_cons_of_mem _ hq)) (fun x d e => by
          rw [List.lookup_cons] at e
          cases hx : x == p.1 with
          | true =>
            rw [hx] at e
            cases e
            rw [eq_of_beq hx]
            exact hc
          | false =>
            rw [hx] at e
            exact hcs x d e)
        refine ⟨cl, h1, h2, fun q hq hf => ?_, fun x d e => ?_⟩
        · rcases List.mem_cons.mp hq with rfl | hq
          · exact h4 q.1 c (by rw [List.lookup_cons]; simp)
          · exact h3 q hq hf
        · cases hx : x == p.1 with
          | true => exact h4 x c (by rw [List.lookup_cons, hx])
          | false => exact h4 x d (by rw [List.lookup_cons, hx]; exact e)
      · have e1 : ¬ (p.2 == NameKind.free) = true := fun z => hp (eq_of_beq z)
        rw [if_neg e1]
        simp only [pure_bind]
        obtain ⟨cl, h1, h2, h3, h4⟩ := ih cs (fun q hq => hl q (List.mem_cons_of_mem _ hq)) hcs
        refine ⟨cl, h1, h2, fun q hq hf => ?_, h4⟩
        rcases List.mem_cons.mp hq with rfl | hq
        · exact absurd hf hp
        · exact h3 q hq hf
  obtain ⟨cl, h1, h2, h3, _⟩ := key scope.names [] h (fun x c e => by cases e)
  refine ⟨cl, ?_, h2, h3⟩
  rw [← h1]
  simp only [bind_pure]

/-! ### the closure found by the context itself -/
theorem lookup_relabel {env : Env} : ∀ {names : List (Str × NameKind)} {x : Str} {k : NameKind}, names.lookup x = some k →
    (names.map fun (n, k) => if (k == NameKind.free && env.scope.kind == .function && env.kindOf n == some .cell) then (n, NameKind.cell) else (n, k)).lookup x = some (if (k == NameKind.free && env.scope.kind == .function && env.kindOf x == some .cell) then NameKind.cell else k)
  | [], _, _, h => by cases h
  | (n, k') :: r, x, k, h => by
    rw [List.map_cons]
    by_cases hx : (x == n) = true
    · have e : x = n := eq_of_beq hx
      subst e
      rw [List.lookup_cons, hx] at h
      cases h
      by_cases hc : (k' == NameKind.free && env.scope.kind == .function && env.kindOf x == some .cell) = true
      · show List.lookup x ((if (k' == NameKind.free && env.scope.kind == .function && env.kindOf x == some .cell) = true then (x, NameKind.cell) else (x, k')) :: _) = _
        rw [if_pos hc, if_pos hc, List.lookup_cons, hx]
      · show List.lookup x ((if (k' == NameKind.free && env.scope.kind == .function && env.kindOf x == some .cell) = true then (x, NameKind.cell) else (x, k')) :: _) = _
        rw [if_neg hc, if_neg hc, List.lookup_cons, hx]
    · have hf : (x == n) = false := by simpa using hx
      rw [List.lookup_cons, hf] at h
      have ih := lookup_relabel (env := env) h
      show List.lookup x ((if (k' == NameKind.free && env.scope.kind == .function && env.kindOf n == some .cell) = true then (n, NameKind.cell) else (n, k')) :: _) = _
      by_cases hc : (k' == NameKind.free && env.scope.kind == .function && env.kindOf n == some .cell) = true
      · rw [if_pos hc, List.lookup_cons, hf]; exact ih
      · rw [if_neg hc, List.lookup_cons, hf]; exact ih
theorem lookup_relabel_none {env : Env} : ∀ {names : List (Str × NameKind)} {x : Str}, names.lookup x = none →
    (names.map fun (n, k) => if (k == NameKind.free && env.scope.kind == .function && env.kindOf n == some .cell) then (n, NameKind.cell) else (n, k)).lookup x = none
  | [], _, _ => rfl
  | (n, k') :: r, x, h => by
    rw [List.map_cons]
    have hf : (x == n) = false := by
      cases hx : x == n with
      | false => rfl
      | true => rw [List.lookup_cons, hx] at h; cases h
    rw [List.lookup_cons, hf] at h
    have ih := lookup_relabel_none (env := env) h
    show List.lookup x ((if (k' == NameKind.free && env.scope.kind == .function && env.kindOf n == some .cell) = true then (n, NameKind.cell) else (n, k')) :: _) = _
    by_cases hc : (k' == NameKind.free && env.scope.kind == .function && env.kindOf n == some .cell) = true
    · rw [if_pos hc, List.lookup_cons, hf]; exact ih
    · rw [if_neg hc, List.lookup_cons, hf]; exact ih
structure CompG (X : Cx) (N : List Str) (scope : Scope) (jx : List (Option Nat)) : Prop where
  kind : scope.kind = .function
  cell : ∀ x ∈ scope.names, x.2 ≠ .cell
  names : ∀ x ∈ scope.names, x.2 = .local → scope.names.lookup x.1 = some .local
  xk : X.env.scope.kind = .function
  fr : ∀ x ∈ scope.names, x.2 = .free → X.env.scope.names.lookup x.1 = some .cell
  len : jx.length = N.length
  free : ∀ (i j : Nat) (x : Str), jx[i]? = some (some j) → N[i]? = some x → X.N[j]? = some x ∧ scope.names.lookup x = some .free
def freeOk (NX N : List Str) (scope : Scope) (jx : List (Option Nat)) : Bool := (jx.zip N).all fun p => match p.1 with
  | none => true
  | some j => decide (NX[j]? = some p.2) && decide (scope.names.lookup p.2 = some .free)
theorem compG {X : Cx} {N NX : List Str} {scope sc : Scope} {jx : List (Option Nat)} (e1 : X.env.scope = sc) (e2 : X.N = NX) (k : scope.kind = .function) (h1 : ∀ x ∈ scope.names, x.2 ≠ .cell) (h2 : ∀ x ∈ scope.names, x.2 = .local → scope.names.lookup x.1 = some .local)
    (h3 : sc.kind = .function) (h4 : ∀ x ∈ scope.names, x.2 = .free → sc.names.lookup x.1 = some .cell) (h5 : jx.length = N.length) (h6 : freeOk NX N scope jx = true) : CompG X N scope jx := by
  refine ⟨k, h1, h2, by rw [e1]; exact h3, by rw [e1]; exact h4, h5, fun i j x a b => ?_⟩
  rw [e2]
  unfold freeOk at h6
  rw [List.all_eq_true] at h6
  have z := h6 (some j, x) (List.mem_of_getElem? (i := i) (by rw [List.getElem?_zip_eq_some]; exact ⟨a, b⟩))
  simp only [Bool.and_eq_true, decide_eq_true_eq] at z
  exact z
section
variable {X : Cx} {N : List Str} {scope : Scope} {jx : List (Option Nat)}
theorem CompG.toF {pins : List (Addr × Obj)} {σ : L2.St} {H : Hp} {s : Shared} (cg : CompG X N scope jx) (I : Inv X pins σ H s) : ∃ cl, CompF X N scope cl jx := by
  obtain ⟨cl, h1, h2, h3⟩ := closureFor_cells (scope := scope) (env := X.env) fun p hp hf => I.ok.has p.1 (.inl (cg.fr p hp hf))
  have rel : ∀ x, scope.names.lookup x = some .free → (relabel scope X.env).names.lookup x = some .cell := fun x hx => by
    have z := lookup_relabel (env := X.env) hx
    have c : (NameKind.free == NameKind.free && X.env.scope.kind == .function && X.env.kindOf x == some .cell) = true := by
      have q : X.env.kindOf x = some .cell := cg.fr (x, .free) (PySem.mem_of_lookup hx) rfl
      rw [cg.xk, q]
      rfl
    rw [if_pos c] at z
    exact z
  refine ⟨cl, cg.kind, cg.cell, cg.names, h1, h2, fun x hx => ?_, cg.len, fun i j x a b => ?_⟩
  · cases e : scope.names.lookup x with
    | none =>
      have z : (relabel scope X.env).names.lookup x = none := lookup_relabel_none (env := X.env) e
      rw [z] at hx
      rcases hx with q | q <;> cases q
    | some k =>
      by_cases hk : k = .free
      · subst hk
        exact h3 (x, .free) (PySem.mem_of_lookup e) rfl
      · have z : (relabel scope X.env).names.lookup x = some (if (k == NameKind.free && X.env.scope.kind == .function && X.env.kindOf x == some .cell) then NameKind.cell else k) := lookup_relabel (env := X.env) e
        have c : (k == NameKind.free) = false := by
          cases q : k == NameKind.free with
          | false => rfl
          | true => exact absurd (eq_of_beq q) hk
        rw [c] at z
        simp only [Bool.false_and, Bool.false_eq_true, if_false] at z
        rw [z] at hx
        rcases hx with q | q
        · cases q
          exact absurd rfl (cg.cell (x, .cell) (PySem.mem_of_lookup e))
        · cases q
          exact absurd rfl hk
  · obtain ⟨f1, f2⟩ := cg.free i j x a b
    exact ⟨f1, cg.fr (x, .free) (PySem.mem_of_lookup f2) rfl, rel x f2⟩
theorem pe_compG {elt tg iter : Expr} {ifs : List Expr} {pos : Pos} {wi : TI} {g : TG} {tt : TT} {te : TE} (cg : CompG X N scope jx) (hc : X.calm = true) (hi : PI X tg iter wi)
    (hg : ∀ cl C s₀ H₀ ex pn, PG (cxF X N scope cl C s₀ H₀ ex pn) tg g) (ht : ∀ cl C s₀ H₀ ex pn, PTs (cxF X N scope cl C s₀ H₀ ex pn) ifs tt) (he : ∀ cl C s₀ H₀ ex pn, PE (cxF X N scope cl C s₀ H₀ ex pn) elt te)
    (hs : ∀ x, foldedSetIterable iter X.env x = pure x := by intro _; rfl) : PE X (.ListComp elt [⟨tg, iter, ifs, 0⟩] scope pos) (tCompF jx wi g tt te) := by
  intro pins s σ H Q I h
  obtain ⟨cl, cs⟩ := cg.toF I
  exact pe_compF cs hc hi (hg cl) (ht cl) (he cl) hs pins s σ H Q I h
end
end InkX

namespace InkX
open PySem PySem.Spec PyProof.Rows L2
/-! ### two clauses, with captured names -/
section
variable {X : Cx} {N : List Str} {scope : Scope} {cl : List (Str × Addr)} {jx : List (Option Nat)}
def tTurnsF2 (J : It) (acc : Addr) (g : TG) (tt : TT) (wi2 : TI) (g2 : TG) (tt2 : TT) (te : TE) (σ0 : L2.St) (H : Hp) (Q : VK) : Prop :=
  ∃ W : Nat → Nat → L2.St → Hp → Prop, (∃ m, W 0 m σ0 H) ∧ ∀ i m σ H, W i m σ H →
    (J.stop i H ∧ Q (.ref acc) H) ∨ (J.go i H ∧ ∃ Nx : L2.St → Hp → Prop, (∀ σ' H', Nx σ' H' → ∃ m', m' < m ∧ W (i + 1) m' σ' H') ∧ ∀ x H', J.yld i H x H' → g x σ H' fun σ2 H2 => tt σ2 H2 fun b H3 =>
      if b = true then tInner wi2 acc g2 tt2 te σ2 H3 Nx else Nx σ2 H3)
def tCompF2 (jx : List (Option Nat)) (wi : TI) (g : TG) (tt : TT) (wi2 : TI) (g2 : TG) (tt2 : TT) (te : TE) : TE := fun σ H Q => wi σ H fun J H1 => ∀ acc, H1 acc = none → tTurnsF2 J acc g tt wi2 g2 tt2 te (startF jx σ) (upd H1 acc (.lst [])) Q
theorem comp_core2 {elt tg iter tg2 iter2 : Expr} {ifs ifs2 : List Expr} {pos pos' : Pos} {wi wi2 : TI} {g g2 : TG} {tt tt2 : TT} {te : TE} (cs : CompF X N scope cl jx) (hc : X.calm = true) (hi : PI X tg iter wi)
    (hg : ∀ C s₀ H₀ ex pn, PG (cxF X N scope cl C s₀ H₀ ex pn) tg g) (ht : ∀ C s₀ H₀ ex pn, PTs (cxF X N scope cl C s₀ H₀ ex pn) ifs tt) (hi2 : ∀ C s₀ H₀ ex pn, PI (cxF X N scope cl C s₀ H₀ ex pn) tg2 iter2 wi2) (hg2 : ∀ C s₀ H₀ ex pn, PG (cxF X N scope cl C s₀ H₀ ex pn) tg2 g2) (ht2 : ∀ C s₀ H₀ ex pn, PTs (cxF X N scope cl C s₀ H₀ ex pn) ifs2 tt2) (he : ∀ C s₀ H₀ ex pn, PE (cxF X N scope cl C s₀ H₀ ex pn) elt te)
    (hs : ∀ x, foldedSetIterable iter X.env x = pure x) (hs2 : ∀ (env : Env) x, foldedSetIterable iter2 env x = pure x) {use : Option (Value → Sem Unit)} {Q' : Value → Shared → Prop} {Q : VK} {pins : List (Addr × Obj)} {s : Shared} {σ : L2.St} {H : Hp} (I : Inv X pins σ H s) (h : tCompF2 jx wi g tt wi2 g2 tt2 te σ H Q)
    (fin : ∀ (s3 : Shared) (H3 : Hp) (fp : List Addr) (acc : Addr) (σ6 : L2.St) (H6 : Hp) (s7 : Shared), Inv X pins σ H3 s3 → (∀ b ∈ fp, FpOk X pins H3 b) → Inv (cxF X N scope cl s3.heap.objs.size s3 H3 fp (X.pn ++ pins)) [] σ6 H6 s7 → Q (.ref acc) H6 →
      compPost (model X.prog X.w) X.A X.xe use Q' (.ref acc) s3.heap.objs.size (.ok .next) s7) :
    wpAny (model X.prog X.w) X.A (comprehension (.ListComp elt [⟨tg, iter, ifs, 0⟩, ⟨tg2, iter2, ifs2, 0⟩] scope pos) scope X.env pos' (newList []) false (eval iter X.env) use) Q' X.xe s := by
  refine wpAny_comprehension_free (use := use) rfl hs cs.clos cs.kind cs.names (thn (hi pins s σ H _ I h) fun v s1 h1 => thn h1 fun itv s2 h2 => ?_)
  obtain ⟨it, fp, tn, J, H2, e, I2, T, st2, f2, q⟩ := h2
  subst e
  refine wpAny_newObj_type (hd := by size_fits) ?_
  have hacc : H2 s2.heap.objs.size = none := I2.hok.fresh (Nat.le_refl _)
  have I3 : Inv X pins σ (upd H2 s2.heap.objs.size (.lst [])) { s2 with heap := s2.heap.push { cls := .type "list", data := .seq ([] : List Value).toArray }, toks := s2.toks } := I2.lnew (ys := []) .nil (Nat.zero_le _)
  have ftn : ∀ b ∈ fp, b < s2.heap.objs.size := fun b hb => by
    obtain ⟨o, ho, _⟩ := T.obj _ _ st2 b hb
    exact Heap.lt_size ho
  have f3 : ∀ b ∈ fp, FpOk X pins (upd H2 s2.heap.objs.size (.lst [])) b := fun b hb => ⟨by rw [upd_ne (Nat.ne_of_lt (ftn b hb))]; exact (f2 b hb).1, (f2 b hb).2⟩
  have k3 : ∀ b o, s2.heap.get? b = some o → (s2.heap.push { cls := .type "list", data := .seq ([] : List Value).toArray }).get? b = some o := fun b o e => Heap.get?_push_of_some _ e
  have q3 := q _ hacc
  generalize hs3 : ({ s2 with heap := s2.heap.push { cls := .type "list", data := .seq ([] : List Value).toArray }, toks := s2.toks } : Shared) = s3 at I3
  generalize hH3 : upd H2 s2.heap.objs.size (.lst []) = H3 at I3 f3 q3
  have hh3 : s3.heap = s2.heap.push { cls := .type "list", data := .seq ([] : List Value).toArray } := by rw [← hs3]
  have ft3 : ∀ b ∈ fp, b < s3.heap.objs.size := fun b hb => by rw [hh3, Heap.size_push]; exact Nat.lt_succ_of_lt (ftn b hb)
  have st3 : tn 0 s3.heap := T.keep _ _ _ st2 fun b _ o e => by rw [hh3]; exact k3 b o e
  show wpAny _ _ _ _ _ s3
  refine wpAny_newFunctionEnv cs.cell (fun y hy => by simp at hy) (fun h₁ hns hsb => ?_) cs.kind
  have kh : ∀ b o, s3.heap.get? b = some o → h₁.get? b = some o := fun b o e => hsb.extBut _ _ (Nat.ne_of_lt (Heap.lt_size e)) (Heap.get?_push_of_some _ e)
  have J0 : Inv (cxF X N scope cl s3.heap.objs.size s3 H3 fp (X.pn ++ pins)) [] (startF jx σ) H3 { s3 with heap := h₁, toks := s3.toks + ([] : List (Str × Value)).length } := comp_startF cs I3 f3 ft3 hns kh
  have st4 : tn 0 h₁ := T.keep _ _ _ st3 fun b _ o e => kh b o e
  obtain ⟨W, ⟨m0, w0⟩, turn⟩ := q3
  have stat : ∀ {H' : Hp}, (∀ b ∈ fp, H' b = none) → ∀ b ∈ fp, FpOk (cxF X N scope cl s3.heap.objs.size s3 H3 fp (X.pn ++ pins)) [] H' b := fun hn b hb => by
    refine ⟨hn b hb, Nat.ne_of_lt (ft3 b hb), fun z => ?_, .inl hb, fun x c e => (f3 b hb).2.2.2.2.1 x c (cs.sub x c e), fun p hp => ?_⟩
    · rcases List.mem_cons.mp (I3.stkSub b z) with e | e
      · exact (f3 b hb).2.1 e
      · exact (f3 b hb).2.2.1 e
    · have hp' : p ∈ X.pn ++ pins := by
        have z : p ∈ (X.pn ++ pins) ++ [] := hp
        simpa using z
      exact (f3 b hb).2.2.2.2.2 p hp'
  have loop : ∀ s5 : Shared, s5 = { s3 with heap := h₁, toks := s3.toks + ([] : List (Str × Value)).length } → codeAny (model X.prog X.w) X.A (.compLoop (.ListComp elt [⟨tg, iter, ifs, 0⟩, ⟨tg2, iter2, ifs2, 0⟩] scope pos) 0 (.ref it) (.ref s2.heap.objs.size) (cxF X N scope cl s3.heap.objs.size s3 H3 fp (X.pn ++ pins)).env)
      (compPost (model X.prog X.w) X.A X.xe use Q' (.ref s2.heap.objs.size) s3.heap.objs.size) s5 := by
    rintro s5 rfl
    refine loopOut (fun n s' => ∃ i σ' H', Inv (cxF X N scope cl s3.heap.objs.size s3 H3 fp (X.pn ++ pins)) [] σ' H' s' ∧ tn i s'.heap ∧ (∀ b ∈ fp, H' b = none) ∧ W i n σ' H') (hs2 _) ?_ m0 ⟨0, _, H3, J0, st4, fun b hb => (f3 b hb).1, w0⟩
    rintro n s6 ⟨i, σ6, H6, I6, st6, fr6, w6⟩
    rcases turn i n σ6 H6 w6 with ⟨stop, qn⟩ | ⟨go, Nx, hN, step⟩
    · refine thn (T.done (cxF X N scope cl s3.heap.objs.size s3 H3 fp (X.pn ++ pins)) rfl rfl rfl hc i [] s6 σ6 H6 _ I6 (stat fr6) st6 stop) fun r s7 ⟨hr, I7⟩ => ?_
      subst hr
      exact fin s3 H3 fp _ σ6 H6 s7 I3 f3 I7 qn
    · refine thn (T.item (cxF X N scope cl s3.heap.objs.size s3 H3 fp (X.pn ++ pins)) rfl rfl rfl hc i [] s6 σ6 H6 _ I6 (stat fr6) st6 go) fun r s7 ⟨u, hr, h7⟩ => ?_
      subst hr
      refine thn h7 fun _ s8 ⟨x, H8, I8, r8, y8, st8, fr8⟩ => ?_
      have I8' := I8.pinned (stat fr8) (T.obj _ _ st8)
      refine thn (hg _ _ _ _ _ _ s8 σ6 H8 x u _ I8' r8 (step x H8 y8)) fun _ s9 ⟨σ9, H9, I9, q9⟩ => ?_
      refine thn (ht _ _ _ _ _ _ s9 σ9 H9 _ I9 q9) fun ok s10 ⟨H10, I10, q10⟩ => ?_
      have again : ∀ {σ7 : L2.St} {H7 : Hp} {s11 : Shared}, Inv (cxF X N scope cl s3.heap.objs.size s3 H3 fp (X.pn ++ pins)) ([] ++ pinsAt fp s8.heap) σ7 H7 s11 → Nx σ7 H7 → ∃ m, m < n ∧ ∃ i σ' H', Inv (cxF X N scope cl s3.heap.objs.size s3 H3 fp (X.pn ++ pins)) [] σ' H' s11 ∧ tn i s11.heap ∧ (∀ b ∈ fp, H' b = none) ∧ W i m σ' H' := fun {σ7 H7 s11} I7 n7 => by
        obtain ⟨m', hm, w7⟩ := hN σ7 H7 n7
        refine ⟨m', hm, i + 1, σ7, H7, I7.unpinned, T.keep _ _ _ st8 fun b hb o e => (I7.pin (b, o) (List.mem_append_right _ (List.mem_append_right _ (mem_pinsAt hb e)))).1, fun b hb => ?_, w7⟩
        obtain ⟨o, e, d⟩ := T.obj _ _ st8 b hb
        exact (I7.pin (b, o) (List.mem_append_right _ (List.mem_append_right _ (mem_pinsAt hb e)))).2.1
      cases ok with
      | false =>
        rw [if_neg Bool.false_ne_true] at q10
        exact again I10 q10
      | true =>
        rw [if_pos rfl] at q10
        refine thn (inner_run (Y := cxF X N scope cl s3.heap.objs.size s3 H3 fp (X.pn ++ pins)) hc rfl (hi2 _ _ _ _ _) (hg2 _ _ _ _ _) (ht2 _ _ _ _ _) (he _ _ _ _ _) I10 q10) fun x s11 h11 => thn h11 fun it2 s12 h12 => codeAny_mono h12 fun r s13 ⟨hr, σ', H', I13, n13⟩ => ⟨hr, again I13 n13⟩
  exact codeAny_compStart_list (loop _ rfl) (T.self _ _ _ _ _ st4 (loop _ rfl))
theorem pe_compG2 {elt tg iter tg2 iter2 : Expr} {ifs ifs2 : List Expr} {pos : Pos} {wi wi2 : TI} {g g2 : TG} {tt tt2 : TT} {te : TE} (cg : CompG X N scope jx) (hc : X.calm = true) (hi : PI X tg iter wi)
    (hg : ∀ cl C s₀ H₀ ex pn, PG (cxF X N scope cl C s₀ H₀ ex pn) tg g) (ht : ∀ cl C s₀ H₀ ex pn, PTs (cxF X N scope cl C s₀ H₀ ex pn) ifs tt)
    (hi2 : ∀ cl C s₀ H₀ ex pn, PI (cxF X N scope cl C s₀ H₀ ex pn) tg2 iter2 wi2) (hg2 : ∀ cl C s₀ H₀ ex pn, PG (cxF X N scope cl C s₀ H₀ ex pn) tg2 g2) (ht2 : ∀ cl C s₀ H₀ ex pn, PTs (cxF X N scope cl C s₀ H₀ ex pn) ifs2 tt2) (he : ∀ cl C s₀ H₀ ex pn, PE (cxF X N scope cl C s₀ H₀ ex pn) elt te)
    (hs : ∀ x, foldedSetIterable iter X.env x = pure x := by intro _; rfl) (hs2 : ∀ (env : Env) x, foldedSetIterable iter2 env x = pure x := by intro _ _; rfl) :
    PE X (.ListComp elt [⟨tg, iter, ifs, 0⟩, ⟨tg2, iter2, ifs2, 0⟩] scope pos) (tCompF2 jx wi g tt wi2 g2 tt2 te) := by
  intro pins s σ H Q I h
  obtain ⟨cl, cs⟩ := cg.toF I
  rw [eval_ListComp]
  refine comp_core2 (use := none) cs hc hi (hg cl) (ht cl) (hi2 cl) (hg2 cl) (ht2 cl) (he cl) hs hs2 I h fun s3 H3 fp acc σ6 H6 s7 I3 f3 I7 qn => ?_
  obtain ⟨m, hm, _⟩ := I7.loc
  exact ⟨m, hm, fun h' hsb => ⟨.ref acc, H6, comp_outF I3 (comp_midF I3 f3 I7) I7.free hsb, rfl, qn⟩⟩
theorem compF2_list {K : PySem.W.Frag} {a acc : Addr} {xs : List V} {g : TG} {tt : TT} {wi2 : TI} {g2 : TG} {tt2 : TT} {te : TE} {σ0 : L2.St} {H : Hp} {Q : VK} (Pv : Nat → L2.St → Hp → Prop) (h0 : Pv 0 σ0 H) (hl : ∀ i σ H, i ≤ xs.length → Pv i σ H → SqL K H a xs)
    (hs : ∀ i x σ H, xs[i]? = some x → Pv i σ H → g x σ H fun σ2 H2 => tt σ2 H2 fun b H3 => if b = true then tInner wi2 acc g2 tt2 te σ2 H3 (Pv (i + 1)) else Pv (i + 1) σ2 H3)
    (hd : ∀ σ H, Pv xs.length σ H → Q (.ref acc) H) : tTurnsF2 (Itl K a) acc g tt wi2 g2 tt2 te σ0 H Q := by
  refine ⟨fun i m σ H => m = xs.length - i ∧ i ≤ xs.length ∧ Pv i σ H, ⟨xs.length, by simp, Nat.zero_le _, h0⟩, ?_⟩
  rintro i m σ H ⟨rfl, hi, p⟩
  have q := hl i σ H hi p
  by_cases hlt : i < xs.length
  · refine .inr ⟨⟨xs, xs[i], q, by simp [hlt]⟩, Pv (i + 1), fun σ' H' p' => ⟨xs.length - (i + 1), by omega, rfl, hlt, p'⟩, fun x H' y => ?_⟩
    obtain ⟨e, y⟩ := y
    subst e
    exact hs i x σ _ (y xs q) p
  · have e : i = xs.length := by omega
    subst e
    exact .inl ⟨⟨xs, q, Nat.le_refl _⟩, hd σ H p⟩
theorem inner_list {K : PySem.W.Frag} {a acc : Addr} {xs : List V} {g : TG} {tt : TT} {te : TE} {σ : L2.St} {H : Hp} {Nx : L2.St → Hp → Prop} (Pv : Nat → L2.St → Hp → Prop) (h0 : Pv 0 σ H) (hl : ∀ i σ H, i ≤ xs.length → Pv i σ H → SqL K H a xs)
    (hs : ∀ i x σ H, xs[i]? = some x → Pv i σ H → g x σ H fun σ2 H2 => tt σ2 H2 fun b H3 => if b = true then te σ2 H3 fun v H4 => ∃ ys, H4 acc = some (.lst ys) ∧ ys.length < sizeLine ∧ Pv (i + 1) σ2 (upd H4 acc (.lst (ys ++ [v]))) else Pv (i + 1) σ2 H3)
    (hd : ∀ σ H, Pv xs.length σ H → Nx σ H) : ∃ W : Nat → Nat → L2.St → Hp → Prop, (∃ m, W 0 m σ H) ∧ ∀ i m σ H, W i m σ H →
    ((Itl K a).stop i H ∧ Nx σ H) ∨ ((Itl K a).go i H ∧ ∃ N2 : L2.St → Hp → Prop, (∀ σ' H', N2 σ' H' → ∃ m', m' < m ∧ W (i + 1) m' σ' H') ∧ ∀ x H', (Itl K a).yld i H x H' → g x σ H' fun σ2 H2 => tt σ2 H2 fun b H3 =>
      if b = true then te σ2 H3 fun v H4 => ∃ xs, H4 acc = some (.lst xs) ∧ xs.length < sizeLine ∧ N2 σ2 (upd H4 acc (.lst (xs ++ [v]))) else N2 σ2 H3) := by
  refine ⟨fun i m σ H => m = xs.length - i ∧ i ≤ xs.length ∧ Pv i σ H, ⟨xs.length, by simp, Nat.zero_le _, h0⟩, ?_⟩
  rintro i m σ H ⟨rfl, hi, p⟩
  have q := hl i σ H hi p
  by_cases hlt : i < xs.length
  · refine .inr ⟨⟨xs, xs[i], q, by simp [hlt]⟩, Pv (i + 1), fun σ' H' p' => ⟨xs.length - (i + 1), by omega, rfl, hlt, p'⟩, fun x H' y => ?_⟩
    obtain ⟨e, y⟩ := y
    subst e
    exact hs i x σ _ (y xs q) p
  · have e : i = xs.length := by omega
    subst e
    exact .inl ⟨⟨xs, q, Nat.le_refl _⟩, hd σ H p⟩
end
end InkX

namespace InkX
open PySem PySem.Spec PyProof.Rows L2
open AutoSeq1 (wpAny_loadPart')
section
variable {prog : Program} {w : World} {A : Around} {E : Value → Shared → Prop} {s : Shared} {κ : Type} [DecidableEq κ] {knd : KeyKind prog w κ}
theorem hint_dict {d : Addr} {Q : Bool → Shared → Prop} (hT : s.TypeIs (.ref d) "dict") (h : Q false s) : wpAny (model prog w) A (Builtin.List.listLengthHint (.ref d)) Q E s := by
  unfold Builtin.List.listLengthHint
  refine wpAny_bind (wpAny_specialOf hT F.slot_dict_len.lookup ?_)
  generalize hid : ("dict.__len__" : String) = id0
  wp_delta
  rw [show splitId id0 = some ("dict", "__len__") by subst hid; decide +kernel]
  subst hid
  refine wpAny_bind (wpAny_isInstance (T := "dict") (b := true) hT (by rw [isSubtype_type]; kernel_rfl) ?_)
  refine wpAny_ite_split (fun q => absurd q (by decide)) fun _ => ?_
  refine wpAny_ite_split (fun _ => ?_) fun q => absurd (by decide +kernel) q
  exact wpAny_bind (wpAny_typeOf hT (wpAny_pure h))
theorem extend_dict {R : Result → Shared → Prop} {d : Addr} {kvs : List (κ × Value)} {ep : Nat} (hh : A.handled = none) (hs : (d == sysModules) = false) (hd : s.heap.DictAt knd d kvs ep) (hlen : kvs.length ≤ sizeLine) (S : Addr) (res : Value) (c₀ : Nat) (hS : s.heap.get? S = some { cls := .type "list", data := .seq #[] c₀ })
    (hR : ∀ h' tk acc' c', (∀ b o, b ≠ S → s.heap.get? b = some o → h'.get? b = some o) → h'.get? S = some { cls := .type "list", dict := none, data := .seq acc' c', slots := #[] } →
      ItemsOf (fun i v => ∃ k x, kvs[i]? = some (k, x) ∧ knd.is k v = true) acc' kvs.length → R (.ok (.ret res)) { s with heap := h', toks := tk }) :
    wpAny (model prog w) A.in1 (Builtin.List.listExtendWith (.ref S) (.ref d) res)
      (fun fin s' => match fin with | .done f => R (.ok f) s' | .again c' => c'.quiet = true ∧ codeAny (model prog w) A c' R s') (fun e s' => R (.error e) s') s := by
  have hT : s.TypeIs (.ref d) "dict" := by
    obtain ⟨o, es, ho, hx, _⟩ := hd
    exact ⟨o, ho, hx.1⟩
  have hSd : S ≠ d := fun e => by
    obtain ⟨o, es, ho, hx, hda, _⟩ := hd
    rw [← e, hS] at ho
    cases ho
    cases hda
  have hSlt : S < s.heap.objs.size := Heap.lt_size hS
  have hdlt : d < s.heap.objs.size := by
    obtain ⟨o, es, ho, _⟩ := hd
    exact Heap.lt_size ho
  have hSI : S ≠ s.heap.objs.size := Nat.ne_of_lt hSlt
  have hdI : d ≠ s.heap.objs.size := Nat.ne_of_lt hdlt
  have W := (Walks.dictKeys (prog := prog) (w := w) (A := A.in1) (knd := knd) hh s.heap.objs.size d hdI kvs ep).toS
  unfold Builtin.List.listExtendWith
  refine wpAny_bind (wpAny_typeOf hT ?_)
  have h1 : Builtin.List.listSameRef (.ref S) (.ref d) = false := by simp [Builtin.List.listSameRef, hSd]
  have h2 : (Value.type "dict" == Value.type "list") = false := by decide
  have h3 : (Value.type "dict" == Value.type "tuple") = false := by decide
  simp only [h1, h2, h3, Bool.or_false, Bool.false_eq_true, if_false]
  refine wpAny_bind (wpAny_pyIter_dict hs hd ?_)
  have hit : (s.heap.push { cls := .type "dict_keyiterator", data := .fields #[.ref d, .int 0 0, .int kvs.length 0, .int ep 0] }).IsKeyIter s.heap.objs.size d 0 kvs.length ep := ⟨_, Heap.get?_push_size _ rfl, rfl, rfl⟩
  have grow : ∀ b o, s.heap.get? b = some o → (s.heap.push { cls := .type "dict_keyiterator", data := .fields #[.ref d, .int 0 0, .int kvs.length 0, .int ep 0] }).get? b = some o := fun b o e => Heap.get?_push_of_some _ e
  generalize s.heap.push { cls := .type "dict_keyiterator", data := .fields #[.ref d, .int 0 0, .int kvs.length 0, .int ep 0] } = g1 at hit grow
  have hT1 : ({ s with heap := g1 } : Shared).TypeIs (.ref d) "dict" := by
    obtain ⟨o, ho, hc⟩ := hT
    exact ⟨o, grow _ _ ho, hc⟩
  refine wpAny_bind (wpAny_holding (hint_dict hT1 ?_))
  refine wpAny_ite_split (fun _ => ?_) fun q => absurd (by decide +kernel) q
  refine wpAny_bind (wpAny_rule (wpAny_bind ?_))
  show wpAny _ A.in1 (updateSeq S (fun z => z.push .none) >>= fun _ => updateSeq S fun z => z.pop) _ _ _
  have g1S := grow _ _ hS
  refine wpAny_bind (wpAny_updateSeq g1S rfl ?_)
  have g2S := Heap.get?_update_self (Obj.mapSeq fun z => z.push Value.none) g1S rfl
  refine wpAny_updateSeq (hz := by seq_fits) g2S rfl ?_
  have g3S := Heap.get?_update_self (Obj.mapSeq fun z => z.pop) g2S rfl
  have oth : ∀ b o, b ≠ S → g1.get? b = some o → ((g1.update S (Obj.mapSeq fun z => z.push Value.none)).update S (Obj.mapSeq fun z => z.pop)).get? b = some o := fun b o nb e =>
    (Heap.get?_update_other _ _ nb.symm).trans ((Heap.get?_update_other _ _ nb.symm).trans e)
  refine wpAny_pure ⟨plainId_quiet F.plain_extend_loop _, codeAny_extend_loopS W hlen S (fun hm => ?_) res kvs.length 0 _ #[] _ rfl (Nat.zero_le _) ⟨hit.at fun o e => oth _ o hSI.symm e, (hd.at' fun o e => oth _ o hSd.symm (grow _ o e))⟩ g3S (ItemsOf.nil _) fun s' acc' c' hm hS' hacc => ?_⟩
  · rcases List.mem_cons.mp hm with e | e
    · exact hSI e
    · exact hSd (List.mem_singleton.mp e)
  · rw [Moved.eq_with hm]
    refine hR s'.heap s'.toks acc' c' (fun b o nb e => hm.heap b o (fun q => ?_) (oth b o nb (grow b o e))) hS' hacc
    rcases List.mem_cons.mp q with z | z
    · exact nb z
    · exact absurd (Heap.lt_size e) (by rw [List.mem_singleton.mp z]; exact Nat.lt_irrefl _)
theorem call_list_dict {Q : Value → Shared → Prop} {d : Addr} {kvs : List (κ × Value)} {ep : Nat} (hh : A.handled = none) (hs : (d == sysModules) = false) (hd : s.heap.DictAt knd d kvs ep) (hlen : kvs.length ≤ sizeLine)
    (hQ : ∀ h' tk acc' c', (∀ b o, s.heap.get? b = some o → h'.get? b = some o) → h'.get? s.heap.objs.size = some { cls := .type "list", dict := none, data := .seq acc' c', slots := #[] } →
      ItemsOf (fun i v => ∃ k x, kvs[i]? = some (k, x) ∧ knd.is k v = true) acc' kvs.length → Q (.ref s.heap.objs.size) { s with heap := h', toks := tk }) :
    wpAny (model prog w) A (call (.type "list") [.ref d]) Q E s := by
  refine callType_codes (Q₁ := fun u s1 => u = .ref s.heap.objs.size ∧ s1 = { s with heap := s.heap.push { cls := .type "list", data := .seq #[] } }) F.called_list (F.typeCall_list_1 _) F.entry_list_init (code_list_new _ ⟨rfl, rfl⟩) fun u s1 e1 => ?_
  obtain ⟨rfl, rfl⟩ := e1
  have hS : (s.heap.push { cls := .type "list", data := .seq #[] }).get? s.heap.objs.size = some { cls := .type "list", data := .seq #[] } := Heap.get?_push_size _ rfl
  have hd1 : (s.heap.push { cls := .type "list", data := .seq #[] }).DictAt knd d kvs ep := hd.at' fun o e => Heap.get?_push_of_some _ e
  have hdn : d ≠ s.heap.objs.size := by
    obtain ⟨o, es, ho, _⟩ := hd
    exact Nat.ne_of_lt (Heap.lt_size ho)
  refine ⟨⟨_, hS, rfl⟩, F.args_list_init_2 _ _, ?_⟩
  show wpAny _ _ (do let old ← Builtin.List.listItems (.ref s.heap.objs.size); Builtin.List.listUpdate (.ref s.heap.objs.size) (fun _ => #[]); letGo old.toList.reverse; Builtin.List.listExtendWith (.ref s.heap.objs.size) (.ref d) .none) _ _ _
  refine wpAny_bind ?_
  unfold Builtin.List.listItems
  refine wpAny_bind (wpAny_seqItems hS rfl (wpAny_pure ?_))
  show wpAny _ _ (updateSeq s.heap.objs.size (fun _ => #[]) >>= fun _ => letGo (#[] : Array Value).toList.reverse >>= fun _ => Builtin.List.listExtendWith (.ref s.heap.objs.size) (.ref d) .none) _ _ _
  refine wpAny_bind (wpAny_updateSeq hS rfl ?_)
  have hS2 := Heap.get?_update_self (Obj.mapSeq fun _ => (#[] : Array Value)) hS rfl
  have oth : ∀ b o, b ≠ s.heap.objs.size → (s.heap.push { cls := .type "list", data := .seq #[] }).get? b = some o → ((s.heap.push { cls := .type "list", data := .seq #[] }).update s.heap.objs.size (Obj.mapSeq fun _ => (#[] : Array Value))).get? b = some o := fun b o nb e => (Heap.get?_update_other _ _ nb.symm).trans e
  refine wpAny_bind (wpAny_letGo ?_)
  refine extend_dict (A := A.in1) (knd := knd) hh hs (hd1.at' fun o e => oth _ o hdn e) hlen s.heap.objs.size .none _ hS2 fun h' tk acc' c' hk hS' hacc => ?_
  exact ⟨rfl, hQ h' tk acc' c' (fun b o e => hk b o (Nat.ne_of_lt (Heap.lt_size e)) (oth b o (Nat.ne_of_lt (Heap.lt_size e)) (Heap.get?_push_of_some _ e))) hS' hacc⟩
end
theorem call_listD {X : Cx} (hc : X.calm = true) : CallR X (.type "list") (fun xs H Q => ∃ (d : Addr) (kvs : List (Key × V)), xs = [.ref d] ∧ H d = some (.dK kvs) ∧ ∀ l, H l = none → Q (.ref l) (upd H l (.lst (kvs.map fun p => kV p.1)))) := by
  intro pins s σ H xs us Q I r h
  obtain ⟨d, kvs, rfl, hd, q⟩ := h
  obtain ⟨u, rfl, rx⟩ := r.one
  cases (show u = Value.ref d from rx)
  obtain ⟨hz, hs, vs, kv, o, es, ep, ho, hx⟩ := (show ObjOk X.prog X.w H s.heap d (.dK kvs) from I.hok d _ hd)
  have len := kv.length
  refine call_list_dict (I.ok.hd hc) hs ⟨o, es, ho, hx⟩ (by omega) fun h' tk acc' c' hk hS hacc => ?_
  refine ⟨.ref s.heap.objs.size, _, I.laid (o := .lst (kvs.map fun p => kV p.1)) (t' := tk) hk (Nat.le_refl _) ⟨by rw [List.length_map]; exact hz, acc'.toList, c', ?_, by simpa using hS⟩, rfl, q _ (I.hok.fresh (Nat.le_refl _))⟩
  have key : ∀ (kvs : List (Key × V)) (vs : List (Key × Value)) (us : List Value), KV kvs vs → us.length = vs.length → (∀ (j : Nat) (v : Value), us[j]? = some v → ∃ k x, vs[j]? = some (k, x) ∧ keyIs k v = true) → Vals (kvs.map fun p => kV p.1) us := by
    intro kvs
    induction kvs with
    | nil =>
      intro vs us kv hl _
      cases kv
      cases us with
      | nil => exact .nil
      | cons => simp at hl
    | cons p r ih =>
      intro vs us kv hl hp
      cases kv with
      | @cons _ q _ vs' h1 h2 =>
      cases us with
      | nil => simp at hl
      | cons u us =>
        obtain ⟨k, x, e1, e2⟩ := hp 0 u rfl
        have e3 : q = (k, x) := by simpa using e1
        subst e3
        refine .cons ?_ (ih vs' us h2 (by simpa using hl) fun j v e => ?_)
        · show L2.RelV (kV p.1) u
          rw [show p.1 = k from h1.1]
          rcases keyIs_shape e2 with ⟨i, t, rfl, rfl⟩ | ⟨i, t, rfl, rfl⟩
          · exact ⟨t, rfl⟩
          · exact ⟨t, rfl⟩
        · obtain ⟨k', x', e4, e5⟩ := hp (j + 1) v (by simpa using e)
          exact ⟨k', x', by simpa using e4, e5⟩
  exact key kvs vs acc'.toList kv (by simpa using hacc.1) fun j v e => hacc.2 j v (by simpa using e)
end InkX

namespace InkF
open PySem PySem.Spec PyProof.Rows L2 InkX Ink
section
variable {X : Cx}
/-! ### list.insert -/
/-! ### deep equality -/
end
end InkF

namespace Ink
open PySem PySem.Spec PyProof.Rows L2 InkX InkE InkF
/-! ### two lists side by side -/
inductive All2 {α β : Type} (R : α → β → Prop) : List α → List β → Prop
  | nil : All2 R [] []
  | cons {a : α} {b : β} {as : List α} {bs : List β} : R a b → All2 R as bs → All2 R (a :: as) (b :: bs)
section
variable {α β : Type} {R R' : α → β → Prop} {as : List α} {bs : List β} {a : α} {b : β}
theorem All2.len : ∀ {as : List α} {bs : List β}, All2 R as bs → as.length = bs.length
  | _, _, .nil => rfl
  | _, _, .cons _ t => by rw [List.length_cons, List.length_cons, t.len]
theorem All2.get : ∀ {as : List α} {bs : List β} {i : Nat}, All2 R as bs → as[i]? = some a → ∃ b, bs[i]? = some b ∧ R a b
  | _, _, _, .nil, h => by simp at h
  | _, _, 0, .cons r _, h => by simp at h; subst h; exact ⟨_, rfl, r⟩
  | _, _, i + 1, .cons _ t, h => by simp at h; simpa using t.get h
theorem All2.get' : ∀ {as : List α} {bs : List β} {i : Nat}, All2 R as bs → bs[i]? = some b → ∃ a, as[i]? = some a ∧ R a b
  | _, _, _, .nil, h => by simp at h
  | _, _, 0, .cons r _, h => by simp at h; subst h; exact ⟨_, rfl, r⟩
  | _, _, i + 1, .cons _ t, h => by simp at h; simpa using t.get' h
theorem All2.snoc : ∀ {as : List α} {bs : List β}, All2 R as bs → R a b → All2 R (as ++ [a]) (bs ++ [b])
  | _, _, .nil, h => .cons h .nil
  | _, _, .cons r t, h => .cons r (t.snoc h)
theorem All2.mono : ∀ {as : List α} {bs : List β}, (∀ a b, R a b → R' a b) → All2 R as bs → All2 R' as bs
  | _, _, _, .nil => .nil
  | _, _, h, .cons r t => .cons (h _ _ r) (t.mono h)
theorem All2.set : ∀ {as : List α} {bs : List β} (i : Nat), All2 R as bs → R a b → All2 R (as.set i a) (bs.set i b)
  | _, _, _, .nil, _ => .nil
  | _, _, 0, .cons _ t, h => .cons h t
  | _, _, i + 1, .cons r t, h => .cons r (t.set i h)
theorem All2.split : ∀ {as : List α} {bs : List β}, All2 R as (bs ++ [b]) → ∃ as' a, as = as' ++ [a] ∧ All2 R as' bs ∧ R a b
  | _, [], .cons r .nil => ⟨[], _, rfl, .nil, r⟩
  | _, c :: bs, .cons r t => by
    obtain ⟨as', a, rfl, t', r'⟩ := t.split
    exact ⟨_ :: as', a, rfl, .cons r t', r'⟩
end
/-! ### items -/
inductive Item where
  | win (n : Int)
  | ink (a b : Int)
def itemVs : Item → List V
  | .win n => [.str "win", .int n]
  | .ink a b => [.str "ink", .int a, .int b]
def ItemAt (H : Hp) (v : V) (it : Item) : Prop := ∃ a, v = .ref a ∧ H a = some (.tup (itemVs it))
theorem ItemAt.same {H H' : Hp} {v : V} {it : Item} (s : Same H H') : ItemAt H v it → ItemAt H' v it := fun ⟨a, e, h⟩ => ⟨a, e, s _ _ h⟩
theorem ItemAt.keep {H H' : Hp} {v : V} {it : Item} {q : Addr} {xs : List V} (hq : H q = some (.lst xs)) (k : Keep q H H') : ItemAt H v it → ItemAt H' v it := fun ⟨a, e, h⟩ => ⟨a, e, k a _ h (by
  intro z
  rw [z, hq] at h
  cases h)⟩
def ItemsAt (H : Hp) (v : V) (its : List Item) : Prop := ∃ a vs, v = .ref a ∧ H a = some (.lst vs) ∧ All2 (ItemAt H) vs its
theorem ItemsAt.same {H H' : Hp} {v : V} {its : List Item} (s : Same H H') : ItemsAt H v its → ItemsAt H' v its := fun ⟨a, vs, e, h, t⟩ => ⟨a, vs, e, s _ _ h, t.mono fun _ _ => ItemAt.same s⟩
def SheetsAt (H : Hp) (r : Addr) (rows : List (List Item)) : Prop := ∃ vs, H r = some (.lst vs) ∧ All2 (ItemsAt H) vs rows
theorem SheetsAt.same {H H' : Hp} {r : Addr} {rows : List (List Item)} (s : Same H H') : SheetsAt H r rows → SheetsAt H' r rows := fun ⟨vs, h, t⟩ => ⟨vs, s _ _ h, t.mono fun _ _ => ItemsAt.same s⟩
theorem ItemAt.eqv {H : Hp} {x y : V} {it : Item} (n : Nat) (h1 : ItemAt H x it) (h2 : ItemAt H y it) : Eqv H (n + 2) x y := by
  obtain ⟨a, rfl, e1⟩ := h1
  obtain ⟨b, rfl, e2⟩ := h2
  refine .inr ⟨false, a, b, _, _, rfl, rfl, e1, e2, rfl, fun i u v eu ev => ?_⟩
  rw [eu] at ev
  cases ev
  cases it with
  | win n =>
    match i, eu with
    | 0, e => cases e; exact .inl ⟨rfl, rfl⟩
    | 1, e => cases e; exact .inl ⟨rfl, rfl⟩
    | k + 2, e => simp [itemVs] at e
  | ink p q =>
    match i, eu with
    | 0, e => cases e; exact .inl ⟨rfl, rfl⟩
    | 1, e => cases e; exact .inl ⟨rfl, rfl⟩
    | 2, e => cases e; exact .inl ⟨rfl, rfl⟩
    | k + 3, e => simp [itemVs] at e
theorem ItemsAt.eqv {H : Hp} {x y : V} {its : List Item} (n : Nat) (h1 : ItemsAt H x its) (h2 : ItemsAt H y its) : Eqv H (n + 3) x y := by
  obtain ⟨a, vs, rfl, e1, t1⟩ := h1
  obtain ⟨b, us, rfl, e2, t2⟩ := h2
  refine .inr ⟨true, a, b, _, _, rfl, rfl, e1, e2, by rw [t1.len, t2.len], fun i u v eu ev => ?_⟩
  obtain ⟨z, ez, r1⟩ := t1.get eu
  obtain ⟨z', ez', r2⟩ := t2.get ev
  rw [ez] at ez'
  cases ez'
  exact r1.eqv n r2
theorem SheetsAt.eqv {H : Hp} {x y : Addr} {rows : List (List Item)} (n : Nat) (h1 : SheetsAt H x rows) (h2 : SheetsAt H y rows) : Eqv H (n + 4) (.ref x) (.ref y) := by
  obtain ⟨vs, e1, t1⟩ := h1
  obtain ⟨us, e2, t2⟩ := h2
  refine .inr ⟨true, x, y, _, _, rfl, rfl, e1, e2, by rw [t1.len, t2.len], fun i u v eu ev => ?_⟩
  obtain ⟨z, ez, r1⟩ := t1.get eu
  obtain ⟨z', ez', r2⟩ := t2.get ev
  rw [ez] at ez'
  cases ez'
  exact r1.eqv n r2
def winsE (es : List Int) : List Int := es.filterMap fun e => if e < 0 then some (-1 - e) else none
theorem mem_winsE {es : List Int} {y : Int} : y ∈ winsE es ↔ 0 ≤ y ∧ -1 - y ∈ es := by
  unfold winsE
  rw [List.mem_filterMap]
  constructor
  · rintro ⟨e, he, h⟩
    by_cases h0 : e < 0
    · rw [if_pos h0] at h
      cases h
      exact ⟨by omega, by have z : -1 - (-1 - e) = e := by omega
                          rw [z]; exact he⟩
    · rw [if_neg h0] at h
      cases h
  · rintro ⟨h0, h1⟩
    refine ⟨-1 - y, h1, ?_⟩
    rw [if_pos (by omega)]
    congr 1
    omega
/-! ### the windows of rows of entries, and where they lead -/
def Nxt (rows : List (List Int)) (x y : Int) : Prop := 0 ≤ x ∧ ∃ es, rows[x.toNat]? = some es ∧ y ∈ winsE es
inductive Reach (E : Int → Int → Prop) (s : Int) : Int → Prop
  | one {y : Int} : E s y → Reach E s y
  | step {y z : Int} : Reach E s y → E y z → Reach E s z
/-- all windows are upon sheets that are there -/
def Sound (rows : List (List Int)) : Prop := ∀ es ∈ rows, ∀ y ∈ winsE es, y < rows.length
theorem Sound.nxt {rows : List (List Int)} (h : Sound rows) {x y : Int} (e : Nxt rows x y) : 0 ≤ y ∧ y < rows.length := by
  obtain ⟨_, es, he, hy⟩ := e
  exact ⟨(mem_winsE.mp hy).1, h es (List.mem_of_getElem? he) y hy⟩
/-- a walk: from its first sheet on, window by window -/
def Walk (E : Int → Int → Prop) (s : Int) (w : List Int) : Prop := w[0]? = some s ∧ ∀ (i : Nat) (x y : Int), w[i]? = some x → w[i + 1]? = some y → E x y
theorem Walk.one (E : Int → Int → Prop) (s : Int) : Walk E s [s] := ⟨rfl, fun i x y _ h => by simp at h⟩
theorem Walk.snoc {E : Int → Int → Prop} {s e y : Int} {w : List Int} (h : Walk E s w) (hl : w.getLast? = some e) (he : E e y) : Walk E s (w ++ [y]) := by
  obtain ⟨h0, h1⟩ := h
  have hw : w ≠ [] := by intro z; rw [z] at hl; cases hl
  have hpos : 0 < w.length := by cases w with | nil => exact absurd rfl hw | cons _ _ => simp
  refine ⟨by rw [List.getElem?_append_left hpos]; exact h0, fun i x z hx hz => ?_⟩
  by_cases c : i + 1 < w.length
  · rw [List.getElem?_append_left c] at hz
    rw [List.getElem?_append_left (by omega)] at hx
    exact h1 i x z hx hz
  · have c2 : i + 1 = w.length := by
      have : i + 1 < (w ++ [y]).length := by
        rcases Nat.lt_or_ge (i + 1) (w ++ [y]).length with q | q
        · exact q
        · rw [List.getElem?_eq_none q] at hz; cases hz
      rw [List.length_append, List.length_singleton] at this
      omega
    rw [c2, List.getElem?_append_right (Nat.le_refl _), Nat.sub_self] at hz
    rw [List.getElem?_append_left (by omega)] at hx
    rw [List.getLast?_eq_getElem?] at hl
    have : i = w.length - 1 := by omega
    rw [this, hl] at hx
    cases hx
    cases hz
    exact he
theorem Walk.reach {E : Int → Int → Prop} {s : Int} {w : List Int} (h : Walk E s w) : ∀ (i : Nat) (y : Int), w[i + 1]? = some y → Reach E s y := by
  intro i
  induction i with
  | zero => intro y hy; exact .one (h.2 0 s y h.1 hy)
  | succ i ih =>
    intro y hy
    have : ∃ x, w[i + 1]? = some x := by
      rcases Nat.lt_or_ge (i + 1) w.length with q | q
      · exact ⟨w[i + 1], List.getElem?_eq_getElem q⟩
      · rw [List.getElem?_eq_none (by omega)] at hy; cases hy
    obtain ⟨x, hx⟩ := this
    exact .step (ih x hx) (h.2 _ _ _ hx hy)
/-! ### counting what is not seen -/
/-! ### entries -/
def EntsAt (av : Addr → Prop) (H : Hp) (v : V) (es : List Int) : Prop := ∃ a, v = .ref a ∧ ¬ av a ∧ H a = some (.lst (es.map V.int))
def RowsAt (av : Addr → Prop) (H : Hp) (r : Addr) (rows : List (List Int)) : Prop := ∃ vs, H r = some (.lst vs) ∧ All2 (EntsAt av H) vs rows
theorem EntsAt.keep {av : Addr → Prop} {H H' : Hp} {v : V} {es : List Int} (k : ∀ a o, ¬ av a → H a = some o → H' a = some o) : EntsAt av H v es → EntsAt av H' v es := fun ⟨a, e, n, h⟩ => ⟨a, e, n, k a _ n h⟩
theorem RowsAt.same {av : Addr → Prop} {H H' : Hp} {r : Addr} {rows : List (List Int)} (s : Same H H') : RowsAt av H r rows → RowsAt av H' r rows := fun ⟨vs, h, t⟩ => ⟨vs, s _ _ h, t.mono fun _ _ => EntsAt.keep fun a o _ e => s a o e⟩
theorem RowsAt.get {av : Addr → Prop} {H : Hp} {r : Addr} {rows : List (List Int)} {i : Nat} {es : List Int} (h : RowsAt av H r rows) (e : rows[i]? = some es) : ∃ vs a, H r = some (.lst vs) ∧ vs[i]? = some (.ref a) ∧ H a = some (.lst (es.map V.int)) ∧ vs.length = rows.length := by
  obtain ⟨vs, hr, t⟩ := h
  obtain ⟨v, ev, a, rfl, _, ha⟩ := t.get' e
  exact ⟨vs, a, hr, ev, ha, t.len⟩
theorem EntsAt.at {av : Addr → Prop} {H : Hp} {v : V} {es : List Int} {q : Addr} (o : HO) (hq : av q) : EntsAt av H v es → EntsAt av (upd H q o) v es := EntsAt.keep fun a u n e => by
  rw [upd_ne (fun z => n (by rw [z]; exact hq))]
  exact e
theorem EntsAt.new {av : Addr → Prop} {H : Hp} {v : V} {es : List Int} {p : Addr} (o : HO) (hp : H p = none) : EntsAt av H v es → EntsAt av (upd H p o) v es := EntsAt.keep fun a u _ e => same_new hp o a u e
theorem EntsAt.same {av : Addr → Prop} {H H' : Hp} {v : V} {es : List Int} (s : Same H H') : EntsAt av H v es → EntsAt av H' v es := EntsAt.keep fun a u _ e => s a u e
def seen (kvs : List (Key × V)) (x : Int) : Prop := (valV kvs (Sum.inl x)).isSome = true
theorem All2.new {H2 : Hp} {q t : Addr} {vs : List V} {its : List Item} {it : Item} {ys : List V} (hq2 : H2 q = some (.lst ys)) (hb : All2 (ItemAt H2) vs its) (ht : H2 t = none) (zs : List V) :
    All2 (ItemAt (upd (upd H2 t (.tup (itemVs it))) q (.lst zs))) (vs ++ [.ref t]) (its ++ [it]) := by
  have ntq : q ≠ t := ne_of_none hq2 ht
  have s1 : Same H2 (upd H2 t (.tup (itemVs it))) := same_new ht _
  refine All2.snoc (hb.mono fun v i h => (h.same s1).keep (s1 _ _ hq2) (keep_upd q _ _)) ⟨t, rfl, ?_⟩
  rw [upd_ne ntq.symm, upd_same]
end Ink

namespace InkP
open PySem PySem.Spec PyProof.Rows L2 InkX
section
variable {M : Model} {A : Around} {E : Value → Shared → Prop} {s : Shared}
end
section
variable {X : Cx}
section
variable {N : List Str} {scope : Scope} {cl : List (Str × Addr)} {C : Addr} {s₀ : Shared} {H₀ : Hp} {ex : List Addr} {pn : List (Addr × Obj)}
end
end
theorem if_andW {p q A B T : Prop} [Decidable p] [Decidable q] (w : p → (if decide q = true then A else B) → T) (h1 : p ∧ q → A) (h2 : ¬ (p ∧ q) → B) : if decide p = true then T else (if false = true then A else B) := by
  by_cases a : p
  · rw [if_pos (decide_eq_true a)]
    by_cases b : q
    · exact w a (by rw [if_pos (decide_eq_true b)]; exact h1 ⟨a, b⟩)
    · exact w a (by rw [decide_eq_false b, if_neg Bool.false_ne_true]; exact h2 fun z => b z.2)
  · rw [decide_eq_false a, if_neg Bool.false_ne_true, if_neg Bool.false_ne_true]
    exact h2 fun z => a z.1
end InkP

namespace Ink
open PySem PySem.Spec PyProof.Rows L2 InkX InkE InkF
/-- rows of addresses from nought on -/
def RowNn (r : Row) : Prop := ∀ p ∈ r, 0 ≤ p.1 ∧ p.1 ≤ p.2
def RowPos (r : Row) : Prop := ∀ p ∈ r, 0 ≤ p.1 ∧ p.1 < p.2
theorem RowPos.nn {r : Row} (h : RowPos r) : RowNn r := fun p hp => ⟨(h p hp).1, by have := (h p hp).2; omega⟩
end Ink

namespace InkS
open PySem PySem.Spec PyProof.Rows L2 InkX
/-! ### sorted, of a list of pairs of ints: fewer than 64 of them -/
/-- the order of pairs -/
def Le (p q : Int × Int) : Prop := p.1 < q.1 ∨ (p.1 = q.1 ∧ p.2 ≤ q.2)
instance (p q : Int × Int) : Decidable (Le p q) := by unfold Le; infer_instance
def less (p q : Int × Int) : Bool := decide (¬ Le q p)
theorem keyTup_eq (t : Bool) (x y : Value) : keyLt' (tuples' t) x y = (do
    let xs ← Builtin.List.listItems x
    let ys ← Builtin.List.listItems y
    for ((p, q), i) in (xs.toList.zip ys.toList).zipIdx do
      if !(← eqBool p q) then return ← oneLt' (t && i == 0) p q
    return decide (xs.size < ys.size)) := rfl
theorem oneLt_any {prog : Program} {w : World} {A : Around} {E : Value → Shared → Prop} {s : Shared} {a b : Int} {t u : Tok} {Q : Bool → Shared → Prop} (k : Bool) (h : Q (decide (a < b)) s) : wpAny (model prog w) A (oneLt' k (.int a t) (.int b u)) Q E s := by
  cases k with
  | true => exact oneLt_int h
  | false =>
    rw [oneLt'_eq]
    simp only [Bool.false_eq_true, if_false]
    refine wpAny_bind ((PyProof.Rows.lt_int ?_ : wpAny (model prog w) A (compareOp .Lt (.int a t) (.int b u)) _ E s))
    exact wpAny_truthy_bool h
/-- what a pair in the heap is -/
def PairIn (h : Heap) (v : Value) (p : Int × Int) : Prop := ∃ a t u, v = .ref a ∧ IsTup h a #[.int p.1 t, .int p.2 u]
theorem keyLt_pair {prog : Program} {w : World} {A : Around} {E : Value → Shared → Prop} {s : Shared} {x y : Value} {p q : Int × Int} {Q : Bool → Shared → Prop} (hx : PairIn s.heap x p) (hy : PairIn s.heap y q) (h : Q (less p q) s) : wpAny (model prog w) A (keyLt' (tuples' true) x y) Q E s := by
  obtain ⟨a, t1, t2, rfl, ha⟩ := hx
  obtain ⟨b, u1, u2, rfl, hb⟩ := hy
  obtain ⟨oa, ha1, ha2, na, ha3⟩ := id ha
  obtain ⟨ob, hb1, hb2, nb, hb3⟩ := id hb
  rw [keyTup_eq]
  refine wpAny_bind (listItems_at ha1 ha3 ?_)
  refine wpAny_bind (listItems_at hb1 hb3 ?_)
  have e : ((#[Value.int p.1 t1, .int p.2 t2] : Array Value).toList.zip (#[Value.int q.1 u1, .int q.2 u2] : Array Value).toList).zipIdx = [((.int p.1 t1, .int q.1 u1), 0), ((.int p.2 t2, .int q.2 u2), 1)] := rfl
  rw [e]
  simp only [List.forIn_cons, List.forIn_nil]
  refine wpAny_bind (wpAny_bind (wpAny_bind (SeqAt.EqAt.int_int p.1 t1 q.1 u1 prog w _ _ ?_)))
  by_cases c1 : p.1 = q.1
  · have d1 : (!p.1 == q.1) = false := by simp [c1]
    rw [d1, if_neg Bool.false_ne_true]
    refine wpAny_pure (wpAny_bind (wpAny_bind (SeqAt.EqAt.int_int p.2 t2 q.2 u2 prog w _ _ ?_)))
    by_cases c2 : p.2 = q.2
    · have d2 : (!p.2 == q.2) = false := by simp [c2]
      rw [d2, if_neg Bool.false_ne_true]
      refine wpAny_pure (wpAny_pure (wpAny_pure ?_))
      have : less p q = false := by unfold less Le; simp [c1, c2]
      rw [this] at h
      exact h
    · have d2 : (!p.2 == q.2) = true := by simp [c2]
      rw [d2, if_pos rfl]
      refine wpAny_bind (oneLt_any _ (wpAny_pure (wpAny_pure (wpAny_pure ?_))))
      have : less p q = decide (p.2 < q.2) := by unfold less Le; simp [c1]
      rw [← this]
      exact h
  · have d1 : (!p.1 == q.1) = true := by simp [c1]
    rw [d1, if_pos rfl]
    refine wpAny_bind (oneLt_any _ (wpAny_pure (wpAny_pure (wpAny_pure ?_))))
    have : less p q = decide (p.1 < q.1) := by
      unfold less Le
      congr 1
      apply propext
      omega
    rw [← this]
    exact h
/-! the array that is sorted, seen by its keys -/
section
variable {prog : Program} {w : World} {A : Around} {E : Value → Shared → Prop} {s : Shared} {z : Array Keyed} {key : Value → Int × Int}
def kp (key : Value → Int × Int) (xs : Array Keyed) (i : Nat) : Int × Int := (xs[i]?.map fun r => key r.1).getD (0, 0)
theorem kp_of {xs ys : Array Keyed} {i j : Nat} (h : xs[i]? = ys[j]?) : kp key xs i = kp key ys j := by unfold kp; rw [h]
def Up (key : Value → Int × Int) (xs : Array Keyed) (n : Nat) : Prop := ∀ i j, i ≤ j → j < n → Le (kp key xs i) (kp key xs j)
def Dn (key : Value → Int × Int) (xs : Array Keyed) (n : Nat) : Prop := ∀ i j, i ≤ j → j < n → Le (kp key xs j) (kp key xs i)
theorem Le.rfl' (p : Int × Int) : Le p p := .inr ⟨rfl, Int.le_refl _⟩
theorem Le.tr {p q r : Int × Int} (h : Le p q) (g : Le q r) : Le p r := by unfold Le at *; omega
theorem Le.anti {p q : Int × Int} (h : Le p q) (g : Le q p) : p = q := by
  unfold Le at *
  exact Prod.ext (by omega) (by omega)
theorem Le.of_not {p q : Int × Int} (h : ¬ Le p q) : Le q p := by unfold Le at *; omega
theorem less_t {p q : Int × Int} (h : less p q = true) : ¬ Le q p := of_decide_eq_true h
theorem less_f {p q : Int × Int} (h : less p q = false) : Le q p := by
  unfold less at h
  exact Classical.byContradiction fun c => by rw [decide_eq_true c] at h; cases h
/-- what stays as the sort goes on -/
structure Bas (z : Array Keyed) (st : SortSt) : Prop where
  pm : (arrOf st).Perm z
  kd : kindOf st = tuples' true
  fl : failedOf st = none
  pd : pendingOf st = #[]
theorem Bas.sz {st : SortSt} (b : Bas z st) : (arrOf st).size = z.size := b.pm.size_eq
theorem Bas.put {st : SortSt} (b : Bas z st) {xs : Array Keyed} (h : xs.Perm (arrOf st)) : Bas z (setArr st xs) := ⟨h.trans b.pm, b.kd, b.fl, b.pd⟩
/-- two keys of the array may be compared -/
def Can (prog : Program) (w : World) (A : Around) (s : Shared) (key : Value → Int × Int) (z : Array Keyed) : Prop :=
  ∀ r ∈ z.toList, ∀ o ∈ z.toList, ∀ (E : Value → Shared → Prop) (Q : Bool → Shared → Prop), Q (less (key r.1) (key o.1)) s → wpAny (model prog w) A (keyLt' (tuples' true) r.1 o.1) Q E s
theorem Bas.get {st : SortSt} (b : Bas z st) {i : Nat} (hi : i < z.size) : ∃ r ∈ z.toList, (arrOf st)[i]? = some r ∧ kp key (arrOf st) i = key r.1 := by
  have hi2 : i < (arrOf st).size := by rw [b.sz]; exact hi
  refine ⟨(arrOf st)[i], (Array.perm_iff_toList_perm.mp b.pm).mem_iff.mp (by simp), getElem?_pos _ i hi2, ?_⟩
  unfold kp
  rw [getElem?_pos _ i hi2]
  rfl
theorem cmp {st : SortSt} {i j : Nat} {Q : Option Bool → SortSt → Prop} (C : Can prog w A s key z) (b : Bas z st) (hi : i < z.size) (hj : j < z.size)
    (h : Q (some (less (kp key (arrOf st) i) (kp key (arrOf st) j))) st) : wpS (model prog w) A E s (ltAt' i j) Q st := by
  obtain ⟨r, hr, e1, k1⟩ := b.get (key := key) hi
  obtain ⟨o, ho, e2, k2⟩ := b.get (key := key) hj
  rw [k1, k2] at h
  rw [ltAt'_eq]
  refine wpS_bind (wpS_get ?_)
  show wpS _ _ _ _ (do let u ← elem' (arrOf st) i; let v ← elem' (arrOf st) j; lt' u v) Q st
  rw [elem'_eq, elem'_eq, e1, e2]
  refine wpS_bind (wpS_pure (wpS_bind (wpS_pure ?_)))
  rw [lt'_eq]
  refine wpS_bind (wpS_get ?_)
  rw [b.kd]
  refine wpS_bind (wpS_lift (wpAny_attempt (C r hr o ho _ _ ?_)))
  exact ⟨rfl, wpS_pure h⟩
theorem kp_turn {xs : Array Keyed} {i j : Nat} (hj : j ≤ xs.size) (k : Nat) : kp key (mirror xs i j ((j - i) / 2)) k = if i ≤ k ∧ k < j then kp key xs (i + j - 1 - k) else kp key xs k := by
  have e := getElem?_mirror_all (i := i) hj k
  split at e
  · rename_i c; rw [if_pos c]; exact kp_of e
  · rename_i c; rw [if_neg c]; exact kp_of e
/-- alike keys turned about stay alike -/
theorem kp_alike {xs : Array Keyed} {i j : Nat} (hj : j ≤ xs.size) (g : ∀ k, i ≤ k → k < j → kp key xs k = kp key xs (j - 1)) (k : Nat) : kp key (mirror xs i j ((j - i) / 2)) k = kp key xs k := by
  rw [kp_turn hj]
  by_cases c : i ≤ k ∧ k < j
  · rw [if_pos c, g _ (by omega) (by omega), g k c.1 c.2]
  · rw [if_neg c]
theorem Up.more {xs : Array Keyed} {n : Nat} (h : Up key xs n) (g : n = 0 ∨ Le (kp key xs (n - 1)) (kp key xs n)) : Up key xs (n + 1) := by
  intro i j ij hj
  by_cases c : j < n
  · exact h i j ij c
  · have e : j = n := by omega
    subst e
    by_cases d : i = j
    · subst d; exact Le.rfl' _
    · exact (h i (j - 1) (by omega) (by omega)).tr (g.resolve_left (by omega))
theorem Dn.more {xs : Array Keyed} {n : Nat} (h : Dn key xs n) (g : n = 0 ∨ Le (kp key xs n) (kp key xs (n - 1))) : Dn key xs (n + 1) := by
  intro i j ij hj
  by_cases c : j < n
  · exact h i j ij c
  · have e : j = n := by omega
    subst e
    by_cases d : i = j
    · subst d; exact Le.rfl' _
    · exact (g.resolve_left (by omega)).tr (h i (j - 1) (by omega) (by omega))
theorem Dn.eqv {xs ys : Array Keyed} {n : Nat} (h : Dn key xs n) (g : ∀ k, kp key ys k = kp key xs k) : Dn key ys n := fun i j ij hj => by rw [g, g]; exact h i j ij hj
theorem Up.one (xs : Array Keyed) : Up key xs 1 := fun i j ij hj => by
  have : i = j := by omega
  subst this
  exact Le.rfl' _
theorem rising {st : SortSt} {a n : Nat} {Q : AscSt → SortSt → Prop} (C : Can prog w A s key z) (hn : n ≤ z.size) (ha : 1 ≤ a) (an : a ≤ n) (b : Bas z st) (u : Up key (arrOf st) a)
    (h : ∀ m, a ≤ m → m ≤ n → Up key (arrOf st) m → (m = n ∨ ¬ Le (kp key (arrOf st) (m - 1)) (kp key (arrOf st) m)) → Q (none, m) st) : wpS (model prog w) A E s (ascLoop a n) Q st := by
  unfold ascLoop
  refine wpS_forRange (I := fun x c t => t = st ∧ c = (none, x) ∧ Up key (arrOf st) x) ?turn ?out ⟨rfl, rfl, u⟩
  case out =>
    rintro c t ⟨rfl, rfl, u'⟩
    have e : max a n = n := by omega
    rw [e] at u' ⊢
    exact h n an (Nat.le_refl _) u' (.inl rfl)
  case turn =>
    rintro x c t ax xn ⟨rfl, rfl, u'⟩
    dsimp only
    refine wpS_bind (cmp C b (by omega) (by omega) ?_)
    cases e : less (kp key (arrOf t) x) (kp key (arrOf t) (x - 1)) with
    | true =>
      simp only [if_true]
      exact wpS_pure (h x ax (by omega) u' (.inr (less_t e)))
    | false =>
      simp only [Bool.false_eq_true, if_false]
      exact wpS_pure ⟨rfl, rfl, u'.more (.inr (less_f e))⟩
theorem turned {st : SortSt} {m n : Nat} {Q : Option Nat → SortSt → Prop} (C : Can prog w A s key z) (hn : n ≤ z.size) (h1 : 1 ≤ m) (mn : m ≤ n) (b : Bas z st) (d : Dn key (arrOf st) m)
    (h : ∀ k t, Bas z t → 1 ≤ k → k ≤ n → Up key (arrOf t) k → Q (some k) t) : wpS (model prog w) A E s (tail3 m n) Q st := by
  unfold tail3
  have hs : m ≤ (arrOf st).size := by rw [b.sz]; omega
  refine wpS_bind (wpS_reverse ?_)
  have b' := b.put (mirror_perm (arrOf st) 0 m ((m - 0) / 2))
  refine wpS_bind (rising C hn h1 mn b' (fun i j ij hj => ?_) fun k k1 k2 u _ => wpS_pure (h k _ b' (by omega) k2 u))
  show Le (kp key (mirror (arrOf st) 0 m ((m - 0) / 2)) i) (kp key (mirror (arrOf st) 0 m ((m - 0) / 2)) j)
  rw [kp_turn hs, kp_turn hs, if_pos ⟨by omega, by omega⟩, if_pos ⟨by omega, by omega⟩]
  exact d _ _ (by omega) (by omega)
/-- the last e + 1 keys below m are alike -/
def Tail (key : Value → Int × Int) (xs : Array Keyed) (m e : Nat) : Prop := e + 1 ≤ m ∧ ∀ k, m - (e + 1) ≤ k → k < m → kp key xs k = kp key xs (m - 1)
theorem Tail.none {xs : Array Keyed} {m : Nat} (h : 1 ≤ m) : Tail key xs m 0 := ⟨h, fun k a b => by congr 1; omega⟩
theorem falling {st : SortSt} {m n : Nat} {Q : DescSt → SortSt → Prop} (C : Can prog w A s key z) (hn : n ≤ z.size) (h1 : 1 ≤ m) (mn : m ≤ n) (b : Bas z st) (d : Dn key (arrOf st) m)
    (h : ∀ k e t, Bas z t → m ≤ k → k ≤ n → Dn key (arrOf t) k → Tail key (arrOf t) k e → Q (none, k, e) t) : wpS (model prog w) A E s (descLoop m n) Q st := by
  unfold descLoop
  refine wpS_forRange (I := fun x c t => ∃ e, c = (none, x, e) ∧ Bas z t ∧ Dn key (arrOf t) x ∧ Tail key (arrOf t) x e) ?turn ?out ⟨0, rfl, b, d, .none h1⟩
  case out =>
    rintro c t ⟨e, rfl, b', d', g⟩
    have q : max m n = n := by omega
    rw [q] at d' g ⊢
    exact h n e t b' mn (Nat.le_refl _) d' g
  case turn =>
    rintro x c t mx xn ⟨e, rfl, b', d', g⟩
    dsimp only
    have hs : x ≤ (arrOf t).size := by rw [b'.sz]; omega
    refine wpS_bind (cmp C b' (by omega) (by omega) ?_)
    cases q : less (kp key (arrOf t) x) (kp key (arrOf t) (x - 1)) with
    | true =>
      simp only [if_true]
      have d2 : Dn key (arrOf t) (x + 1) := d'.more (.inr (Le.of_not (less_t q)))
      by_cases c : e > 0
      · rw [if_pos c]
        exact wpS_bind (wpS_reverse (wpS_pure ⟨0, rfl, b'.put (mirror_perm _ _ _ _), d2.eqv (kp_alike hs g.2), .none (by omega)⟩))
      · rw [if_neg c]
        exact wpS_pure ⟨0, rfl, b', d2, .none (by omega)⟩
    | false =>
      simp only [Bool.false_eq_true, if_false]
      refine wpS_bind (cmp C b' (by omega) (by omega) ?_)
      cases q2 : less (kp key (arrOf t) (x - 1)) (kp key (arrOf t) x) with
      | true =>
        simp only [if_true]
        exact wpS_pure (h x e t b' mx (by omega) d' g)
      | false =>
        simp only [Bool.false_eq_true, if_false]
        have al : kp key (arrOf t) x = kp key (arrOf t) (x - 1) := Le.anti (less_f q2) (less_f q)
        refine wpS_pure ⟨e + 1, rfl, b', d'.more (.inr (less_f q2)), by have := g.1; omega, fun k a c => ?_⟩
        show kp key (arrOf t) k = kp key (arrOf t) x
        by_cases f : k = x
        · rw [f]
        · rw [al]; exact g.2 k (by omega) (by omega)
theorem down_part {st : SortSt} {m n : Nat} {Q : Option Nat → SortSt → Prop} (C : Can prog w A s key z) (hn : n ≤ z.size) (mn : m + 1 ≤ n) (b : Bas z st) (d : Dn key (arrOf st) (m + 1))
    (h : ∀ k t, Bas z t → 1 ≤ k → k ≤ n → Up key (arrOf t) k → Q (some k) t) : wpS (model prog w) A E s (descPart m n) Q st := by
  unfold descPart
  refine wpS_bind (wpS_lift (wpAny_rule ⟨rfl, ?_⟩))
  refine wpS_bind (falling C hn (by omega) mn b d fun k e t b' mk kn d' g => ?_)
  dsimp only
  have hs : k ≤ (arrOf t).size := by rw [b'.sz]; omega
  by_cases c : e > 0
  · rw [if_pos c]
    exact wpS_bind (wpS_reverse (turned C hn (by omega) kn (b'.put (mirror_perm _ _ _ _)) (d'.eqv (kp_alike hs g.2)) h))
  · rw [if_neg c]
    exact turned C hn (by omega) kn b' d' h
theorem first_run {st : SortSt} {n : Nat} {Q : Option Nat → SortSt → Prop} (C : Can prog w A s key z) (hn : n ≤ z.size) (h1 : 1 ≤ n) (b : Bas z st)
    (h : ∀ k t, Bas z t → 1 ≤ k → k ≤ n → Up key (arrOf t) k → Q (some k) t) : wpS (model prog w) A E s (countRun' 0 n) Q st := by
  rw [countRun0_eq]
  refine wpS_bind (rising C hn (Nat.le_refl 1) h1 b (Up.one _) fun m m1 mn u g => ?_)
  dsimp only
  by_cases c : m = n
  · rw [if_pos (by simpa using c)]
    exact wpS_pure (h m st b m1 mn u)
  · rw [if_neg (by simpa using c)]
    have g' := g.resolve_left c
    by_cases c2 : m > 1
    · rw [if_pos c2]
      refine wpS_bind (cmp C b (by omega) (by omega) ?_)
      cases q : less (kp key (arrOf st) 0) (kp key (arrOf st) (m - 1)) with
      | true =>
        simp only [if_true]
        exact wpS_pure (h m st b m1 mn u)
      | false =>
        simp only [Bool.false_eq_true, if_false]
        have hs : m ≤ (arrOf st).size := by rw [b.sz]; omega
        have al : ∀ k, 0 ≤ k → k < m → kp key (arrOf st) k = kp key (arrOf st) (m - 1) := fun k _ km => Le.anti (u k (m - 1) (by omega) (by omega)) ((less_f q).tr (u 0 k (by omega) km))
        have d : Dn key (arrOf st) m := fun i j ij hj => by rw [al i (by omega) (by omega), al j (by omega) hj]; exact Le.rfl' _
        exact wpS_bind (wpS_reverse (down_part C hn (by omega) (b.put (mirror_perm _ _ _ _)) ((d.more (.inr (Le.of_not g'))).eqv (kp_alike hs al)) h))
    · rw [if_neg c2]
      have e : m = 1 := by omega
      subst e
      exact down_part C hn (by omega) b (Dn.more (fun i j ij hj => by
        have : i = j := by omega
        subst this
        exact Le.rfl' _) (.inr (Le.of_not g'))) h
theorem kp_sink {xs : Array Keyed} {k d : Nat} (hk : k < xs.size) (hd : d ≤ k) (i : Nat) : kp key (bubble xs k d) i = if i = k - d then kp key xs k else if k - d < i ∧ i ≤ k then kp key xs (i - 1) else kp key xs i := by
  have e := getElem?_bubble hk d hd i
  split at e
  · rename_i c; rw [if_pos c]; exact kp_of e
  · rename_i c
    rw [if_neg c]
    split at e
    · rename_i c2; rw [if_pos c2]; exact kp_of e
    · rename_i c2; rw [if_neg c2]; exact kp_of e
/-- where the key of k belongs among the keys ahead of it -/
def Gap (key : Value → Int × Int) (xs : Array Keyed) (k l r : Nat) : Prop := l ≤ r ∧ r ≤ k ∧ (∀ i, i < l → Le (kp key xs i) (kp key xs k)) ∧ ∀ i, r ≤ i → i < k → ¬ Le (kp key xs i) (kp key xs k)
theorem Gap.sunk {xs : Array Keyed} {k l : Nat} (hk : k < xs.size) (u : Up key xs k) (g : Gap key xs k l l) : Up key (bubble xs k (k - l)) (k + 1) := by
  obtain ⟨_, lk, lo, hi⟩ := g
  intro i j ij hj
  rw [kp_sink hk (by omega), kp_sink hk (by omega), show k - (k - l) = l by omega]
  by_cases ci : i = l
  · rw [if_pos ci]
    by_cases cj : j = l
    · rw [if_pos cj]; exact Le.rfl' _
    · rw [if_neg cj, if_pos ⟨by omega, by omega⟩]
      exact Le.of_not (hi _ (by omega) (by omega))
  · rw [if_neg ci]
    by_cases ci2 : l < i ∧ i ≤ k
    · rw [if_pos ci2, if_neg (by omega), if_pos ⟨by omega, by omega⟩]
      exact u _ _ (by omega) (by omega)
    · rw [if_neg ci2]
      by_cases cj : j = l
      · rw [if_pos cj]; exact lo i (by omega)
      · rw [if_neg cj]
        by_cases cj2 : l < j ∧ j ≤ k
        · rw [if_pos cj2]; exact u _ _ (by omega) (by omega)
        · rw [if_neg cj2]; exact u _ _ ij (by omega)
theorem placed {st : SortSt} {n a : Nat} {Q : Bool → SortSt → Prop} (C : Can prog w A s key z) (hn : n ≤ z.size) (an : a ≤ n) (b : Bas z st) (u : Up key (arrOf st) a)
    (h : ∀ t, Bas z t → Up key (arrOf t) n → Q true t) : wpS (model prog w) A E s (binarySort' 0 n a) Q st := by
  rw [binarySort'_eq]
  simp only [Nat.zero_add]
  refine wpS_bind (wpS_mono (wpS_forRange (I := fun k c t => c = (none, ()) ∧ Bas z t ∧ Up key (arrOf t) (min k n)) (Q := fun c t => c = (none, ()) ∧ Bas z t ∧ Up key (arrOf t) n) ?turn ?out ?ini) ?aft)
  case aft =>
    rintro c t ⟨rfl, b', u'⟩
    exact wpS_pure (h t b' u')
  case ini =>
    refine ⟨rfl, b, fun i j ij hj => ?_⟩
    by_cases c : a = 0
    · have : i = j := by omega
      subst this
      exact Le.rfl' _
    · exact u i j ij (by omega)
  case out =>
    rintro c t ⟨e, b', u'⟩
    have q : min (max (max a 1) n) n = n := by omega
    rw [q] at u'
    exact ⟨e, b', u'⟩
  case turn =>
    rintro k c t ak kn ⟨rfl, b', u'⟩
    have q : min k n = k := by omega
    rw [q] at u'
    refine wpS_bind (wpS_mono (wpS_forRange (I := fun x c t' => t' = t ∧ ∃ l r, c = (none, l, r) ∧ Gap key (arrOf t) k l r ∧ r - l ≤ k - x) (Q := fun c t' => t' = t ∧ ∃ l, ∃ r : Nat, c = (none, l, r) ∧ Gap key (arrOf t) k l l) ?turn2 ?out2 ⟨rfl, 0, k, rfl, ⟨by omega, by omega, fun i hi => by omega, fun i h1 h2 => by omega⟩, by omega⟩) ?aft2)
    case out2 =>
      rintro c t' ⟨rfl, l, r, rfl, g, f⟩
      have e : r = l := by have := g.1; omega
      subst e
      exact ⟨rfl, r, r, rfl, g⟩
    case turn2 =>
      rintro x c t' _ xk ⟨rfl, l, r, rfl, g, f⟩
      dsimp only
      have g1 := g.1
      have g2 := g.2.1
      by_cases c : l ≥ r
      · rw [if_pos c]
        have e : r = l := by omega
        subst e
        exact wpS_pure ⟨rfl, r, r, rfl, g⟩
      · rw [if_neg c]
        refine wpS_bind (cmp C b' (by omega) (by omega) ?_)
        cases e : less (kp key (arrOf t') k) (kp key (arrOf t') ((l + r) / 2)) with
        | true =>
          simp only [if_true]
          refine wpS_pure ⟨rfl, l, (l + r) / 2, rfl, ⟨by omega, by omega, g.2.2.1, fun i h1 h2 h3 => ?_⟩, by omega⟩
          exact less_t e ((u' ((l + r) / 2) i h1 h2).tr h3)
        | false =>
          simp only [Bool.false_eq_true, if_false]
          refine wpS_pure ⟨rfl, (l + r) / 2 + 1, r, rfl, ⟨by omega, by omega, fun i hi => ?_, g.2.2.2⟩, by omega⟩
          exact (u' i ((l + r) / 2) (by omega) (by omega)).tr (less_f e)
    case aft2 =>
      rintro c t' ⟨rfl, l, r, rfl, g⟩
      show wpS _ _ _ _ (do moveDown' k l; pure (ForInStep.yield (none, ()))) _ _
      rw [moveDown'_eq]
      refine wpS_bind (wpS_modify (wpS_pure ⟨rfl, b'.put (bubble_perm _ _ _), ?_⟩))
      rw [show min (k + 1) n = k + 1 by omega]
      exact g.sunk (by rw [b'.sz]; omega) u'
/-- all is one run -/
def Fin1 (key : Value → Int × Int) (z : Array Keyed) (st : SortSt) : Prop := (arrOf st).Perm z ∧ failedOf st = none ∧ pendingOf st = #[(0, z.size, 0)] ∧ Up key (arrOf st) z.size
theorem Bas.fin {st : SortSt} (b : Bas z st) (u : Up key (arrOf st) z.size) : Fin1 key z (setPending st ((pendingOf st).push (0, z.size, 0))) := by
  refine ⟨b.pm, b.fl, ?_, u⟩
  show (pendingOf st).push _ = _
  rw [b.pd]
  rfl
theorem runs {st : SortSt} {Q : Unit → SortSt → Prop} (C : Can prog w A s key z) (b : Bas z st) (h2 : 2 ≤ z.size) (h64 : z.size < 64)
    (h : ∀ t, (arrOf t).Perm z → failedOf t = none → Up key (arrOf t) z.size → Q () t) : wpS (model prog w) A E s sortRuns' Q st := by
  rw [sortRuns'_eq]
  refine wpS_bind (wpS_get ?_)
  dsimp only
  have mr : minRun' z.size z.size 0 = z.size := by
    cases e : z.size with
    | zero => omega
    | succ f => rw [minRun'_succ, if_pos (by omega)]
  simp only [b.sz, mr]
  refine wpS_bind (wpS_mono (wpS_forRange (I := fun x c t => (x = 0 ∧ c = (none, 0) ∧ Bas z t) ∨ (1 ≤ x ∧ c = (none, z.size) ∧ Fin1 key z t)) (Q := fun c t => c = (none, z.size) ∧ Fin1 key z t) ?turn ?out (.inl ⟨rfl, rfl, b⟩)) ?aft)
  case out =>
    rintro c t (⟨x0, _, _⟩ | ⟨_, e, f⟩)
    · omega
    · exact ⟨e, f⟩
  case turn =>
    rintro x c t _ xn (⟨rfl, rfl, b'⟩ | ⟨x1, rfl, f⟩)
    · dsimp only
      rw [if_neg (by omega)]
      simp only [Nat.sub_zero, Nat.min_self, Nat.zero_add]
      refine wpS_bind (first_run C (Nat.le_refl _) (by omega) b' fun m t2 b2 m1 mn u2 => ?_)
      dsimp only
      have last : ∀ t3 : SortSt, Bas z t3 → Up key (arrOf t3) z.size → (pendingOf t3).back? = none ∧ Fin1 key z (setPending t3 ((pendingOf t3).push (0, z.size, 0))) := fun t3 b3 u3 => ⟨by rw [b3.pd]; rfl, b3.fin u3⟩
      by_cases c : m < z.size
      · rw [if_pos c]
        refine wpS_bind (wpS_lift (wpAny_rule ⟨rfl, ?_⟩))
        refine wpS_bind (placed C (Nat.le_refl _) mn b2 u2 fun t3 b3 u3 => ?_)
        simp only [Bool.not_true, Bool.false_eq_true, if_false]
        refine wpS_bind (wpS_get ?_)
        rw [(last t3 b3 u3).1]
        dsimp only
        exact wpS_bind (wpS_modify (wpS_pure (.inr ⟨by omega, rfl, (last t3 b3 u3).2⟩)))
      · rw [if_neg c]
        have e : m = z.size := by omega
        subst e
        refine wpS_bind (wpS_get ?_)
        rw [(last t2 b2 u2).1]
        dsimp only
        exact wpS_bind (wpS_modify (wpS_pure (.inr ⟨by omega, rfl, (last t2 b2 u2).2⟩)))
    · dsimp only
      rw [if_pos (Nat.le_refl _)]
      exact wpS_pure ⟨rfl, f⟩
  case aft =>
    rintro c t ⟨rfl, f⟩
    dsimp only
    refine wpS_bind (wpS_mono (wpS_forRange (I := fun _ c t' => t' = t ∧ c = (none, ())) (Q := fun c t' => t' = t ∧ c = (none, ())) ?_ (fun _ _ e => e) ⟨rfl, rfl⟩) ?_)
    · rintro x c t' _ _ ⟨rfl, rfl⟩
      refine wpS_bind (wpS_get ?_)
      rw [if_pos (by rw [f.2.2.1]; exact Nat.le_refl 1)]
      exact wpS_pure ⟨rfl, rfl⟩
    · rintro c t' ⟨rfl, rfl⟩
      exact wpS_pure (h _ f.1 f.2.1 f.2.2.2)
/-! list.sort and sorted -/
theorem first_eq (v : Value) : firstOfTuple' v = (do
    if (← typeOf v) != .type "tuple" then return none
    return (← Builtin.List.listItems v)[0]?) := rfl
theorem first_pair {M : Model} {v : Value} {p : Int × Int} {Q : Option Value → Shared → Prop} (h : PairIn s.heap v p) (g : ∀ t, Q (some (.int p.1 t)) s) : wpAny M A (firstOfTuple' v) Q E s := by
  obtain ⟨a, t1, t2, rfl, ha⟩ := h
  obtain ⟨o, h1, h2, n, h3⟩ := id ha
  rw [first_eq]
  refine wpAny_bind (wpAny_typeOf (T := "tuple") ⟨o, h1, h2⟩ ?_)
  have e : (Value.type "tuple" != Value.type "tuple") = false := by rfl
  rw [e, if_neg Bool.false_ne_true]
  exact wpAny_bind (listItems_at h1 h3 (wpAny_pure (g t1)))
/-- values side by side with pairs -/
abbrev Prs (h : Heap) : List Value → List (Int × Int) → Prop := Paired (PairIn h)
theorem firsts {M : Model} : ∀ {vs : List Value} {ps : List (Int × Int)} {Q : List (Option Value) → Shared → Prop}, Prs s.heap vs ps → (∀ us : List Value, IntsAre us (ps.map (·.1)) → Q (us.map some) s) → wpAny M A (vs.mapM firstOfTuple') Q E s
  | _, _, _, .nil, g => by
    rw [List.mapM_nil]
    exact wpAny_pure (g [] .nil)
  | _, _, _, .cons h r, g => by
    rw [List.mapM_cons]
    refine wpAny_bind (first_pair h fun t => wpAny_bind (firsts r fun us hu => wpAny_pure ?_))
    exact g _ (.cons _ t hu)
theorem kind_pairs {M : Model} {vs : List Value} {ps : List (Int × Int)} {Q : SortKind → Shared → Prop} (h : Prs s.heap vs ps) (n : vs ≠ []) (g : Q (tuples' true) s) : wpAny M A (keyKind' vs.toArray) Q E s := by
  rw [keyKind'_eq, List.mapM_toArray]
  refine wpAny_bind ?_
  show wpAny M A (List.toArray <$> vs.mapM firstOfTuple') _ E s
  rw [map_eq_pure_bind]
  refine wpAny_bind (firsts h fun us hu => wpAny_pure ?_)
  have e1 : (us.map some).toArray.all (·.isSome) = true := by simp
  rw [if_pos e1]
  refine wpAny_bind (wpAny_rule ?_)
  have e2 : (us.map some).toArray.filterMap id = us.toArray := by simp
  rw [e2, oneTypeOnly'_eq, List.mapM_toArray, mapM_typeOf_ints hu]
  simp only [map_pure, pure_bind]
  have un : us ≠ [] := by
    intro z
    subst z
    cases h with
    | nil => exact n rfl
    | cons _ _ => cases hu
  obtain ⟨u0, ur, rfl⟩ := List.exists_cons_of_ne_nil un
  have e3 : (List.map (fun _ => Value.type "int") (u0 :: ur)).toArray[0]? = some (Value.type "int") := by simp
  rw [e3]
  have e4 : ((List.map (fun _ => Value.type "int") (u0 :: ur)).toArray.all fun x => x == Value.type "int") = true := by
    simp only [List.all_toArray, List.all_map, List.all_eq_true]
    intro _ _
    rfl
  simp only [e4, if_true]
  refine wpAny_bind (wpAny_pure (wpAny_pure ?_))
  exact g
theorem PairIn.inj {h : Heap} {v : Value} {p q : Int × Int} (a : PairIn h v p) (b : PairIn h v q) : p = q := by
  obtain ⟨x, t1, t2, rfl, o, h1, _, n, h3⟩ := a
  obtain ⟨y, u1, u2, e, o', g1, _, m, g3⟩ := b
  cases e
  rw [h1] at g1
  cases g1
  rw [h3] at g3
  injection g3 with g4 _
  have g5 := congrArg Array.toList g4
  injection g5 with g6 g7
  injection g7 with g8 _
  injection g6 with g9 _
  injection g8 with g10 _
  exact Prod.ext g9 g10
open Classical in
noncomputable def keyIn (h : Heap) (v : Value) : Int × Int := if c : ∃ p, PairIn h v p then c.choose else (0, 0)
theorem keyIn_eq {h : Heap} {v : Value} {p : Int × Int} (a : PairIn h v p) : keyIn h v = p := by
  have c : ∃ p, PairIn h v p := ⟨p, a⟩
  unfold keyIn
  rw [dif_pos c]
  exact c.choose_spec.inj a
theorem PairIn.keep {h h' : Heap} {v : Value} {p : Int × Int} (a : PairIn h v p) (k : ∀ b o, o.cls = .type "tuple" → h.get? b = some o → h'.get? b = some o) : PairIn h' v p := by
  obtain ⟨x, t1, t2, e, o, h1, h2, r⟩ := a
  exact ⟨x, t1, t2, e, o, k x o h2 h1, h2, r⟩
theorem Prs.mem {h : Heap} : ∀ {vs : List Value} {ps : List (Int × Int)} {v : Value}, Prs h vs ps → v ∈ vs → ∃ p, PairIn h v p
  | _, _, _, .nil, m => by cases m
  | _, _, _, .cons a r, m => by
    rcases List.mem_cons.mp m with e | e
    · exact ⟨_, by rw [e]; exact a⟩
    · exact Prs.mem r e
theorem zip_mem {vs : List Value} {r : Value × Value} (h : r ∈ vs.zip vs) : r.1 ∈ vs ∧ r.2 = r.1 := by
  obtain ⟨i, hi, e⟩ := List.getElem_of_mem h
  rw [List.getElem_zip] at e
  rw [← e]
  exact ⟨List.getElem_mem _, rfl⟩
theorem list_sort_pairs {a : Addr} {vs : List Value} {ps : List (Int × Int)} {n : Nat} {P : Fin → Shared → Prop} (hl : s.heap.get? a = some (seqObj "list" vs.toArray n)) (hp : Prs s.heap vs ps) (h64 : vs.length < 64)
    (fin : ∀ st : SortSt, (arrOf st).Perm (pairsOf vs) → Up (keyIn s.heap) (arrOf st) (pairsOf vs).size → P (.done (.ret .none)) { s with heap := sortedHeap s.heap a vs ((arrOf st).map (·.2)) }) :
    wpAny (model prog w) A (Builtin.«list.sort» ⟨[.ref a], []⟩) P E s := by
  rw [list_sort_plain]
  have al : a < s.heap.objs.size := Heap.lt_size hl
  refine wpAny_bind (listItems_at hl rfl ?_)
  refine wpAny_bind (listUpdate_at hl rfl ?_)
  obtain ⟨c1, hc1⟩ : ∃ c1, (s.heap.update a (Obj.mapSeq fun _ => #[])).get? a = some (seqObj "list" #[] c1) := ⟨_, get?_update_seq hl (fun _ => #[])⟩
  refine wpAny_bind (seqEpoch_at hc1 rfl ?_)
  refine wpAny_bind (wpAny_newTuple (wpAny_bind (wpAny_newList (wpAny_holding ?_))))
  generalize hg : ((s.heap.update a (Obj.mapSeq fun _ => #[])).push (seqObj "tuple" vs.toArray 0)).push (seqObj "list" #[] 0) = g
  have ga : g.get? a = some (seqObj "list" #[] c1) := by
    rw [← hg, Heap.get?_push_ne _ _ _ (by rw [size_push', Heap.size_update]; exact Nat.ne_of_lt (Nat.lt_succ_of_lt al)), Heap.get?_push_ne _ _ _ (by rw [Heap.size_update]; exact Nat.ne_of_lt al)]
    exact hc1
  have gk : ∀ b o, o.cls = .type "tuple" → s.heap.get? b = some o → g.get? b = some o := fun b o oc ob => by
    have nb : b ≠ a := fun z => by
      rw [z, hl] at ob
      cases ob
      have q : Value.type "list" = Value.type "tuple" := oc
      simp at q
    rw [← hg]
    exact Heap.get?_push_of_some _ (Heap.get?_push_of_some _ (by rw [Heap.get?_update_ne _ _ _ _ nb]; exact ob))
  have sh : sortedHeap s.heap a vs = fun out => g.update a (Obj.mapSeq fun _ => out) := by rw [← hg]; rfl
  rw [sh] at fin
  dsimp only
  have vz : vs.toArray.size = vs.length := by simp
  by_cases h2 : vs.toArray.size < 2
  · rw [if_pos h2, if_pos h2]
    refine wpAny_bind (wpAny_pure ?_)
    rw [StateT.run_pure]
    refine wpAny_bind (wpAny_pure ?_)
    dsimp only
    refine wpAny_bind (seqEpoch_at ga rfl (wpAny_bind (listUpdate_at ga rfl ?_ (hsz2 := by rw [Array.size_map]; show (pairsOf vs).size ≤ _; rw [pairsOf_size, sizeLine_eq]; omega))))
    simp only [bne_self_eq_false, Bool.false_eq_true, if_false]
    refine wpAny_pure (fin (SortSt.mk' general' (vs.toArray.zip vs.toArray) #[] 7 none) (Array.Perm.refl _) fun i j ij hj => ?_)
    have : i = j := by rw [pairsOf_size] at hj; omega
    subst this
    exact Le.rfl' _
  · rw [if_neg h2, if_neg h2]
    have vn : vs ≠ [] := fun z => by rw [z] at h2; simp at h2
    have hp' : Prs g vs ps := L2.Paired.mapP hp fun v p q => q.keep gk
    refine wpAny_bind (kind_pairs (s := { s with heap := g }) hp' vn ?_)
    have can : Can prog w A { s with heap := g } (keyIn s.heap) (pairsOf vs) := fun r hr o ho E' Q' h' => by
      rw [pairsOf_toList] at hr ho
      obtain ⟨p, hp1⟩ := hp.mem (zip_mem hr).1
      obtain ⟨q, hq1⟩ := hp.mem (zip_mem ho).1
      rw [keyIn_eq hp1, keyIn_eq hq1] at h'
      exact keyLt_pair (hp1.keep gk) (hq1.keep gk) h'
    refine wpAny_bind (wpAny_mono (runs (key := keyIn s.heap) (z := pairsOf vs) (st := SortSt.mk' (tuples' true) (vs.toArray.zip vs.toArray) #[] 7 none)
      (Q := fun _ t => (arrOf t).Perm (pairsOf vs) ∧ failedOf t = none ∧ Up (keyIn s.heap) (arrOf t) (pairsOf vs).size)
      can ⟨Array.Perm.refl _, rfl, rfl, rfl⟩ (by rw [pairsOf_size]; omega) (by rw [pairsOf_size]; exact h64) fun t a1 a2 a3 => ⟨a1, a2, a3⟩) ?_ fun _ _ e => e)
    rintro ⟨⟨⟩, t⟩ s' ⟨rfl, pm, fl, up⟩
    dsimp only
    refine wpAny_bind (seqEpoch_at ga rfl (wpAny_bind (listUpdate_at ga rfl ?_ (hsz2 := by refine Nat.le_trans (Nat.le_of_eq ((Array.size_map ..).trans (pm.size_eq.trans (pairsOf_size _)))) ?_; rw [sizeLine_eq]; omega))))
    rw [fl]
    simp only [bne_self_eq_false, Bool.false_eq_true, if_false]
    exact wpAny_pure (fin t pm up)
theorem sorted_pairs {l : Addr} {vs : List Value} {ps : List (Int × Int)} {Q : Value → Shared → Prop} (hl : s.heap.IsList l vs.toArray) (hp : Prs s.heap vs ps) (h64 : vs.length < 64)
    (fin : ∀ st : SortSt, (arrOf st).Perm (pairsOf vs) → Up (keyIn s.heap) (arrOf st) (pairsOf vs).size → Q (.ref (s.heap.objs.size + 1)) { s with heap := sortedAll s.heap vs ((arrOf st).map (·.2)) }) :
    wpAny (model prog w) A (call (.builtin "sorted") [.ref l]) Q E s := by
  refine Calls.call_function_entry kind_sorted plain_sorted entry_sorted (args_sorted1 _) ?_
  unfold Builtin.«sorted»
  refine wpAny_bind (m := checkCount "sorted" 1 1 _) (wpAny_pure ?_)
  refine wpAny_bind (collect_list hl ?_ (by have : (64 : Nat) ≤ sizeLine := by decide
                                            omega))
  refine wpAny_bind (wpAny_newList ?_)
  generalize hg : (s.heap.push (seqObj "list" #[] 0)).update s.heap.objs.size (Obj.mapSeq (· ++ vs.toArray)) = g
  have gz : g.objs.size = s.heap.objs.size + 1 := by rw [← hg, Heap.size_update, size_push']
  have gk : ∀ b o, s.heap.get? b = some o → g.get? b = some o := fun b o ob => by
    have lt := Heap.lt_size ob
    rw [← hg, Heap.get?_update_ne _ _ _ _ (Nat.ne_of_lt lt)]
    exact Heap.get?_push_of_some _ ob
  have kk : ∀ b o, s.heap.get? b = some o → (g.push (seqObj "list" vs.toArray 0)).get? b = some o := fun b o ob => Heap.get?_push_of_some _ (gk b o ob)
  have at1 : (g.push (seqObj "list" vs.toArray 0)).get? (s.heap.objs.size + 1) = some (seqObj "list" vs.toArray 0) := by rw [← gz]; exact Heap.get?_push_size _ rfl
  show wpAny _ _ _ _ _ { s with heap := g.push (seqObj "list" vs.toArray 0) }
  rw [gz]
  have hp' : Prs (g.push (seqObj "list" vs.toArray 0)) vs ps := L2.Paired.mapP hp fun v p q => q.keep fun b o _ ob => kk b o ob
  have ke : ∀ v ∈ vs, keyIn (g.push (seqObj "list" vs.toArray 0)) v = keyIn s.heap v := fun v hv => by
    obtain ⟨p, q⟩ := hp.mem hv
    rw [keyIn_eq q, keyIn_eq (q.keep fun b o _ ob => kk b o ob)]
  refine wpAny_bind (wpAny_holding (wpAny_call_entry slot_list_sort ⟨_, at1, rfl⟩ entry_list_sort (list_sort_pairs (s := { s with heap := g.push (seqObj "list" vs.toArray 0) }) at1 hp' h64 fun st pm up => ⟨_, rfl, wpAny_pure ⟨_, rfl, ?_⟩⟩) (args_list_sort _)))
  have up' : Up (keyIn s.heap) (arrOf st) (pairsOf vs).size := fun i j ij hj => by
    have e : ∀ k, k < (pairsOf vs).size → kp (keyIn s.heap) (arrOf st) k = kp (keyIn (g.push (seqObj "list" vs.toArray 0))) (arrOf st) k := fun k hk => by
      have hk2 : k < (arrOf st).size := by rw [pm.size_eq]; exact hk
      have mm : (arrOf st)[k] ∈ (pairsOf vs).toList := (Array.perm_iff_toList_perm.mp pm).mem_iff.mp (by simp)
      rw [pairsOf_toList] at mm
      unfold kp
      rw [getElem?_pos _ k hk2]
      show keyIn s.heap _ = keyIn _ _
      rw [ke _ (zip_mem mm).1]
    rw [e i (by omega), e j hj]
    exact up i j ij hj
  have z := fin st pm up'
  unfold sortedAll at z
  rw [hg] at z
  exact z
end
end InkS

namespace Ink
open PySem PySem.Spec PyProof.Rows L2 InkX InkE InkF InkS
/-! ### sorted of a row, as a call -/
theorem pairs_in {X : Cx} {pins : List (Addr × Obj)} {σ : L2.St} {H : Hp} {s : Shared} (I : L2.Inv X pins σ H s) : ∀ {as : List Addr} {row : Row}, PairsAt H as row → Prs s.heap (as.map Value.ref) row
  | _, _, .nil => .nil
  | _, _, .cons (a := a) (b := p) h r => by
    refine .cons ?_ (pairs_in I r)
    obtain ⟨its, vr, pl, _⟩ := I.tuple (SqT.of h)
    obtain ⟨o, h1, h2, n, h3⟩ := pl
    cases vr with
    | cons e1 vr =>
      cases vr with
      | cons e2 vr =>
        cases vr
        obtain ⟨t1, rfl⟩ := e1
        obtain ⟨t2, rfl⟩ := e2
        exact ⟨a, t1, t2, rfl, o, h1, h2, n, h3⟩
theorem vals_refs : ∀ {as : List Addr} {its : List Value}, Vals (as.map V.ref) its → its = as.map Value.ref
  | [], _, .nil => rfl
  | _ :: as, _, .cons e r => by
    cases e
    rw [vals_refs r]
    rfl
theorem refs_vals : ∀ as : List Addr, Vals (as.map V.ref) (as.map Value.ref)
  | [] => .nil
  | _ :: as => .cons rfl (refs_vals as)
def adr : Value → Addr
  | .ref a => a
  | _ => 0
theorem PairsAt.of_mem {H : Hp} : ∀ {as : List Addr} {row : Row} {a : Addr}, PairsAt H as row → a ∈ as → ∃ p, PairAt H a p
  | _, _, _, .nil, m => by cases m
  | _, _, _, .cons h r, m => by
    rcases List.mem_cons.mp m with e | e
    · exact ⟨_, by rw [e]; exact h⟩
    · exact PairsAt.of_mem r e
theorem call_sortedP {X : Cx} : CallR X (.builtin "sorted") (fun xs H Q => ∃ (p : Addr) (as : List Addr) (row : Row), xs = [.ref p] ∧ H p = some (.lst (as.map V.ref)) ∧ PairsAt H as row ∧ row.length < 64 ∧
    ∀ (l : Addr) (bs : List Addr) (row' : Row), H l = none → row'.Perm row → row'.Pairwise Le → PairsAt H bs row' → Q (.ref l) (upd H l (.lst (bs.map V.ref)))) := by
  intro pins s σ H xs us Q I r h
  obtain ⟨p, as, row, rfl, hH, hp, h64, q⟩ := h
  obtain ⟨u, rfl, rx⟩ := vals1 r
  cases rx
  obtain ⟨z, its, n, rv, hl, e⟩ := I.lstM hH
  have ei := vals_refs rv
  subst ei
  have pr := pairs_in I hp
  have al := hp.len
  have v64 : (as.map Value.ref).length < 64 := by rw [List.length_map, al]; exact h64
  refine sorted_pairs (vs := as.map Value.ref) ⟨_, e, rfl, n, rfl⟩ pr v64 fun st pm up => ?_
  have pl := Array.perm_iff_toList_perm.mp pm
  rw [pairsOf_toList] at pl
  -- each value of the sorted array, its address, its pair
  have each : ∀ x ∈ (arrOf st).toList, ∃ a ∈ as, x.1 = .ref a ∧ x.2 = .ref a ∧ PairAt H a (keyIn s.heap x.1) := fun x hx => by
    obtain ⟨m1, m2⟩ := zip_mem (pl.mem_iff.mp hx)
    obtain ⟨a, ha, ea⟩ := List.mem_map.mp m1
    obtain ⟨pa, hpa⟩ := hp.of_mem ha
    have k1 := pairs_in I (.cons hpa .nil : PairsAt H [a] [pa])
    cases k1 with
    | cons k1 _ =>
      refine ⟨a, ha, ea.symm, by rw [m2, ea], ?_⟩
      rw [← ea, keyIn_eq k1]
      exact hpa
  have outv : ((arrOf st).map (·.2)).toList = ((arrOf st).toList.map fun x => adr x.1).map Value.ref := by
    rw [Array.toList_map, List.map_map]
    refine List.map_congr_left fun x hx => ?_
    obtain ⟨a, _, e1, e2, _⟩ := each x hx
    show x.2 = Value.ref (adr x.1)
    rw [e1, e2]
    rfl
  have pairs : ∀ L : List Keyed, (∀ x ∈ L, ∃ a ∈ as, x.1 = .ref a ∧ x.2 = .ref a ∧ PairAt H a (keyIn s.heap x.1)) → PairsAt H (L.map fun x => adr x.1) (L.map fun x => keyIn s.heap x.1) := by
    intro L
    induction L with
    | nil => intro _; exact .nil
    | cons x L ih =>
      intro g
      obtain ⟨a, _, e1, _, e3⟩ := g x (by simp)
      refine .cons ?_ (ih fun y hy => g y (List.mem_cons_of_mem _ hy))
      rw [e1] at e3
      show PairAt H (adr x.1) (keyIn s.heap x.1)
      rw [e1]
      exact e3
  have keys : ∀ {vs : List Value} {row : Row}, Prs s.heap vs row → (vs.zip vs).map (fun x => keyIn s.heap x.1) = row := by
    intro vs
    induction vs with
    | nil => intro row h; cases h; rfl
    | cons v vs ih =>
      intro row h
      cases h with
      | cons h1 h2 =>
        rw [List.zip_cons_cons, List.map_cons, ih h2, keyIn_eq h1]
  have perm : ((arrOf st).toList.map fun x => keyIn s.heap x.1).Perm row := by
    have z2 := pl.map fun x => keyIn s.heap x.1
    rw [keys pr] at z2
    exact z2
  have srt : ((arrOf st).toList.map fun x => keyIn s.heap x.1).Pairwise Le := by
    rw [List.pairwise_iff_getElem]
    intro i j hi hj hij
    rw [List.length_map, Array.length_toList] at hi hj
    have z3 := up i j (Nat.le_of_lt hij) (by rw [← pm.size_eq]; exact hj)
    unfold kp at z3
    rw [getElem?_pos _ i hi, getElem?_pos _ j hj] at z3
    simpa using z3
  obtain ⟨c, hc⟩ := sortedAll_at s.heap (as.map Value.ref) ((arrOf st).map (·.2))
  have ll : ((arrOf st).toList.map fun x => adr x.1).length ≤ sizeLine := by
    rw [List.length_map, Array.length_toList, pm.size_eq, pairsOf_size]
    have : (64 : Nat) ≤ sizeLine := by decide
    omega
  refine ⟨.ref (s.heap.objs.size + 1), _, I.laid (t' := s.toks) (fun b o ob => sortedAll_old ob) (Nat.le_succ _) (show ObjOk X.prog X.w _ _ _ (.lst (((arrOf st).toList.map fun x => adr x.1).map V.ref)) from ⟨by rw [List.length_map]; exact ll, _, c, refs_vals _, ?_⟩), rfl, q _ _ _ (I.hok.fresh (Nat.le_succ _)) perm srt (pairs _ each)⟩
  rw [hc, ← outv]
end Ink

namespace Ink
open PySem PySem.Spec PyProof.Rows L2 InkX InkE InkF InkS
/-! ### rows as sets of addresses -/
def In (r : Row) (x : Int) : Prop := ∃ p ∈ r, p.1 ≤ x ∧ x < p.2
def Ok (r : Row) : Prop := ∀ p ∈ r, p.1 ≤ p.2
theorem mem_run : ∀ {n : Nat} {s x : Int}, x ∈ run s n ↔ s ≤ x ∧ x < s + n
  | 0, s, x => by simp [run]
  | n + 1, s, x => by
    rw [run, List.mem_cons, mem_run]
    omega
theorem mem_span {p : Int × Int} {x : Int} : x ∈ span p ↔ p.1 ≤ x ∧ x < p.2 := by
  unfold span
  rw [mem_run]
  omega
theorem mem_spell {r : Row} {x : Int} : x ∈ spell r ↔ In r x := by
  unfold spell In
  rw [List.mem_flatMap]
  exact ⟨fun ⟨p, a, b⟩ => ⟨p, a, mem_span.mp b⟩, fun ⟨p, a, b⟩ => ⟨p, a, mem_span.mpr b⟩⟩
theorem In_nil {x : Int} : ¬ In [] x := fun ⟨_, h, _⟩ => by cases h
theorem In_append {r q : Row} {x : Int} : In (r ++ q) x ↔ In r x ∨ In q x := by
  unfold In
  constructor
  · rintro ⟨p, hp, h⟩
    exact (List.mem_append.mp hp).elim (fun z => .inl ⟨p, z, h⟩) fun z => .inr ⟨p, z, h⟩
  · rintro (⟨p, hp, h⟩ | ⟨p, hp, h⟩)
    · exact ⟨p, List.mem_append_left _ hp, h⟩
    · exact ⟨p, List.mem_append_right _ hp, h⟩
theorem In_one {p : Int × Int} {x : Int} : In [p] x ↔ p.1 ≤ x ∧ x < p.2 := by
  unfold In
  constructor
  · rintro ⟨q, hq, h⟩
    rw [List.mem_singleton.mp hq] at h
    exact h
  · intro h
    exact ⟨p, by simp, h⟩
theorem In_perm {r q : Row} (h : r.Perm q) {x : Int} : In r x ↔ In q x := by
  unfold In
  constructor
  · rintro ⟨p, hp, g⟩
    exact ⟨p, h.mem_iff.mp hp, g⟩
  · rintro ⟨p, hp, g⟩
    exact ⟨p, h.mem_iff.mpr hp, g⟩
theorem In_plain {r : Row} (ok : Ok r) {x : Int} : In (plainF r) x ↔ In r x := by rw [← mem_spell, ← mem_spell, spell_plain r ok]
/-- rising, with gaps between -/
def Ris (r : Row) : Prop := r.Pairwise (fun p q => p.2 < q.1) ∧ ∀ p ∈ r, p.1 < p.2
theorem run_rise : ∀ (n : Nat) (s : Int), (run s n).Pairwise (· < ·)
  | 0, _ => .nil
  | n + 1, s => by
    rw [run, List.pairwise_cons]
    exact ⟨fun x hx => by have := mem_run.mp hx; omega, run_rise n (s + 1)⟩
theorem Ris.rise : ∀ {r : Row}, Ris r → (spell r).Pairwise (· < ·)
  | [], _ => .nil
  | p :: r, h => by
    have e : spell (p :: r) = span p ++ spell r := by unfold spell; rw [List.flatMap_cons]
    rw [e, List.pairwise_append]
    obtain ⟨h1, h2⟩ := List.pairwise_cons.mp h.1
    refine ⟨run_rise _ _, Ris.rise ⟨h2, fun q hq => h.2 q (List.mem_cons_of_mem _ hq)⟩, fun x hx y hy => ?_⟩
    obtain ⟨q, hq, a, b⟩ := mem_spell.mp hy
    have := (mem_span.mp hx).2
    have := h1 q hq
    omega
theorem rise_ext : ∀ {a b : List Int}, a.Pairwise (· < ·) → b.Pairwise (· < ·) → (∀ x, x ∈ a ↔ x ∈ b) → a = b
  | [], [], _, _, _ => rfl
  | [], y :: b, _, _, h => by have := (h y).mpr (by simp); cases this
  | x :: a, [], _, _, h => by have := (h x).mp (by simp); cases this
  | x :: a, y :: b, ha, hb, h => by
    obtain ⟨a1, a2⟩ := List.pairwise_cons.mp ha
    obtain ⟨b1, b2⟩ := List.pairwise_cons.mp hb
    have xy : x = y := by
      rcases List.mem_cons.mp ((h x).mp (by simp)) with e | e
      · exact e
      · rcases List.mem_cons.mp ((h y).mpr (by simp)) with e2 | e2
        · exact e2.symm
        · have := b1 x e
          have := a1 y e2
          omega
    subst xy
    refine congrArg (x :: ·) (rise_ext a2 b2 fun z => ⟨fun hz => ?_, fun hz => ?_⟩)
    · rcases List.mem_cons.mp ((h z).mp (List.mem_cons_of_mem _ hz)) with e | e
      · have := a1 z hz
        omega
      · exact e
    · rcases List.mem_cons.mp ((h z).mpr (List.mem_cons_of_mem _ hz)) with e | e
      · have := b1 z hz
        omega
      · exact e
theorem Ris.ok {r : Row} (h : Ris r) : Ok r := fun p hp => Int.le_of_lt (h.2 p hp)
theorem ris_plain {r : Row} (h : Ris r) : plainF r = r := by
  have z : ∀ (r t : Row), Ris (t ++ r) → r.foldl plainStep t = t ++ r := by
    intro r
    induction r with
    | nil => intro t _; simp
    | cons p r ih =>
      intro t g
      have e : plainStep t p = t ++ [p] := by
        have pp := g.2 p (by simp)
        unfold plainStep
        rw [if_neg (by omega)]
        rcases List.eq_nil_or_concat t with rfl | ⟨t', q, rfl⟩
        · exact grow_nil _ _
        · rw [List.concat_eq_append] at g ⊢
          have := (List.pairwise_append.mp g.1).2.2 q (by simp) p (by simp)
          rw [grow_neg _ (by omega)]
      rw [List.foldl_cons, e, ih _ (by rw [List.append_assoc]; exact g), List.append_assoc]
      rfl
  exact z r [] h
theorem ris_rowOf {r : Row} (h : Ris r) : rowOf (spell r) = r := by rw [← plain_eq r h.ok, ris_plain h]
theorem ris_ext {a b : Row} (ha : Ris a) (hb : Ris b) (h : ∀ x, In a x ↔ In b x) : a = b := by
  rw [← ris_rowOf ha, ← ris_rowOf hb, rise_ext ha.rise hb.rise fun x => by rw [mem_spell, mem_spell, h x]]
/-! spread -/
def spStep (t : Row) (p : Int × Int) : Row :=
  match t.getLast? with
  | some l => if p.1 ≤ l.2 then t.dropLast ++ [(l.1, if p.2 > l.2 then p.2 else l.2)] else t ++ [p]
  | none => t ++ [p]
theorem spStep_pos (t : Row) {l p : Int × Int} (h : p.1 ≤ l.2) : spStep (t ++ [l]) p = t ++ [(l.1, if p.2 > l.2 then p.2 else l.2)] := by
  unfold spStep
  rw [List.getLast?_concat]
  show (if p.1 ≤ l.2 then (t ++ [l]).dropLast ++ [(l.1, if p.2 > l.2 then p.2 else l.2)] else _) = _
  rw [if_pos h, List.dropLast_concat]
theorem spStep_neg (t : Row) {l p : Int × Int} (h : ¬ p.1 ≤ l.2) : spStep (t ++ [l]) p = t ++ [l] ++ [p] := by
  unfold spStep
  rw [List.getLast?_concat]
  show (if p.1 ≤ l.2 then (t ++ [l]).dropLast ++ [(l.1, if p.2 > l.2 then p.2 else l.2)] else t ++ [l] ++ [p]) = _
  rw [if_neg h]
theorem sp_len (L : Row) : ∀ t : Row, (L.foldl spStep t).length ≤ t.length + L.length := by
  induction L with
  | nil => intro t; simp
  | cons p L ih =>
    intro t
    rw [List.foldl_cons, List.length_cons]
    have a := ih (spStep t p)
    have b : (spStep t p).length ≤ t.length + 1 := by
      rcases List.eq_nil_or_concat t with rfl | ⟨t', q, rfl⟩
      · exact Nat.le_refl _
      · rw [List.concat_eq_append]
        by_cases c : p.1 ≤ q.2
        · rw [spStep_pos _ c, List.length_append, List.length_append, List.length_singleton, List.length_singleton]; omega
        · rw [spStep_neg _ c, List.length_append, List.length_append]; exact Nat.le_refl _
    omega
theorem sp_fold : ∀ (L t : Row), L.Pairwise Le → (∀ p ∈ L, p.1 < p.2) → Ris t → (∀ l ∈ t.getLast?, ∀ p ∈ L, l.1 ≤ p.1) → Ris (L.foldl spStep t) ∧ ∀ x, In (L.foldl spStep t) x ↔ In t x ∨ In L x := by
  intro L
  induction L with
  | nil => intro t _ _ h _; exact ⟨h, fun x => ⟨.inl, fun z => z.elim id fun w => absurd w In_nil⟩⟩
  | cons p L ih =>
    intro t hs hp ht hl
    obtain ⟨s1, s2⟩ := List.pairwise_cons.mp hs
    have pp := hp p (by simp)
    have lo : ∀ q ∈ L, p.1 ≤ q.1 := fun q hq => by have := s1 q hq; unfold Le at this; omega
    have step : Ris (spStep t p) ∧ (∀ x, In (spStep t p) x ↔ In t x ∨ In [p] x) ∧ ∀ l ∈ (spStep t p).getLast?, l.1 ≤ p.1 := by
      rcases List.eq_nil_or_concat t with rfl | ⟨t', q, rfl⟩
      · refine ⟨⟨by simp [spStep], fun r hr => by rw [List.mem_singleton.mp hr]; exact pp⟩, fun x => ?_, fun l h => ?_⟩
        · show In [p] x ↔ _
          exact ⟨.inr, fun z => z.elim (fun w => absurd w In_nil) id⟩
        · have : p = l := by simpa [spStep] using h
          rw [← this]
          exact Int.le_refl _
      · rw [List.concat_eq_append] at ht hl ⊢
        obtain ⟨h1, h2⟩ := ht
        obtain ⟨p1, p2, p3⟩ := List.pairwise_append.mp h1
        have qq := h2 q (by simp)
        have ql := hl q (by rw [List.getLast?_concat]; rfl) p (by simp)
        by_cases c : p.1 ≤ q.2
        · rw [spStep_pos _ c]
          refine ⟨⟨List.pairwise_append.mpr ⟨p1, by simp, fun a ha b hb => ?_⟩, fun r hr => ?_⟩, fun x => ?_, fun l h => ?_⟩
          · rw [List.mem_singleton.mp hb]
            exact p3 a ha q (by simp)
          · rcases List.mem_append.mp hr with e | e
            · exact h2 r (List.mem_append_left _ e)
            · rw [List.mem_singleton.mp e]
              show q.1 < (if p.2 > q.2 then p.2 else q.2)
              split <;> omega
          · rw [In_append, In_append, In_one, In_one, In_one]
            show In t' x ∨ (q.1 ≤ x ∧ x < (if p.2 > q.2 then p.2 else q.2)) ↔ _
            constructor
            · rintro (z | z)
              · exact .inl (.inl z)
              · by_cases d : x < q.2
                · exact .inl (.inr ⟨z.1, d⟩)
                · refine .inr ⟨by omega, ?_⟩
                  have := z.2
                  split at this <;> omega
            · rintro ((z | z) | z)
              · exact .inl z
              · refine .inr ⟨z.1, ?_⟩
                split <;> omega
              · refine .inr ⟨by omega, ?_⟩
                split <;> omega
          · rw [List.getLast?_concat] at h
            have : (q.1, if p.2 > q.2 then p.2 else q.2) = l := by simpa using h
            rw [← this]
            exact ql
        · rw [spStep_neg _ c]
          refine ⟨⟨List.pairwise_append.mpr ⟨h1, by simp, fun a ha b hb => ?_⟩, fun r hr => ?_⟩, fun x => In_append, fun l h => ?_⟩
          · rw [List.mem_singleton.mp hb]
            rcases List.mem_append.mp ha with e | e
            · have := p3 a e q (by simp)
              omega
            · rw [List.mem_singleton.mp e]; omega
          · rcases List.mem_append.mp hr with e | e
            · exact h2 r e
            · rw [List.mem_singleton.mp e]; exact pp
          · rw [List.getLast?_concat] at h
            have : p = l := by simpa using h
            rw [← this]
            exact Int.le_refl _
    obtain ⟨r1, r2⟩ := ih (spStep t p) s2 (fun q hq => hp q (List.mem_cons_of_mem _ hq)) step.1 fun l h q hq => Int.le_trans (step.2.2 l h) (lo q hq)
    refine ⟨r1, fun x => ?_⟩
    rw [List.foldl_cons, r2, step.2.1]
    have e : In (p :: L) x ↔ In [p] x ∨ In L x := In_append (r := [p]) (q := L)
    rw [e]
    exact or_assoc
theorem sp_sorted {L row : Row} (h : L.Perm row) (g : L.Pairwise Le) (ok : ∀ p ∈ row, p.1 < p.2) : Ris (L.foldl spStep []) ∧ ∀ x, In (L.foldl spStep []) x ↔ In row x := by
  obtain ⟨a, b⟩ := sp_fold L [] g (fun p hp => ok p (h.mem_iff.mp hp)) ⟨.nil, fun p hp => by cases hp⟩ (fun l hl => by simp at hl)
  refine ⟨a, fun x => ?_⟩
  rw [b, In_perm h]
  exact ⟨fun z => z.elim (fun w => absurd w In_nil) id, .inr⟩
end Ink

namespace Ink
open PySem PySem.Spec PyProof.Rows L2 InkX InkE InkF InkS
/-! ### how many addresses two rows have -/
theorem nodup_sub : ∀ (l m : List Int), l.Nodup → (∀ x ∈ l, x ∈ m) → l.length ≤ m.length
  | [], _, _, _ => Nat.zero_le _
  | x :: l, m, h, g => by
    obtain ⟨h1, h2⟩ := List.nodup_cons.mp h
    have xm := g x (by simp)
    have := nodup_sub l (m.erase x) h2 fun y hy => by
      refine (List.mem_erase_of_ne (fun e => h1 (by rw [← e]; exact hy))).mpr (g y (List.mem_cons_of_mem _ hy))
    rw [List.length_erase_of_mem xm] at this
    have pos : 0 < m.length := List.length_pos_of_mem xm
    rw [List.length_cons]
    omega
theorem rise_nodup {l : List Int} (h : l.Pairwise (· < ·)) : l.Nodup := h.imp fun a b => by
  rename_i x y
  have : x < y := a
  omega
theorem meets_iff {U A B : Row} (hU : Ris U) (hA : Ris A) (hB : Ris B) (h : ∀ x, In U x ↔ In A x ∨ In B x) : tot U < tot A + tot B ↔ ∃ x, In A x ∧ In B x := by
  rw [← spell_len U hU.ok, ← spell_len A hA.ok, ← spell_len B hB.ok]
  have nU := rise_nodup hU.rise
  have nA := rise_nodup hA.rise
  have nB := rise_nodup hB.rise
  have nC : (spell A ++ (spell B).filter fun x => decide (x ∉ spell A)).Nodup := by
    rw [List.nodup_append]
    refine ⟨nA, nB.filter _, fun a ha b hb e => ?_⟩
    have := (List.mem_filter.mp hb).2
    rw [← e] at this
    exact (of_decide_eq_true this) ha
  have l1 := nodup_sub _ _ nU fun x hx => by
    rcases (h x).mp (mem_spell.mp hx) with z | z
    · exact List.mem_append_left (bs := (spell B).filter fun x => decide (x ∉ spell A)) (mem_spell.mpr z)
    · by_cases c : x ∈ spell A
      · exact List.mem_append_left _ c
      · exact List.mem_append_right _ (List.mem_filter.mpr ⟨mem_spell.mpr z, decide_eq_true c⟩)
  have l2 := nodup_sub _ (spell U) nC fun x hx => by
    rcases List.mem_append.mp hx with z | z
    · exact mem_spell.mpr ((h x).mpr (.inl (mem_spell.mp z)))
    · exact mem_spell.mpr ((h x).mpr (.inr (mem_spell.mp (List.mem_filter.mp z).1)))
  rw [List.length_append] at l1 l2
  have le := List.length_filter_le (fun x => decide (x ∉ spell A)) (spell B)
  constructor
  · intro z
    have lt : ((spell B).filter fun x => decide (x ∉ spell A)).length < (spell B).length := by omega
    obtain ⟨x, hx, nx⟩ := List.length_filter_lt_length_iff_exists.mp lt
    refine ⟨x, ?_, mem_spell.mp hx⟩
    refine mem_spell.mp (Classical.byContradiction fun c => nx (decide_eq_true c))
  · rintro ⟨x, ha, hb⟩
    have lt : ((spell B).filter fun x => decide (x ∉ spell A)).length < (spell B).length := List.length_filter_lt_length_iff_exists.mpr ⟨x, mem_spell.mpr hb, fun c => (of_decide_eq_true c) (mem_spell.mpr ha)⟩
    omega
/-! ### a stretch without holes -/
def inB (r : Row) (x : Int) : Bool := r.any fun p => decide (p.1 ≤ x) && decide (x < p.2)
theorem inB_iff {r : Row} {x : Int} : inB r x = true ↔ In r x := by
  unfold inB In
  rw [List.any_eq_true]
  constructor
  · rintro ⟨p, hp, h⟩
    rw [Bool.and_eq_true] at h
    exact ⟨p, hp, of_decide_eq_true h.1, of_decide_eq_true h.2⟩
  · rintro ⟨p, hp, h1, h2⟩
    exact ⟨p, hp, by rw [Bool.and_eq_true]; exact ⟨decide_eq_true h1, decide_eq_true h2⟩⟩
def outOf (r : Row) (xs : List Int) : List Int := xs.filter fun x => !inB r x
theorem outOf_all {r : Row} {xs : List Int} (h : ∀ x ∈ xs, ¬ In r x) : outOf r xs = xs := by
  unfold outOf
  rw [List.filter_eq_self]
  intro x hx
  cases e : inB r x with
  | false => rfl
  | true => exact absurd (inB_iff.mp e) (h x hx)
theorem outOf_none {r : Row} {xs : List Int} (h : ∀ x ∈ xs, In r x) : outOf r xs = [] := by
  unfold outOf
  rw [List.filter_eq_nil_iff]
  intro x hx
  rw [inB_iff.mpr (h x hx)]
  simp
theorem outOf_congr {r q : Row} {xs : List Int} (h : ∀ x ∈ xs, In r x ↔ In q x) : outOf r xs = outOf q xs := by
  unfold outOf
  refine List.filter_congr fun x hx => ?_
  cases e : inB r x with
  | true => rw [inB_iff.mpr ((h x hx).mp (inB_iff.mp e))]
  | false =>
    cases e2 : inB q x with
    | true => rw [inB_iff.mpr ((h x hx).mpr (inB_iff.mp e2))] at e; cases e
    | false => rfl
theorem outOf_append (r : Row) (a b : List Int) : outOf r (a ++ b) = outOf r a ++ outOf r b := by unfold outOf; rw [List.filter_append]
def lo (b : Int) : Int → Row → Row
  | l, [] => [(l, b)]
  | l, p :: r => if p.1 < b then (l, if p.1 > l then p.1 else l) :: lo b (if b < p.2 then b else p.2) r else [(l, b)]
theorem span_cut {a b c : Int} (h : a ≤ b) (g : b ≤ c) : span (a, c) = span (a, b) ++ span (b, c) := by
  unfold span
  show run a (c - a).toNat = run a (b - a).toNat ++ run b (c - b).toNat
  have e : (c - a).toNat = (b - a).toNat + (c - b).toNat := by omega
  rw [e]
  have z : ∀ (n m : Nat) (s : Int), run s (n + m) = run s n ++ run (s + n) m := by
    intro n
    induction n with
    | zero => intro m s; simp [run]
    | succ n ih =>
      intro m s
      rw [Nat.succ_add, run, run, ih, List.cons_append]
      congr 3
      omega
  rw [z]
  congr 2
  omega
theorem lo_ok (b : Int) : ∀ (r : Row) (l : Int), l ≤ b → (∀ p ∈ r, l < p.2) → Ris r → Ok (lo b l r) ∧ spell (lo b l r) = outOf r (span (l, b)) ∧ (∀ p ∈ lo b l r, l ≤ p.1)
  | [], l, h, _, _ => by
    refine ⟨fun p hp => ?_, ?_, fun p hp => ?_⟩
    · rw [List.mem_singleton.mp hp]; exact h
    · rw [outOf_all fun x _ => In_nil]
      exact spell_one _
    · rw [List.mem_singleton.mp hp]; exact Int.le_refl _
  | p :: r, l, h, g, R => by
    rw [lo]
    have pp := R.2 p (by simp)
    have lp := g p (by simp)
    obtain ⟨r1, r2⟩ := List.pairwise_cons.mp R.1
    by_cases c : p.1 < b
    · rw [if_pos c]
      obtain ⟨m, hm⟩ : ∃ m, m = (if p.1 > l then p.1 else l) := ⟨_, rfl⟩
      obtain ⟨k, hk⟩ : ∃ k, k = (if b < p.2 then b else p.2) := ⟨_, rfl⟩
      rw [← hm, ← hk]
      have m1 : l ≤ m ∧ m ≤ k ∧ k ≤ b ∧ p.1 ≤ m ∧ k ≤ p.2 ∧ (m = l ∨ m = p.1) ∧ (k = b ∨ k = p.2) := by
        rw [hm, hk]
        split <;> split <;> omega
      obtain ⟨i1, i2, i3⟩ := lo_ok b r k m1.2.2.1 (fun q hq => by have := r1 q hq; have := R.2 q (List.mem_cons_of_mem _ hq); omega) ⟨r2, fun q hq => R.2 q (List.mem_cons_of_mem _ hq)⟩
      refine ⟨fun q hq => ?_, ?_, fun q hq => ?_⟩
      · rcases List.mem_cons.mp hq with e | e
        · rw [e]; exact m1.1
        · exact i1 q e
      · have e : spell ((l, m) :: lo b k r) = span (l, m) ++ spell (lo b k r) := by unfold spell; rw [List.flatMap_cons]
        rw [e, i2, span_cut (a := l) (b := m) (c := b) m1.1 (by omega), span_cut (a := m) (b := k) (c := b) m1.2.1 m1.2.2.1, outOf_append, outOf_append]
        have o1 : outOf (p :: r) (span (l, m)) = span (l, m) := outOf_all fun x hx => by
          have hx' := mem_span.mp hx
          rintro ⟨q, hq, q1, q2⟩
          rcases List.mem_cons.mp hq with e2 | e2
          · rw [e2] at q1; simp only at hx'; omega
          · have := r1 q e2; simp only at hx'; omega
        have o2 : outOf (p :: r) (span (m, k)) = [] := outOf_none fun x hx => ⟨p, by simp, by have := (mem_span.mp hx).1; simp only at this; omega, by have := (mem_span.mp hx).2; simp only at this; omega⟩
        have o3 : outOf (p :: r) (span (k, b)) = outOf r (span (k, b)) := outOf_congr fun x hx => by
          have hx' := mem_span.mp hx
          simp only at hx'
          constructor
          · rintro ⟨q, hq, q1, q2⟩
            rcases List.mem_cons.mp hq with e2 | e2
            · rw [e2] at q2; omega
            · exact ⟨q, e2, q1, q2⟩
          · rintro ⟨q, hq, z⟩
            exact ⟨q, List.mem_cons_of_mem _ hq, z⟩
        rw [o1, o2, o3, List.nil_append]
      · rcases List.mem_cons.mp hq with e | e
        · rw [e]; exact Int.le_refl _
        · have := i3 q e; omega
    · rw [if_neg c]
      refine ⟨fun q hq => ?_, ?_, fun q hq => ?_⟩
      · rw [List.mem_singleton.mp hq]; exact h
      · rw [outOf_all fun x hx => ?_]
        · exact spell_one _
        · have hx' := mem_span.mp hx
          simp only at hx'
          rintro ⟨q, hq, q1, q2⟩
          rcases List.mem_cons.mp hq with e2 | e2
          · rw [e2] at q1; omega
          · have := r1 q e2; omega
      · rw [List.mem_singleton.mp hq]; exact Int.le_refl _
theorem lo_len (b : Int) : ∀ (r : Row) (l : Int), (lo b l r).length ≤ r.length + 1
  | [], _ => Nat.le_refl _
  | p :: r, l => by
    rw [lo]
    split
    · rw [List.length_cons, List.length_cons]
      have := lo_len b r (if b < p.2 then b else p.2)
      omega
    · simp
/-- the first hole that stops behind x -/
def Fst (holes : Row) (x : Int) (n : Nat) : Prop := n ≤ holes.length ∧ (∀ i p, holes[i]? = some p → i < n → p.2 ≤ x) ∧ ∀ i p, holes[i]? = some p → n ≤ i → x < p.2
theorem Fst.drop {holes : Row} {x : Int} {n : Nat} (h : Fst holes x n) : (∀ p ∈ holes.drop n, x < p.2) ∧ ∀ y, x ≤ y → (In holes y ↔ In (holes.drop n) y) := by
  refine ⟨fun p hp => ?_, fun y hy => ⟨fun z => ?_, fun z => ?_⟩⟩
  · obtain ⟨i, hi⟩ := List.getElem?_of_mem hp
    rw [List.getElem?_drop] at hi
    exact h.2.2 _ p hi (by omega)
  · obtain ⟨p, hp, a, b⟩ := z
    obtain ⟨i, hi⟩ := List.getElem?_of_mem hp
    by_cases c : i < n
    · have := h.2.1 i p hi c
      omega
    · refine ⟨p, List.mem_of_getElem? (i := i - n) ?_, a, b⟩
      rw [List.getElem?_drop, show n + (i - n) = i by omega]
      exact hi
  · obtain ⟨p, hp, q⟩ := z
    exact ⟨p, List.mem_of_mem_drop hp, q⟩
theorem Ris.drop {r : Row} (h : Ris r) (n : Nat) : Ris (r.drop n) := ⟨h.1.drop, fun p hp => h.2 p (List.mem_of_mem_drop hp)⟩
def spSpread : Sp := fun vs H Q _ => ∃ (r : Addr) (row : Row), vs = [.ref r] ∧ RowAt H r row ∧ row.length < 64 ∧ Ok row ∧
  ∀ (q : Addr) (R : Row) (H' : Hp), RowAt H' q R → Ris R → (∀ x, In R x ↔ In row x) → R.length ≤ row.length → Same H H' → H q = none → Q (.ref q) H'
def spMeets : Sp := fun vs H Q _ => ∃ (r q : Addr) (row other : Row), vs = [.ref r, .ref q] ∧ RowAt H r row ∧ RowAt H q other ∧ row.length + other.length < 64 ∧ Ok row ∧ Ok other ∧
  ∀ (b : Bool) (H' : Hp), (b = true ↔ ∃ x, In row x ∧ In other x) → Same H H' → Q (.bl b) H'
def spFirst : Sp := fun vs H Q _ => ∃ (r : Addr) (holes : Row) (x : Int), vs = [.ref r, .int x] ∧ RowAt H r holes ∧ Ris holes ∧ ∀ n : Nat, Fst holes x n → Q (.int n) H
def spLeft : Sp := fun vs H Q _ => ∃ (r : Addr) (holes : Row) (a b : Int), vs = [.int a, .int b, .ref r] ∧ RowAt H r holes ∧ Ris holes ∧ holes.length ≤ 100000 ∧ a ≤ b ∧
  ∀ (q : Addr) (L : Row) (H' : Hp), RowAt H' q L → Ok L → spell L = outOf holes (span (a, b)) → (∀ p ∈ L, a ≤ p.1) → L.length ≤ holes.length + 1 → Same H H' → H q = none → Q (.ref q) H'
def spWithout : Sp := fun vs H Q _ => ∃ (r o : Addr) (row other : Row), vs = [.ref r, .ref o] ∧ RowAt H r row ∧ RowAt H o other ∧ row.length ≤ 5000 ∧ other.length < 64 ∧ Ok row ∧ Ok other ∧
  ∀ (q : Addr) (H' : Hp), RowAt H' q (rowOf (outOf other (spell row))) → (rowOf (outOf other (spell row))).length ≤ row.length * (other.length + 1) → Same H H' → H q = none → Q (.ref q) H'
end Ink

namespace Ink
open PySem PySem.Spec PyProof.Rows L2 InkX InkE InkF InkP
/-! ### the program's classes -/
structure MetAt (K : PySem.W.Frag) (C : Addr) (m qual : Str) (st : Stmt) (ps : List Str) (a : Addr) (d : FuncData) : Prop where
  F : Fun K m qual st a d
  b : Binds K d ps []
  mt : Meth K C m a
structure ClsAt (K : PySem.W.Frag) (mg : Str → Option Value) (x : Str) (C fi : Addr) : Prop where
  cl : Cls K C
  m : mg x = some (.ref C)
  mak : Mk K C fi
theorem RowAt.obj {H H' : Hp} {r x C d : Addr} {row : Row} {fs : List (Str × V)} (h : RowAt H r row) (hx : H x = some (.ins C d fs)) (s : Keep x H H') : RowAt H' r row := by
  obtain ⟨as, h1, h2⟩ := h
  exact ⟨as, s _ _ h1 (ne_of h1 hx (by intro z; cases z)), h2.tups fun a ys e => s a _ e (ne_of e hx (by intro z; cases z))⟩
structure ExcN (K : PySem.W.Frag) (mg : Str → Option Value) (x : Str) (C : Addr) : Prop where
  m : mg x = some (.ref C)
  x : PySem.W.excIn K C [.type "ValueError", .type "Exception", .type "BaseException", .type "object"] "ValueError.__new__" = true
  h : PySem.W.exmOne K (.ref C) (.ref C) = some true
theorem in_add {X : Cx} : InOp X .Add (ipI fun i j => i + j) := fun pins s σ H x y u v Q I rx ry h => ip_add pins s σ H x y u v Q I rx ry h
end Ink

namespace InkX
open PySem PySem.Spec PyProof.Rows L2
/-! ### a dict that is walked: its record is known while it is so -/
section
variable {X : Cx} {pins : List (Addr × Obj)} {σ : L2.St} {H : Hp} {s : Shared} {a : Addr} {o : Obj} {kvs : List (Key × V)}
end
section
variable {X : Cx} {tg : Expr}
end
/-! ### sorted of ints -/
/-! ### d.values(), and its sum -/
section
variable {X : Cx} {N : List Str} {scope : Scope} {cl : List (Str × Addr)} {C : Addr} {s₀ : Shared} {H₀ : Hp} {ex : List Addr} {pn : List (Addr × Obj)} {e : Expr} {ta : TE} {f : Str} {pos : Pos}
theorem peF_fld (he : PE (cxF X N scope cl C s₀ H₀ ex pn) e ta) (hb : attributeBase e f (cxF X N scope cl C s₀ H₀ ex pn).env (eval e (cxF X N scope cl C s₀ H₀ ex pn).env) = eval e (cxF X N scope cl C s₀ H₀ ex pn).env) : PE (cxF X N scope cl C s₀ H₀ ex pn) (.Attribute e f pos) (tFld X.K ta f) := pe_fld he hb
end
end InkX

namespace InkX
open PySem PySem.Spec PyProof.Rows L2 Ink InkF
/-! ### a list walked with its places -/
/-! ### d.setdefault(k, x) -/
/-! ### tuples that are equal, asked by != -/
end InkX

namespace InkX
open PySem PySem.Spec PyProof.Rows L2
/-! ### tuples of ints, asked by <= -/
section
open PySem.SeqAt
open PySem.AutoSeq1 (wpAny_loadPart')
open PySem.MeetsSeq PySem.MeetsSeq2 PySem.MeetsSeq3
end
end InkX

namespace InkX
open PySem PySem.Spec PyProof.Rows L2 Ink InkF
/-! ### a tuple of ints that is in a list of such -/
end InkX

namespace InkE
open PySem PySem.Spec PyProof.Rows PySem.W L2
/-! ### a method that may raise, called where its exception is met -/
section
variable {X : Cx} {o : Expr} {m : Str} {ps : List Str} {f C : Addr} {fd : FuncData} {k : Nat} {sp : Sp} {e : Expr} {es : List Expr} {ta : TE} {t : TA} {apos pos : Pos} {E : XK} {pl : Sem Bool}
end
section
variable {X : Cx} {pins : List (Addr × Obj)} {σ : L2.St} {H : Hp} {s : Shared} {a : Addr}
variable {o : Expr} {m y y2 : Str} {ps : List Str} {f B : Addr} {fd : FuncData} {k : Nat} {sp : Sp} {e : Expr} {es : List Expr} {ta : TE} {t : TA} {apos pos pos1 pos2 pos3 np hpos nq hqos : Pos} {C C1 C2 Cy Cz : Addr} {b0 c0 : Stmt} {suite suite2 : List Stmt} {tb tc : TS} {pl : Sem Bool}
end
end InkE

namespace InkX
open PySem PySem.Spec PyProof.Rows L2 InkE
/-! ### texts and their signs -/
section
variable {X : Cx}
end
/-! ### a text walked -/
end InkX

namespace InkX
open PySem PySem.Spec PyProof.Rows L2 InkE Ink
/-! ### texts put together; a list turned about -/
section
variable {X : Cx}
end
end InkX

namespace InkZ
open PySem
/-! ### the table of a set: places rise -/
theorem below_go {xs : Array Nat} (hr : xs.toList.Pairwise (· < ·)) (j : Nat) : ∀ (fuel lo hi : Nat), lo ≤ hi → hi ≤ xs.size → hi - lo ≤ fuel →
    (∀ a ∈ xs.toList.take lo, a < j) → (∀ a ∈ xs.toList.drop hi, j ≤ a) →
    (∀ a ∈ xs.toList.take (SetTable.below.go xs j fuel lo hi), a < j) ∧ (∀ a ∈ xs.toList.drop (SetTable.below.go xs j fuel lo hi), j ≤ a) := by
  intro fuel
  induction fuel with
  | zero =>
    intro lo hi h1 h2 h3 h4 h5
    obtain rfl : lo = hi := by omega
    exact ⟨h4, h5⟩
  | succ fuel ih =>
    intro lo hi h1 h2 h3 h4 h5
    unfold SetTable.below.go
    by_cases hlt : lo < hi
    · rw [if_pos hlt]
      dsimp only
      have hm : (lo + hi) / 2 < xs.size := by omega
      have hg : xs.getD ((lo + hi) / 2) j = xs.toList[(lo + hi) / 2]'(by simpa using hm) := by simp [Array.getD, hm]
      have hm' : (lo + hi) / 2 < xs.toList.length := by simpa using hm
      by_cases hc : xs.getD ((lo + hi) / 2) j < j
      · rw [if_pos hc]
        refine ih _ _ (by omega) h2 (by omega) (fun a ha => ?_) h5
        rw [List.take_succ_eq_append_getElem hm', List.mem_append] at ha
        rcases ha with ha | ha
        · obtain ⟨i, hi', rfl⟩ := List.mem_iff_getElem.mp ha
          rw [List.length_take] at hi'
          rw [List.getElem_take]
          have := List.pairwise_iff_getElem.mp hr i ((lo + hi) / 2) (by omega) hm' (by omega)
          rw [hg] at hc; omega
        · rw [List.mem_singleton] at ha; subst ha; rw [hg] at hc; exact hc
      · rw [if_neg hc]
        refine ih _ _ (by omega) (by omega) (by omega) h4 (fun a ha => ?_)
        obtain ⟨i, hi', rfl⟩ := List.mem_iff_getElem.mp ha
        rw [List.length_drop] at hi'
        rw [List.getElem_drop]
        rw [hg] at hc
        rcases Nat.eq_zero_or_pos i with rfl | hp
        · simp only [Nat.add_zero]; omega
        · have := List.pairwise_iff_getElem.mp hr ((lo + hi) / 2) ((lo + hi) / 2 + i) hm' (by omega) (by omega)
          omega
    · rw [if_neg hlt]
      obtain rfl : lo = hi := by omega
      exact ⟨h4, h5⟩
theorem below_ok {xs : Array Nat} (hr : xs.toList.Pairwise (· < ·)) (j : Nat) :
    (∀ a ∈ xs.toList.take (SetTable.below xs j), a < j) ∧ (∀ a ∈ xs.toList.drop (SetTable.below xs j), j ≤ a) :=
  below_go hr j xs.size 0 xs.size (Nat.zero_le _) (Nat.le_refl _) (Nat.le_refl _) (fun a ha => by simp at ha) (fun a ha => by rw [List.drop_of_length_le (by simp)] at ha; simp at ha)
theorem rise_put {xs : Array Nat} (hr : xs.toList.Pairwise (· < ·)) {j : Nat} (hj : xs[SetTable.below xs j]? ≠ some j) :
    (SetTable.insertAt xs (SetTable.below xs j) j).toList.Pairwise (· < ·) := by
  obtain ⟨h1, h2⟩ := below_ok hr j
  rw [SetTable.toList_insertAt]
  generalize SetTable.below xs j = p at h1 h2 hj
  have h3 : ∀ a ∈ xs.toList.drop p, j < a := by
    intro a ha
    have hp : p < xs.toList.length := by
      rcases Nat.lt_or_ge p xs.toList.length with h | h
      · exact h
      · rw [List.drop_of_length_le h] at ha; simp at ha
    rw [List.drop_eq_getElem_cons hp] at ha h2
    have hd := h2 _ List.mem_cons_self
    have hne : xs.toList[p] ≠ j := fun e => hj (by
      rw [← Array.getElem?_toList, List.getElem?_eq_getElem hp, e])
    rcases List.mem_cons.mp ha with rfl | ha
    · omega
    · obtain ⟨i, hi', rfl⟩ := List.mem_iff_getElem.mp ha
      rw [List.length_drop] at hi'
      rw [List.getElem_drop]
      have := List.pairwise_iff_getElem.mp hr p (p + 1 + i) hp (by omega) (by omega)
      omega
  rw [List.pairwise_append]
  refine ⟨hr.sublist (List.take_sublist _ _), List.pairwise_cons.mpr ⟨h3, hr.sublist (List.drop_sublist _ _)⟩, fun a ha b hb => ?_⟩
  have := h1 a ha
  rcases List.mem_cons.mp hb with rfl | hb
  · exact this
  · exact Nat.lt_trans this (h3 b hb)
theorem probe_go {t : SetTable} (hd : t.dummies = #[]) (f : Nat → Int) (h : Int) : ∀ (fuel : Nat) (p : SetTable.Probe), p.dummy = none → ∀ j d,
    SetTable.probe.go t f h fuel p = some (.empty j d) → d = none ∧ t.slot j = .empty := by
  intro fuel
  induction fuel with
  | zero => intro p _ j d e; cases e
  | succ fuel ih =>
    intro p hp j d e
    unfold SetTable.probe.go at e
    have adv : ∀ q : SetTable.Probe, (t.advance q).dummy = q.dummy := fun q => by
      unfold SetTable.advance; split <;> rfl
    split at e
    · rename_i hs; cases e; exact ⟨hp, hs⟩
    · rename_i hs
      exfalso
      unfold SetTable.slot at hs
      dsimp only at hs
      split at hs
      · cases hs
      · rw [hd] at hs; simp [SetTable.has] at hs
    · rename_i i hs
      split at e
      · cases e
      · exact ih _ (by rw [adv]; exact hp) j d e
structure TOk (led : Bool) (t : SetTable) : Prop where
  dum : t.dummies = #[]
  led : t.led = led
  rise : t.plain = true → t.place.toList.Pairwise (· < ·)
theorem TOk.stand {led : Bool} {t : SetTable} (T : TOk led t) (n : Nat) : TOk led (t.standIn n) := ⟨rfl, T.led, fun e => by cases e⟩
theorem TOk.off {led : Bool} {t : SetTable} (T : TOk led t) : TOk led { t with plain := false } := ⟨T.dum, T.led, fun e => by cases e⟩
theorem TOk.lay {led : Bool} {t : SetTable} (T : TOk led t) (es : Array (Int × Value)) (h : Int) (x : Value) : TOk led (layNew t es h x).2.1 := by
  unfold layNew
  split
  · rename_i slot was hs
    dsimp only
    unfold SetTable.freeSlot at hs
    split at hs
    · rename_i j d hp
      obtain ⟨rfl, hj⟩ := probe_go T.dum _ h _ _ rfl j d hp
      cases hs
      have hj' : t.place[SetTable.below t.place j]? ≠ some j := by
        intro e
        unfold SetTable.slot at hj
        dsimp only at hj
        rw [e] at hj
        simp at hj
      have hT : TOk led (t.put j).1 := by
        unfold SetTable.put
        refine ⟨?_, T.led, fun e => rise_put (T.rise e) hj'⟩
        dsimp only
        rw [T.dum]; simp [SetTable.has]
      show TOk led (SetTable.orStandIn _ _)
      unfold SetTable.orStandIn
      split
      · exact hT
      · exact hT.stand _
    · cases hs
  · exact T.stand _
theorem TOk.relay {led : Bool} {t : SetTable} (T : TOk led t) (es : Array (Int × Value)) (n : Nat) : TOk led (relayAll t es n).2.1 := by
  unfold relayAll
  split
  · rename_i t' order ht
    dsimp only
    split
    · unfold SetTable.relaid SetTable.laid at ht
      cases ho : SetTable.layClean (SetTable.sizeAbove n - 1) (es.map (·.1)) with
      | none => rw [ho] at ht; cases ht
      | some owner =>
        rw [ho] at ht
        simp only [bind, pure, Option.bind_some, Option.some.injEq, Prod.mk.injEq] at ht
        obtain ⟨rfl, -⟩ := ht
        refine ⟨rfl, T.led, fun _ => ?_⟩
        dsimp only
        rw [List.pairwise_map]
        refine List.Pairwise.filterMap (R := (· < ·)) _ (fun a a' haa b hb b' hb' => ?_) List.pairwise_lt_range
        simp only [Option.map_eq_some_iff] at hb hb'
        obtain ⟨_, _, rfl⟩ := hb
        obtain ⟨_, _, rfl⟩ := hb'
        exact haa
    · exact T.stand _
  · exact T.stand _
end InkZ

namespace InkZ
open PySem PySem.Spec PyProof.Rows
section
variable {prog : Program} {w : World} {A : Around} {E : Value → Shared → Prop} {s : Shared}
def SZ (prog : Program) (w : World) (led : Bool) (h : Heap) (a : Addr) (ms : List Int) : Prop :=
  ∃ (o : Obj) (es : Array (Int × Value)) (ep : Nat) (t : SetTable) (ns : List Int), h.get? a = some o ∧ o.ExactSet ∧ o.data = .set es ep t ∧ ElemsOf (intKind prog w) es.toList ∧
    t.fits es.size = true ∧ TOk led t ∧ IntsAre (es.toList.map (·.2)) ns ∧ ns.Perm ms
theorem intsAre_perm : ∀ {us vs : List Value}, us.Perm vs → ∀ {ns : List Int}, IntsAre vs ns → ∃ ms, IntsAre us ms ∧ ms.Perm ns := by
  intro us vs p
  induction p with
  | nil => intro ns h; exact ⟨ns, h, .rfl⟩
  | cons x _ ih =>
    intro ns h
    cases h with
    | cons n t h => obtain ⟨ms, a, b⟩ := ih h; exact ⟨n :: ms, .cons n t a, b.cons n⟩
  | swap x y l =>
    intro ns h
    cases h with
    | cons n t h =>
      cases h with
      | cons m u h => exact ⟨m :: n :: _, .cons m u (.cons n t h), .swap n m _⟩
  | trans _ _ ih1 ih2 =>
    intro ns h
    obtain ⟨ms, a, b⟩ := ih2 h
    obtain ⟨ks, c, d⟩ := ih1 a
    exact ⟨ks, c, d.trans b⟩
theorem intsAre_app : ∀ {us vs : List Value} {ns ms : List Int}, IntsAre us ns → IntsAre vs ms → IntsAre (us ++ vs) (ns ++ ms)
  | _, _, _, _, .nil, h => h
  | _, _, _, _, .cons n t g, h => .cons n t (intsAre_app g h)
theorem ints_has {es : List (Int × Value)} {ns : List Int} (h : IntsAre (es.map (·.2)) ns) (n : Int) : (∃ e ∈ es, (intKind prog w).is n e.2 = true) ↔ n ∈ ns := by
  induction es generalizing ns with
  | nil => cases h; simp
  | cons e es ih =>
    obtain ⟨x, v⟩ := e
    rw [List.map_cons] at h
    cases h with
    | cons m t h =>
      have := ih h
      simp only [List.mem_cons, exists_eq_or_imp, this]
      constructor
      · rintro (e | e)
        · left
          have : (intKind prog w).is m (.int m t) = true := intKind_is _ _ _ _
          exact (intKind prog w).inj _ _ _ e this
        · exact .inr e
      · rintro (rfl | e)
        · exact .inl (intKind_is _ _ _ _)
        · exact .inr e
theorem SZ.len {led : Bool} {h : Heap} {a : Addr} {ms : List Int} (Z : SZ prog w led h a ms) : ∃ (o : Obj) (es : Array (Int × Value)) (ep : Nat) (t : SetTable), h.get? a = some o ∧ o.data = .set es ep t ∧ es.size = ms.length := by
  obtain ⟨o, es, ep, t, ns, h1, _, h3, _, _, _, h7, h8⟩ := Z
  refine ⟨o, es, ep, t, h1, h3, ?_⟩
  have := h7.length
  rw [List.length_map, Array.length_toList] at this
  rw [this, h8.length_eq]
set_option maxHeartbeats 1000000 in
theorem add_z {led : Bool} {a : Addr} {n : Int} {tk : Tok} {ms : List Int} {Q : Bool → Shared → Prop} (Z : SZ prog w led s.heap a ms) (hr : ms.length + 1 < scanBound)
    (q : ∀ (b : Bool) h', Heap.SameBut a s.heap h' → SZ prog w led h' a (if n ∈ ms then ms else ms ++ [n]) → Q b { s with heap := h' }) :
    wpAny (model prog w) A (setAddHashed a (.int n tk) ((intKind prog w).hash n)) Q E s := by
  obtain ⟨o, es, ep, t, ns, h1, h2, h3, h4, h5, T, h7, h8⟩ := id Z
  have z : es.size = ms.length := by
    have := h7.length
    rw [List.length_map, Array.length_toList] at this
    rw [this, h8.length_eq]
  have hk : (intKind prog w).is n (.int n tk) = true := intKind_is _ _ _ _
  have zb : es.size < scanBound := by omega
  unfold setAddHashed setAddHashedIn
  refine wpAny_holding (wpAny_bind (wpAny_setState_of h1 h3 h5 ?_)); dsimp only
  rw [byScan_of rfl zb h4, if_pos rfl]
  unfold setAddByScan
  refine wpAny_bind (wpAny_bind (wpAny_rule (wpAny_bind (wpAny_setScan_of hk h1 h3 h5 h4 ?_))))
  have hin := ints_has (prog := prog) (w := w) h7 n
  cases e : es.toList.findIdx? (fun e => (intKind prog w).is n e.2) with
  | some j =>
    dsimp only
    obtain ⟨g, gp, _⟩ := List.findIdx?_eq_some_iff_getElem.mp e
    have : n ∈ ms := h8.mem_iff.mp (hin.mp ⟨_, List.getElem_mem g, gp⟩)
    refine wpAny_pure (wpAny_pure ?_)
    have es : s = { s with heap := s.heap } := by cases s; rfl
    rw [es]
    exact q _ s.heap (.refl _ _) (by rw [if_pos this]; exact Z)
  | none =>
    dsimp only
    have no : n ∉ ms := fun hm => by
      obtain ⟨e', i, p⟩ := hin.mpr (h8.mem_iff.mpr hm)
      have := List.findIdx?_eq_none_iff.mp e e' i
      rw [p] at this; cases this
    rw [if_neg no] at q
    have gw : ∀ (b : Bool) (s₁ : Shared) (Q' : Unit → Shared → Prop), Q' () s₁ → wpAny (model prog w) A (match b with | true => rule "set.scan.the-table-gave-way" | false => pure ()) Q' E s₁ := by
      intro b s₁ Q' hq; cases b
      · exact wpAny_pure hq
      · exact wpAny_rule hq
    have p1 := layNew_perm t es ((intKind prog w).hash n) (.int n tk)
    have f1 := layNew_fits t es ((intKind prog w).hash n) (.int n tk)
    have T1 := T.lay es ((intKind prog w).hash n) (.int n tk)
    generalize layNew t es ((intKind prog w).hash n) (.int n tk) = L at p1 f1 T1 ⊢
    obtain ⟨es1, t1, wd, gv⟩ := L
    dsimp only at p1 f1 T1 ⊢
    rw [Array.toList_push] at p1
    have el1 : ElemsOf (intKind prog w) es1.toList := (h4.push hk rfl).perm p1
    have z1 : es1.size = ms.length + 1 := by rw [← Array.length_toList, p1.length_eq, List.length_append, Array.length_toList, z]; rfl
    have sl : (1 : Nat) + scanBound ≤ sizeLine := by decide
    obtain ⟨ks, i1, i2⟩ : ∃ ks, IntsAre (es1.toList.map (·.2)) ks ∧ ks.Perm (ms ++ [n]) := by
      have a1 : IntsAre ((es.toList ++ [((intKind prog w).hash n, Value.int n tk)]).map (·.2)) (ns ++ [n]) := by
        rw [List.map_append]; exact intsAre_app h7 (.cons n tk .nil)
      obtain ⟨ks, x, y⟩ := intsAre_perm (p1.map (·.2)) a1
      exact ⟨ks, x, y.trans (h8.append_right _)⟩
    refine wpAny_bind (gw _ _ _ ?_)
    have tail : ∀ (t2 : SetTable), t2.fits es1.size = true → TOk led t2 → wpAny (model prog w) A (do
        storeSet a es1 t2
        if (!wd && t2.tooFull) = true then do
            (match (relayAll t2 es1 (SetTable.grown es1.size)).2.2 with | true => rule "set.scan.the-table-gave-way" | false => pure ())
            storeSet a (relayAll t2 es1 (SetTable.grown es1.size)).1 (relayAll t2 es1 (SetTable.grown es1.size)).2.1
            pure (some true)
          else pure (some true)) (fun r s' => ∃ h', r = some true ∧ s' = { s with heap := h' } ∧ Heap.SameBut a s.heap h' ∧ SZ prog w led h' a (ms ++ [n])) E s := by
      intro t2 f2 T2
      refine wpAny_bind (wpAny_storeSet_of h1 h3 ?_ (by omega))
      have g1 : (s.heap.update a (Obj.putSet es1 t2)).get? a = some { o with data := .set es1 (ep + 1) t2 } := by
        have := Heap.get?_update_self (Obj.putSet es1 t2) h1 (by rw [putSet_of es1 t2 h3]; rfl)
        rwa [putSet_of es1 t2 h3] at this
      have b1 := Heap.SameBut.update s.heap a (Obj.putSet es1 t2)
      split
      · have p2 := relayAll_perm t2 es1 (SetTable.grown es1.size)
        have f3 := relayAll_fits t2 es1 (SetTable.grown es1.size)
        have T3 := T2.relay es1 (SetTable.grown es1.size)
        generalize relayAll t2 es1 (SetTable.grown es1.size) = R at p2 f3 T3 ⊢
        obtain ⟨es2, t3, gv2⟩ := R
        dsimp only at p2 f3 T3 ⊢
        have z2 : es2.size = es1.size := by rw [← Array.length_toList, p2.length_eq, Array.length_toList]
        refine wpAny_bind (gw _ _ _ (wpAny_bind (wpAny_storeSet_of g1 rfl ?_ (by omega))))
        have g2 := Heap.get?_update_self (Obj.putSet es2 t3) g1 (by rw [putSet_of es2 t3 rfl]; rfl)
        rw [putSet_of es2 t3 rfl] at g2
        obtain ⟨ks', j1, j2⟩ := intsAre_perm (p2.map (·.2)) i1
        exact wpAny_pure ⟨_, rfl, rfl, b1.trans (Heap.SameBut.update _ a _), _, es2, _, t3, ks', g2, h2, rfl, el1.perm p2, f3, T3, j1, j2.trans i2⟩
      · exact wpAny_pure ⟨_, rfl, rfl, b1, _, es1, _, t2, ks, g1, h2, rfl, el1, f1 |> fun _ => f2, T2, i1, i2⟩
    have fin : ∀ r s', (∃ h', r = some true ∧ s' = { s with heap := h' } ∧ Heap.SameBut a s.heap h' ∧ SZ prog w led h' a (ms ++ [n])) →
        wpAny (model prog w) A (match r with | some added => pure added | none => setAddHashedIn a (.int n tk) ((intKind prog w).hash n) 99999) Q E s' := by
      rintro r s' ⟨h', rfl, rfl, b, z⟩
      exact wpAny_pure (q _ h' b z)
    split
    · rw [hashByValue_scannable 8 rfl]
      refine wpAny_bind (wpAny_pure ?_)
      refine wpAny_mono (tail _ ?_ ?_) fin (fun _ _ e => e)
      · split
        · exact f1
        · exact SetTable.fits_plain_off f1
      · split
        · exact T1
        · exact T1.off
    · refine wpAny_bind (wpAny_pure ?_)
      rw [if_pos rfl]
      exact wpAny_mono (tail _ f1 T1) fin (fun _ _ e => e)
end
end InkZ

namespace InkZ
open PySem PySem.Spec PyProof.Rows
def ledOf (w : World) : Bool := !w.params.followText "set-order"
section
variable {prog : Program} {w : World} {A : Around} {E : Value → Shared → Prop} {s : Shared}
def freshSet (led : Bool) : Obj := { cls := .type "set", dict := none, data := .set #[] 0 (.fresh 0 0 led) }
theorem SZ.fresh {led : Bool} {h : Heap} {a : Addr} (e : h.get? a = some (freshSet led)) : SZ prog w led h a [] :=
  ⟨_, #[], 0, _, [], e, ⟨rfl, rfl, rfl⟩, rfl, fun _ hm => by simp at hm, rfl, ⟨rfl, rfl, fun _ => List.Pairwise.nil⟩, .nil, .rfl⟩
theorem SZ.at {led : Bool} {h h' : Heap} {a : Addr} {ms : List Int} (Z : SZ prog w led h a ms) (k : ∀ o, h.get? a = some o → h'.get? a = some o) : SZ prog w led h' a ms := by
  obtain ⟨o, es, ep, t, ns, h1, r⟩ := Z
  exact ⟨o, es, ep, t, ns, k _ h1, r⟩
def Dist (ms ns : List Int) : Prop := ms.Nodup ∧ ∀ n, n ∈ ms ↔ n ∈ ns
theorem Dist.add {ms ns : List Int} (D : Dist ms ns) (n : Int) : Dist (if n ∈ ms then ms else ms ++ [n]) (ns ++ [n]) := by
  by_cases h : n ∈ ms
  · rw [if_pos h]
    refine ⟨D.1, fun k => ?_⟩
    rw [List.mem_append, List.mem_singleton, D.2 k]
    exact ⟨.inl, fun x => x.elim id fun e => e ▸ (D.2 n).mp h⟩
  · rw [if_neg h]
    refine ⟨List.nodup_append.mpr ⟨D.1, by simp, fun a ha b hb e => ?_⟩, fun k => ?_⟩
    · rw [List.mem_singleton] at hb; subst hb; subst e; exact h ha
    · rw [List.mem_append, List.mem_append, D.2 k]
theorem set_loop {I : Addr} {fp wr : List Addr} {G : Array GenState → Array GenState → Prop} {N : Nat} {P : Nat → Value → Prop} {St : Nat → Shared → Prop} {R : Result → Shared → Prop} {led : Bool}
    (W : WalksS prog w A.in1 I fp wr G N P St) (S : Addr) (hS : S ∉ fp) (ns : List Int) (hN : ns.length = N) (hv : ∀ i v, P i v → ∃ t, v = .int (ns.getD i 0) t) (hb : N + 1 < scanBound) :
    ∀ (k i : Nat) (s : Shared) (ms : List Int), N - i = k → i ≤ N → St i s → SZ prog w led s.heap S ms → Dist ms (ns.take i) → ms.length ≤ i →
      (∀ s' ms', Moved (S :: wr) G s s' → SZ prog w led s'.heap S ms' → Dist ms' ns → ms'.length ≤ N → R (.ok (.ret .none)) s') →
      codeAny (model prog w) A (.builtin "set.update.loop" ⟨[.ref S, .ref I], []⟩) R s := by
  have nw : S ∉ wr := fun h => hS (W.sub _ h)
  have more : ∀ b ∈ wr, b ∈ S :: wr := fun b hb => .tail _ hb
  intro k
  induction k with
  | zero =>
    intro i s ms hk hi st Z D hl q
    obtain rfl : i = N := by omega
    refine codeAny_builtin F.entry_set_update_loop ?_; rw [Around.under_plainId F.plain_set_update_loop _]
    show wpAny _ A.in1 (pyNext (.ref I) >>= _) _ _ s
    refine wpAny_bind (W.done s _ _ st fun s' mv => ?_)
    refine wpAny_pure (q s' ms (mv.mono more) (Z.at fun o e => mv.heap S o nw e) ?_ hl)
    rw [← hN, List.take_length] at D; exact D
  | succ k ih =>
    intro i s ms hk hi st Z D hl q
    have lt : i < N := by omega
    refine codeAny_builtin F.entry_set_update_loop ?_; rw [Around.under_plainId F.plain_set_update_loop _]
    show wpAny _ A.in1 (pyNext (.ref I) >>= _) _ _ s
    refine wpAny_bind (W.item i s _ _ lt st fun v s' pv st' mv => ?_)
    obtain ⟨t, rfl⟩ := hv i v pv
    generalize hn : ns.getD i 0 = n
    have Z' : SZ prog w led s'.heap S ms := Z.at fun o e => mv.heap S o nw e
    show wpAny _ A.in1 (holding [Value.int n t] (setAdd S (.int n t)) >>= _) _ _ s'
    refine wpAny_bind (wpAny_holding ?_)
    unfold setAdd
    refine wpAny_holding (wpAny_bind ((intKind prog w).pyHash (k := n) (intKind_is _ _ _ _) ?_))
    refine add_z (s := { s' with toks := s'.toks + 1 }) Z' (by omega) fun b h' sb Z2 => ?_
    have D2 := D.add n
    have et : ns.take (i + 1) = ns.take i ++ [n] := by
      have li : i < ns.length := by omega
      rw [List.take_succ_eq_append_getElem li, ← hn]
      simp [List.getD, List.getElem?_eq_getElem li]
    rw [← et] at D2
    have hl2 : (if n ∈ ms then ms else ms ++ [n]).length ≤ i + 1 := by
      split
      · omega
      · rw [List.length_append, List.length_singleton]; omega
    refine wpAny_pure ⟨plainId_quiet F.plain_set_update_loop _, ih (i + 1) _ _ (by omega) lt (W.frame _ s' _ _ st' (Nat.le_succ _) fun c hc o e => ?_) Z2 D2 hl2 fun s'' ms' mv' Z3 D3 l3 => ?_⟩
    · rw [sb.2 c (fun h : c = S => hS (h ▸ hc))]; exact e
    · refine q s'' ms' (Moved.trans W.gtrans ((mv.mono more).then_heap (Nat.le_succ _) fun c o hc e => ?_) mv') Z3 D3 l3
      rw [sb.2 c (fun h : c = S => hc (h ▸ List.mem_cons_self))]; exact e
theorem new_set (a : Value) {Q₁ : Value → Shared → Prop} (h : Q₁ (.ref s.heap.objs.size) { s with heap := s.heap.push (freshSet (ledOf w)) }) :
    codeAny (model prog w) A (.call (.builtin "set.__new__") ⟨[.type "set", a], []⟩) (wants Q₁ E) s := by
  refine codeAny_of_tree ?_
  show wpAny _ A.in1 (do checkBuiltinCall "set.__new__" ⟨[.type "set", a], []⟩; again (.builtin "set.__new__" ⟨[.type "set", a], []⟩)) _ _ s
  refine wpAny_bind (wpAny_of_eq (PySem.F.newCall_set_1 a) (wpAny_pure ⟨plainId_quiet PySem.F.plain_set_new _, codeAny_builtin PySem.F.entry_set_new ?_⟩)); rw [Around.under_plainId PySem.F.plain_set_new _]
  unfold Builtin.«set.__new__» Builtin.Frozenset.newClass
  have hsub := PySem.sub_set_self
  obtain ⟨hp, g, d, tk, os⟩ := s; dsimp only; wp_walk
  refine wpAny_askSetting (wpAny_pure ?_); dsimp only; simp only [newObj]
  exact wpAny_bind (wpAny_alloc (wpAny_pure (wpAny_pure h)))
set_option maxHeartbeats 3200000 in
theorem call_setZ {l : Addr} {its : Array Value} {ns : List Int} {Q : Value → Shared → Prop} (hh : A.handled = none) (hl : s.heap.IsList l its) (hi : IntsAre its.toList ns) (hb : its.size + 1 < scanBound)
    (q : ∀ (h' : Heap) (tk : Nat) (ms : List Int), SZ prog w (ledOf w) h' s.heap.objs.size ms → Dist ms ns → ms.length ≤ its.size → (∀ b o, b < s.heap.objs.size → s.heap.get? b = some o → h'.get? b = some o) →
      Q (.ref s.heap.objs.size) { s with heap := h', toks := tk }) : wpAny (model prog w) A (call (.type "set") [.ref l]) Q E s := by
  have hN : ns.length = its.size := by rw [← hi.length, Array.length_toList]
  obtain ⟨c, tl, hmro⟩ := PySem.F.called_set.mro
  have hmade := PySem.F.called_set.made
  have hsub := PySem.F.called_set.sub
  refine wpAny_call (codeAny_of_tree ?_); show wpAny _ _ (callAny (.type "set") _) _ _ _
  refine wpAny_pure ⟨Code.quiet_builtin _ (by decide +kernel), codeAny_builtin PySem.F.entry_type_call ?_⟩; rw [Around.under_plain (weight_type_call_type "set" [.ref l] []) rfl]
  have h1 := PySem.F.called_set.notType
  have h2 := PySem.F.called_set.canCreate
  have hct := PySem.F.typeCall_set_1 (.ref l)
  repeat (any_goals (first | assumption | wp_step))
  refine codeAny_mono (new_set (.ref l) (E := E) (Q₁ := fun obj s₁ => obj = .ref s.heap.objs.size ∧ s₁ = { s with heap := s.heap.push (freshSet (ledOf w)) }) ⟨rfl, rfl⟩) fun r s₁ hr => ?_
  cases r with
  | error e => exact hr
  | ok fl =>
    cases fl with
    | ret obj =>
      obtain ⟨rfl, rfl⟩ := hr
      have g0 : (s.heap.push (freshSet (ledOf w))).get? s.heap.objs.size = some (freshSet (ledOf w)) := Heap.get?_push_size _ rfl
      have hT : Shared.TypeIs { s with heap := s.heap.push (freshSet (ledOf w)) } (.ref s.heap.objs.size) "set" := ⟨_, g0, rfl⟩
      have hli := PySem.F.called_set.init.lookup
      have hbi := PySem.F.called_set.init.bind (.ref s.heap.objs.size)
      repeat (any_goals (first | assumption | wp_step))
      refine codeAny_mono (codeAny_call_builtin (R := wants (fun r s₂ => r = .none ∧ ∃ h' tk ms, s₂ = { s with heap := h', toks := tk } ∧ SZ prog w (ledOf w) h' s.heap.objs.size ms ∧ Dist ms ns ∧ ms.length ≤ its.size ∧
          (∀ b o, b < s.heap.objs.size → s.heap.get? b = some o → h'.get? b = some o)) E) PySem.F.called_set.init.plain PySem.F.entry_set_init (check_set_init_1 hT ?_)) fun r₂ s₂ hr₂ => ?_
      · obtain ⟨ol, hol, hcl, nl, hdl⟩ := hl
        obtain ⟨ocls, odict, odata, oslots⟩ := ol
        simp only at hcl hdl
        subst hcl; subst hdl
        have hol' : (s.heap.push (freshSet (ledOf w))).get? l = some { cls := .type "list", dict := odict, data := .seq its nl, slots := oslots } := Heap.get?_push_of_some _ hol
        have hsls := PySem.F.sub_list_set
        have hslf := PySem.F.sub_list_frozenset
        have hne : (Value.type "list" == Value.type "dict") = false := by decide
        have hl1 : (s.heap.push (freshSet (ledOf w))).IsList l its := ⟨_, hol', rfl, nl, rfl⟩
        unfold Builtin.«set.__init__» noKeywords Builtin.Frozenset.updateFrom
        generalize hPI : pyIter = PI
        wp_walk
        subst hPI
        refine wpAny_pyIter_list hl1 (wpAny_bind (wpAny_runValue ?_))
        have lt : l < s.heap.objs.size := Heap.lt_size hol
        have h3 : A.in1.in1.in1.handled = none := by simp [hh]
        have nI : l ≠ (s.heap.push (freshSet (ledOf w))).objs.size := by rw [Heap.size_push]; exact Nat.ne_of_lt (Nat.lt_succ_of_lt lt)
        have nS : s.heap.objs.size ∉ [(s.heap.push (freshSet (ledOf w))).objs.size, l] := by
          rw [Heap.size_push]; simp only [List.mem_cons, List.not_mem_nil, or_false, not_or]; exact ⟨Nat.ne_of_lt (Nat.lt_succ_self _), Nat.ne_of_gt lt⟩
        refine set_loop ((Walks.list h3 _ l nI its).toS) s.heap.objs.size nS ns hN (fun i v hv => IntsAre.int_at hi i v (by rw [Array.getElem?_toList]; exact hv)) hb (its.size - 0) 0 _ [] (by omega) (Nat.zero_le _)
          ⟨⟨_, Heap.get?_push_size _ rfl, rfl, rfl⟩, hl1.push _⟩ (SZ.fresh (Heap.get?_push_of_some _ g0)) ⟨List.nodup_nil, fun n => by simp⟩ (Nat.le_refl _) ?_
        intro s' ms mv Z D ln
        obtain ⟨h', g', d', tk', os'⟩ := s'
        obtain rfl : g' = s.gens := mv.gens
        obtain rfl : d' = s.drawn := mv.drawn
        obtain rfl : os' = s.os := mv.os
        show wpAny _ _ _ _ _ _
        refine wpAny_pure ?_
        show wpAny _ _ (ret Value.none) _ _ _
        refine wpAny_pure ⟨rfl, h', tk', ms, rfl, Z, D, ln, fun b o lb e => mv.heap b o ?_ (Heap.get?_push_of_some _ (Heap.get?_push_of_some _ e))⟩
        rw [Heap.size_push]; simp only [List.mem_cons, List.not_mem_nil, or_false, not_or]; exact ⟨Nat.ne_of_lt lb, Nat.ne_of_lt (Nat.lt_succ_of_lt lb)⟩
      · cases r₂ with
        | error e => exact hr₂
        | ok fl₂ =>
          cases fl₂ with
          | ret r =>
            obtain ⟨rfl, h', tk, ms, rfl, Z, D, ln, kp⟩ := hr₂
            repeat (any_goals (first | assumption | wp_step))
            exact q _ _ _ Z D ln kp
          | _ => exact hr₂.elim
    | _ => exact hr.elim
end
end InkZ

namespace InkZ
open PySem PySem.Spec PyProof.Rows
/-! ### a set walked -/
theorem si_next : Slot "set_iterator" "__next__" "set_iterator.__next__" := .of (owner := "set_iterator") (n := "__next__")
  (by rw [typeLookup_type, builtinLookup_eq_fast]; kernel_rfl) (by decide +kernel) (by decide +kernel) (by decide +kernel) (by first | exact .inl (by decide +kernel) | exact .inr (by decide +kernel))
  (by rw [isSubtype_type]; kernel_rfl)
theorem si_iter : Slot "set_iterator" "__iter__" "set_iterator.__iter__" := .of (owner := "set_iterator") (n := "__iter__")
  (by rw [typeLookup_type, builtinLookup_eq_fast]; kernel_rfl) (by decide +kernel) (by decide +kernel) (by decide +kernel) (by first | exact .inl (by decide +kernel) | exact .inr (by decide +kernel))
  (by rw [isSubtype_type]; kernel_rfl)
theorem en_next : entryFor table "set_iterator.__next__" = some Builtin.«set_iterator.__next__» := entryFor_of_tree (by kernel_rfl)
theorem en_self : entryFor table "set_iterator.__iter__" = some Builtin.«dict_keyiterator.__iter__» :=
  entryFor_alias (id' := "dict_keyiterator.__iter__") (by kernel_rfl) rfl (by decide +kernel) (by kernel_rfl)
theorem en_iter : entryFor table "set.__iter__" = some Builtin.«frozenset.__iter__» :=
  entryFor_alias (id' := "frozenset.__iter__") (by kernel_rfl) rfl (by decide +kernel) (by kernel_rfl)
theorem ar_next (a : Value) : argsOk "set_iterator.__next__" ⟨[a], []⟩ := by unfold argsOk; kernel_rfl
theorem ar_self (a : Value) : argsOk "set_iterator.__iter__" ⟨[a], []⟩ := by unfold argsOk; kernel_rfl
end InkZ

namespace InkZ
open PySem PySem.Spec PyProof.Rows
section
variable {prog : Program} {w : World} {A : Around} {E : Value → Shared → Prop} {s : Shared}
theorem erase_perm {α : Type} (xs : List α) (i : Nat) (h : i < xs.length) : (xs[i] :: xs.eraseIdx i).Perm xs := by
  rw [List.eraseIdx_eq_take_drop_succ]
  refine List.perm_middle.symm.trans ?_
  rw [List.getElem_cons_drop, List.take_append_drop]
theorem below_le (xs : Array Nat) (j : Nat) : SetTable.below xs j ≤ xs.size := by
  have : ∀ (fuel lo hi : Nat), lo ≤ hi → SetTable.below.go xs j fuel lo hi ≤ hi := by
    intro fuel
    induction fuel with
    | zero => intro lo hi h; exact h
    | succ fuel ih =>
      intro lo hi h
      unfold SetTable.below.go
      split
      · dsimp only
        split
        · exact ih _ _ (by omega)
        · exact Nat.le_trans (ih _ _ (by omega)) (by omega)
      · exact h
  exact this _ _ _ (Nat.zero_le _)
theorem pick_go {α : Type} (nx : Nat → Nat) : ∀ (fuel k : Nat) (left : List α) (out : Array α), left.length = fuel → (pickOrder.go nx fuel k left out).toList.Perm (out.toList ++ left) := by
  intro fuel
  induction fuel with
  | zero => intro k left out h; cases left with
    | nil => simp [pickOrder.go]
    | cons => simp at h
  | succ fuel ih =>
    intro k left out h
    unfold pickOrder.go
    have lt : nx k % left.length < left.length := Nat.mod_lt _ (by omega)
    rw [List.getElem?_eq_getElem lt]
    dsimp only
    refine (ih (k + 1) _ _ (by rw [List.length_eraseIdx_of_lt lt]; omega)).trans ?_
    rw [Array.toList_push, List.append_assoc]
    refine List.Perm.append_left _ ?_
    exact erase_perm _ _ lt
theorem pick_perm {α : Type} (nx : Nat → Nat) (xs : Array α) : (pickOrder nx xs).toList.Perm xs.toList := by
  have := pick_go nx xs.size 0 xs.toList #[] (by simp)
  simpa [pickOrder] using this
theorem draw_perm {α : Type} {Q : List α → Shared → Prop} : ∀ (n : Nat) (xs : List α) (s : Shared) (Q : List α → Shared → Prop), xs.length = n → (∀ ys d, ys.Perm xs → Q ys { s with drawn := d }) →
    wpAny (model prog w) A (drawOrder n xs) Q E s := by
  intro n
  induction n with
  | zero =>
    intro xs s Q h q
    cases xs with
    | nil => exact wpAny_pure (q [] s.drawn .rfl)
    | cons => simp at h
  | succ n ih =>
    intro xs s Q h q
    cases xs with
    | nil => simp at h
    | cons x xs =>
      unfold drawOrder
      refine wpAny_bind ?_
      intro Γ p hΓ
      show Sem.wp _ _ (.choose _ _ .pure) _ _ _ _
      rw [Sem.wp_choose]
      refine ⟨by simp, ?_⟩
      generalize hm : (model prog w).w.draws Source.order (s.drawn.get Source.order) % (x :: xs).length = m
      have lt : m < (x :: xs).length := by rw [← hm]; exact Nat.mod_lt _ (by simp)
      show wpAny _ _ _ _ _ _
      rw [List.getElem?_eq_getElem lt]
      dsimp only
      refine wpAny_bind (ih _ _ _ (by rw [List.length_eraseIdx_of_lt lt]; simpa using h) fun ys d pm => wpAny_pure (q _ d ?_))
      exact (pm.cons _).trans (erase_perm _ _ lt)
def IsSI (h : Heap) (it : Addr) (first : Value) (i : Nat) (S : Addr) (n ep : Nat) : Prop :=
  ∃ o, h.get? it = some o ∧ o.cls = .type "set_iterator" ∧ o.data = .fields #[first, .int i 0, .ref S, .int n 0, .int ep 0]
theorem IsSI.ty {it S : Addr} {f : Value} {i n ep : Nat} (x : IsSI s.heap it f i S n ep) : s.TypeIs (.ref it) "set_iterator" := let ⟨o, a, b, _⟩ := x; ⟨o, a, b⟩
theorem IsSI.at {h h' : Heap} {it S : Addr} {f : Value} {i n ep : Nat} (x : IsSI h it f i S n ep) (e : ∀ o, h.get? it = some o → h'.get? it = some o) : IsSI h' it f i S n ep := let ⟨o, a, r⟩ := x; ⟨o, e _ a, r⟩
/-- the roads by a slot: what the next step tells -/
def RoadA (prog : Program) (w : World) (S : Addr) (o : Obj) (ep : Nat) (sl : Nat → Nat) (out : List Value) : Prop :=
  ∀ (A : Around) (s : Shared) (i : Nat) (Q : Option (Value × Nat) → Shared → Prop) (E : Value → Shared → Prop), s.heap.get? S = some o → i ≤ out.length → Q (out[i]?.map fun x => (x, sl (i + 1))) s →
    wpAny (model prog w) A (setNext S (sl i) i ep) Q E s
theorem road_text {S : Addr} {o : Obj} {es : Array (Int × Value)} {ep : Nat} {t : SetTable} (hd : o.data = .set es ep t) (hf : t.fits es.size = true) (hT : w.params.followText "set-order" = true) :
    RoadA prog w S o ep (fun _ => 0) ((pickOrder (w.params.setOrder S ep) es).toList.map (·.2)) := by
  intro A s i Q E ho hi q
  unfold setNext
  refine wpAny_bind (wpAny_setState_of ho hd hf ?_)
  dsimp only
  unfold setsByText
  refine wpAny_bind (wpAny_bind (wpAny_askSetting (wpAny_pure ?_)))
  show wpAny _ _ (if w.params.followText "set-order" = true then _ else _) _ _ _
  rw [if_pos hT, if_neg (by simp)]
  unfold setWalk
  refine wpAny_bind (wpAny_bind (wpAny_setState_of ho hd hf ?_))
  dsimp only
  unfold setsByText
  refine wpAny_bind (wpAny_bind (wpAny_askSetting (wpAny_pure ?_)))
  show wpAny _ _ (if w.params.followText "set-order" = true then _ else _) _ _ _
  rw [if_pos hT]
  refine wpAny_bind (wpAny_askSetting (wpAny_pure (wpAny_pure ?_)))
  rw [List.getElem?_map, Array.getElem?_toList, Option.map_map] at q
  exact q
theorem road_plain {S : Addr} {o : Obj} {es : Array (Int × Value)} {ep : Nat} {t : SetTable} (hd : o.data = .set es ep t) (hf : t.fits es.size = true) (hT : w.params.followText "set-order" = false)
    (hl : t.led = true) (hp : (!t.plain && decide (es.size > 1)) = false) (hr : t.place.toList.Pairwise (· < ·)) :
    RoadA prog w S o ep (fun i => if i = 0 then 0 else t.place.getD (i - 1) 0 + 1) (es.toList.map (·.2)) := by
  intro A s i Q E ho hi q
  have zs : t.place.size = es.size := by
    simp only [SetTable.fits, Bool.and_eq_true, beq_iff_eq] at hf; exact hf.1
  rw [List.length_map, Array.length_toList] at hi
  have hb : SetTable.below t.place (if i = 0 then 0 else t.place.getD (i - 1) 0 + 1) = i := by
    generalize hj : (if i = 0 then 0 else t.place.getD (i - 1) 0 + 1) = j
    obtain ⟨a, b⟩ := below_ok hr j
    have lz : t.place.toList.length = es.size := by simpa using zs
    have le : SetTable.below t.place j ≤ t.place.toList.length := by have := below_le t.place j; simpa using this
    generalize SetTable.below t.place j = p at a b le ⊢
    have hi1 : i ≤ p := by
      rcases Nat.lt_or_ge p i with h | h
      · exfalso
        have i0 : i ≠ 0 := by omega
        rw [if_neg i0] at hj
        have lp : i - 1 < t.place.toList.length := by omega
        have e1 : t.place.getD (i - 1) 0 = t.place.toList[i - 1] := by simp [Array.getD, show i - 1 < t.place.size by simpa using lp]
        have := b t.place.toList[i - 1] (List.mem_iff_getElem.mpr ⟨i - 1 - p, by rw [List.length_drop]; omega, by rw [List.getElem_drop]; congr 1; omega⟩)
        omega
      · exact h
    have hi2 : p ≤ i ∨ es.size < p := by
      rcases Nat.lt_or_ge i p with h | h
      · rcases Nat.lt_or_ge i es.size with h' | h'
        · exfalso
          have lp : i < t.place.toList.length := by omega
          have := a t.place.toList[i] (List.mem_iff_getElem.mpr ⟨i, by rw [List.length_take]; omega, by rw [List.getElem_take]⟩)
          by_cases i0 : i = 0
          · rw [if_pos i0] at hj; omega
          · rw [if_neg i0] at hj
            have e1 : t.place.getD (i - 1) 0 = t.place.toList[i - 1] := by simp [Array.getD, show i - 1 < t.place.size by rw [← Array.length_toList]; omega]
            have := List.pairwise_iff_getElem.mp hr (i - 1) i (by omega) lp (by omega)
            omega
        · rcases Nat.lt_or_ge es.size p with h2 | h2
          · exact .inr h2
          · omega
      · exact .inl h
    rcases hi2 with h | h
    · omega
    · exact absurd h (by omega)
  unfold setNext
  refine wpAny_bind (wpAny_setState_of ho hd hf ?_)
  dsimp only
  unfold setsByText
  refine wpAny_bind (wpAny_bind (wpAny_askSetting (wpAny_pure ?_)))
  show wpAny _ _ (if w.params.followText "set-order" = true then _ else if (!t.plain && decide (es.size > 1)) = true then _ else _) _ _ _
  rw [if_neg (by rw [hT]; simp), if_neg (by rw [hp]; simp)]
  refine wpAny_bind ?_
  show wpAny _ _ (if (!t.led && !es.isEmpty) = true then _ else _) _ _ _
  rw [if_neg (by rw [hl]; simp)]
  refine wpAny_pure (wpAny_pure ?_)
  rw [hb]
  rw [List.getElem?_map, Array.getElem?_toList] at q
  rcases Nat.lt_or_ge i es.size with h | h
  · have h' : i < t.place.size := by omega
    rw [Array.getElem?_eq_getElem h] at q ⊢
    rw [Array.getElem?_eq_getElem h']
    simpa [Array.getD, h'] using q
  · rw [Array.getElem?_eq_none h] at q ⊢
    exact q
end
end InkZ

namespace InkZ
open PySem PySem.Spec PyProof.Rows
section
variable {prog : Program} {w : World} {A : Around} {E : Value → Shared → Prop} {s : Shared}
theorem stop_here {α : Type} {Q : α → Shared → Prop} (hh : A.handled = none) (q : ∀ (o1 o2 : Obj), o2.cls = .type "StopIteration" → o2.isFreed = false → E (.ref (s.heap.push o1).objs.size) { s with heap := (s.heap.push o1).push o2 }) :
    wpAny (model prog w) A (newExc (.type "StopIteration") [] >>= raiseNew) Q E s := by
  refine wpAny_bind ?_
  simp only [newExc, newTuple]
  refine wpAny_bind (wpAny_newObj_type ?_ (by size_fits)); refine wpAny_bind (m := firstArgMember _ _) (wpAny_of_eq (a := Value.none) (by first | rfl | (simp only [firstArgMember]; rfl)) ?_)
  refine wpAny_newObj_type ?_ (by size_fits); simp only [raiseNew]
  refine wpAny_bind (wpAny_handled ?_); rw [hh]
  exact wpAny_bind (wpAny_pure (wpAny_throw (q _ _ rfl rfl)))
theorem si_self {it S : Addr} {f : Value} {i n ep : Nat} {Q : Value → Shared → Prop} (x : IsSI s.heap it f i S n ep) (h : Q (.ref it) s) : wpAny (model prog w) A (pyIter (.ref it)) Q E s := by
  refine wpAny_pyIter_slot x.ty si_iter (wpAny_call_entry si_iter x.ty en_self ?_ (ar_self _)); show wpAny _ _ (ret (.ref it)) _ _ s
  exact wpAny_pure ⟨_, rfl, "set_iterator", _, x.ty, si_next.lookup, h⟩
theorem si_step {it S : Addr} {o : Obj} {es : Array (Int × Value)} {t : SetTable} {i ep : Nat} {sl : Nat → Nat} {out : List Value} {v : Value} {Q : Option Value → Shared → Prop}
    (x : IsSI s.heap it (.int (sl i) 0) i S es.size ep) (ho : s.heap.get? S = some o) (hd : o.data = .set es ep t) (hf : t.fits es.size = true) (R : RoadA prog w S o ep sl out) (hv : out[i]? = some v)
    (q : ∀ h', IsSI h' it (.int (sl (i + 1)) 0) (i + 1) S es.size ep → Heap.SameBut it s.heap h' → Q (some v) { s with heap := h' }) : wpAny (model prog w) A (pyNext (.ref it)) Q E s := by
  obtain ⟨oi, h1, h2, h3⟩ := id x
  have li : i < out.length := (List.getElem?_eq_some_iff.mp hv).1
  unfold pyNext
  refine wpAny_bind (wpAny_attempt (wpAny_callSpecial?_slot (name := Str.ofString "__next__") x.ty si_next (wpAny_call_entry si_next x.ty en_next ?_ (ar_next _))))
  show wpAny _ _ (slotArgs "__next__" 0 ⟨[.ref it], []⟩ >>= _) _ _ s
  refine wpAny_bind (wpAny_pure ?_)
  refine wpAny_bind (wpAny_fieldsOf h1 h3 ?_)
  show wpAny _ _ (setEntries S >>= _) _ _ s
  refine wpAny_bind (wpAny_setEntries_of ho hd hf ?_)
  rw [if_neg (by simp)]
  show wpAny _ _ (setNext S (Int.toNat (sl i)) (Int.toNat i) (Int.toNat ep) >>= _) _ _ s
  rw [Int.toNat_natCast, Int.toNat_natCast, Int.toNat_natCast]
  refine wpAny_bind (R _ _ i _ _ ho (Nat.le_of_lt li) ?_)
  rw [hv]
  show wpAny _ _ (setField (.ref it) 0 (rawInt (sl (i + 1))) >>= _) _ _ s
  refine wpAny_bind (wpAny_setField h1 h3 (by simp) ?_)
  have g1 := Heap.get?_update_self (Obj.mapFields (·.setIfInBounds 0 (rawInt (sl (i + 1))))) h1 (Obj.isFreed_of_fields (Obj.data_mapFields h3 _))
  have d1 := Obj.data_mapFields h3 (fun a => a.setIfInBounds 0 (rawInt (sl (i + 1))))
  refine wpAny_bind (wpAny_setField g1 d1 (by simp) ?_)
  have g2 := Heap.get?_update_self (Obj.mapFields (·.setIfInBounds 1 (rawInt ((i : Int) + 1)))) g1 (Obj.isFreed_of_fields (Obj.data_mapFields d1 _))
  refine wpAny_pure ⟨_, rfl, wpAny_pure (q _ ⟨_, g2, ((Obj.cls_mapFields ..).trans ((Obj.cls_mapFields ..).trans h2)), ?_⟩ ((Heap.SameBut.update ..).trans (Heap.SameBut.update ..)))⟩
  rw [Obj.data_mapFields d1]; simp [rawInt]
theorem si_end {it S : Addr} {o : Obj} {es : Array (Int × Value)} {t : SetTable} {i ep : Nat} {sl : Nat → Nat} {out : List Value} {Q : Option Value → Shared → Prop} (hh : A.handled = none)
    (x : IsSI s.heap it (.int (sl i) 0) i S es.size ep) (ho : s.heap.get? S = some o) (hd : o.data = .set es ep t) (hf : t.fits es.size = true) (R : RoadA prog w S o ep sl out) (hi : i = out.length)
    (q : ∀ h', Heap.ExtBut it s.heap h' → Q none { s with heap := h' }) : wpAny (model prog w) A (pyNext (.ref it)) Q E s := by
  obtain ⟨oi, h1, h2, h3⟩ := id x
  unfold pyNext
  refine wpAny_bind (wpAny_attempt (wpAny_callSpecial?_slot (name := Str.ofString "__next__") x.ty si_next (wpAny_call_entry si_next x.ty en_next ?_ (ar_next _))))
  show wpAny _ _ (slotArgs "__next__" 0 ⟨[.ref it], []⟩ >>= _) _ _ s
  refine wpAny_bind (wpAny_pure ?_)
  refine wpAny_bind (wpAny_fieldsOf h1 h3 ?_)
  show wpAny _ _ (setEntries S >>= _) _ _ s
  refine wpAny_bind (wpAny_setEntries_of ho hd hf ?_)
  rw [if_neg (by simp)]
  show wpAny _ _ (setNext S (Int.toNat (sl i)) (Int.toNat i) (Int.toNat ep) >>= _) _ _ s
  rw [Int.toNat_natCast, Int.toNat_natCast, Int.toNat_natCast]
  refine wpAny_bind (R _ _ i _ _ ho (Nat.le_of_eq hi) ?_)
  rw [List.getElem?_eq_none (by omega)]
  show wpAny _ _ (setField (.ref it) 2 .none >>= _) _ _ s
  refine wpAny_bind (wpAny_setField h1 h3 (by simp) ?_)
  refine stop_here hh fun o1 o2 c2 f2 => ?_
  refine wpAny_bind (wpAny_isInstance (T := "StopIteration") (b := true) ⟨_, Heap.get?_push_size _ f2, c2⟩ isSubtype_stop ?_)
  exact wpAny_pure (q _ (((Heap.SameBut.update ..).extBut.push _).push _))
/-! the drawn road: the places lie in a tuple -/
theorem sd_step {it S T : Addr} {o ot : Obj} {es : Array (Int × Value)} {t : SetTable} {i ep nT j : Nat} {tj : Tok} {ps : Array Value} {v : Int × Value} {Q : Option Value → Shared → Prop}
    (x : IsSI s.heap it (.ref T) i S es.size ep) (ho : s.heap.get? S = some o) (hd : o.data = .set es ep t) (hf : t.fits es.size = true) (hT : s.heap.get? T = some ot) (dT : ot.data = .seq ps nT)
    (hp : ps[i]? = some (.int j tj)) (hv : es[j]? = some v)
    (q : ∀ h', IsSI h' it (.ref T) (i + 1) S es.size ep → Heap.SameBut it s.heap h' → Q (some v.2) { s with heap := h' }) : wpAny (model prog w) A (pyNext (.ref it)) Q E s := by
  obtain ⟨oi, h1, h2, h3⟩ := id x
  unfold pyNext
  refine wpAny_bind (wpAny_attempt (wpAny_callSpecial?_slot (name := Str.ofString "__next__") x.ty si_next (wpAny_call_entry si_next x.ty en_next ?_ (ar_next _))))
  show wpAny _ _ (slotArgs "__next__" 0 ⟨[.ref it], []⟩ >>= _) _ _ s
  refine wpAny_bind (wpAny_pure ?_)
  refine wpAny_bind (wpAny_fieldsOf h1 h3 ?_)
  show wpAny _ _ (setEntries S >>= _) _ _ s
  refine wpAny_bind (wpAny_setEntries_of ho hd hf ?_)
  rw [if_neg (by simp)]
  show wpAny _ _ (seqItems? (.ref T) >>= _) _ _ s
  refine wpAny_bind (wpAny_seqItems hT dT ?_)
  simp only [Int.toNat_natCast, hp]
  refine wpAny_bind ?_
  unfold setNextDrawn
  refine wpAny_bind (wpAny_setState_of ho hd hf ?_)
  dsimp only
  rw [if_neg (by simp)]
  obtain ⟨v1, v2⟩ := v
  rw [hv]
  refine wpAny_pure ?_
  refine wpAny_bind (wpAny_setField h1 h3 (by simp) ?_)
  have g1 := Heap.get?_update_self (Obj.mapFields (·.setIfInBounds 1 (rawInt ((i : Int) + 1)))) h1 (Obj.isFreed_of_fields (Obj.data_mapFields h3 _))
  refine wpAny_pure ⟨_, rfl, wpAny_pure (q _ ⟨_, g1, (Obj.cls_mapFields ..).trans h2, ?_⟩ (Heap.SameBut.update ..))⟩
  rw [Obj.data_mapFields h3]; simp [rawInt]
theorem sd_end {it S T : Addr} {o ot : Obj} {es : Array (Int × Value)} {t : SetTable} {i ep nT : Nat} {ps : Array Value} {Q : Option Value → Shared → Prop} (hh : A.handled = none)
    (x : IsSI s.heap it (.ref T) i S es.size ep) (ho : s.heap.get? S = some o) (hd : o.data = .set es ep t) (hf : t.fits es.size = true) (hT : s.heap.get? T = some ot) (dT : ot.data = .seq ps nT) (hp : ps[i]? = none)
    (q : ∀ h', Heap.ExtBut it s.heap h' → Q none { s with heap := h' }) : wpAny (model prog w) A (pyNext (.ref it)) Q E s := by
  obtain ⟨oi, h1, h2, h3⟩ := id x
  unfold pyNext
  refine wpAny_bind (wpAny_attempt (wpAny_callSpecial?_slot (name := Str.ofString "__next__") x.ty si_next (wpAny_call_entry si_next x.ty en_next ?_ (ar_next _))))
  show wpAny _ _ (slotArgs "__next__" 0 ⟨[.ref it], []⟩ >>= _) _ _ s
  refine wpAny_bind (wpAny_pure ?_)
  refine wpAny_bind (wpAny_fieldsOf h1 h3 ?_)
  show wpAny _ _ (setEntries S >>= _) _ _ s
  refine wpAny_bind (wpAny_setEntries_of ho hd hf ?_)
  rw [if_neg (by simp)]
  show wpAny _ _ (seqItems? (.ref T) >>= _) _ _ s
  refine wpAny_bind (wpAny_seqItems hT dT ?_)
  simp only [Int.toNat_natCast, hp]
  refine wpAny_bind (wpAny_setField h1 h3 (by simp) ?_)
  have g1 := Heap.get?_update_self (Obj.mapFields (·.setIfInBounds 0 (rawInt 0))) h1 (Obj.isFreed_of_fields (Obj.data_mapFields h3 _))
  refine wpAny_bind (wpAny_setField g1 (Obj.data_mapFields h3 _) (by simp) ?_)
  refine stop_here hh fun o1 o2 c2 f2 => ?_
  refine wpAny_bind (wpAny_isInstance (T := "StopIteration") (b := true) ⟨_, Heap.get?_push_size _ f2, c2⟩ isSubtype_stop ?_)
  exact wpAny_pure (q _ ((((Heap.SameBut.update ..).trans (Heap.SameBut.update ..)).extBut.push _).push _))
theorem Walks.byRoad {it S : Addr} {o : Obj} {es : Array (Int × Value)} {t : SetTable} {ep : Nat} {sl : Nat → Nat} {out : List Value} (hh : A.handled = none) (hn : S ≠ it) (hd : o.data = .set es ep t) (hf : t.fits es.size = true)
    (R : RoadA prog w S o ep sl out) (hl : out.length = es.size) :
    Walks prog w A it [it, S] [it] es.size (fun i v => out[i]? = some v) (fun i h => IsSI h it (.int (sl i) 0) i S es.size ep ∧ h.get? S = some o) where
  sub := fun b hb => by simp at hb; simp [hb]
  frame := fun _ _ _ st k => ⟨st.1.at fun o e => k it (by simp) o e, k S (by simp) _ st.2⟩
  item := fun i s Q E hi st q => by
    obtain ⟨v, hv⟩ : ∃ v, out[i]? = some v := ⟨out[i]'(by omega), by simp [hl, hi]⟩
    refine si_step st.1 st.2 hd hf R hv fun h' x sb => ?_
    exact q v h' s.toks hv ⟨x, sb.extBut S _ hn st.2⟩ fun b o hb e => sb.extBut b o (fun h => hb (by simp [h])) e
  done := fun s Q E st q => si_end hh st.1 st.2 hd hf R hl.symm fun h' x => q h' s.toks fun b o hb e => x b o (fun h => hb (by simp [h])) e
  self := fun _ _ _ _ st q => si_self st.1 q
theorem Walks.drawn {it S T : Addr} {o ot : Obj} {es : Array (Int × Value)} {t : SetTable} {ep nT : Nat} {js : List Nat} (hh : A.handled = none) (hn : S ≠ it) (hm : T ≠ it) (hd : o.data = .set es ep t) (hf : t.fits es.size = true)
    (dT : ot.data = .seq (js.map fun j : Nat => rawInt j).toArray nT) (hj : js.Perm (List.range es.size)) :
    Walks prog w A it [it, S, T] [it] es.size (fun i v => ∃ j e, js[i]? = some j ∧ es[j]? = some e ∧ v = e.2) (fun i h => IsSI h it (.ref T) i S es.size ep ∧ h.get? S = some o ∧ h.get? T = some ot) where
  sub := fun b hb => by simp at hb; simp [hb]
  frame := fun _ _ _ st k => ⟨st.1.at fun o e => k it (by simp) o e, k S (by simp) _ st.2.1, k T (by simp) _ st.2.2⟩
  item := fun i s Q E hi st q => by
    have hl : js.length = es.size := by rw [hj.length_eq, List.length_range]
    have ej : js[i]? = some (js[i]'(by omega)) := by simp [hl, hi]
    have lt : js[i]'(by omega) < es.size := List.mem_range.mp (hj.mem_iff.mp (List.getElem_mem _))
    refine sd_step (j := js[i]'(by omega)) (tj := 0) (v := es[js[i]'(by omega)]) st.1 st.2.1 hd hf st.2.2 dT (by rw [List.getElem?_toArray, List.getElem?_map, ej]; rfl) (by simp [lt]) fun h' x sb => ?_
    exact q _ h' s.toks ⟨_, _, ej, by simp [lt], rfl⟩ ⟨x, sb.extBut S _ hn st.2.1, sb.extBut T _ hm st.2.2⟩ fun b o hb e => sb.extBut b o (fun h => hb (by simp [h])) e
  done := fun s Q E st q => sd_end hh st.1 st.2.1 hd hf st.2.2 dT (by rw [List.getElem?_toArray, List.getElem?_map, List.getElem?_eq_none (by rw [hj.length_eq, List.length_range]; exact Nat.le_refl _)]; rfl)
    fun h' x => q h' s.toks fun b o hb e => x b o (fun h => hb (by simp [h])) e
  self := fun _ _ _ _ st q => si_self st.1 q
end
end InkZ

namespace InkZ
open PySem PySem.Spec PyProof.Rows
section
variable {prog : Program} {w : World} {A : Around} {E : Value → Shared → Prop} {s : Shared}
theorem items_list {out : List Value} {acc : Array Value} (h : ItemsOf (fun i v => out[i]? = some v) acc out.length) : acc.toList = out := by
  apply List.ext_getElem?
  intro i
  rw [Array.getElem?_toList]
  rcases Nat.lt_or_ge i acc.size with l | l
  · obtain ⟨v, hv⟩ : ∃ v, acc[i]? = some v := ⟨acc[i], by simp [l]⟩
    rw [hv, h.2 i v hv]
  · rw [Array.getElem?_eq_none l, List.getElem?_eq_none (by rw [← h.1]; exact l)]
theorem rise_small {xs : List Nat} (h : xs.length ≤ 1) : xs.Pairwise (· < ·) := by
  match xs, h with
  | [], _ => exact .nil
  | [_], _ => exact List.pairwise_singleton _ _
theorem iter_set {S : Addr} {ms : List Int} {Q : Value → Shared → Prop} (hh : A.handled = none) (Z : SZ prog w (ledOf w) s.heap S ms) (hz : ms.length ≤ sizeLine)
    (q : ∀ (I : Addr) (h' : Heap) (d : Drawn) (fp : List Addr) (P : Nat → Value → Prop) (St : Nat → Heap → Prop), Walks prog w A I fp [I] ms.length P St → St 0 h' → I ∈ fp → (∀ b ∈ fp, b < h'.objs.size) →
      (∀ b o, s.heap.get? b = some o → h'.get? b = some o) → s.heap.get? I = none → (∀ b ∈ fp, b = S ∨ s.heap.get? b = none) → (∀ acc, ItemsOf P acc ms.length → ∃ ns, IntsAre acc.toList ns ∧ ns.Perm ms) → Q (.ref I) { s with heap := h', drawn := d }) :
    wpAny (model prog w) A (pyIter (.ref S)) Q E s := by
  obtain ⟨o, es, ep, t, ns, h1, h2, h3, h4, h5, T, h7, h8⟩ := Z
  have z : es.size = ms.length := by
    have := h7.length
    rw [List.length_map, Array.length_toList] at this
    rw [this, h8.length_eq]
  have hT : s.TypeIs (.ref S) "set" := ⟨o, h1, h2.1⟩
  have lS : S < s.heap.objs.size := Heap.lt_size h1
  refine wpAny_pyIter_slot hT PySem.F.slot_set_iter (wpAny_call_entry PySem.F.slot_set_iter hT en_iter ?_ (PySem.F.args_set_iter_1 _))
  show wpAny _ _ (pure S >>= _) _ _ s
  refine wpAny_bind (wpAny_pure ?_)
  refine wpAny_bind ?_
  unfold Builtin.Frozenset.sizeOf
  refine wpAny_bind (wpAny_setEntries_of h1 h3 h5 (wpAny_pure ?_))
  refine wpAny_bind ?_
  unfold setDrawn
  refine wpAny_bind (wpAny_setState_of h1 h3 h5 ?_)
  dsimp only
  unfold setsByText
  refine wpAny_bind (wpAny_bind (wpAny_askSetting (wpAny_pure (wpAny_pure ?_))))
  show wpAny _ _ (if (!w.params.followText "set-order" && (!t.plain && decide (es.size > 1))) = true then _ else _) _ _ _
  have nn : ∀ {h : Heap}, h.get? h.objs.size = none := fun {h} => by
    cases e : h.get? h.objs.size with
    | none => rfl
    | some o => exact absurd (Heap.lt_size e) (Nat.lt_irrefl _)
  cases hx : (!w.params.followText "set-order" && (!t.plain && decide (es.size > 1))) with
  | true =>
    rw [if_pos rfl]
    refine wpAny_bind (draw_perm (α := Nat) (Q := fun _ _ => True) es.size (List.range es.size) s _ (by simp) fun js d pm => ?_)
    have ln : js.length = es.size := by rw [pm.length_eq, List.length_range]
    refine wpAny_bind (wpAny_newTuple ?_ (by rw [List.length_map, ln, z]; exact hz))
    generalize hT2 : ({ cls := .type "tuple", data := .seq (List.map (fun i : Nat => rawInt ↑i) js).toArray } : Obj) = ot
    have h1' : (s.heap.push ot).get? S = some o := Heap.get?_push_of_some _ h1
    refine wpAny_bind (wpAny_setEpoch_of (s := { s with heap := s.heap.push ot, drawn := d }) h1' h3 h5 ?_)
    refine wpAny_bind (wpAny_newObj_type (wpAny_pure ⟨_, rfl, "set_iterator", _, ⟨_, Heap.get?_push_size _ rfl, rfl⟩, si_next.lookup, ?_⟩))
    have zp : (s.heap.push ot).objs.size = s.heap.objs.size + 1 := Heap.size_push ..
    have gT : (s.heap.push ot).get? s.heap.objs.size = some ot := Heap.get?_push_size _ (by rw [← hT2]; rfl)
    have W := Walks.drawn (prog := prog) (w := w) (A := A) (it := (s.heap.push ot).objs.size) (S := S) (T := s.heap.objs.size) (ot := ot) (nT := 0) hh (by rw [zp]; exact Nat.ne_of_lt (Nat.lt_succ_of_lt lS)) (by rw [zp]; exact Nat.ne_of_lt (Nat.lt_succ_self _)) h3 h5 (by rw [← hT2]) pm
    rw [z] at W
    have nT : s.heap.get? (s.heap.push ot).objs.size = none := by
      cases e : s.heap.get? (s.heap.push ot).objs.size with
      | none => rfl
      | some o => have := Heap.lt_size e; rw [zp] at this; exact absurd this (Nat.not_lt.mpr (Nat.le_succ _))
    refine q _ _ d _ _ _ W ⟨⟨_, Heap.get?_push_size _ rfl, rfl, by simp [rawInt, z]⟩, Heap.get?_push_of_some _ h1', Heap.get?_push_of_some _ gT⟩ (by simp) (fun b hb => ?_) (fun b ob e => Heap.get?_push_of_some _ (Heap.get?_push_of_some _ e)) nT (fun b hb => ?_) fun acc ha => ?_
    · rw [Heap.size_push, zp]
      simp only [List.mem_cons, List.not_mem_nil, or_false] at hb
      rcases hb with rfl | rfl | rfl
      · rw [zp]; exact Nat.lt_succ_self _
      · exact Nat.lt_succ_of_lt (Nat.lt_succ_of_lt lS)
      · exact Nat.lt_succ_of_lt (Nat.lt_succ_self _)
    · simp only [List.mem_cons, List.not_mem_nil, or_false] at hb
      rcases hb with rfl | rfl | rfl
      · exact .inr nT
      · exact .inl rfl
      · exact .inr nn
    · have e : acc.toList = js.map fun j => (es[j]?.getD (0, .none)).2 := by
        apply List.ext_getElem?
        intro i
        rw [Array.getElem?_toList, List.getElem?_map]
        rcases Nat.lt_or_ge i acc.size with l | l
        · obtain ⟨v, hv⟩ : ∃ v, acc[i]? = some v := ⟨acc[i], by simp [l]⟩
          obtain ⟨j, ev, a1, a2, rfl⟩ := ha.2 i v hv
          rw [hv, a1, Option.map_some, a2]; rfl
        · rw [Array.getElem?_eq_none l, List.getElem?_eq_none (by rw [ln, z, ← ha.1]; exact l)]; rfl
      have pv : acc.toList.Perm (es.toList.map (·.2)) := by
        rw [e]
        refine (pm.map _).trans (.of_eq ?_)
        apply List.ext_getElem?
        intro i
        rw [List.getElem?_map, List.getElem?_map]
        rcases Nat.lt_or_ge i es.size with l | l
        · rw [List.getElem?_range l, List.getElem?_eq_getElem (l := es.toList) (by simpa using l)]; simp [l]
        · rw [List.getElem?_eq_none (by simpa using l), List.getElem?_eq_none (l := es.toList) (by simpa using l)]; rfl
      obtain ⟨ks, a, b⟩ := intsAre_perm pv h7
      exact ⟨ks, a, b.trans h8⟩
  | false =>
    rw [if_neg (by simp)]
    refine wpAny_bind (wpAny_pure ?_)
    refine wpAny_bind (wpAny_setEpoch_of h1 h3 h5 ?_)
    refine wpAny_bind (wpAny_newObj_type (wpAny_pure ⟨_, rfl, "set_iterator", _, ⟨_, Heap.get?_push_size _ rfl, rfl⟩, si_next.lookup, ?_⟩))
    obtain ⟨sl, out, R, s0, po⟩ : ∃ sl out, RoadA prog w S o ep sl out ∧ sl 0 = 0 ∧ out.Perm (es.toList.map (·.2)) := by
      cases hy : w.params.followText "set-order" with
      | true => exact ⟨_, _, road_text h3 h5 hy, rfl, (pick_perm _ es).map _⟩
      | false =>
        rw [hy] at hx
        have hp : (!t.plain && decide (es.size > 1)) = false := by simpa using hx
        refine ⟨_, _, road_plain h3 h5 hy (by rw [T.led]; simp [ledOf, hy]) hp ?_, rfl, .rfl⟩
        cases pl : t.plain with
        | true => exact T.rise pl
        | false =>
          rw [pl] at hp
          have : ¬ es.size > 1 := by simpa using hp
          refine rise_small ?_
          have zs : t.place.size = es.size := by simp only [SetTable.fits, Bool.and_eq_true, beq_iff_eq] at h5; exact h5.1
          rw [Array.length_toList]; omega
    have lo : out.length = es.size := by rw [po.length_eq, List.length_map, Array.length_toList]
    have W := Walks.byRoad (prog := prog) (w := w) (A := A) (it := s.heap.objs.size) hh (Nat.ne_of_lt lS) h3 h5 R lo
    rw [z] at W
    refine q _ _ s.drawn _ _ _ W ⟨⟨_, Heap.get?_push_size _ rfl, rfl, by simp [rawInt, z, s0]⟩, Heap.get?_push_of_some _ h1⟩ (by simp) (fun b hb => ?_) (fun b ob e => Heap.get?_push_of_some _ e) nn (fun b hb => ?_) fun acc ha => ?_
    · rw [Heap.size_push]
      simp only [List.mem_cons, List.not_mem_nil, or_false] at hb
      rcases hb with rfl | rfl
      · exact Nat.lt_succ_self _
      · exact Nat.lt_succ_of_lt lS
    · simp only [List.mem_cons, List.not_mem_nil, or_false] at hb
      rcases hb with rfl | rfl
      · exact .inr nn
      · exact .inl rfl
    · rw [← z, ← lo] at ha
      rw [items_list ha]
      obtain ⟨ks, a, b⟩ := intsAre_perm po h7
      exact ⟨ks, a, b.trans h8⟩
theorem ln_set : splitId "set.__len__" = some ("set", "__len__") := by decide +kernel
set_option maxHeartbeats 1000000 in
theorem collect_set {S : Addr} {ms : List Int} {Q : List Value → Shared → Prop} (hh : A.handled = none) (Z : SZ prog w (ledOf w) s.heap S ms) (hz : ms.length < sizeLine)
    (q : ∀ (h' : Heap) (d : Drawn) (tk : Nat) (acc : List Value) (ns : List Int), s.toks ≤ tk → s.heap.objs.size < h'.objs.size → (∀ b o, s.heap.get? b = some o → h'.get? b = some o) → IntsAre acc ns → ns.Perm ms → Q acc { s with heap := h', drawn := d, toks := tk }) :
    wpAny (model prog w) A (collect (.ref S)) Q E s := by
  obtain ⟨o, es, ep, t, h1, h3, z⟩ := Z.len
  have hT : s.TypeIs (.ref S) "set" := by obtain ⟨o, _, _, _, _, g, x, _⟩ := Z; exact ⟨o, g, x.1⟩
  have lS : S < s.heap.objs.size := Heap.lt_size h1
  unfold collect
  refine wpAny_bind (wpAny_runValue (codeAny_builtin PySem.F.entry_proto_collect ?_)); rw [Around.under_plainId PySem.F.plain_proto_collect _]
  show wpAny _ A.in1 (newList [] >>= fun l => again (.builtin "list.__iadd__" ⟨[l, .ref S], []⟩)) _ _ s
  refine wpAny_bind (wpAny_newObj_type ?_)
  refine wpAny_pure ⟨plainId_quiet PySem.F.plain_list_iadd _, codeAny_builtin PySem.F.entry_list_iadd ?_⟩; rw [Around.under_plainId PySem.F.plain_list_iadd _]
  generalize hN : ({ cls := .type "list", data := .seq ([] : List Value).toArray } : Obj) = oN
  have gN : (s.heap.push oN).get? s.heap.objs.size = some oN := Heap.get?_push_size _ (by rw [← hN]; rfl)
  have T1 : Shared.TypeIs { s with heap := s.heap.push oN } (.ref S) "set" := by obtain ⟨o, a, b⟩ := hT; exact ⟨o, Heap.get?_push_of_some _ a, b⟩
  show wpAny _ A.in1 (Builtin.List.listExtendWith (.ref s.heap.objs.size) (.ref S) (.ref s.heap.objs.size)) _ _ _
  unfold Builtin.List.listExtendWith
  refine wpAny_bind (wpAny_typeOf T1 ?_)
  have n1 : Builtin.List.listSameRef (.ref s.heap.objs.size) (.ref S) = false := by
    have : s.heap.objs.size ≠ S := Nat.ne_of_gt lS
    simp [Builtin.List.listSameRef, this]
  rw [if_neg (by rw [n1]; decide)]
  refine wpAny_bind (iter_set (s := { s with heap := s.heap.push oN }) (by simp [hh]) (Z.at fun o e => Heap.get?_push_of_some _ e) (Nat.le_of_lt hz) fun I h2 d fp P St W st hI hfp kp nI nfp hout => ?_)
  have T2 : Shared.TypeIs { s with heap := h2, drawn := d } (.ref S) "set" := by obtain ⟨o, a, b⟩ := T1; exact ⟨o, kp _ _ a, b⟩
  have g2 : h2.get? s.heap.objs.size = some oN := kp _ _ gN
  have room : wpAny (model prog w) A.in1 (holding [Value.ref I] (Builtin.List.listLengthHint (.ref S))) (fun b s' => b = false ∧ s' = { s with heap := h2, drawn := d }) E { s with heap := h2, drawn := d } := by
    refine wpAny_holding ?_
    unfold Builtin.List.listLengthHint
    refine wpAny_bind (wpAny_specialOf T2 PySem.F.slot_set_len.lookup ?_)
    generalize hid : ("set.__len__" : String) = id0
    dsimp only
    rw [show splitId id0 = some ("set", "__len__") from by subst hid; exact ln_set]
    subst hid
    dsimp only
    refine wpAny_bind (wpAny_isInstance (b := true) T2 PySem.sub_set_self ?_)
    rw [if_neg (by decide)]
    show wpAny _ _ (typeOf (.ref S) >>= _) _ _ _
    refine wpAny_bind (wpAny_typeOf T2 ?_)
    exact wpAny_pure ⟨rfl, rfl⟩
  refine wpAny_bind (wpAny_mono room (fun b s' hb => ?_) fun _ _ e => e)
  obtain ⟨rfl, rfl⟩ := hb
  show wpAny _ A.in1 (rule "list.extend.makes-room" >>= fun _ => Builtin.List.listTouch (.ref s.heap.objs.size) >>= fun _ => again (.builtin "list.extend.loop" ⟨[.ref s.heap.objs.size, .ref I, .ref s.heap.objs.size], []⟩)) _ _ _
  refine wpAny_bind (wpAny_rule (wpAny_bind ?_))
  show wpAny _ A.in1 (updateSeq s.heap.objs.size (·.push .none) >>= fun _ => updateSeq s.heap.objs.size (·.pop)) _ _ _
  subst hN
  refine wpAny_bind (wpAny_updateSeq g2 rfl ?_)
  have g3 := Heap.get?_update_self (Obj.mapSeq (·.push Value.none)) g2 rfl
  refine wpAny_updateSeq g3 rfl ?_
  have g4 := Heap.get?_update_self (Obj.mapSeq (·.pop)) g3 rfl
  generalize hH : (h2.update s.heap.objs.size (Obj.mapSeq (·.push Value.none))).update s.heap.objs.size (Obj.mapSeq (·.pop)) = h5 at g4 ⊢
  have oth : ∀ b o, b ≠ s.heap.objs.size → h2.get? b = some o → h5.get? b = some o := fun b o nb e => by
    rw [← hH]; exact (Heap.get?_update_other _ _ (Ne.symm nb)).trans ((Heap.get?_update_other _ _ (Ne.symm nb)).trans e)
  have nf : s.heap.objs.size ∉ fp := fun hm => (nfp _ hm).elim (fun e => Nat.ne_of_gt lS e) fun e => by rw [gN] at e; cases e
  refine wpAny_pure ⟨plainId_quiet PySem.F.plain_extend_loop _, codeAny_extend_loopS W.toS (Nat.le_of_lt hz) _ nf _ ms.length 0 _ _ _ rfl (Nat.zero_le _) (W.frame _ _ _ st fun b hb o e => oth b o (fun h => nf (h ▸ hb)) e) g4 (ItemsOf.nil P) fun s' acc c mv gs ha => ?_⟩
  show wpAny _ A (load s.heap.objs.size >>= _) _ _ s'
  refine wpAny_bind (wpAny_load gs (wpAny_pure ?_))
  obtain ⟨ks, k1, k2⟩ := hout acc ha
  obtain ⟨h', g', d', tk', os'⟩ := s'
  obtain rfl : g' = s.gens := mv.gens
  obtain rfl : d' = d := mv.drawn
  obtain rfl : os' = s.os := mv.os
  refine q h' d' tk' acc.toList ks mv.toks (Heap.lt_size gs) (fun b o e => ?_) k1 k2
  have lb : b < s.heap.objs.size := Heap.lt_size e
  refine mv.heap b o ?_ (oth b o (Nat.ne_of_lt lb) (kp _ _ (Heap.get?_push_of_some _ e)))
  simp only [List.mem_cons, List.not_mem_nil, or_false, not_or]
  refine ⟨Nat.ne_of_lt lb, fun h => ?_⟩
  rw [← h, Heap.get?_push_of_some _ e] at nI; cases nI
end
end InkZ

namespace InkZ
open PySem PySem.Spec PyProof.Rows L2
section
variable {prog : Program} {w : World} {A : Around} {E : Value → Shared → Prop} {s : Shared}
set_option maxHeartbeats 1000000 in
theorem sorted_set {S : Addr} {ms : List Int} {Q : Value → Shared → Prop} (hh : A.handled = none) (Z : SZ prog w (ledOf w) s.heap S ms) (hz : ms.length < 64)
    (q : ∀ (h' : Heap) (d : Drawn) (tk : Nat) (l : Addr) (out : List Value) (ks : List Int) (c : Nat), s.heap.objs.size ≤ l → s.toks ≤ tk → (∀ b o, s.heap.get? b = some o → h'.get? b = some o) →
      h'.get? l = some { cls := .type "list", data := .seq out.toArray c } → IntsAre out ks → ks.Perm ms → ks.Pairwise (· ≤ ·) → Q (.ref l) { s with heap := h', drawn := d, toks := tk }) :
    wpAny (model prog w) A (call (.builtin "sorted") [.ref S]) Q E s := by
  have sl : (64 : Nat) ≤ sizeLine := by decide
  refine Calls.call_function_entry kind_sorted plain_sorted entry_sorted (args_sorted1 _) ?_
  unfold Builtin.«sorted»
  refine wpAny_bind (m := checkCount "sorted" 1 1 _) (wpAny_pure (wpAny_bind (collect_set (by simp [hh]) Z (by omega) fun h' d tk vs ns htk le kp hi hp => wpAny_bind (wpAny_newList ?_ ?_))))
  · have hl : vs.length = ms.length := by rw [hi.length, hp.length_eq]
    have g : (h'.push (seqObj "list" vs.toArray 0)).get? h'.objs.size = some (seqObj "list" vs.toArray 0) := Heap.get?_push_size _ rfl
    show wpAny _ _ _ _ _ { s with heap := h'.push (seqObj "list" vs.toArray 0), drawn := d, toks := tk }
    refine wpAny_bind (wpAny_holding (wpAny_call_entry slot_list_sort ⟨_, g, rfl⟩ entry_list_sort (list_sort_tree g hi (by omega) fun out ks a1 a2 a3 => ⟨_, rfl, ?_⟩) (args_list_sort _)))
    obtain ⟨c, hc⟩ := sortedHeap_at (out := out) g
    refine wpAny_pure ⟨_, rfl, q _ d tk _ out.toList ks c (Nat.le_of_lt le) htk (fun b o e => ?_) (by simpa [seqObj] using hc) a1 (a2.trans hp) a3⟩
    have lb : b < h'.objs.size := Heap.lt_size (kp b o e)
    rw [sortedHeap_old (Nat.ne_of_lt lb) (by rw [Heap.size_push]; exact Nat.lt_succ_of_lt lb)]
    exact Heap.get?_push_of_some _ (kp b o e)
  · rw [hi.length, hp.length_eq]; omega
end
def SetV (P : Program) (w : World) (S : Addr) (ms : List Int) : HO := .ext fun h => SZ P w (ledOf w) h S ms
theorem inv_drawn {X : Cx} {pins : List (Addr × Obj)} {σ : List (Option V)} {H : Hp} {s : Shared} (I : Inv X pins σ H s) (d : Drawn) : Inv X pins σ H { s with drawn := d } := by
  obtain ⟨a, b, c, d', e, f, g, i, j, k, l⟩ := I
  exact ⟨a, b, c, d', e, f, g, i, j, k, l⟩
theorem vals_ints : ∀ {us : List Value} {ms : List Int}, IntsAre us ms → Vals (ms.map V.int) us
  | _, _, .nil => .nil
  | _, _, .cons _ t h => .cons ⟨t, rfl⟩ (vals_ints h)
theorem call_setI {X : Cx} (hc : X.calm = true) : CallR X (.type "set") (fun xs H Q => ∃ (p : Addr) (ns : List Int), xs = [.ref p] ∧ H p = some (.lst (ns.map V.int)) ∧ ns.length < 64 ∧
    ∀ (S : Addr) (ms : List Int), H S = none → Dist ms ns → ms.length < 64 → Q (.ref S) (upd H S (SetV X.prog X.w S ms))) := by
  intro pins s σ H xs us Q I r h
  obtain ⟨p, ns, rfl, hH, h64, q⟩ := h
  obtain ⟨u, rfl, rx⟩ := r.one
  cases (show u = Value.ref p from rx)
  obtain ⟨z, its, n, rv, hl, e⟩ := I.lstM hH
  have hi : IntsAre its ns := L2.intsAre_of rv
  have len := rv.length
  rw [List.length_map] at len
  have sb : (100 : Nat) < scanBound := by decide
  refine call_setZ (its := its.toArray) (ns := ns) (I.ok.hd hc) ⟨_, e, rfl, n, rfl⟩ (by simpa using hi) (by rw [List.size_toArray]; omega) fun h' tk ms Z D ln kp => ?_
  rw [List.size_toArray] at ln
  refine ⟨.ref s.heap.objs.size, _, I.laid (o := SetV X.prog X.w s.heap.objs.size ms) (t' := tk) (fun b o ob => kp b o (Heap.lt_size ob) ob) (Nat.le_refl _) ⟨Z, ?_, fun h1 h2 z k => z.at k⟩, rfl, q _ _ (I.hok.fresh (Nat.le_refl _)) D (by omega)⟩
  obtain ⟨o, _, _, _, g, _⟩ := Z.len
  exact ⟨o, g⟩
theorem call_sortedS {X : Cx} (hc : X.calm = true) : CallR X (.builtin "sorted") (fun xs H Q => ∃ (S : Addr) (ms : List Int), xs = [.ref S] ∧ H S = some (SetV X.prog X.w S ms) ∧ ms.length < 64 ∧
    ∀ (l : Addr) (ks : List Int), H l = none → ks.Perm ms → ks.Pairwise (· ≤ ·) → Q (.ref l) (upd H l (.lst (ks.map V.int)))) := by
  intro pins s σ H xs us Q I r h
  obtain ⟨S, ms, rfl, hH, h64, q⟩ := h
  obtain ⟨u, rfl, rx⟩ := r.one
  cases (show u = Value.ref S from rx)
  obtain ⟨Z, _⟩ := (show ObjOk X.prog X.w H s.heap S (SetV X.prog X.w S ms) from I.hok S _ hH)
  refine sorted_set (I.ok.hd hc) Z h64 fun h' d tk l out ks c le htk kp g hi hp hw => ?_
  have : (64 : Nat) ≤ sizeLine := by decide
  refine ⟨.ref l, _, (inv_drawn I d).laid (t' := tk) kp le (show ObjOk X.prog X.w _ _ _ (.lst (ks.map V.int)) from ⟨by rw [List.length_map, hp.length_eq]; omega, out, c, vals_ints hi, g⟩), rfl, q _ _ (I.hok.fresh le) hp hw⟩
end InkZ

set_option Elab.async false
set_option linter.all false
set_option maxRecDepth 100000
namespace Ink
open PySem L2 InkX InkE InkF InkP
def top (i : Nat) : Stmt := PySem.Challenge.pw_inkroot_k62_great_sets.main.body.getD i (.Pass ⟨0, 0, 0, 0⟩)
def clsBody : Stmt → List Stmt
  | .ClassDef (body := b) .. => b
  | _ => []
def mtop (i j : Nat) : Stmt := (clsBody (top i)).getD j (.Pass ⟨0, 0, 0, 0⟩)
structure Nms (mg : Str → Option Value) : Prop where
  n_len : mg "len" = none
  n_list : mg "list" = none
  n_tuple : mg "tuple" = none
  n_int : mg "int" = none
  n_bool : mg "bool" = none
  n_str : mg "str" = none
  n_range : mg "range" = none
  n_zip : mg "zip" = none
  n_isinstance : mg "isinstance" = none
  n_sum : mg "sum" = none
  n_max : mg "max" = none
  n_min : mg "min" = none
  n_sorted : mg "sorted" = none
  n_set : mg "set" = none
section
variable {P : Program} {w : World} {K : PySem.W.Frag} {mg : Str → Option Value} {base : Heap}

abbrev s_law_src : Stmt := top 12
theorem sc_law_src : FnScope ["_law_script"] ["_law_script"] (defScope s_law_src) := ⟨rfl, rfl, rfl, by decide +kernel, rfl, by decide +kernel, by decide +kernel⟩
theorem ok_law_src {f : Addr} {fd : FuncData} (F : Fun K "_law_src" "_law_src" s_law_src f fd) (T : Nms mg) : FnOk P w K mg base CX0 1 f fd ["_law_script"] (spSrc K) := by
  refine F.ok sc_law_src (fun vs H Q E h => ?_) (fun cdv A outer s H vs Q E hr h => ?_)
  · obtain ⟨a, ns, rfl, _⟩ := h
    rfl
  obtain ⟨a, ns, rfl, hS, k⟩ := h
  refine ⟨_, (pss_one (ps_ret (pe_lst (pa_cons (pe_callTy call_list_of rfl T.n_list PyProof.Rows.boot_list (pa_cons (pe_slice sl_list (pv 0) po_none (po_some pe_int)) pa_nil)) (pa_cons pe_int (pa_cons pe_int (pa_cons pe_int pa_nil))))))), ?_⟩
  refine ⟨_, rfl, _, rfl, a, _, rfl, hS, fun p hp => ?_⟩
  refine ⟨p, _, rfl, .inl (SqL.of upd_same), fun c hc => ?_⟩
  refine ⟨(by show 4 ≤ sizeLine; decide), fun l hl => ?_⟩
  obtain ⟨ms, em⟩ := cut_ints ns none (some 63)
  have ncl : c ≠ l := ne_of_none (H := upd (upd H p _) c _) upd_same hl
  have s1 : Same H (upd H p (.lst (cutV (ns.map V.int) none (some 63)))) := same_new hp _
  have s2 := s1.trans (same_new hc (.lst (cutV (ns.map V.int) none (some 63))))
  refine k l c _ ⟨ncl, ms, 0, 0, 1, upd_same, ?_, by decide, by decide, by decide⟩ (s2.trans (same_new hl _)) (s2.free hl) (s1.free hc)
  rw [upd_ne ncl, upd_same, em]

abbrev s_law_next : Stmt := top 13
theorem sc_law_next : FnScope ["_law_src_here", "_law_base", "_law_cell", "_law_digit"] ["_law_src_here", "_law_base"] (defScope s_law_next) := ⟨rfl, rfl, rfl, by decide +kernel, rfl, by decide +kernel, by decide +kernel⟩
theorem ok_law_next {f : Addr} {fd : FuncData} (F : Fun K "_law_next" "_law_next" s_law_next f fd) (T : Nms mg) : FnOk P w K mg base CX0 1 f fd ["_law_src_here", "_law_base"] spNext := by
  refine F.ok sc_law_next (fun vs H Q E h => ?_) (fun cdv A outer s H vs Q E hr h => ?_)
  · obtain ⟨l, c, b, rfl, _⟩ := h
    rfl
  obtain ⟨l, c, b, rfl, S, hb0, hb1, k⟩ := h
  refine ⟨_, (pss_cons (ps_imp (t' := nextT1) (ps_if (pt_cmpR op_le (pe_ix ix_list (pv 0) pe_int (fun _ _ => rfl)) pe_int (nomark _))
      (pss_cons (ps_set (i := 2) sc_law_next.nd rfl (Or.inl rfl) pe_int)
      (pss_cons (ps_imp (t' := nextT2) (ps_if (pt_cmpR op_lt (pe_ix ix_list (pv 0) pe_int (fun _ _ => rfl)) (pe_callB call_len_seq rfl T.n_len PySem.boot_len (pa_cons (pe_ix ix_list (pv 0) pe_int (fun _ _ => rfl)) pa_nil)) (nomark _))
      (pss_cons (ps_set (i := 2) sc_law_next.nd rfl (Or.inl rfl) (pe_ix ix_list (pe_ix ix_list (pv 0) pe_int (fun _ _ => rfl)) (pe_ix ix_list (pv 0) pe_int (fun _ _ => rfl)) (fun _ _ => rfl)))
      (pss_one (ps_asg (pe_op op_add (pe_ix ix_list (pv 0) pe_int (fun _ _ => rfl)) pe_int) (pg_sub (pv 0) pe_int set_list))))
      pss_nil) ?b2)
      (pss_cons (ps_asg (pe_op op_mod (pe_op op_add (pe_op op_add (pe_op op_mul (pe_ix ix_list (pv 0) pe_int (fun _ _ => rfl)) pe_int) (pe_op op_mod (pv 2) pe_int)) pe_int) pe_int) (pg_sub (pv 0) pe_int set_list))
      (pss_one (ps_if (pt_cmpR op_ge (pv 2) (pe_op op_pow pe_int pe_int) (nomark _))
      (pss_one (ps_asg (pv 2) (pg_sub (pv 0) pe_int set_list)))
      pss_nil)))))
      pss_nil) ?b1)
      (pss_cons (ps_if (pt_cmpR op_gt (pe_ix ix_list (pv 0) pe_int (fun _ _ => rfl)) pe_int (nomark _))
      (pss_cons (ps_set (i := 3) sc_law_next.nd rfl (Or.inl rfl) (pe_op op_mod (pe_ix ix_list (pv 0) pe_int (fun _ _ => rfl)) (pv 1)))
      (pss_cons (ps_asg (pe_op op_fdivB (pe_ix ix_list (pv 0) pe_int (fun _ _ => rfl)) (pv 1)) (pg_sub (pv 0) pe_int set_list))
      (pss_one (ps_ret (pv 3)))))
      pss_nil)
      (pss_one (ps_ret (pe_op op_mod (pe_op op_fdivB (pe_op op_mod (pe_op op_mul (pe_ix ix_list (pv 0) pe_int (fun _ _ => rfl)) pe_int) pe_int) pe_int) (pv 1)))))), ?_⟩
  case b2 =>
    rintro D σ H ⟨l, c, b, rfl, ⟨ncl, ns, i, d, r, hl, hc, hi, hr0, hr1⟩, k⟩
    refine ⟨_, rfl, l, _, _, _, rfl, rfl, SqL.of hl, at41, _, rfl, l, _, _, _, rfl, rfl, SqL.of hl, at40, c, _, rfl, .inl (SqL.of hc), _, _, rfl, rfl, _, rfl, ?_⟩
    refine ite2 (fun c2 => ?_) (fun c2 => ?_)
    · have c3 : i < (ns.length : Int) := by
        have z := of_decide_eq_true c2
        rwa [List.length_map] at z
      obtain ⟨v, hv⟩ := at_ints hi c3
      refine ⟨_, rfl, l, _, _, _, rfl, rfl, SqL.of hl, at40, _, rfl, l, _, _, _, rfl, rfl, SqL.of hl, at41, c, _, _, _, rfl, rfl, SqL.of hc, hv, ?_⟩
      refine ⟨_, rfl, l, _, _, _, rfl, rfl, SqL.of hl, at41, _, _, rfl, rfl, _, rfl, l, _, _, 1, rfl, rfl, hl, rfl, ?_⟩
      exact k v _ ⟨ncl, ns, i + 1, d, r, upd_same, by rw [upd_ne ncl]; exact hc, by omega, hr0, hr1⟩ fun a ha => upd_ne ha
    · exact k 7 H ⟨ncl, ns, i, d, r, hl, hc, hi, hr0, hr1⟩ fun a _ => rfl
  case b1 =>
    rintro D σ H ⟨l, c, b, rfl, S, k⟩
    obtain ⟨ncl, ns, i, d, r, hl, hc, hi, hr0, hr1⟩ := id S
    refine ⟨_, rfl, l, _, _, _, rfl, rfl, SqL.of hl, at42, _, _, rfl, rfl, _, rfl, ?_⟩
    refine ite2 (fun c1 => ?_) (fun c1 => ?_)
    · refine ⟨l, c, b, rfl, S, fun cell H1 S1 k1 => ?_⟩
      obtain ⟨_, ns1, i1, d1, r1, hl1, hc1, hi1, hr2, hr3⟩ := id S1
      refine ⟨_, rfl, l, _, _, _, rfl, rfl, SqL.of hl1, at43, _, _, rfl, rfl, .inl ⟨by omega, by omega⟩, _, rfl, _, _, rfl, rfl, (by show (0 : Int) < 998244353; decide), _, _, rfl, rfl, _, _, rfl, rfl, _, _, rfl, rfl, (by show (0 : Int) < 2147483647; decide), _, rfl, l, _, _, 3, rfl, rfl, hl1, rfl, ?_⟩
      refine ⟨_, rfl, _, _, rfl, rfl, ⟨by decide, by decide, by decide⟩, _, _, rfl, rfl, _, rfl, ?_⟩
      have b0 : 0 ≤ (r1 * 48271 + cell % 998244353 + 1) % 2147483647 := Int.emod_nonneg _ (by decide)
      have b1 : (r1 * 48271 + cell % 998244353 + 1) % 2147483647 < 2147483647 := Int.emod_lt_of_pos _ (by decide)
      refine ite2 (fun c2 => ?_) (fun c2 => ?_)
      · refine ⟨_, rfl, _, rfl, l, _, _, 2, rfl, rfl, upd_same, rfl, ?_⟩
        refine k _ _ ⟨ncl, ns1, i1, cell, _, upd_same, ?_, hi1, b0, b1⟩ fun a ha => ?_
        · rw [upd_ne ncl, upd_ne ncl]; exact hc1
        · rw [upd_ne ha, upd_ne ha]; exact k1 a ha
      · refine k _ _ ⟨ncl, ns1, i1, d1, _, upd_same, ?_, hi1, b0, b1⟩ fun a ha => ?_
        · rw [upd_ne ncl]; exact hc1
        · rw [upd_ne ha]; exact k1 a ha
    · exact k none H S fun a _ => rfl
  refine ⟨l, c, b, rfl, S, fun cell H1 S1 k1 => ?_⟩
  obtain ⟨ncl, ns, i, d, r, hl, hc, hi, hr0, hr1⟩ := S1
  refine ⟨_, rfl, l, _, _, _, rfl, rfl, SqL.of hl, at42, _, _, rfl, rfl, _, rfl, ?_⟩
  refine ite2 (fun c1 => ?_) (fun c1 => ?_)
  · refine ⟨_, rfl, l, _, _, _, rfl, rfl, SqL.of hl, at42, _, rfl, _, _, rfl, rfl, hb0, ?_⟩
    refine ⟨_, rfl, l, _, _, _, rfl, rfl, SqL.of hl, at42, _, rfl, _, _, rfl, rfl, ⟨hb0, hb1⟩, _, rfl, l, _, _, 2, rfl, rfl, hl, rfl, ?_⟩
    refine ⟨_, rfl, ?_⟩
    refine k (d % b) _ (Int.emod_nonneg _ (by omega)) (Int.emod_lt_of_pos _ hb0) ⟨ncl, ns, i, d / b, r, upd_same, ?_, hi, hr0, hr1⟩ fun a ha => ?_
    · rw [upd_ne ncl]; exact hc
    · rw [upd_ne ha]; exact k1 a ha
  · refine ⟨_, rfl, l, _, _, _, rfl, rfl, SqL.of hl, at43, _, _, rfl, rfl, .inl ⟨by omega, by omega⟩, _, _, rfl, rfl, (by show (0 : Int) < 2147483399; decide), _, _, rfl, rfl, ⟨by decide, by decide⟩, _, rfl, _, _, rfl, rfl, hb0, ?_⟩
    exact k _ _ (Int.emod_nonneg _ (by omega)) (Int.emod_lt_of_pos _ hb0) ⟨ncl, ns, i, d, r, hl, hc, hi, hr0, hr1⟩ k1

abbrev s_law_whole : Stmt := top 14
abbrev s_law_same : Stmt := top 15
theorem sc_law_whole : FnScope ["_law_found"] ["_law_found"] (defScope s_law_whole) := ⟨rfl, rfl, rfl, by decide +kernel, rfl, by decide +kernel, by decide +kernel⟩
theorem sc_law_same : FnScope ["_law_found", "_law_due", "_law_one", "_law_other"] ["_law_found", "_law_due"] (defScope s_law_same) := ⟨rfl, rfl, rfl, by decide +kernel, rfl, by decide +kernel, by decide +kernel⟩
theorem ok_law_whole {f : Addr} {fd : FuncData} (F : Fun K "_law_whole" "_law_whole" s_law_whole f fd) (T : Nms mg) : FnOk P w K mg base CX0 1 f fd ["_law_found"] spWhole := by
  refine F.ok sc_law_whole (fun vs H Q E h => ?_) (fun cdv A outer s H vs Q E hr h => ?_)
  · obtain ⟨i, rfl, _⟩ := h
    rfl
  obtain ⟨i, rfl, k⟩ := h
  refine ⟨_, (pss_one (ps_ret (pe_and (pe_callB call_isinst rfl T.n_isinstance PyProof.Rows.boot_isinstance (pa_cons (pv 0) (pa_cons (pe_ty rfl T.n_int PyProof.Rows.boot_int) pa_nil))) (pe_one (pe_not (pe_callB call_isinst rfl T.n_isinstance PyProof.Rows.boot_isinstance (pa_cons (pv 0) (pa_cons (pe_ty rfl T.n_bool PyProof.Rows.boot_bool) pa_nil)))))))), ?_⟩
  exact ⟨_, rfl, _, _, _, _, rfl, TyOf.int i, k_ii K, _, rfl, iteT ⟨_, rfl, _, _, _, _, rfl, TyOf.int i, k_ib K, _, rfl, k⟩⟩
theorem step_law_same {f fW : Addr} {fd fdW : FuncData} {n : Nat} (T : Nms mg) (d_law_whole : DefAt K mg "_law_whole" s_law_whole ["_law_found"] fW fdW) (g_law_whole : FnOk P w K mg base CX0 1 fW fdW ["_law_found"] spWhole)
    (d_law_same : DefAt K mg "_law_same" s_law_same ["_law_found", "_law_due"] f fd) (g_law_same : FnOk P w K mg base CX0 (n + 1) f fd ["_law_found", "_law_due"] (spSame n)) : FnOk P w K mg base CX0 (n + 2) f fd ["_law_found", "_law_due"] (spSame (n + 1)) := by
  refine d_law_same.F.ok sc_law_same (fun vs H Q E h => ?_) (fun cdv A outer s H vs Q E hr h => ?_)
  · obtain ⟨x, y, rfl, _⟩ := h
    rfl
  obtain ⟨x, y, rfl, h, k⟩ := h
  refine ⟨_, (pss_cons (ps_if (pt_cmp (pc_isN (pv 1)))
      (pss_one (ps_ret (pe_cmp (pc_isN (pv 0)))))
      pss_nil)
      (pss_cons (ps_if (pt_val (pe_callB call_isinst rfl T.n_isinstance PyProof.Rows.boot_isinstance (pa_cons (pv 1) (pa_cons (pe_ty rfl T.n_bool PyProof.Rows.boot_bool) pa_nil))))
      (pss_one (ps_ret (pe_and (pe_callB call_isinst rfl T.n_isinstance PyProof.Rows.boot_isinstance (pa_cons (pv 0) (pa_cons (pe_ty rfl T.n_bool PyProof.Rows.boot_bool) pa_nil))) (pe_one (pe_cmpR op_eq (pv 0) (pv 1) (nomark _))))))
      pss_nil)
      (pss_cons (ps_if (pt_val (pe_callB call_isinst rfl T.n_isinstance PyProof.Rows.boot_isinstance (pa_cons (pv 1) (pa_cons (pe_ty rfl T.n_int PyProof.Rows.boot_int) pa_nil))))
      (pss_one (ps_ret (pe_and (pe_def d_law_whole g_law_whole hr (pa_cons (pv 0) pa_nil)) (pe_one (pe_cmpR op_eq (pv 0) (pv 1) (nomark _))))))
      pss_nil)
      (pss_cons (ps_if (pt_val (pe_callB call_isinst rfl T.n_isinstance PyProof.Rows.boot_isinstance (pa_cons (pv 1) (pa_cons (pe_ty rfl T.n_str PyProof.Rows.boot_str) pa_nil))))
      (pss_one (ps_ret (pe_and (pe_callB call_isinst rfl T.n_isinstance PyProof.Rows.boot_isinstance (pa_cons (pv 0) (pa_cons (pe_ty rfl T.n_str PyProof.Rows.boot_str) pa_nil))) (pe_one (pe_cmpR op_eq (pv 0) (pv 1) (nomark _))))))
      pss_nil)
      (pss_cons (ps_if (PW.pt (pw_or (pt_cmpR op_ne (pe_callB call_isinst rfl T.n_isinstance PyProof.Rows.boot_isinstance (pa_cons (pv 1) (pa_cons (pe_ty rfl T.n_list PyProof.Rows.boot_list) pa_nil))) (pe_callB call_isinst rfl T.n_isinstance PyProof.Rows.boot_isinstance (pa_cons (pv 0) (pa_cons (pe_ty rfl T.n_list PyProof.Rows.boot_list) pa_nil))) (nomark _)) (pw_or1 (pt_cmpR op_ne (pe_callB call_isinst rfl T.n_isinstance PyProof.Rows.boot_isinstance (pa_cons (pv 1) (pa_cons (pe_ty rfl T.n_tuple PyProof.Rows.boot_tuple) pa_nil))) (pe_callB call_isinst rfl T.n_isinstance PyProof.Rows.boot_isinstance (pa_cons (pv 0) (pa_cons (pe_ty rfl T.n_tuple PyProof.Rows.boot_tuple) pa_nil))) (nomark _)))))
      (pss_one (ps_ret pe_bl))
      pss_nil)
      (pss_cons (ps_if (pt_cmpR op_ne (pe_callB call_len_seq rfl T.n_len PySem.boot_len (pa_cons (pv 0) pa_nil)) (pe_callB call_len_seq rfl T.n_len PySem.boot_len (pa_cons (pv 1) pa_nil)) (nomark _))
      (pss_one (ps_ret pe_bl))
      pss_nil)
      (pss_cons (ps_for PassesOwn.never rfl (pi_zip rfl T.n_zip (pa_cons (pv 0) (pa_cons (pv 1) pa_nil))) (pg_tup (n := 2) rfl (pgs_cons (pg_name (i := 2) sc_law_same.nd rfl (Or.inl rfl)) (pgs_cons (pg_name (i := 3) sc_law_same.nd rfl (Or.inl rfl)) pgs_nil)))
      (pss_one (ps_if (pt_not (pt_val (pe_def d_law_same g_law_same hr (pa_cons (pv 2) (pa_cons (pv 3) pa_nil)))))
      (pss_one (ps_ret pe_bl))
      pss_nil)))
      (pss_one (ps_ret pe_bl))))))))), ?_⟩
  have kk := k H (Same.refl H)
  rcases h with ⟨hf, rfl⟩ | ⟨kd, a, b, xs, ys, rfl, rfl, h1, h2, hl, hi⟩
  · cases x with
    | non =>
      refine ⟨_, rfl, _, rfl, ite2 (fun _ => ?_) (fun c => absurd (decide_eq_true rfl) c)⟩
      exact ⟨_, rfl, tt rfl kk⟩
    | bl v =>
      refine ⟨_, rfl, _, rfl, ite2 (fun c => absurd (of_decide_eq_true c) (fun z => nomatch z)) (fun _ => ?_)⟩
      refine ⟨_, rfl, _, _, _, _, rfl, TyOf.bl v, k_bb K, _, rfl, iteT ?_⟩
      exact ⟨_, rfl, _, _, _, _, rfl, TyOf.bl v, k_bb K, _, rfl, iteT ⟨_, rfl, _, rfl, rfl, tt rfl kk⟩⟩
    | int i =>
      refine ⟨_, rfl, _, rfl, ite2 (fun c => absurd (of_decide_eq_true c) (fun z => nomatch z)) (fun _ => ?_)⟩
      refine ⟨_, rfl, _, _, _, _, rfl, TyOf.int i, k_ib K, _, rfl, iteF ?_⟩
      refine ⟨_, rfl, _, _, _, _, rfl, TyOf.int i, k_ii K, _, rfl, iteT ?_⟩
      exact ⟨_, rfl, i, rfl, _, rfl, iteT ⟨_, rfl, _, rfl, rfl, tt rfl kk⟩⟩
    | str v =>
      refine ⟨_, rfl, _, rfl, ite2 (fun c => absurd (of_decide_eq_true c) (fun z => nomatch z)) (fun _ => ?_)⟩
      refine ⟨_, rfl, _, _, _, _, rfl, TyOf.str v, k_sb K, _, rfl, iteF ?_⟩
      refine ⟨_, rfl, _, _, _, _, rfl, TyOf.str v, k_si K, _, rfl, iteF ?_⟩
      refine ⟨_, rfl, _, _, _, _, rfl, TyOf.str v, k_ss K, _, rfl, iteT ?_⟩
      exact ⟨_, rfl, _, _, _, _, rfl, TyOf.str v, k_ss K, _, rfl, iteT ⟨_, rfl, _, rfl, rfl, tt rfl kk⟩⟩
    | _ => cases hf
  · refine ⟨_, rfl, _, rfl, ite2 (fun c => absurd (of_decide_eq_true c) (fun z => nomatch z)) (fun _ => ?_)⟩
    refine ⟨_, rfl, _, _, _, _, rfl, h2.ty, k_qb K kd, _, rfl, iteF ?_⟩
    refine ⟨_, rfl, _, _, _, _, rfl, h2.ty, k_qi K kd, _, rfl, iteF ?_⟩
    refine ⟨_, rfl, _, _, _, _, rfl, h2.ty, k_qs K kd, _, rfl, iteF ?_⟩
    refine ⟨_, rfl, _, _, _, _, rfl, h2.ty, k_ql K kd, _, rfl, _, _, _, _, rfl, h1.ty, k_ql K kd, rfl, _, rfl, iteNS rfl ?_⟩
    refine ⟨_, rfl, _, _, _, _, rfl, h2.ty, k_qt K kd, _, rfl, _, _, _, _, rfl, h1.ty, k_qt K kd, rfl, _, rfl, iteNS rfl ?_⟩
    refine ⟨_, rfl, a, _, rfl, h1.or, _, rfl, b, _, rfl, h2.or, rfl, _, rfl, iteNS (by rw [hl]) ?_⟩
    refine ⟨_, rfl, _, rfl, kd, a, b, xs, ys, rfl, h1.sq, h2.sq, for_zip (fun i σ H2 => ∃ u v, σ = [some (.ref a), some (.ref b), u, v] ∧ Same H H2) hl ⟨none, none, rfl, Same.refl H⟩ (fun i σ H2 _ ⟨_, _, _, s⟩ => ⟨(h1.same s).sq, (h2.same s).sq⟩) ?_ ?_⟩
    · rintro i u v p σ H2 eu ev hp ⟨_, _, rfl, s⟩
      refine ⟨p, _, rfl, SqT.of upd_same, rfl, u, [v], rfl, v, [], rfl, rfl, ?_⟩
      have s2 := s.trans (same_new hp (.tup [u, v]))
      refine ⟨_, rfl, _, rfl, u, v, rfl, Eqv.same s2 (hi i u v eu ev), fun H4 s4 => ⟨_, rfl, iteF ?_⟩⟩
      exact ⟨_, _, rfl, s2.trans s4⟩
    · rintro σ H2 ⟨_, _, rfl, s⟩
      exact k H2 s
theorem ok_law_same {f fW : Addr} {fd fdW : FuncData} (T : Nms mg) (d_law_whole : DefAt K mg "_law_whole" s_law_whole ["_law_found"] fW fdW) (d_law_same : DefAt K mg "_law_same" s_law_same ["_law_found", "_law_due"] f fd) : ∀ n : Nat, FnOk P w K mg base CX0 (n + 1) f fd ["_law_found", "_law_due"] (spSame n)
  | 0 => by
    have no : ∀ vs H Q E, ¬ spSame 0 vs H Q E := fun vs H Q E h => by
      obtain ⟨x, y, _, h, _⟩ := h
      exact h
    exact ⟨fun vs H Q E h => absurd h (no vs H Q E), fun A outer s H args us vs Q E _ _ _ _ h => absurd h (no vs H Q E)⟩
  | n + 1 => step_law_same T d_law_whole (ok_law_whole d_law_whole.F T) d_law_same (ok_law_same T d_law_whole d_law_same n)

abbrev splain : Stmt := top 2
theorem scplain : FnScope ["row", "told", "start", "stop"] ["row"] (defScope splain) := ⟨rfl, rfl, rfl, by decide +kernel, rfl, by decide +kernel, by decide +kernel⟩
theorem ok_plain {f : Addr} {fd : FuncData} (F : Fun K "plain" "plain" splain f fd) : FnOk P w K mg base CX0 1 f fd ["row"] spPlain := by
  refine F.ok scplain (fun vs H Q E h => ?_) (fun cdv A outer s H vs Q E hr h => ?_)
  · obtain ⟨r, row, rfl, _⟩ := h
    rfl
  obtain ⟨r, row, rfl, ⟨as, hr1, hp⟩, hlen, k⟩ := h
  refine ⟨_, (pss_cons (ps_set (i := 1) scplain.nd rfl (Or.inl rfl) (pe_lst pa_nil))
      (pss_cons (ps_for PassesOwn.never rfl (pi_list (pv 0)) (pg_tup (n := 2) rfl (pgs_cons (pg_name (i := 2) scplain.nd rfl (Or.inl rfl)) (pgs_cons (pg_name (i := 3) scplain.nd rfl (Or.inl rfl)) pgs_nil)))
      (pss_cons (ps_if (pt_cmpR op_eq (pv 2) (pv 3) (nomark _))
      (pss_one ps_continue)
      pss_nil)
      (pss_one (ps_if (PW.pt (pw_and (pt_truth (pv 1) (fun _ => rfl)) (pw_and1 (pt_cmpR op_eq (pe_ix ix_tup (pe_ix ix_list (pv 1) (pe_un un_neg pe_int) (fun _ _ => rfl)) pe_int (fun _ _ => rfl)) (pv 2) (nomark _)))))
      (pss_one (ps_asg (pe_tup (pa_cons (pe_ix ix_tup (pe_ix ix_list (pv 1) (pe_un un_neg pe_int) (fun _ _ => rfl)) pe_int (fun _ _ => rfl)) (pa_cons (pv 3) pa_nil))) (pg_sub (pv 1) (pe_un un_neg pe_int) set_list)))
      (pss_one (ps_expr (pe_bm PySem.F.plainAttrs_list PySem.F.slot_list_append PySem.F.type_list_append mt_append (pv 1) (pa_cons (pe_tup (pa_cons (pv 2) (pa_cons (pv 3) pa_nil))) pa_nil))))))))
      (pss_one (ps_ret (pv 1))))), ?_⟩
  refine ⟨(by show 0 ≤ sizeLine; decide), fun q hq => ?_⟩
  have s0 : Same H (upd H q (.lst [])) := same_new hq _
  refine ⟨_, rfl, r, rfl, ⟨_, SqL.of (s0 _ _ hr1)⟩, for_list (K := K) (a := r) (xs := as.map V.ref) (fun i σ H2 => ∃ (bs : List Addr) (u v : Option V), σ = [some (.ref r), some (.ref q), u, v] ∧ H2 q = some (.lst (bs.map V.ref)) ∧ PairsAt H2 bs ((row.take i).foldl plainStep []) ∧ Same H H2)
    ⟨[], none, none, rfl, upd_same, .nil, s0⟩ (fun i σ H2 _ ⟨_, _, _, _, _, _, s⟩ => SqL.of (s _ _ hr1)) ?_ ?_⟩
  · rintro i x σ H2 hi ⟨bs, u, v, rfl, hq2, hb, s⟩
    rw [List.getElem?_map] at hi
    obtain ⟨a, ea, rfl⟩ := Option.map_eq_some_iff.mp hi
    obtain ⟨⟨st, en⟩, ep, ha⟩ := hp.get ea
    have step := take_fold (f := plainStep) ep
    have bl : bs.length < sizeLine := by
      have z := hb.len
      have z2 := plain_le (row.take i) []
      rw [List.length_take] at z2
      exact million (by simp only [List.length_nil] at z2; omega)
    refine ⟨a, _, rfl, SqT.of (s _ _ ha), rfl, _, _, rfl, _, _, rfl, rfl, ?_⟩
    refine ⟨_, rfl, _, rfl, rfl, _, rfl, ite2 (fun c => ?_) (fun c => ?_)⟩
    · have e : st = en := V.int.inj (of_decide_eq_true c)
      refine ⟨bs, _, _, rfl, hq2, ?_, s⟩
      rw [step, plainStep, if_pos e]
      exact hb
    · have e : ¬ st = en := fun z => c (decide_eq_true (congrArg V.int z))
      rw [plainStep, if_neg e] at step
      rcases List.eq_nil_or_concat ((row.take i).foldl plainStep []) with hn | ⟨rw0, q0, hn⟩
      · rw [hn] at hb step
        have hbs : bs = [] := List.eq_nil_of_length_eq_zero hb.len
        subst hbs
        refine ⟨_, rfl, false, .inl ⟨_, SqL.of hq2, rfl⟩, iteF (iteF ?_)⟩
        refine ⟨_, rfl, .inl ⟨rfl, _, SqL.of hq2⟩, _, rfl, _, rfl, (by show 2 ≤ sizeLine; decide), fun t ht => ⟨q, _, _, rfl, rfl, same_new ht _ _ _ hq2, (by show 0 < sizeLine; decide), ?_⟩⟩
        obtain ⟨g1, g2, g3⟩ := grown (st := st) (en := en) hq s hq2 hb ht
        refine ⟨[] ++ [t], _, _, rfl, g1, ?_, g3⟩
        rw [step, grow_nil]
        exact g2
      · rw [List.concat_eq_append] at hn
        rw [hn] at hb step
        obtain ⟨cs, a0, rfl, hc, ha0⟩ := hb.split
        have hq3 : H2 q = some (.lst (cs.map V.ref ++ [.ref a0])) := by rw [hq2, List.map_append]; rfl
        refine ⟨_, rfl, true, .inl ⟨_, SqL.of hq3, by simp⟩, iteT ?_⟩
        refine ⟨_, rfl, _, rfl, q, _, _, _, rfl, rfl, SqL.of hq3, atI_neg1 _ _, a0, _, _, _, rfl, rfl, SqT.of ha0, at21, _, rfl, rfl, _, rfl, ite2 (fun c2 => ?_) (fun c2 => ?_)⟩
        · have e2 : q0.2 = st := V.int.inj (of_decide_eq_true c2)
          refine ⟨_, rfl, _, rfl, q, _, _, _, rfl, rfl, SqL.of hq3, atI_neg1 _ _, a0, _, _, _, rfl, rfl, SqT.of ha0, at20, _, rfl, (by show 2 ≤ sizeLine; decide), fun t ht => ?_⟩
          refine ⟨_, rfl, _, rfl, q, _, _, cs.length, rfl, rfl, same_new ht _ _ _ hq3, ixLast cs a0, ?_⟩
          obtain ⟨g1, g2, g3⟩ := turned (st := q0.1) (en := en) hq s hq3 hc ht
          refine ⟨cs ++ [t], _, _, rfl, g1, ?_, g3⟩
          rw [step, grow_pos _ e2]
          exact g2
        · have e2 : ¬ q0.2 = st := fun z => c2 (decide_eq_true (congrArg V.int z))
          refine ⟨_, rfl, .inl ⟨rfl, _, SqL.of hq2⟩, _, rfl, _, rfl, (by show 2 ≤ sizeLine; decide), fun t ht => ⟨q, _, _, rfl, rfl, same_new ht _ _ _ hq2, (by rw [List.length_map]; exact bl), ?_⟩⟩
          obtain ⟨g1, g2, g3⟩ := grown (st := st) (en := en) hq s hq2 hb ht
          refine ⟨cs ++ [a0] ++ [t], _, _, rfl, g1, ?_, g3⟩
          rw [step, grow_neg _ e2]
          exact g2
  · rintro σ H2 ⟨bs, u, v, rfl, hq2, hb, s⟩
    refine ⟨_, rfl, k q H2 ⟨bs, hq2, ?_⟩ s hq⟩
    rw [List.length_map, hp.len, List.take_length] at hb
    exact hb

abbrev ssize : Stmt := top 3
theorem scsize : FnScope ["row"] ["row"] (defScope ssize) := ⟨rfl, rfl, rfl, by decide +kernel, rfl, by decide +kernel, by decide +kernel⟩
theorem ok_size {f : Addr} {fd : FuncData} (F : Fun K "size" "size" ssize f fd) (T : Nms mg) : FnOk P w K mg base CX0 1 f fd ["row"] spSize := by
  refine F.ok scsize (fun vs H Q E h => ?_) (fun cdv A outer s H vs Q E hr h => ?_)
  · obtain ⟨n, ns, rfl, _⟩ := h
    rfl
  obtain ⟨r, row, rfl, ⟨as, hr1, hp⟩, hlen, k⟩ := h
  refine ⟨_, (pss_one (ps_ret (pe_callB (call_sum rfl) rfl T.n_sum PyProof.Rows.boot_sum (pa_cons (pe_comp (N := ["start", "stop"]) ⟨rfl, by decide +kernel, by decide +kernel, by decide +kernel⟩ rfl (pi_list (pv 0)) (fun _ _ _ _ _ => (pgC_tup (n := 2) rfl (pgs_cons (pg_name (i := 0) (show List.Nodup (["start", "stop"] : List Str) by decide +kernel) rfl (Or.inl rfl)) (pgs_cons (pg_name (i := 1) (show List.Nodup (["start", "stop"] : List Str) by decide +kernel) rfl (Or.inl rfl)) pgs_nil)))) (fun _ _ _ _ _ => pts_nil) (fun _ _ _ _ _ => (pe_op op_sub (pv 1) (pv 0)))) pa_nil)))), ?_⟩
  refine ⟨_, rfl, r, rfl, ⟨_, SqL.of hr1⟩, fun acc hacc => comp_list (K := K) (a := r) (xs := as.map V.ref) (fun i σ H2 => ∃ u v : Option V, σ = [u, v] ∧ H2 acc = some (.lst (((row.take i).map fun p => p.2 - p.1).map V.int)) ∧ Same H H2)
    ⟨none, none, rfl, upd_same, same_new hacc _⟩ (fun i σ H2 _ ⟨_, _, _, _, s⟩ => SqL.of (s _ _ hr1)) ?_ ?_⟩
  · rintro i x σ H2 hi ⟨u, v, rfl, ha, s⟩
    rw [List.getElem?_map] at hi
    obtain ⟨a, ea, rfl⟩ := Option.map_eq_some_iff.mp hi
    obtain ⟨⟨st, en⟩, ep, hpa⟩ := hp.get ea
    refine ⟨a, _, rfl, SqT.of (s _ _ hpa), rfl, _, _, rfl, _, _, rfl, rfl, yes (iteT ?_)⟩
    refine ⟨_, rfl, _, rfl, _, _, rfl, rfl, _, ha, ?_, _, _, rfl, ?_, keep_of hacc s (keep_upd acc _ _)⟩
    · rw [List.length_map, List.length_map, List.length_take]
      exact million (by omega)
    · rw [upd_same, take_snoc ep, List.map_append, List.map_append]
      rfl
  · rintro σ H2 ⟨u, v, rfl, ha, s⟩
    rw [List.length_map, hp.len, List.take_length] at ha
    exact ⟨acc, _, rfl, SqL.of ha, k H2 s⟩

abbrev sspread : Stmt := top 4
theorem scspread : FnScope ["row", "told", "start", "stop"] ["row"] (defScope sspread) := ⟨rfl, rfl, rfl, by decide +kernel, rfl, by decide +kernel, by decide +kernel⟩
theorem ok_spread {f fP : Addr} {fd fdP : FuncData} (F : Fun K "spread" "spread" sspread f fd) (T : Nms mg) (dplain : DefAt K mg "plain" splain ["row"] fP fdP) : FnOk P w K mg base CX0 2 f fd ["row"] spSpread := by
  have gplain : FnOk P w K mg base CX0 1 fP fdP ["row"] spPlain := ok_plain dplain.F
  refine F.ok scspread (fun vs H Q E h => ?_) (fun cdv A outer s H vs Q E hr h => ?_)
  · obtain ⟨r, row, rfl, _⟩ := h
    rfl
  obtain ⟨r, row, rfl, R, hlen, ok, k⟩ := h
  refine ⟨_, (pss_cons (ps_set (i := 1) scspread.nd rfl (Or.inl rfl) (pe_lst pa_nil))
      (pss_cons (ps_for PassesOwn.never rfl (pi_list (pe_callB call_sortedP rfl T.n_sorted PyProof.Rows.boot_sorted (pa_cons (pe_def dplain gplain hr (pa_cons (pv 0) pa_nil)) pa_nil))) (pg_tup (n := 2) rfl (pgs_cons (pg_name (i := 2) scspread.nd rfl (Or.inl rfl)) (pgs_cons (pg_name (i := 3) scspread.nd rfl (Or.inl rfl)) pgs_nil)))
      (pss_one (ps_if (PW.pt (pw_and (pt_truth (pv 1) (fun _ => rfl)) (pw_and1 (pt_cmpR op_le (pv 2) (pe_ix ix_tup (pe_ix ix_list (pv 1) (pe_un un_neg pe_int) (fun _ _ => rfl)) pe_int (fun _ _ => rfl)) (nomark _)))))
      (pss_one (ps_asg (pe_tup (pa_cons (pe_ix ix_tup (pe_ix ix_list (pv 1) (pe_un un_neg pe_int) (fun _ _ => rfl)) pe_int (fun _ _ => rfl)) (pa_cons (pe_callB (call_max2 rfl) rfl T.n_max PyProof.Rows.boot_max (pa_cons (pe_ix ix_tup (pe_ix ix_list (pv 1) (pe_un un_neg pe_int) (fun _ _ => rfl)) pe_int (fun _ _ => rfl)) (pa_cons (pv 3) pa_nil))) pa_nil))) (pg_sub (pv 1) (pe_un un_neg pe_int) set_list)))
      (pss_one (ps_expr (pe_bm PySem.F.plainAttrs_list PySem.F.slot_list_append PySem.F.type_list_append mt_append (pv 1) (pa_cons (pe_tup (pa_cons (pv 2) (pa_cons (pv 3) pa_nil))) pa_nil)))))))
      (pss_one (ps_ret (pv 1))))), ?_⟩
  refine ⟨(by show 0 ≤ sizeLine; decide), fun q hq => ?_⟩
  have s0 : Same H (upd H q (.lst [])) := same_new hq _
  refine ⟨_, rfl, r, row, rfl, R.same s0, by omega, fun q1 H1 R1 s1 hq1 => ?_⟩
  obtain ⟨as1, h1, p1⟩ := R1
  have pl := plainF_le row
  refine ⟨q1, as1, plainF row, rfl, h1, p1, by omega, fun l bs L hl perm srt pL => ?_⟩
  have s2 : Same H1 (upd H1 l (.lst (bs.map V.ref))) := same_new hl _
  have pL2 := pL.same s2
  have s02 := s0.trans (s1.trans s2)
  have hq2 := (s1.trans s2) _ _ (upd_same (H := H) (a := q) (o := .lst []))
  have plt : ∀ p ∈ plainF row, p.1 < p.2 := fun p hp => by
    have z : ∀ (r t : Row), Ok r → (∀ p ∈ t, p.1 < p.2) → ∀ p ∈ r.foldl plainStep t, p.1 < p.2 := by
      intro r
      induction r with
      | nil => intro t _ g; exact g
      | cons a r ih =>
        intro t h g
        rw [List.foldl_cons]
        refine ih _ (fun b hb => h b (List.mem_cons_of_mem _ hb)) ?_
        have ha := h a (by simp)
        unfold plainStep
        by_cases c : a.1 = a.2
        · rw [if_pos c]; exact g
        · rw [if_neg c]
          rcases List.eq_nil_or_concat t with rfl | ⟨t', b, rfl⟩
          · rw [grow_nil]
            intro p hp
            rw [List.mem_singleton.mp hp]
            show a.1 < a.2
            omega
          · rw [List.concat_eq_append] at g ⊢
            have gb := g b (by simp)
            by_cases d : b.2 = a.1
            · rw [grow_pos _ d]
              intro p hp
              rcases List.mem_append.mp hp with e | e
              · exact g p (List.mem_append_left _ e)
              · rw [List.mem_singleton.mp e]; show b.1 < a.2; omega
            · rw [grow_neg _ d]
              intro p hp
              rcases List.mem_append.mp hp with e | e
              · exact g p e
              · rw [List.mem_singleton.mp e]; show a.1 < a.2; omega
    exact z row [] ok (fun p hp => by cases hp) p hp
  obtain ⟨ris, mem⟩ := sp_sorted perm srt plt
  have nlq : l ≠ q := (ne_of_none (s1 _ _ upd_same) hl).symm
  have Llen := perm.length_eq
  refine ⟨l, rfl, ⟨_, SqL.of upd_same⟩, for_list (K := K) (a := l) (xs := bs.map V.ref) (fun i σ H2 => ∃ (cs : List Addr) (u v : Option V), σ = [some (.ref r), some (.ref q), u, v] ∧ H2 q = some (.lst (cs.map V.ref)) ∧ PairsAt H2 cs ((L.take i).foldl spStep []) ∧ Keep q (upd H1 l (.lst (bs.map V.ref))) H2)
    ⟨[], none, none, rfl, hq2, .nil, Keep.refl _ _⟩ (fun i σ H2 _ ⟨_, _, _, _, _, _, k2⟩ => SqL.of (k2 _ _ upd_same nlq)) ?_ ?_⟩
  · rintro i x σ H2 hi ⟨cs, u, v, rfl, hq3, hb, k2⟩
    rw [List.getElem?_map] at hi
    obtain ⟨a, ea, rfl⟩ := Option.map_eq_some_iff.mp hi
    obtain ⟨⟨st, en⟩, ep, ha0⟩ := pL2.get ea
    have ha : PairAt H2 a (st, en) := k2 _ _ ha0 (fun z => by
      have w := ha0
      unfold PairAt at w
      rw [z, hq2] at w
      cases w)
    have step := take_fold (f := spStep) ep
    have bl : cs.length < sizeLine := by
      have z := hb.len
      have z2 := sp_len (L.take i) []
      rw [List.length_take, List.length_nil] at z2
      exact million (by omega)
    refine ⟨a, _, rfl, SqT.of ha, rfl, _, _, rfl, _, _, rfl, rfl, ?_⟩
    have add : spStep ((L.take i).foldl spStep []) (st, en) = (L.take i).foldl spStep [] ++ [(st, en)] → ∀ t, H2 t = none → ∃ (cs' : List Addr) (u' v' : Option V), [some (V.ref r), some (.ref q), some (.int st), some (.int en)] = [some (.ref r), some (.ref q), u', v'] ∧ (upd (upd H2 t (.tup [.int st, .int en])) q (.lst (cs.map V.ref ++ [.ref t]))) q = some (.lst (cs'.map V.ref)) ∧ PairsAt (upd (upd H2 t (.tup [.int st, .int en])) q (.lst (cs.map V.ref ++ [.ref t]))) cs' ((L.take (i + 1)).foldl spStep []) ∧ Keep q (upd H1 l (.lst (bs.map V.ref))) (upd (upd H2 t (.tup [.int st, .int en])) q (.lst (cs.map V.ref ++ [.ref t]))) := fun e t ht => by
      have n1 : Same H2 (upd H2 t (.tup [.int st, .int en])) := same_new ht _
      have ntq : t ≠ q := (ne_of_none hq3 ht).symm
      refine ⟨cs ++ [t], _, _, rfl, by rw [upd_same, List.map_append]; rfl, ?_, fun b o eb nb => keep_upd q _ _ b o (n1 _ _ (k2 b o eb nb)) nb⟩
      rw [step, e]
      refine PairsAt.snoc ((hb.same n1).keep (n1 _ _ hq3) (keep_upd q _ _)) ?_
      show upd _ _ _ t = _
      rw [upd_ne ntq, upd_same]
    rcases List.eq_nil_or_concat ((L.take i).foldl spStep []) with hn | ⟨rw0, q0, hn⟩
    · have hbs : cs = [] := by rw [hn] at hb; exact List.eq_nil_of_length_eq_zero hb.len
      subst hbs
      refine ⟨_, rfl, false, .inl ⟨_, SqL.of hq3, rfl⟩, iteF (iteF ?_)⟩
      exact ⟨_, rfl, .inl ⟨rfl, _, SqL.of hq3⟩, _, rfl, _, rfl, (by show 2 ≤ sizeLine; decide), fun t ht => ⟨q, _, _, rfl, rfl, same_new ht _ _ _ hq3, (by show 0 < sizeLine; decide), add (by rw [hn]; rfl) t ht⟩⟩
    · rw [List.concat_eq_append] at hn
      have hb' := hb
      rw [hn] at hb'
      obtain ⟨ds, a0, rfl, hc, ha1⟩ := hb'.split
      have hq4 : H2 q = some (.lst (ds.map V.ref ++ [.ref a0])) := by rw [hq3, List.map_append]; rfl
      refine ⟨_, rfl, true, .inl ⟨_, SqL.of hq4, by simp⟩, iteT ?_⟩
      refine ⟨_, rfl, _, rfl, _, rfl, q, _, _, _, rfl, rfl, SqL.of hq4, atI_neg1 _ _, a0, _, _, _, rfl, rfl, SqT.of ha1, at21, _, _, rfl, rfl, _, rfl, ite2 (fun c2 => ?_) (fun c2 => ?_)⟩
      · have c : st ≤ q0.2 := of_decide_eq_true c2
        refine ⟨_, rfl, _, rfl, q, _, _, _, rfl, rfl, SqL.of hq4, atI_neg1 _ _, a0, _, _, _, rfl, rfl, SqT.of ha1, at20, _, rfl, _, rfl, q, _, _, _, rfl, rfl, SqL.of hq4, atI_neg1 _ _, a0, _, _, _, rfl, rfl, SqT.of ha1, at21, _, rfl, _, _, rfl, (by show 2 ≤ sizeLine; decide), fun t ht => ?_⟩
        refine ⟨_, rfl, _, rfl, q, _, _, ds.length, rfl, rfl, same_new ht _ _ _ hq4, ixLast ds a0, ?_⟩
        have n1 : Same H2 (upd H2 t (.tup [.int q0.1, .int (if en > q0.2 then en else q0.2)])) := same_new ht _
        have ntq : t ≠ q := (ne_of_none hq4 ht).symm
        have es : (ds.map V.ref ++ [V.ref a0]).set ds.length (.ref t) = (ds ++ [t]).map V.ref := by
          have z := set_last (ds.map V.ref) (V.ref a0) (V.ref t)
          rw [List.length_map] at z
          rw [z, List.map_append]
          rfl
        rw [es]
        refine ⟨ds ++ [t], _, _, rfl, upd_same, ?_, fun b o eb nb => keep_upd q _ _ b o (n1 _ _ (k2 b o eb nb)) nb⟩
        rw [step, hn, spStep_pos _ c]
        refine PairsAt.snoc ((hc.same n1).keep (n1 _ _ hq4) (keep_upd q _ _)) ?_
        show upd _ _ _ t = _
        rw [upd_ne ntq, upd_same]
      · have c : ¬ st ≤ q0.2 := fun z => c2 (decide_eq_true z)
        exact ⟨_, rfl, .inl ⟨rfl, _, SqL.of hq3⟩, _, rfl, _, rfl, (by show 2 ≤ sizeLine; decide), fun t ht => ⟨q, _, _, rfl, rfl, same_new ht _ _ _ hq3, (by rw [List.length_map]; exact bl), add (by rw [hn, spStep_neg _ c]) t ht⟩⟩
  · rintro σ H2 ⟨cs, u, v, rfl, hq3, hb, k2⟩
    rw [List.length_map, pL2.len, List.take_length] at hb
    have sl := sp_len L []
    rw [List.length_nil] at sl
    refine ⟨_, rfl, k q _ H2 ⟨cs, hq3, hb⟩ ris (fun x => by rw [mem, In_plain ok]) (by omega) (fun b o e => k2 b o (s02 _ _ e) (ne_of_none e hq)) hq⟩

abbrev smeets : Stmt := top 5
theorem scmeets : FnScope ["one", "other"] ["one", "other"] (defScope smeets) := ⟨rfl, rfl, rfl, by decide +kernel, rfl, by decide +kernel, by decide +kernel⟩
theorem ok_meets {f fP fS fZ : Addr} {fd fdP fdS fdZ : FuncData} (F : Fun K "meets" "meets" smeets f fd) (T : Nms mg) (dplain : DefAt K mg "plain" splain ["row"] fP fdP) (dspread : DefAt K mg "spread" sspread ["row"] fS fdS) (dsize : DefAt K mg "size" ssize ["row"] fZ fdZ) : FnOk P w K mg base CX0 3 f fd ["one", "other"] spMeets := by
  have gspread : FnOk P w K mg base CX0 2 fS fdS ["row"] spSpread := ok_spread dspread.F T dplain
  have gsize : FnOk P w K mg base CX0 1 fZ fdZ ["row"] spSize := ok_size dsize.F T
  refine F.ok scmeets (fun vs H Q E h => ?_) (fun cdv A outer s H vs Q E hr h => ?_)
  · obtain ⟨r, q, row, other, rfl, _⟩ := h
    rfl
  obtain ⟨r, q, row, other, rfl, R, O, hlen, ok1, ok2, k⟩ := h
  refine ⟨_, (pss_one (ps_ret (pe_cmpR op_lt (pe_def dsize gsize hr (pa_cons (pe_def dspread gspread hr (pa_cons (pe_op op_cat (pv 0) (pv 1)) pa_nil)) pa_nil)) (pe_op op_add (pe_def dsize gsize hr (pa_cons (pe_def dspread gspread hr (pa_cons (pv 0) pa_nil)) pa_nil)) (pe_def dsize gsize hr (pa_cons (pe_def dspread gspread hr (pa_cons (pv 1) pa_nil)) pa_nil))) (nomark _)))), ?_⟩
  obtain ⟨as, h1, p1⟩ := id R
  obtain ⟨bs, h2, p2⟩ := id O
  have n1 := p1.len
  have n2 := p2.len
  refine ⟨_, rfl, _, rfl, r, q, _, _, rfl, rfl, h1, h2, (by rw [List.length_map, List.length_map]; exact Nat.le_of_lt (million (by omega))), fun m hm => ?_⟩
  have s1 : Same H (upd H m (.lst (as.map V.ref ++ bs.map V.ref))) := same_new hm _
  refine ⟨m, row ++ other, rfl, ⟨as ++ bs, by rw [upd_same, List.map_append], PairsAt.append (p1.same s1) (p2.same s1)⟩, by rw [List.length_append]; exact hlen, fun p hp => (List.mem_append.mp hp).elim (ok1 p) (ok2 p), fun u U H2 RU rU mU lU s2 _ => ?_⟩
  rw [List.length_append] at lU
  refine ⟨u, U, rfl, RU, by omega, fun H3 s3 => ?_⟩
  have s13 := s1.trans (s2.trans s3)
  refine ⟨_, rfl, r, row, rfl, R.same s13, by omega, ok1, fun a1 A1 H4 RA rA mA lA s4 _ => ⟨a1, A1, rfl, RA, by omega, fun H5 s5 => ?_⟩⟩
  refine ⟨_, rfl, q, other, rfl, O.same (s13.trans (s4.trans s5)), by omega, ok2, fun b1 B1 H6 RB rB mB lB s6 _ => ⟨b1, B1, rfl, RB, by omega, fun H7 s7 => ?_⟩⟩
  refine ⟨_, _, rfl, rfl, _, _, rfl, rfl, k _ H7 ?_ (s13.trans (s4.trans (s5.trans (s6.trans s7))))⟩
  rw [decide_eq_true_iff]
  have z := meets_iff rU rA rB fun x => by rw [mU, mA, mB, In_append]
  refine z.trans ⟨fun ⟨x, a, b⟩ => ⟨x, (mA x).mp a, (mB x).mp b⟩, fun ⟨x, a, b⟩ => ⟨x, (mA x).mpr a, (mB x).mpr b⟩⟩

abbrev sfirst_reaching : Stmt := top 6
theorem scfirst_reaching : FnScope ["holes", "start", "low", "high", "middle"] ["holes", "start"] (defScope sfirst_reaching) := ⟨rfl, rfl, rfl, by decide +kernel, rfl, by decide +kernel, by decide +kernel⟩
theorem ris_stop {holes : Row} (h : Ris holes) {i j : Nat} {p q : Int × Int} (hp : holes[i]? = some p) (hq : holes[j]? = some q) (ij : i ≤ j) : p.2 ≤ q.2 := by
  by_cases c : i = j
  · subst c
    rw [hp] at hq
    cases hq
    exact Int.le_refl _
  · obtain ⟨hi, ei⟩ := List.getElem?_eq_some_iff.mp hp
    obtain ⟨hj, ej⟩ := List.getElem?_eq_some_iff.mp hq
    have := List.pairwise_iff_getElem.mp h.1 i j hi hj (by omega)
    rw [ei, ej] at this
    have := h.2 q (List.mem_of_getElem? hq)
    omega
theorem ok_first_reaching {f : Addr} {fd : FuncData} (F : Fun K "first_reaching" "first_reaching" sfirst_reaching f fd) (T : Nms mg) : FnOk P w K mg base CX0 1 f fd ["holes", "start"] spFirst := by
  refine F.ok scfirst_reaching (fun vs H Q E h => ?_) (fun cdv A outer s H vs Q E hr h => ?_)
  · obtain ⟨r, holes, x, rfl, _⟩ := h
    rfl
  obtain ⟨r, holes, x, rfl, ⟨as, h1, p1⟩, ris, k⟩ := h
  have n1 := p1.len
  refine ⟨_, (pss_cons (ps_set (i := 2) scfirst_reaching.nd rfl (Or.inl rfl) pe_int)
      (pss_cons (ps_set (i := 3) scfirst_reaching.nd rfl (Or.inl rfl) (pe_callB call_len_seq rfl T.n_len PySem.boot_len (pa_cons (pv 0) pa_nil)))
      (pss_cons (ps_while PassesOwn.never (pt_cmpR op_lt (pv 2) (pv 3) (nomark _)) (pss_cons (ps_set (i := 4) scfirst_reaching.nd rfl (Or.inl rfl) (pe_op op_fdivB (pe_op op_add (pv 2) (pv 3)) pe_int))
      (pss_one (ps_if (pt_cmpR op_gt (pe_ix ix_tup (pe_ix ix_list (pv 0) (pv 4) (fun _ _ => rfl)) pe_int (fun _ _ => rfl)) (pv 1) (nomark _))
      (pss_one (ps_set (i := 3) scfirst_reaching.nd rfl (Or.inl rfl) (pv 4)))
      (pss_one (ps_set (i := 2) scfirst_reaching.nd rfl (Or.inl rfl) (pe_op op_add (pv 4) pe_int)))))))
      (pss_one (ps_ret (pv 2)))))), ?_⟩
  refine ⟨_, rfl, r, _, rfl, .inl (SqL.of h1), ?_⟩
  rw [List.length_map, n1]
  refine ⟨fun m σ H2 => ∃ (lo hi : Nat) (u : Option V), σ = [some (.ref r), some (.int x), some (.int lo), some (.int hi), u] ∧ H2 = H ∧ m = hi - lo ∧ lo ≤ hi ∧ hi ≤ holes.length ∧ (∀ i p, holes[i]? = some p → i < lo → p.2 ≤ x) ∧ (∀ i p, holes[i]? = some p → hi ≤ i → x < p.2), ⟨_, 0, holes.length, none, rfl, rfl, rfl, by omega, Nat.le_refl _, fun i p _ h => by omega, fun i p h1 h2 => by rw [List.getElem?_eq_none h2] at h1; cases h1⟩, ?_⟩
  rintro m σ H2 ⟨lo, hi, u, rfl, rfl, rfl, lh, hl, b1, b2⟩
  refine ⟨_, rfl, _, rfl, _, _, rfl, rfl, _, rfl, ite2 (fun c => ?_) (fun c => ?_)⟩
  · have c' : (lo : Int) < hi := of_decide_eq_true c
    refine ⟨fun σ' H' => ∃ m', m' < hi - lo ∧ ∃ (lo hi : Nat) (u : Option V), σ' = [some (.ref r), some (.int x), some (.int lo), some (.int hi), u] ∧ H' = H2 ∧ m' = hi - lo ∧ lo ≤ hi ∧ hi ≤ holes.length ∧ (∀ i p, holes[i]? = some p → i < lo → p.2 ≤ x) ∧ (∀ i p, holes[i]? = some p → hi ≤ i → x < p.2), fun σ' H' z => z, ?_⟩
    have em : ((lo : Int) + hi) / 2 = ((lo + hi) / 2 : Nat) := by omega
    refine ⟨_, rfl, _, rfl, _, _, rfl, rfl, _, _, rfl, rfl, ⟨by decide, by decide⟩, ?_⟩
    obtain ⟨mid, hm⟩ : ∃ mid, mid = (lo + hi) / 2 := ⟨_, rfl⟩
    have eP : holes[mid]? = some holes[mid] := List.getElem?_eq_getElem (by omega)
    have eA : as[mid]? = some as[mid] := List.getElem?_eq_getElem (by omega)
    obtain ⟨pp, epp, hpp⟩ := p1.get eA
    rw [eP] at epp
    cases epp
    have ix : atI (as.map V.ref) (((lo : Int) + hi) / 2) = some (.ref as[mid]) := by
      rw [em, ← hm]
      exact atI_nat (by rw [List.getElem?_map, eA]; rfl)
    refine ⟨_, rfl, _, rfl, r, _, _, _, rfl, rfl, SqL.of h1, ix, as[mid], _, _, _, rfl, rfl, SqT.of hpp, at21, _, rfl, _, _, rfl, rfl, _, rfl, ite2 (fun c2 => ?_) (fun c2 => ?_)⟩
    · have d : x < holes[mid].2 := of_decide_eq_true c2
      refine ⟨_, rfl, mid - lo, by omega, lo, mid, some (.int (((lo : Int) + hi) / 2)), ?_, rfl, rfl, by omega, by omega, b1, fun i p hp hi' => ?_⟩
      · rw [hm, ← em]; rfl
      · have := ris_stop ris eP hp hi'
        omega
    · have d : ¬ x < holes[mid].2 := fun z => c2 (decide_eq_true z)
      refine ⟨_, rfl, _, _, rfl, rfl, hi - (mid + 1), by omega, mid + 1, hi, some (.int (((lo : Int) + hi) / 2)), ?_, rfl, rfl, by omega, hl, fun i p hp hi' => ?_, b2⟩
      · have : ((lo : Int) + hi) / 2 + 1 = ((mid + 1 : Nat) : Int) := by omega
        rw [← this]; rfl
      · have := ris_stop ris hp eP (by omega)
        omega
  · have c' : ¬ (lo : Int) < hi := fun z => c (decide_eq_true z)
    have e : hi = lo := by omega
    subst e
    exact ⟨_, rfl, k hi ⟨hl, b1, b2⟩⟩

abbrev sleft_over : Stmt := top 7
theorem scleft_over : FnScope ["start", "stop", "holes", "told", "left", "hole"] ["start", "stop", "holes"] (defScope sleft_over) := ⟨rfl, rfl, rfl, by decide +kernel, rfl, by decide +kernel, by decide +kernel⟩
theorem ok_left_over {f fF : Addr} {fd fdF : FuncData} (F : Fun K "left_over" "left_over" sleft_over f fd) (T : Nms mg) (dfirst_reaching : DefAt K mg "first_reaching" sfirst_reaching ["holes", "start"] fF fdF) : FnOk P w K mg base CX0 2 f fd ["start", "stop", "holes"] spLeft := by
  have gfirst_reaching : FnOk P w K mg base CX0 1 fF fdF ["holes", "start"] spFirst := ok_first_reaching dfirst_reaching.F T
  refine F.ok scleft_over (fun vs H Q E h => ?_) (fun cdv A outer s H vs Q E hr h => ?_)
  · obtain ⟨r, holes, a, b, rfl, _⟩ := h
    rfl
  obtain ⟨r, holes, a, b, rfl, R, ris, hlen, ab, k⟩ := h
  refine ⟨_, (pss_cons (ps_set (i := 3) scleft_over.nd rfl (Or.inl rfl) (pe_lst pa_nil))
      (pss_cons (ps_set (i := 4) scleft_over.nd rfl (Or.inl rfl) (pv 0))
      (pss_cons (ps_set (i := 5) scleft_over.nd rfl (Or.inl rfl) (pe_def dfirst_reaching gfirst_reaching hr (pa_cons (pv 2) (pa_cons (pv 0) pa_nil))))
      (pss_cons (ps_while PassesOwn.never (PW.pt (pw_and (pt_cmpR op_lt (pv 5) (pe_callB call_len_seq rfl T.n_len PySem.boot_len (pa_cons (pv 2) pa_nil)) (nomark _)) (pw_and1 (pt_cmpR op_lt (pe_ix ix_tup (pe_ix ix_list (pv 2) (pv 5) (fun _ _ => rfl)) pe_int (fun _ _ => rfl)) (pv 1) (nomark _))))) (pss_cons (ps_expr (pe_bm PySem.F.plainAttrs_list PySem.F.slot_list_append PySem.F.type_list_append mt_append (pv 3) (pa_cons (pe_tup (pa_cons (pv 4) (pa_cons (pe_callB (call_max2 rfl) rfl T.n_max PyProof.Rows.boot_max (pa_cons (pv 4) (pa_cons (pe_ix ix_tup (pe_ix ix_list (pv 2) (pv 5) (fun _ _ => rfl)) pe_int (fun _ _ => rfl)) pa_nil))) pa_nil))) pa_nil)))
      (pss_cons (ps_set (i := 4) scleft_over.nd rfl (Or.inl rfl) (pe_callB (call_min2 rfl) rfl T.n_min PyProof.Rows.boot_min (pa_cons (pe_ix ix_tup (pe_ix ix_list (pv 2) (pv 5) (fun _ _ => rfl)) pe_int (fun _ _ => rfl)) (pa_cons (pv 1) pa_nil))))
      (pss_one (ps_aug (i := 5) scleft_over.nd rfl (Or.inl rfl) pe_int ip_add)))))
      (pss_cons (ps_expr (pe_bm PySem.F.plainAttrs_list PySem.F.slot_list_append PySem.F.type_list_append mt_append (pv 3) (pa_cons (pe_tup (pa_cons (pv 4) (pa_cons (pv 1) pa_nil))) pa_nil)))
      (pss_one (ps_ret (pv 3)))))))), ?_⟩
  refine ⟨(by show 0 ≤ sizeLine; decide), fun q hq => ?_⟩
  have s0 : Same H (upd H q (.lst [])) := same_new hq _
  refine ⟨_, rfl, _, rfl, _, rfl, r, holes, a, rfl, R.same s0, ris, fun n fn => ?_⟩
  obtain ⟨as, h1, p1⟩ := id R
  have n1 := p1.len
  obtain ⟨d1, d2⟩ := fn.drop
  have fnl := fn.1
  obtain ⟨o1, o2, o3⟩ := lo_ok b (holes.drop n) a ab d1 (ris.drop n)
  have ol := lo_len b (holes.drop n) a
  rw [List.length_drop] at ol
  have res : spell (lo b a (holes.drop n)) = outOf holes (span (a, b)) := by
    rw [o2]
    refine outOf_congr fun x hx => (d2 x ?_).symm
    have := (mem_span.mp hx).1
    simpa using this
  refine ⟨fun m σ H2 => ∃ (i : Nat) (l : Int) (ts : List Addr) (told : Row), σ = [some (.int a), some (.int b), some (.ref r), some (.ref q), some (.int l), some (.int i)] ∧ H2 q = some (.lst (ts.map V.ref)) ∧ PairsAt H2 ts told ∧ told ++ lo b l (holes.drop i) = lo b a (holes.drop n) ∧ n ≤ i ∧ i ≤ holes.length ∧ m = holes.length - i ∧ Same H H2, ⟨_, n, a, [], [], rfl, upd_same, .nil, rfl, Nat.le_refl _, fnl, rfl, s0⟩, ?_⟩
  rintro m σ H2 ⟨i, l, ts, told, rfl, hq2, hb, eq, ni, il, rfl, s2⟩
  have tl := hb.len
  have el := congrArg List.length eq
  rw [List.length_append] at el
  have h12 := s2 _ _ h1
  refine ⟨_, rfl, _, rfl, r, _, rfl, .inl (SqL.of h12), _, _, rfl, rfl, _, rfl, ?_⟩
  rw [List.length_map, n1]
  refine if_andW (p := (i : Int) < holes.length) (q := (holes.getD i (0, 0)).1 < b) (fun pi z => ?_) (fun c => ?_) (fun c => ?_)
  · have li : i < holes.length := by omega
    have eP : holes[i]? = some holes[i] := List.getElem?_eq_getElem li
    have eA : as[i]? = some as[i] := List.getElem?_eq_getElem (by omega)
    obtain ⟨pp, epp, hpp⟩ := p1.get eA
    rw [eP] at epp
    cases epp
    have gd : holes.getD i (0, 0) = holes[i] := by rw [List.getD_eq_getElem?_getD, eP]; rfl
    rw [gd] at z
    exact ⟨_, rfl, _, rfl, r, _, _, _, rfl, rfl, SqL.of h12, atI_nat (by rw [List.getElem?_map, eA]; rfl), as[i], _, _, _, rfl, rfl, SqT.of (s2 _ _ hpp), at20, _, rfl, _, _, rfl, rfl, _, rfl, z⟩
  · obtain ⟨pi, c2⟩ := c
    have li : i < holes.length := by omega
    have eP : holes[i]? = some holes[i] := List.getElem?_eq_getElem li
    have eA : as[i]? = some as[i] := List.getElem?_eq_getElem (by omega)
    obtain ⟨pp, epp, hpp⟩ := p1.get eA
    rw [eP] at epp
    cases epp
    have gd : holes.getD i (0, 0) = holes[i] := by rw [List.getD_eq_getElem?_getD, eP]; rfl
    rw [gd] at c2
    have dr : holes.drop i = holes[i] :: holes.drop (i + 1) := List.drop_eq_getElem_cons li
    have ix : atI (as.map V.ref) (i : Int) = some (.ref as[i]) := atI_nat (by rw [List.getElem?_map, eA]; rfl)
    have eq2 : told ++ [(l, if holes[i].1 > l then holes[i].1 else l)] ++ lo b (if b < holes[i].2 then b else holes[i].2) (holes.drop (i + 1)) = lo b a (holes.drop n) := by
      rw [← eq, dr, lo, if_pos c2, List.append_assoc]
      rfl
    refine ⟨fun σ' H' => ∃ m', m' < holes.length - i ∧ ∃ (i : Nat) (l : Int) (ts : List Addr) (told : Row), σ' = [some (.int a), some (.int b), some (.ref r), some (.ref q), some (.int l), some (.int i)] ∧ H' q = some (.lst (ts.map V.ref)) ∧ PairsAt H' ts told ∧ told ++ lo b l (holes.drop i) = lo b a (holes.drop n) ∧ n ≤ i ∧ i ≤ holes.length ∧ m' = holes.length - i ∧ Same H H', fun σ' H' z => z, ?_⟩
    refine ⟨_, rfl, .inl ⟨rfl, _, SqL.of hq2⟩, _, rfl, _, rfl, _, rfl, _, rfl, r, _, _, _, rfl, rfl, SqL.of h12, ix, as[i], _, _, _, rfl, rfl, SqT.of (s2 _ _ hpp), at20, _, _, rfl, (by show 2 ≤ sizeLine; decide), fun t ht => ⟨q, _, _, rfl, rfl, same_new ht _ _ _ hq2, (by rw [List.length_map]; exact million (by omega)), ?_⟩⟩
    obtain ⟨g1, g2, g3⟩ := grown (st := l) (en := if holes[i].1 > l then holes[i].1 else l) hq s2 hq2 hb ht
    generalize upd (upd H2 t (.tup [.int l, .int (if holes[i].1 > l then holes[i].1 else l)])) q (.lst (ts.map V.ref ++ [.ref t])) = H3 at g1 g2 g3
    refine ⟨_, rfl, _, rfl, r, _, _, _, rfl, rfl, SqL.of (g3 _ _ h1), ix, as[i], _, _, _, rfl, rfl, SqT.of (g3 _ _ hpp), at21, _, rfl, _, _, rfl, ?_⟩
    refine ⟨_, rfl, _, _, rfl, rfl, holes.length - (i + 1), by omega, i + 1, _, ts ++ [t], _, rfl, g1, g2, eq2, by omega, by omega, rfl, g3⟩
  · have last : lo b l (holes.drop i) = [(l, b)] := by
      by_cases li : i < holes.length
      · have dr : holes.drop i = holes[i] :: holes.drop (i + 1) := List.drop_eq_getElem_cons li
        have gd : holes.getD i (0, 0) = holes[i] := by rw [List.getD_eq_getElem?_getD, List.getElem?_eq_getElem li]; rfl
        rw [dr, lo, if_neg (fun z => c ⟨by omega, by rw [gd]; exact z⟩)]
      · rw [List.drop_of_length_le (by omega)]
        rfl
    rw [last] at eq
    refine ⟨_, rfl, .inl ⟨rfl, _, SqL.of hq2⟩, _, rfl, _, rfl, (by show 2 ≤ sizeLine; decide), fun t ht => ⟨q, _, _, rfl, rfl, same_new ht _ _ _ hq2, (by rw [List.length_map]; exact million (by omega)), ?_⟩⟩
    obtain ⟨g1, g2, g3⟩ := grown (st := l) (en := b) hq s2 hq2 hb ht
    rw [eq] at g2
    exact ⟨_, rfl, k q _ _ ⟨_, g1, g2⟩ o1 res o3 (by omega) g3 hq⟩

abbrev swithout : Stmt := top 8
theorem scwithout : FnScope ["row", "other", "holes"] ["row", "other"] (defScope swithout) := ⟨rfl, rfl, rfl, by decide +kernel, rfl, by decide +kernel, by decide +kernel⟩
theorem ok_without {f fP fS fF fL : Addr} {fd fdP fdS fdF fdL : FuncData} (F : Fun K "without" "without" swithout f fd) (T : Nms mg) (dplain : DefAt K mg "plain" splain ["row"] fP fdP) (dspread : DefAt K mg "spread" sspread ["row"] fS fdS) (dfirst_reaching : DefAt K mg "first_reaching" sfirst_reaching ["holes", "start"] fF fdF) (dleft_over : DefAt K mg "left_over" sleft_over ["start", "stop", "holes"] fL fdL) : FnOk P w K mg base CX0 3 f fd ["row", "other"] spWithout := by
  have gplain : FnOk P w K mg base CX0 1 fP fdP ["row"] spPlain := ok_plain dplain.F
  have gspread : FnOk P w K mg base CX0 2 fS fdS ["row"] spSpread := ok_spread dspread.F T dplain
  have gleft_over : FnOk P w K mg base CX0 2 fL fdL ["start", "stop", "holes"] spLeft := ok_left_over dleft_over.F T dfirst_reaching
  refine F.ok scwithout (fun vs H Q E h => ?_) (fun cdv A outer s H vs Q E hr h => ?_)
  · obtain ⟨r, o, row, other, rfl, _⟩ := h
    rfl
  obtain ⟨r, o, row, other, rfl, R, O, hl1, hl2, ok1, ok2, k⟩ := h
  refine ⟨_, (pss_cons (ps_set (i := 2) scwithout.nd rfl (Or.inr rfl) (pe_def dspread gspread hr (pa_cons (pv 1) pa_nil)))
      (pss_one (ps_ret (pe_def dplain gplain hr (pa_cons (pe_compG2 (N := ["start", "stop", "piece", "holes"]) (compG (sc := defScope swithout) (NX := ["row", "other", "holes"]) (jx := [none, none, none, some 2]) rfl rfl rfl (by decide +kernel) (by decide +kernel) rfl (by decide +kernel) rfl (by decide +kernel)) rfl (pi_list (pv 0)) (fun _ _ _ _ _ _ => (pgF_tup (n := 2) rfl (pgs_cons (pg_name (i := 0) (show List.Nodup (["start", "stop", "piece", "holes"] : List Str) by decide +kernel) rfl (Or.inl rfl)) (pgs_cons (pg_name (i := 1) (show List.Nodup (["start", "stop", "piece", "holes"] : List Str) by decide +kernel) rfl (Or.inl rfl)) pgs_nil)))) (fun _ _ _ _ _ _ => pts_nil) (fun _ _ _ _ _ _ => (piF_list (pe_def dleft_over gleft_over hr (pa_cons (pv 0) (pa_cons (pv 1) (pa_cons (pv 3) pa_nil)))))) (fun _ _ _ _ _ _ => (pg_name (i := 2) (show List.Nodup (["start", "stop", "piece", "holes"] : List Str) by decide +kernel) rfl (Or.inl rfl))) (fun _ _ _ _ _ _ => pts_nil) (fun _ _ _ _ _ _ => (pv 2))) pa_nil))))), ?_⟩
  refine ⟨_, rfl, o, other, rfl, O, hl2, ok2, fun S holes H1 RS ris mem hll s1 hS => ?_⟩
  obtain ⟨as, h1, p1⟩ := R.same s1
  have n1 := p1.len
  refine ⟨_, rfl, r, rfl, ⟨_, SqL.of h1⟩, fun acc hacc => compF2_list (K := K) (a := r) (xs := as.map V.ref) (fun i σ H2 => ∃ (u v x : Option V) (ts : List Addr) (L : Row), σ = [u, v, x, some (.ref S)] ∧ H2 acc = some (.lst (ts.map V.ref)) ∧ PairsAt H2 ts L ∧ Ok L ∧ spell L = outOf other (spell (row.take i)) ∧ L.length ≤ 64 * i ∧ L.length ≤ i * (other.length + 1) ∧ Same H1 H2) ⟨none, none, none, [], [], rfl, upd_same, .nil, (fun p hp => by cases hp), rfl, by simp, by simp, same_new hacc _⟩ (fun i σ H2 _ ⟨_, _, _, _, _, _, _, _, _, _, _, _, s2⟩ => SqL.of (s2 _ _ h1)) ?_ ?_⟩
  · rintro i y σ H2 hi ⟨u, v, x, ts, L, rfl, h2, t2, okL, spL, lL, lL2, s2⟩
    rw [List.getElem?_map] at hi
    obtain ⟨a, ea, rfl⟩ := Option.map_eq_some_iff.mp hi
    obtain ⟨⟨st, en⟩, ep, hpa⟩ := p1.get ea
    have il : i < row.length := by
      rcases Nat.lt_or_ge i row.length with z | z
      · exact z
      · rw [List.getElem?_eq_none z] at ep; cases ep
    refine ⟨a, _, rfl, SqT.of (s2 _ _ hpa), rfl, _, _, rfl, _, _, rfl, rfl, yes (iteT ?_)⟩
    refine ⟨_, rfl, _, rfl, _, rfl, S, holes, st, en, rfl, RS.same s2, ris, by omega, ok1 _ (List.mem_of_getElem? ep), fun q M H3 RM okM spM _ lM s3 hq => ?_⟩
    obtain ⟨ms, hm, pm⟩ := id RM
    have ml := pm.len
    have tl := t2.len
    have h3 := s3 _ _ h2
    have nqa : q ≠ acc := (ne_of_none h2 hq).symm
    refine ⟨q, rfl, ⟨_, SqL.of hm⟩, inner_list (K := K) (a := q) (acc := acc) (g := gName 2) (tt := tYes) (te := tVar 2) (xs := ms.map V.ref) (fun l σ H4 => ∃ x2 : Option V, σ = [some (.int st), some (.int en), x2, some (.ref S)] ∧ H4 acc = some (.lst ((ts ++ ms.take l).map V.ref)) ∧ PairsAt H4 (ts ++ ms.take l) (L ++ M.take l) ∧ Keep acc H3 H4 ∧ Same H1 H4) ?_ ?_ ?_ ?_⟩
    · exact ⟨x, rfl, (by simpa using h3), (by simpa using t2.same s3), (fun _ _ e _ => e), s2.trans s3⟩
    · rintro l σ H4 _ ⟨_, _, _, _, K4, _⟩
      exact SqL.of (K4 q _ hm nqa)
    · rintro l y σ H4 hl ⟨x2, rfl, h4, t4, K4, s4⟩
      rw [List.getElem?_map] at hl
      obtain ⟨t, et, rfl⟩ := Option.map_eq_some_iff.mp hl
      obtain ⟨pr, epr, hpr⟩ := pm.get et
      have ll : l < ms.length := by
        rcases Nat.lt_or_ge l ms.length with z | z
        · exact z
        · rw [List.getElem?_eq_none z] at et; cases et
      have hpr4 : PairAt H4 t pr := K4 t _ hpr (fun z => by
        have w : H3 acc = some (.tup [.int pr.1, .int pr.2]) := by rw [← z]; exact hpr
        rw [h3] at w
        cases w)
      have K5 : Keep acc H4 (upd H4 acc (.lst ((ts ++ ms.take l).map V.ref ++ [.ref t]))) := keep_upd acc _ _
      refine yesN (iteT ⟨_, rfl, _, h4, ?_, _, rfl, ?_, ?_, fun a ob e n => K5 a ob (K4 a ob e n) n, keep_of hacc s4 K5⟩)
      · rw [List.length_map, List.length_append, List.length_take]
        exact million (by omega)
      · rw [upd_same, take_snoc et, ← List.append_assoc, List.map_append (l₁ := ts ++ ms.take l)]
        rfl
      · rw [take_snoc et, take_snoc epr, ← List.append_assoc, ← List.append_assoc]
        exact PairsAt.snoc (t4.keep h4 K5) (K5 t _ hpr4 (fun z => by
          have w : H4 acc = some (.tup [.int pr.1, .int pr.2]) := by rw [← z]; exact hpr4
          rw [h4] at w
          cases w))
    · rintro σ H4 ⟨x2, rfl, h4, t4, K4, s4⟩
      rw [List.length_map, List.take_length] at h4 t4
      rw [ml, List.take_length] at t4
      refine ⟨_, _, _, ts ++ ms, L ++ M, rfl, h4, t4, fun p hp => (List.mem_append.mp hp).elim (okL p) (okM p), ?_, by rw [List.length_append]; omega, (by rw [List.length_append, Nat.succ_mul]; omega), s4⟩
      rw [spell_append, spL, spM, take_snoc ep, spell_append, outOf_append, spell_one]
      congr 1
      exact outOf_congr fun x _ => mem x
  · rintro σ H2 ⟨u, v, x, ts, L, rfl, h2, t2, okL, spL, lL, lL2, s2⟩
    rw [List.length_map, n1, List.take_length] at spL
    rw [List.length_map, n1] at lL lL2
    refine ⟨acc, L, rfl, ⟨ts, h2, t2⟩, by omega, fun q H3 R3 s3 hq => ?_⟩
    have pl := plainF_le L
    rw [plain_eq L okL, spL] at R3 pl
    exact k q H3 R3 (Nat.le_trans pl lL2) (s1.trans (s2.trans s3)) (free_same (s1.trans s2) hq)

abbrev s_law_big_by : Stmt := top 16
theorem sc_law_big_by : FnScope ["_law_src_here", "_law_most", "_law_row", "_law_here", "_law_scale", "_law_k", "_law_many"] ["_law_src_here", "_law_most"] (defScope s_law_big_by) := ⟨rfl, rfl, rfl, by decide +kernel, rfl, by decide +kernel, by decide +kernel⟩
theorem ok_law_big_by {f fN : Addr} {fd fdN : FuncData} (F : Fun K "_law_big_by" "_law_big_by" s_law_big_by f fd) (T : Nms mg) (d_law_next : DefAt K mg "_law_next" s_law_next ["_law_src_here", "_law_base"] fN fdN) : FnOk P w K mg base CX0 2 f fd ["_law_src_here", "_law_most"] spBigBy := by
  have g_law_next : FnOk P w K mg base CX0 1 fN fdN ["_law_src_here", "_law_base"] spNext := ok_law_next d_law_next.F T
  refine F.ok sc_law_big_by (fun vs H Q E h => ?_) (fun cdv A outer s H vs Q E hr h => ?_)
  · obtain ⟨l, c, b, rfl, _⟩ := h
    rfl
  obtain ⟨l, c, most, rfl, S, m0, m1, k⟩ := h
  refine ⟨_, (pss_cons (ps_set (i := 2) sc_law_big_by.nd rfl (Or.inl rfl) (pe_lst pa_nil))
      (pss_cons (ps_set (i := 3) sc_law_big_by.nd rfl (Or.inl rfl) pe_int)
      (pss_cons (ps_set (i := 4) sc_law_big_by.nd rfl (Or.inl rfl) (pe_ix ix_list (pe_lst (pa_cons pe_int (pa_cons (pe_op op_pow pe_int pe_int) (pa_cons (pe_op op_pow pe_int pe_int) pa_nil)))) (pe_def d_law_next g_law_next hr (pa_cons (pv 0) (pa_cons pe_int pa_nil))) (fun _ _ => rfl)))
      (pss_cons (ps_for PassesOwn.never rfl (pi_range1 rfl T.n_range (pa_cons (pe_def d_law_next g_law_next hr (pa_cons (pv 0) (pa_cons (pe_op op_add (pv 1) pe_int) pa_nil))) pa_nil)) (pg_name (i := 5) sc_law_big_by.nd rfl (Or.inl rfl))
      (pss_cons (ps_imp (t' := bigT1) (ps_if (pt_cmpR op_gt (pe_def d_law_next g_law_next hr (pa_cons (pv 0) (pa_cons pe_int pa_nil))) pe_int (nomark _))
      (pss_one (ps_set (i := 3) sc_law_big_by.nd rfl (Or.inl rfl) (pe_op op_add (pe_op op_mul (pe_def d_law_next g_law_next hr (pa_cons (pv 0) (pa_cons pe_int pa_nil))) (pv 4)) (pe_def d_law_next g_law_next hr (pa_cons (pv 0) (pa_cons pe_int pa_nil))))))
      pss_nil) ?b1)
      (pss_cons (ps_set (i := 6) sc_law_big_by.nd rfl (Or.inl rfl) (pe_op op_add (pe_op op_mul (pe_def d_law_next g_law_next hr (pa_cons (pv 0) (pa_cons pe_int pa_nil))) (pv 4)) (pe_def d_law_next g_law_next hr (pa_cons (pv 0) (pa_cons pe_int pa_nil)))))
      (pss_cons (ps_expr (pe_bm PySem.F.plainAttrs_list PySem.F.slot_list_append PySem.F.type_list_append mt_append (pv 2) (pa_cons (pe_tup (pa_cons (pv 3) (pa_cons (pe_op op_add (pv 3) (pv 6)) pa_nil))) pa_nil)))
      (pss_one (ps_set (i := 3) sc_law_big_by.nd rfl (Or.inl rfl) (pe_op op_add (pv 3) (pv 6))))))))
      (pss_one (ps_ret (pv 2))))))), ?_⟩
  case b1 =>
    rintro D σ H ⟨l, c, q, most, here, sc, kk, mm, rfl, S, h0, c0, c1, k⟩
    refine ⟨_, rfl, l, c, 3, rfl, S, by decide, by decide, fun v H1 v0 v1 S1 k1 => ⟨_, _, rfl, rfl, _, rfl, ite2 (fun d1 => ?_) (fun d1 => ?_)⟩⟩
    · refine ⟨_, rfl, l, c, 1000, rfl, S1, by decide, by decide, fun v2 H2 w0 w1 S2 k2 => ?_⟩
      refine ⟨_, rfl, _, _, rfl, rfl, .inl ⟨by omega, by omega⟩, _, rfl, l, c, 50, rfl, S2, by decide, by decide, fun v3 H3 x0 x1 S3 k3 => ⟨_, _, rfl, rfl, ?_⟩⟩
      have b := mul_bd (n := 999) w0 (by omega) c0 c1
      exact k _ H3 (by omega) (.inr (by omega)) S3 fun a ha => (k3 a ha).trans ((k2 a ha).trans (k1 a ha))
    · exact k here H1 h0 (.inl (Int.le_refl _)) S1 k1
  refine ⟨(by show 0 ≤ sizeLine; decide), fun q hq => ?_⟩
  have s0 : Same H (upd H q (.lst [])) := same_new hq _
  have nlq : q ≠ l := (S.ne hq).1.symm
  have ncq : q ≠ c := (S.ne hq).2.symm
  refine ⟨_, _, rfl, rfl, ⟨by decide, by decide, by decide⟩, _, _, rfl, rfl, ⟨by decide, by decide, by decide⟩, (by show 3 ≤ sizeLine; decide), fun z hz => ?_⟩
  have s1 : Same H (upd (upd H q (.lst [])) z (.lst [.int 1, .int (10 ^ (9 : Int).toNat), .int (10 ^ (30 : Int).toNat)])) := s0.trans (same_new hz _)
  have nzl : z ≠ l := ((S.same s0).ne hz).1.symm
  refine ⟨_, rfl, l, c, 3, rfl, S.same s1, by decide, by decide, fun v H1 v0 v1 S1 k1 => ?_⟩
  obtain ⟨sc, hsc, c0, c1⟩ := scales v0 v1
  have hz1 : H1 z = some (.lst [.int 1, .int (10 ^ (9 : Int).toNat), .int (10 ^ (30 : Int).toNat)]) := by rw [k1 z nzl]; exact upd_same
  refine ⟨z, _, _, _, rfl, rfl, SqL.of hz1, hsc, ?_⟩
  have hq1 : H1 q = some (.lst []) := by
    rw [k1 q nlq]
    exact same_new hz _ _ _ upd_same
  refine ⟨_, rfl, _, rfl, _, _, rfl, rfl, l, c, most + 1, rfl, S1, by omega, by omega, fun v2 H2 w0 w1 S2 k2 => ⟨v2, rfl, by omega, by omega, ?_⟩⟩
  refine for_range (lo := 0) (n := v2.toNat) (fun i σ H2 => ∃ (bs : List Addr) (row : Row) (here : Int) (kk mm : Option V), σ = [some (.ref l), some (.int most), some (.ref q), some (.int here), some (.int sc), kk, mm] ∧ H2 q = some (.lst (bs.map V.ref)) ∧ PairsAt H2 bs row ∧ row.length = i ∧
      (∀ p ∈ row, 0 ≤ p.1 ∧ p.1 ≤ p.2 ∧ p.2 ≤ 10 ^ 33 + 10 ^ 32 * (i : Int)) ∧ 0 ≤ here ∧ here ≤ 10 ^ 33 + 10 ^ 32 * (i : Int) ∧ SrcOk H2 l c ∧ Keep l H H2) ?_ ?_ ?_
  · refine ⟨[], [], 0, none, none, rfl, ?_, .nil, rfl, (fun p hp => by cases hp), by decide, by decide, S2, fun a o e n => ?_⟩
    · rw [k2 q nlq, hq1]; rfl
    · rw [k2 a n, k1 a n]; exact s1 a o e
  · rintro i σ H2 hi ⟨bs, row, here, kk, mm, rfl, hq2, hb, hrl, hsm, h0, h1, S2, K2⟩
    refine ⟨l, c, q, most, here, sc, _, mm, rfl, S2, h0, c0, c1, fun here' H3 g0 g1 S3 k3 => ?_⟩
    refine ⟨_, rfl, l, c, 40, rfl, S3, by decide, by decide, fun v3 H4 x0 x1 S4 k4 => ?_⟩
    refine ⟨_, rfl, _, _, rfl, rfl, .inl ⟨by omega, by omega⟩, _, rfl, l, c, 3, rfl, S4, by decide, by decide, fun v4 H5 y0 y1 S5 k5 => ⟨_, _, rfl, rfl, ?_⟩⟩
    have b := mul_bd (n := 39) x0 (by omega) c0 c1
    obtain ⟨xs2, hl2⟩ := S2.lst
    have off : ∀ a, a ≠ l → H5 a = H2 a := fun a ha => (k5 a ha).trans ((k4 a ha).trans (k3 a ha))
    have hq4 : H5 q = some (.lst (bs.map V.ref)) := (off q nlq).trans hq2
    have hb4 : PairsAt H5 bs row := hb.keep hl2 (off_keep off)
    have bl : bs.length < sizeLine := million (by have := hb.len; omega)
    refine ⟨_, rfl, .inl ⟨rfl, _, SqL.of hq4⟩, _, rfl, _, rfl, _, rfl, _, _, rfl, rfl, (by show 2 ≤ sizeLine; decide), fun t ht => ⟨q, _, _, rfl, rfl, same_new ht _ _ _ hq4, (by rw [List.length_map]; exact bl), ?_⟩⟩
    refine ⟨_, rfl, _, rfl, _, _, rfl, rfl, ?_⟩
    have ntq : q ≠ t := ne_of_none hq4 ht
    have s5 : Same H5 (upd H5 t (.tup [.int here', .int (here' + (v3 * sc + v4))])) := same_new ht _
    have K5 : Keep q H5 (upd (upd H5 t (.tup [.int here', .int (here' + (v3 * sc + v4))])) q (.lst (bs.map V.ref ++ [.ref t]))) := fun a o e n => keep_upd q _ _ a o (s5 a o e) n
    refine ⟨bs ++ [t], row ++ [(here', here' + (v3 * sc + v4))], here' + (v3 * sc + v4), _, _, rfl, by rw [upd_same, List.map_append]; rfl, ?_, by rw [List.length_append, hrl]; rfl, ?_, by omega, by omega, ?_, ?_⟩
    · refine PairsAt.snoc (hb4.keep hq4 K5) ?_
      show upd _ q _ t = _
      rw [upd_ne ntq.symm, upd_same]
    · intro p hp
      rcases List.mem_append.mp hp with z | z
      · have := hsm p z
        omega
      · have z' : p = (here', here' + (v3 * sc + v4)) := by simpa using z
        subst z'
        show 0 ≤ here' ∧ here' ≤ here' + (v3 * sc + v4) ∧ here' + (v3 * sc + v4) ≤ 10 ^ 33 + 10 ^ 32 * ((i + 1 : Nat) : Int)
        omega
    · exact S5.keep K5 nlq.symm ncq.symm
    · intro a o e n
      refine K5 a o ?_ (ne_of_none e hq)
      rw [off a n]
      exact K2 a o e n
  · rintro σ H2 ⟨bs, row, here, kk, mm, rfl, hq2, hb, hrl, hsm, h0, h1, S2, K2⟩
    refine ⟨_, rfl, k q row H2 ⟨bs, hq2, hb⟩ (by omega) (fun p hp => ?_) S2 K2 hq⟩
    have := hsm p hp
    omega

abbrev s_law_total : Stmt := top 17
theorem sc_law_total : FnScope ["_law_row", "_law_total_here", "_law_start", "_law_stop"] ["_law_row"] (defScope s_law_total) := ⟨rfl, rfl, rfl, by decide +kernel, rfl, by decide +kernel, by decide +kernel⟩
theorem ok_law_total {f : Addr} {fd : FuncData} (F : Fun K "_law_total" "_law_total" s_law_total f fd) : FnOk P w K mg base CX0 1 f fd ["_law_row"] spTotal := by
  refine F.ok sc_law_total (fun vs H Q E h => ?_) (fun cdv A outer s H vs Q E hr h => ?_)
  · obtain ⟨r, row, rfl, _⟩ := h
    rfl
  obtain ⟨r, row, rfl, ⟨as, hr1, hp⟩, k⟩ := h
  refine ⟨_, (pss_cons (ps_set (i := 1) sc_law_total.nd rfl (Or.inl rfl) pe_int)
      (pss_cons (ps_for PassesOwn.never rfl (pi_list (pv 0)) (pg_tup (n := 2) rfl (pgs_cons (pg_name (i := 2) sc_law_total.nd rfl (Or.inl rfl)) (pgs_cons (pg_name (i := 3) sc_law_total.nd rfl (Or.inl rfl)) pgs_nil)))
      (pss_one (ps_set (i := 1) sc_law_total.nd rfl (Or.inl rfl) (pe_op op_sub (pe_op op_add (pv 1) (pv 3)) (pv 2)))))
      (pss_one (ps_ret (pv 1))))), ?_⟩
  refine ⟨_, rfl, r, rfl, ⟨_, SqL.of hr1⟩, for_list (K := K) (a := r) (xs := as.map V.ref) (fun i σ H2 => ∃ (t : Int) (u v : Option V), σ = [some (.ref r), some (.int t), u, v] ∧ t = tot (row.take i) ∧ H2 = H)
    ⟨0, none, none, rfl, rfl, rfl⟩ (fun i σ H2 _ ⟨_, _, _, _, _, e⟩ => by rw [e]; exact SqL.of hr1) ?_ ?_⟩
  · rintro i x σ H2 hi ⟨t, u, v, rfl, et, rfl⟩
    rw [List.getElem?_map] at hi
    obtain ⟨a, ea, rfl⟩ := Option.map_eq_some_iff.mp hi
    obtain ⟨⟨st, en⟩, ep, ha⟩ := hp.get ea
    refine ⟨a, _, rfl, SqT.of ha, rfl, _, _, rfl, _, _, rfl, rfl, ?_⟩
    refine ⟨_, rfl, _, rfl, _, _, rfl, rfl, _, rfl, _, _, rfl, rfl, ?_⟩
    refine ⟨_, _, _, rfl, ?_, rfl⟩
    rw [take_snoc ep, tot_snoc, et]
    show tot (row.take i) + en - st = _
    omega
  · rintro σ H2 ⟨t, u, v, rfl, et, rfl⟩
    rw [List.length_map, hp.len, List.take_length] at et
    subst et
    exact ⟨_, rfl, k⟩

abbrev s_law_spot : Stmt := top 18
theorem sc_law_spot : FnScope ["_law_src_here", "_law_total_here"] ["_law_src_here", "_law_total_here"] (defScope s_law_spot) := ⟨rfl, rfl, rfl, by decide +kernel, rfl, by decide +kernel, by decide +kernel⟩
theorem ok_law_spot {f fN : Addr} {fd fdN : FuncData} (F : Fun K "_law_spot" "_law_spot" s_law_spot f fd) (T : Nms mg) (d_law_next : DefAt K mg "_law_next" s_law_next ["_law_src_here", "_law_base"] fN fdN) : FnOk P w K mg base CX0 2 f fd ["_law_src_here", "_law_total_here"] spSpot := by
  have g_law_next : FnOk P w K mg base CX0 1 fN fdN ["_law_src_here", "_law_base"] spNext := ok_law_next d_law_next.F T
  refine F.ok sc_law_spot (fun vs H Q E h => ?_) (fun cdv A outer s H vs Q E hr h => ?_)
  · obtain ⟨l, c, b, rfl, _⟩ := h
    rfl
  obtain ⟨l, c, t, rfl, S, t0, t1, k⟩ := h
  refine ⟨_, (pss_cons (ps_if (pt_cmpR op_eq (pe_def d_law_next g_law_next hr (pa_cons (pv 0) (pa_cons pe_int pa_nil))) pe_int (nomark _))
      (pss_one (ps_ret (pe_def d_law_next g_law_next hr (pa_cons (pv 0) (pa_cons (pe_op op_add (pv 1) pe_int) pa_nil)))))
      pss_nil)
      (pss_one (ps_ret (pe_op op_fdivB (pe_op op_mul (pe_def d_law_next g_law_next hr (pa_cons (pv 0) (pa_cons (pe_op op_add (pe_op op_pow pe_int pe_int) pe_int) pa_nil))) (pv 1)) (pe_op op_pow pe_int pe_int))))), ?_⟩
  refine ⟨_, rfl, l, c, 2, rfl, S, by decide, by decide, fun v H1 v0 v1 S1 k1 => ⟨rfl, _, rfl, ite2 (fun _ => ?_) (fun _ => ?_)⟩⟩
  · refine ⟨_, rfl, _, rfl, _, _, rfl, rfl, l, c, t + 1, rfl, S1, by omega, by omega, fun v2 H2 w0 w1 S2 k2 => ?_⟩
    exact k v2 H2 w0 (by omega) S2 fun a ha => (k2 a ha).trans (k1 a ha)
  · refine ⟨_, rfl, _, _, rfl, rfl, ⟨by decide, by decide, by decide⟩, _, _, rfl, rfl, l, c, _, rfl, S1, by decide, by decide, fun v2 H2 w0 w1 S2 k2 => ?_⟩
    rw [pow9] at w1
    refine ⟨_, rfl, _, _, rfl, rfl, .inl ⟨by omega, by omega⟩, _, _, rfl, rfl, ⟨by decide, by decide, by decide⟩, _, _, rfl, rfl, ⟨by decide, by decide⟩, ?_⟩
    have b := spot_bd (v := v2) (t := t) w0 (by omega) t0
    rw [pow9]
    exact k _ H2 b.1 b.2 S2 fun a ha => (k2 a ha).trans (k1 a ha)

def spLPlain : Sp := fun vs H Q _ => ∃ (r : Addr) (row : Row), vs = [.ref r] ∧ RowAt H r row ∧ (∀ p ∈ row, p.1 ≤ p.2) ∧ row.length ≤ 1000000 ∧
  ∀ (q : Addr) (H' : Hp), RowAt H' q (plainF row) → Same H H' → H q = none → Q (.ref q) H'
abbrev s_law_plain : Stmt := top 20
theorem sc_law_plain : FnScope ["_law_row", "_law_found", "_law_first", "_law_last"] ["_law_row"] (defScope s_law_plain) := ⟨rfl, rfl, rfl, by decide +kernel, rfl, by decide +kernel, by decide +kernel⟩
theorem ok_law_plain {f : Addr} {fd : FuncData} (F : Fun K "_law_plain" "_law_plain" s_law_plain f fd) (T : Nms mg) : FnOk P w K mg base CX0 1 f fd ["_law_row"] spLPlain := by
  refine F.ok sc_law_plain (fun vs H Q E h => ?_) (fun cdv A outer s H vs Q E hr h => ?_)
  · obtain ⟨r, row, rfl, _⟩ := h
    rfl
  obtain ⟨r, row, rfl, ⟨as, hr1, hp⟩, ok, hlen, k⟩ := h
  refine ⟨_, (pss_cons (ps_set (i := 1) sc_law_plain.nd rfl (Or.inl rfl) (pe_lst pa_nil))
      (pss_cons (ps_for PassesOwn.never rfl (pi_list (pv 0)) (pg_tup (n := 2) rfl (pgs_cons (pg_name (i := 2) sc_law_plain.nd rfl (Or.inl rfl)) (pgs_cons (pg_name (i := 3) sc_law_plain.nd rfl (Or.inl rfl)) pgs_nil)))
      (pss_one (ps_if (PW.pt (pw_and (pt_cmpR op_lt (pv 2) (pv 3) (nomark _)) (pw_and (pt_cmpR op_gt (pe_callB call_len_seq rfl T.n_len PySem.boot_len (pa_cons (pv 1) pa_nil)) pe_int (nomark _)) (pw_and1 (pt_cmpR op_eq (pe_ix ix_tup (pe_ix ix_list (pv 1) (pe_un un_neg pe_int) (fun _ _ => rfl)) pe_int (fun _ _ => rfl)) (pv 2) (nomark _))))))
      (pss_one (ps_asg (pe_tup (pa_cons (pe_ix ix_tup (pe_ix ix_list (pv 1) (pe_un un_neg pe_int) (fun _ _ => rfl)) pe_int (fun _ _ => rfl)) (pa_cons (pv 3) pa_nil))) (pg_sub (pv 1) (pe_un un_neg pe_int) set_list)))
      (pss_one (ps_if (pt_cmpR op_lt (pv 2) (pv 3) (nomark _))
      (pss_one (ps_expr (pe_bm PySem.F.plainAttrs_list PySem.F.slot_list_append PySem.F.type_list_append mt_append (pv 1) (pa_cons (pe_tup (pa_cons (pv 2) (pa_cons (pv 3) pa_nil))) pa_nil))))
      pss_nil)))))
      (pss_one (ps_ret (pv 1))))), ?_⟩
  refine ⟨(by show 0 ≤ sizeLine; decide), fun q hq => ?_⟩
  have s0 : Same H (upd H q (.lst [])) := same_new hq _
  refine ⟨_, rfl, r, rfl, ⟨_, SqL.of (s0 _ _ hr1)⟩, for_list (K := K) (a := r) (xs := as.map V.ref) (fun i σ H2 => ∃ (bs : List Addr) (u v : Option V), σ = [some (.ref r), some (.ref q), u, v] ∧ H2 q = some (.lst (bs.map V.ref)) ∧ PairsAt H2 bs ((row.take i).foldl plainStep []) ∧ Same H H2)
    ⟨[], none, none, rfl, upd_same, .nil, s0⟩ (fun i σ H2 _ ⟨_, _, _, _, _, _, s⟩ => SqL.of (s _ _ hr1)) ?_ ?_⟩
  · rintro i x σ H2 hi ⟨bs, u, v, rfl, hq2, hb, s⟩
    rw [List.getElem?_map] at hi
    obtain ⟨a, ea, rfl⟩ := Option.map_eq_some_iff.mp hi
    obtain ⟨⟨st, en⟩, ep, ha⟩ := hp.get ea
    have step := take_fold (f := plainStep) ep
    have le1 : st ≤ en := ok (st, en) (List.mem_of_getElem? ep)
    have bl : bs.length < sizeLine := by
      have z := hb.len
      have z2 := plain_le (row.take i) []
      rw [List.length_take] at z2
      exact million (by simp only [List.length_nil] at z2; omega)
    refine ⟨a, _, rfl, SqT.of (s _ _ ha), rfl, _, _, rfl, _, _, rfl, rfl, ?_⟩
    refine ⟨_, rfl, _, rfl, _, _, rfl, rfl, _, rfl, ite2 (fun c => ?_) (fun c => iteF ?_)⟩
    · have c' : st < en := of_decide_eq_true c
      have e : ¬ st = en := by omega
      rw [plainStep, if_neg e] at step
      rcases List.eq_nil_or_concat ((row.take i).foldl plainStep []) with hn | ⟨rw0, q0, hn⟩
      · rw [hn] at hb step
        have hbs : bs = [] := List.eq_nil_of_length_eq_zero hb.len
        subst hbs
        refine ⟨_, rfl, q, _, rfl, .inl (SqL.of hq2), _, _, rfl, rfl, _, rfl, iteF (iteF ?_)⟩
        refine ⟨_, rfl, _, rfl, _, _, rfl, rfl, _, rfl, ite2 (fun _ => ?_) (fun z => absurd (decide_eq_true c') z)⟩
        refine ⟨_, rfl, .inl ⟨rfl, _, SqL.of hq2⟩, _, rfl, _, rfl, (by show 2 ≤ sizeLine; decide), fun t ht => ⟨q, _, _, rfl, rfl, same_new ht _ _ _ hq2, (by show 0 < sizeLine; decide), ?_⟩⟩
        obtain ⟨g1, g2, g3⟩ := grown (st := st) (en := en) hq s hq2 hb ht
        refine ⟨[] ++ [t], _, _, rfl, g1, ?_, g3⟩
        rw [step, grow_nil]
        exact g2
      · rw [List.concat_eq_append] at hn
        rw [hn] at hb step
        obtain ⟨cs, a0, rfl, hc, ha0⟩ := hb.split
        have hq3 : H2 q = some (.lst (cs.map V.ref ++ [.ref a0])) := by rw [hq2, List.map_append]; rfl
        refine ⟨_, rfl, q, _, rfl, .inl (SqL.of hq3), _, _, rfl, rfl, _, rfl, ite2 (fun _ => ?_) (fun z => absurd (decide_eq_true (by simp)) z)⟩
        refine ⟨_, rfl, _, rfl, q, _, _, _, rfl, rfl, SqL.of hq3, atI_neg1 _ _, a0, _, _, _, rfl, rfl, SqT.of ha0, at21, _, rfl, rfl, _, rfl, ite2 (fun c2 => ?_) (fun c2 => ?_)⟩
        · have e2 : q0.2 = st := V.int.inj (of_decide_eq_true c2)
          refine ⟨_, rfl, _, rfl, q, _, _, _, rfl, rfl, SqL.of hq3, atI_neg1 _ _, a0, _, _, _, rfl, rfl, SqT.of ha0, at20, _, rfl, (by show 2 ≤ sizeLine; decide), fun t ht => ?_⟩
          refine ⟨_, rfl, _, rfl, q, _, _, cs.length, rfl, rfl, same_new ht _ _ _ hq3, ixLast cs a0, ?_⟩
          obtain ⟨g1, g2, g3⟩ := turned (st := q0.1) (en := en) hq s hq3 hc ht
          refine ⟨cs ++ [t], _, _, rfl, g1, ?_, g3⟩
          rw [step, grow_pos _ e2]
          exact g2
        · have e2 : ¬ q0.2 = st := fun z => c2 (decide_eq_true (congrArg V.int z))
          refine ⟨_, rfl, _, rfl, _, _, rfl, rfl, _, rfl, ite2 (fun _ => ?_) (fun z => absurd (decide_eq_true c') z)⟩
          refine ⟨_, rfl, .inl ⟨rfl, _, SqL.of hq2⟩, _, rfl, _, rfl, (by show 2 ≤ sizeLine; decide), fun t ht => ⟨q, _, _, rfl, rfl, same_new ht _ _ _ hq2, (by rw [List.length_map]; exact bl), ?_⟩⟩
          obtain ⟨g1, g2, g3⟩ := grown (st := st) (en := en) hq s hq2 hb ht
          refine ⟨cs ++ [a0] ++ [t], _, _, rfl, g1, ?_, g3⟩
          rw [step, grow_neg _ e2]
          exact g2
    · have e : st = en := by
        have z : ¬ st < en := fun z => c (decide_eq_true z)
        omega
      refine ⟨_, rfl, _, rfl, _, _, rfl, rfl, _, rfl, ite2 (fun z => absurd z c) (fun _ => ?_)⟩
      refine ⟨bs, _, _, rfl, hq2, ?_, s⟩
      rw [step, plainStep, if_pos e]
      exact hb
  · rintro σ H2 ⟨bs, u, v, rfl, hq2, hb, s⟩
    refine ⟨_, rfl, k q H2 ⟨bs, hq2, ?_⟩ s hq⟩
    rw [List.length_map, hp.len, List.take_length] at hb
    exact hb

/-! pairs of rows under numbers -/
abbrev Pr := Row × Row
def PrAt (N : Addr → Prop) (H : Hp) (v : V) (r : Pr) : Prop := ∃ pa ra rb : Addr, v = .ref pa ∧ H pa = some (.tup [.ref ra, .ref rb]) ∧ RowAt H ra r.1 ∧ RowAt H rb r.2 ∧ ¬ N ra ∧ ¬ N rb
theorem PrAt.mv {N N' : Addr → Prop} {H H' : Hp} {v : V} {r : Pr} (h : PrAt N H v r) (k : ∀ a o, H a = some o → ((∃ xs, o = .tup xs) ∨ ((∃ xs, o = .lst xs) ∧ ¬ N a)) → H' a = some o) (hn : ∀ a xs, H a = some (.lst xs) → ¬ N a → ¬ N' a) : PrAt N' H' v r := by
  obtain ⟨pa, ra, rb, rfl, hp, ⟨as, h1, p1⟩, ⟨bs, h2, p2⟩, na, nb⟩ := h
  exact ⟨pa, ra, rb, rfl, k _ _ hp (.inl ⟨_, rfl⟩), ⟨as, k _ _ h1 (.inr ⟨⟨_, rfl⟩, na⟩), p1.tups fun a xs e => k a _ e (.inl ⟨xs, rfl⟩)⟩, ⟨bs, k _ _ h2 (.inr ⟨⟨_, rfl⟩, nb⟩), p2.tups fun a xs e => k a _ e (.inl ⟨xs, rfl⟩)⟩, hn _ _ h1 na, hn _ _ h2 nb⟩
def DkAt (N : Addr → Prop) (H : Hp) : Int → List (Option Pr) → List (Key × V) → Prop
  | _, [], kvs => kvs = []
  | i, none :: L, kvs => DkAt N H (i + 1) L kvs
  | i, some r :: L, kvs => ∃ v kvs', kvs = (Sum.inl i, v) :: kvs' ∧ PrAt N H v r ∧ DkAt N H (i + 1) L kvs'
theorem DkAt.mv {N N' : Addr → Prop} {H H' : Hp} (k : ∀ a o, H a = some o → ((∃ xs, o = .tup xs) ∨ ((∃ xs, o = .lst xs) ∧ ¬ N a)) → H' a = some o) (hn : ∀ a xs, H a = some (.lst xs) → ¬ N a → ¬ N' a) : ∀ (L : List (Option Pr)) (i : Int) (kvs : List (Key × V)), DkAt N H i L kvs → DkAt N' H' i L kvs
  | [], _, _, h => h
  | none :: L, i, kvs, h => DkAt.mv k hn L (i + 1) kvs h
  | some r :: L, i, kvs, h => by
    obtain ⟨v, kvs', e, p, d⟩ := h
    exact ⟨v, kvs', e, p.mv k hn, DkAt.mv k hn L (i + 1) kvs' d⟩
theorem DkAt.snoc {N : Addr → Prop} {H : Hp} {v : V} {r : Pr} (p : PrAt N H v r) : ∀ (L : List (Option Pr)) (i : Int) (kvs : List (Key × V)), DkAt N H i L kvs → DkAt N H i (L ++ [some r]) (kvs ++ [(Sum.inl (i + (L.length : Nat)), v)])
  | [], i, kvs, h => by
    have h : kvs = [] := h
    subst h
    exact ⟨v, [], by simp, p, rfl⟩
  | none :: L, i, kvs, h => by
    have z := DkAt.snoc p L (i + 1) kvs h
    rw [show i + 1 + ((L.length : Nat) : Int) = i + (((none :: L).length : Nat) : Int) by rw [List.length_cons]; omega] at z
    exact z
  | some q :: L, i, kvs, h => by
    obtain ⟨u, kvs', rfl, pq, d⟩ := h
    have z := DkAt.snoc p L (i + 1) kvs' d
    rw [show i + 1 + ((L.length : Nat) : Int) = i + (((some q :: L).length : Nat) : Int) by rw [List.length_cons]; omega] at z
    exact ⟨u, _, rfl, pq, z⟩
theorem DkAt.ge {N : Addr → Prop} {H : Hp} : ∀ (L : List (Option Pr)) (i : Int) (kvs : List (Key × V)), DkAt N H i L kvs → ∀ p ∈ kvs, ∃ m, i ≤ m ∧ p.1 = Sum.inl m
  | [], i, kvs, h, p, hp => by
    have h : kvs = [] := h
    subst h; cases hp
  | none :: L, i, kvs, h, p, hp => by
    obtain ⟨m, a, b⟩ := DkAt.ge L (i + 1) kvs h p hp
    exact ⟨m, by omega, b⟩
  | some q :: L, i, kvs, h, p, hp => by
    obtain ⟨u, kvs', rfl, pq, d⟩ := h
    rcases List.mem_cons.mp hp with rfl | hp
    · exact ⟨i, Int.le_refl _, rfl⟩
    · obtain ⟨m, a, b⟩ := DkAt.ge L (i + 1) kvs' d p hp
      exact ⟨m, by omega, b⟩
theorem DkAt.get {N : Addr → Prop} {H : Hp} : ∀ (L : List (Option Pr)) (i : Int) (kvs : List (Key × V)), DkAt N H i L kvs → ∀ n : Int, (∃ (j : Nat) (r : Pr) (v : V), n = i + j ∧ L[j]? = some (some r) ∧ valV kvs (Sum.inl n) = some v ∧ PrAt N H v r) ∨ (valV kvs (Sum.inl n) = none ∧ ∀ (j : Nat) (r : Pr), n = i + j → L[j]? ≠ some (some r))
  | [], i, kvs, h, n => by
    have h : kvs = [] := h
    subst h
    exact .inr ⟨rfl, fun j r _ z => by simp at z⟩
  | none :: L, i, kvs, h, n => by
    rcases DkAt.get L (i + 1) kvs h n with ⟨j, r, v, a, b, c⟩ | ⟨a, b⟩
    · exact .inl ⟨j + 1, r, v, by omega, by simpa using b, c⟩
    · refine .inr ⟨a, fun j r e z => ?_⟩
      cases j with
      | zero => simp at z
      | succ j => exact b j r (by omega) (by simpa using z)
  | some q :: L, i, kvs, h, n => by
    obtain ⟨u, kvs', rfl, pq, d⟩ := h
    by_cases e : i = n
    · subst e
      exact .inl ⟨0, q, u, by simp, rfl, valV_pos (p := (Sum.inl i, u)) rfl, pq⟩
    · have ne : ¬ (Sum.inl i : Key) = Sum.inl n := fun z => e (Sum.inl.inj z)
      rw [valV_neg (p := (Sum.inl i, u)) ne]
      rcases DkAt.get L (i + 1) kvs' d n with ⟨j, r, v, a, b, c⟩ | ⟨a, b⟩
      · exact .inl ⟨j + 1, r, v, by omega, by simpa using b, c⟩
      · refine .inr ⟨a, fun j r e' z => ?_⟩
        cases j with
        | zero => omega
        | succ j => exact b j r (by omega) (by simpa using z)
theorem dropK_ge {kvs : List (Key × V)} {i n : Int} (h : ∀ p ∈ kvs, ∃ m, i ≤ m ∧ p.1 = Sum.inl m) (lt : n < i) : dropK kvs (Sum.inl n) = kvs := by
  unfold dropK
  rw [List.filter_eq_self]
  intro p hp
  obtain ⟨m, a, b⟩ := h p hp
  refine decide_eq_true fun z => ?_
  rw [b] at z
  have := Sum.inl.inj z
  omega
theorem DkAt.drop {N : Addr → Prop} {H : Hp} : ∀ (L : List (Option Pr)) (i : Int) (kvs : List (Key × V)), DkAt N H i L kvs → ∀ j : Nat, DkAt N H i (L.set j none) (dropK kvs (Sum.inl (i + j)))
  | [], i, kvs, h, j => by
    have h : kvs = [] := h
    subst h
    rfl
  | none :: L, i, kvs, h, 0 => by
    have h : DkAt N H (i + 1) L kvs := h
    rw [dropK_ge (DkAt.ge L (i + 1) kvs h) (by omega)]
    exact h
  | none :: L, i, kvs, h, j + 1 => by
    have z := DkAt.drop L (i + 1) kvs h j
    rw [show i + 1 + (j : Int) = i + ((j + 1 : Nat) : Int) by omega] at z
    exact z
  | some q :: L, i, kvs, h, 0 => by
    obtain ⟨u, kvs', rfl, pq, d⟩ := h
    have e : dropK ((Sum.inl i, u) :: kvs') (Sum.inl (i + (0 : Nat))) = kvs' := by
      have : dropK ((Sum.inl i, u) :: kvs') (Sum.inl (i + (0 : Nat))) = dropK kvs' (Sum.inl (i + (0 : Nat))) := by
        unfold dropK
        exact List.filter_cons_of_neg (by simp)
      rw [this, dropK_ge (DkAt.ge L (i + 1) kvs' d) (by omega)]
    rw [e]
    exact d
  | some q :: L, i, kvs, h, j + 1 => by
    obtain ⟨u, kvs', rfl, pq, d⟩ := h
    have z := DkAt.drop L (i + 1) kvs' d j
    rw [show i + 1 + (j : Int) = i + ((j + 1 : Nat) : Int) by omega] at z
    have e : dropK ((Sum.inl i, u) :: kvs') (Sum.inl (i + ((j + 1 : Nat) : Int))) = (Sum.inl i, u) :: dropK kvs' (Sum.inl (i + ((j + 1 : Nat) : Int))) := by
      unfold dropK
      refine List.filter_cons_of_pos (decide_eq_true fun z => ?_)
      have := Sum.inl.inj z
      omega
    rw [e]
    exact ⟨u, _, rfl, pq, z⟩
def liveI : Int → List (Option Pr) → List Int
  | _, [] => []
  | i, none :: L => liveI (i + 1) L
  | i, some _ :: L => i :: liveI (i + 1) L
theorem DkAt.keys {N : Addr → Prop} {H : Hp} : ∀ (L : List (Option Pr)) (i : Int) (kvs : List (Key × V)), DkAt N H i L kvs → kvs.map (fun p => kV p.1) = (liveI i L).map V.int
  | [], i, kvs, h => by
    have h : kvs = [] := h
    subst h; rfl
  | none :: L, i, kvs, h => DkAt.keys L (i + 1) kvs h
  | some q :: L, i, kvs, h => by
    obtain ⟨u, kvs', rfl, pq, d⟩ := h
    rw [List.map_cons, DkAt.keys L (i + 1) kvs' d]
    rfl
theorem liveI_len : ∀ (L : List (Option Pr)) (i : Int), (liveI i L).length ≤ L.length
  | [], _ => Nat.le_refl _
  | none :: L, i => by have := liveI_len L (i + 1); rw [liveI, List.length_cons]; omega
  | some _ :: L, i => by have := liveI_len L (i + 1); rw [liveI, List.length_cons, List.length_cons]; omega
theorem DkAt.len {N : Addr → Prop} {H : Hp} {L : List (Option Pr)} {i : Int} {kvs : List (Key × V)} (h : DkAt N H i L kvs) : kvs.length ≤ L.length := by
  have z := congrArg List.length (DkAt.keys L i kvs h)
  rw [List.length_map, List.length_map] at z
  have := liveI_len L i
  omega
theorem putK_end {kvs : List (Key × V)} {N : Addr → Prop} {H : Hp} {L : List (Option Pr)} (d : DkAt N H 0 L kvs) (v : V) : putK kvs (Sum.inl ((L.length : Nat) : Int)) v = kvs ++ [(Sum.inl (0 + ((L.length : Nat) : Int)), v)] := by
  rw [Int.zero_add]
  refine putK_new v ?_
  rcases DkAt.get L 0 kvs d (L.length : Nat) with ⟨j, r, u, a, b, _⟩ | ⟨a, _⟩
  · have := (List.getElem?_eq_some_iff.mp b).1
    omega
  · exact a
def Ti (C : Addr) (N : Addr → Prop) (H : Hp) (x d t : Addr) (L : List (Option Pr)) : Prop := H x = some (.ins C d [("given", .int (L.length : Nat)), ("pairs", .ref t)]) ∧ ∃ kvs, H t = some (.dK kvs) ∧ DkAt N H 0 L kvs
theorem Ti.mv {C : Addr} {N N' : Addr → Prop} {H H' : Hp} {x d t : Addr} {L : List (Option Pr)} (h : Ti C N H x d t L) (k : ∀ a o, H a = some o → ¬ N a → H' a = some o) (nl : ∀ a, N a → ∃ xs, H a = some (.lst xs)) (hn : ∀ a xs, H a = some (.lst xs) → ¬ N a → ¬ N' a) : Ti C N' H' x d t L := by
  obtain ⟨hx, kvs, ht, dk⟩ := h
  have no : ∀ a o, H a = some o → (∀ xs, o ≠ .lst xs) → ¬ N a := fun a o e n z => by
    obtain ⟨xs, q⟩ := nl a z
    rw [e] at q
    exact n xs (Option.some.inj q)
  refine ⟨k _ _ hx (no _ _ hx (fun xs z => by cases z)), kvs, k _ _ ht (no _ _ ht (fun xs z => by cases z)), DkAt.mv (fun a o e z => ?_) hn L 0 kvs dk⟩
  rcases z with ⟨xs, rfl⟩ | ⟨_, z⟩
  · exact k _ _ e (no _ _ e (fun xs z => by cases z))
  · exact k _ _ e z
theorem Ti.same {C : Addr} {N N' : Addr → Prop} {H H' : Hp} {x d t : Addr} {L : List (Option Pr)} (h : Ti C N H x d t L) (s : Same H H') (hn : ∀ a xs, H a = some (.lst xs) → ¬ N a → ¬ N' a) : Ti C N' H' x d t L := by
  obtain ⟨hx, kvs, ht, dk⟩ := h
  exact ⟨s _ _ hx, kvs, s _ _ ht, DkAt.mv (fun a o e z => s _ _ e) hn L 0 kvs dk⟩

def spTInit (C : Addr) : Sp := fun vs H Q _ => ∃ x d : Addr, vs = [.ref x] ∧ H x = some (.ins C d []) ∧ ∀ (t : Addr) (H' : Hp), (∀ N, Ti C N H' x d t []) → Keep x H H' → H t = none → Q .non H'
def spTie (C : Addr) : Sp := fun vs H Q _ => ∃ (N : Addr → Prop) (x d t a b : Addr) (L : List (Option Pr)) (one other : Row), vs = [.ref x, .ref a, .ref b] ∧ Ti C N H x d t L ∧ RowAt H a one ∧ RowAt H b other ∧ one.length ≤ 1000 ∧ other.length ≤ 1000 ∧ L.length ≤ 1000 ∧ (∀ q, H q = none → ¬ N q) ∧
  ∀ H', Ti C N H' x d t (L ++ [some (plainF one, plainF other)]) → (∀ a o, H a = some o → a ≠ x → a ≠ t → H' a = some o) → Q (.int (L.length : Nat)) H'
abbrev sTies___init__ : Stmt := mtop 10 0
abbrev sTies_tie : Stmt := mtop 10 1
theorem scTies___init__ : FnScope ["self"] ["self"] (defScope sTies___init__) := ⟨rfl, rfl, rfl, by decide +kernel, rfl, by decide +kernel, by decide +kernel⟩
theorem scTies_tie : FnScope ["self", "one", "other", "number"] ["self", "one", "other"] (defScope sTies_tie) := ⟨rfl, rfl, rfl, by decide +kernel, rfl, by decide +kernel, by decide +kernel⟩
theorem ok_Ties___init__ {f C : Addr} {fd : FuncData} (F : Fun K "__init__" "Ties.__init__" sTies___init__ f fd) (cl : Cls K C) (ng : NoAttr K C "given") (np : NoAttr K C "pairs") : FnOk P w K mg base CX0 1 f fd ["self"] (spTInit C) := by
  refine F.ok scTies___init__ (fun vs H Q E h => ?_) (fun cdv A outer s H vs Q E hr h => ?_)
  · obtain ⟨x, d, rfl, _⟩ := h
    rfl
  obtain ⟨x, d, rfl, hx, k⟩ := h
  refine ⟨_, (pss_cons (ps_fld (pv 0) pe_int rfl)
      (pss_one (ps_fld (pv 0) pe_dnewK rfl))), ?_⟩
  refine ⟨_, rfl, x, C, d, _, rfl, hx, cl, ng, by decide, ?_⟩
  have k1 : Keep x H (upd H x (.ins C d (L2.putF "given" (.int 0) []))) := keep_upd x _ _
  have h1 : (upd H x (.ins C d (L2.putF "given" (.int 0) []))) x = some (.ins C d [("given", .int 0)]) := upd_same
  generalize upd H x (.ins C d (L2.putF "given" (.int 0) [])) = H1 at k1 h1
  intro t ht
  have nt : t ≠ x := (ne_of_none h1 ht).symm
  refine ⟨_, rfl, x, C, d, _, rfl, same_new ht _ _ _ h1, cl, np, (by show 1 < 1000; decide), ?_⟩
  refine k t _ (fun N => ⟨upd_same, [], by rw [upd_ne nt, upd_same], rfl⟩) (fun a o e n => ?_) (free_keep k1 nt ht)
  rw [upd_ne n]
  exact same_new ht _ a o (k1 a o e n)
theorem ok_Ties_tie {f C fP : Addr} {fd fdP : FuncData} (F : Fun K "tie" "Ties.tie" sTies_tie f fd) (cl : Cls K C) (ng : NoAttr K C "given") (np : NoAttr K C "pairs") (dplain : DefAt K mg "plain" splain ["row"] fP fdP) : FnOk P w K mg base CX0 2 f fd ["self", "one", "other"] (spTie C) := by
  have gplain : FnOk P w K mg base CX0 1 fP fdP ["row"] spPlain := ok_plain dplain.F
  refine F.ok scTies_tie (fun vs H Q E h => ?_) (fun cdv A outer s H vs Q E hr h => ?_)
  · obtain ⟨N, x, d, t, a, b, L, one, other, rfl, _⟩ := h
    rfl
  obtain ⟨N, x, d, t, a, b, L, one, other, rfl, ⟨hx, kvs, ht, dk⟩, R1, R2, l1, l2, lL, hN, k⟩ := h
  have hu := hu_of hr
  refine ⟨_, (pss_cons (ps_set (i := 3) scTies_tie.nd rfl (Or.inl rfl) (pe_fld (pv 0) rfl))
      (pss_cons (ps_dput hu (pe_fld (pv 0) rfl) (pv 3) (pe_tup (pa_cons (pe_def dplain gplain hr (pa_cons (pv 1) pa_nil)) (pa_cons (pe_def dplain gplain hr (pa_cons (pv 2) pa_nil)) pa_nil))) rfl)
      (pss_cons (ps_fldaug (pv 0) pe_int in_add)
      (pss_one (ps_ret (pv 3)))))), ?_⟩
  refine ⟨_, rfl, x, C, d, _, .int (L.length : Nat), rfl, hx, cl, ng, rfl, ?_⟩
  refine ⟨_, rfl, a, one, rfl, R1, by omega, fun ra H1 Q1 s1 f1 => ?_⟩
  refine ⟨_, rfl, b, other, rfl, R2.same s1, by omega, fun rb H2 Q2 s2 f2 => ?_⟩
  refine ⟨(by show 2 ≤ sizeLine; decide), fun p hp => ?_⟩
  have s3 : Same H2 (upd H2 p (.tup [.ref ra, .ref rb])) := same_new hp _
  have h3 : (upd H2 p (.tup [.ref ra, .ref rb])) p = some (.tup [.ref ra, .ref rb]) := upd_same
  generalize upd H2 p (.tup [.ref ra, .ref rb]) = H3 at s3 h3
  have s13 := s1.trans (s2.trans s3)
  have hx3 := s13 _ _ hx
  have ht3 := s13 _ _ ht
  have len := dk.len
  refine ⟨_, rfl, x, C, d, _, .ref t, rfl, hx3, cl, np, rfl, _, rfl, t, _, rfl, DPut.k (k := Sum.inl ((L.length : Nat) : Int)) ht3 (million (by omega)), ?_⟩
  have nxt : x ≠ t := ne_of hx3 ht3 (by intro z; cases z)
  have k4 : Keep t H3 (upd H3 t (.dK (putK kvs (Sum.inl ((L.length : Nat) : Int)) (.ref p)))) := keep_upd t _ _
  have ht4 : (upd H3 t (.dK (putK kvs (Sum.inl ((L.length : Nat) : Int)) (.ref p)))) t = some (.dK (putK kvs (Sum.inl ((L.length : Nat) : Int)) (.ref p))) := upd_same
  generalize upd H3 t (.dK (putK kvs (Sum.inl ((L.length : Nat) : Int)) (.ref p))) = H4 at k4 ht4
  have hx4 := k4 _ _ hx3 nxt
  refine ⟨_, rfl, x, C, d, _, .int (L.length : Nat), rfl, hx4, cl, ng, rfl, _, _, rfl, rfl, d, _, hx4, (by show 2 < 1000; decide), ?_⟩
  refine ⟨_, rfl, k _ ⟨?_, putK kvs (Sum.inl ((L.length : Nat) : Int)) (.ref p), by rw [upd_ne nxt.symm]; exact ht4, ?_⟩ fun y o e n m => ?_⟩
  · rw [upd_same, List.length_append]
    rfl
  · rw [putK_end dk]
    have mvk : ∀ y o, H y = some o → ((∃ xs, o = .tup xs) ∨ ((∃ xs, o = .lst xs) ∧ ¬ N y)) → (upd H4 x (.ins C d (L2.putF "given" (.int (((L.length : Nat) : Int) + 1)) [("given", .int (L.length : Nat)), ("pairs", .ref t)]))) y = some o := fun y o e z => by
      have ny : y ≠ x ∧ y ≠ t := by
        rcases z with ⟨xs, rfl⟩ | ⟨⟨xs, rfl⟩, _⟩
        · exact ⟨ne_of e hx (by intro z; cases z), ne_of e ht (by intro z; cases z)⟩
        · exact ⟨ne_of e hx (by intro z; cases z), ne_of e ht (by intro z; cases z)⟩
      rw [upd_ne ny.1]
      exact k4 _ _ (s13 _ _ e) ny.2
    have mv3 : ∀ y o, H3 y = some o → ((∃ xs, o = .tup xs) ∨ (∃ xs, o = .lst xs)) → (upd H4 x (.ins C d (L2.putF "given" (.int (((L.length : Nat) : Int) + 1)) [("given", .int (L.length : Nat)), ("pairs", .ref t)]))) y = some o := fun y o e z => by
      have ny : y ≠ x ∧ y ≠ t := by
        rcases z with ⟨xs, rfl⟩ | ⟨xs, rfl⟩
        · exact ⟨ne_of e hx3 (by intro z; cases z), ne_of e ht3 (by intro z; cases z)⟩
        · exact ⟨ne_of e hx3 (by intro z; cases z), ne_of e ht3 (by intro z; cases z)⟩
      rw [upd_ne ny.1]
      exact k4 _ _ e ny.2
    have f2' : H rb = none := free_same s1 f2
    refine DkAt.snoc ?_ L 0 kvs (DkAt.mv mvk (fun a xs e n => n) L 0 kvs dk)
    obtain ⟨as, g1, p1⟩ := (Q1.same s2).same s3
    obtain ⟨bs, g2, p2⟩ := Q2.same s3
    exact ⟨p, ra, rb, rfl, mv3 _ _ h3 (.inl ⟨_, rfl⟩), ⟨as, mv3 _ _ g1 (.inr ⟨_, rfl⟩), p1.tups fun y xs e => mv3 _ _ e (.inl ⟨xs, rfl⟩)⟩, ⟨bs, mv3 _ _ g2 (.inr ⟨_, rfl⟩), p2.tups fun y xs e => mv3 _ _ e (.inl ⟨xs, rfl⟩)⟩, hN _ f1, hN _ f2'⟩
  · rw [upd_ne n]
    exact k4 _ _ (s13 _ _ e) m


def spTLive (C : Addr) : Sp := fun vs H Q _ => ∃ (N : Addr → Prop) (x d t : Addr) (L : List (Option Pr)), vs = [.ref x] ∧ Ti C N H x d t L ∧ ∀ (q : Addr) (H' : Hp), H' q = some (.lst ((liveI 0 L).map V.int)) → Same H H' → H q = none → Q (.ref q) H'
abbrev sTies_live : Stmt := mtop 10 5
theorem scTies_live : FnScope ["self"] ["self"] (defScope sTies_live) := ⟨rfl, rfl, rfl, by decide +kernel, rfl, by decide +kernel, by decide +kernel⟩

theorem ok_Ties_live {f C : Addr} {fd : FuncData} (F : Fun K "live" "Ties.live" sTies_live f fd) (T : Nms mg) (cl : Cls K C) (np : NoAttr K C "pairs") : FnOk P w K mg base CX0 1 f fd ["self"] (spTLive C) := by
  refine F.ok scTies_live (fun vs H Q E h => ?_) (fun cdv A outer s H vs Q E hr h => ?_)
  · obtain ⟨N, x, d, t, L, rfl, _⟩ := h
    rfl
  obtain ⟨N, x, d, t, L, rfl, ⟨hx, kvs, ht, dk⟩, k⟩ := h
  refine ⟨_, (pss_one (ps_ret (pe_callTy (call_listD rfl) rfl T.n_list PyProof.Rows.boot_list (pa_cons (pe_fld (pv 0) rfl) pa_nil)))), ?_⟩
  refine ⟨_, rfl, x, C, d, _, .ref t, rfl, hx, cl, np, rfl, t, kvs, rfl, ht, fun q hq => ?_⟩
  rw [DkAt.keys L 0 kvs dk]
  exact k q _ upd_same (same_new hq _) hq

/-! the ties on a row -/
open Classical in
noncomputable def hitB (a b : Row) : Bool := decide (∃ x, In a x ∧ In b x)
open Classical in
theorem hitB_iff {a b : Row} : hitB a b = true ↔ ∃ x, In a x ∧ In b x := by unfold hitB; exact decide_eq_true_iff
noncomputable def prH (f : Pr → Row) (row : Row) (L : List (Option Pr)) (n : Int) : Bool := match L[n.toNat]? with
  | some (some r) => hitB (f r) row
  | _ => false
theorem live_mem : ∀ (L : List (Option Pr)) (i n : Int), n ∈ liveI i L → ∃ (j : Nat) (r : Pr), n = i + j ∧ L[j]? = some (some r)
  | [], i, n, h => by cases h
  | none :: L, i, n, h => by
    obtain ⟨j, r, a, b⟩ := live_mem L (i + 1) n h
    exact ⟨j + 1, r, by omega, by simpa using b⟩
  | some q :: L, i, n, h => by
    rcases List.mem_cons.mp h with rfl | h
    · exact ⟨0, q, by simp, rfl⟩
    · obtain ⟨j, r, a, b⟩ := live_mem L (i + 1) n h
      exact ⟨j + 1, r, by omega, by simpa using b⟩
theorem live_rise : ∀ (L : List (Option Pr)) (i : Int), (liveI i L).Pairwise (· < ·)
  | [], i => .nil
  | none :: L, i => live_rise L (i + 1)
  | some q :: L, i => List.pairwise_cons.mpr ⟨fun n h => by obtain ⟨j, r, a, b⟩ := live_mem L (i + 1) n h; omega, live_rise L (i + 1)⟩
def RwOk (L : List (Option Pr)) : Prop := ∀ r ∈ L, ∀ q, r = some q → Ok q.1 ∧ Ok q.2 ∧ q.1.length < 30 ∧ q.2.length < 30
noncomputable def spOnOne (C : Addr) (f : Pr → Row) : Sp := fun vs H Q _ => ∃ (N : Addr → Prop) (x d t b : Addr) (L : List (Option Pr)) (row : Row), vs = [.ref x, .ref b] ∧ Ti C N H x d t L ∧ RowAt H b row ∧ Ok row ∧ row.length < 30 ∧ RwOk L ∧ L.length ≤ 30 ∧
  ∀ (q : Addr) (H' : Hp), H' q = some (.lst (((liveI 0 L).filter (prH f row L)).map V.int)) → Same H H' → H q = none → Q (.ref q) H'
noncomputable def spOn (C : Addr) : Sp := fun vs H Q _ => ∃ (N : Addr → Prop) (x d t b : Addr) (L : List (Option Pr)) (row : Row), vs = [.ref x, .ref b] ∧ Ti C N H x d t L ∧ RowAt H b row ∧ Ok row ∧ row.length < 30 ∧ RwOk L ∧ L.length ≤ 30 ∧
  ∀ (q : Addr) (H' : Hp), H' q = some (.lst (((liveI 0 L).filter fun n => prH Prod.fst row L n || prH Prod.snd row L n).map V.int)) → Same H H' → H q = none → Q (.ref q) H'
abbrev sTies_leaving : Stmt := mtop 10 6
abbrev sTies_coming : Stmt := mtop 10 7
abbrev sTies_on : Stmt := mtop 10 8
theorem scTies_leaving : FnScope ["self", "row"] ["self", "row"] (defScope sTies_leaving) := ⟨rfl, rfl, rfl, by decide +kernel, rfl, by decide +kernel, by decide +kernel⟩
theorem scTies_coming : FnScope ["self", "row"] ["self", "row"] (defScope sTies_coming) := ⟨rfl, rfl, rfl, by decide +kernel, rfl, by decide +kernel, by decide +kernel⟩
theorem scTies_on : FnScope ["self", "row"] ["self", "row"] (defScope sTies_on) := ⟨rfl, rfl, rfl, by decide +kernel, rfl, by decide +kernel, by decide +kernel⟩
set_option maxHeartbeats 2000000 in
theorem ok_Ties_leaving {f C fi fl fm fP fS fZ : Addr} {fd gl gm gP gS gZ : FuncData} (F : Fun K "leaving" "Ties.leaving" sTies_leaving f fd) (T : Nms mg) (cTies : ClsAt K mg "Ties" C fi) (np : NoAttr K C "pairs") (dTies_live : MetAt K C "live" "Ties.live" sTies_live ["self"] fl gl)
    (dmeets : DefAt K mg "meets" smeets ["one", "other"] fm gm) (dplain : DefAt K mg "plain" splain ["row"] fP gP) (dspread : DefAt K mg "spread" sspread ["row"] fS gS) (dsize : DefAt K mg "size" ssize ["row"] fZ gZ) : FnOk P w K mg base CX0 4 f fd ["self", "row"] (spOnOne C Prod.fst) := by
  have gTies_live : FnOk P w K mg base CX0 1 _ _ ["self"] (spTLive C) := ok_Ties_live dTies_live.F T cTies.cl np
  have gmeets : FnOk P w K mg base CX0 3 _ _ ["one", "other"] spMeets := ok_meets dmeets.F T dplain dspread dsize
  refine F.ok scTies_leaving (fun vs H Q E h => ?_) (fun cdv A outer s H vs Q E hr h => ?_)
  · obtain ⟨N, x, d, t, b, L, row, rfl, _⟩ := h
    rfl
  obtain ⟨N, x, d, t, b, L, row, rfl, ti, R, ok, lr, rw, lL, k⟩ := h
  have hu := hu_of hr
  refine ⟨_, (pss_one (ps_ret (pe_compG (N := ["number", "self", "row"]) (compG (sc := defScope sTies_leaving) (NX := ["self", "row"]) (jx := [none, some 0, some 1]) rfl rfl rfl (by decide +kernel) (by decide +kernel) rfl (by decide +kernel) rfl (by decide +kernel)) rfl (pi_list (pe_meth0 (pv 0) cTies.cl dTies_live.mt gTies_live (hr.mono (by decide)) dTies_live.b .nil pass0)) (fun _ _ _ _ _ _ => (pg_name (i := 0) (show List.Nodup (["number", "self", "row"] : List Str) by decide +kernel) rfl (Or.inl rfl))) (fun _ _ _ _ _ _ => pts_one (pt_val (pe_def dmeets gmeets hr (pa_cons (pe_ix ixF_tup (pe_dget hu (peF_fld (pv 1) rfl) (pv 0) (fun _ _ => rfl)) pe_int (fun _ _ => rfl)) (pa_cons (pv 2) pa_nil))))) (fun _ _ _ _ _ _ => (pv 0))))), ?_⟩
  refine ⟨_, rfl, x, d, _, rfl, ti.1, rfl, N, x, d, t, L, rfl, ti, fun q0 H0 h0 s0 f0 => ?_⟩
  refine ⟨q0, rfl, ⟨_, SqL.of h0⟩, fun acc hacc => compF_list (K := K) (a := q0) (xs := (liveI 0 L).map V.int) (fun i σ H2 => ∃ u : Option V, σ = [u, some (.ref x), some (.ref b)] ∧ H2 acc = some (.lst ((((liveI 0 L).take i).filter (prH Prod.fst row L)).map V.int)) ∧ Same H0 H2)
    ⟨none, rfl, upd_same, same_new hacc _⟩ (fun i σ H2 _ ⟨_, _, _, s2⟩ => SqL.of (s2 _ _ h0)) ?_ ?_⟩
  · rintro i y σ H2 hi ⟨u, rfl, h2, s2⟩
    rw [List.getElem?_map] at hi
    obtain ⟨n, en, rfl⟩ := Option.map_eq_some_iff.mp hi
    have st := take_snoc en
    have s02 := s0.trans s2
    have ti2 := Ti.same ti s02 (fun _ _ _ z => z)
    obtain ⟨hx, kvs, ht, dk⟩ := id ti2
    obtain ⟨j, r, ej, er⟩ := live_mem L 0 n (List.mem_of_getElem? en)
    have bl : (((liveI 0 L).take i).filter (prH Prod.fst row L)).length ≤ 1000 := by
      have z := List.length_filter_le (prH Prod.fst row L) ((liveI 0 L).take i)
      have z2 := liveI_len L 0
      rw [List.length_take] at z
      omega
    rcases DkAt.get L 0 kvs dk n with ⟨j', r', v, e', b', c, pa, ra, rb, rfl, hp, R1, R2, _, _⟩ | ⟨_, c⟩
    · have : j' = j := by omega
      subst this
      rw [er] at b'
      cases b'
      obtain ⟨k1, k2, k3, k4⟩ := rw _ (List.mem_of_getElem? er) r rfl
      have ep : prH Prod.fst row L n = hitB r.1 row := by
        unfold prH
        rw [show n.toNat = j' by omega, er]
      refine ⟨_, rfl, x, C, d, _, .ref t, rfl, hx, cTies.cl, np, rfl, _, rfl, t, .ref pa, rfl, .inl ⟨kvs, Sum.inl n, .inl ht, rfl, c.symm⟩, pa, _, _, _, rfl, rfl, SqT.of hp, at20, _, rfl, ra, b, r.1, row, rfl, R1, R.same s02, by omega, k1, ok, fun bb H3 hb s3 => ⟨_, rfl, ?_⟩⟩
      have eb : bb = prH Prod.fst row L n := by
        rw [ep]
        cases bb with
        | true => exact (hitB_iff.mpr (hb.mp rfl)).symm
        | false =>
          cases e : hitB r.1 row with
          | false => rfl
          | true => exact absurd (hb.mpr (hitB_iff.mp e)) (by simp)
      rw [eb]
      cases e : prH Prod.fst row L n with
      | true =>
        refine iteT ⟨_, rfl, _, s3 _ _ h2, (by rw [List.length_map]; exact million (by omega)), _, rfl, ?_, keep_of hacc (s2.trans s3) (keep_upd acc _ _)⟩
        rw [upd_same, st, List.filter_append, List.filter_cons_of_pos (p := prH Prod.fst row L) e, List.map_append]
        rfl
      | false =>
        refine iteF ⟨_, rfl, ?_, s2.trans s3⟩
        rw [st, List.filter_append, List.filter_cons_of_neg (p := prH Prod.fst row L) (by rw [e]; exact Bool.false_ne_true), List.filter_nil, List.append_nil]
        exact s3 _ _ h2
    · exact absurd er (c j r (by omega))
  · rintro σ H2 ⟨u, rfl, h2, s2⟩
    rw [List.length_map, List.take_length] at h2
    exact k acc H2 h2 (s0.trans s2) (free_same s0 hacc)
set_option maxHeartbeats 2000000 in
theorem ok_Ties_coming {f C fi fl fm fP fS fZ : Addr} {fd gl gm gP gS gZ : FuncData} (F : Fun K "coming" "Ties.coming" sTies_coming f fd) (T : Nms mg) (cTies : ClsAt K mg "Ties" C fi) (np : NoAttr K C "pairs") (dTies_live : MetAt K C "live" "Ties.live" sTies_live ["self"] fl gl)
    (dmeets : DefAt K mg "meets" smeets ["one", "other"] fm gm) (dplain : DefAt K mg "plain" splain ["row"] fP gP) (dspread : DefAt K mg "spread" sspread ["row"] fS gS) (dsize : DefAt K mg "size" ssize ["row"] fZ gZ) : FnOk P w K mg base CX0 4 f fd ["self", "row"] (spOnOne C Prod.snd) := by
  have gTies_live : FnOk P w K mg base CX0 1 _ _ ["self"] (spTLive C) := ok_Ties_live dTies_live.F T cTies.cl np
  have gmeets : FnOk P w K mg base CX0 3 _ _ ["one", "other"] spMeets := ok_meets dmeets.F T dplain dspread dsize
  refine F.ok scTies_coming (fun vs H Q E h => ?_) (fun cdv A outer s H vs Q E hr h => ?_)
  · obtain ⟨N, x, d, t, b, L, row, rfl, _⟩ := h
    rfl
  obtain ⟨N, x, d, t, b, L, row, rfl, ti, R, ok, lr, rw, lL, k⟩ := h
  have hu := hu_of hr
  refine ⟨_, (pss_one (ps_ret (pe_compG (N := ["number", "self", "row"]) (compG (sc := defScope sTies_coming) (NX := ["self", "row"]) (jx := [none, some 0, some 1]) rfl rfl rfl (by decide +kernel) (by decide +kernel) rfl (by decide +kernel) rfl (by decide +kernel)) rfl (pi_list (pe_meth0 (pv 0) cTies.cl dTies_live.mt gTies_live (hr.mono (by decide)) dTies_live.b .nil pass0)) (fun _ _ _ _ _ _ => (pg_name (i := 0) (show List.Nodup (["number", "self", "row"] : List Str) by decide +kernel) rfl (Or.inl rfl))) (fun _ _ _ _ _ _ => pts_one (pt_val (pe_def dmeets gmeets hr (pa_cons (pe_ix ixF_tup (pe_dget hu (peF_fld (pv 1) rfl) (pv 0) (fun _ _ => rfl)) pe_int (fun _ _ => rfl)) (pa_cons (pv 2) pa_nil))))) (fun _ _ _ _ _ _ => (pv 0))))), ?_⟩
  refine ⟨_, rfl, x, d, _, rfl, ti.1, rfl, N, x, d, t, L, rfl, ti, fun q0 H0 h0 s0 f0 => ?_⟩
  refine ⟨q0, rfl, ⟨_, SqL.of h0⟩, fun acc hacc => compF_list (K := K) (a := q0) (xs := (liveI 0 L).map V.int) (fun i σ H2 => ∃ u : Option V, σ = [u, some (.ref x), some (.ref b)] ∧ H2 acc = some (.lst ((((liveI 0 L).take i).filter (prH Prod.snd row L)).map V.int)) ∧ Same H0 H2)
    ⟨none, rfl, upd_same, same_new hacc _⟩ (fun i σ H2 _ ⟨_, _, _, s2⟩ => SqL.of (s2 _ _ h0)) ?_ ?_⟩
  · rintro i y σ H2 hi ⟨u, rfl, h2, s2⟩
    rw [List.getElem?_map] at hi
    obtain ⟨n, en, rfl⟩ := Option.map_eq_some_iff.mp hi
    have st := take_snoc en
    have s02 := s0.trans s2
    have ti2 := Ti.same ti s02 (fun _ _ _ z => z)
    obtain ⟨hx, kvs, ht, dk⟩ := id ti2
    obtain ⟨j, r, ej, er⟩ := live_mem L 0 n (List.mem_of_getElem? en)
    have bl : (((liveI 0 L).take i).filter (prH Prod.snd row L)).length ≤ 1000 := by
      have z := List.length_filter_le (prH Prod.snd row L) ((liveI 0 L).take i)
      have z2 := liveI_len L 0
      rw [List.length_take] at z
      omega
    rcases DkAt.get L 0 kvs dk n with ⟨j', r', v, e', b', c, pa, ra, rb, rfl, hp, R1, R2, _, _⟩ | ⟨_, c⟩
    · have : j' = j := by omega
      subst this
      rw [er] at b'
      cases b'
      obtain ⟨k1, k2, k3, k4⟩ := rw _ (List.mem_of_getElem? er) r rfl
      have ep : prH Prod.snd row L n = hitB r.2 row := by
        unfold prH
        rw [show n.toNat = j' by omega, er]
      refine ⟨_, rfl, x, C, d, _, .ref t, rfl, hx, cTies.cl, np, rfl, _, rfl, t, .ref pa, rfl, .inl ⟨kvs, Sum.inl n, .inl ht, rfl, c.symm⟩, pa, _, _, _, rfl, rfl, SqT.of hp, at21, _, rfl, rb, b, r.2, row, rfl, R2, R.same s02, by omega, k2, ok, fun bb H3 hb s3 => ⟨_, rfl, ?_⟩⟩
      have eb : bb = prH Prod.snd row L n := by
        rw [ep]
        cases bb with
        | true => exact (hitB_iff.mpr (hb.mp rfl)).symm
        | false =>
          cases e : hitB r.2 row with
          | false => rfl
          | true => exact absurd (hb.mpr (hitB_iff.mp e)) (by simp)
      rw [eb]
      cases e : prH Prod.snd row L n with
      | true =>
        refine iteT ⟨_, rfl, _, s3 _ _ h2, (by rw [List.length_map]; exact million (by omega)), _, rfl, ?_, keep_of hacc (s2.trans s3) (keep_upd acc _ _)⟩
        rw [upd_same, st, List.filter_append, List.filter_cons_of_pos (p := prH Prod.snd row L) e, List.map_append]
        rfl
      | false =>
        refine iteF ⟨_, rfl, ?_, s2.trans s3⟩
        rw [st, List.filter_append, List.filter_cons_of_neg (p := prH Prod.snd row L) (by rw [e]; exact Bool.false_ne_true), List.filter_nil, List.append_nil]
        exact s3 _ _ h2
    · exact absurd er (c j r (by omega))
  · rintro σ H2 ⟨u, rfl, h2, s2⟩
    rw [List.length_map, List.take_length] at h2
    exact k acc H2 h2 (s0.trans s2) (free_same s0 hacc)
set_option maxHeartbeats 2000000 in
theorem ok_Ties_on {f C fi fl fo fv fm fP fS fZ : Addr} {fd gl go gv gm gP gS gZ : FuncData} (F : Fun K "on" "Ties.on" sTies_on f fd) (T : Nms mg) (cTies : ClsAt K mg "Ties" C fi) (np : NoAttr K C "pairs") (dTies_live : MetAt K C "live" "Ties.live" sTies_live ["self"] fl gl)
    (dTies_leaving : MetAt K C "leaving" "Ties.leaving" sTies_leaving ["self", "row"] fo go) (dTies_coming : MetAt K C "coming" "Ties.coming" sTies_coming ["self", "row"] fv gv)
    (dmeets : DefAt K mg "meets" smeets ["one", "other"] fm gm) (dplain : DefAt K mg "plain" splain ["row"] fP gP) (dspread : DefAt K mg "spread" sspread ["row"] fS gS) (dsize : DefAt K mg "size" ssize ["row"] fZ gZ) : FnOk P w K mg base CX0 5 f fd ["self", "row"] (spOn C) := by
  have gTies_leaving : FnOk P w K mg base CX0 4 _ _ ["self", "row"] (spOnOne C Prod.fst) := ok_Ties_leaving dTies_leaving.F T cTies np dTies_live dmeets dplain dspread dsize
  have gTies_coming : FnOk P w K mg base CX0 4 _ _ ["self", "row"] (spOnOne C Prod.snd) := ok_Ties_coming dTies_coming.F T cTies np dTies_live dmeets dplain dspread dsize
  refine F.ok scTies_on (fun vs H Q E h => ?_) (fun cdv A outer s H vs Q E hr h => ?_)
  · obtain ⟨N, x, d, t, b, L, row, rfl, _⟩ := h
    rfl
  obtain ⟨N, x, d, t, b, L, row, rfl, ti, R, ok, lr, rw, lL, k⟩ := h
  refine ⟨_, (pss_one (ps_ret (pe_callB (InkZ.call_sortedS rfl) rfl T.n_sorted PyProof.Rows.boot_sorted (pa_cons (pe_callTy (InkZ.call_setI rfl) rfl T.n_set PyProof.Rows.boot_set (pa_cons (pe_op op_cat (pe_meth (pv 0) cTies.cl dTies_leaving.mt gTies_leaving (hr.mono (by decide)) dTies_leaving.b .nil pass0 (pa_cons (pv 1) pa_nil)) (pe_meth (pv 0) cTies.cl dTies_coming.mt gTies_coming (hr.mono (by decide)) dTies_coming.b .nil pass0 (pa_cons (pv 1) pa_nil))) pa_nil)) pa_nil)))), ?_⟩
  have z2 := liveI_len L 0
  have za := List.length_filter_le (prH Prod.fst row L) (liveI 0 L)
  have zb := List.length_filter_le (prH Prod.snd row L) (liveI 0 L)
  refine ⟨_, rfl, x, d, _, rfl, ti.1, rfl, _, rfl, N, x, d, t, b, L, row, rfl, ti, R, ok, lr, rw, lL, fun q1 H1 h1 s1 f1 => ?_⟩
  have ti1 := Ti.same ti s1 (fun _ _ _ z => z)
  refine ⟨_, rfl, x, d, _, rfl, ti1.1, rfl, _, rfl, N, x, d, t, b, L, row, rfl, ti1, R.same s1, ok, lr, rw, lL, fun q2 H2 h2 s2 f2 => ?_⟩
  refine ⟨q1, q2, _, _, rfl, rfl, s2 _ _ h1, h2, (by rw [List.length_map, List.length_map]; exact Nat.le_of_lt (million (by omega))), fun m hm => ?_⟩
  have s3 : Same H2 (upd H2 m (.lst ((((liveI 0 L).filter (prH Prod.fst row L)).map V.int) ++ ((liveI 0 L).filter (prH Prod.snd row L)).map V.int))) := same_new hm _
  have h3 : (upd H2 m (.lst ((((liveI 0 L).filter (prH Prod.fst row L)).map V.int) ++ ((liveI 0 L).filter (prH Prod.snd row L)).map V.int))) m = some (.lst (((liveI 0 L).filter (prH Prod.fst row L) ++ (liveI 0 L).filter (prH Prod.snd row L)).map V.int)) := by rw [upd_same, List.map_append]
  generalize upd H2 m (.lst ((((liveI 0 L).filter (prH Prod.fst row L)).map V.int) ++ ((liveI 0 L).filter (prH Prod.snd row L)).map V.int)) = H3 at s3 h3
  refine ⟨m, _, rfl, h3, (by rw [List.length_append]; omega), fun S ms hS D lm => ?_⟩
  refine ⟨S, ms, rfl, upd_same, lm, fun l ks hl pm pw => ?_⟩
  have s4 := same_new hS (InkZ.SetV P w S ms)
  have s5 := same_new hl (.lst (ks.map V.int))
  have s15 := s1.trans (s2.trans (s3.trans (s4.trans s5)))
  have ek : ks = (liveI 0 L).filter fun n => prH Prod.fst row L n || prH Prod.snd row L n := by
    refine rise_ext ?_ ((live_rise L 0).filter _) fun n => ?_
    · have nd : ks.Nodup := pm.nodup_iff.mpr D.1
      exact (pw.and nd).imp fun h => by have := h.1; have := h.2; omega
    · rw [pm.mem_iff, D.2, List.mem_append, List.mem_filter, List.mem_filter, List.mem_filter, Bool.or_eq_true]
      constructor
      · rintro (⟨a, c⟩ | ⟨a, c⟩)
        · exact ⟨a, .inl c⟩
        · exact ⟨a, .inr c⟩
      · rintro ⟨a, c | c⟩
        · exact .inl ⟨a, c⟩
        · exact .inr ⟨a, c⟩
  exact k l _ (by rw [upd_same, ek]) s15 (free_same (s1.trans (s2.trans (s3.trans s4))) hl)



def Gr2 (row : Row) : Prop := ∀ p ∈ row, 0 ≤ p.1 ∧ p.1 ≤ p.2 ∧ p.2 ≤ 10 ^ 41
def spNear : Sp := fun vs H Q _ => ∃ (l c r : Addr) (row : Row), vs = [.ref l, .ref r] ∧ SrcOk H l c ∧ RowAt H r row ∧ Great row ∧ row.length ≤ 6 ∧ r ≠ l ∧
  ∀ (q : Addr) (other : Row) (H' : Hp), RowAt H' q other → other.length ≤ 4 → Gr2 other → SrcOk H' l c → Keep l H H' → H q = none → Q (.ref q) H'
structure NbI (H : Hp) (l c r q : Addr) (row other : Row) : Prop where
  s : SrcOk H l c
  R : RowAt H r row
  O : RowAt H q other
  g : Great row
  lr : row.length ≤ 6
  g2 : Gr2 other
  n : r ≠ l ∧ q ≠ l ∧ q ≠ c ∧ r ≠ q
theorem NbI.mv {H H' : Hp} {l c r q : Addr} {row other : Row} (h : NbI H l c r q row other) (s : SrcOk H' l c) (k : Keep l H H') : NbI H' l c r q row other := by
  obtain ⟨ls, hl⟩ := h.s.lst
  exact ⟨s, h.R.keep hl h.n.1 k, h.O.keep hl h.n.2.1 k, h.g, h.lr, h.g2, h.n⟩
theorem NbI.put {H H' : Hp} {l c r q : Addr} {row other : Row} {new : Row} (h : NbI H l c r q row other) (k : Keep q H H') (O' : RowAt H' q (other ++ new)) (g : Gr2 new) : NbI H' l c r q row (other ++ new) := by
  obtain ⟨as, ha, _⟩ := h.O
  refine ⟨h.s.keep k h.n.2.1.symm h.n.2.2.1.symm, h.R.keep ha h.n.2.2.2 k, O', h.g, h.lr, fun p hp => ?_, h.n⟩
  rcases List.mem_append.mp hp with z | z
  · exact h.g2 p z
  · exact g p z
def nbT : TS := fun D σ H => ∃ (s3 s4 s5 s6 : Option V) (l c r q : Addr) (row other : Row), σ = [some (.ref l), some (.ref r), some (.ref q), s3, s4, s5, s6] ∧ NbI H l c r q row other ∧ other.length ≤ 10 ∧
  ∀ (s4' s5' s6' : Option V) (new : Row) (H' : Hp), NbI H' l c r q row (other ++ new) → new.length ≤ 1 → (∀ a o, H a = some o → a ≠ l → a ≠ q → H' a = some o) → D.nx [some (.ref l), some (.ref r), some (.ref q), s3, s4', s5', s6'] H'
abbrev s_law_near_by : Stmt := top 21
theorem sc_law_near_by : FnScope ["_law_src_here", "_law_row", "_law_other", "_law_k", "_law_first", "_law_last", "_law_low"] ["_law_src_here", "_law_row"] (defScope s_law_near_by) := ⟨rfl, rfl, rfl, by decide +kernel, rfl, by decide +kernel, by decide +kernel⟩
set_option maxHeartbeats 2000000 in
theorem ok_law_near_by {f fN fS fB : Addr} {fd gN gS gB : FuncData} (F : Fun K "_law_near_by" "_law_near_by" s_law_near_by f fd) (T : Nms mg) (d_law_next : DefAt K mg "_law_next" s_law_next ["_law_src_here", "_law_base"] fN gN) (d_law_spot : DefAt K mg "_law_spot" s_law_spot ["_law_src_here", "_law_total_here"] fS gS) (d_law_big_by : DefAt K mg "_law_big_by" s_law_big_by ["_law_src_here", "_law_most"] fB gB) : FnOk P w K mg base CX0 3 f fd ["_law_src_here", "_law_row"] spNear := by
  have g_law_next : FnOk P w K mg base CX0 1 _ _ ["_law_src_here", "_law_base"] spNext := ok_law_next d_law_next.F T
  have g_law_spot : FnOk P w K mg base CX0 2 _ _ ["_law_src_here", "_law_total_here"] spSpot := ok_law_spot d_law_spot.F T d_law_next
  have g_law_big_by : FnOk P w K mg base CX0 2 _ _ ["_law_src_here", "_law_most"] spBigBy := ok_law_big_by d_law_big_by.F T d_law_next
  refine F.ok sc_law_near_by (fun vs H Q E h => ?_) (fun cdv A outer s H vs Q E hr h => ?_)
  · obtain ⟨l, c, r, row, rfl, _⟩ := h
    rfl
  obtain ⟨l, c, r, row, rfl, S, R, gr, lr, nrl, k⟩ := h
  refine ⟨_, (pss_cons (ps_set (i := 2) sc_law_near_by.nd rfl (Or.inl rfl) (pe_lst pa_nil))
      (pss_cons (ps_for PassesOwn.never rfl (pi_range1 rfl T.n_range (pa_cons (pe_def d_law_next g_law_next hr (pa_cons (pv 0) (pa_cons pe_int pa_nil))) pa_nil)) (pg_name (i := 3) sc_law_near_by.nd rfl (Or.inl rfl))
      (pss_one (ps_imp (t' := nbT) (ps_if (PW.pt (pw_and (pt_cmpR op_gt (pe_callB call_len_seq rfl T.n_len PySem.boot_len (pa_cons (pv 1) pa_nil)) pe_int (nomark _)) (pw_and1 (pt_cmpR op_eq (pe_def d_law_next g_law_next hr (pa_cons (pv 0) (pa_cons pe_int pa_nil))) pe_int (nomark _)))))
      (pss_cons (ps_asg (pe_ix ix_list (pv 1) (pe_def d_law_next g_law_next hr (pa_cons (pv 0) (pa_cons (pe_callB call_len_seq rfl T.n_len PySem.boot_len (pa_cons (pv 1) pa_nil)) pa_nil))) (fun _ _ => rfl)) (pg_tup (n := 2) rfl (pgs_cons (pg_name (i := 4) sc_law_near_by.nd rfl (Or.inl rfl)) (pgs_cons (pg_name (i := 5) sc_law_near_by.nd rfl (Or.inl rfl)) pgs_nil))))
      (pss_cons (ps_set (i := 6) sc_law_near_by.nd rfl (Or.inl rfl) (pe_op op_add (pv 4) (pe_def d_law_spot g_law_spot hr (pa_cons (pv 0) (pa_cons (pe_op op_sub (pv 5) (pv 4)) pa_nil)))))
      (pss_one (ps_expr (pe_bm PySem.F.plainAttrs_list PySem.F.slot_list_append PySem.F.type_list_append mt_append (pv 2) (pa_cons (pe_tup (pa_cons (pv 6) (pa_cons (pe_op op_add (pe_op op_add (pv 6) (pe_def d_law_spot g_law_spot hr (pa_cons (pv 0) (pa_cons (pe_op op_sub (pv 5) (pv 6)) pa_nil)))) (pe_def d_law_next g_law_next hr (pa_cons (pv 0) (pa_cons pe_int pa_nil)))) pa_nil))) pa_nil))))))
      (pss_one (ps_imp (t' := nbT) (ps_expr (pe_bm PySem.F.plainAttrs_list PySem.F.slot_list_extend PySem.F.type_list_extend mt_extend (pv 2) (pa_cons (pe_def d_law_big_by g_law_big_by hr (pa_cons (pv 0) (pa_cons pe_int pa_nil))) pa_nil))) ?b2))) ?b1)))
      (pss_one (ps_ret (pv 2))))), ?_⟩
  case b2 =>
    rintro D σ H ⟨s3, s4, s5, s6, l, c, r, q, row, other, rfl, N, lo, k⟩
    obtain ⟨as, ha, pa⟩ := id N.O
    have la := pa.len
    refine ⟨_, rfl, .inl ⟨rfl, _, SqL.of ha⟩, _, rfl, l, c, 1, rfl, N.s, by decide, by decide, fun b new H1 B1 lb gb S1 K1 fb => ?_⟩
    have N1 := N.mv S1 K1
    obtain ⟨as1, ha1, pa1⟩ := id N1.O
    obtain ⟨bs, hb, pb⟩ := id B1
    have lb' := pb.len
    have la1 := pa1.len
    refine ⟨q, b, _, _, rfl, rfl, ha1, hb, ?_, ?_⟩
    · rw [List.length_map, List.length_map]; exact Nat.le_of_lt (million (by omega))
    have K2 : Keep q H1 (upd H1 q (.lst (as1.map V.ref ++ bs.map V.ref))) := keep_upd q _ _
    refine k _ _ _ new _ (N1.put K2 ⟨as1 ++ bs, by rw [upd_same, List.map_append], PairsAt.append (pa1.keep ha1 K2) (pb.keep ha1 K2)⟩ fun p hp => ?_) (by omega) fun a o e m1 m2 => K2 _ _ (K1 _ _ e m1) m2
    have := gb p hp
    omega
  case b1 =>
    rintro D σ H ⟨s3, s4, s5, s6, l, c, r, q, row, other, rfl, N, lo, k⟩
    obtain ⟨rs, hr1, pr⟩ := id N.R
    have lrs := pr.len
    refine ⟨_, rfl, r, _, rfl, .inl (SqL.of hr1), _, _, rfl, rfl, _, rfl, ite2 (fun c1 => ?_) (fun c1 => iteF ?_)⟩
    · rw [List.length_map] at c1
      have c1' : (0 : Int) < rs.length := of_decide_eq_true c1
      refine ⟨_, rfl, l, c, 2, rfl, N.s, by decide, by decide, fun v H1 v0 v1 S1 k1 => ⟨rfl, _, rfl, ite2 (fun c2 => ?_) (fun c2 => ?_)⟩⟩
      · have N1 := N.mv S1 (off_keep k1)
        obtain ⟨rs1, hr2, pr2⟩ := id N1.R
        have lrs1 := pr2.len
        have lr6 := N.lr
        refine ⟨_, rfl, _, rfl, _, rfl, r, _, rfl, .inl (SqL.of hr2), l, c, _, rfl, S1, by rw [List.length_map]; omega, by rw [List.length_map]; omega, fun g H2 g0 g1 S2 k2 => ?_⟩
        rw [List.length_map] at g1
        obtain ⟨gn, rfl⟩ : ∃ gn : Nat, g = (gn : Int) := ⟨g.toNat, by omega⟩
        have N2 := N1.mv S2 (off_keep k2)
        obtain ⟨rs2, hr3, pr3⟩ := id N2.R
        have lrs2 := pr3.len
        have il : gn < rs2.length := by omega
        obtain ⟨⟨fst, lst⟩, ep, hpa⟩ := pr3.get (List.getElem?_eq_getElem il)
        obtain ⟨b0, b1, b2⟩ := N.g _ (List.mem_of_getElem? ep)
        simp only at b0 b1 b2
        have hat : atI (rs2.map V.ref) (gn : Int) = some (.ref rs2[gn]) := by
          refine atI_nat ?_
          rw [List.getElem?_map, List.getElem?_eq_getElem il]
          rfl
        refine ⟨r, _, _, _, rfl, rfl, SqL.of hr3, hat, _, _, rfl, SqT.of hpa, rfl, _, _, rfl, _, _, rfl, rfl, ?_⟩
        refine ⟨_, rfl, _, rfl, _, rfl, _, rfl, _, _, rfl, rfl, l, c, lst - fst, rfl, N2.s, by omega, by omega, fun w3 H3 x0 x1 S3 k3 => ⟨_, _, rfl, rfl, ?_⟩⟩
        have N3 := N2.mv S3 (off_keep k3)
        obtain ⟨as3, ha3, pa3⟩ := id N3.O
        refine ⟨_, rfl, .inl ⟨rfl, _, SqL.of ha3⟩, _, rfl, _, rfl, _, rfl, _, rfl, _, rfl, _, _, rfl, rfl, l, c, lst - (fst + w3), rfl, N3.s, by omega, by omega, fun w4 H4 y0 y1 S4 k4 => ⟨_, _, rfl, rfl, ?_⟩⟩
        have N4 := N3.mv S4 (off_keep k4)
        refine ⟨_, rfl, l, c, 3, rfl, N4.s, by decide, by decide, fun w5 H5 z0 z1 S5 k5 => ⟨_, _, rfl, rfl, (by show 2 ≤ sizeLine; decide), fun t ht => ?_⟩⟩
        have N5 := N4.mv S5 (off_keep k5)
        obtain ⟨as5, ha5, pa5⟩ := id N5.O
        have la5 := pa5.len
        have s6 := same_new ht (.tup [.int (fst + w3), .int (fst + w3 + w4 + w5)])
        refine ⟨q, _, _, rfl, rfl, s6 _ _ ha5, (by rw [List.length_map]; exact million (by omega)), ?_⟩
        have N6 : NbI (upd H5 t (.tup [.int (fst + w3), .int (fst + w3 + w4 + w5)])) l c r q row other := N5.mv (N5.s.same s6) fun a o e _ => s6 _ _ e
        have ht6 : PairAt (upd H5 t (.tup [.int (fst + w3), .int (fst + w3 + w4 + w5)])) t (fst + w3, fst + w3 + w4 + w5) := upd_same
        have ha6 := s6 _ _ ha5
        have pa6 := pa5.same s6
        generalize upd H5 t (.tup [.int (fst + w3), .int (fst + w3 + w4 + w5)]) = H6 at s6 N6 ht6 ha6 pa6
        have K7 : Keep q H6 (upd H6 q (.lst (as5.map V.ref ++ [.ref t]))) := keep_upd q _ _
        refine k _ _ _ [(fst + w3, fst + w3 + w4 + w5)] _ (N6.put K7 ⟨as5 ++ [t], by rw [upd_same, List.map_append]; rfl, PairsAt.snoc (pa6.keep ha6 K7) (K7 _ _ ht6 (ne_of ht6 ha6 (by intro z; cases z)))⟩ fun p hp => ?_) (Nat.le_refl _) fun a o e m1 m2 => K7 _ _ (s6 _ _ ((k5 a m1).trans ((k4 a m1).trans ((k3 a m1).trans ((k2 a m1).trans ((k1 a m1).trans e)))))) m2
        rw [List.mem_singleton.mp hp]
        show 0 ≤ fst + w3 ∧ fst + w3 ≤ fst + w3 + w4 + w5 ∧ fst + w3 + w4 + w5 ≤ 10 ^ 41
        omega
      · exact ⟨_, _, _, _, l, c, r, q, row, other, rfl, N.mv S1 (off_keep k1), lo, fun s4' s5' s6' new H' N' ln kp => k _ _ _ new H' N' ln fun a o e m1 m2 => kp _ _ ((k1 a m1).trans e) m1 m2⟩
    · exact ⟨_, _, _, _, l, c, r, q, row, other, rfl, N, lo, k⟩
  refine ⟨(by show 0 ≤ sizeLine; decide), fun q hq => ?_⟩
  have s0 : Same H (upd H q (.lst [])) := same_new hq _
  have h0 : (upd H q (.lst [])) q = some (.lst []) := upd_same
  generalize upd H q (.lst []) = H0 at s0 h0
  have nq := S.ne hq
  have nrq : r ≠ q := by
    obtain ⟨as, ha, _⟩ := R
    exact ne_of_none ha hq
  have N0 : NbI H0 l c r q row [] := ⟨S.same s0, R.same s0, ⟨[], h0, .nil⟩, gr, lr, (fun p hp => by cases hp), nrl, nq.1.symm, nq.2.symm, nrq⟩
  refine ⟨_, rfl, l, c, 5, rfl, N0.s, by decide, by decide, fun n H1 n0 n1 S1 k1 => ⟨n, rfl, by omega, by omega, ?_⟩⟩
  have N1 := N0.mv S1 (off_keep k1)
  refine for_range (lo := 0) (n := n.toNat) (fun i σ H2 => ∃ (u3 u4 u5 u6 : Option V) (other : Row), σ = [some (.ref l), some (.ref r), some (.ref q), u3, u4, u5, u6] ∧ NbI H2 l c r q row other ∧ other.length ≤ i ∧ Keep l H H2) ⟨none, none, none, none, [], rfl, N1, Nat.le_refl _, fun a o e m => (k1 a m).trans (s0 _ _ e)⟩ ?_ ?_
  · rintro i σ H2 hi ⟨u3, u4, u5, u6, other, rfl, N2, lo, K2⟩
    refine ⟨_, _, _, _, l, c, r, q, row, other, rfl, N2, by omega, fun s4 s5 s6 new H3 N3 ln kp => ⟨_, _, _, _, other ++ new, rfl, N3, by rw [List.length_append]; omega, fun a o e m => kp _ _ (K2 _ _ e m) m (ne_of_none e hq)⟩⟩
  · rintro σ H2 ⟨u3, u4, u5, u6, other, rfl, N2, lo, K2⟩
    exact ⟨_, rfl, k q other H2 N2.O (by omega) N2.g2 N2.s K2 hq⟩

abbrev mxI (i j : Int) : Int := if j > i then j else i
abbrev mnI (i j : Int) : Int := if j < i then j else i
def lessF (a b : Int) (row : Row) : Row := row.flatMap fun p => [(p.1, mxI p.1 (mnI p.2 a)), (mnI p.2 (mxI p.1 b), p.2)]
theorem lessF_snoc (a b : Int) (row : Row) (p : Int × Int) : lessF a b (row ++ [p]) = lessF a b row ++ [(p.1, mxI p.1 (mnI p.2 a)), (mnI p.2 (mxI p.1 b), p.2)] := by
  unfold lessF; rw [List.flatMap_append]; simp
theorem lessF_len (a b : Int) (row : Row) : (lessF a b row).length = 2 * row.length := by
  induction row with
  | nil => rfl
  | cons p r ih =>
    have : lessF a b (p :: r) = [(p.1, mxI p.1 (mnI p.2 a)), (mnI p.2 (mxI p.1 b), p.2)] ++ lessF a b r := by simp [lessF]
    rw [this, List.length_append, ih]
    simp only [List.length_cons, List.length_nil]
    omega
theorem lessF_ok {a b : Int} {row : Row} (ok : Ok row) : Ok (lessF a b row) := by
  intro p hp
  obtain ⟨q, hq, h⟩ := List.mem_flatMap.mp hp
  have := ok q hq
  simp only [List.mem_cons, List.not_mem_nil, or_false] at h
  rcases h with rfl | rfl
  · show q.1 ≤ mxI _ _; unfold mxI; split <;> omega
  · show mnI _ _ ≤ q.2; unfold mnI; split <;> omega
theorem lessF_spell {a b : Int} (ab : a < b) : ∀ {row : Row}, Ok row → spell (lessF a b row) = (spell row).filter fun x => !(decide (a ≤ x) && decide (x < b))
  | [], _ => rfl
  | p :: r, ok => by
    have op := ok p List.mem_cons_self
    have e : lessF a b (p :: r) = [(p.1, mxI p.1 (mnI p.2 a)), (mnI p.2 (mxI p.1 b), p.2)] ++ lessF a b r := by simp [lessF]
    have e2 : spell (p :: r) = span p ++ spell r := by simp [spell]
    rw [e, spell_append, e2, List.filter_append, lessF_spell ab fun q hq => ok q (List.mem_cons_of_mem _ hq)]
    congr 1
    have e3 : spell [(p.1, mxI p.1 (mnI p.2 a)), (mnI p.2 (mxI p.1 b), p.2)] = span (p.1, mxI p.1 (mnI p.2 a)) ++ span (mnI p.2 (mxI p.1 b), p.2) := by simp [spell]
    have hm : mxI p.1 (mnI p.2 a) = (if a ≤ p.1 then p.1 else if a < p.2 then a else p.2) := by
      unfold mxI mnI; split <;> split <;> (try split) <;> (try split) <;> omega
    have hn : mnI p.2 (mxI p.1 b) = (if b ≤ p.1 then p.1 else if b < p.2 then b else p.2) := by
      unfold mxI mnI; split <;> split <;> (try split) <;> (try split) <;> omega
    rw [e3]
    refine rise_ext ?_ ((run_rise _ _).filter _) fun x => ?_
    · rw [List.pairwise_append]
      refine ⟨run_rise _ _, run_rise _ _, fun x hx y hy => ?_⟩
      have h1 := mem_span.mp hx
      have h2 := mem_span.mp hy
      simp only [hm, hn] at h1 h2
      split at h1 <;> split at h2 <;> (try split at h1) <;> (try split at h2) <;> omega
    · rw [List.mem_append, mem_span, mem_span, List.mem_filter]
      have ms := mem_span (p := p) (x := x)
      rw [ms]
      simp only [hm, hn, Bool.not_eq_true', Bool.and_eq_false_iff, decide_eq_false_iff_not]
      split <;> split <;> (try split) <;> (try split) <;> omega
def spLess : Sp := fun vs H Q _ => ∃ (r : Addr) (row : Row) (a b : Int), vs = [.ref r, .int a, .int b] ∧ RowAt H r row ∧ row.length ≤ 10000 ∧
  ∀ (q : Addr) (H' : Hp), RowAt H' q (lessF a b row) → Same H H' → H q = none → Q (.ref q) H'
abbrev s_law_less : Stmt := top 22
theorem sc_law_less : FnScope ["_law_row", "_law_low", "_law_high", "_law_found", "_law_first", "_law_last"] ["_law_row", "_law_low", "_law_high"] (defScope s_law_less) := ⟨rfl, rfl, rfl, by decide +kernel, rfl, by decide +kernel, by decide +kernel⟩
set_option maxHeartbeats 1000000 in
theorem ok_law_less {f : Addr} {fd : FuncData} (F : Fun K "_law_less" "_law_less" s_law_less f fd) (T : Nms mg) : FnOk P w K mg base CX0 1 f fd ["_law_row", "_law_low", "_law_high"] spLess := by
  refine F.ok sc_law_less (fun vs H Q E h => ?_) (fun cdv A outer s H vs Q E hr h => ?_)
  · obtain ⟨r, row, a, b, rfl, _⟩ := h
    rfl
  obtain ⟨r, row, a, b, rfl, ⟨as, hr1, hp⟩, hlen, k⟩ := h
  refine ⟨_, (pss_cons (ps_set (i := 3) sc_law_less.nd rfl (Or.inl rfl) (pe_lst pa_nil))
      (pss_cons (ps_for PassesOwn.never rfl (pi_list (pv 0)) (pg_tup (n := 2) rfl (pgs_cons (pg_name (i := 4) sc_law_less.nd rfl (Or.inl rfl)) (pgs_cons (pg_name (i := 5) sc_law_less.nd rfl (Or.inl rfl)) pgs_nil)))
      (pss_cons (ps_expr (pe_bm PySem.F.plainAttrs_list PySem.F.slot_list_append PySem.F.type_list_append mt_append (pv 3) (pa_cons (pe_tup (pa_cons (pv 4) (pa_cons (pe_callB (call_max2 rfl) rfl T.n_max PyProof.Rows.boot_max (pa_cons (pv 4) (pa_cons (pe_callB (call_min2 rfl) rfl T.n_min PyProof.Rows.boot_min (pa_cons (pv 5) (pa_cons (pv 1) pa_nil))) pa_nil))) pa_nil))) pa_nil)))
      (pss_one (ps_expr (pe_bm PySem.F.plainAttrs_list PySem.F.slot_list_append PySem.F.type_list_append mt_append (pv 3) (pa_cons (pe_tup (pa_cons (pe_callB (call_min2 rfl) rfl T.n_min PyProof.Rows.boot_min (pa_cons (pv 5) (pa_cons (pe_callB (call_max2 rfl) rfl T.n_max PyProof.Rows.boot_max (pa_cons (pv 4) (pa_cons (pv 2) pa_nil))) pa_nil))) (pa_cons (pv 5) pa_nil))) pa_nil))))))
      (pss_one (ps_ret (pv 3))))), ?_⟩
  refine ⟨(by show 0 ≤ sizeLine; decide), fun q hq => ?_⟩
  have s0 : Same H (upd H q (.lst [])) := same_new hq _
  refine ⟨_, rfl, r, rfl, ⟨_, SqL.of (s0 _ _ hr1)⟩, for_list (K := K) (a := r) (xs := as.map V.ref) (fun i σ H2 => ∃ (cs : List Addr) (u v : Option V), σ = [some (.ref r), some (.int a), some (.int b), some (.ref q), u, v] ∧ H2 q = some (.lst (cs.map V.ref)) ∧ PairsAt H2 cs (lessF a b (row.take i)) ∧ Same H H2)
    ⟨[], none, none, rfl, upd_same, .nil, s0⟩ (fun i σ H2 _ ⟨_, _, _, _, _, _, s⟩ => SqL.of (s _ _ hr1)) ?_ ?_⟩
  · rintro i x σ H2 hi ⟨cs, u, v, rfl, hq2, pc, s⟩
    rw [List.getElem?_map] at hi
    obtain ⟨e, ee, rfl⟩ := Option.map_eq_some_iff.mp hi
    obtain ⟨⟨st, en⟩, ep, ha⟩ := hp.get ee
    have step := lessF_snoc a b (row.take i) (st, en)
    rw [← take_snoc ep] at step
    have lc := pc.len
    rw [lessF_len, List.length_take] at lc
    refine ⟨e, _, rfl, SqT.of (s _ _ ha), rfl, _, _, rfl, _, _, rfl, rfl, ?_⟩
    refine ⟨_, rfl, .inl ⟨rfl, _, SqL.of hq2⟩, _, rfl, _, rfl, _, rfl, _, rfl, _, _, rfl, _, _, rfl, (by show 2 ≤ sizeLine; decide), fun t ht => ?_⟩
    have s1 := same_new ht (.tup [.int st, .int (mxI st (mnI en a))])
    refine ⟨q, _, _, rfl, rfl, s1 _ _ hq2, (by rw [List.length_map]; exact million (by omega)), ?_⟩
    have K2 : Keep q H2 (upd (upd H2 t (.tup [.int st, .int (mxI st (mnI en a))])) q (.lst (cs.map V.ref ++ [.ref t]))) := fun c o e n => keep_upd q _ _ c o (s1 c o e) n
    have h2 : (upd (upd H2 t (.tup [.int st, .int (mxI st (mnI en a))])) q (.lst (cs.map V.ref ++ [.ref t]))) q = some (.lst ((cs ++ [t]).map V.ref)) := by rw [upd_same, List.map_append]; rfl
    have t2 : PairAt (upd (upd H2 t (.tup [.int st, .int (mxI st (mnI en a))])) q (.lst (cs.map V.ref ++ [.ref t]))) t (st, mxI st (mnI en a)) := by
      show upd _ q _ t = _
      rw [upd_ne (ne_of_none hq2 ht).symm, upd_same]
    have S2 : Same H (upd (upd H2 t (.tup [.int st, .int (mxI st (mnI en a))])) q (.lst (cs.map V.ref ++ [.ref t]))) := keep_of hq s K2
    have pc2 := pc.keep hq2 K2
    generalize upd (upd H2 t (.tup [.int st, .int (mxI st (mnI en a))])) q (.lst (cs.map V.ref ++ [.ref t])) = H3 at K2 h2 t2 S2 pc2
    refine ⟨_, rfl, .inl ⟨rfl, _, SqL.of h2⟩, _, rfl, _, rfl, _, rfl, _, _, rfl, _, _, rfl, _, rfl, (by show 2 ≤ sizeLine; decide), fun t' ht' => ?_⟩
    have s3 := same_new ht' (.tup [.int (mnI en (mxI st b)), .int en])
    refine ⟨q, _, _, rfl, rfl, s3 _ _ h2, (by rw [List.length_map, List.length_append]; exact million (by simp only [List.length_cons, List.length_nil]; omega)), ?_⟩
    have K4 : Keep q H3 (upd (upd H3 t' (.tup [.int (mnI en (mxI st b)), .int en])) q (.lst ((cs ++ [t]).map V.ref ++ [.ref t']))) := fun c o e n => keep_upd q _ _ c o (s3 c o e) n
    refine ⟨cs ++ [t] ++ [t'], _, _, rfl, by rw [upd_same, List.map_append (l₁ := cs ++ [t])]; rfl, ?_, keep_of hq S2 K4⟩
    rw [step, show lessF a b (row.take i) ++ [(st, mxI st (mnI en a)), (mnI en (mxI st b), en)] = lessF a b (row.take i) ++ [(st, mxI st (mnI en a))] ++ [(mnI en (mxI st b), en)] by simp]
    refine PairsAt.snoc (PairsAt.snoc (pc2.keep h2 K4) (K4 _ _ t2 (ne_of t2 h2 (by intro z; cases z)))) ?_
    show upd _ q _ t' = _
    rw [upd_ne (ne_of_none h2 ht').symm, upd_same]
  · rintro σ H2 ⟨cs, u, v, rfl, hq2, pc, s⟩
    rw [List.length_map, hp.len, List.take_length] at pc
    exact ⟨_, rfl, k q H2 ⟨cs, hq2, pc⟩ s hq⟩

theorem In_lt (row : Row) (x : Int) : In (row.filter fun p => decide (p.1 < p.2)) x ↔ In row x := by
  constructor
  · rintro ⟨p, hp, h⟩
    exact ⟨p, (List.mem_filter.mp hp).1, h⟩
  · rintro ⟨p, hp, h⟩
    exact ⟨p, List.mem_filter.mpr ⟨hp, decide_eq_true (by omega)⟩, h⟩
def spLRise : Sp := fun vs H Q _ => ∃ (r : Addr) (row : Row), vs = [.ref r] ∧ RowAt H r row ∧ row.length < 64 ∧
  ∀ (q : Addr) (R : Row) (H' : Hp), RowAt H' q R → Ris R → (∀ x, In R x ↔ In row x) → R.length ≤ row.length → Same H H' → H q = none → Q (.ref q) H'
abbrev s_law_rising : Stmt := top 23
theorem sc_law_rising : FnScope ["_law_row", "_law_found", "_law_first", "_law_last"] ["_law_row"] (defScope s_law_rising) := ⟨rfl, rfl, rfl, by decide +kernel, rfl, by decide +kernel, by decide +kernel⟩
set_option maxHeartbeats 1000000 in
theorem ok_law_rising {f : Addr} {fd : FuncData} (F : Fun K "_law_rising" "_law_rising" s_law_rising f fd) (T : Nms mg) : FnOk P w K mg base CX0 1 f fd ["_law_row"] spLRise := by
  refine F.ok sc_law_rising (fun vs H Q E h => ?_) (fun cdv A outer s H vs Q E hr h => ?_)
  · obtain ⟨r, row, rfl, _⟩ := h
    rfl
  obtain ⟨r, row, rfl, R, hlen, k⟩ := h
  refine ⟨_, (pss_cons (ps_set (i := 1) sc_law_rising.nd rfl (Or.inl rfl) (pe_lst pa_nil))
      (pss_cons (ps_for PassesOwn.never rfl (pi_list (pe_callB call_sortedP rfl T.n_sorted PyProof.Rows.boot_sorted (pa_cons (pe_comp (N := ["_law_pair"]) ⟨rfl, by decide +kernel, by decide +kernel, by decide +kernel⟩ rfl (pi_list (pv 0)) (fun _ _ _ _ _ => (pg_name (i := 0) (show List.Nodup (["_law_pair"] : List Str) by decide +kernel) rfl (Or.inl rfl))) (fun _ _ _ _ _ => pts_one (pt_cmpR op_lt (pe_ix ixC_tup (pv 0) pe_int (fun _ _ => rfl)) (pe_ix ixC_tup (pv 0) pe_int (fun _ _ => rfl)) (nomark _))) (fun _ _ _ _ _ => (pv 0))) pa_nil))) (pg_tup (n := 2) rfl (pgs_cons (pg_name (i := 2) sc_law_rising.nd rfl (Or.inl rfl)) (pgs_cons (pg_name (i := 3) sc_law_rising.nd rfl (Or.inl rfl)) pgs_nil)))
      (pss_one (ps_if (PW.pt (pw_and (pt_cmpR op_gt (pe_callB call_len_seq rfl T.n_len PySem.boot_len (pa_cons (pv 1) pa_nil)) pe_int (nomark _)) (pw_and1 (pt_cmpR op_le (pv 2) (pe_ix ix_tup (pe_ix ix_list (pv 1) (pe_un un_neg pe_int) (fun _ _ => rfl)) pe_int (fun _ _ => rfl)) (nomark _)))))
      (pss_one (ps_asg (pe_tup (pa_cons (pe_ix ix_tup (pe_ix ix_list (pv 1) (pe_un un_neg pe_int) (fun _ _ => rfl)) pe_int (fun _ _ => rfl)) (pa_cons (pe_callB (call_max2 rfl) rfl T.n_max PyProof.Rows.boot_max (pa_cons (pe_ix ix_tup (pe_ix ix_list (pv 1) (pe_un un_neg pe_int) (fun _ _ => rfl)) pe_int (fun _ _ => rfl)) (pa_cons (pv 3) pa_nil))) pa_nil))) (pg_sub (pv 1) (pe_un un_neg pe_int) set_list)))
      (pss_one (ps_expr (pe_bm PySem.F.plainAttrs_list PySem.F.slot_list_append PySem.F.type_list_append mt_append (pv 1) (pa_cons (pe_tup (pa_cons (pv 2) (pa_cons (pv 3) pa_nil))) pa_nil)))))))
      (pss_one (ps_ret (pv 1))))), ?_⟩
  refine ⟨(by show 0 ≤ sizeLine; decide), fun q hq => ?_⟩
  have s0 : Same H (upd H q (.lst [])) := same_new hq _
  obtain ⟨as, hr0, pr0⟩ := R.same s0
  have lr0 := pr0.len
  refine ⟨_, rfl, r, rfl, ⟨_, SqL.of hr0⟩, fun q1 hq1 => comp_list (K := K) (a := r) (xs := as.map V.ref) (fun i σ H2 => ∃ (u : Option V) (cs : List Addr), σ = [u] ∧ H2 q1 = some (.lst (cs.map V.ref)) ∧ PairsAt H2 cs ((row.take i).filter fun p => decide (p.1 < p.2)) ∧ Same (upd H q (.lst [])) H2)
    ⟨none, [], rfl, upd_same, .nil, same_new hq1 _⟩ (fun i σ H2 _ ⟨_, _, _, _, _, s⟩ => SqL.of (s _ _ hr0)) ?_ ?_⟩
  · rintro i y σ H2 hi ⟨u, cs, rfl, h2, p2, s2⟩
    rw [List.getElem?_map] at hi
    obtain ⟨a, ea, rfl⟩ := Option.map_eq_some_iff.mp hi
    obtain ⟨⟨st, en⟩, ep, ha⟩ := pr0.get ea
    have ha2 := s2 _ _ ha
    have step := take_snoc ep
    have lc := p2.len
    have fl := List.length_filter_le (fun p : Int × Int => decide (p.1 < p.2)) (row.take i)
    rw [List.length_take] at fl
    refine ⟨_, rfl, a, _, _, _, rfl, rfl, SqT.of ha2, at20, _, rfl, a, _, _, _, rfl, rfl, SqT.of ha2, at21, _, _, rfl, rfl, _, rfl, ite2 (fun c1 => ?_) (fun c1 => ?_)⟩
    · refine ⟨_, rfl, _, h2, (by rw [List.length_map]; exact million (by omega)), _, cs ++ [a], rfl, by rw [upd_same, List.map_append]; rfl, ?_, keep_of hq1 s2 (keep_upd q1 _ _)⟩
      rw [step, List.filter_append, List.filter_cons_of_pos (p := fun p : Int × Int => decide (p.1 < p.2)) c1]
      exact PairsAt.snoc (p2.keep h2 (keep_upd q1 _ _)) (keep_upd q1 _ _ _ _ ha2 (ne_of ha2 h2 (by intro z; cases z)))
    · refine ⟨_, cs, rfl, h2, ?_, s2⟩
      rw [step, List.filter_append, List.filter_cons_of_neg (p := fun p : Int × Int => decide (p.1 < p.2)) c1, List.filter_nil, List.append_nil]
      exact p2
  rintro σ H1 ⟨u, as1, rfl, h1, p1, s1⟩
  rw [List.length_map, lr0, List.take_length] at p1
  have pl := List.length_filter_le (fun p : Int × Int => decide (p.1 < p.2)) row
  refine ⟨q1, as1, _, rfl, h1, p1, by omega, fun l bs L hl perm srt pL => ?_⟩
  have s2 : Same H1 (upd H1 l (.lst (bs.map V.ref))) := same_new hl _
  have pL2 := pL.same s2
  have s02 := s0.trans (s1.trans s2)
  have hq2 := (s1.trans s2) _ _ (upd_same (H := H) (a := q) (o := .lst []))
  have plt : ∀ p ∈ row.filter (fun p : Int × Int => decide (p.1 < p.2)), p.1 < p.2 := fun p hp => of_decide_eq_true (List.mem_filter.mp hp).2
  obtain ⟨ris, mem⟩ := sp_sorted perm srt plt
  have nlq : l ≠ q := (ne_of_none (s1 _ _ upd_same) hl).symm
  have Llen := perm.length_eq
  refine ⟨l, rfl, ⟨_, SqL.of upd_same⟩, for_list (K := K) (a := l) (xs := bs.map V.ref) (fun i σ H2 => ∃ (cs : List Addr) (u v : Option V), σ = [some (.ref r), some (.ref q), u, v] ∧ H2 q = some (.lst (cs.map V.ref)) ∧ PairsAt H2 cs ((L.take i).foldl spStep []) ∧ Keep q (upd H1 l (.lst (bs.map V.ref))) H2)
    ⟨[], none, none, rfl, hq2, .nil, Keep.refl _ _⟩ (fun i σ H2 _ ⟨_, _, _, _, _, _, k2⟩ => SqL.of (k2 _ _ upd_same nlq)) ?_ ?_⟩
  · rintro i x σ H2 hi ⟨cs, u, v, rfl, hq3, hb, k2⟩
    rw [List.getElem?_map] at hi
    obtain ⟨a, ea, rfl⟩ := Option.map_eq_some_iff.mp hi
    obtain ⟨⟨st, en⟩, ep, ha0⟩ := pL2.get ea
    have ha : PairAt H2 a (st, en) := k2 _ _ ha0 (fun z => by
      have w := ha0
      unfold PairAt at w
      rw [z, hq2] at w
      cases w)
    have step := take_fold (f := spStep) ep
    have bl : cs.length < sizeLine := by
      have z := hb.len
      have z2 := sp_len (L.take i) []
      rw [List.length_take, List.length_nil] at z2
      exact million (by omega)
    refine ⟨a, _, rfl, SqT.of ha, rfl, _, _, rfl, _, _, rfl, rfl, ?_⟩
    have add : spStep ((L.take i).foldl spStep []) (st, en) = (L.take i).foldl spStep [] ++ [(st, en)] → ∀ t, H2 t = none → ∃ (cs' : List Addr) (u' v' : Option V), [some (V.ref r), some (.ref q), some (.int st), some (.int en)] = [some (.ref r), some (.ref q), u', v'] ∧ (upd (upd H2 t (.tup [.int st, .int en])) q (.lst (cs.map V.ref ++ [.ref t]))) q = some (.lst (cs'.map V.ref)) ∧ PairsAt (upd (upd H2 t (.tup [.int st, .int en])) q (.lst (cs.map V.ref ++ [.ref t]))) cs' ((L.take (i + 1)).foldl spStep []) ∧ Keep q (upd H1 l (.lst (bs.map V.ref))) (upd (upd H2 t (.tup [.int st, .int en])) q (.lst (cs.map V.ref ++ [.ref t]))) := fun e t ht => by
      have n1 : Same H2 (upd H2 t (.tup [.int st, .int en])) := same_new ht _
      have ntq : t ≠ q := (ne_of_none hq3 ht).symm
      refine ⟨cs ++ [t], _, _, rfl, by rw [upd_same, List.map_append]; rfl, ?_, fun b o eb nb => keep_upd q _ _ b o (n1 _ _ (k2 b o eb nb)) nb⟩
      rw [step, e]
      refine PairsAt.snoc ((hb.same n1).keep (n1 _ _ hq3) (keep_upd q _ _)) ?_
      show upd _ _ _ t = _
      rw [upd_ne ntq, upd_same]
    rcases List.eq_nil_or_concat ((L.take i).foldl spStep []) with hn | ⟨rw0, q0, hn⟩
    · have hbs : cs = [] := by rw [hn] at hb; exact List.eq_nil_of_length_eq_zero hb.len
      subst hbs
      refine ⟨_, rfl, q, _, rfl, .inl (SqL.of hq3), _, _, rfl, rfl, _, rfl, ite2 (fun c0 => absurd (of_decide_eq_true c0) (by simp)) (fun _ => iteF ?_)⟩
      exact ⟨_, rfl, .inl ⟨rfl, _, SqL.of hq3⟩, _, rfl, _, rfl, (by show 2 ≤ sizeLine; decide), fun t ht => ⟨q, _, _, rfl, rfl, same_new ht _ _ _ hq3, (by show 0 < sizeLine; decide), add (by rw [hn]; rfl) t ht⟩⟩
    · rw [List.concat_eq_append] at hn
      have hb' := hb
      rw [hn] at hb'
      obtain ⟨ds, a0, rfl, hc, ha1⟩ := hb'.split
      have hq4 : H2 q = some (.lst (ds.map V.ref ++ [.ref a0])) := by rw [hq3, List.map_append]; rfl
      refine ⟨_, rfl, q, _, rfl, .inl (SqL.of hq4), _, _, rfl, rfl, _, rfl, ite2 (fun _ => ?_) (fun c0 => absurd (decide_eq_true (by rw [List.length_append]; simp)) c0)⟩
      refine ⟨_, rfl, _, rfl, _, rfl, q, _, _, _, rfl, rfl, SqL.of hq4, atI_neg1 _ _, a0, _, _, _, rfl, rfl, SqT.of ha1, at21, _, _, rfl, rfl, _, rfl, ite2 (fun c2 => ?_) (fun c2 => ?_)⟩
      · have c : st ≤ q0.2 := of_decide_eq_true c2
        refine ⟨_, rfl, _, rfl, q, _, _, _, rfl, rfl, SqL.of hq4, atI_neg1 _ _, a0, _, _, _, rfl, rfl, SqT.of ha1, at20, _, rfl, _, rfl, q, _, _, _, rfl, rfl, SqL.of hq4, atI_neg1 _ _, a0, _, _, _, rfl, rfl, SqT.of ha1, at21, _, rfl, _, _, rfl, (by show 2 ≤ sizeLine; decide), fun t ht => ?_⟩
        refine ⟨_, rfl, _, rfl, q, _, _, ds.length, rfl, rfl, same_new ht _ _ _ hq4, ixLast ds a0, ?_⟩
        have n1 : Same H2 (upd H2 t (.tup [.int q0.1, .int (if en > q0.2 then en else q0.2)])) := same_new ht _
        have ntq : t ≠ q := (ne_of_none hq4 ht).symm
        have es : (ds.map V.ref ++ [V.ref a0]).set ds.length (.ref t) = (ds ++ [t]).map V.ref := by
          have z := set_last (ds.map V.ref) (V.ref a0) (V.ref t)
          rw [List.length_map] at z
          rw [z, List.map_append]
          rfl
        rw [es]
        refine ⟨ds ++ [t], _, _, rfl, upd_same, ?_, fun b o eb nb => keep_upd q _ _ b o (n1 _ _ (k2 b o eb nb)) nb⟩
        rw [step, hn, spStep_pos _ c]
        refine PairsAt.snoc ((hc.same n1).keep (n1 _ _ hq4) (keep_upd q _ _)) ?_
        show upd _ _ _ t = _
        rw [upd_ne ntq, upd_same]
      · have c : ¬ st ≤ q0.2 := fun z => c2 (decide_eq_true z)
        exact ⟨_, rfl, .inl ⟨rfl, _, SqL.of hq3⟩, _, rfl, _, rfl, (by show 2 ≤ sizeLine; decide), fun t ht => ⟨q, _, _, rfl, rfl, same_new ht _ _ _ hq3, (by rw [List.length_map]; exact bl), add (by rw [hn, spStep_neg _ c]) t ht⟩⟩
  · rintro σ H2 ⟨cs, u, v, rfl, hq3, hb, k2⟩
    rw [List.length_map, pL2.len, List.take_length] at hb
    have sl := sp_len L []
    rw [List.length_nil] at sl
    refine ⟨_, rfl, k q _ H2 ⟨cs, hq3, hb⟩ ris (fun x => (mem x).trans (In_lt row x)) (by omega) (fun b o e => k2 b o (s02 _ _ e) (ne_of_none e hq)) hq⟩

theorem inB_snoc (o : Row) (p : Int × Int) (x : Int) : inB (o ++ [p]) x = (inB o x || (decide (p.1 ≤ x) && decide (x < p.2))) := by unfold inB; rw [List.any_append]; simp
theorem out_snoc (o : Row) (p : Int × Int) (xs : List Int) : outOf (o ++ [p]) xs = (outOf o xs).filter fun x => !(decide (p.1 ≤ x) && decide (x < p.2)) := by
  unfold outOf
  rw [List.filter_filter]
  refine List.filter_congr fun x _ => ?_
  rw [inB_snoc, Bool.not_or, Bool.and_comm]
theorem out_none (o : Row) {p : Int × Int} (h : ¬ p.1 < p.2) (xs : List Int) : outOf (o ++ [p]) xs = outOf o xs := by
  rw [out_snoc]
  refine List.filter_eq_self.mpr fun x _ => ?_
  simp only [Bool.not_eq_true', Bool.and_eq_false_iff, decide_eq_false_iff_not]
  omega
theorem out_lt {row other : Row} : (outOf other (spell row)).length < (spell row).length ↔ ∃ x, In row x ∧ In other x := by
  unfold outOf
  rw [List.length_filter_lt_length_iff_exists]
  constructor
  · rintro ⟨x, hx, h⟩
    refine ⟨x, mem_spell.mp hx, inB_iff.mp ?_⟩
    cases e : inB other x with
    | true => rfl
    | false => rw [e] at h; exact absurd rfl h
  · rintro ⟨x, a, b⟩
    exact ⟨x, mem_spell.mpr a, by rw [inB_iff.mpr b]; simp⟩
theorem tot_pos {row : Row} (ok : Ok row) : 0 < tot row ↔ ∃ x, In row x := by
  rw [← spell_len row ok]
  constructor
  · intro h
    obtain ⟨x, hx⟩ := List.exists_mem_of_length_pos (show 0 < (spell row).length by omega)
    exact ⟨x, mem_spell.mp hx⟩
  · rintro ⟨x, h⟩
    have := List.length_pos_of_mem (mem_spell.mpr h)
    omega
theorem bool_iff {a b : Bool} {p : Prop} (h : a = true ↔ p) (g : b = true ↔ p) : a = b := by
  cases a with
  | true => exact (g.mpr (h.mp rfl)).symm
  | false =>
    cases b with
    | true => exact h.mpr (g.mp rfl)
    | false => rfl
theorem hit_pl {a b : Row} (ha : Ok a) : hitB (plainF a) b = hitB a b := by
  rw [Bool.eq_iff_iff, hitB_iff, hitB_iff]
  exact ⟨fun ⟨x, p, q⟩ => ⟨x, (In_plain ha).mp p, q⟩, fun ⟨x, p, q⟩ => ⟨x, (In_plain ha).mpr p, q⟩⟩
def dueL (both more : Bool) : List Int := if both then [0, 1] else if more then [1] else []
theorem live2 (a b : Pr) : liveI 0 [some a, some b] = [0, 1] := rfl
theorem on_due {row other : Row} (ok1 : Ok row) (ok2 : Ok other) {both : Bool} (hb : both = true ↔ ∃ x, In row x ∧ In other x) :
    ((liveI 0 [some (plainF row, plainF []), some (plainF other, plainF row)]).filter fun n => prH Prod.fst other [some (plainF row, plainF []), some (plainF other, plainF row)] n || prH Prod.snd other [some (plainF row, plainF []), some (plainF other, plainF row)] n) = dueL both (decide (0 < tot other)) ∧
    (liveI 0 [some (plainF row, plainF []), some (plainF other, plainF row)]).filter (prH Prod.snd other [some (plainF row, plainF []), some (plainF other, plainF row)]) = if both then [1] else [] := by
  have e1 : hitB (plainF row) other = both := by
    rw [hit_pl ok1]
    exact bool_iff hitB_iff hb
  have e2 : hitB (plainF other) other = decide (0 < tot other) := by
    rw [hit_pl ok2, Bool.eq_iff_iff, hitB_iff, decide_eq_true_iff, tot_pos ok2]
    exact ⟨fun ⟨x, p, _⟩ => ⟨x, p⟩, fun ⟨x, p⟩ => ⟨x, p, p⟩⟩
  have e3 : hitB (plainF []) other = false := by
    rw [Bool.eq_false_iff]
    intro z
    obtain ⟨x, p, _⟩ := hitB_iff.mp z
    exact In_nil p
  have e4 : both = true → decide (0 < tot other) = true := fun z => by
    obtain ⟨x, _, q⟩ := hb.mp z
    exact decide_eq_true ((tot_pos ok2).mpr ⟨x, q⟩)
  have p1 : prH Prod.fst other [some (plainF row, plainF []), some (plainF other, plainF row)] 0 = both := e1
  have p2 : prH Prod.snd other [some (plainF row, plainF []), some (plainF other, plainF row)] 0 = false := e3
  have p3 : prH Prod.fst other [some (plainF row, plainF []), some (plainF other, plainF row)] 1 = decide (0 < tot other) := e2
  have p4 : prH Prod.snd other [some (plainF row, plainF []), some (plainF other, plainF row)] 1 = both := e1
  rw [live2]
  cases hbo : both with
  | true =>
    have e5 := e4 hbo
    rw [hbo] at p1 p4
    rw [e5] at p3
    refine ⟨?_, ?_⟩
    · simp only [List.filter_cons, p1, p2, p3, p4, List.filter_nil]; rfl
    · simp only [List.filter_cons, p2, p4, List.filter_nil]; rfl
  | false =>
    rw [hbo] at p1 p4
    refine ⟨?_, ?_⟩
    · simp only [List.filter_cons, p1, p2, p3, p4, List.filter_nil]
      unfold dueL
      cases decide (0 < tot other) <;> rfl
    · simp only [List.filter_cons, p2, p4, List.filter_nil]; rfl
def k62T13 : TS := fun D σ H => ∃ (s0 s1 s2 s4 s5 s6 s8 s9 : Option V) (o d0 : Addr) (other : Row) (both : Bool), σ = [s0, s1, s2, some (.ref o), s4, s5, s6, some (.bl both), s8, s9, some (.ref d0)] ∧ RowAt H o other ∧ H d0 = some (.lst []) ∧
  ∀ (dd : Addr) (H' : Hp), H' dd = some (.lst ((dueL both (decide (0 < tot other))).map V.int)) → Same H H' → D.nx [s0, s1, s2, some (.ref o), s4, s5, s6, some (.bl both), s8, s9, some (.ref dd)] H'
abbrev slaw : Stmt := top 24
theorem sclaw : FnScope ["_law_script", "_law_src_here", "_law_row", "_law_other", "_law_left", "_law_low", "_law_high", "_law_both", "_law_kept", "_law_ties", "_law_due"] ["_law_script"] (defScope slaw) := ⟨rfl, rfl, rfl, by decide +kernel, rfl, by decide +kernel, by decide +kernel⟩
set_option maxHeartbeats 4000000 in
theorem ok_law {f x0 x1 x2 x3 x4 x5 x6 x7 x8 x9 x10 x11 x12 x13 x14 x15 x16 x17 x18 x19 x20 x21 x22 x23 : Addr} {fd y0 y1 y2 y3 y4 y5 y6 y7 y8 y9 y10 y11 y12 y13 y14 y15 y16 y17 y18 y19 y20 y21 y22 y23 : FuncData} {CTies : Addr} (F : Fun K "law" "law" slaw f fd) (T : Nms mg) (d_law_src : DefAt K mg "_law_src" s_law_src ["_law_script"] x0 y0)
    (d_law_next : DefAt K mg "_law_next" s_law_next ["_law_src_here", "_law_base"] x1 y1)
    (d_law_whole : DefAt K mg "_law_whole" s_law_whole ["_law_found"] x2 y2)
    (d_law_same : DefAt K mg "_law_same" s_law_same ["_law_found", "_law_due"] x3 y3)
    (dplain : DefAt K mg "plain" splain ["row"] x4 y4)
    (dsize : DefAt K mg "size" ssize ["row"] x5 y5)
    (dspread : DefAt K mg "spread" sspread ["row"] x6 y6)
    (dmeets : DefAt K mg "meets" smeets ["one", "other"] x7 y7)
    (dfirst_reaching : DefAt K mg "first_reaching" sfirst_reaching ["holes", "start"] x8 y8)
    (dleft_over : DefAt K mg "left_over" sleft_over ["start", "stop", "holes"] x9 y9)
    (dwithout : DefAt K mg "without" swithout ["row", "other"] x10 y10)
    (d_law_big_by : DefAt K mg "_law_big_by" s_law_big_by ["_law_src_here", "_law_most"] x11 y11)
    (d_law_total : DefAt K mg "_law_total" s_law_total ["_law_row"] x12 y12)
    (d_law_spot : DefAt K mg "_law_spot" s_law_spot ["_law_src_here", "_law_total_here"] x13 y13)
    (d_law_plain : DefAt K mg "_law_plain" s_law_plain ["_law_row"] x14 y14)
    (dTies___init__ : MetAt K CTies "__init__" "Ties.__init__" sTies___init__ ["self"] x15 y15)
    (dTies_tie : MetAt K CTies "tie" "Ties.tie" sTies_tie ["self", "one", "other"] x16 y16)
    (dTies_live : MetAt K CTies "live" "Ties.live" sTies_live ["self"] x17 y17)
    (dTies_leaving : MetAt K CTies "leaving" "Ties.leaving" sTies_leaving ["self", "row"] x18 y18)
    (dTies_coming : MetAt K CTies "coming" "Ties.coming" sTies_coming ["self", "row"] x19 y19)
    (dTies_on : MetAt K CTies "on" "Ties.on" sTies_on ["self", "row"] x20 y20)
    (d_law_near_by : DefAt K mg "_law_near_by" s_law_near_by ["_law_src_here", "_law_row"] x21 y21)
    (d_law_less : DefAt K mg "_law_less" s_law_less ["_law_row", "_law_low", "_law_high"] x22 y22)
    (d_law_rising : DefAt K mg "_law_rising" s_law_rising ["_law_row"] x23 y23) (cTies : ClsAt K mg "Ties" CTies x15) (ngiven : NoAttr K CTies "given") (npairs : NoAttr K CTies "pairs") : FnOk P w K mg base CX0 9 f fd ["_law_script"] (spLaw K) := by
  have g_law_src : FnOk P w K mg base CX0 1 _ _ ["_law_script"] (spSrc K) := ok_law_src d_law_src.F T
  have g_law_same : FnOk P w K mg base CX0 4 _ _ ["_law_found", "_law_due"] (spSame 3) := ok_law_same T d_law_whole d_law_same 3
  have g_law_big_by : FnOk P w K mg base CX0 2 _ _ ["_law_src_here", "_law_most"] spBigBy := ok_law_big_by d_law_big_by.F T d_law_next
  have g_law_total : FnOk P w K mg base CX0 1 _ _ ["_law_row"] spTotal := ok_law_total d_law_total.F
  have g_law_plain : FnOk P w K mg base CX0 1 _ _ ["_law_row"] spLPlain := ok_law_plain d_law_plain.F T
  have g_law_near_by : FnOk P w K mg base CX0 3 _ _ ["_law_src_here", "_law_row"] spNear := ok_law_near_by d_law_near_by.F T d_law_next d_law_spot d_law_big_by
  have g_law_less : FnOk P w K mg base CX0 1 _ _ ["_law_row", "_law_low", "_law_high"] spLess := ok_law_less d_law_less.F T
  have g_law_rising : FnOk P w K mg base CX0 1 _ _ ["_law_row"] spLRise := ok_law_rising d_law_rising.F T
  have gspread : FnOk P w K mg base CX0 2 _ _ ["row"] spSpread := ok_spread dspread.F T dplain
  have gmeets : FnOk P w K mg base CX0 3 _ _ ["one", "other"] spMeets := ok_meets dmeets.F T dplain dspread dsize
  have gwithout : FnOk P w K mg base CX0 3 _ _ ["row", "other"] spWithout := ok_without dwithout.F T dplain dspread dfirst_reaching dleft_over
  have gTies___init__ : FnOk P w K mg base CX0 1 _ _ ["self"] (spTInit CTies) := ok_Ties___init__ dTies___init__.F cTies.cl ngiven npairs
  have gTies_tie : FnOk P w K mg base CX0 2 _ _ ["self", "one", "other"] (spTie CTies) := ok_Ties_tie dTies_tie.F cTies.cl ngiven npairs dplain
  have gTies_coming : FnOk P w K mg base CX0 4 _ _ ["self", "row"] (spOnOne CTies Prod.snd) := ok_Ties_coming dTies_coming.F T cTies npairs dTies_live dmeets dplain dspread dsize
  have gTies_on : FnOk P w K mg base CX0 5 _ _ ["self", "row"] (spOn CTies) := ok_Ties_on dTies_on.F T cTies npairs dTies_live dTies_leaving dTies_coming dmeets dplain dspread dsize
  refine F.ok sclaw (fun vs H Q E h => ?_) (fun cdv A outer s H vs Q E hr h => ?_)
  · obtain ⟨a, ns, rfl, _⟩ := h
    rfl
  obtain ⟨a, ns, rfl, hS, h63, k⟩ := h
  have hu := hu_of hr
  refine ⟨_, (pss_cons (ps_set (i := 1) sclaw.nd rfl (Or.inl rfl) (pe_def d_law_src g_law_src hr (pa_cons (pv 0) pa_nil)))
      (pss_cons (ps_set (i := 2) sclaw.nd rfl (Or.inl rfl) (pe_def d_law_big_by g_law_big_by hr (pa_cons (pv 1) (pa_cons pe_int pa_nil))))
      (pss_cons (ps_set (i := 3) sclaw.nd rfl (Or.inl rfl) (pe_def d_law_near_by g_law_near_by hr (pa_cons (pv 1) (pa_cons (pv 2) pa_nil))))
      (pss_cons (ps_set (i := 4) sclaw.nd rfl (Or.inl rfl) (pe_callTy call_list_of rfl T.n_list PyProof.Rows.boot_list (pa_cons (pv 2) pa_nil)))
      (pss_cons (ps_for PassesOwn.never rfl (pi_list (pv 3)) (pg_tup (n := 2) rfl (pgs_cons (pg_name (i := 5) sclaw.nd rfl (Or.inl rfl)) (pgs_cons (pg_name (i := 6) sclaw.nd rfl (Or.inl rfl)) pgs_nil)))
      (pss_one (ps_if (pt_cmpR op_lt (pv 5) (pv 6) (nomark _))
      (pss_one (ps_set (i := 4) sclaw.nd rfl (Or.inl rfl) (pe_def d_law_plain g_law_plain hr (pa_cons (pe_def d_law_less g_law_less hr (pa_cons (pv 4) (pa_cons (pv 5) (pa_cons (pv 6) pa_nil)))) pa_nil))))
      pss_nil)))
      (pss_cons (ps_set (i := 7) sclaw.nd rfl (Or.inl rfl) (pe_cmpR op_lt (pe_def d_law_total g_law_total hr (pa_cons (pv 4) pa_nil)) (pe_def d_law_total g_law_total hr (pa_cons (pv 2) pa_nil)) (nomark _)))
      (pss_cons (ps_set (i := 8) sclaw.nd rfl (Or.inl rfl) (pe_tup (pa_cons (pe_callTy call_list_of rfl T.n_list PyProof.Rows.boot_list (pa_cons (pv 2) pa_nil)) (pa_cons (pe_callTy call_list_of rfl T.n_list PyProof.Rows.boot_list (pa_cons (pv 3) pa_nil)) pa_nil))))
      (pss_cons (ps_if (PW.pt (pw_or (pt_not (pt_val (pe_def d_law_same g_law_same hr (pa_cons (pe_def dmeets gmeets hr (pa_cons (pv 2) (pa_cons (pv 3) pa_nil))) (pa_cons (pv 7) pa_nil))))) (pw_or1 (pt_not (pt_val (pe_def d_law_same g_law_same hr (pa_cons (pe_def dmeets gmeets hr (pa_cons (pv 3) (pa_cons (pv 2) pa_nil))) (pa_cons (pv 7) pa_nil))))))))
      (pss_one (ps_ret pe_bl))
      pss_nil)
      (pss_cons (ps_if (PW.pt (pw_or (pt_not (pt_val (pe_def d_law_same g_law_same hr (pa_cons (pe_def dwithout gwithout hr (pa_cons (pv 2) (pa_cons (pv 3) pa_nil))) (pa_cons (pe_def d_law_plain g_law_plain hr (pa_cons (pv 4) pa_nil)) pa_nil))))) (pw_or1 (pt_not (pt_val (pe_def d_law_same g_law_same hr (pa_cons (pe_def dspread gspread hr (pa_cons (pv 2) pa_nil)) (pa_cons (pe_def d_law_rising g_law_rising hr (pa_cons (pv 2) pa_nil)) pa_nil))))))))
      (pss_one (ps_ret pe_bl))
      pss_nil)
      (pss_cons (ps_set (i := 9) sclaw.nd rfl (Or.inl rfl) (pe_make0 cTies.mak gTies___init__ (hr.mono (by decide)) rfl cTies.m dTies___init__.b .nil pass0))
      (pss_cons (ps_expr (pe_meth (pv 9) cTies.cl dTies_tie.mt gTies_tie (hr.mono (by decide)) dTies_tie.b .nil pass0 (pa_cons (pv 2) (pa_cons (pe_lst pa_nil) pa_nil))))
      (pss_cons (ps_expr (pe_meth (pv 9) cTies.cl dTies_tie.mt gTies_tie (hr.mono (by decide)) dTies_tie.b .nil pass0 (pa_cons (pv 3) (pa_cons (pv 2) pa_nil))))
      (pss_cons (ps_set (i := 10) sclaw.nd rfl (Or.inl rfl) (pe_lst pa_nil))
      (pss_cons (ps_imp (t' := k62T13) (ps_if (pt_truth (pv 7) (fun _ => rfl))
      (pss_one (ps_set (i := 10) sclaw.nd rfl (Or.inl rfl) (pe_lst (pa_cons pe_int (pa_cons pe_int pa_nil)))))
      (pss_one (ps_if (pt_cmpR op_gt (pe_def d_law_total g_law_total hr (pa_cons (pv 3) pa_nil)) pe_int (nomark _))
      (pss_one (ps_set (i := 10) sclaw.nd rfl (Or.inl rfl) (pe_lst (pa_cons pe_int pa_nil))))
      pss_nil))) ?b13)
      (pss_cons (ps_if (pt_not (pt_val (pe_def d_law_same g_law_same hr (pa_cons (pe_meth (pv 9) cTies.cl dTies_on.mt gTies_on (hr.mono (by decide)) dTies_on.b .nil pass0 (pa_cons (pv 3) pa_nil)) (pa_cons (pv 10) pa_nil)))))
      (pss_one (ps_ret pe_bl))
      pss_nil)
      (pss_one (ps_ret (pe_and (pe_def d_law_same g_law_same hr (pa_cons (pe_meth (pv 9) cTies.cl dTies_coming.mt gTies_coming (hr.mono (by decide)) dTies_coming.b .nil pass0 (pa_cons (pv 3) pa_nil)) (pa_cons (pe_op op_rep (pe_slice sl_list (pv 10) (po_some pe_int) po_none) (pe_callTy call_int1 rfl T.n_int PyProof.Rows.boot_int (pa_cons (pv 7) pa_nil))) pa_nil))) (pe_one (pe_cmpR (op_eqT2 hu) (pv 8) (pe_tup (pa_cons (pv 2) (pa_cons (pv 3) pa_nil))) (nomark _))))))))))))))))))))), ?_⟩
  case b13 =>
    rintro D σ H ⟨s0, s1, s2, s4, s5, s6, s8, s9, o, d0, other, both, rfl, O, h0, k⟩
    refine ⟨_, rfl, both, rfl, ?_⟩
    cases both with
    | true => exact iteT ⟨(by show 2 ≤ sizeLine; decide), fun dd hdd => k dd _ upd_same (same_new hdd _)⟩
    | false =>
      refine iteF ⟨_, rfl, o, other, rfl, O, _, _, rfl, rfl, _, rfl, ite2 (fun c1 => ?_) (fun c1 => ?_)⟩
      · exact ⟨(by show 1 ≤ sizeLine; decide), fun dd hdd => k dd _ (by rw [upd_same]; unfold dueL; rw [show decide (0 < tot other) = true from c1]; rfl) (same_new hdd _)⟩
      · exact k d0 H (by rw [h0]; unfold dueL; rw [show decide (0 < tot other) = false from Bool.eq_false_iff.mpr c1]; rfl) (Same.refl _)
  refine ⟨_, rfl, a, ns, rfl, hS, fun l c H1 S1 s1 _ _ => ?_⟩
  refine ⟨_, rfl, l, c, 6, rfl, S1, by decide, by decide, fun r row H2 R2 lr gr S2 K2 fr => ?_⟩
  have nrl : r ≠ l := (S1.ne fr).1.symm
  refine ⟨_, rfl, _, rfl, l, c, r, row, rfl, S2, R2, gr, by omega, nrl, fun o other H3 O3 lo go S3 K3 fo => ?_⟩
  obtain ⟨ls2, hl2⟩ := S2.lst
  have R3 := R2.keep hl2 nrl K3
  obtain ⟨rs, hr3, pr3⟩ := id R3
  refine ⟨_, rfl, r, _, rfl, .inl (SqL.of hr3), fun lf hlf => ?_⟩
  have s4 := same_new hlf (.lst (rs.map V.ref))
  obtain ⟨os, ho3, po3⟩ := id O3
  have ok1 : Ok row := fun p hp => (gr p hp).2.1
  have ok2 : Ok other := fun p hp => (go p hp).2.1
  have lr' := pr3.len
  have lo' := po3.len
  refine ⟨_, rfl, o, rfl, ⟨_, SqL.of (s4 _ _ ho3)⟩, for_list (K := K) (a := o) (xs := os.map V.ref) (fun i σ H5 => ∃ (u5 u6 u7 u8 u9 u10 : Option V) (q : Addr) (left : Row), σ = [some (.ref a), some (.ref l), some (.ref r), some (.ref o), some (.ref q), u5, u6, u7, u8, u9, u10] ∧ RowAt H5 q left ∧ Ok left ∧ spell left = outOf (other.take i) (spell row) ∧ left.length ≤ 6 * 2 ^ i ∧ Same H3 H5)
    ⟨none, none, none, none, none, none, lf, row, rfl, ⟨rs, upd_same, pr3.same s4⟩, ok1, ?_, by omega, s4⟩ (fun i σ H5 _ ⟨_, _, _, _, _, _, _, _, _, _, _, _, _, s5⟩ => SqL.of (s5 _ _ ho3)) ?_ ?_⟩
  · show spell row = outOf [] (spell row)
    unfold outOf
    exact (List.filter_eq_self.mpr fun x _ => rfl).symm
  · rintro i y σ H5 hi ⟨u5, u6, u7, u8, u9, u10, q, left, rfl, L5, okl, spl, ll, s5⟩
    rw [List.getElem?_map] at hi
    obtain ⟨b, eb, rfl⟩ := Option.map_eq_some_iff.mp hi
    obtain ⟨⟨st, en⟩, ep, hpb⟩ := po3.get eb
    have il : i < os.length := (List.getElem?_eq_some_iff.mp eb).1
    have i4 : i < 4 := by omega
    have step := take_snoc ep
    have p2 : 6 * 2 ^ i ≤ 48 := by
      have : i = 0 ∨ i = 1 ∨ i = 2 ∨ i = 3 := by omega
      rcases this with rfl | rfl | rfl | rfl <;> decide
    refine ⟨b, _, rfl, SqT.of (s5 _ _ hpb), rfl, _, _, rfl, _, _, rfl, rfl, _, rfl, _, rfl, _, _, rfl, rfl, _, rfl, ite2 (fun c1 => ?_) (fun c1 => ?_)⟩
    · have lt : st < en := of_decide_eq_true c1
      refine ⟨_, rfl, _, rfl, _, rfl, q, left, st, en, rfl, L5, by omega, fun q2 H6 L6 s6 f6 => ?_⟩
      have ok6 := lessF_ok (a := st) (b := en) okl
      have l6 := lessF_len st en left
      refine ⟨q2, _, rfl, L6, ok6, by omega, fun q3 H7 L7 s7 f7 => ?_⟩
      have pl := plainF_le (lessF st en left)
      refine ⟨_, _, _, _, _, _, q3, _, rfl, L7, plain_ok _ ok6, ?_, ?_, s5.trans (s6.trans s7)⟩
      · rw [spell_plain _ ok6, lessF_spell lt okl, spl, step, out_snoc]
      · rw [Nat.pow_succ]; omega
    · refine ⟨_, _, _, _, _, _, q, left, rfl, L5, okl, ?_, ?_, s5⟩
      · rw [spl, step, out_none _ (fun z => c1 (decide_eq_true z))]
      · rw [Nat.pow_succ]; omega
  rintro σ H5 ⟨u5, u6, u7, u8, u9, u10, q, left, rfl, L5, okl, spl, ll, s5⟩
  rw [List.length_map, lo', List.take_length] at spl
  have R5 := R3.same s5
  have O5 := O3.same s5
  obtain ⟨rs5, hr5, pr5⟩ := id R5
  obtain ⟨os5, ho5, po5⟩ := id O5
  have ll' : left.length ≤ 96 := by
    have : 6 * 2 ^ (os.map V.ref).length ≤ 96 := by
      rw [List.length_map]
      have : os.length = 0 ∨ os.length = 1 ∨ os.length = 2 ∨ os.length = 3 ∨ os.length = 4 := by omega
      rcases this with e | e | e | e | e <;> rw [e] <;> decide
    omega
  refine ⟨_, rfl, q, left, rfl, L5, _, rfl, r, row, rfl, R5, _, _, rfl, rfl, ?_⟩
  obtain ⟨both, hboth⟩ : ∃ both, both = decide (tot left < tot row) := ⟨_, rfl⟩
  have eb : (fun i j : Int => V.bl (decide (i < j))) (tot left) (tot row) = V.bl both := by rw [hboth]
  rw [eb]
  have bi : both = true ↔ ∃ x, In row x ∧ In other x := by
    rw [hboth, decide_eq_true_iff, ← spell_len left okl, ← spell_len row ok1, spl, ← out_lt]
    omega
  refine ⟨_, rfl, r, _, rfl, .inl (SqL.of hr5), fun k1 hk1 => ?_⟩
  have t1 := same_new hk1 (.lst (rs5.map V.ref))
  have kk1 : (upd H5 k1 (.lst (rs5.map V.ref))) k1 = some (.lst (rs5.map V.ref)) := upd_same
  generalize upd H5 k1 (.lst (rs5.map V.ref)) = H6 at t1 kk1
  refine ⟨_, rfl, o, _, rfl, .inl (SqL.of (t1 _ _ ho5)), fun k2 hk2 => ?_⟩
  have t2 := same_new hk2 (.lst (os5.map V.ref))
  have kk2 : (upd H6 k2 (.lst (os5.map V.ref))) k2 = some (.lst (os5.map V.ref)) := upd_same
  generalize upd H6 k2 (.lst (os5.map V.ref)) = H7 at t2 kk2
  refine ⟨(by show 2 ≤ sizeLine; decide), fun kt hkt => ?_⟩
  have t3 := same_new hkt (.tup [.ref k1, .ref k2])
  have kk3 : (upd H7 kt (.tup [.ref k1, .ref k2])) kt = some (.tup [.ref k1, .ref k2]) := upd_same
  generalize upd H7 kt (.tup [.ref k1, .ref k2]) = H8 at t3 kk3
  have s58 := t1.trans (t2.trans t3)
  have R8 := R5.same s58
  have O8 := O5.same s58
  refine ⟨_, rfl, _, rfl, r, o, row, other, rfl, R8, O8, by omega, ok1, ok2, fun b1 H10 hb1 s10 => ?_⟩
  refine ⟨_, rfl, _, _, rfl, .inl ⟨rfl, by rw [bool_iff hb1 bi]⟩, fun H11 s11 => ⟨_, rfl, iteF ?_⟩⟩
  have s811 := s10.trans s11
  refine ⟨_, rfl, _, rfl, o, r, other, row, rfl, O8.same s811, R8.same s811, by omega, ok2, ok1, fun b2 H12 hb2 s12 => ?_⟩
  have hb2' : b2 = true ↔ ∃ x, In row x ∧ In other x := hb2.trans ⟨fun ⟨x, p, q⟩ => ⟨x, q, p⟩, fun ⟨x, p, q⟩ => ⟨x, q, p⟩⟩
  refine ⟨_, rfl, _, _, rfl, .inl ⟨rfl, by rw [bool_iff hb2' bi]⟩, fun H13 s13 => ⟨_, rfl, iteF ?_⟩⟩
  have s813 := s811.trans (s12.trans s13)
  have R13 := R8.same s813
  have O13 := O8.same s813
  refine ⟨_, rfl, _, rfl, r, o, row, other, rfl, R13, O13, by omega, by omega, ok1, ok2, fun w1 H14 W14 _ s14 hw1 => ?_⟩
  have L14 := L5.same (s58.trans (s813.trans s14))
  refine ⟨_, rfl, q, left, rfl, L14, okl, by omega, fun w2 H15 W15 s15 f15 => ?_⟩
  rw [plain_eq left okl, spl] at W15
  refine ⟨_, _, rfl, RowAt.eqv (W14.same s15) W15 0, fun H16 s16 => ⟨_, rfl, iteF ?_⟩⟩
  have s1316 := s14.trans (s15.trans s16)
  have R16 := R13.same s1316
  refine ⟨_, rfl, r, row, rfl, R16, by omega, ok1, fun w3 M H17 W17 ris3 mem3 ml3 s17 f17 => ?_⟩
  refine ⟨_, rfl, r, row, rfl, R16.same s17, by omega, fun w4 M2 H18 W18 ris4 mem4 ml4 s18 f18 => ?_⟩
  rw [ris_ext ris4 ris3 fun x => (mem4 x).trans (mem3 x).symm] at W18
  refine ⟨_, _, rfl, RowAt.eqv (W17.same s18) W18 0, fun H19 s19 => ⟨_, rfl, iteF ?_⟩⟩
  have s819 := s813.trans (s1316.trans (s17.trans (s18.trans s19)))
  intro x d hx hd e0
  refine ⟨x, d, rfl, upd_same, fun t H20 b0 k0 ht0 => ⟨rfl, ?_⟩⟩
  have sa : Same H19 (upd (upd H19 d (.own x)) x (.ins CTies d [])) := (same_new hd _).trans (same_new (by rw [upd_ne e0.symm]; exact hx) _)
  have s20 : Same H19 H20 := keep_of hx sa k0
  have s820 := s819.trans s20
  have ti0 := b0 fun _ => False
  refine ⟨_, rfl, x, d, _, rfl, ti0.1, rfl, _, rfl, (by show 0 ≤ sizeLine; decide), fun ne hne => ?_⟩
  have s21 := same_new hne (.lst [])
  have he21 : (upd H20 ne (.lst [])) ne = some (.lst []) := upd_same
  generalize upd H20 ne (.lst []) = H21 at s21 he21
  have ti1 := Ti.same ti0 s21 (fun _ _ _ z => z)
  have s821 := s820.trans s21
  refine ⟨_, x, d, t, r, ne, _, row, [], rfl, ti1, R8.same s821, ⟨[], he21, .nil⟩, by omega, by decide, by decide, (fun _ _ z => z), fun H22 ti22 k22 => ?_⟩
  obtain ⟨hx21, kv21, ht21, _⟩ := id ti1
  have up22 : ∀ a o, H21 a = some o → ((∃ xs, o = .tup xs) ∨ (∃ xs, o = .lst xs)) → H22 a = some o := fun a o e z => by
    rcases z with ⟨xs, rfl⟩ | ⟨xs, rfl⟩
    · exact k22 _ _ e (ne_of e hx21 (by intro z; cases z)) (ne_of e ht21 (by intro z; cases z))
    · exact k22 _ _ e (ne_of e hx21 (by intro z; cases z)) (ne_of e ht21 (by intro z; cases z))
  have upR : ∀ {H H' : Hp} {r : Addr} {row : Row}, (∀ a o, H a = some o → ((∃ xs, o = .tup xs) ∨ (∃ xs, o = .lst xs)) → H' a = some o) → RowAt H r row → RowAt H' r row := fun up h => by
    obtain ⟨as, e, p⟩ := h
    exact ⟨as, up _ _ e (.inr ⟨_, rfl⟩), p.tups fun b xs e => up _ _ e (.inl ⟨_, rfl⟩)⟩
  have R22 := upR up22 (R8.same s821)
  have O22 := upR up22 (O8.same s821)
  refine ⟨_, rfl, x, d, _, rfl, ti22.1, rfl, _, rfl, _, rfl, _, x, d, t, o, r, _, other, row, rfl, ti22, O22, R22, by omega, by omega, (by show 1 ≤ 1000; decide), (fun _ _ z => z), fun H23 ti23 k23 => ?_⟩
  obtain ⟨hx22, kv22, ht22, _⟩ := id ti22
  have up23 : ∀ a o, H22 a = some o → ((∃ xs, o = .tup xs) ∨ (∃ xs, o = .lst xs)) → H23 a = some o := fun a o e z => by
    rcases z with ⟨xs, rfl⟩ | ⟨xs, rfl⟩
    · exact k23 _ _ e (ne_of e hx22 (by intro z; cases z)) (ne_of e ht22 (by intro z; cases z))
    · exact k23 _ _ e (ne_of e hx22 (by intro z; cases z)) (ne_of e ht22 (by intro z; cases z))
  have O23 := upR up23 O22
  refine ⟨(by show 0 ≤ sizeLine; decide), fun d0 hd0 => ?_⟩
  have s24 := same_new hd0 (.lst [])
  have he24 : (upd H23 d0 (.lst [])) d0 = some (.lst []) := upd_same
  generalize upd H23 d0 (.lst []) = H24 at s24 he24
  refine ⟨_, _, _, _, _, _, _, _, o, d0, other, both, rfl, O23.same s24, he24, fun dd H25 hdd s25 => ?_⟩
  have s2325 := s24.trans s25
  have ti25 := Ti.same ti23 s2325 (fun _ _ _ z => z)
  have O25 := O23.same s2325
  obtain ⟨od1, od2⟩ := on_due ok1 ok2 bi
  have rwL : RwOk [some (plainF row, plainF []), some (plainF other, plainF row)] := by
    intro z hz w e
    have z1 := plainF_le row
    have z2 := plainF_le other
    have okn : Ok (plainF []) := fun p hp => by cases hp
    simp only [List.mem_cons, List.not_mem_nil, or_false] at hz
    rcases hz with rfl | rfl
    · cases e
      exact ⟨plain_ok _ ok1, okn, by show (plainF row).length < 30; omega, by show 0 < 30; decide⟩
    · cases e
      exact ⟨plain_ok _ ok2, plain_ok _ ok1, by show (plainF other).length < 30; omega, by show (plainF row).length < 30; omega⟩
  have tiL : Ti CTies (fun _ => False) H25 x d t [some (plainF row, plainF []), some (plainF other, plainF row)] := ti25
  refine ⟨_, rfl, x, d, _, rfl, tiL.1, rfl, _, rfl, _, x, d, t, o, _, other, rfl, tiL, O25, ok2, by omega, rwL, (by show 2 ≤ 30; decide), fun q1 H26 h26 s26 f26 => ?_⟩
  rw [od1] at h26
  refine ⟨_, rfl, _, _, rfl, ints_eqv h26 (s26 _ _ hdd) 1, fun H27 s27 => ⟨_, rfl, iteF ?_⟩⟩
  have s2527 := s26.trans s27
  have tiM := Ti.same tiL s2527 (fun _ _ _ z => z)
  refine ⟨_, rfl, x, d, _, rfl, tiM.1, rfl, _, rfl, _, x, d, t, o, _, other, rfl, tiM, O25.same s2527, ok2, by omega, rwL, (by show 2 ≤ 30; decide), fun q2 H28 h28 s28 f28 => ?_⟩
  rw [od2] at h28
  have hdd28 := s28 _ _ (s2527 _ _ hdd)
  have cv : cutV ((dueL both (decide (0 < tot other))).map V.int) (some 1) none = ((dueL both (decide (0 < tot other))).drop 1).map V.int := by
    unfold dueL
    cases both <;> cases decide (0 < tot other) <;> rfl
  refine ⟨_, rfl, _, rfl, dd, _, rfl, SqL.of hdd28, fun sl hsl => ?_⟩
  rw [cv]
  refine ⟨_, rfl, .inr ⟨both, rfl, sl, _, _, rfl, rfl, upd_same, (by cases both <;> decide), (by cases both <;> decide), ?_, fun rp hrp => ?_⟩⟩
  · have : ((dueL both (decide (0 < tot other))).drop 1).length ≤ 1 := by
      unfold dueL
      cases both <;> cases decide (0 < tot other) <;> decide
    rw [List.length_map]
    refine Nat.le_of_lt (million ?_)
    cases both
    · show _ * 0 ≤ _; omega
    · show _ * 1 ≤ _; omega
  have s29 := (same_new hsl (.lst (((dueL both (decide (0 < tot other))).drop 1).map V.int))).trans (same_new hrp (.lst (List.replicate (Int.toNat (if both = true then 1 else 0)) (((dueL both (decide (0 < tot other))).drop 1).map V.int)).flatten))
  have er : (List.replicate (Int.toNat (if both = true then 1 else 0)) (((dueL both (decide (0 < tot other))).drop 1).map V.int)).flatten = (if both = true then [1] else []).map V.int := by
    unfold dueL
    cases both <;> cases decide (0 < tot other) <;> rfl
  have up28 : ∀ a o, H8 a = some o → ((∃ xs, o = .tup xs) ∨ (∃ xs, o = .lst xs)) → H28 a = some o := fun a o e z => s28 _ _ (s2527 _ _ (s2325 _ _ (up23 _ _ (up22 _ _ (s821 _ _ e) z) z)))
  refine ⟨_, _, rfl, ints_eqv (s29 _ _ h28) (by rw [upd_same, er]) 1, fun H30 s30 => ⟨_, rfl, iteT ?_⟩⟩
  have up30 : ∀ a o, H8 a = some o → ((∃ xs, o = .tup xs) ∨ (∃ xs, o = .lst xs)) → H30 a = some o := fun a o e z => s30 _ _ (s29 _ _ (up28 a o e z))
  refine ⟨_, rfl, _, rfl, _, rfl, (by show 2 ≤ sizeLine; decide), fun e2 he2 => ?_⟩
  have t9 := same_new he2 (.tup [.ref r, .ref o])
  have z1 := up30 _ _ (s58 _ _ hr5) (.inr ⟨_, rfl⟩)
  have z2 := up30 _ _ (s58 _ _ ho5) (.inr ⟨_, rfl⟩)
  have z3 := up30 _ _ (t3 _ _ (t2 _ _ kk1)) (.inr ⟨_, rfl⟩)
  have z4 := up30 _ _ (t3 _ _ kk2) (.inr ⟨_, rfl⟩)
  exact ⟨kt, e2, k1, k2, r, o, rs5.map V.ref, os5.map V.ref, rfl, rfl, t9 _ _ (up30 _ _ kk3 (.inl ⟨_, rfl⟩)), upd_same, SqL.of (t9 _ _ z3), SqL.of (t9 _ _ z1), SqL.of (t9 _ _ z4), SqL.of (t9 _ _ z2), all_ref _, all_ref _, k _⟩
end

end Ink
namespace Ink
open PySem L2 InkX InkE InkF InkP
theorem all_mk {l : PySem.W.OpenLaw} {w : World} {K : PySem.W.Frag} {h : Heap} {mg : Str → Option Value} {fa : Addr} (X : K.In h) (G : h.Ns mainGlobals mg) (hfa : mg "law" = some (.ref fa))
    {f0 f1 f2 f3 f4 f5 f6 f7 f8 f9 f10 f11 f12 f13 f14 f15 f16 f17 f18 f19 f20 f21 f22 f23 f24 : Addr} {od0 an0 od1 an1 od2 an2 od3 an3 od4 an4 od5 an5 od6 an6 od7 an7 od8 an8 od9 an9 od10 an10 od11 an11 od12 an12 od13 an13 od14 an14 od15 an15 od16 an16 od17 an17 od18 an18 od19 an19 od20 an20 od21 an21 od22 an22 od23 an23 od24 an24 : Option Addr} {sl0 sl1 sl2 sl3 sl4 sl5 sl6 sl7 sl8 sl9 sl10 sl11 sl12 sl13 sl14 sl15 sl16 sl17 sl18 sl19 sl20 sl21 sl22 sl23 sl24 : Array (Option Value)} {oc0 kV0 dc0 pm0 cd0 ct0 oc1 kV1 dc1 pm1 cd1 ct1 oc2 kV2 dc2 pm2 cd2 ct2 oc3 kV3 dc3 pm3 cd3 ct3 oc4 kV4 dc4 pm4 cd4 ct4 oc5 kV5 dc5 pm5 cd5 ct5 oc6 kV6 dc6 pm6 cd6 ct6 oc7 kV7 dc7 pm7 cd7 ct7 oc8 kV8 dc8 pm8 cd8 ct8 oc9 kV9 dc9 pm9 cd9 ct9 oc10 kV10 dc10 pm10 cd10 ct10 oc11 kV11 dc11 pm11 cd11 ct11 oc12 kV12 dc12 pm12 cd12 ct12 oc13 kV13 dc13 pm13 cd13 ct13 oc14 kV14 dc14 pm14 cd14 ct14 oc15 kV15 dc15 pm15 cd15 ct15 oc16 kV16 dc16 pm16 cd16 ct16 oc17 kV17 dc17 pm17 cd17 ct17 oc18 kV18 dc18 pm18 cd18 ct18 oc19 kV19 dc19 pm19 cd19 ct19 oc20 kV20 dc20 pm20 cd20 ct20 oc21 kV21 dc21 pm21 cd21 ct21 oc22 kV22 dc22 pm22 cd22 ct22 oc23 kV23 dc23 pm23 cd23 ct23 oc24 kV24 dc24 pm24 cd24 ct24 : Value} {CTies : Addr}
    (aCTies : PySem.W.nsIn K mainGlobals "Ties" = some (some (.ref CTies))) (pgTies : PySem.W.plainGet K CTies Str.empty = true) (hdTies : PySem.W.hasDictIn K CTies = true) (poTies : PySem.W.plainOver K CTies = true) (saTies : PySem.W.findIn K (.ref CTies) "__setattr__" = some (some (.builtin "object.__setattr__"))) (mkTies : PySem.W.makesIn K CTies = true) (kcTies : PySem.W.keepIn K (.ref CTies) = true) (noTiesgiven : PySem.W.findIn K (.ref CTies) "given" = some none) (noTiespairs : PySem.W.findIn K (.ref CTies) "pairs" = some none)
    (a0 : PySem.W.nsIn K mainGlobals "_law_src" = some (some (.ref f0))) (l0 : K.lookup f0 = some ⟨oc0, od0, .func (PySem.W.fnOf "_law_src" "_law_src" (defArgs s_law_src) (defBody s_law_src) (defScope s_law_src) .none kV0 dc0 pm0 an0 cd0 ct0), sl0⟩) (c0 : PySem.W.codeIn K cd0 "_law_src" = true) (k0 : PySem.W.keepIn K (.ref f0) = true)
    (a1 : PySem.W.nsIn K mainGlobals "_law_next" = some (some (.ref f1))) (l1 : K.lookup f1 = some ⟨oc1, od1, .func (PySem.W.fnOf "_law_next" "_law_next" (defArgs s_law_next) (defBody s_law_next) (defScope s_law_next) .none kV1 dc1 pm1 an1 cd1 ct1), sl1⟩) (c1 : PySem.W.codeIn K cd1 "_law_next" = true) (k1 : PySem.W.keepIn K (.ref f1) = true)
    (a2 : PySem.W.nsIn K mainGlobals "_law_whole" = some (some (.ref f2))) (l2 : K.lookup f2 = some ⟨oc2, od2, .func (PySem.W.fnOf "_law_whole" "_law_whole" (defArgs s_law_whole) (defBody s_law_whole) (defScope s_law_whole) .none kV2 dc2 pm2 an2 cd2 ct2), sl2⟩) (c2 : PySem.W.codeIn K cd2 "_law_whole" = true) (k2 : PySem.W.keepIn K (.ref f2) = true)
    (a3 : PySem.W.nsIn K mainGlobals "_law_same" = some (some (.ref f3))) (l3 : K.lookup f3 = some ⟨oc3, od3, .func (PySem.W.fnOf "_law_same" "_law_same" (defArgs s_law_same) (defBody s_law_same) (defScope s_law_same) .none kV3 dc3 pm3 an3 cd3 ct3), sl3⟩) (c3 : PySem.W.codeIn K cd3 "_law_same" = true) (k3 : PySem.W.keepIn K (.ref f3) = true)
    (a4 : PySem.W.nsIn K mainGlobals "plain" = some (some (.ref f4))) (l4 : K.lookup f4 = some ⟨oc4, od4, .func (PySem.W.fnOf "plain" "plain" (defArgs splain) (defBody splain) (defScope splain) .none kV4 dc4 pm4 an4 cd4 ct4), sl4⟩) (c4 : PySem.W.codeIn K cd4 "plain" = true) (k4 : PySem.W.keepIn K (.ref f4) = true)
    (a5 : PySem.W.nsIn K mainGlobals "size" = some (some (.ref f5))) (l5 : K.lookup f5 = some ⟨oc5, od5, .func (PySem.W.fnOf "size" "size" (defArgs ssize) (defBody ssize) (defScope ssize) .none kV5 dc5 pm5 an5 cd5 ct5), sl5⟩) (c5 : PySem.W.codeIn K cd5 "size" = true) (k5 : PySem.W.keepIn K (.ref f5) = true)
    (a6 : PySem.W.nsIn K mainGlobals "spread" = some (some (.ref f6))) (l6 : K.lookup f6 = some ⟨oc6, od6, .func (PySem.W.fnOf "spread" "spread" (defArgs sspread) (defBody sspread) (defScope sspread) .none kV6 dc6 pm6 an6 cd6 ct6), sl6⟩) (c6 : PySem.W.codeIn K cd6 "spread" = true) (k6 : PySem.W.keepIn K (.ref f6) = true)
    (a7 : PySem.W.nsIn K mainGlobals "meets" = some (some (.ref f7))) (l7 : K.lookup f7 = some ⟨oc7, od7, .func (PySem.W.fnOf "meets" "meets" (defArgs smeets) (defBody smeets) (defScope smeets) .none kV7 dc7 pm7 an7 cd7 ct7), sl7⟩) (c7 : PySem.W.codeIn K cd7 "meets" = true) (k7 : PySem.W.keepIn K (.ref f7) = true)
    (a8 : PySem.W.nsIn K mainGlobals "first_reaching" = some (some (.ref f8))) (l8 : K.lookup f8 = some ⟨oc8, od8, .func (PySem.W.fnOf "first_reaching" "first_reaching" (defArgs sfirst_reaching) (defBody sfirst_reaching) (defScope sfirst_reaching) .none kV8 dc8 pm8 an8 cd8 ct8), sl8⟩) (c8 : PySem.W.codeIn K cd8 "first_reaching" = true) (k8 : PySem.W.keepIn K (.ref f8) = true)
    (a9 : PySem.W.nsIn K mainGlobals "left_over" = some (some (.ref f9))) (l9 : K.lookup f9 = some ⟨oc9, od9, .func (PySem.W.fnOf "left_over" "left_over" (defArgs sleft_over) (defBody sleft_over) (defScope sleft_over) .none kV9 dc9 pm9 an9 cd9 ct9), sl9⟩) (c9 : PySem.W.codeIn K cd9 "left_over" = true) (k9 : PySem.W.keepIn K (.ref f9) = true)
    (a10 : PySem.W.nsIn K mainGlobals "without" = some (some (.ref f10))) (l10 : K.lookup f10 = some ⟨oc10, od10, .func (PySem.W.fnOf "without" "without" (defArgs swithout) (defBody swithout) (defScope swithout) .none kV10 dc10 pm10 an10 cd10 ct10), sl10⟩) (c10 : PySem.W.codeIn K cd10 "without" = true) (k10 : PySem.W.keepIn K (.ref f10) = true)
    (a11 : PySem.W.nsIn K mainGlobals "_law_big_by" = some (some (.ref f11))) (l11 : K.lookup f11 = some ⟨oc11, od11, .func (PySem.W.fnOf "_law_big_by" "_law_big_by" (defArgs s_law_big_by) (defBody s_law_big_by) (defScope s_law_big_by) .none kV11 dc11 pm11 an11 cd11 ct11), sl11⟩) (c11 : PySem.W.codeIn K cd11 "_law_big_by" = true) (k11 : PySem.W.keepIn K (.ref f11) = true)
    (a12 : PySem.W.nsIn K mainGlobals "_law_total" = some (some (.ref f12))) (l12 : K.lookup f12 = some ⟨oc12, od12, .func (PySem.W.fnOf "_law_total" "_law_total" (defArgs s_law_total) (defBody s_law_total) (defScope s_law_total) .none kV12 dc12 pm12 an12 cd12 ct12), sl12⟩) (c12 : PySem.W.codeIn K cd12 "_law_total" = true) (k12 : PySem.W.keepIn K (.ref f12) = true)
    (a13 : PySem.W.nsIn K mainGlobals "_law_spot" = some (some (.ref f13))) (l13 : K.lookup f13 = some ⟨oc13, od13, .func (PySem.W.fnOf "_law_spot" "_law_spot" (defArgs s_law_spot) (defBody s_law_spot) (defScope s_law_spot) .none kV13 dc13 pm13 an13 cd13 ct13), sl13⟩) (c13 : PySem.W.codeIn K cd13 "_law_spot" = true) (k13 : PySem.W.keepIn K (.ref f13) = true)
    (a14 : PySem.W.nsIn K mainGlobals "_law_plain" = some (some (.ref f14))) (l14 : K.lookup f14 = some ⟨oc14, od14, .func (PySem.W.fnOf "_law_plain" "_law_plain" (defArgs s_law_plain) (defBody s_law_plain) (defScope s_law_plain) .none kV14 dc14 pm14 an14 cd14 ct14), sl14⟩) (c14 : PySem.W.codeIn K cd14 "_law_plain" = true) (k14 : PySem.W.keepIn K (.ref f14) = true)
    (a15 : PySem.W.findIn K (.ref CTies) "__init__" = some (some (.ref f15))) (i15 : PySem.W.isFn K (.ref f15) = true) (l15 : K.lookup f15 = some ⟨oc15, od15, .func (PySem.W.fnOf "__init__" "Ties.__init__" (defArgs sTies___init__) (defBody sTies___init__) (defScope sTies___init__) .none kV15 dc15 pm15 an15 cd15 ct15), sl15⟩) (c15 : PySem.W.codeIn K cd15 "Ties.__init__" = true) (k15 : PySem.W.keepIn K (.ref f15) = true)
    (a16 : PySem.W.findIn K (.ref CTies) "tie" = some (some (.ref f16))) (i16 : PySem.W.isFn K (.ref f16) = true) (l16 : K.lookup f16 = some ⟨oc16, od16, .func (PySem.W.fnOf "tie" "Ties.tie" (defArgs sTies_tie) (defBody sTies_tie) (defScope sTies_tie) .none kV16 dc16 pm16 an16 cd16 ct16), sl16⟩) (c16 : PySem.W.codeIn K cd16 "Ties.tie" = true) (k16 : PySem.W.keepIn K (.ref f16) = true)
    (a17 : PySem.W.findIn K (.ref CTies) "live" = some (some (.ref f17))) (i17 : PySem.W.isFn K (.ref f17) = true) (l17 : K.lookup f17 = some ⟨oc17, od17, .func (PySem.W.fnOf "live" "Ties.live" (defArgs sTies_live) (defBody sTies_live) (defScope sTies_live) .none kV17 dc17 pm17 an17 cd17 ct17), sl17⟩) (c17 : PySem.W.codeIn K cd17 "Ties.live" = true) (k17 : PySem.W.keepIn K (.ref f17) = true)
    (a18 : PySem.W.findIn K (.ref CTies) "leaving" = some (some (.ref f18))) (i18 : PySem.W.isFn K (.ref f18) = true) (l18 : K.lookup f18 = some ⟨oc18, od18, .func (PySem.W.fnOf "leaving" "Ties.leaving" (defArgs sTies_leaving) (defBody sTies_leaving) (defScope sTies_leaving) .none kV18 dc18 pm18 an18 cd18 ct18), sl18⟩) (c18 : PySem.W.codeIn K cd18 "Ties.leaving" = true) (k18 : PySem.W.keepIn K (.ref f18) = true)
    (a19 : PySem.W.findIn K (.ref CTies) "coming" = some (some (.ref f19))) (i19 : PySem.W.isFn K (.ref f19) = true) (l19 : K.lookup f19 = some ⟨oc19, od19, .func (PySem.W.fnOf "coming" "Ties.coming" (defArgs sTies_coming) (defBody sTies_coming) (defScope sTies_coming) .none kV19 dc19 pm19 an19 cd19 ct19), sl19⟩) (c19 : PySem.W.codeIn K cd19 "Ties.coming" = true) (k19 : PySem.W.keepIn K (.ref f19) = true)
    (a20 : PySem.W.findIn K (.ref CTies) "on" = some (some (.ref f20))) (i20 : PySem.W.isFn K (.ref f20) = true) (l20 : K.lookup f20 = some ⟨oc20, od20, .func (PySem.W.fnOf "on" "Ties.on" (defArgs sTies_on) (defBody sTies_on) (defScope sTies_on) .none kV20 dc20 pm20 an20 cd20 ct20), sl20⟩) (c20 : PySem.W.codeIn K cd20 "Ties.on" = true) (k20 : PySem.W.keepIn K (.ref f20) = true)
    (a21 : PySem.W.nsIn K mainGlobals "_law_near_by" = some (some (.ref f21))) (l21 : K.lookup f21 = some ⟨oc21, od21, .func (PySem.W.fnOf "_law_near_by" "_law_near_by" (defArgs s_law_near_by) (defBody s_law_near_by) (defScope s_law_near_by) .none kV21 dc21 pm21 an21 cd21 ct21), sl21⟩) (c21 : PySem.W.codeIn K cd21 "_law_near_by" = true) (k21 : PySem.W.keepIn K (.ref f21) = true)
    (a22 : PySem.W.nsIn K mainGlobals "_law_less" = some (some (.ref f22))) (l22 : K.lookup f22 = some ⟨oc22, od22, .func (PySem.W.fnOf "_law_less" "_law_less" (defArgs s_law_less) (defBody s_law_less) (defScope s_law_less) .none kV22 dc22 pm22 an22 cd22 ct22), sl22⟩) (c22 : PySem.W.codeIn K cd22 "_law_less" = true) (k22 : PySem.W.keepIn K (.ref f22) = true)
    (a23 : PySem.W.nsIn K mainGlobals "_law_rising" = some (some (.ref f23))) (l23 : K.lookup f23 = some ⟨oc23, od23, .func (PySem.W.fnOf "_law_rising" "_law_rising" (defArgs s_law_rising) (defBody s_law_rising) (defScope s_law_rising) .none kV23 dc23 pm23 an23 cd23 ct23), sl23⟩) (c23 : PySem.W.codeIn K cd23 "_law_rising" = true) (k23 : PySem.W.keepIn K (.ref f23) = true)
    (a24 : PySem.W.nsIn K mainGlobals "law" = some (some (.ref f24))) (l24 : K.lookup f24 = some ⟨oc24, od24, .func (PySem.W.fnOf "law" "law" (defArgs slaw) (defBody slaw) (defScope slaw) .none kV24 dc24 pm24 an24 cd24 ct24), sl24⟩) (c24 : PySem.W.codeIn K cd24 "law" = true) (k24 : PySem.W.keepIn K (.ref f24) = true)
    (z0 : PySem.W.nsIn K mainGlobals "len" = some none)
    (z1 : PySem.W.nsIn K mainGlobals "list" = some none)
    (z2 : PySem.W.nsIn K mainGlobals "tuple" = some none)
    (z3 : PySem.W.nsIn K mainGlobals "int" = some none)
    (z4 : PySem.W.nsIn K mainGlobals "bool" = some none)
    (z5 : PySem.W.nsIn K mainGlobals "str" = some none)
    (z6 : PySem.W.nsIn K mainGlobals "range" = some none)
    (z7 : PySem.W.nsIn K mainGlobals "zip" = some none)
    (z8 : PySem.W.nsIn K mainGlobals "isinstance" = some none)
    (z9 : PySem.W.nsIn K mainGlobals "sum" = some none)
    (z10 : PySem.W.nsIn K mainGlobals "max" = some none)
    (z11 : PySem.W.nsIn K mainGlobals "min" = some none)
    (z12 : PySem.W.nsIn K mainGlobals "sorted" = some none)
    (z13 : PySem.W.nsIn K mainGlobals "set" = some none) :
    ∃ fd : FuncData, (∀ (s : Shared) (v : Value), BindsTo s fd ⟨[v], []⟩ [("_law_script", v)]) ∧ ∀ base : Heap, K.In base → base.Ns mainGlobals mg → FnOk l.prog w K mg base CX0 9 fa fd ["_law_script"] (spLaw K) := by
  have e := hfa.symm.trans (PySem.W.mg_of X G a24)
  cases e
  have T : Nms mg := ⟨PySem.W.mg_none_of X G z0, PySem.W.mg_none_of X G z1, PySem.W.mg_none_of X G z2, PySem.W.mg_none_of X G z3, PySem.W.mg_none_of X G z4, PySem.W.mg_none_of X G z5, PySem.W.mg_none_of X G z6, PySem.W.mg_none_of X G z7, PySem.W.mg_none_of X G z8, PySem.W.mg_none_of X G z9, PySem.W.mg_none_of X G z10, PySem.W.mg_none_of X G z11, PySem.W.mg_none_of X G z12, PySem.W.mg_none_of X G z13⟩
  have F0 := fun_mk (st := s_law_src) l0 c0 k0
  have D0 : DefAt K mg "_law_src" s_law_src ["_law_script"] f0 _ := ⟨F0, F0.binds (ps := ["_law_script"]) (fun _ _ _ _ _ _ us hl => match us, hl with | [_], _ => rfl), PySem.W.mg_of X G a0⟩
  have F1 := fun_mk (st := s_law_next) l1 c1 k1
  have D1 : DefAt K mg "_law_next" s_law_next ["_law_src_here", "_law_base"] f1 _ := ⟨F1, F1.binds (ps := ["_law_src_here", "_law_base"]) (fun _ _ _ _ _ _ us hl => match us, hl with | [_, _], _ => rfl), PySem.W.mg_of X G a1⟩
  have F2 := fun_mk (st := s_law_whole) l2 c2 k2
  have D2 : DefAt K mg "_law_whole" s_law_whole ["_law_found"] f2 _ := ⟨F2, F2.binds (ps := ["_law_found"]) (fun _ _ _ _ _ _ us hl => match us, hl with | [_], _ => rfl), PySem.W.mg_of X G a2⟩
  have F3 := fun_mk (st := s_law_same) l3 c3 k3
  have D3 : DefAt K mg "_law_same" s_law_same ["_law_found", "_law_due"] f3 _ := ⟨F3, F3.binds (ps := ["_law_found", "_law_due"]) (fun _ _ _ _ _ _ us hl => match us, hl with | [_, _], _ => rfl), PySem.W.mg_of X G a3⟩
  have F4 := fun_mk (st := splain) l4 c4 k4
  have D4 : DefAt K mg "plain" splain ["row"] f4 _ := ⟨F4, F4.binds (ps := ["row"]) (fun _ _ _ _ _ _ us hl => match us, hl with | [_], _ => rfl), PySem.W.mg_of X G a4⟩
  have F5 := fun_mk (st := ssize) l5 c5 k5
  have D5 : DefAt K mg "size" ssize ["row"] f5 _ := ⟨F5, F5.binds (ps := ["row"]) (fun _ _ _ _ _ _ us hl => match us, hl with | [_], _ => rfl), PySem.W.mg_of X G a5⟩
  have F6 := fun_mk (st := sspread) l6 c6 k6
  have D6 : DefAt K mg "spread" sspread ["row"] f6 _ := ⟨F6, F6.binds (ps := ["row"]) (fun _ _ _ _ _ _ us hl => match us, hl with | [_], _ => rfl), PySem.W.mg_of X G a6⟩
  have F7 := fun_mk (st := smeets) l7 c7 k7
  have D7 : DefAt K mg "meets" smeets ["one", "other"] f7 _ := ⟨F7, F7.binds (ps := ["one", "other"]) (fun _ _ _ _ _ _ us hl => match us, hl with | [_, _], _ => rfl), PySem.W.mg_of X G a7⟩
  have F8 := fun_mk (st := sfirst_reaching) l8 c8 k8
  have D8 : DefAt K mg "first_reaching" sfirst_reaching ["holes", "start"] f8 _ := ⟨F8, F8.binds (ps := ["holes", "start"]) (fun _ _ _ _ _ _ us hl => match us, hl with | [_, _], _ => rfl), PySem.W.mg_of X G a8⟩
  have F9 := fun_mk (st := sleft_over) l9 c9 k9
  have D9 : DefAt K mg "left_over" sleft_over ["start", "stop", "holes"] f9 _ := ⟨F9, F9.binds (ps := ["start", "stop", "holes"]) (fun _ _ _ _ _ _ us hl => match us, hl with | [_, _, _], _ => rfl), PySem.W.mg_of X G a9⟩
  have F10 := fun_mk (st := swithout) l10 c10 k10
  have D10 : DefAt K mg "without" swithout ["row", "other"] f10 _ := ⟨F10, F10.binds (ps := ["row", "other"]) (fun _ _ _ _ _ _ us hl => match us, hl with | [_, _], _ => rfl), PySem.W.mg_of X G a10⟩
  have F11 := fun_mk (st := s_law_big_by) l11 c11 k11
  have D11 : DefAt K mg "_law_big_by" s_law_big_by ["_law_src_here", "_law_most"] f11 _ := ⟨F11, F11.binds (ps := ["_law_src_here", "_law_most"]) (fun _ _ _ _ _ _ us hl => match us, hl with | [_, _], _ => rfl), PySem.W.mg_of X G a11⟩
  have F12 := fun_mk (st := s_law_total) l12 c12 k12
  have D12 : DefAt K mg "_law_total" s_law_total ["_law_row"] f12 _ := ⟨F12, F12.binds (ps := ["_law_row"]) (fun _ _ _ _ _ _ us hl => match us, hl with | [_], _ => rfl), PySem.W.mg_of X G a12⟩
  have F13 := fun_mk (st := s_law_spot) l13 c13 k13
  have D13 : DefAt K mg "_law_spot" s_law_spot ["_law_src_here", "_law_total_here"] f13 _ := ⟨F13, F13.binds (ps := ["_law_src_here", "_law_total_here"]) (fun _ _ _ _ _ _ us hl => match us, hl with | [_, _], _ => rfl), PySem.W.mg_of X G a13⟩
  have F14 := fun_mk (st := s_law_plain) l14 c14 k14
  have D14 : DefAt K mg "_law_plain" s_law_plain ["_law_row"] f14 _ := ⟨F14, F14.binds (ps := ["_law_row"]) (fun _ _ _ _ _ _ us hl => match us, hl with | [_], _ => rfl), PySem.W.mg_of X G a14⟩
  have F15 := fun_mk (st := sTies___init__) l15 c15 k15
  have D15 : MetAt K CTies "__init__" "Ties.__init__" sTies___init__ ["self"] f15 _ := ⟨F15, F15.binds (ps := ["self"]) (fun _ _ _ _ _ _ us hl => match us, hl with | [_], _ => rfl), ⟨a15, i15, k15⟩⟩
  have F16 := fun_mk (st := sTies_tie) l16 c16 k16
  have D16 : MetAt K CTies "tie" "Ties.tie" sTies_tie ["self", "one", "other"] f16 _ := ⟨F16, F16.binds (ps := ["self", "one", "other"]) (fun _ _ _ _ _ _ us hl => match us, hl with | [_, _, _], _ => rfl), ⟨a16, i16, k16⟩⟩
  have F17 := fun_mk (st := sTies_live) l17 c17 k17
  have D17 : MetAt K CTies "live" "Ties.live" sTies_live ["self"] f17 _ := ⟨F17, F17.binds (ps := ["self"]) (fun _ _ _ _ _ _ us hl => match us, hl with | [_], _ => rfl), ⟨a17, i17, k17⟩⟩
  have F18 := fun_mk (st := sTies_leaving) l18 c18 k18
  have D18 : MetAt K CTies "leaving" "Ties.leaving" sTies_leaving ["self", "row"] f18 _ := ⟨F18, F18.binds (ps := ["self", "row"]) (fun _ _ _ _ _ _ us hl => match us, hl with | [_, _], _ => rfl), ⟨a18, i18, k18⟩⟩
  have F19 := fun_mk (st := sTies_coming) l19 c19 k19
  have D19 : MetAt K CTies "coming" "Ties.coming" sTies_coming ["self", "row"] f19 _ := ⟨F19, F19.binds (ps := ["self", "row"]) (fun _ _ _ _ _ _ us hl => match us, hl with | [_, _], _ => rfl), ⟨a19, i19, k19⟩⟩
  have F20 := fun_mk (st := sTies_on) l20 c20 k20
  have D20 : MetAt K CTies "on" "Ties.on" sTies_on ["self", "row"] f20 _ := ⟨F20, F20.binds (ps := ["self", "row"]) (fun _ _ _ _ _ _ us hl => match us, hl with | [_, _], _ => rfl), ⟨a20, i20, k20⟩⟩
  have F21 := fun_mk (st := s_law_near_by) l21 c21 k21
  have D21 : DefAt K mg "_law_near_by" s_law_near_by ["_law_src_here", "_law_row"] f21 _ := ⟨F21, F21.binds (ps := ["_law_src_here", "_law_row"]) (fun _ _ _ _ _ _ us hl => match us, hl with | [_, _], _ => rfl), PySem.W.mg_of X G a21⟩
  have F22 := fun_mk (st := s_law_less) l22 c22 k22
  have D22 : DefAt K mg "_law_less" s_law_less ["_law_row", "_law_low", "_law_high"] f22 _ := ⟨F22, F22.binds (ps := ["_law_row", "_law_low", "_law_high"]) (fun _ _ _ _ _ _ us hl => match us, hl with | [_, _, _], _ => rfl), PySem.W.mg_of X G a22⟩
  have F23 := fun_mk (st := s_law_rising) l23 c23 k23
  have D23 : DefAt K mg "_law_rising" s_law_rising ["_law_row"] f23 _ := ⟨F23, F23.binds (ps := ["_law_row"]) (fun _ _ _ _ _ _ us hl => match us, hl with | [_], _ => rfl), PySem.W.mg_of X G a23⟩
  have F24 := fun_mk (st := slaw) l24 c24 k24
  have CLTies : ClsAt K mg "Ties" CTies f15 := ⟨⟨pgTies, hdTies, poTies, saTies⟩, PySem.W.mg_of X G aCTies, ⟨mkTies, a15, i15, kcTies⟩⟩
  exact ⟨PySem.W.fnOf "law" "law" (defArgs slaw) (defBody slaw) (defScope slaw) .none kV24 dc24 pm24 an24 cd24 ct24, fun s v => .of_eq rfl, fun base _ _ => ok_law F24 T D0 D1 D2 D3 D4 D5 D6 D7 D8 D9 D10 D11 D12 D13 D14 D15 D16 D17 D18 D19 D20 D21 D22 D23 CLTies noTiesgiven noTiespairs⟩
theorem walk {l : PySem.W.OpenLaw} {q : Program} {loose : List Str} {XP : (Str → Option Value) → Heap → Prop} {YP : World → Heap → Prop} {d : DefRec} {K : Params → PySem.W.Frag} (hn : l.most = some 63) (hdf : d.params.defaults = [])
    (hY : ∀ (w : World) (h : Heap), YP w h → (K w.params).In h)
    (F : ∀ (w : World) (mg : Str → Option Value) (fa : Addr) (h : Heap), (K w.params).In h → h.Ns mainGlobals mg → mg d.name = some (.ref fa) →
      ∃ fd : FuncData, (∀ (s : Shared) (u : Value), BindsTo s fd ⟨[u], []⟩ [("_law_script", u)]) ∧ ∀ base : Heap, (K w.params).In base → base.Ns mainGlobals mg → FnOk l.prog w (K w.params) mg base CX0 9 fa fd ["_law_script"] (spLaw (K w.params))) :
    PySem.W.WalkO q loose XP YP l.row.toRowW d [] (fun f vs => PySem.call f vs) :=
  L2.walk_of (n := 63) (k := 9) (x := "_law_script") (CX := fun _ => CX0) (sp := fun w => spLaw (K w.params)) hn (by decide) hdf ⟨rfl, by decide, by decide⟩ hY F (fun _ _ a ns hl _ hS => ⟨a, ns, rfl, hS, hl, fun _ => rfl⟩) fun _ _ _ _ _ z => z
end Ink
open PySem PySem.W PyProof.Rows
set_option maxRecDepth 100000 in
set_option maxHeartbeats 0 in
theorem PySem.Challenge.cw_inkroot_k62_great_sets_holds : PySem.Challenge.rw_inkroot_k62_great_sets.Holds := by
  w_on; o_law; k_head; (case hw => w_witness2)
  k_fill
  refine Ink.walk (l := PySem.Challenge.rw_inkroot_k62_great_sets) rfl rfl (fun w h Y => PySem.W.kIn_of Y) ?F
  case F =>
    intro w mg fa h KX G hmg
    refine' Ink.all_mk KX G hmg ?aCTies ?pgTies ?hdTies ?poTies ?saTies ?mkTies ?kcTies ?noTiesgiven ?noTiespairs ?a0 ?l0 ?c0 ?k0 ?a1 ?l1 ?c1 ?k1 ?a2 ?l2 ?c2 ?k2 ?a3 ?l3 ?c3 ?k3 ?a4 ?l4 ?c4 ?k4 ?a5 ?l5 ?c5 ?k5 ?a6 ?l6 ?c6 ?k6 ?a7 ?l7 ?c7 ?k7 ?a8 ?l8 ?c8 ?k8 ?a9 ?l9 ?c9 ?k9 ?a10 ?l10 ?c10 ?k10 ?a11 ?l11 ?c11 ?k11 ?a12 ?l12 ?c12 ?k12 ?a13 ?l13 ?c13 ?k13 ?a14 ?l14 ?c14 ?k14 ?a15 ?i15 ?l15 ?c15 ?k15 ?a16 ?i16 ?l16 ?c16 ?k16 ?a17 ?i17 ?l17 ?c17 ?k17 ?a18 ?i18 ?l18 ?c18 ?k18 ?a19 ?i19 ?l19 ?c19 ?k19 ?a20 ?i20 ?l20 ?c20 ?k20 ?a21 ?l21 ?c21 ?k21 ?a22 ?l22 ?c22 ?k22 ?a23 ?l23 ?c23 ?k23 ?a24 ?l24 ?c24 ?k24 ?z0 ?z1 ?z2 ?z3 ?z4 ?z5 ?z6 ?z7 ?z8 ?z9 ?z10 ?z11 ?z12 ?z13
    (case aCTies => k_is)
    (case pgTies => k_is)
    (case hdTies => k_is)
    (case poTies => k_is)
    (case saTies => k_is)
    (case mkTies => k_is)
    (case kcTies => k_is)
    (case noTiesgiven => k_is)
    (case noTiespairs => k_is)
    (case a0 => k_is)
    (case l0 => k_is)
    (case c0 => k_is)
    (case k0 => k_is)
    (case a1 => k_is)
    (case l1 => k_is)
    (case c1 => k_is)
    (case k1 => k_is)
    (case a2 => k_is)
    (case l2 => k_is)
    (case c2 => k_is)
    (case k2 => k_is)
    (case a3 => k_is)
    (case l3 => k_is)
    (case c3 => k_is)
    (case k3 => k_is)
    (case a4 => k_is)
    (case l4 => k_is)
    (case c4 => k_is)
    (case k4 => k_is)
    (case a5 => k_is)
    (case l5 => k_is)
    (case c5 => k_is)
    (case k5 => k_is)
    (case a6 => k_is)
    (case l6 => k_is)
    (case c6 => k_is)
    (case k6 => k_is)
    (case a7 => k_is)
    (case l7 => k_is)
    (case c7 => k_is)
    (case k7 => k_is)
    (case a8 => k_is)
    (case l8 => k_is)
    (case c8 => k_is)
    (case k8 => k_is)
    (case a9 => k_is)
    (case l9 => k_is)
    (case c9 => k_is)
    (case k9 => k_is)
    (case a10 => k_is)
    (case l10 => k_is)
    (case c10 => k_is)
    (case k10 => k_is)
    (case a11 => k_is)
    (case l11 => k_is)
    (case c11 => k_is)
    (case k11 => k_is)
    (case a12 => k_is)
    (case l12 => k_is)
    (case c12 => k_is)
    (case k12 => k_is)
    (case a13 => k_is)
    (case l13 => k_is)
    (case c13 => k_is)
    (case k13 => k_is)
    (case a14 => k_is)
    (case l14 => k_is)
    (case c14 => k_is)
    (case k14 => k_is)
    (case a15 => k_is)
    (case i15 => k_is)
    (case l15 => k_is)
    (case c15 => k_is)
    (case k15 => k_is)
    (case a16 => k_is)
    (case i16 => k_is)
    (case l16 => k_is)
    (case c16 => k_is)
    (case k16 => k_is)
    (case a17 => k_is)
    (case i17 => k_is)
    (case l17 => k_is)
    (case c17 => k_is)
    (case k17 => k_is)
    (case a18 => k_is)
    (case i18 => k_is)
    (case l18 => k_is)
    (case c18 => k_is)
    (case k18 => k_is)
    (case a19 => k_is)
    (case i19 => k_is)
    (case l19 => k_is)
    (case c19 => k_is)
    (case k19 => k_is)
    (case a20 => k_is)
    (case i20 => k_is)
    (case l20 => k_is)
    (case c20 => k_is)
    (case k20 => k_is)
    (case a21 => k_is)
    (case l21 => k_is)
    (case c21 => k_is)
    (case k21 => k_is)
    (case a22 => k_is)
    (case l22 => k_is)
    (case c22 => k_is)
    (case k22 => k_is)
    (case a23 => k_is)
    (case l23 => k_is)
    (case c23 => k_is)
    (case k23 => k_is)
    (case a24 => k_is)
    (case l24 => k_is)
    (case c24 => k_is)
    (case k24 => k_is)
    (case z0 => k_is)
    (case z1 => k_is)
    (case z2 => k_is)
    (case z3 => k_is)
    (case z4 => k_is)
    (case z5 => k_is)
    (case z6 => k_is)
    (case z7 => k_is)
    (case z8 => k_is)
    (case z9 => k_is)
    (case z10 => k_is)
    (case z11 => k_is)
    (case z12 => k_is)
    (case z13 => k_is)
