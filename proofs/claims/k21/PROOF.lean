import PyProof.Rows.All
import Wide.All
import OpenK.AllK
import Wide.FinOn
import Lean
import PyProof.EqAt
import PyProof.EqKinds
import PyProof.TupleCall
import PySem.Challenge.RW_inkroot_k21_moved_items
set_option Elab.async false
set_option linter.all false
set_option maxRecDepth 100000
/-! THE HAND LAYER, for ints, bools, texts, own classes, LISTS and tuples (index, slices, in, append, pop ..), calls, loops. Paste it whole ahead of your own text; what your proof does not reach may be deleted. -/
namespace L2
open PySem PySem.Spec PyProof.Rows

/-- a key: an int or a str -/
abbrev Key := Sum Int Str
def keyIs : Key → Value → Bool
  | .inl k, v => Value.isInt k v
  | .inr x, v => Value.isStrOf x v
def keyH (w : World) : Key → Int
  | .inl k => hashInt k
  | .inr x => hashStr w x
theorem keyIs_shape : ∀ {k : Key} {v : Value}, keyIs k v = true → (∃ i t, k = Sum.inl i ∧ v = Value.int i t) ∨ (∃ x t, k = Sum.inr x ∧ v = Value.str x t)
  | .inl i, v, h => by
    obtain ⟨t, e⟩ := Value.isInt_shape (k := i) (v := v) h
    exact .inl ⟨i, t, rfl, e⟩
  | .inr x, v, h => by
    obtain ⟨t, e⟩ := Value.isStrOf_shape (x := x) (v := v) h
    exact .inr ⟨x, t, rfl, e⟩
theorem keyIs_int (i : Int) (t : Tok) : keyIs (.inl i) (.int i t) = true := by simp [keyIs, Value.isInt]
theorem keyIs_str (x : Str) (t : Tok) : keyIs (.inr x) (.str x t) = true := by simp [keyIs, Value.isStrOf]
theorem key_ll (a b : Int) : decide ((Sum.inl a : Key) = Sum.inl b) = (a == b) := by
  by_cases e : a = b
  · subst e; simp
  · have h : ¬ (Sum.inl a : Key) = Sum.inl b := fun q => e (Sum.inl.inj q)
    rw [decide_eq_false h]
    exact (beq_eq_false_iff_ne.mpr e).symm
theorem key_rr (a b : Str) : decide ((Sum.inr a : Key) = Sum.inr b) = decide (a = b) := by
  by_cases e : a = b
  · subst e; simp
  · have h : ¬ (Sum.inr a : Key) = Sum.inr b := fun q => e (Sum.inr.inj q)
    rw [decide_eq_false h, decide_eq_false e]
theorem key_lr (a : Int) (b : Str) : decide ((Sum.inl a : Key) = Sum.inr b) = false := decide_eq_false (fun q => nomatch q)
theorem key_rl (a : Str) (b : Int) : decide ((Sum.inr a : Key) = Sum.inl b) = false := decide_eq_false (fun q => nomatch q)

def mixKind (prog : Program) (w : World) : PySem.KeyKind prog w Key where
  is := keyIs
  hash := keyH w
  inj := fun v a b ha hb => by
    rcases keyIs_shape ha with ⟨i, t, rfl, rfl⟩ | ⟨x, t, rfl, rfl⟩
    · rcases keyIs_shape hb with ⟨j, u, rfl, e⟩ | ⟨y, u, rfl, e⟩
      · injection e with e1 _; rw [e1]
      · exact nomatch e
    · rcases keyIs_shape hb with ⟨j, u, rfl, e⟩ | ⟨y, u, rfl, e⟩
      · exact nomatch e
      · injection e with e1 _; rw [e1]
  byValue := fun k v h => by
    rcases keyIs_shape h with ⟨i, t, rfl, rfl⟩ | ⟨x, t, rfl, rfl⟩ <;> rfl
  pyHash := fun hv h => by
    rcases keyIs_shape hv with ⟨i, t, rfl, rfl⟩ | ⟨x, t, rfl, rfl⟩
    · exact wpAny_pyHash_int h
    · exact wpAny_pyHash_str h
  eqBool := fun hu hv h => by
    rcases keyIs_shape hu with ⟨i, t, rfl, rfl⟩ | ⟨x, t, rfl, rfl⟩
    · rcases keyIs_shape hv with ⟨j, u, rfl, rfl⟩ | ⟨y, u, rfl, rfl⟩
      · rw [key_ll] at h; exact wpAny_eqBool_int h
      · rw [key_lr] at h; exact SeqAt.EqAt.int_str i t y u _ _ _ _ h
    · rcases keyIs_shape hv with ⟨j, u, rfl, rfl⟩ | ⟨y, u, rfl, rfl⟩
      · rw [key_rl] at h; exact SeqAt.EqAt.str_int x t j u _ _ _ _ h
      · rw [key_rr] at h; exact wpAny_eqBool_str h
  «strs» := fun k x t v h => by
    rcases keyIs_shape h with ⟨i, u, rfl, e⟩ | ⟨y, u, rfl, e⟩
    · exact nomatch e
    · injection e with e1 _
      subst e1
      cases v <;> rfl

theorem mixKind_int (prog : Program) (w : World) (i : Int) (t : Tok) : (mixKind prog w).is (.inl i) (.int i t) = true := keyIs_int i t
theorem mixKind_str (prog : Program) (w : World) (x : Str) (t : Tok) : (mixKind prog w).is (.inr x) (.str x t) = true := keyIs_str x t
end L2

namespace L2
open PySem PySem.Spec PyProof.Rows

/-- a value, without the heap -/
inductive V where
  | non | bl (b : Bool) | int (i : Int) | str (x : Str) | byt (b : Array UInt8) | flt (b : UInt64) | ref (a : Addr) | ty (n : String)
  deriving DecidableEq

def RelV : V → Value → Prop
  | .non, u => u = Value.none
  | .bl b, u => u = Value.bool b
  | .int i, u => ∃ t, u = Value.int i t
  | .str x, u => ∃ t, u = Value.str x t
  | .byt b, u => ∃ t, u = Value.bytes b t
  | .flt b, u => ∃ t, u = Value.float b t
  | .ref a, u => u = Value.ref a
  | .ty n, u => u = Value.type n

abbrev Vals : List V → List Value → Prop := Paired RelV
theorem Vals.length {xs : List V} {us : List Value} (r : Vals xs us) : xs.length = us.length := Paired.length r
theorem Vals.get : ∀ {xs : List V} {us : List Value} {i : Nat} {x : V}, Vals xs us → xs[i]? = some x → ∃ u, us[i]? = some u ∧ RelV x u
  | _, _, _, _, .nil, e => by simp at e
  | _, _, 0, _, .cons r _, e => by simp at e; subst e; exact ⟨_, rfl, r⟩
  | _, _, i + 1, x, .cons _ t, e => by
    obtain ⟨u, h1, h2⟩ := Vals.get (i := i) (x := x) t (by simpa using e)
    exact ⟨u, by simpa using h1, h2⟩
theorem Vals.set {x : V} {u : Value} (r : RelV x u) : ∀ {xs : List V} {us : List Value} (i : Nat), Vals xs us → Vals (xs.set i x) (us.set i u)
  | _, _, _, .nil => .nil
  | _, _, 0, .cons _ t => .cons r t
  | _, _, i + 1, .cons q t => .cons q (Vals.set r i t)
theorem Vals.append : ∀ {xs ys : List V} {us ws : List Value}, Vals xs us → Vals ys ws → Vals (xs ++ ys) (us ++ ws)
  | _, _, _, _, .nil, s => s
  | _, _, _, _, .cons r t, s => .cons r (Vals.append t s)
theorem Vals.take : ∀ {xs : List V} {us : List Value} (n : Nat), Vals xs us → Vals (xs.take n) (us.take n)
  | _, _, 0, _ => .nil
  | _, _, _ + 1, .nil => .nil
  | _, _, n + 1, .cons r t => .cons r (Vals.take n t)
theorem Vals.drop : ∀ {xs : List V} {us : List Value} (n : Nat), Vals xs us → Vals (xs.drop n) (us.drop n)
  | _, _, 0, r => r
  | _, _, _ + 1, .nil => .nil
  | _, _, n + 1, .cons _ t => Vals.drop n t
def RelO : Option V → Option Value → Prop
  | some v, some u => RelV v u
  | none, none => True
  | _, _ => False
def KV {κ : Type} : List (κ × V) → List (κ × Value) → Prop := Paired fun (p : κ × V) (q : κ × Value) => p.1 = q.1 ∧ RelV p.2 q.2

/-- a key of a dict (00_mix): an int or a text -/
def kV : Key → V
  | .inl i => .int i
  | .inr x => .str x

/-- what stands at a tracked address -/
inductive HO where
  /-- a list -/
  | lst (xs : List V)
  /-- a tuple (never changes) -/
  | tup (xs : List V)
  /-- a dict whose keys are ints and texts; one whose keys are tuples of ints and texts (the empty one is both) -/
  | dK (kvs : List (Key × V)) | dT (kvs : List (List Key × V))
  /-- a set of ints: its members, its size -/
  | set (S : Int → Bool) (n : Nat)
  /-- an instance of the class at C, its dict at dx, its attributes -/
  | ins (C dx : Addr) (fs : List (Str × V))
  /-- the dict of the instance at x -/
  | own (x : Addr)
  /-- the dict of an exception -/
  | xd (fs : List (Str × V))
  /-- a bound method, f of x -/
  | met (f x : Addr)
  /-- a range object lo, lo + 1, .. below hi -/
  | rng (lo hi : Int)
  /-- a thing that is known to the object (the script; a dict while a loop walks it): read, never written while it is so -/
  | frz (o : Obj) (u : HO)
  /-- a code object's table -/
  | tbl (ps : Array Value)
  /-- any other thing, by what is true of its one object (a def of one's own: SetO a S n := HO.ext fun h => ..) -/
  | ext (φ : Heap → Prop)

abbrev Hp := Addr → Option HO
def upd (H : Hp) (a : Addr) (o : HO) : Hp := fun b => if b = a then some o else H b
theorem upd_same {H : Hp} {a : Addr} {o : HO} : upd H a o a = some o := by unfold upd; rw [if_pos rfl]
theorem upd_ne {H : Hp} {a b : Addr} {o : HO} (h : b ≠ a) : upd H a o b = H b := by unfold upd; rw [if_neg h]
/-- two objects of different content stand apart -/
theorem ne_of {H : Hp} {a b : Addr} {o u : HO} (h : H a = some o) (h' : H b = some u) (d : o ≠ u) : a ≠ b := by
  intro e; subst e; rw [h] at h'; exact d (Option.some.inj h')
theorem ne_of_none {H : Hp} {a b : Addr} {o : HO} (h : H a = some o) (h' : H b = none) : a ≠ b := by
  intro e; subst e; rw [h] at h'; cases h'

section
variable (P : Program) (w : World)
def ObjOk (H : Hp) (h : Heap) (a : Addr) : HO → Prop
  | .lst xs => xs.length ≤ sizeLine ∧ ∃ (its : List Value) (n : Nat), Vals xs its ∧ h.get? a = some { cls := .type "list", data := .seq its.toArray n }
  | .tup xs => xs.length ≤ sizeLine ∧ ∃ its : List Value, Vals xs its ∧ IsTup h a its.toArray
  | .dK kvs => kvs.length ≤ sizeLine ∧ (a == sysModules) = false ∧ ∃ vs, KV kvs vs ∧ h.DictOf (mixKind P w) a vs
  | .dT kvs => kvs.length ≤ sizeLine ∧ (a == sysModules) = false ∧ ∃ xs : List (List Key × Addr × Value),
      Paired (fun (p : List Key × V) (q : List Key × Addr × Value) => p.1 = q.1 ∧ H q.2.1 = some (.tup (p.1.map kV)) ∧ RelV p.2 q.2.2) kvs xs ∧
      ∃ o es ep, h.get? a = some o ∧ o.ExactDict ∧ o.data = .dict es ep ∧ es.toList = xs.map (entryOfKey (tupleKind (mixKind P w))) ∧ (xs.map (·.1)).Nodup
  | .set S n => h.SetOf (intKind P w) a S n
  | .ins C dx fs => H dx = some (.own a) ∧ fs.length ≤ 1000 ∧ dx ≠ a ∧ h.get? a = some (PySem.W.instObj C dx) ∧
      ∃ mA, h.Ns1 dx mA ∧ (∀ f, RelO (fs.lookup f) (mA f)) ∧ PySem.Within mA (fs.map (·.1))
  | .own _ => ∃ o, h.get? a = some o
  | .xd fs => ∃ mA, h.Ns1 a mA ∧ ∀ f, RelO (fs.lookup f) (mA f)
  | .rng lo hi => ∃ t u v, h.get? a = some { cls := .type "range", data := .fields #[.int lo t, .int hi u, .int 1 v] }
  | .frz o u => h.get? a = some o ∧ ObjOk H h a u
  | .tbl ps => h.get? a = some { cls := .none, data := .fields ps }
  | .met f x => h.get? a = some (PySem.W.methodObj (.ref f) (.ref x))
  | .ext φ => φ h ∧ (∃ o, h.get? a = some o) ∧ ∀ h1 h2 : Heap, φ h1 → (∀ o, h1.get? a = some o → h2.get? a = some o) → φ h2
/-- the abstract heap is held -/
def HOk (H : Hp) (h : Heap) : Prop := ∀ a o, H a = some o → ObjOk P w H h a o
end

section
variable {P : Program} {w : World} {H H' : Hp} {h h' : Heap} {a : Addr} {o : HO}
theorem ObjOk.lt (x : ObjOk P w H h a o) : a < h.objs.size := by
  cases o with
  | lst xs => obtain ⟨_, _, _, _, e⟩ := x; exact Heap.lt_size e
  | tup xs => obtain ⟨_, _, _, p⟩ := x; exact p.lt
  | dK kvs => obtain ⟨_, _, _, _, o, _, _, e, _⟩ := x; exact Heap.lt_size e
  | dT kvs => obtain ⟨_, _, _, _, o, _, _, e, _⟩ := x; exact Heap.lt_size e
  | set S n => obtain ⟨o, _, _, _, e, _⟩ := x; exact Heap.lt_size e
  | ins C dx fs => obtain ⟨_, _, _, e, _⟩ := x; exact Heap.lt_size e
  | own y => obtain ⟨_, e⟩ := x; exact Heap.lt_size e
  | xd fs => obtain ⟨_, ⟨_, _, _, e, _⟩, _⟩ := x; exact Heap.lt_size e
  | rng lo hi => obtain ⟨_, _, _, e⟩ := x; exact Heap.lt_size e
  | frz ob u => obtain ⟨e, _⟩ := x; exact Heap.lt_size e
  | tbl ps => exact Heap.lt_size (show h.get? a = some _ from x)
  | met f y => exact Heap.lt_size (show h.get? a = some _ from x)
  | ext φ => obtain ⟨_, ⟨_, e⟩, _⟩ := x; exact Heap.lt_size e
theorem Paired.mapP {α β : Type} {F G : α → β → Prop} : ∀ {l₁ : List α} {l₂ : List β}, Paired F l₁ l₂ → (∀ a b, F a b → G a b) → Paired G l₁ l₂
  | _, _, .nil, _ => .nil
  | _, _, .cons r t, f => .cons (f _ _ r) (Paired.mapP t f)
/-- what an object's description leans on: its own object, its own dict, the tuples -/
theorem ObjOk.stay (x : ObjOk P w H h a o) (k : ∀ b u, (b = a ∨ H b = some (.own a)) → h.get? b = some u → h'.get? b = some u)
    (ho : ∀ b, H b = some (.own a) → H' b = some (.own a)) (ht : ∀ b xs, H b = some (.tup xs) → H' b = some (.tup xs)) : ObjOk P w H' h' a o := by
  induction o with
  | lst xs => obtain ⟨z, its, n, r, e⟩ := x; exact ⟨z, its, n, r, k _ _ (.inl rfl) e⟩
  | tup xs => obtain ⟨z, its, r, ob, e, c⟩ := x; exact ⟨z, its, r, ob, k _ _ (.inl rfl) e, c⟩
  | dK kvs => obtain ⟨z, y, vs, r, ob, es, ep, e, c⟩ := x; exact ⟨z, y, vs, r, ob, es, ep, k _ _ (.inl rfl) e, c⟩
  | dT kvs =>
    obtain ⟨z, y, xs, r, ob, es, ep, e, c⟩ := x
    exact ⟨z, y, xs, Paired.mapP r fun p q z => ⟨z.1, ht _ _ z.2.1, z.2.2⟩, ob, es, ep, k _ _ (.inl rfl) e, c⟩
  | set S n => obtain ⟨ob, es, ep, t, e, c⟩ := x; exact ⟨ob, es, ep, t, k _ _ (.inl rfl) e, c⟩
  | ins C dx fs =>
    obtain ⟨d, z, ne, e, mA, ⟨od, es, ep, e2, c⟩, r⟩ := x
    exact ⟨ho _ d, z, ne, k _ _ (.inl rfl) e, mA, ⟨od, es, ep, k _ _ (.inr d) e2, c⟩, r⟩
  | own y => obtain ⟨ob, e⟩ := x; exact ⟨ob, k _ _ (.inl rfl) e⟩
  | xd fs => obtain ⟨mA, ⟨od, es, ep, e, c⟩, r⟩ := x; exact ⟨mA, ⟨od, es, ep, k _ _ (.inl rfl) e, c⟩, r⟩
  | rng lo hi => obtain ⟨t, u, v, e⟩ := x; exact ⟨t, u, v, k _ _ (.inl rfl) e⟩
  | frz ob u ih => obtain ⟨e, q⟩ := x; exact ⟨k _ _ (.inl rfl) e, ih q⟩
  | tbl ps =>
    have e : h.get? a = some { cls := .none, data := .fields ps } := x
    show h'.get? a = some { cls := .none, data := .fields ps }
    exact k a _ (.inl rfl) e
  | met f y =>
    have e : h.get? a = some (PySem.W.methodObj (.ref f) (.ref y)) := x
    show h'.get? a = some (PySem.W.methodObj (.ref f) (.ref y))
    exact k a _ (.inl rfl) e
  | ext φ => obtain ⟨p, ⟨o, e⟩, st⟩ := x; exact ⟨st _ _ p fun o q => k _ _ (.inl rfl) q, ⟨o, k _ _ (.inl rfl) e⟩, st⟩
theorem HOk.lt (x : HOk P w H h) (e : H a = some o) : a < h.objs.size := (x a o e).lt
theorem HOk.fresh (x : HOk P w H h) (e : h.objs.size ≤ a) : H a = none := by
  cases q : H a with
  | none => rfl
  | some u => exact absurd (Nat.lt_of_lt_of_le (x.lt q) e) (Nat.lt_irrefl _)
/-- every object of the heap is kept -/
theorem HOk.kept (x : HOk P w H h) (k : ∀ b u, h.get? b = some u → h'.get? b = some u) : HOk P w H h' := fun a o e =>
  (x a o e).stay (fun b u _ q => k b u q) (fun _ q => q) fun _ _ q => q
/-- a new object is laid and tracked -/
theorem HOk.laid (x : HOk P w H h) (k : ∀ b u, h.get? b = some u → h'.get? b = some u) (hp : h.objs.size ≤ a) (new : ObjOk P w (upd H a o) h' a o) : HOk P w (upd H a o) h' := fun b u e => by
  have hn := x.fresh hp
  by_cases hb : b = a
  · subst hb; rw [upd_same] at e; cases e; exact new
  · rw [upd_ne hb] at e
    exact (x b u e).stay (fun c v _ q => k c v q) (fun c q => by rw [upd_ne (ne_of_none q hn)]; exact q) fun c xs q => by rw [upd_ne (ne_of_none q hn)]; exact q
end

/-- what may be read as u: it is u, or a known u -/
def Rd (H : Hp) (a : Addr) (u : HO) : Prop := H a = some u ∨ ∃ o, H a = some (.frz o u)
theorem Rd.ok {P : Program} {w : World} {H : Hp} {h : Heap} {a : Addr} {u : HO} (r : Rd H a u) (x : HOk P w H h) : ObjOk P w H h a u := by
  rcases r with r | ⟨o, r⟩
  · exact x a u r
  · obtain ⟨_, q⟩ := x a _ r
    exact q
/-- what may be written -/
def Mut : Option HO → Prop
  | some (.lst _) => True
  | some (.dK _) => True
  | some (.dT _) => True
  | some (.set _ _) => True
  | some (.ins _ _ _) => True
  | some (.ext _) => True
  | _ => False
section
variable {P : Program} {w : World} {H : Hp} {h h' : Heap} {x e : Addr} {o' : HO}
/-- the object at e is changed: x itself, or the dict of the instance x -/
theorem HOk.write (ok : HOk P w H h) (mu : Mut (H x)) (he : e = x ∨ H e = some (.own x)) (k : ∀ b u, b ≠ e → h.get? b = some u → h'.get? b = some u) (heo : ∃ u, h'.get? e = some u)
    (new : ObjOk P w (upd H x o') h' x o') : HOk P w (upd H x o') h' := fun b u q => by
  have nown : ∀ c y, H c = some (.own y) → c ≠ x := fun c y r z => by subst z; rw [r] at mu; exact mu
  have ntup : ∀ c xs, H c = some (.tup xs) → c ≠ x := fun c xs r z => by subst z; rw [r] at mu; exact mu
  by_cases hb : b = x
  · subst hb; rw [upd_same] at q; cases q; exact new
  · rw [upd_ne hb] at q
    by_cases hbe : b = e
    · have q' : H b = some (.own x) := by
        rcases he with z | z
        · exact absurd (hbe.trans z) hb
        · rw [hbe]; exact z
      rw [q] at q'; cases q'
      obtain ⟨v, hv⟩ := heo
      exact ⟨v, by rw [hbe]; exact hv⟩
    · refine (ok b u q).stay (fun c v hc r => k c v ?_ r) (fun c r => by rw [upd_ne (nown c b r)]; exact r) fun c xs r => by rw [upd_ne (ntup c xs r)]; exact r
      rcases hc with rfl | hc
      · exact hbe
      · rintro rfl
        rcases he with z | z
        · exact nown c b hc z
        · rw [hc] at z; cases z; exact hb rfl
end

/-! ### kept unless tracked; of the frames at fs (the callers') the slots may change (an exception that passes writes there); of the records at ex (iterators) nothing is said -/
structure Un (fs ex : List Addr) (H H' : Hp) (h h' : Heap) : Prop where
  keep : ∀ b o, h.get? b = some o → H b = none → b ∉ fs → b ∉ ex → h'.get? b = some o
  slot : ∀ b o, h.get? b = some o → H b = none → b ∈ fs → b ∉ ex → ∃ sl, h'.get? b = some { o with slots := sl }
  free : ∀ b o, h.get? b = some o → H b = none → b ∉ ex → H' b = none
  there : ∀ b o, h.get? b = some o → b ∉ ex → ∃ o', h'.get? b = some o'
  tups : ∀ b xs, H b = some (.tup xs) → H' b = some (.tup xs)
  frzs : ∀ b o u, H b = some (.frz o u) → H' b = some (.frz o u)
  tbls : ∀ b ps, H b = some (.tbl ps) → ∃ more, H' b = some (.tbl (ps ++ more))
section
variable {fs fs' ex ex' : List Addr} {H H1 H2 : Hp} {h h1 h2 h' : Heap} {a x e : Addr} {o : HO}
theorem Un.any (u : Un fs ex H H1 h h1) {b : Addr} {ob : Obj} (q : h.get? b = some ob) (n : H b = none) (hx : b ∉ ex) : ∃ sl, h1.get? b = some { ob with slots := sl } := by
  by_cases hb : b ∈ fs
  · exact u.slot b ob q n hb hx
  · exact ⟨ob.slots, u.keep b ob q n hb hx⟩
theorem Un.kept (k : ∀ b u, h.get? b = some u → h'.get? b = some u) : Un fs ex H H h h' :=
  ⟨fun b ob q _ _ _ => k b ob q, fun b ob q _ _ _ => ⟨ob.slots, k b ob q⟩, fun _ _ _ n _ => n, fun b ob q _ => ⟨ob, k b ob q⟩, fun _ _ q => q, fun _ _ _ q => q, fun _ ps q => ⟨#[], by rw [q]; simp⟩⟩
theorem Un.refl : Un fs ex H H h h := Un.kept fun _ _ q => q
theorem Un.laid (k : ∀ b u, h.get? b = some u → h'.get? b = some u) (hp : h.objs.size ≤ a) (hn : H a = none) : Un fs ex H (upd H a o) h h' where
  keep := fun b u q _ _ _ => k b u q
  slot := fun b u q _ _ _ => ⟨u.slots, k b u q⟩
  free := fun b u q n _ => by rw [upd_ne (Nat.ne_of_lt (Nat.lt_of_lt_of_le (Heap.lt_size q) hp))]; exact n
  there := fun b u q _ => ⟨u, k b u q⟩
  tups := fun b xs q => by rw [upd_ne (ne_of_none q hn)]; exact q
  frzs := fun b u xs q => by rw [upd_ne (ne_of_none q hn)]; exact q
  tbls := fun b ps q => ⟨#[], by rw [upd_ne (ne_of_none q hn), q]; simp⟩
theorem Un.write (mu : Mut (H x)) (he : e = x ∨ H e = some (.own x)) (k : ∀ b u, b ≠ e → h.get? b = some u → h'.get? b = some u) (heo : ∃ u, h'.get? e = some u) : Un fs ex H (upd H x o) h h' := by
  have hx : ∀ b, H b = none → b ≠ x := fun b n z => by subst z; rw [n] at mu; exact mu
  have hb : ∀ b, H b = none → b ≠ e := fun b n z => by
    subst z
    rcases he with r | r
    · exact hx b n r
    · rw [n] at r; cases r
  have hm : ∀ b u, H b = some u → ¬ Mut (some u) → b ≠ x := fun b u q nm z => by subst z; rw [q] at mu; exact nm mu
  refine ⟨fun b u q n _ _ => k b u (hb b n) q, fun b u q n _ _ => ⟨u.slots, k b u (hb b n) q⟩, fun b u q n _ => by rw [upd_ne (hx b n)]; exact n, fun b u q _ => ?_,
    fun b xs q => by rw [upd_ne (hm b _ q fun z => z)]; exact q, fun b u xs q => by rw [upd_ne (hm b _ q fun z => z)]; exact q, fun b ps q => ⟨#[], by rw [upd_ne (hm b _ q fun z => z), q]; simp⟩⟩
  by_cases hbe : b = e
  · subst hbe; exact heo
  · exact ⟨u, k b u hbe q⟩
end

/-! ### the heap without what is tracked -/
def trk (h : Heap) (H : Hp) : List Addr := (List.range h.objs.size).filter fun a => (H a).isSome
def hidT (h : Heap) (H : Hp) : Heap := PySem.W.hideAll h (trk h H)
theorem hidT_size (h : Heap) (H : Hp) : (hidT h H).objs.size = h.objs.size := PySem.W.hideAll_size _ _
theorem hidT_get {h : Heap} {H : Hp} {b : Addr} {o : Obj} (e : h.get? b = some o) (n : H b = none) : (hidT h H).get? b = some o :=
  PySem.W.hideAll_get _ e fun hm => by
    have q : (H b).isSome = true := (List.mem_filter.mp hm).2
    rw [n] at q; simp at q
theorem of_hidT {h : Heap} {H : Hp} {b : Addr} {o : Obj} (e : (hidT h H).get? b = some o) : h.get? b = some o ∧ H b = none := by
  have e' : h.get? b = some o := PySem.W.of_hideAll (trk h H) e
  refine ⟨e', ?_⟩
  cases q : H b with
  | none => rfl
  | some x =>
    have hm : b ∈ trk h H := List.mem_filter.mpr ⟨List.mem_range.mpr (Heap.lt_size e'), by simp [q]⟩
    have z : (hidT h H).get? b = none := PySem.W.hideAll_none (trk h H) hm
    rw [z] at e; cases e

/-! ### OpenK's ledger, filled with every new object but one -/
end L2

namespace L2
open PySem PySem.Spec PyProof.Rows

/-- the module's facts, over the base: the heap at the law's entry without what is tracked there -/
structure Mod (K : PySem.W.Frag) (mg : Str → Option Value) (base : Heap) : Prop where
  kin : K.In base
  glob : base.Ns mainGlobals mg
  blt : ∃ mb, base.Ns builtinsNs mb ∧ ∀ x : Str, x ≠ "__name__" → mb x = bootBuiltins x
  nolimit : base.NoLimit

/-- the context: a def's body (or a comprehension's block) running. base: fixed through the whole law; s₀, H₀: the entry; outer: the frames whose slots others may change (a def's callers); stack: all frames that run;
   ex: iterators that were made ahead of the entry and are walked here (a comprehension's); fn: the names whose cells were made at the entry (a def: all; a comprehension's block: its own); calm: not within an except suite; pn: pins that every state bears; xe: what is wanted of an exception that leaves the code -/
structure Cx where
  prog : Program
  w : World
  K : PySem.W.Frag
  mg : Str → Option Value
  base : Heap
  A : Around
  N : List Str
  s₀ : Shared
  H₀ : Hp
  env : Env
  outer : List Env
  stack : List Env
  ex : List Addr
  fn : Str → Bool
  calm : Bool
  pn : List (Addr × Obj)
  xe : Value → Shared → Prop
/-- the callers' frames -/
def frs (l : List Env) : List Addr := l.filterMap (·.frame)
abbrev Cx.fs (X : Cx) : List Addr := frs X.outer

def Vis (sc : Scope) (x : Str) : Prop := sc.names.lookup x = some .local ∨ sc.names.lookup x = some .cell ∨ sc.names.lookup x = some .free
def Loc (sc : Scope) (x : Str) : Prop := sc.names.lookup x = some .local ∨ sc.names.lookup x = some .cell
def Look (env : Env) (h : Heap) (m : Str → Option Value) (x : Str) (u : Value) : Prop :=
  (env.kindOf x = some .local ∧ m x = some u) ∨ ((env.kindOf x = some .cell ∨ env.kindOf x = some .free) ∧ ∃ c, env.cells.lookup x = some c ∧ h.IsCell c (some u))

structure Cx.Ok (X : Cx) : Prop where
  mod : Mod X.K X.mg X.base
  kind : X.env.scope.kind = .function
  glob : X.env.globals = mainGlobals
  blt : X.env.builtins = builtinsNs
  above : X.s₀.heap.objs.size ≤ X.env.locals
  inj : ∀ x y c, X.env.cells.lookup x = some c → X.env.cells.lookup y = some c → x = y
  has : ∀ x, (X.env.kindOf x = some .cell ∨ X.env.kindOf x = some .free) → ∃ c, X.env.cells.lookup x = some c
  cab : ∀ x c, X.fn x = true → X.env.cells.lookup x = some c → X.s₀.heap.objs.size ≤ c
  hd : X.calm = true → X.A.handled = none
  frames : X.A.frames = some X.stack
  stk : X.stack = X.outer ∨ (X.stack = X.env :: X.outer ∧ X.env.frame = some X.env.locals)
  exf : ∀ b ∈ X.ex, b ≠ X.env.locals ∧ ∀ x c, X.env.cells.lookup x = some c → c ≠ b
  bs : ∀ b o, X.base.get? b = some o → X.s₀.heap.get? b = some o ∧ X.H₀ b = none
  bsz : X.base.objs.size ≤ X.s₀.heap.objs.size
  noex : ∀ b o, X.base.get? b = some o → b ∉ X.ex
  exfs : ∀ b ∈ X.ex, b ∉ X.fs
  funs : X.s₀.heap.FunFrames X.base X.outer
  frf : ∀ b ∈ X.fs, X.H₀ b = none

structure Inv (X : Cx) (pins : List (Addr × Obj)) (σ : List (Option V)) (H : Hp) (s : Shared) : Prop where
  ok : X.Ok
  os : s.os = X.s₀.os
  bare : AllBare s.gens
  base : Un X.fs X.ex X.H₀ H X.s₀.heap s.heap
  loc : ∃ m, s.heap.Ns X.env.locals m ∧ ∀ (i : Nat) (x : Str) (v : V), X.N[i]? = some x → σ[i]? = some (some v) → Vis X.env.scope x → ∃ u, RelV v u ∧ Look X.env s.heap m x u
  cell : ∀ x c, X.env.cells.lookup x = some c → ∃ v, s.heap.IsCell c v
  free : H X.env.locals = none
  freeC : ∀ x c, X.env.cells.lookup x = some c → H c = none
  pin : ∀ p ∈ X.pn ++ pins, s.heap.get? p.1 = some p.2 ∧ H p.1 = none ∧ p.1 ≠ X.env.locals ∧ p.1 ∉ X.fs ∧ ∀ v, p.2.data ≠ .cell v
  hok : HOk X.prog X.w H s.heap
  len : σ.length = X.N.length

section
variable {X : Cx} {pins : List (Addr × Obj)} {σ : List (Option V)} {H H' : Hp} {s : Shared} {h' : Heap}

theorem Cx.Ok.nofr (ok : X.Ok) {b : Addr} {o : Obj} (e : X.base.get? b = some o) : b ∉ X.fs := fun hb => by
  have := (ok.funs.mem hb).1
  rw [e] at this; cases this
theorem Inv.bs (I : Inv X pins σ H s) : ∀ b o, X.base.get? b = some o → s.heap.get? b = some o ∧ H b = none := fun b o e =>
  ⟨I.base.keep b o (I.ok.bs b o e).1 (I.ok.bs b o e).2 (I.ok.nofr e) (I.ok.noex b o e), I.base.free b o (I.ok.bs b o e).1 (I.ok.bs b o e).2 (I.ok.noex b o e)⟩
theorem Inv.bk (I : Inv X pins σ H s) : ∀ b o, X.base.get? b = some o → s.heap.get? b = some o := fun b o e => (I.bs b o e).1
theorem Inv.mod (I : Inv X pins σ H s) : Mod X.K X.mg X.base := I.ok.mod
theorem Inv.kIn (I : Inv X pins σ H s) : X.K.In s.heap := I.ok.mod.kin.keeps I.bk
theorem Inv.lt (I : Inv X pins σ H s) : X.env.locals < s.heap.objs.size := let ⟨_, hn, _⟩ := I.loc; hn.lt
theorem Inv.sz (I : Inv X pins σ H s) : X.s₀.heap.objs.size ≤ s.heap.objs.size := Nat.le_trans I.ok.above (Nat.le_of_lt I.lt)
theorem Inv.nofs (I : Inv X pins σ H s) {a : Addr} (h : s.heap.objs.size ≤ a) : a ∉ X.fs := fun hb => by
  obtain ⟨_, o, ho, _⟩ := I.ok.funs.mem hb
  exact absurd (Nat.lt_of_lt_of_le (Heap.lt_size ho) (Nat.le_trans I.sz h)) (Nat.lt_irrefl _)
theorem Inv.cne (I : Inv X pins σ H s) : ∀ x c, X.env.cells.lookup x = some c → c ≠ X.env.locals := fun x c e z => by
  obtain ⟨v, o, ho, hd⟩ := I.cell x c e
  obtain ⟨m, ⟨o', es, ep, ho', hd', _⟩, _⟩ := I.loc
  rw [z, ho'] at ho; cases ho; rw [hd'] at hd; cases hd
theorem Inv.funs (I : Inv X pins σ H s) : s.heap.FunFrames X.base X.outer := by
  have all : ∀ (l : List Env), (∀ b ∈ frs l, b ∈ X.fs) → X.s₀.heap.FunFrames X.base l → s.heap.FunFrames X.base l := by
    intro l
    induction l with
    | nil => intro _ _; trivial
    | cons env r ih =>
      intro hs hl
      obtain ⟨hk, ⟨L, o, hf, hn, ho, hd⟩, hr⟩ := hl
      have hL : L ∈ X.fs := hs L (by unfold frs; rw [List.filterMap_cons, hf]; exact List.mem_cons_self)
      obtain ⟨sl, e⟩ := I.base.slot L o ho (I.ok.frf L hL) hL fun z => I.ok.exfs L z hL
      exact ⟨hk, ⟨L, _, hf, hn, e, hd⟩, ih (fun b hb => hs b (by unfold frs; rw [List.filterMap_cons, hf]; exact List.mem_cons_of_mem _ hb)) hr⟩
  exact all X.outer (fun _ hb => hb) I.ok.funs

/-- the frames that run, for a call -/
theorem Inv.stack (I : Inv X pins σ H s) : s.heap.FunFrames X.base X.stack := by
  rcases I.ok.stk with e | ⟨e, hf⟩
  · rw [e]; exact I.funs
  · rw [e]
    obtain ⟨m, hn, _⟩ := I.loc
    refine .cons (by rw [I.ok.kind]; decide) hf hn ?_ I.funs
    exact Heap.get?_none_of_le (Nat.le_trans I.ok.bsz I.ok.above)
theorem Inv.stkSub (I : Inv X pins σ H s) : ∀ b ∈ frs X.stack, b ∈ X.env.locals :: X.fs := fun b hb => by
  rcases I.ok.stk with e | ⟨e, hf⟩
  · rw [e] at hb; exact List.mem_cons_of_mem _ hb
  · rw [e] at hb
    unfold frs at hb
    rw [List.filterMap_cons, hf] at hb
    exact hb
theorem Inv.stkFree (I : Inv X pins σ H s) : ∀ b ∈ frs X.stack, H b = none := fun b hb => by
  rcases List.mem_cons.mp (I.stkSub b hb) with e | hb
  · rw [e]; exact I.free
  · obtain ⟨_, o, ho, _⟩ := I.ok.funs.mem hb
    exact I.base.free b o ho (I.ok.frf b hb) fun z => I.ok.exfs b z hb

/-- THE STEP: the untracked objects but the frame and the records at ch are kept (the callers' frames up to slots), the frame's map is kept, the new abstract heap is held -/
theorem Inv.step {g' : Array GenState} {t' : Nat} {d' : Drawn} {ch : List Addr} (I : Inv X pins σ H s)
    (hch : ∀ b ∈ ch, (b ∈ X.ex ∨ X.s₀.heap.objs.size ≤ b) ∧ b ≠ X.env.locals ∧ (∀ x c, X.env.cells.lookup x = some c → c ≠ b) ∧ ∀ p ∈ X.pn ++ pins, p.1 ≠ b)
    (keep : ∀ b o, b ≠ X.env.locals → b ∉ X.fs → b ∉ ch → s.heap.get? b = some o → H b = none → h'.get? b = some o)
    (slot : ∀ b o, b ≠ X.env.locals → b ∈ X.fs → b ∉ ch → s.heap.get? b = some o → H b = none → ∃ sl, h'.get? b = some { o with slots := sl }) (free : ∀ b o, b ∉ ch → s.heap.get? b = some o → H b = none → H' b = none)
    (there : ∀ b o, b ∉ ch → s.heap.get? b = some o → ∃ o', h'.get? b = some o')
    (tups : ∀ b xs, H b = some (.tup xs) → H' b = some (.tup xs)) (frzs : ∀ b o u, H b = some (.frz o u) → H' b = some (.frz o u)) (tbls : ∀ b ps, H b = some (.tbl ps) → ∃ more, H' b = some (.tbl (ps ++ more)))
    (ns : ∀ m, s.heap.Ns X.env.locals m → h'.Ns X.env.locals m) (hok : HOk X.prog X.w H' h') (hg : AllBare g') :
    Inv X pins σ H' { s with heap := h', gens := g', drawn := d', toks := t' } := by
  have neL : ∀ b o, X.s₀.heap.get? b = some o → b ≠ X.env.locals := fun b o e => Nat.ne_of_lt (Nat.lt_of_lt_of_le (Heap.lt_size e) I.ok.above)
  have neC : ∀ b o, X.s₀.heap.get? b = some o → b ∉ X.ex → b ∉ ch := fun b o e hx hb => by
    rcases (hch b hb).1 with z | z
    · exact hx z
    · exact absurd (Nat.lt_of_lt_of_le (Heap.lt_size e) z) (Nat.lt_irrefl _)
  have cellK : ∀ x c, X.env.cells.lookup x = some c → ∀ v, s.heap.IsCell c v → h'.IsCell c v := fun x c e v ⟨o, ho, hd⟩ => by
    have nch : c ∉ ch := fun z => (hch c z).2.2.1 x c e rfl
    by_cases hc : c ∈ X.fs
    · obtain ⟨sl, q⟩ := slot c o (I.cne x c e) hc nch ho (I.freeC x c e)
      exact ⟨_, q, hd⟩
    · exact ⟨o, keep c o (I.cne x c e) hc nch ho (I.freeC x c e), hd⟩
  refine ⟨I.ok, I.os, hg, ⟨fun b o e n hb hx => ?_, fun b o e n hb hx => ?_, fun b o e n hx => ?_, fun b o e hx => ?_, fun b xs e => tups b xs (I.base.tups b xs e), fun b o xs e => frzs b o xs (I.base.frzs b o xs e), fun b ps e => ?_⟩, ?_, fun x c e => ?_, ?_, fun x c e => ?_, fun p hp => ?_, hok, I.len⟩
  · exact keep b o (neL b o e) hb (neC b o e hx) (I.base.keep b o e n hb hx) (I.base.free b o e n hx)
  · obtain ⟨sl, e1⟩ := I.base.slot b o e n hb hx
    obtain ⟨sl', e2⟩ := slot b _ (neL b o e) hb (neC b o e hx) e1 (I.base.free b o e n hx)
    exact ⟨sl', e2⟩
  · obtain ⟨o', e1⟩ := I.base.there b o e hx
    exact free b o' (neC b o e hx) e1 (I.base.free b o e n hx)
  · obtain ⟨o', e1⟩ := I.base.there b o e hx
    exact there b o' (neC b o e hx) e1
  · obtain ⟨m1, e1⟩ := I.base.tbls b ps e
    obtain ⟨m2, e2⟩ := tbls b _ e1
    exact ⟨m1 ++ m2, by rw [e2, Array.append_assoc]⟩
  · obtain ⟨m, hn, hl⟩ := I.loc
    refine ⟨m, ns m hn, fun i x v e1 e2 e3 => ?_⟩
    obtain ⟨u, r, l⟩ := hl i x v e1 e2 e3
    refine ⟨u, r, ?_⟩
    rcases l with l | ⟨k, c, e, z⟩
    · exact .inl l
    · exact .inr ⟨k, c, e, cellK x c e _ z⟩
  · obtain ⟨v, z⟩ := I.cell x c e
    exact ⟨v, cellK x c e v z⟩
  · obtain ⟨m, ⟨o, _, _, ho, _⟩, _⟩ := I.loc
    exact free _ o (fun z => (hch _ z).2.1 rfl) ho I.free
  · obtain ⟨v, o, ho, hd⟩ := I.cell x c e
    exact free c o (fun z => (hch c z).2.2.1 x c e rfl) ho (I.freeC x c e)
  · obtain ⟨e, n, ne, nf, d⟩ := I.pin p hp
    have nch : p.1 ∉ ch := fun z => (hch p.1 z).2.2.2 p hp rfl
    exact ⟨keep p.1 p.2 ne nf nch e n, free p.1 p.2 nch e n, ne, nf, d⟩
/-- .. where the frame's own object is kept too -/
theorem Inv.un {t' : Nat} (I : Inv X pins σ H s) (u : Un X.fs [] H H' s.heap h') (hok : HOk X.prog X.w H' h') : Inv X pins σ H' { s with heap := h', toks := t' } := by
  obtain ⟨m, ⟨o, es, ep, ho, r⟩, _⟩ := id I.loc
  obtain ⟨sl, hL⟩ := u.any ho I.free (by simp)
  exact I.step (g' := s.gens) (d' := s.drawn) (ch := []) (fun _ z => nomatch z) (fun b o _ hb _ e n => u.keep b o e n hb (by simp)) (fun b o _ hb _ e n => u.slot b o e n hb (by simp)) (fun b o _ e n => u.free b o e n (by simp)) (fun b o _ e => u.there b o e (by simp)) u.tups u.frzs u.tbls (fun m' hm => by
    obtain ⟨o', es', ep', ho', r'⟩ := hm
    rw [ho] at ho'; cases ho'
    exact ⟨_, es', ep', hL, r'⟩) hok I.bare
/-- behind a call (or a comprehension's block): the slots of this frame may have changed too, the records at ch may have turned -/
theorem Inv.call {g' : Array GenState} {t' : Nat} {d' : Drawn} {ch : List Addr} (I : Inv X pins σ H s) (u : Un (frs X.stack) ch H H' s.heap h') (hok : HOk X.prog X.w H' h') (hg : AllBare g')
    (hch : ∀ b ∈ ch, (b ∈ X.ex ∨ X.s₀.heap.objs.size ≤ b) ∧ b ≠ X.env.locals ∧ (∀ x c, X.env.cells.lookup x = some c → c ≠ b) ∧ ∀ p ∈ X.pn ++ pins, p.1 ≠ b) :
    Inv X pins σ H' { s with heap := h', gens := g', drawn := d', toks := t' } := by
  obtain ⟨m, ⟨o, es, ep, ho, r⟩, _⟩ := id I.loc
  obtain ⟨sl, hL⟩ := u.any ho I.free fun z => (hch _ z).2.1 rfl
  exact I.step (ch := ch) hch (fun b o hL hb hc e n => u.keep b o e n (fun z => (List.mem_cons.mp (I.stkSub b z)).elim hL hb) hc) (fun b o _ _ hc e n => u.any e n hc) (fun b o hc e n => u.free b o e n hc) (fun b o hc e => u.there b o e hc) u.tups u.frzs u.tbls (fun m' hm => by
    obtain ⟨o', es', ep', ho', r'⟩ := hm
    rw [ho] at ho'; cases ho'
    exact ⟨_, es', ep', hL, r'⟩) hok hg
/-- an untracked record of ours (an iterator) has turned -/
theorem Inv.turned {t' : Nat} {it : Addr} (I : Inv X pins σ H s) (k : ∀ b o, b ≠ it → s.heap.get? b = some o → h'.get? b = some o) (hn : H it = none) (hL : it ≠ X.env.locals)
    (h1 : it ∈ X.ex ∨ X.s₀.heap.objs.size ≤ it) (h2 : ∀ x c, X.env.cells.lookup x = some c → c ≠ it) (h3 : ∀ p ∈ X.pn ++ pins, p.1 ≠ it) : Inv X pins σ H { s with heap := h', toks := t' } := by
  have nit : ∀ b u, H b = some u → b ≠ it := fun b u e z => by rw [z, hn] at e; cases e
  refine I.step (g' := s.gens) (d' := s.drawn) (ch := [it]) (fun b hb => ?_) (fun b o _ _ hc e _ => k b o (fun z => hc (by simp [z])) e) (fun b o _ _ hc e _ => ⟨o.slots, k b o (fun z => hc (by simp [z])) e⟩) (fun _ _ _ _ n => n)
    (fun b o hc e => ⟨o, k b o (fun z => hc (by simp [z])) e⟩) (fun _ _ e => e) (fun _ _ _ e => e) (fun b ps e => ⟨#[], by rw [e]; simp⟩) (fun m hm => ?_) (fun b u e => ?_) I.bare
  · have e : b = it := by simpa using hb
    subst e
    exact ⟨h1, hL, h2, h3⟩
  · obtain ⟨o, es, ep, ho, r⟩ := hm
    exact ⟨o, es, ep, k _ o (Ne.symm hL) ho, r⟩
  · refine (I.hok b u e).stay (fun c v hc q => k c v ?_ q) (fun _ q => q) fun _ _ q => q
    rcases hc with z | z
    · rw [z]; exact nit b u e
    · exact nit c _ z
theorem Inv.tok (I : Inv X pins σ H s) (t : Nat) : Inv X pins σ H { s with toks := t } := I.un (h' := s.heap) (t' := t) Un.refl I.hok
/-- all objects kept -/
theorem Inv.kept {t' : Nat} (I : Inv X pins σ H s) (k : ∀ b u, s.heap.get? b = some u → h'.get? b = some u) : Inv X pins σ H { s with heap := h', toks := t' } := I.un (Un.kept k) (I.hok.kept k)
/-- a new object laid and tracked -/
theorem Inv.laid {a : Addr} {o : HO} {t' : Nat} (I : Inv X pins σ H s) (k : ∀ b u, s.heap.get? b = some u → h'.get? b = some u) (hp : s.heap.objs.size ≤ a) (new : ObjOk X.prog X.w (upd H a o) h' a o) :
    Inv X pins σ (upd H a o) { s with heap := h', toks := t' } := I.un (Un.laid k hp (I.hok.fresh hp)) (I.hok.laid k hp new)
/-- an object written -/
theorem Inv.write {x e : Addr} {o : HO} {t' : Nat} (I : Inv X pins σ H s) (mu : Mut (H x)) (he : e = x ∨ H e = some (.own x)) (k : ∀ b u, b ≠ e → s.heap.get? b = some u → h'.get? b = some u) (heo : ∃ u, h'.get? e = some u)
    (new : ObjOk X.prog X.w (upd H x o) h' x o) : Inv X pins σ (upd H x o) { s with heap := h', toks := t' } := I.un (Un.write mu he k heo) (I.hok.write mu he k heo new)
theorem Inv.pins_of {pins' : List (Addr × Obj)} (I : Inv X pins σ H s) (h : ∀ p ∈ pins', s.heap.get? p.1 = some p.2 ∧ H p.1 = none ∧ p.1 ≠ X.env.locals ∧ p.1 ∉ X.fs ∧ ∀ v, p.2.data ≠ .cell v) : Inv X pins' σ H s :=
  ⟨I.ok, I.os, I.bare, I.base, I.loc, I.cell, I.free, I.freeC, fun p hp => (List.mem_append.mp hp).elim (fun z => I.pin p (List.mem_append_left _ z)) (h p), I.hok, I.len⟩

theorem nodup_ix {N : List Str} (hN : N.Nodup) {i j : Nat} {x : Str} (a : N[i]? = some x) (b : N[j]? = some x) : i = j := by
  obtain ⟨h1, e1⟩ := List.getElem?_eq_some_iff.mp a
  obtain ⟨h2, e2⟩ := List.getElem?_eq_some_iff.mp b
  exact (List.getElem_inj hN).mp (e1.trans e2.symm)

/-- a name is stored; what changed -/
theorem store_ok2 {M : Model} {A : Around} {E : Value → Shared → Prop} {i : Nat} {x : Str} {v : V} {u : Value} {Q : Unit → Shared → Prop} (I : Inv X pins σ H s) (hN : X.N.Nodup) (hi : X.N[i]? = some x) (hx : Loc X.env.scope x) (r : RelV v u)
    (h : ∀ s', Inv X pins (σ.set i (some v)) H s' → (∃ a, Heap.SameBut a s.heap s'.heap ∧ (a = X.env.locals ∨ X.env.cells.lookup x = some a)) → Q () s') (hf : X.fn x = true ∨ X.env.scope.names.lookup x = some .local := by first | exact .inl rfl | exact .inr rfl | assumption) : wpAny M A (storeName X.env x u) Q E s := by
  obtain ⟨m, hn, hl⟩ := id I.loc
  have hcls : (X.env.scope.kind == .class || (X.env.scope.kind == .module && X.env.locals != X.env.globals)) = false := by rw [I.ok.kind]; rfl
  have hiσ : i < σ.length := by rw [I.len]; exact (List.getElem?_eq_some_iff.mp hi).1
  have cne := I.cne
  have tracked : ∀ {a : Addr} {h' : Heap}, (∃ o, s.heap.get? a = some o ∧ H a = none) → Heap.SameBut a s.heap h' → HOk X.prog X.w H h' := fun {a h'} ha hs b ob e => by
    obtain ⟨_, _, hfree⟩ := ha
    refine (I.hok b ob e).stay (fun c w' hc q => (hs.2 c ?_).trans q) (fun _ q => q) fun _ _ q => q
    rintro rfl
    rcases hc with rfl | hc
    · rw [hfree] at e; cases e
    · rw [hfree] at hc; cases hc
  rcases hx with hk | hk
  · refine wpAny_storeName_local hk hn (fun h' hn' hs => ?_) hcls
    obtain ⟨oL, _, _, hoL, _⟩ := id hn
    refine h _ ⟨I.ok, I.os, I.bare, ⟨fun b o e n hb hx => ?_, fun b o e n hb hx => ?_, I.base.free, fun b o e hx => ?_, I.base.tups, I.base.frzs, I.base.tbls⟩, ⟨_, hn', fun j y v' e1 e2 e3 => ?_⟩, fun y c e => ?_, I.free, I.freeC, fun p hp => ?_, tracked ⟨oL, hoL, I.free⟩ hs, by simpa using I.len⟩ ⟨_, hs, .inl rfl⟩
    · exact (hs.2 b (Nat.ne_of_lt (Nat.lt_of_lt_of_le (Heap.lt_size e) I.ok.above))).trans (I.base.keep b o e n hb hx)
    · obtain ⟨sl, e1⟩ := I.base.slot b o e n hb hx
      exact ⟨sl, (hs.2 b (Nat.ne_of_lt (Nat.lt_of_lt_of_le (Heap.lt_size e) I.ok.above))).trans e1⟩
    · obtain ⟨o', e1⟩ := I.base.there b o e hx
      exact ⟨o', (hs.2 b (Nat.ne_of_lt (Nat.lt_of_lt_of_le (Heap.lt_size e) I.ok.above))).trans e1⟩
    · by_cases hj : j = i
      · subst hj
        rw [hi] at e1; cases e1
        rw [List.getElem?_set_self hiσ] at e2
        cases e2
        exact ⟨u, r, .inl ⟨hk, by simp⟩⟩
      · rw [List.getElem?_set_ne (Ne.symm hj)] at e2
        obtain ⟨u', r', q⟩ := hl j y v' e1 e2 e3
        refine ⟨u', r', ?_⟩
        rcases q with ⟨k, e⟩ | ⟨k, c, e, z⟩
        · refine .inl ⟨k, ?_⟩
          have : y ≠ x := fun e => hj (nodup_ix hN e1 (e ▸ hi))
          simp [this, e]
        · exact .inr ⟨k, c, e, z.sameBut hs (cne y c e)⟩
    · obtain ⟨w', z⟩ := I.cell y c e
      exact ⟨w', z.sameBut hs (cne y c e)⟩
    · obtain ⟨e, n, ne, nf, d⟩ := I.pin p hp
      exact ⟨(hs.2 p.1 ne).trans e, n, ne, nf, d⟩
  · have hfn : X.fn x = true := by
      rcases hf with z | z
      · exact z
      · rw [z] at hk; cases hk
    obtain ⟨c, hc⟩ := I.ok.has x (.inl hk)
    obtain ⟨w', z⟩ := I.cell x c hc
    refine wpAny_storeName_cell I.ok.kind hk hc z (fun h' hc' hs => ?_)
    obtain ⟨oc, hoc, hocd⟩ := id z
    refine h { s with heap := h' } ⟨I.ok, I.os, I.bare, ⟨fun b o e n hb hx => ?_, fun b o e n hb hx => ?_, I.base.free, fun b o e hx => ?_, I.base.tups, I.base.frzs, I.base.tbls⟩, ⟨m, hn.sameBut hs (Ne.symm (cne x c hc)), fun j y v' e1 e2 e3 => ?_⟩, fun y c' e => ?_, I.free, I.freeC, fun p hp => ?_, tracked ⟨oc, hoc, I.freeC x c hc⟩ hs, by simpa using I.len⟩ ⟨c, hs, .inr hc⟩
    · exact (hs.2 b (Nat.ne_of_lt (Nat.lt_of_lt_of_le (Heap.lt_size e) (I.ok.cab x c hfn hc)))).trans (I.base.keep b o e n hb hx)
    · obtain ⟨sl, e1⟩ := I.base.slot b o e n hb hx
      exact ⟨sl, (hs.2 b (Nat.ne_of_lt (Nat.lt_of_lt_of_le (Heap.lt_size e) (I.ok.cab x c hfn hc)))).trans e1⟩
    · obtain ⟨o', e1⟩ := I.base.there b o e hx
      exact ⟨o', (hs.2 b (Nat.ne_of_lt (Nat.lt_of_lt_of_le (Heap.lt_size e) (I.ok.cab x c hfn hc)))).trans e1⟩
    · by_cases hj : j = i
      · subst hj
        rw [hi] at e1; cases e1
        rw [List.getElem?_set_self hiσ] at e2
        cases e2
        exact ⟨u, r, .inr ⟨.inl hk, c, hc, hc'⟩⟩
      · rw [List.getElem?_set_ne (Ne.symm hj)] at e2
        obtain ⟨u', r', q⟩ := hl j y v' e1 e2 e3
        refine ⟨u', r', ?_⟩
        rcases q with q | ⟨k, c', e, z'⟩
        · exact .inl q
        · refine .inr ⟨k, c', e, z'.sameBut hs ?_⟩
          rintro rfl
          exact hj (nodup_ix hN e1 (I.ok.inj _ _ _ e hc ▸ hi))
    · by_cases hcc : c' = c
      · subst hcc; exact ⟨_, hc'⟩
      · obtain ⟨w2, z2⟩ := I.cell y c' e
        exact ⟨w2, z2.sameBut hs hcc⟩
    · obtain ⟨e, n, ne, nf, d⟩ := I.pin p hp
      refine ⟨(hs.2 p.1 ?_).trans e, n, ne, nf, d⟩
      intro q
      rw [q, hoc] at e
      have q' : oc = p.2 := Option.some.inj e
      exact d w' (by rw [← q']; exact hocd)
theorem store_ok {M : Model} {A : Around} {E : Value → Shared → Prop} {i : Nat} {x : Str} {v : V} {u : Value} {Q : Unit → Shared → Prop} (I : Inv X pins σ H s) (hN : X.N.Nodup) (hi : X.N[i]? = some x) (hx : Loc X.env.scope x) (r : RelV v u)
    (h : ∀ s', Inv X pins (σ.set i (some v)) H s' → Q () s') (hf : X.fn x = true ∨ X.env.scope.names.lookup x = some .local := by first | exact .inl rfl | exact .inr rfl | assumption) : wpAny M A (storeName X.env x u) Q E s :=
  store_ok2 I hN hi hx r (fun s' I' _ => h s' I') hf
/-- behind a call or a block, the state as it is -/
theorem Inv.call' {s' : Shared} {ch : List Addr} (I : Inv X pins σ H s) (ho : s'.os = s.os) (u : Un (frs X.stack) ch H H' s.heap s'.heap) (hok : HOk X.prog X.w H' s'.heap) (hg : AllBare s'.gens)
    (hch : ∀ b ∈ ch, (b ∈ X.ex ∨ X.s₀.heap.objs.size ≤ b) ∧ b ≠ X.env.locals ∧ (∀ x c, X.env.cells.lookup x = some c → c ≠ b) ∧ ∀ p ∈ X.pn ++ pins, p.1 ≠ b) : Inv X pins σ H' s' := by
  obtain ⟨h', g', d', t', o'⟩ := s'
  have e : o' = s.os := ho
  subst e
  exact I.call (g' := g') (t' := t') (d' := d') u hok hg hch
end

/-! ### the judgements -/
/-- an exception: its class, its own dict's address (where it has one), the abstract heap behind it -/
abbrev XK := Value → Option Addr → Hp → Prop
abbrev St := List (Option V)
abbrev VK := V → Hp → Prop
/-- an expression's reading; a test's; an argument list's -/
abbrev TE := St → Hp → VK → Prop
abbrev TT := St → Hp → (Bool → Hp → Prop) → Prop
abbrev TA := St → Hp → (List V → Hp → Prop) → Prop
/-- what is wanted behind a statement -/
structure Ends where
  nx : St → Hp → Prop
  rt : VK
  bk : St → Hp → Prop := fun _ _ => False
  ct : St → Hp → Prop := fun _ _ => False
abbrev TS := Ends → St → Hp → Prop

def EP (X : Cx) (pins : List (Addr × Obj)) (σ : St) (Q : VK) (u : Value) (s' : Shared) : Prop := ∃ v H', Inv X pins σ H' s' ∧ RelV v u ∧ Q v H'
def TP (X : Cx) (pins : List (Addr × Obj)) (σ : St) (Q : Bool → Hp → Prop) (b : Bool) (s' : Shared) : Prop := ∃ H', Inv X pins σ H' s' ∧ Q b H'
def AP (X : Cx) (pins : List (Addr × Obj)) (σ : St) (Q : List V → Hp → Prop) (us : List Value) (s' : Shared) : Prop := ∃ vs H', Inv X pins σ H' s' ∧ Vals vs us ∧ Q vs H'
def SP (X : Cx) (pins : List (Addr × Obj)) (D : Ends) (f : Flow) (s' : Shared) : Prop :=
  match f with
  | .next => ∃ σ' H', Inv X pins σ' H' s' ∧ D.nx σ' H'
  | .brk => ∃ σ' H', Inv X pins σ' H' s' ∧ D.bk σ' H'
  | .cont => ∃ σ' H', Inv X pins σ' H' s' ∧ D.ct σ' H'
  | .ret u => ∃ v σ' H', Inv X pins σ' H' s' ∧ RelV v u ∧ D.rt v H'

def PE (X : Cx) (e : Expr) (t : TE) : Prop :=
  ∀ (pins : List (Addr × Obj)) (s : Shared) (σ : St) (H : Hp) (Q : VK), Inv X pins σ H s → t σ H Q → wpAny (model X.prog X.w) X.A (eval e X.env) (EP X pins σ Q) X.xe s
def PT (X : Cx) (e : Expr) (t : TT) : Prop :=
  ∀ (pins : List (Addr × Obj)) (s : Shared) (σ : St) (H : Hp) (Q : Bool → Hp → Prop), Inv X pins σ H s → t σ H Q → wpAny (model X.prog X.w) X.A (isTrue e X.env (eval e X.env)) (TP X pins σ Q) X.xe s
/-- a test whatever its 'whole' is (and, or) -/
def PW (X : Cx) (e : Expr) (t : TT) : Prop :=
  ∀ (whole : Sem Value) (pins : List (Addr × Obj)) (s : Shared) (σ : St) (H : Hp) (Q : Bool → Hp → Prop), Inv X pins σ H s → t σ H Q → wpAny (model X.prog X.w) X.A (isTrue e X.env whole) (TP X pins σ Q) X.xe s
theorem PW.pt {X : Cx} {e : Expr} {t : TT} (h : PW X e t) : PT X e t := h _
/-- an argument list (no star), from the left -/
def PA (X : Cx) (es : List Expr) (t : TA) : Prop :=
  ∀ (pos : Pos) (pins : List (Addr × Obj)) (s : Shared) (σ : St) (H : Hp) (Q : List V → Hp → Prop), Inv X pins σ H s → t σ H Q → wpAny (model X.prog X.w) X.A (spliced (backTo pos (starEach es X.env))) (AP X pins σ Q) X.xe s
def PS (X : Cx) (st : Stmt) (t : TS) : Prop :=
  ∀ (pins : List (Addr × Obj)) (s : Shared) (σ : St) (H : Hp) (D : Ends), Inv X pins σ H s → t D σ H → wpAny (model X.prog X.w) X.A (exec st X.env) (SP X pins D) X.xe s
def PSs (X : Cx) (st : List Stmt) (t : TS) : Prop :=
  ∀ (pins : List (Addr × Obj)) (s : Shared) (σ : St) (H : Hp) (D : Ends), Inv X pins σ H s → t D σ H → wpAny (model X.prog X.w) X.A (execs st X.env) (SP X pins D) X.xe s
/-- weaken the end -/
theorem thn {α : Type} {t : Sem α} {Q Q' : α → Shared → Prop} {M : Model} {A : Around} {E : Value → Shared → Prop} {s : Shared} (h : wpAny M A t Q E s) (hQ : ∀ a s, Q a s → Q' a s) : wpAny M A t Q' E s := wpAny_mono h hQ fun _ _ x => x
end L2

namespace L2
open PySem PySem.Spec PyProof.Rows
section
variable {X : Cx}

/-! ### names and constants -/
def tVar (i : Nat) : TE := fun σ H Q => ∃ v, σ[i]? = some (some v) ∧ Q v H
def tC (v : V) : TE := fun _ H Q => Q v H
theorem pe_var {i : Nat} {x : Str} {pos : Pos} (hN : X.N[i]? = some x) (hv : Vis X.env.scope x) (hd : (x == ("__debug__" : Str)) = false := by decide) (hcd : (x == ("__classdict__" : Str)) = false := by decide) : PE X (.Name x pos) (tVar i) := by
  intro pins s σ H Q I h
  obtain ⟨v, e, h⟩ := h
  obtain ⟨m, hn, hl⟩ := I.loc
  obtain ⟨u, r, l⟩ := hl i x v hN e hv
  have fin : EP X pins σ Q u s := ⟨v, H, I, r, h⟩
  rcases l with ⟨hk, hm⟩ | ⟨hk, c, hc, hcell⟩
  · exact wpAny_Name (wpAny_loadName_local I.ok.kind hk hn hm fin) hd
  · rcases hk with hk | hk
    · exact wpAny_Name (wpAny_loadName_cell I.ok.kind hk hc hcell fin) hd
    · exact wpAny_Name (wpAny_loadName_free I.ok.kind hk hc hcell fin hcd) hd
theorem pe_int {i j pos} : PE X (.Constant (.int i) j pos) (tC (.int i)) := fun _ _ _ H _ I h => wpAny_Constant_int ⟨.int i, H, I.tok _, ⟨_, rfl⟩, h⟩
theorem pe_bl {b j pos} : PE X (.Constant (.bool b) j pos) (tC (.bl b)) := fun _ _ _ H _ I h => Constant_bool ⟨.bl b, H, I, rfl, h⟩
theorem pe_non {j pos} : PE X (.Constant .none j pos) (tC .non) := fun _ _ _ H _ I h => Constant_none ⟨.non, H, I, rfl, h⟩
theorem pe_str {x j pos} : PE X (.Constant (.str x) j pos) (tC (.str x)) := fun _ _ _ H _ I h => Calls.Constant_str ⟨.str x, H, I.tok _, ⟨_, rfl⟩, h⟩

/-- a global name of the def -/
def Gl (X : Cx) (x : Str) : Prop := X.env.kindOf x = some .globalImplicit
theorem ld_glob {E : Value → Shared → Prop} {pins : List (Addr × Obj)} {s : Shared} {σ : St} {H : Hp} {x : Str} {u : Value} {pos : Pos} {Q : Value → Shared → Prop} (I : Inv X pins σ H s) (hg : Gl X x) (hm : X.mg x = some u) (h : Q u s)
    (hd : (x == ("__debug__" : Str)) = false := by decide) : wpAny (model X.prog X.w) X.A (eval (.Name x pos) X.env) Q E s :=
  Calls.Name_function_global I.ok.kind hg (Calls.loadGlobal_global (by rw [I.ok.glob]; exact I.mod.glob.keeps I.bk) hm h) hd
theorem ld_blt {E : Value → Shared → Prop} {pins : List (Addr × Obj)} {s : Shared} {σ : St} {H : Hp} {x : Str} {u : Value} {pos : Pos} {Q : Value → Shared → Prop} (I : Inv X pins σ H s) (hg : Gl X x) (hm : X.mg x = none) (hv : bootBuiltins x = some u) (h : Q u s)
    (hn : x ≠ "__name__" := by decide) (hd : (x == ("__debug__" : Str)) = false := by decide) : wpAny (model X.prog X.w) X.A (eval (.Name x pos) X.env) Q E s := by
  obtain ⟨mb, h1, h2⟩ := I.mod.blt
  exact Calls.Name_function_global I.ok.kind hg (Calls.loadGlobal_builtin (by rw [I.ok.glob]; exact I.mod.glob.keeps I.bk) hm (by rw [I.ok.blt]; exact h1.keeps I.bk) ((h2 x hn).trans hv) h) hd
theorem pe_bltn {x : Str} {v : V} {u : Value} {pos : Pos} (hg : Gl X x) (hm : X.mg x = none) (hv : bootBuiltins x = some u) (r : RelV v u) (hn : x ≠ "__name__" := by decide) (hd : (x == ("__debug__" : Str)) = false := by decide) : PE X (.Name x pos) (tC v) :=
  fun _ _ _ H _ I h => ld_blt I hg hm hv ⟨v, H, I, r, h⟩ hn hd

/-! ### arithmetic -/
variable {a b : Expr} {ta tb : TE} {pos : Pos}
/-! ### comparisons -/
def PC (X : Cx) (op : CmpOp) (a b : Expr) (t : TE) : Prop :=
  ∀ (pins : List (Addr × Obj)) (s : Shared) (σ : St) (H : Hp) (Q : VK), Inv X pins σ H s → t σ H Q →
    wpAny (model X.prog X.w) X.A (eval a X.env) (fun v s₁ => wpAny (model X.prog X.w) X.A (eval b X.env) (fun u s₂ => wpAny (model X.prog X.w) X.A (compareOp op v u) (EP X pins σ Q) X.xe s₂) X.xe s₁) X.xe s
theorem nobehind (b : Expr) {op : CmpOp} (h : op ≠ .In) (h2 : op ≠ .NotIn) : behindInMarks op b = false := by
  have e1 : (op == CmpOp.In) = false := by cases op <;> first | rfl | exact absurd rfl h
  have e2 : (op == CmpOp.NotIn) = false := by cases op <;> first | rfl | exact absurd rfl h2
  cases b <;> simp [behindInMarks, e1, e2]
/-- is None -/
def tIsN (ta : TE) : TE := fun σ H Q => ta σ H fun x H1 => Q (.bl (decide (x = .non))) H1
def tNotN (ta : TE) : TE := fun σ H Q => ta σ H fun x H1 => Q (.bl (!decide (x = .non))) H1
theorem RelV.none_iff {x : V} {v : Value} (r : RelV x v) : (v == Value.none) = decide (x = .non) := by
  cases x with
  | non => cases r; rfl
  | bl _ => cases r; rfl
  | int _ => obtain ⟨t, rfl⟩ := r; rfl
  | str _ => obtain ⟨t, rfl⟩ := r; rfl
  | byt _ => obtain ⟨t, rfl⟩ := r; rfl
  | flt _ => obtain ⟨t, rfl⟩ := r; rfl
  | ref _ => cases r; rfl
  | ty _ => cases r; rfl
theorem pc_isN {j pos'} (ha : PE X a ta) : PC X .Is a (.Constant .none j pos') (tIsN ta) := by
  intro pins s σ H Q I h
  refine thn (ha pins s σ H _ I h) fun v s1 ⟨x, H1, I1, r1, q1⟩ => ?_
  exact Constant_none (is_none_gen ⟨.bl _, H1, I1, by rw [r1.none_iff]; rfl, q1⟩)
theorem pc_notN {j pos'} (ha : PE X a ta) : PC X .IsNot a (.Constant .none j pos') (tNotN ta) := by
  intro pins s σ H Q I h
  refine thn (ha pins s σ H _ I h) fun v s1 ⟨x, H1, I1, r1, q1⟩ => ?_
  exact Constant_none (isnot_none_gen ⟨.bl _, H1, I1, by rw [r1.none_iff]; rfl, q1⟩)
/-- a comparison as a value, as a test -/
def tB (t : TE) : TT := fun σ H Q => t σ H fun x H1 => ∃ c, x = .bl c ∧ Q c H1
theorem pe_cmp {op : CmpOp} {t : TE} (h : PC X op a b t) (h1 : behindInMarks op b = false := by first | exact nobehind _ (by decide) (by decide) | rfl) : PE X (.Compare a [op] [b] pos) t := fun pins s σ H Q I hw => wpAny_Compare1 (h pins s σ H Q I hw) h1
theorem pt_cmp {op : CmpOp} {t : TE} (h : PC X op a b t) (h1 : behindInMarks op b = false := by first | exact nobehind _ (by decide) (by decide) | rfl) : PT X (.Compare a [op] [b] pos) (tB t) := by
  intro pins s σ H Q I hw
  refine wpAny_isTrue_Compare1 (thn (h pins s σ H _ I hw) fun v s1 h1 => thn h1 fun u s2 h2 => thn h2 fun c s3 ⟨x, H1, I1, r1, q1⟩ => ?_) h1
  obtain ⟨d, rfl, q⟩ := q1
  cases r1
  exact wpAny_truthy_bool ⟨H1, I1, q⟩
/-- an expression whose value is a bool, as a test -/
theorem pt_val {e : Expr} {t : TE} (h : PE X e t) (he : ∀ whole, isTrue e X.env whole = (do let v ← whole; standAt e.pos; holding [v] (truthy v)) := by intro _; rfl) : PT X e (tB t) := by
  intro pins s σ H Q I hw
  refine isTrue_plain (thn (h pins s σ H _ I hw) fun v s1 ⟨x, H1, I1, r1, q1⟩ => ?_) (he _)
  obtain ⟨d, rfl, q⟩ := q1
  cases r1
  exact wpAny_truthy_bool ⟨H1, I1, q⟩

/-! ### and, or, not -/
variable {tA tB' : TT} {rest : List Expr}
def tAnd (t u : TT) : TT := fun σ H Q => t σ H fun c H1 => if c = true then u σ H1 Q else Q false H1
def tOr (t u : TT) : TT := fun σ H Q => t σ H fun c H1 => if c = true then Q true H1 else u σ H1 Q
def tNot (t : TT) : TT := fun σ H Q => t σ H fun c H1 => Q (!c) H1
theorem pw_and1 (ha : PT X a tA) : PW X (.BoolOp .And [a] pos) tA := by
  intro wh pins s σ H Q I h
  refine isTrue_and (thn (ha pins s σ H Q I h) fun c s1 e => ?_)
  cases c with
  | true => exact isTrue_and_nil e
  | false => exact e
theorem pw_or1 (ha : PT X a tA) : PW X (.BoolOp .Or [a] pos) tA := by
  intro wh pins s σ H Q I h
  refine isTrue_or (thn (ha pins s σ H Q I h) fun c s1 e => ?_)
  cases c with
  | false => exact isTrue_or_nil e
  | true => exact e
theorem pw_and (ha : PT X a tA) (hb : PW X (.BoolOp .And (b :: rest) pos) tB') : PW X (.BoolOp .And (a :: b :: rest) pos) (tAnd tA tB') := by
  intro wh pins s σ H Q I h
  refine isTrue_and (thn (ha pins s σ H _ I h) fun c s1 ⟨H1, I1, q1⟩ => ?_)
  cases c with
  | true => exact hb wh pins s1 σ H1 Q I1 q1
  | false => exact ⟨H1, I1, q1⟩
theorem pw_or (ha : PT X a tA) (hb : PW X (.BoolOp .Or (b :: rest) pos) tB') : PW X (.BoolOp .Or (a :: b :: rest) pos) (tOr tA tB') := by
  intro wh pins s σ H Q I h
  refine isTrue_or (thn (ha pins s σ H _ I h) fun c s1 ⟨H1, I1, q1⟩ => ?_)
  cases c with
  | true => exact ⟨H1, I1, q1⟩
  | false => exact hb wh pins s1 σ H1 Q I1 q1
theorem pt_not (ha : PT X a tA) : PT X (.UnaryOp .Not a pos) (tNot tA) := by
  intro pins s σ H Q I h
  exact isTrue_not (ha pins s σ H (fun c H1 => Q (!c) H1) I h)
/-- .. as values (bools) -/
def tAndV (ta tb : TE) : TE := fun σ H Q => ta σ H fun x H1 => ∃ c, x = .bl c ∧ if c = true then tb σ H1 Q else Q (.bl false) H1
def tNotV (ta : TE) : TE := fun σ H Q => ta σ H fun x H1 => ∃ c, x = .bl c ∧ Q (.bl (!c)) H1
theorem pe_one {op} {t : TE} (h : PE X a t) : PE X (.BoolOp op [a] pos) t := fun pins s σ H Q I hw => BoolOp_one (h pins s σ H Q I hw)
theorem pe_and (ha : PE X a ta) (hb : PE X (.BoolOp .And (b :: rest) pos) tb) : PE X (.BoolOp .And (a :: b :: rest) pos) (tAndV ta tb) := by
  intro pins s σ H Q I h
  refine BoolOp_and (thn (ha pins s σ H _ I h) fun v s1 ⟨x, H1, I1, r1, q1⟩ => ?_)
  obtain ⟨c, rfl, q1⟩ := q1
  cases r1
  refine wpAny_truthy_bool ?_
  cases c with
  | true => exact hb pins s1 σ H1 Q I1 q1
  | false => exact ⟨.bl false, H1, I1, rfl, q1⟩
theorem pe_not (ha : PE X a ta) : PE X (.UnaryOp .Not a pos) (tNotV ta) := by
  intro pins s σ H Q I h
  refine UnaryOp_ (thn (ha pins s σ H _ I h) fun v s1 ⟨x, H1, I1, r1, q1⟩ => ?_)
  obtain ⟨c, rfl, q1⟩ := q1
  cases r1
  exact not_of (wpAny_truthy_bool ⟨.bl (!c), H1, I1, rfl, q1⟩)
end
end L2

namespace L2
open PySem PySem.Spec PyProof.Rows

/-! ### a list, a tuple that is read: tracked, frozen, or an object of the module -/
def SqL (K : PySem.W.Frag) (H : Hp) (a : Addr) (xs : List V) : Prop :=
  Rd H a (.lst xs) ∨
    ∃ (o : Obj) (its : Array Value) (n : Nat), K.lookup a = some o ∧ o.cls = .type "list" ∧ o.dict = none ∧ o.data = .seq its n ∧ its.size ≤ sizeLine ∧ Vals xs its.toList
def SqT (K : PySem.W.Frag) (H : Hp) (a : Addr) (xs : List V) : Prop :=
  Rd H a (.tup xs) ∨
    ∃ (o : Obj) (its : Array Value) (n : Nat), K.lookup a = some o ∧ o.cls = .type "tuple" ∧ o.data = .seq its n ∧ its.size ≤ sizeLine ∧ Vals xs its.toList
def absV : Value → Option V
  | .none => some .non
  | .bool b => some (.bl b)
  | .int i _ => some (.int i)
  | .str x _ => some (.str x)
  | .bytes b _ => some (.byt b)
  | .float b _ => some (.flt b)
  | .ref a => some (.ref a)
  | .type n => some (.ty n)
  | _ => none
theorem RelV.abs {x : V} {u : Value} (r : RelV x u) : absV u = some x := by
  cases x with
  | non => cases r; rfl
  | bl _ => cases r; rfl
  | int _ => obtain ⟨t, rfl⟩ := r; rfl
  | str _ => obtain ⟨t, rfl⟩ := r; rfl
  | byt _ => obtain ⟨t, rfl⟩ := r; rfl
  | flt _ => obtain ⟨t, rfl⟩ := r; rfl
  | ref _ => cases r; rfl
  | ty _ => cases r; rfl
theorem RelV.inj {x y : V} {u : Value} (r : RelV x u) (q : RelV y u) : x = y := Option.some.inj (r.abs.symm.trans q.abs)
theorem Vals.inj : ∀ {xs ys : List V} {us : List Value}, Vals xs us → Vals ys us → xs = ys
  | _, _, _, .nil, .nil => rfl
  | _, _, _, .cons r t, .cons r' t' => by rw [r.inj r', Vals.inj t t']
section
variable {X : Cx} {pins : List (Addr × Obj)} {σ : St} {H : Hp} {s : Shared} {a : Addr} {xs ys : List V}
theorem SqL.of {K : PySem.W.Frag} (h : H a = some (.lst xs)) : SqL K H a xs := .inl (.inl h)
theorem SqT.of {K : PySem.W.Frag} (h : H a = some (.tup xs)) : SqT K H a xs := .inl (.inl h)
theorem Inv.list (I : Inv X pins σ H s) (h : SqL X.K H a xs) : ∃ its : List Value, Vals xs its ∧ PlainL s.heap a its.toArray ∧ xs.length ≤ sizeLine := by
  rcases h with h | ⟨o, its, n, hk, hc, hd, hs, hz, r⟩
  · obtain ⟨z, its, n, r, e⟩ := h.ok I.hok
    exact ⟨its, r, ⟨_, n, e, rfl, rfl, rfl⟩, z⟩
  · refine ⟨its.toList, r, ⟨o, n, I.kIn a o hk, hc, hd, by simpa using hs⟩, ?_⟩
    have e := r.length
    simp only [Array.length_toList] at e
    omega
theorem Inv.tuple (I : Inv X pins σ H s) (h : SqT X.K H a xs) : ∃ its : List Value, Vals xs its ∧ IsTup s.heap a its.toArray ∧ xs.length ≤ sizeLine := by
  rcases h with h | ⟨o, its, n, hk, hc, hs, hz, r⟩
  · obtain ⟨z, its, r, p⟩ := h.ok I.hok
    exact ⟨its, r, p, z⟩
  · refine ⟨its.toList, r, ⟨o, I.kIn a o hk, hc, n, by simpa using hs⟩, ?_⟩
    have e := r.length
    simp only [Array.length_toList] at e
    omega
theorem Inv.list_inj (I : Inv X pins σ H s) (h : SqL X.K H a xs) (h' : SqL X.K H a ys) : xs = ys := by
  obtain ⟨its, r, ⟨o, n, e, _, _, d⟩, _⟩ := I.list h
  obtain ⟨its', r', ⟨o', n', e', _, _, d'⟩, _⟩ := I.list h'
  rw [e] at e'; cases e'
  rw [d] at d'
  injection d' with d1 _
  have : its = its' := by simpa using congrArg Array.toList d1
  subst this
  exact r.inj r'
theorem Inv.tuple_inj (I : Inv X pins σ H s) (h : SqT X.K H a xs) (h' : SqT X.K H a ys) : xs = ys := by
  obtain ⟨its, r, ⟨o, e, _, n, d⟩, _⟩ := I.tuple h
  obtain ⟨its', r', ⟨o', e', _, n', d'⟩, _⟩ := I.tuple h'
  rw [e] at e'; cases e'
  rw [d] at d'
  injection d' with d1 _
  have : its = its' := by simpa using congrArg Array.toList d1
  subst this
  exact r.inj r'
end

/-! ### another wish about exceptions -/
abbrev Cx.wish (X : Cx) (E : Value → Shared → Prop) : Cx := { X with xe := E }
/-- no exception leaves -/
abbrev Cx.nox (X : Cx) : Cx := X.wish fun _ _ => False
theorem Cx.Ok.wish {X : Cx} (ok : X.Ok) (E : Value → Shared → Prop) : (X.wish E).Ok :=
  ⟨ok.mod, ok.kind, ok.glob, ok.blt, ok.above, ok.inj, ok.has, ok.cab, ok.hd, ok.frames, ok.stk, ok.exf, ok.bs, ok.bsz, ok.noex, ok.exfs, ok.funs, ok.frf⟩
theorem Cx.Ok.unwish {X : Cx} {E : Value → Shared → Prop} (ok : (X.wish E).Ok) : X.Ok :=
  ⟨ok.mod, ok.kind, ok.glob, ok.blt, ok.above, ok.inj, ok.has, ok.cab, ok.hd, ok.frames, ok.stk, ok.exf, ok.bs, ok.bsz, ok.noex, ok.exfs, ok.funs, ok.frf⟩
section
variable {X : Cx} {pins : List (Addr × Obj)} {σ : St} {H : Hp} {s : Shared} {E : Value → Shared → Prop}
theorem Inv.wish (I : Inv X pins σ H s) (E : Value → Shared → Prop) : Inv (X.wish E) pins σ H s := ⟨I.ok.wish E, I.os, I.bare, I.base, I.loc, I.cell, I.free, I.freeC, I.pin, I.hok, I.len⟩
theorem Inv.unwish (I : Inv (X.wish E) pins σ H s) : Inv X pins σ H s := ⟨I.ok.unwish, I.os, I.bare, I.base, I.loc, I.cell, I.free, I.freeC, I.pin, I.hok, I.len⟩
theorem SP.unwish {D : Ends} {f : Flow} {s' : Shared} (h : SP (X.wish E) pins D f s') : SP X pins D f s' := by
  cases f with
  | next => obtain ⟨σ', H', I, q⟩ := h; exact ⟨σ', H', I.unwish, q⟩
  | brk => obtain ⟨σ', H', I, q⟩ := h; exact ⟨σ', H', I.unwish, q⟩
  | cont => obtain ⟨σ', H', I, q⟩ := h; exact ⟨σ', H', I.unwish, q⟩
  | ret u => obtain ⟨v, σ', H', I, r, q⟩ := h; exact ⟨v, σ', H', I.unwish, r, q⟩
theorem PSs.nox {st : List Stmt} {t : TS} (h : PSs X.nox st t) : PSs X st t := fun pins s σ H D I hw =>
  wpAny_mono (h pins s σ H D (I.wish _) hw) (fun _ _ q => q.unwish) fun _ _ z => False.elim z
end

/-! ### blocks and small statements -/
section
variable {X : Cx} {st : Stmt} {rest : List Stmt} {t u : TS} {e : Expr} {te : TE} {pos : Pos}
def tNext : TS := fun D σ H => D.nx σ H
def tSeq (t u : TS) : TS := fun D σ H => t { D with nx := u D } σ H
theorem pss_nil : PSs X [] tNext := fun _ _ σ H _ I h => wpAny_execs_nil ⟨σ, H, I, h⟩
theorem pss_cons (h1 : PS X st t) (h2 : PSs X rest u) : PSs X (st :: rest) (tSeq t u) := by
  intro pins s σ H D I h
  refine wpAny_execs_cons (thn (h1 pins s σ H { D with nx := u D } I h) fun f s1 q => ?_)
  cases f with
  | next =>
    obtain ⟨σ', H', I', q⟩ := q
    exact h2 pins s1 σ' H' D I' q
  | ret v => exact q
  | brk => exact q
  | cont => exact q
theorem pss_one (h1 : PS X st t) : PSs X [st] t := by
  intro pins s σ H D I h
  refine wpAny_execs_cons (thn (h1 pins s σ H D I h) fun f s1 q => ?_)
  cases f with
  | next => exact wpAny_execs_nil q
  | ret v => exact q
  | brk => exact q
  | cont => exact q
def tCont : TS := fun D σ H => D.ct σ H
theorem ps_continue : PS X (.Continue pos) tCont := fun _ _ σ H _ I h => wpAny_Continue ⟨σ, H, I, h⟩
/-- in a def's body nothing is shown -/
theorem Inv.quiet {pins : List (Addr × Obj)} {σ : St} {H : Hp} {s : Shared} (I : Inv X pins σ H s) : interactive X.env = false := by simp [interactive, I.ok.kind]
/-- an expression whose value is dropped -/
def tDrop (te : TE) : TS := fun D σ H => te σ H fun _ H1 => D.nx σ H1
theorem ps_expr (he : PE X e te) (hs : swapsWith e none pos.line X.env = pure false := by rfl) : PS X (.Expr e pos) (tDrop te) := by
  intro pins s σ H D I h
  exact wpAny_Expr_any (thn (he pins s σ H _ I h) fun v s1 ⟨x, H1, I1, r1, q1⟩ => ⟨σ, H1, I1, q1⟩) I.quiet hs
def tRet (te : TE) : TS := fun D σ H => te σ H D.rt
theorem ps_ret (he : PE X e te) : PS X (.Return (some e) pos) (tRet te) := by
  intro pins s σ H D I h
  exact wpAny_Return_some (thn (he pins s σ H _ I h) fun v s1 ⟨x, H1, I1, r1, q1⟩ => ⟨x, σ, H1, I1, r1, q1⟩)
def tIfS (c : TT) (t u : TS) : TS := fun D σ H => c σ H fun b H1 => if b = true then t D σ H1 else u D σ H1
theorem ps_if {c : Expr} {a b : List Stmt} {tc : TT} (hc : PT X c tc) (ha : PSs X a t) (hb : PSs X b u) : PS X (.If c a b pos) (tIfS tc t u) := by
  intro pins s σ H D I h
  refine wpAny_If (thn (hc pins s σ H _ I h) fun d s1 ⟨H1, I1, q1⟩ => ?_)
  cases d with
  | true => exact ha pins s1 σ H1 D I1 q1
  | false => exact hb pins s1 σ H1 D I1 q1
end

/-! ### targets -/
abbrev TG := V → St → Hp → (St → Hp → Prop) → Prop
abbrev TGs := List V → St → Hp → (St → Hp → Prop) → Prop
def PG (X : Cx) (target : Expr) (t : TG) : Prop :=
  ∀ (pins : List (Addr × Obj)) (s : Shared) (σ : St) (H : Hp) (v : V) (u : Value) (Q : St → Hp → Prop), Inv X pins σ H s → RelV v u → t v σ H Q →
    wpAny (model X.prog X.w) X.A (assign target X.env u) (fun _ s' => ∃ σ' H', Inv X pins σ' H' s' ∧ Q σ' H') X.xe s
/-- several targets, one after another -/
def PGs (X : Cx) (ts : List Expr) (t : TGs) : Prop :=
  ∀ (pins : List (Addr × Obj)) (s : Shared) (σ : St) (H : Hp) (vs : List V) (us : List Value) (Q : St → Hp → Prop), Inv X pins σ H s → Vals vs us → t vs σ H Q →
    wpAny (model X.prog X.w) X.A (assignInOrder ((assignEach ts X.env).map (·.2)) us) (fun _ s' => ∃ σ' H', Inv X pins σ' H' s' ∧ Q σ' H') X.xe s
/-- o[i] = v, by values -/
abbrev TSet := V → V → V → Hp → (Hp → Prop) → Prop
def PSet (X : Cx) (t : TSet) : Prop :=
  ∀ (pins : List (Addr × Obj)) (s : Shared) (σ : St) (H : Hp) (o i v : V) (ov iv u : Value) (Q : Hp → Prop), Inv X pins σ H s → RelV o ov → RelV i iv → RelV v u → t o i v H Q →
    wpAny (model X.prog X.w) X.A (setItem ov iv u) (fun _ s' => ∃ H', Inv X pins σ H' s' ∧ Q H') X.xe s
/-- a op= b, by values -/
abbrev TIp := V → V → Hp → VK → Prop
def PIp (X : Cx) (op : Operator) (t : TIp) : Prop :=
  ∀ (pins : List (Addr × Obj)) (s : Shared) (σ : St) (H : Hp) (x y : V) (v u : Value) (Q : VK), Inv X pins σ H s → RelV x v → RelV y u → t x y H Q →
    wpAny (model X.prog X.w) X.A (inplaceOp op v u) (EP X pins σ Q) X.xe s
section
variable {X : Cx} {pos : Pos}
def gName (i : Nat) : TG := fun v σ H Q => Q (σ.set i (some v)) H
theorem pg_name {i : Nat} {x : Str} (hN : X.N.Nodup) (hi : X.N[i]? = some x) (hx : Loc X.env.scope x) (hf : X.fn x = true ∨ X.env.scope.names.lookup x = some .local := by first | exact .inl rfl | exact .inr rfl | assumption) : PG X (.Name x pos) (gName i) := by
  intro pins s σ H v u Q I r h
  exact wpAny_assign_Name (store_ok I hN hi hx r (fun s' I' => ⟨_, H, I', h⟩) hf)
def gNil : TGs := fun vs σ H Q => vs = [] ∧ Q σ H
def gCons (t : TG) (u : TGs) : TGs := fun vs σ H Q => ∃ v r, vs = v :: r ∧ t v σ H fun σ' H' => u r σ' H' Q
theorem pgs_nil : PGs X [] gNil := by
  intro pins s σ H vs us Q I r h
  obtain ⟨e, h⟩ := h
  subst e
  cases r
  exact assignInOrder_nil ⟨σ, H, I, h⟩
theorem pgs_cons {e : Expr} {es : List Expr} {t : TG} {u : TGs} (h1 : PG X e t) (h2 : PGs X es u)
    (hs : (assignEach (e :: es) X.env).map (·.2) = assign e X.env :: (assignEach es X.env).map (·.2) := by rfl) : PGs X (e :: es) (gCons t u) := by
  intro pins s σ H vs us Q I r h
  obtain ⟨v, vr, e1, h⟩ := h
  subst e1
  cases r with
  | cons r rr =>
    rw [hs]
    refine assignInOrder_cons (thn (h1 pins s σ H _ _ _ I r h) fun _ s1 ⟨σ1, H1, I1, q1⟩ => ?_)
    exact h2 pins s1 σ1 H1 _ _ Q I1 rr q1
/-- (a, b, ..) = a tuple of that length -/
def gTup (K : PySem.W.Frag) (n : Nat) (t : TGs) : TG := fun v σ H Q => ∃ a xs, v = .ref a ∧ SqT K H a xs ∧ xs.length = n ∧ t xs σ H Q
theorem pg_tup {es : List Expr} {k : Nat} {t : TGs} {n : Nat} (hc : X.calm = true) (h : PGs X es t)
    (hn : (assignEach es X.env).length = n := by rfl) (hst : (assignEach es X.env).findIdx? (·.1) = none := by rfl) : PG X (.Tuple es k pos) (gTup X.K n t) := by
  intro pins s σ H v u Q I r hw
  obtain ⟨a, xs, e1, hq, hl, hw⟩ := hw
  subst e1
  cases r
  obtain ⟨its, rv, ht, hz⟩ := I.tuple hq
  refine assign_Tuple_tuple (I.ok.hd hc) ht (by simp [hn, ← hl, rv.length]) hst fun h' hx => ?_
  have I1 : Inv X pins σ H { s with heap := h' } := I.kept (t' := s.toks) fun b o e => hx b o (Nat.ne_of_lt (Heap.lt_size e)) e
  exact h pins _ σ H xs _ Q I1 (by simpa using rv) hw
/-- o[i] = .. -/
def gSub (to ti : TE) (t : TSet) : TG := fun v σ H Q => to σ H fun o H1 => ti σ H1 fun i H2 => t o i v H2 fun H3 => Q σ H3
theorem pg_sub {o i : Expr} {to ti : TE} {t : TSet} (ho : PE X o to) (hi : PE X i ti) (hs : PSet X t)
    (ha : ∀ v, assign (.Subscript o i pos) X.env v = (do
      let ov ← holding [v] (eval o X.env)
      let iv ← holding [v, ov] (eval i X.env)
      standAt pos
      holding [v, ov, iv] (setItem ov iv v)
      release [v, ov, iv] []) := by intro _; rfl) : PG X (.Subscript o i pos) (gSub to ti t) := by
  intro pins s σ H v u Q I r h
  rw [ha]
  refine wpAny_bind (wpAny_holding (thn (ho pins s σ H _ I h) fun ov s1 ⟨x, H1, I1, r1, q1⟩ => ?_))
  refine wpAny_bind (wpAny_holding (thn (hi pins s1 σ H1 _ I1 q1) fun iv s2 ⟨y, H2, I2, r2, q2⟩ => ?_))
  refine wpAny_bind (wpAny_standAt (wpAny_bind (wpAny_holding (thn (hs pins s2 σ H2 x y v ov iv u _ I2 r1 r2 r q2) fun _ s3 ⟨H3, I3, q3⟩ => ?_))))
  exact wpAny_release ⟨σ, H3, I3, q3⟩
/-- target = value -/
def tAsg (te : TE) (g : TG) : TS := fun D σ H => te σ H fun x H1 => g x σ H1 D.nx
theorem ps_asg {tg e : Expr} {te : TE} {g : TG} (he : PE X e te) (hg : PG X tg g) (hs : swapsWithSole [tg] e pos.line X.env = pure false := by rfl) (hw : swappedStores [tg] e X.env = pure none := by rfl)
    (h1 : (assignEach [tg] X.env).map (·.2) = [assign tg X.env] := by rfl) : PS X (.Assign [tg] e pos) (tAsg te g) := by
  intro pins s σ H D I h
  refine wpAny_Assign_stores (thn (he pins s σ H _ I h) fun v s1 ⟨x, H1, I1, r1, q1⟩ => ?_) hs hw
  rw [h1]
  exact thn (hg pins s1 σ H1 x v _ I1 r1 q1) fun _ s2 q => q
/-- name = value -/
theorem ps_set {i : Nat} {x : Str} {e : Expr} {te : TE} {pos' : Pos} (hN : X.N.Nodup) (hi : X.N[i]? = some x) (hx : Loc X.env.scope x) (he : PE X e te) (hs : swapsWith e (some (.Name x pos')) pos.line X.env = pure false := by rfl) (hf : X.fn x = true ∨ X.env.scope.names.lookup x = some .local := by first | exact .inl rfl | exact .inr rfl | assumption) :
    PS X (.Assign [.Name x pos'] e pos) (tAsg te (gName i)) := by
  intro pins s σ H D I h
  refine wpAny_Assign_Name (thn (he pins s σ H _ I h) fun v s1 ⟨y, H1, I1, r1, q1⟩ => ?_) hs
  exact store_ok I1 hN hi hx r1 (fun s2 I2 => ⟨_, H1, I2, q1⟩) hf
/-- name op= e -/
def tAug (i : Nat) (te : TE) (ti : TIp) : TS := fun D σ H => ∃ x, σ[i]? = some (some x) ∧ te σ H fun y H1 => ti x y H1 fun z H2 => D.nx (σ.set i (some z)) H2
theorem ps_aug {i : Nat} {x : Str} {e : Expr} {te : TE} {op : Operator} {ti : TIp} {pos' : Pos} (hN : X.N.Nodup) (hi : X.N[i]? = some x) (hx : Loc X.env.scope x) (he : PE X e te) (ho : PIp X op ti) (hf : X.fn x = true ∨ X.env.scope.names.lookup x = some .local := by first | exact .inl rfl | exact .inr rfl | assumption) :
    PS X (.AugAssign (.Name x pos') op e pos) (tAug i te ti) := by
  intro pins s σ H D I h
  obtain ⟨v, e1, h⟩ := h
  obtain ⟨m, hn, hl⟩ := I.loc
  have vis : Vis X.env.scope x := by rcases hx with k | k; exact .inl k; exact .inr (.inl k)
  obtain ⟨u, r, l⟩ := hl i x v hi e1 vis
  refine wpAny_AugAssign_Name ?_
  have go : wpAny (model X.prog X.w) X.A (eval e X.env) (fun w s₂ => wpAny (model X.prog X.w) X.A (inplaceOp op u w) (fun r s₃ => wpAny (model X.prog X.w) X.A (storeName X.env x r) (fun _ => SP X pins D .next) X.xe s₃) X.xe s₂) X.xe s := by
    refine thn (he pins s σ H _ I h) fun w s1 ⟨y, H1, I1, r1, q1⟩ => ?_
    refine thn (ho pins s1 σ H1 v y u w _ I1 r r1 q1) fun z s2 ⟨zv, H2, I2, r2, q2⟩ => ?_
    exact store_ok I2 hN hi hx r2 (fun s3 I3 => ⟨_, H2, I3, q2⟩) hf
  rcases l with ⟨hk, hm⟩ | ⟨hk, c, hc, hcell⟩
  · exact wpAny_loadName_local I.ok.kind hk hn hm go
  · rcases hk with hk | hk
    · exact wpAny_loadName_cell I.ok.kind hk hc hcell go
    · rcases hx with k | k
      · have : X.env.scope.names.lookup x = some .free := hk
        rw [k] at this; cases this
      · have : X.env.scope.names.lookup x = some .free := hk
        rw [k] at this; cases this
/-- ints -/
def ipI (f : Int → Int → Int) : TIp := fun x y H Q => ∃ i j, x = .int i ∧ y = .int j ∧ Q (.int (f i j)) H
theorem ip_add : PIp X .Add (ipI fun i j => i + j) := by
  intro pins s σ H x y v u Q I r1 r2 h
  obtain ⟨i, j, e1, e2, q⟩ := h
  subst e1; subst e2
  obtain ⟨t, rfl⟩ := r1
  obtain ⟨t', rfl⟩ := r2
  exact iadd_int ⟨.int _, H, I.tok _, ⟨_, rfl⟩, q⟩
end

/-! ### while -/
section
variable {X : Cx} {pos : Pos}
/-- the invariant W with its measure -/
def tWhile (c : TT) (tb : TS) : TS := fun D σ H => ∃ W : Nat → St → Hp → Prop, (∃ m, W m σ H) ∧ ∀ m σ H, W m σ H →
  c σ H fun b H1 => if b = true then ∃ N : St → Hp → Prop, (∀ σ' H', N σ' H' → ∃ m', m' < m ∧ W m' σ' H') ∧ tb { D with nx := N, ct := N, bk := D.nx } σ H1 else D.nx σ H1
theorem ps_while {c : Expr} {body : List Stmt} {tc : TT} {tb : TS} (hp : PassesOwn (model X.prog X.w) X.A X.env X.xe) (hc : PT X c tc) (hb : PSs X body tb) : PS X (.While c body [] pos) (tWhile tc tb) := by
  intro pins s σ H D I h
  obtain ⟨W, ⟨m0, w0⟩, turn⟩ := h
  refine wpAny_While (codeAny_whileLoop (fun n s' => ∃ σ' H', Inv X pins σ' H' s' ∧ W n σ' H') ?_ m0 ⟨σ, H, I, w0⟩)
  rintro n s1 ⟨σ1, H1, I1, w1⟩
  refine wpAny_passesOwn hp (thn (hc pins s1 σ1 H1 _ I1 (turn n σ1 H1 w1)) fun b s2 ⟨H2, I2, q2⟩ => ?_)
  cases b with
  | true =>
    obtain ⟨N, hN, q2⟩ := q2
    rw [if_pos rfl]
    refine wpAny_passesOwn hp (thn (hb pins s2 σ1 H2 _ I2 q2) fun f s3 q3 => ?_)
    cases f with
    | next =>
      obtain ⟨σ3, H3, I3, n3⟩ := q3
      obtain ⟨m', hm, w3⟩ := hN σ3 H3 n3
      exact ⟨m', hm, σ3, H3, I3, w3⟩
    | cont =>
      obtain ⟨σ3, H3, I3, n3⟩ := q3
      obtain ⟨m', hm, w3⟩ := hN σ3 H3 n3
      exact ⟨m', hm, σ3, H3, I3, w3⟩
    | brk => exact q3
    | ret v => exact q3
  | false =>
    rw [if_neg Bool.false_ne_true]
    exact wpAny_execs_nil ⟨σ1, H2, I2, q2⟩
end

/-! ### what a loop or a comprehension walks -/
/-- at turn i: it yields x (the heap may grow), or it stops -/
structure It where
  go : Nat → Hp → Prop
  yld : Nat → Hp → V → Hp → Prop
  stop : Nat → Hp → Prop
/-- the iterator's own objects may turn: they are not the frame's, not pinned, younger than the entry (or a comprehension's own) -/
def FpOk (X : Cx) (pins : List (Addr × Obj)) (H : Hp) (b : Addr) : Prop :=
  H b = none ∧ b ≠ X.env.locals ∧ b ∉ X.fs ∧ (b ∈ X.ex ∨ X.s₀.heap.objs.size ≤ b) ∧ (∀ x c, X.env.cells.lookup x = some c → c ≠ b) ∧ ∀ p ∈ X.pn ++ pins, p.1 ≠ b
theorem Inv.fpOk {X : Cx} {pins : List (Addr × Obj)} {σ : St} {H H' : Hp} {s : Shared} {b : Addr} (I : Inv X pins σ H s) (hb : s.heap.objs.size ≤ b) (hn : H' b = none) : FpOk X pins H' b := by
  refine ⟨hn, Nat.ne_of_gt (Nat.lt_of_lt_of_le I.lt hb), I.nofs hb, .inr (Nat.le_trans I.sz hb), fun x c e z => ?_, fun p hp z => ?_⟩
  · obtain ⟨v, q⟩ := I.cell x c e
    exact absurd (Nat.lt_of_lt_of_le q.lt (by rw [z]; exact hb)) (Nat.lt_irrefl _)
  · exact absurd (Nat.lt_of_lt_of_le (Heap.lt_size (I.pin p hp).1) (by rw [z]; exact hb)) (Nat.lt_irrefl _)
structure Turn (P : Program) (w : World) (K : PySem.W.Frag) (tg : Expr) (J : It) (fp : List Addr) (it : Addr) (tn : Nat → Heap → Prop) : Prop where
  mem : it ∈ fp
  obj : ∀ i h, tn i h → ∀ b ∈ fp, ∃ o, h.get? b = some o ∧ ∀ v, o.data ≠ .cell v
  keep : ∀ i h h', tn i h → (∀ b ∈ fp, ∀ o, h.get? b = some o → h'.get? b = some o) → tn i h'
  item : ∀ (X : Cx), X.prog = P → X.w = w → X.K = K → X.calm = true → ∀ (i : Nat) (pins : List (Addr × Obj)) (s : Shared) (σ : St) (H : Hp) (E : Value → Shared → Prop), Inv X pins σ H s → (∀ b ∈ fp, FpOk X pins H b) → tn i s.heap → J.go i H →
    wpAny (model P w) X.A (pyNext (.ref it)) (fun r s1 => ∃ u, r = some u ∧
      wpAny (model P w) X.A (letOwnedTupleGo tg (.ref it) u) (fun _ s2 => ∃ x H', Inv X pins σ H' s2 ∧ RelV x u ∧ J.yld i H x H' ∧ tn (i + 1) s2.heap ∧ ∀ b ∈ fp, H' b = none) E s1) E s
  done : ∀ (X : Cx), X.prog = P → X.w = w → X.K = K → X.calm = true → ∀ (i : Nat) (pins : List (Addr × Obj)) (s : Shared) (σ : St) (H : Hp) (E : Value → Shared → Prop), Inv X pins σ H s → (∀ b ∈ fp, FpOk X pins H b) → tn i s.heap → J.stop i H →
    wpAny (model P w) X.A (pyNext (.ref it)) (fun r s1 => r = none ∧ Inv X pins σ H s1) E s
  self : ∀ (A : Around) (i : Nat) (s : Shared) (Q : Value → Shared → Prop) (E : Value → Shared → Prop), tn i s.heap → Q (.ref it) s → wpAny (model P w) A (pyIter (.ref it)) Q E s
abbrev TI := St → Hp → (It → Hp → Prop) → Prop
/-- an iterator has come -/
def PIE (X : Cx) (pins : List (Addr × Obj)) (σ : St) (tg : Expr) (R : It → Hp → Prop) (itv : Value) (s2 : Shared) : Prop :=
  ∃ (it : Addr) (fp : List Addr) (tn : Nat → Heap → Prop) (J : It) (H' : Hp), itv = .ref it ∧ Inv X pins σ H' s2 ∧ Turn X.prog X.w X.K tg J fp it tn ∧ tn 0 s2.heap ∧ (∀ b ∈ fp, FpOk X pins H' b) ∧ R J H'
def PI (X : Cx) (tg iter : Expr) (wi : TI) : Prop :=
  ∀ (pins : List (Addr × Obj)) (s : Shared) (σ : St) (H : Hp) (R : It → Hp → Prop), Inv X pins σ H s → wi σ H R →
    wpAny (model X.prog X.w) X.A (eval iter X.env) (fun v s1 => wpAny (model X.prog X.w) X.A (pyIter v) (PIE X pins σ tg R) X.xe s1) X.xe s

/-- the step ahead of the store is nothing for an iterator that keeps no tuple -/
theorem go_of {M : Model} {A : Around} {E : Value → Shared → Prop} {s : Shared} {tg : Expr} {it : Addr} {u : Value} {o : Obj} {n : String} {vs : Array Value} {Q : Unit → Shared → Prop} (ho : s.heap.get? it = some o) (hc : o.cls = .type n) (hd : o.data = .fields vs)
    (hn : ["enumerate", "zip", "dict_itemiterator", "dict_reverseitemiterator", "odict_iterator", "itertools.zip_longest", "itertools.pairwise"].contains n = false) (hQ : Q () s) : wpAny M A (letOwnedTupleGo tg (.ref it) u) Q E s := by
  unfold letOwnedTupleGo
  cases tg <;> first
    | exact wpAny_pure hQ
    | (cases u <;> first
        | exact wpAny_pure hQ
        | (refine wpAny_bind (wpAny_load ho ?_)
           rw [hc, hd]
           show wpAny M A (if (["enumerate", "zip", "dict_itemiterator", "dict_reverseitemiterator", "odict_iterator", "itertools.zip_longest", "itertools.pairwise"].contains n && vs[0]? == some (rawInt _)) = true then _ else _) Q E s
           rw [if_neg (by intro h; rw [hn, Bool.false_and] at h; cases h)]
           exact wpAny_pure hQ))

/-- the list at a, as it stands at each turn (a loop may append to it) -/
def Itl (K : PySem.W.Frag) (a : Addr) : It :=
  ⟨fun i H => ∃ xs x, SqL K H a xs ∧ xs[i]? = some x, fun i H x H' => H' = H ∧ ∀ xs, SqL K H a xs → xs[i]? = some x, fun i H => ∃ xs, SqL K H a xs ∧ xs.length ≤ i⟩
/-- lo, lo + 1, .. (n of them) -/
def Itr (lo : Int) (n : Nat) : It := ⟨fun i _ => i < n, fun i H x H' => H' = H ∧ x = .int (lo + i), fun i _ => n ≤ i⟩
theorem turn_list {P : Program} {w : World} {K : PySem.W.Frag} {tg : Expr} (a it : Addr) : Turn P w K tg (Itl K a) [it] it (fun i h => h.IsListIter it a i) where
  mem := by simp
  obj := fun i h st b hb => by
    have e : b = it := by simpa using hb
    subst e
    obtain ⟨o, e, c, d⟩ := st
    exact ⟨o, e, fun v z => by rw [d] at z; cases z⟩
  keep := fun i h h' st k => st.at fun o e => k it (by simp) o e
  item := by
    intro X hP hw hK hc i pins s σ H E I hf st hg
    subst hP hw hK
    obtain ⟨xs, x, hq, hx⟩ := hg
    obtain ⟨its, rv, p, hz⟩ := I.list hq
    obtain ⟨u, hu, ru⟩ := rv.get hx
    obtain ⟨f0, f1, f2, f3, f4, f5⟩ := hf it (by simp)
    refine wpAny_pyNext_list_item st p.isList (x := u) (by simpa using hu) fun h' st' sb => ?_
    have I1 : Inv X pins σ H { s with heap := h' } := I.turned (t' := s.toks) (fun b o hb e => (sb.2 b hb).trans e) f0 f1 f3 f4 f5
    obtain ⟨o, e, c, d⟩ := id st'
    exact ⟨u, rfl, go_of (s := { s with heap := h' }) e c d (by decide) ⟨x, H, I1, ru, ⟨rfl, fun ys hy => by rw [I.list_inj hy hq]; exact hx⟩, st', fun b hb => (hf b hb).1⟩⟩
  done := by
    intro X hP hw hK hc i pins s σ H E I hf st hg
    subst hP hw hK
    obtain ⟨xs, hq, hx⟩ := hg
    obtain ⟨its, rv, p, hz⟩ := I.list hq
    obtain ⟨f0, f1, f2, f3, f4, f5⟩ := hf it (by simp)
    have hl := rv.length
    exact wpAny_pyNext_list_end (I.ok.hd hc) st p.isList (by simp; omega) fun h' eb => ⟨rfl, I.turned (t' := s.toks) (fun b o hb e => eb b o hb e) f0 f1 f3 f4 f5⟩
  self := fun _ _ _ _ _ st h => wpAny_pyIter_listiter st h
theorem turn_range {P : Program} {w : World} {K : PySem.W.Frag} {tg : Expr} (it : Addr) (lo : Int) (n : Nat) : Turn P w K tg (Itr lo n) [it] it (fun i h => IsRangeIter h it (lo + (i : Nat) * 1) ((n : Int) - (i : Nat)) 1) where
  mem := by simp
  obj := fun i h st b hb => by
    have e : b = it := by simpa using hb
    subst e
    exact ⟨_, st, fun v z => by
      have z' : Data.fields _ = Data.cell v := z
      cases z'⟩
  keep := fun i h h' st k => k it (by simp) _ st
  item := by
    intro X hP hw hK hc i pins s σ H E I hf st hg
    subst hP hw hK
    obtain ⟨f0, f1, f2, f3, f4, f5⟩ := hf it (by simp)
    have W := Walks.range (prog := X.prog) (w := X.w) (I.ok.hd hc) it lo 1 n
    refine W.item i s _ _ hg st fun v h' tk hv st' kk => ?_
    obtain ⟨t, rfl⟩ := hv
    have I1 : Inv X pins σ H { s with heap := h', toks := tk } := I.turned (fun b o hb e => kk b o (by simpa using hb) e) f0 f1 f3 f4 f5
    refine ⟨_, rfl, go_of (s := { s with heap := h', toks := tk }) (n := "range_iterator") st' rfl rfl (by decide) ⟨.int (lo + i), H, I1, ⟨t, ?_⟩, ⟨rfl, rfl⟩, st', fun b hb => (hf b hb).1⟩⟩
    rw [Int.mul_one]
  done := by
    intro X hP hw hK hc i pins s σ H E I hf st hg
    subst hP hw hK
    obtain ⟨f0, f1, f2, f3, f4, f5⟩ := hf it (by simp)
    exact wpAny_pyNext_range_end (I.ok.hd hc) st (by have : n ≤ i := hg; omega) fun h' eb => ⟨rfl, I.turned (t' := s.toks) (fun b o hb e => eb b o hb e) f0 f1 f3 f4 f5⟩
  self := fun _ _ _ _ _ st h => wpAny_pyIter_rangeiter st h
end L2

namespace L2
open PySem PySem.Spec PyProof.Rows
section
variable {X : Cx} {tg : Expr}
def iList (K : PySem.W.Frag) (tl : TE) : TI := fun σ H R => tl σ H fun x H1 => ∃ a, x = .ref a ∧ (∃ xs, SqL K H1 a xs) ∧ R (Itl K a) H1
theorem pi_list {l : Expr} {tl : TE} (hl : PE X l tl) : PI X tg l (iList X.K tl) := by
  intro pins s σ H R I h
  refine thn (hl pins s σ H _ I h) fun v s1 ⟨x, H1, I1, r1, q1⟩ => ?_
  obtain ⟨a, e, ⟨xs, hq⟩, q⟩ := q1
  subst e
  cases r1
  obtain ⟨its, rv, p, hz⟩ := I1.list hq
  refine wpAny_pyIter_list p.isList ?_
  refine ⟨s1.heap.objs.size, [s1.heap.objs.size], _, _, H1, rfl, I1.kept (t' := s1.toks) fun b o e => Heap.get?_push_of_some _ e, turn_list a _, ⟨_, Heap.get?_push_size _ rfl, rfl, rfl⟩, fun b hb => ?_, q⟩
  have e : b = s1.heap.objs.size := by simpa using hb
  subst e
  exact I1.fpOk (Nat.le_refl _) (I1.hok.fresh (Nat.le_refl _))
/-- a range object just made, walked -/
theorem range_it {pins : List (Addr × Obj)} {σ : St} {H : Hp} {s : Shared} {R : It → Hp → Prop} {E : Value → Shared → Prop} {lo hi : Int} {t u v : Tok} {tk : Nat} (I : Inv X pins σ H s) (h1 : -(2 ^ 62) ≤ lo) (h2 : lo < 2 ^ 62) (h3 : -(2 ^ 62) ≤ hi) (h4 : hi < 2 ^ 62)
    (q : R (Itr lo (hi - lo).toNat) H) : wpAny (model X.prog X.w) X.A (pyIter (.ref s.heap.objs.size)) (PIE X pins σ tg R) E { s with heap := s.heap.push { cls := .type "range", data := .fields #[.int lo t, .int hi u, .int 1 v] }, toks := tk } := by
  refine wpAny_pyIter_range (IsRange.new ..) (small_one h1 h2 h3 h4) ?_
  have I1 : Inv X pins σ H { s with heap := s.heap.push { cls := .type "range", data := .fields #[.int lo t, .int hi u, .int 1 v] }, toks := tk } := I.kept fun b o e => Heap.get?_push_of_some _ e
  refine ⟨(s.heap.push { cls := .type "range", data := .fields #[.int lo t, .int hi u, .int 1 v] }).objs.size, [(s.heap.push { cls := .type "range", data := .fields #[.int lo t, .int hi u, .int 1 v] }).objs.size], _, _, H, rfl,
    I1.kept (t' := tk) fun b o e => Heap.get?_push_of_some _ e, turn_range _ lo (hi - lo).toNat, ?_, fun b hb => ?_, q⟩
  · have e1 : lo + ((0 : Nat) : Int) * 1 = lo := by simp
    have e2 : (((hi - lo).toNat : Nat) : Int) - ((0 : Nat) : Int) = Builtin.Range.rangeSize lo hi 1 := by rw [rangeSize_one]; split <;> omega
    show IsRangeIter _ _ (lo + ((0 : Nat) : Int) * 1) ((((hi - lo).toNat : Nat) : Int) - ((0 : Nat) : Int)) 1
    rw [e1, e2]
    exact Heap.get?_push_size _ rfl
  · have e : b = (s.heap.push { cls := .type "range", data := .fields #[.int lo t, .int hi u, .int 1 v] }).objs.size := by simpa using hb
    subst e
    exact I1.fpOk (Nat.le_refl _) (I1.hok.fresh (Nat.le_refl _))
def iRng1 (ta : TA) : TI := fun σ H R => ta σ H fun vs H1 => ∃ j : Int, vs = [.int j] ∧ -(2 ^ 62) ≤ j ∧ j < 2 ^ 62 ∧ R (Itr 0 j.toNat) H1
theorem pi_range1 {a : Expr} {ta : TA} {p pos : Pos} (hg : Gl X "range") (hm : X.mg "range" = none) (ha : PA X [a] ta) (hs : starEach [a] X.env = [(false, eval a X.env)] := by rfl) : PI X tg (.Call (.Name "range" p) [a] [] pos) (iRng1 ta) := by
  intro pins s σ H R I h
  refine Call_ (ld_blt I hg hm boot_range (PyProof.Rows.callWith_type1 (thn (ha pos pins s σ H _ I h) fun us s1 ⟨vs, H1, I1, r1, q1⟩ => ?_) hs rfl))
  obtain ⟨j, e, q1, q2, q⟩ := q1
  subst e
  cases r1 with
  | cons r rr =>
    cases rr
    obtain ⟨t, rfl⟩ := r
    exact call_range_1 (range_it I1 (by omega) (by omega) q1 q2 (by simpa using q))
/-! ### for -/
/-- W: the invariant by the turn and a measure; N: what the body is to reach -/
def tFor (wi : TI) (g : TG) (tb : TS) : TS := fun D σ H => wi σ H fun J H1 => ∃ W : Nat → Nat → St → Hp → Prop, (∃ m, W 0 m σ H1) ∧ ∀ i m σ H, W i m σ H →
  (J.stop i H ∧ D.nx σ H) ∨ (J.go i H ∧ ∃ N : St → Hp → Prop, (∀ σ' H', N σ' H' → ∃ m', m' < m ∧ W (i + 1) m' σ' H') ∧ ∀ x H', J.yld i H x H' → g x σ H' fun σ2 H2 => tb { D with nx := N, ct := N, bk := D.nx } σ2 H2)
/-- the records at fp as they stand -/
def pinsAt (fp : List Addr) (h : Heap) : List (Addr × Obj) := fp.filterMap fun b => (h.get? b).map fun o => (b, o)
theorem mem_pinsAt {fp : List Addr} {h : Heap} {b : Addr} {o : Obj} (hb : b ∈ fp) (e : h.get? b = some o) : (b, o) ∈ pinsAt fp h := List.mem_filterMap.mpr ⟨b, hb, by rw [e]; rfl⟩
theorem of_pinsAt {fp : List Addr} {h : Heap} {p : Addr × Obj} (hp : p ∈ pinsAt fp h) : p.1 ∈ fp ∧ h.get? p.1 = some p.2 := by
  obtain ⟨b, hb, e⟩ := List.mem_filterMap.mp hp
  cases q : h.get? b with
  | none => rw [q] at e; cases e
  | some o =>
    rw [q] at e
    have e' : (b, o) = p := Option.some.inj e
    subst e'
    exact ⟨hb, q⟩
theorem Inv.pinned {pins : List (Addr × Obj)} {σ : St} {H : Hp} {s : Shared} {fp : List Addr} (I : Inv X pins σ H s) (hf : ∀ b ∈ fp, FpOk X pins H b) (ho : ∀ b ∈ fp, ∃ o, s.heap.get? b = some o ∧ ∀ v, o.data ≠ .cell v) : Inv X (pins ++ pinsAt fp s.heap) σ H s :=
  I.pins_of fun p hp => (List.mem_append.mp hp).elim (fun z => I.pin p (List.mem_append_right _ z)) fun z => by
    obtain ⟨hb, e⟩ := of_pinsAt z
    obtain ⟨f0, f1, f2, _⟩ := hf p.1 hb
    obtain ⟨o, e', d⟩ := ho p.1 hb
    rw [e] at e'; cases e'
    exact ⟨e, f0, f1, f2, d⟩
theorem Inv.unpinned {pins pl : List (Addr × Obj)} {σ : St} {H : Hp} {s : Shared} (I : Inv X (pins ++ pl) σ H s) : Inv X pins σ H s := I.pins_of fun p hp => I.pin p (List.mem_append_right _ (List.mem_append_left _ hp))
theorem ps_for {iter : Expr} {body : List Stmt} {wi : TI} {g : TG} {tb : TS} {pos : Pos} (hp : PassesOwn (model X.prog X.w) X.A X.env X.xe) (hc : X.calm = true) (hi : PI X tg iter wi) (hg : PG X tg g) (hb : PSs X body tb)
    (hs : ∀ x, foldedSetIterable iter X.env x = pure x := by intro _; rfl) : PS X (.For tg iter body [] pos) (tFor wi g tb) := by
  intro pins s σ H D I h
  refine wpAny_For (thn (hi pins s σ H _ I h) fun v s1 h1 => thn h1 fun itv s2 h2 => ?_) hs
  obtain ⟨it, fp, tn, J, H2, e, I2, T, st2, f2, W, ⟨m0, w0⟩, turn⟩ := h2
  subst e
  -- what stays true of the iterator's objects through the loop
  have stat : ∀ {H' : Hp}, (∀ b ∈ fp, H' b = none) → ∀ b ∈ fp, FpOk X pins H' b := fun hn b hb => ⟨hn b hb, (f2 b hb).2⟩
  refine codeAny_forLoop_any (fun n s' => ∃ i σ' H', Inv X pins σ' H' s' ∧ tn i s'.heap ∧ (∀ b ∈ fp, H' b = none) ∧ W i n σ' H') ?_ m0 ⟨0, σ, H2, I2, st2, fun b hb => (f2 b hb).1, w0⟩
  rintro n s3 ⟨i, σ3, H3, I3, st3, fr3, w3⟩
  rcases turn i n σ3 H3 w3 with ⟨stop, qn⟩ | ⟨go, N, hN, step⟩
  · refine wpAny_passesOwn hp (thn (T.done X rfl rfl rfl hc i pins s3 σ3 H3 X.xe I3 (stat fr3) st3 stop) fun r s4 ⟨hr, I4⟩ => ?_)
    subst hr
    exact wpAny_execs_nil ⟨σ3, H3, I4, qn⟩
  · refine wpAny_passesOwn hp (thn (T.item X rfl rfl rfl hc i pins s3 σ3 H3 X.xe I3 (stat fr3) st3 go) fun r s4 ⟨u, hr, h4⟩ => ?_)
    subst hr
    refine wpAny_passesOwn hp (thn h4 fun _ s5 ⟨x, H5, I5, r5, y5, st5, fr5⟩ => ?_)
    have I5' := I5.pinned (stat fr5) (T.obj _ _ st5)
    refine wpAny_passesOwn hp (thn (hg _ s5 σ3 H5 x u _ I5' r5 (step x H5 y5)) fun _ s6 ⟨σ6, H6, I6, q6⟩ => ?_)
    refine wpAny_passesOwn hp (thn (hb _ s6 σ6 H6 _ I6 q6) fun f s7 q7 => ?_)
    have again : ∀ {σ7 : St} {H7 : Hp}, Inv X (pins ++ pinsAt fp s5.heap) σ7 H7 s7 → N σ7 H7 → ∃ m, m < n ∧ ∃ i σ' H', Inv X pins σ' H' s7 ∧ tn i s7.heap ∧ (∀ b ∈ fp, H' b = none) ∧ W i m σ' H' := fun {σ7 H7} I7 n7 => by
      obtain ⟨m', hm, w7⟩ := hN σ7 H7 n7
      refine ⟨m', hm, i + 1, σ7, H7, I7.unpinned, T.keep _ _ _ st5 fun b hb o e => (I7.pin (b, o) (List.mem_append_right _ (List.mem_append_right _ (mem_pinsAt hb e)))).1, fun b hb => ?_, w7⟩
      obtain ⟨o, e, d⟩ := T.obj _ _ st5 b hb
      exact (I7.pin (b, o) (List.mem_append_right _ (List.mem_append_right _ (mem_pinsAt hb e)))).2.1
    cases f with
    | next => obtain ⟨σ7, H7, I7, n7⟩ := q7; exact again I7 n7
    | cont => obtain ⟨σ7, H7, I7, n7⟩ := q7; exact again I7 n7
    | brk => obtain ⟨σ7, H7, I7, q7⟩ := q7; exact ⟨σ7, H7, I7.unpinned, q7⟩
    | ret v => obtain ⟨x7, σ7, H7, I7, r7, q7⟩ := q7; exact ⟨x7, σ7, H7, I7.unpinned, r7, q7⟩
end

/-! ### the forms one uses -/
/-- over a list that the body leaves as it is -/
theorem for_list {K : PySem.W.Frag} {a : Addr} {xs : List V} {g : TG} {tb : TS} {D : Ends} {σ : St} {H : Hp} (Pv : Nat → St → Hp → Prop) (h0 : Pv 0 σ H) (hl : ∀ i σ H, i ≤ xs.length → Pv i σ H → SqL K H a xs)
    (hs : ∀ i x σ H, xs[i]? = some x → Pv i σ H → g x σ H fun σ2 H2 => tb { D with nx := Pv (i + 1), ct := Pv (i + 1), bk := D.nx } σ2 H2) (hd : ∀ σ H, Pv xs.length σ H → D.nx σ H) :
    ∃ W : Nat → Nat → St → Hp → Prop, (∃ m, W 0 m σ H) ∧ ∀ i m σ H, W i m σ H →
      ((Itl K a).stop i H ∧ D.nx σ H) ∨ ((Itl K a).go i H ∧ ∃ N : St → Hp → Prop, (∀ σ' H', N σ' H' → ∃ m', m' < m ∧ W (i + 1) m' σ' H') ∧ ∀ x H', (Itl K a).yld i H x H' → g x σ H' fun σ2 H2 => tb { D with nx := N, ct := N, bk := D.nx } σ2 H2) := by
  refine ⟨fun i m σ H => m = xs.length - i ∧ i ≤ xs.length ∧ Pv i σ H, ⟨xs.length, by simp, Nat.zero_le _, h0⟩, ?_⟩
  rintro i m σ H ⟨rfl, hi, p⟩
  have q := hl i σ H hi p
  by_cases hlt : i < xs.length
  · refine .inr ⟨⟨xs, xs[i], q, by simp [hlt]⟩, Pv (i + 1), fun σ' H' p' => ⟨xs.length - (i + 1), by omega, rfl, hlt, p'⟩, fun x H' y => ?_⟩
    obtain ⟨e, y⟩ := y
    subst e
    exact hs i x σ _ (y xs q) p
  · have e : i = xs.length := by omega
    subst e
    exact .inl ⟨⟨xs, q, Nat.le_refl _⟩, hd σ H p⟩
theorem for_range {lo : Int} {n : Nat} {g : TG} {tb : TS} {D : Ends} {σ : St} {H : Hp} (Pv : Nat → St → Hp → Prop) (h0 : Pv 0 σ H)
    (hs : ∀ i σ H, i < n → Pv i σ H → g (.int (lo + i)) σ H fun σ2 H2 => tb { D with nx := Pv (i + 1), ct := Pv (i + 1), bk := D.nx } σ2 H2) (hd : ∀ σ H, Pv n σ H → D.nx σ H) :
    ∃ W : Nat → Nat → St → Hp → Prop, (∃ m, W 0 m σ H) ∧ ∀ i m σ H, W i m σ H →
      ((Itr lo n).stop i H ∧ D.nx σ H) ∨ ((Itr lo n).go i H ∧ ∃ N : St → Hp → Prop, (∀ σ' H', N σ' H' → ∃ m', m' < m ∧ W (i + 1) m' σ' H') ∧ ∀ x H', (Itr lo n).yld i H x H' → g x σ H' fun σ2 H2 => tb { D with nx := N, ct := N, bk := D.nx } σ2 H2) := by
  refine ⟨fun i m σ H => m = n - i ∧ i ≤ n ∧ Pv i σ H, ⟨n, by simp, Nat.zero_le _, h0⟩, ?_⟩
  rintro i m σ H ⟨rfl, hi, p⟩
  by_cases hlt : i < n
  · refine .inr ⟨hlt, Pv (i + 1), fun σ' H' p' => ⟨n - (i + 1), by omega, rfl, hlt, p'⟩, fun x H' y => ?_⟩
    obtain ⟨e, y⟩ := y
    subst e y
    exact hs i σ _ hlt p
  · have e : i = n := by omega
    subst e
    exact .inl ⟨Nat.le_refl _, hd σ H p⟩
end L2

namespace L2
open PySem PySem.Spec PyProof.Rows

abbrev R2 := V → V → Hp → VK → Prop
/-- a two-place operation on values: f is binaryOp op, inplaceOp op or compareOp op -/
def OpR (X : Cx) (f : Value → Value → Sem Value) (r : R2) : Prop :=
  ∀ (pins : List (Addr × Obj)) (s : Shared) (σ : St) (H : Hp) (x y : V) (v u : Value) (Q : VK), Inv X pins σ H s → RelV x v → RelV y u → r x y H Q →
    wpAny (model X.prog X.w) X.A (f v u) (EP X pins σ Q) X.xe s
/-- a one-place operation -/
def UnR (X : Cx) (f : Value → Sem Value) (r : V → Hp → VK → Prop) : Prop :=
  ∀ (pins : List (Addr × Obj)) (s : Shared) (σ : St) (H : Hp) (x : V) (v : Value) (Q : VK), Inv X pins σ H s → RelV x v → r x H Q →
    wpAny (model X.prog X.w) X.A (f v) (EP X pins σ Q) X.xe s
/-- a call of a value that is known (a builtin, a type) with values -/
def CallR (X : Cx) (f : Value) (r : List V → Hp → VK → Prop) : Prop :=
  ∀ (pins : List (Addr × Obj)) (s : Shared) (σ : St) (H : Hp) (xs : List V) (us : List Value) (Q : VK), Inv X pins σ H s → Vals xs us → r xs H Q →
    wpAny (model X.prog X.w) X.A (call f us) (EP X pins σ Q) X.xe s
/-- a value's truth -/
def TruR (X : Cx) (r : V → Hp → (Bool → Hp → Prop) → Prop) : Prop :=
  ∀ (pins : List (Addr × Obj)) (s : Shared) (σ : St) (H : Hp) (x : V) (v : Value) (Q : Bool → Hp → Prop), Inv X pins σ H s → RelV x v → r x H Q →
    wpAny (model X.prog X.w) X.A (truthy v) (TP X pins σ Q) X.xe s

def tOp (r : R2) (ta tb : TE) : TE := fun σ H Q => ta σ H fun x H1 => tb σ H1 fun y H2 => r x y H2 Q
def tUn (r : V → Hp → VK → Prop) (ta : TE) : TE := fun σ H Q => ta σ H fun x H1 => r x H1 Q
/-- ints in, under C, and a value out -/
def rI (C : Int → Int → Prop) (g : Int → Int → V) : R2 := fun x y H Q => ∃ i j, x = .int i ∧ y = .int j ∧ C i j ∧ Q (g i j) H
def rI0 (g : Int → Int → V) : R2 := fun x y H Q => ∃ i j, x = .int i ∧ y = .int j ∧ Q (g i j) H
def rU (g : Int → V) : V → Hp → VK → Prop := fun x H Q => ∃ i, x = .int i ∧ Q (g i) H

section
variable {X : Cx} {a b c : Expr} {ta tb tc : TE} {pos : Pos}

theorem binT (ha : PE X a ta) (hb : PE X b tb) {pins : List (Addr × Obj)} {s : Shared} {σ : St} {H : Hp} {R : V → V → Hp → Prop} (I : Inv X pins σ H s)
    (h : ta σ H fun x H1 => tb σ H1 fun y H2 => R x y H2) {Q : Value → Shared → Prop} {f : Value → Value → Sem Value}
    (hf : ∀ v u s2 x y H2, Inv X pins σ H2 s2 → RelV x v → RelV y u → R x y H2 → wpAny (model X.prog X.w) X.A (f v u) Q X.xe s2) :
    wpAny (model X.prog X.w) X.A (eval a X.env) (fun v s₁ => wpAny (model X.prog X.w) X.A (eval b X.env) (fun u s₂ => wpAny (model X.prog X.w) X.A (f v u) Q X.xe s₂) X.xe s₁) X.xe s := by
  refine thn (ha pins s σ H _ I h) fun v s1 ⟨x, H1, I1, r1, q1⟩ => ?_
  refine thn (hb pins s1 σ H1 _ I1 q1) fun u s2 ⟨y, H2, I2, r2, q2⟩ => ?_
  exact hf v u s2 x y H2 I2 r1 r2 q2

theorem pe_op {op : Operator} {r : R2} (ho : OpR X (binaryOp op) r) (ha : PE X a ta) (hb : PE X b tb) : PE X (.BinOp a op b pos) (tOp r ta tb) := by
  intro pins s σ H Q I h
  exact wpAny_BinOp (binT ha hb I h fun v u s2 x y H2 I2 rx ry q => ho pins s2 σ H2 x y v u Q I2 rx ry q)
theorem pe_un {op : UnaryOp} {r : V → Hp → VK → Prop} (ho : UnR X (unaryOp op) r) (ha : PE X a ta) : PE X (.UnaryOp op a pos) (tUn r ta) := by
  intro pins s σ H Q I h
  exact UnaryOp_ (thn (ha pins s σ H _ I h) fun v s1 ⟨x, H1, I1, r1, q1⟩ => ho pins s1 σ H1 x v Q I1 r1 q1)
/-! ### ints -/
theorem opI {f : Value → Value → Sem Value} {C : Int → Int → Prop} {g : Int → Int → Int}
    (rule : ∀ (i j : Int) (t u : Tok) (s : Shared) (Q : Value → Shared → Prop) (E : Value → Shared → Prop), C i j → Q (.int (g i j) s.toks) { s with toks := s.toks + 1 } → wpAny (model X.prog X.w) X.A (f (.int i t) (.int j u)) Q E s) :
    OpR X f (rI C fun i j => .int (g i j)) := by
  intro pins s σ H x y v u Q I rx ry h
  obtain ⟨i, j, rfl, rfl, hc, q⟩ := h
  obtain ⟨t, rfl⟩ := rx
  obtain ⟨t', rfl⟩ := ry
  exact rule i j t t' s _ _ hc ⟨.int (g i j), H, I.tok _, ⟨_, rfl⟩, q⟩
theorem opI0 {f : Value → Value → Sem Value} {g : Int → Int → Int}
    (rule : ∀ (i j : Int) (t u : Tok) (s : Shared) (Q : Value → Shared → Prop) (E : Value → Shared → Prop), Q (.int (g i j) s.toks) { s with toks := s.toks + 1 } → wpAny (model X.prog X.w) X.A (f (.int i t) (.int j u)) Q E s) :
    OpR X f (rI0 fun i j => .int (g i j)) := by
  intro pins s σ H x y v u Q I rx ry h
  obtain ⟨i, j, rfl, rfl, q⟩ := h
  obtain ⟨t, rfl⟩ := rx
  obtain ⟨t', rfl⟩ := ry
  exact rule i j t t' s _ _ ⟨.int (g i j), H, I.tok _, ⟨_, rfl⟩, q⟩
theorem opB0 {f : Value → Value → Sem Value} {g : Int → Int → Bool}
    (rule : ∀ (i j : Int) (t u : Tok) (s : Shared) (Q : Value → Shared → Prop) (E : Value → Shared → Prop), Q (.bool (g i j)) s → wpAny (model X.prog X.w) X.A (f (.int i t) (.int j u)) Q E s) :
    OpR X f (rI0 fun i j => .bl (g i j)) := by
  intro pins s σ H x y v u Q I rx ry h
  obtain ⟨i, j, rfl, rfl, q⟩ := h
  obtain ⟨t, rfl⟩ := rx
  obtain ⟨t', rfl⟩ := ry
  exact rule i j t t' s _ _ ⟨.bl (g i j), H, I, rfl, q⟩

def CPow (i j : Int) : Prop := 0 ≤ j ∧ j ≤ 1000000 ∧ i.natAbs < 2 ^ 64
def CMul (i j : Int) : Prop := (-(2 ^ 64) < i ∧ i < 2 ^ 64) ∨ (-(2 ^ 64) < j ∧ j < 2 ^ 64)
theorem CMul.ok {i j : Int} (h : CMul i j) : IntMulOk i j := by
  rcases h with ⟨h1, h2⟩ | ⟨h1, h2⟩
  · exact .of_left (intBits_le_64 h1 h2)
  · exact .of_right (intBits_le_64 h1 h2)
theorem op_add : OpR X (binaryOp .Add) (rI0 fun i j => .int (i + j)) := opI0 fun _ _ _ _ _ _ _ q => add_int q
theorem op_sub : OpR X (binaryOp .Sub) (rI0 fun i j => .int (i - j)) := opI0 fun _ _ _ _ _ _ _ q => sub_int q
theorem op_mul : OpR X (binaryOp .Mult) (rI CMul fun i j => .int (i * j)) := opI fun _ _ _ _ _ _ _ hc q => mul_int q hc.ok
/-- % by a positive divisor of any size -/
theorem op_mod : OpR X (binaryOp .Mod) (rI (fun _ j => 0 < j) fun i j => .int (i % j)) := opI fun i j _ _ _ _ _ hc q => by
  have h1 : (0 : Int) < j := hc
  exact mod_int' (by omega) (by rw [Int.fmod_eq_emod_of_nonneg i (by omega)]; exact q)
theorem op_pow : OpR X (binaryOp .Pow) (rI CPow fun i j => .int (i ^ j.toNat)) := opI fun _ _ _ _ _ _ _ hc q => pow_int_small hc.1 hc.2.1 hc.2.2 q
theorem unI {f : Value → Sem Value} {g : Int → Int}
    (rule : ∀ (i : Int) (t : Tok) (s : Shared) (Q : Value → Shared → Prop) (E : Value → Shared → Prop), Q (.int (g i) s.toks) { s with toks := s.toks + 1 } → wpAny (model X.prog X.w) X.A (f (.int i t)) Q E s) :
    UnR X f (rU fun i => .int (g i)) := by
  intro pins s σ H x v Q I rx h
  obtain ⟨i, rfl, q⟩ := h
  obtain ⟨t, rfl⟩ := rx
  exact rule i t s _ _ ⟨.int (g i), H, I.tok _, ⟨_, rfl⟩, q⟩
theorem un_neg : UnR X (unaryOp .USub) (rU fun i => .int (-i)) := unI fun _ _ _ _ _ q => neg_int q
/-! ### bools among ints: n += (a < b) -/
end

/-! ### comparisons -/
/-- the scalars that == tells apart as data does -/
def scal : V → V → Bool
  | .non, .non => true | .non, .int _ => true | .int _, .non => true | .non, .bl _ => true | .bl _, .non => true | .non, .str _ => true | .str _, .non => true
  | .int _, .int _ => true | .bl _, .bl _ => true | .str _, .str _ => true | .byt _, .byt _ => true
  | .int _, .str _ => true | .str _, .int _ => true | .bl _, .str _ => true | .str _, .bl _ => true
  | _, _ => false
def rEq : R2 := fun x y H Q => scal x y = true ∧ Q (.bl (decide (x = y))) H
def rNe : R2 := fun x y H Q => scal x y = true ∧ Q (.bl (!decide (x = y))) H

theorem dec_int {i j : Int} : decide (V.int i = V.int j) = (i == j) := by
  rw [Bool.eq_iff_iff]
  simp
theorem dec_bl {i j : Bool} : decide (V.bl i = V.bl j) = (i == j) := by
  rw [Bool.eq_iff_iff]
  simp
theorem dec_str {i j : Str} : decide (V.str i = V.str j) = (i == j) := by
  rw [Bool.eq_iff_iff]
  simp
theorem dec_byt {i j : Array UInt8} : decide (V.byt i = V.byt j) = (i.toList == j.toList) := by
  rw [Bool.eq_iff_iff]
  cases i
  cases j
  simp

section
variable {X : Cx} {a b c : Expr} {ta tb tc : TE} {pos : Pos}
theorem fin_bl {pins : List (Addr × Obj)} {σ : St} {H : Hp} {s : Shared} {Q : VK} {k k' : Bool} (I : Inv X pins σ H s) (q : Q (.bl k) H) (e : k = k') : EP X pins σ Q (.bool k') s := by
  subst e
  exact ⟨.bl k, H, I, rfl, q⟩
theorem op_eq : OpR X (compareOp .Eq) rEq := by
  intro pins s σ H x y v u Q I rx ry h
  obtain ⟨hs, q⟩ := h
  cases x with
  | non =>
    cases rx
    cases y with
    | non => cases ry; exact PySem.EqNone.eq_none_none (fin_bl I q (by simp))
    | bl j => cases ry; exact PySem.EqNone.eq_none_bool (fin_bl I q (by simp))
    | int j => obtain ⟨t', rfl⟩ := ry; exact PySem.EqNone.eq_none_int (fin_bl I q (by simp))
    | str j => obtain ⟨t', rfl⟩ := ry; exact PySem.EqNone.eq_none_str (fin_bl I q (by simp))
    | _ => exact absurd (show false = true from hs) Bool.false_ne_true
  | bl i =>
    cases rx
    cases y with
    | non => cases ry; exact PySem.EqNone.eq_bool_none (fin_bl I q (by simp))
    | bl j => cases ry; exact eq_bool (fin_bl I q dec_bl)
    | str j => obtain ⟨t', rfl⟩ := ry; exact PySem.EqMixed.eq_bool_str (fin_bl I q (by simp))
    | _ => exact absurd (show false = true from hs) Bool.false_ne_true
  | int i =>
    obtain ⟨t, rfl⟩ := rx
    cases y with
    | non => cases ry; exact PySem.EqNone.eq_int_none (fin_bl I q (by simp))
    | int j => obtain ⟨t', rfl⟩ := ry; exact eq_int (fin_bl I q dec_int)
    | str j => obtain ⟨t', rfl⟩ := ry; exact PySem.EqMixed.eq_int_str (fin_bl I q (by simp))
    | _ => exact absurd (show false = true from hs) Bool.false_ne_true
  | str i =>
    obtain ⟨t, rfl⟩ := rx
    cases y with
    | non => cases ry; exact PySem.EqNone.eq_str_none (fin_bl I q (by simp))
    | bl j => cases ry; exact PySem.EqMixed.eq_str_bool (fin_bl I q (by simp))
    | int j => obtain ⟨t', rfl⟩ := ry; exact PySem.EqMixed.eq_str_int (fin_bl I q (by simp))
    | str j => obtain ⟨t', rfl⟩ := ry; exact eq_str (fin_bl I q dec_str)
    | _ => exact absurd (show false = true from hs) Bool.false_ne_true
  | byt i =>
    obtain ⟨t, rfl⟩ := rx
    cases y with
    | byt j => obtain ⟨t', rfl⟩ := ry; exact PySem.W.eq_bytes (fin_bl I q dec_byt)
    | _ => exact absurd (show false = true from hs) Bool.false_ne_true
  | _ => cases y <;> exact absurd (show false = true from hs) Bool.false_ne_true
theorem op_ne : OpR X (compareOp .NotEq) rNe := by
  intro pins s σ H x y v u Q I rx ry h
  obtain ⟨hs, q⟩ := h
  cases x with
  | non =>
    cases rx
    cases y with
    | non => cases ry; exact PySem.EqNone.ne_none_none (fin_bl I q (by simp))
    | bl j => cases ry; exact PySem.EqNone.ne_none_bool (fin_bl I q (by simp))
    | int j => obtain ⟨t', rfl⟩ := ry; exact PySem.EqNone.ne_none_int (fin_bl I q (by simp))
    | str j => obtain ⟨t', rfl⟩ := ry; exact PySem.EqNone.ne_none_str (fin_bl I q (by simp))
    | _ => exact absurd (show false = true from hs) Bool.false_ne_true
  | bl i =>
    cases rx
    cases y with
    | non => cases ry; exact PySem.EqNone.ne_bool_none (fin_bl I q (by simp))
    | bl j => cases ry; exact ne_bool (fin_bl I q (congrArg not dec_bl))
    | str j => obtain ⟨t', rfl⟩ := ry; exact PySem.EqMixed.ne_bool_str (fin_bl I q (by simp))
    | _ => exact absurd (show false = true from hs) Bool.false_ne_true
  | int i =>
    obtain ⟨t, rfl⟩ := rx
    cases y with
    | non => cases ry; exact PySem.EqNone.ne_int_none (fin_bl I q (by simp))
    | int j => obtain ⟨t', rfl⟩ := ry; exact ne_int (fin_bl I q (congrArg not dec_int))
    | str j => obtain ⟨t', rfl⟩ := ry; exact PySem.EqMixed.ne_int_str (fin_bl I q (by simp))
    | _ => exact absurd (show false = true from hs) Bool.false_ne_true
  | str i =>
    obtain ⟨t, rfl⟩ := rx
    cases y with
    | non => cases ry; exact PySem.EqNone.ne_str_none (fin_bl I q (by simp))
    | bl j => cases ry; exact PySem.EqMixed.ne_str_bool (fin_bl I q (by simp))
    | int j => obtain ⟨t', rfl⟩ := ry; exact PySem.EqMixed.ne_str_int (fin_bl I q (by simp))
    | str j => obtain ⟨t', rfl⟩ := ry; exact ne_str (fin_bl I q (congrArg not dec_str))
    | _ => exact absurd (show false = true from hs) Bool.false_ne_true
  | byt i =>
    obtain ⟨t, rfl⟩ := rx
    cases y with
    | byt j => obtain ⟨t', rfl⟩ := ry; exact PySem.W.ne_bytes (fin_bl I q (congrArg not dec_byt))
    | _ => exact absurd (show false = true from hs) Bool.false_ne_true
  | _ => cases y <;> exact absurd (show false = true from hs) Bool.false_ne_true

theorem op_lt : OpR X (compareOp .Lt) (rI0 fun i j => .bl (decide (i < j))) := opB0 fun _ _ _ _ _ _ _ q => lt_int q
theorem op_le : OpR X (compareOp .LtE) (rI0 fun i j => .bl (decide (i ≤ j))) := opB0 fun _ _ _ _ _ _ _ q => le_int q
theorem op_gt : OpR X (compareOp .Gt) (rI0 fun i j => .bl (decide (j < i))) := opB0 fun _ _ _ _ _ _ _ q => gt_int q
theorem op_ge : OpR X (compareOp .GtE) (rI0 fun i j => .bl (decide (j ≤ i))) := opB0 fun _ _ _ _ _ _ _ q => ge_int q
theorem nomark (b : Expr) {op : CmpOp} (h : op ≠ .In := by decide) (h2 : op ≠ .NotIn := by decide) : behindInMarks op b = false := by
  have e1 : (op == CmpOp.In) = false := by cases op <;> first | rfl | exact absurd rfl h
  have e2 : (op == CmpOp.NotIn) = false := by cases op <;> first | rfl | exact absurd rfl h2
  cases b <;> simp [behindInMarks, e1, e2]
/-- a comparison as a value; hm: nomark b, or (for in, not in) by with_unfolding_all rfl -/
theorem pe_cmpR {op : CmpOp} {r : R2} (ho : OpR X (compareOp op) r) (ha : PE X a ta) (hb : PE X b tb) (hm : behindInMarks op b = false) : PE X (.Compare a [op] [b] pos) (tOp r ta tb) := by
  intro pins s σ H Q I h
  exact wpAny_Compare1 (binT ha hb I h fun v u s2 x y H2 I2 rx ry q => ho pins s2 σ H2 x y v u Q I2 rx ry q) hm
/-- a reading of a value as a test -/
def tTest (t : TE) : TT := fun σ H Q => t σ H fun x H' => ∃ k, x = .bl k ∧ Q k H'
theorem pt_cmpR {op : CmpOp} {r : R2} (ho : OpR X (compareOp op) r) (ha : PE X a ta) (hb : PE X b tb) (hm : behindInMarks op b = false) : PT X (.Compare a [op] [b] pos) (tTest (tOp r ta tb)) := by
  intro pins s σ H Q I h
  refine wpAny_isTrue_Compare1 (thn (ha pins s σ H _ I h) fun v s1 ⟨x, H1, I1, r1, q1⟩ => thn (hb pins s1 σ H1 _ I1 q1) fun u s2 ⟨y, H2, I2, r2, q2⟩ =>
    thn (ho pins s2 σ H2 x y v u _ I2 r1 r2 q2) fun c s3 ⟨z, H3, I3, r3, k, e, q3⟩ => ?_) hm
  subst e
  cases r3
  exact wpAny_truthy_bool ⟨H3, I3, q3⟩
/-- a op1 b op2 c -/
def tChain (r r' : R2) (ta tb tc : TE) : TE := fun σ H Q => ta σ H fun x H1 => tb σ H1 fun y H2 => r x y H2 fun z H3 => ∃ k, z = .bl k ∧
  (if k = true then tc σ H3 fun w' H4 => r' y w' H4 Q else Q (.bl false) H3)
theorem pt_chain {op op' : CmpOp} {r r' : R2} (ho : OpR X (compareOp op) r) (ho' : OpR X (compareOp op') r') (ha : PE X a ta) (hb : PE X b tb) (hc : PE X c tc)
    (hm : lastMarks [op, op'] [b, c] = false := by with_unfolding_all rfl) : PT X (.Compare a [op, op'] [b, c] pos) (tTest (tChain r r' ta tb tc)) := by
  intro pins s σ H Q I h
  refine isTrue_chain (thn (ha pins s σ H _ I h) fun v s1 ⟨x, H1, I1, r1, q1⟩ => test_link (thn (hb pins s1 σ H1 _ I1 q1) fun u s2 ⟨y, H2, I2, r2, q2⟩ =>
    thn (ho pins s2 σ H2 x y v u _ I2 r1 r2 q2) fun d s3 ⟨z, H3, I3, r3, k, e, q3⟩ => ?_)) hm
  subst e
  cases r3
  refine wpAny_truthy_bool ?_
  cases k with
  | false =>
    obtain ⟨k', e', q'⟩ := q3
    cases e'
    exact ite_ff ⟨H3, I3, q'⟩
  | true =>
    refine ite_tt (test_last (thn (hc pins s3 σ H3 _ I3 q3) fun w' s4 ⟨z', H4, I4, r4, q4⟩ => thn (ho' pins s4 σ H4 y z' u w' _ I4 r2 r4 q4) fun d' s5 ⟨z2, H5, I5, r5, k2, e2, q5⟩ => ?_))
    subst e2
    cases r5
    exact wpAny_truthy_bool ⟨H5, I5, q5⟩

/-! ### truth -/
/-- a value's truth by the abstract heap -/
def TruV (K : PySem.W.Frag) (x : V) (H : Hp) (k : Bool) : Prop :=
  match x with
  | .non => k = false
  | .bl b => k = b
  | .int i => k = (i != 0)
  | .str y => y.length ≤ sizeLine ∧ k = ((y.length : Int) != 0)
  | .byt y => y.size ≤ sizeLine ∧ k = ((y.size : Int) != 0)
  | .ref p => (∃ xs, SqL K H p xs ∧ k = !xs.isEmpty) ∨ (∃ xs, SqT K H p xs ∧ k = !xs.isEmpty) ∨ ∃ kvs, H p = some (.dK kvs) ∧ k = !kvs.isEmpty
  | _ => False
theorem isEmpty_kv {κ : Type} {kvs : List (κ × V)} {vs : List (κ × Value)} (r : KV kvs vs) : (!vs.isEmpty) = !kvs.isEmpty := by
  cases r <;> rfl
theorem isEmpty_of {xs : List V} {its : List Value} (r : Vals xs its) : (!its.toArray.isEmpty) = !xs.isEmpty := by
  cases r <;> simp
theorem line63 : (sizeLine : Nat) < 2 ^ 63 := by rw [sizeLine_eq]; decide
theorem tru_ok : TruR X (fun x H Q => ∃ k, TruV X.K x H k ∧ Q k H) := by
  intro pins s σ H x v Q I rx h
  obtain ⟨k, e, q⟩ := h
  have hl := line63
  have hs : sizeLine = 16777216 := sizeLine_eq
  cases x with
  | non =>
    cases rx
    have e' : k = false := e
    subst e'
    exact truthy_none ⟨H, I, q⟩
  | bl b =>
    cases rx
    have e' : k = b := e
    subst e'
    exact wpAny_truthy_bool ⟨H, I, q⟩
  | int i =>
    obtain ⟨t, rfl⟩ := rx
    have e' : k = (i != 0) := e
    subst e'
    exact PySem.P.truthy_int ⟨H, I, q⟩
  | str y =>
    obtain ⟨t, rfl⟩ := rx
    obtain ⟨hy, e'⟩ : y.length ≤ sizeLine ∧ k = ((y.length : Int) != 0) := e
    subst e'
    exact PySem.P.truthy_str (by omega) ⟨H, I.tok _, q⟩
  | byt y =>
    obtain ⟨t, rfl⟩ := rx
    obtain ⟨hy, e'⟩ : y.size ≤ sizeLine ∧ k = ((y.size : Int) != 0) := e
    subst e'
    exact PySem.W.truthy_bytes (by omega) ⟨H, I.tok _, q⟩
  | ref p =>
    cases rx
    have e' : (∃ xs, SqL X.K H p xs ∧ k = !xs.isEmpty) ∨ (∃ xs, SqT X.K H p xs ∧ k = !xs.isEmpty) ∨ ∃ kvs, H p = some (.dK kvs) ∧ k = !kvs.isEmpty := e
    rcases e' with ⟨xs, hx, e'⟩ | ⟨xs, hx, e'⟩ | ⟨kvs, hx, e'⟩
    · subst e'
      obtain ⟨its, r, pl, hz⟩ := I.list hx
      have hlen := r.length
      exact wpAny_truthy_list pl.isList (by simp only [List.size_toArray]; omega) ⟨H, I.tok _, by rw [isEmpty_of r]; exact q⟩
    · subst e'
      obtain ⟨its, r, pl, hz⟩ := I.tuple hx
      have hlen := r.length
      exact truthy_tuple pl (by simp only [List.size_toArray]; omega) ⟨H, I.tok _, by rw [isEmpty_of r]; exact q⟩
    · subst e'
      obtain ⟨hz, hS, vs, r, m⟩ : kvs.length ≤ sizeLine ∧ (p == sysModules) = false ∧ ∃ vs, KV kvs vs ∧ s.heap.DictOf (mixKind X.prog X.w) p vs := I.hok p _ hx
      have hlen : kvs.length = vs.length := Paired.length r
      exact wpAny_truthy_dict hS m (by omega) ⟨H, I.tok _, by rw [isEmpty_kv r]; exact q⟩
  | _ => exact (show False from e).elim
/-- any expression whose test is its value's truth (a name, a call, a subscript, a field ..: he by fun _ => rfl) -/
theorem pt_truth (ha : PE X a ta) (he : ∀ whole, isTrue a X.env whole = (do let v ← whole; standAt a.pos; holding [v] (truthy v))) :
    PT X a (fun σ H Q => ta σ H fun x H' => ∃ k, TruV X.K x H' k ∧ Q k H') := by
  intro pins s σ H Q I h
  exact isTrue_plain (thn (ha pins s σ H _ I h) fun v s1 ⟨x, H1, I1, r1, q1⟩ => tru_ok pins s1 σ H1 x v Q I1 r1 q1) (he _)

/-! ### strs and bytes -/
/-! ### scalar builtins, by CallR -/
theorem vals1 {x : V} {us : List Value} (r : Vals [x] us) : ∃ u, us = [u] ∧ RelV x u := by
  cases r with
  | cons r1 r2 => cases r2; exact ⟨_, rfl, r1⟩
theorem vals2 {x y : V} {us : List Value} (r : Vals [x, y] us) : ∃ u w', us = [u, w'] ∧ RelV x u ∧ RelV y w' := by
  cases r with
  | cons r1 r2 =>
    cases r2 with
    | cons r3 r4 => cases r4; exact ⟨_, _, rfl, r1, r3⟩
theorem call_max2 (hc : X.calm = true) : CallR X (.builtin "max") (fun xs H Q => ∃ i j, xs = [.int i, .int j] ∧ Q (.int (if j > i then j else i)) H) := by
  intro pins s σ H xs us Q I r h
  obtain ⟨i, j, rfl, q⟩ := h
  obtain ⟨u, w', rfl, ⟨t, rfl⟩, ⟨t', rfl⟩⟩ := vals2 r
  refine max_two_ints (I.ok.hd hc) fun h' tk k => ⟨_, H, I.kept k, ?_, q⟩
  by_cases hj : j > i
  · rw [if_pos hj, if_pos hj]; exact ⟨_, rfl⟩
  · rw [if_neg hj, if_neg hj]; exact ⟨_, rfl⟩
theorem call_min2 (hc : X.calm = true) : CallR X (.builtin "min") (fun xs H Q => ∃ i j, xs = [.int i, .int j] ∧ Q (.int (if j < i then j else i)) H) := by
  intro pins s σ H xs us Q I r h
  obtain ⟨i, j, rfl, q⟩ := h
  obtain ⟨u, w', rfl, ⟨t, rfl⟩, ⟨t', rfl⟩⟩ := vals2 r
  refine min_two_ints (I.ok.hd hc) fun h' tk k => ⟨_, H, I.kept k, ?_, q⟩
  by_cases hj : j < i
  · rw [if_pos hj, if_pos hj]; exact ⟨_, rfl⟩
  · rw [if_neg hj, if_neg hj]; exact ⟨_, rfl⟩
end
end L2

namespace L2
open PySem PySem.Spec PyProof.Rows

/-! ### an instance, its attributes a map -/
structure ObjM (h : Heap) (x dx C : Addr) (mA : Str → Option Value) : Prop where
  obj : h.get? x = some (PySem.W.instObj C dx)
  ns : h.Ns1 dx mA
  ne : dx ≠ x

theorem lookIn_ns {h : Heap} {dx : Addr} {mA : Str → Option Value} (n : h.Ns1 dx mA) : ∃ od, h.get? dx = some od ∧ ∀ name, PySem.W.lookIn name od = some (mA name) := by
  obtain ⟨o, es, ep, ho, hd, hk, _, hm⟩ := n
  refine ⟨o, ho, fun name => ?_⟩
  have e := hm name
  unfold nsFind findBy at e
  rw [← Array.find?_toList] at e
  unfold PySem.W.lookIn
  rw [hd]
  dsimp only
  split
  · rename_i y q
    rw [q] at e
    exact congrArg some e
  · rename_i q
    rw [q] at e
    have a : es.toList.any (·.refKey) = false := by
      rw [List.any_eq_false]
      intro y hy
      obtain ⟨z, t, hkey⟩ := hk y (Array.mem_toList_iff.mp hy)
      simp [DictEntry.refKey, hkey]
    have a' : ¬ es.toList.any (·.refKey) = true := by rw [a]; exact Bool.false_ne_true
    rw [if_neg a']
    exact congrArg some e

theorem ObjM.look {h : Heap} {x dx C : Addr} {mA : Str → Option Value} (I : ObjM h x dx C mA) : ∃ od, PySem.W.InstAt h x (PySem.W.instObj C dx) C (some od) ∧ ∀ name, PySem.W.lookIn name od = some (mA name) :=
  let ⟨od, ho, hl⟩ := lookIn_ns I.ns
  ⟨od, ⟨I.obj, rfl, rfl, ho⟩, hl⟩

section
variable {prog : Program} {w : World} {A : Around} {E : Value → Shared → Prop} {s : Shared} {K : PySem.W.Frag} {x dx C f : Addr} {mA : Str → Option Value} {name : Str} {v : Value}

end

/-! ### the attributes as a list of pairs -/
theorem RelO.some_of {v : V} {o : Option Value} (r : RelO (some v) o) : ∃ u, o = some u ∧ RelV v u := by
  cases o with
  | none => exact (show False from r).elim
  | some u => exact ⟨u, rfl, r⟩
section
variable {P : Program} {w : World} {H H' : Hp} {h h' : Heap} {a C dx : Addr} {fs fs' : List (Str × V)}
theorem ins_get (hok : HOk P w H h) (e : H a = some (.ins C dx fs)) : ∃ mA, ObjM h a dx C mA ∧ (∀ f, RelO (fs.lookup f) (mA f)) ∧ PySem.Within mA (fs.map (·.1)) ∧ fs.length ≤ 1000 ∧ H dx = some (.own a) := by
  obtain ⟨d, z, ne, ob, mA, n, r, q⟩ := (show ObjOk P w H h a (.ins C dx fs) from hok a _ e)
  exact ⟨mA, ⟨ob, n, ne⟩, r, q, z, d⟩
end

/-! ### what of the text a class must have -/
structure Cls (K : PySem.W.Frag) (C : Addr) : Prop where
  pg : PySem.W.plainGet K C Str.empty = true
  hd : PySem.W.hasDictIn K C = true
  po : PySem.W.plainOver K C = true
  sa : PySem.W.findIn K (.ref C) "__setattr__" = some (some (.builtin "object.__setattr__"))
theorem Cls.get {K : PySem.W.Frag} {C : Addr} (c : Cls K C) (f : Str) : PySem.W.plainGet K C f = true := c.pg
/-- a constant of the class -/
structure Con (K : PySem.W.Frag) (C : Addr) (f : Str) (v : V) (u : Value) : Prop where
  at_ : PySem.W.findIn K (.ref C) f = some (some u)
  rel : RelV v u
  get : PySem.W.specialIn K u "__get__" = some none
  cp : PySem.W.copiedNames.contains f = false
/-- a method: a plain def of the class or of one above it -/
structure Meth (K : PySem.W.Frag) (C : Addr) (m : Str) (f : Addr) : Prop where
  at_ : PySem.W.findIn K (.ref C) m = some (some (.ref f))
  fn : PySem.W.isFn K (.ref f) = true
  kp : PySem.W.keepIn K (.ref f) = true

section
variable {X : Cx} {pins : List (Addr × Obj)} {σ : St} {H : Hp} {s : Shared} {a C dx : Addr} {fs : List (Str × V)} {f : Str} {v : V} {A : Around} {E : Value → Shared → Prop}

end

/-! ### readings and rules -/
section
variable {X : Cx} {o e value : Expr} {f : Str} {pos pos' tpos : Pos} {ta tv : TE}
end

/-! ### isinstance -/
section
variable {X : Cx} {pins : List (Addr × Obj)} {σ : St} {H : Hp} {s : Shared} {A : Around} {E : Value → Shared → Prop} {Q : Value → Shared → Prop} {c : Value} {b : Bool}
/-- the type of a value, as the fragment's deciders take it; for an instance its class -/
inductive TyOf (K : PySem.W.Frag) (H : Hp) : V → Value → Prop where
  | non : TyOf K H .non (.type "NoneType")
  | bl (x : Bool) : TyOf K H (.bl x) (.type "bool")
  | int (i : Int) : TyOf K H (.int i) (.type "int")
  | str (x : Str) : TyOf K H (.str x) (.type "str")
  | flt (x : UInt64) : TyOf K H (.flt x) (.type "float")
  | lst {a : Addr} {xs : List V} (e : H a = some (.lst xs)) : TyOf K H (.ref a) (.type "list")
  | frz {a : Addr} {o : Obj} {xs : List V} (e : H a = some (.frz o (.lst xs))) : TyOf K H (.ref a) (.type "list")
  | tup {a : Addr} {xs : List V} (e : H a = some (.tup xs)) : TyOf K H (.ref a) (.type "tuple")
  | dK {a : Addr} {kvs : List (Key × V)} (e : H a = some (.dK kvs)) : TyOf K H (.ref a) (.type "dict")
  | dT {a : Addr} {kvs : List (List Key × V)} (e : H a = some (.dT kvs)) : TyOf K H (.ref a) (.type "dict")
  | ins {a C dx : Addr} {fs : List (Str × V)} (e : H a = some (.ins C dx fs)) (cl : Cls K C) (ha : PySem.W.findIn K (.ref C) "__class__" = some (some (.builtin "object.__class__")))
      (hn : PySem.W.specialIn K (.builtin "object.__class__") "__get__" = some (some (.builtin "getset_descriptor.__get__"))) (htk : PySem.W.takesIn K (.builtin "object.__class__") = some true)
      (hm : PySem.W.mroIn K C (.type "object") = some true) : TyOf K H (.ref a) (.ref C)
/-- isinstance(x, c) for one class c, a built-in or an own one: kitOne's answer -/
theorem isinst_ok {x : V} {u t : Value} (I : Inv X pins σ H s) (rx : RelV x u) (ty : TyOf X.K H x t) (e : PySem.W.kitOne X.K t c = some b) (h : ∀ tk, Q (.bool b) { s with toks := tk }) :
    wpAny (model X.prog X.w) A (call (.builtin "isinstance") [u, c]) Q E s := by
  cases ty with
  | non => cases (show u = Value.none from rx); exact PySem.W.kia_one PySem.W.kitx_none I.kIn True.intro e (fun z => nomatch z) h
  | bl y => cases (show u = Value.bool y from rx); exact PySem.W.kia_one PySem.W.kitx_bool I.kIn True.intro e (fun z => nomatch z) h
  | int i => obtain ⟨t, q⟩ := (show ∃ t, u = Value.int i t from rx); cases q; exact PySem.W.kia_one PySem.W.kitx_int I.kIn True.intro e (fun z => nomatch z) h
  | str y => obtain ⟨t, q⟩ := (show ∃ t, u = Value.str y t from rx); cases q; exact PySem.W.kia_one PySem.W.kitx_str I.kIn True.intro e (fun z => nomatch z) h
  | flt y => obtain ⟨t, q⟩ := (show ∃ t, u = Value.float y t from rx); cases q; exact PySem.W.kia_one PySem.W.kitx_float I.kIn True.intro e (fun z => nomatch z) h
  | @lst a xs ea =>
    cases (show u = Value.ref a from rx)
    obtain ⟨_, _, n, _, h1⟩ := (show ObjOk X.prog X.w H s.heap a (.lst xs) from I.hok a _ ea)
    exact PySem.W.kia_one PySem.W.kitx_list I.kIn ⟨_, h1, rfl⟩ e (fun z => nomatch z) h
  | @frz a ob xs ea =>
    cases (show u = Value.ref a from rx)
    obtain ⟨_, _, _, n, _, h1⟩ := (show ObjOk X.prog X.w H s.heap a (.frz ob (.lst xs)) from I.hok a _ ea)
    exact PySem.W.kia_one PySem.W.kitx_list I.kIn ⟨_, h1, rfl⟩ e (fun z => nomatch z) h
  | @tup a xs ea =>
    cases (show u = Value.ref a from rx)
    obtain ⟨_, _, _, p⟩ := (show ObjOk X.prog X.w H s.heap a (.tup xs) from I.hok a _ ea)
    obtain ⟨o, h1, h2, _⟩ := p
    exact PySem.W.kia_one PySem.W.kitx_tuple I.kIn ⟨o, h1, h2⟩ e (fun z => nomatch z) h
  | @dK a kvs ea =>
    cases (show u = Value.ref a from rx)
    obtain ⟨_, _, vs, _, p⟩ := (show ObjOk X.prog X.w H s.heap a (.dK kvs) from I.hok a _ ea)
    obtain ⟨o, es, ep, h1, h2, _⟩ := p
    exact PySem.W.kia_one PySem.W.kitx_dict I.kIn ⟨o, h1, h2.1⟩ e (fun z => nomatch z) h
  | @dT a kvs ea =>
    cases (show u = Value.ref a from rx)
    obtain ⟨_, _, xs, _, o, es, ep, h1, h2, _⟩ := (show ObjOk X.prog X.w H s.heap a (.dT kvs) from I.hok a _ ea)
    exact PySem.W.kia_one PySem.W.kitx_dict I.kIn ⟨o, h1, h2.1⟩ e (fun z => nomatch z) h
  | @ins a C dx fs ea cl ha hn htk hm =>
    cases (show u = Value.ref a from rx)
    obtain ⟨mA, O, _⟩ := ins_get I.hok ea
    obtain ⟨od, J, _⟩ := O.look
    exact PySem.W.kia_one (PySem.W.kitx_own (cl.get _) cl.hd ha hn htk hm) I.kIn J e (fun z => nomatch z) h
end
end L2

namespace L2
open PySem PySem.Spec PyProof.Rows

/-! ### room -/
structure Room (k : Nat) (A : Around) : Prop where
  hd : A.handled = none
  dp : A.depth + 3 * k + 5 < recursionLimit
  un : A.units + 16 * k + 200 < cLine
theorem Room.mono {j k : Nat} {A : Around} (r : Room k A) (h : j ≤ k) : Room j A := ⟨r.hd, by have := r.dp; omega, by have := r.un; omega⟩
theorem Room.deeper {k : Nat} {A : Around} (r : Room (k + 1) A) (env : Env) : Room k (A.deeper env) :=
  ⟨r.hd, by have := r.dp; show A.depth + 1 + 3 * k + 5 < _; omega, by have := r.un; show A.units + 3 + 16 * k + 200 < _; omega⟩
theorem Room.depth {k : Nat} {A : Around} (r : Room k A) : A.depth < recursionLimit := by have := r.dp; omega
theorem Room.units {k : Nat} {A : Around} (r : Room k A) : A.units + 64 < cLine := by have := r.un; omega
/-! ### argument lists and displays -/
def tNil : TA := fun _ H Q => Q [] H
def tCons (ta : TE) (tr : TA) : TA := fun σ H Q => ta σ H fun x H1 => tr σ H1 fun xs H2 => Q (x :: xs) H2
section
variable {X : Cx} {e : Expr} {es : List Expr} {te : TE} {t : TA} {pos : Pos}
theorem pa_nil : PA X [] tNil := fun _ _ _ _ H Q I h => Calls.spliced_nil ⟨[], H, I, .nil, h⟩
theorem pa_cons (ha : PE X e te) (hr : PA X es t) (hs : starEach (e :: es) X.env = (false, eval e X.env) :: starEach es X.env := by rfl) : PA X (e :: es) (tCons te t) := by
  intro pos pins s σ H Q I h
  rw [hs]
  show wpAny _ _ (spliced ((false, eval e X.env) :: backTo pos (starEach es X.env))) _ _ s
  refine Calls.spliced_cons (thn (ha pins s σ H _ I h) fun u s1 ⟨x, H1, I1, r1, q1⟩ => ?_)
  exact thn (hr pos pins s1 σ H1 _ I1 q1) fun us s2 ⟨xs, H2, I2, r2, q2⟩ => ⟨x :: xs, H2, I2, .cons r1 r2, q2⟩

/-- a tuple, a list of written items -/
def tTup (t : TA) : TE := fun σ H Q => t σ H fun xs H1 => xs.length ≤ sizeLine ∧ ∀ p, H1 p = none → Q (.ref p) (upd H1 p (.tup xs))
def tLst (t : TA) : TE := fun σ H Q => t σ H fun xs H1 => xs.length ≤ sizeLine ∧ ∀ p, H1 p = none → Q (.ref p) (upd H1 p (.lst xs))
theorem pe_tup {x1} (h : PA X es t) : PE X (.Tuple es x1 pos) (tTup t) := by
  intro pins s σ H Q I hq
  refine wpAny_Tuple_spliced (thn (h pos pins s σ H _ I hq) fun us s1 ⟨xs, H1, I1, r, z, q⟩ => ⟨by rw [← r.length]; exact z, ?_⟩)
  have hf : H1 s1.heap.objs.size = none := I1.hok.fresh (Nat.le_refl _)
  refine ⟨.ref s1.heap.objs.size, upd H1 s1.heap.objs.size (.tup xs), I1.laid (t' := s1.toks) (fun b u e => Heap.get?_push_of_some _ e) (Nat.le_refl _) ?_, rfl, q _ hf⟩
  exact ⟨z, us, r, ⟨_, Heap.get?_push_size _ rfl, rfl, _, rfl⟩⟩
theorem pe_lst (h : PA X es t) : PE X (.List es pos) (tLst t) := by
  intro pins s σ H Q I hq
  refine wpAny_List_spliced (thn (h pos pins s σ H _ I hq) fun us s1 ⟨xs, H1, I1, r, z, q⟩ => ⟨by rw [← r.length]; exact z, ?_⟩)
  have hf : H1 s1.heap.objs.size = none := I1.hok.fresh (Nat.le_refl _)
  refine ⟨.ref s1.heap.objs.size, upd H1 s1.heap.objs.size (.lst xs), I1.laid (t' := s1.toks) (fun b u e => Heap.get?_push_of_some _ e) (Nat.le_refl _) ?_, rfl, q _ hf⟩
  exact ⟨z, us, 0, r, Heap.get?_push_size _ rfl⟩
end

/-! ### what a def promises -/
/-- a def's promise: the bound arguments in the parameters' order, the heap, the wanted end, the wanted exception -/
abbrev Sp := List V → Hp → VK → XK → Prop
/-- how an exception lies behind a call (file 08 gives it): the callers' frames, abstract heap and state ahead of the call, the wish, the exception, the state -/
abbrev CXT := List Env → Hp → Shared → XK → Value → Shared → Prop

/-- the state at a call -/
structure Env0 (P : Program) (w : World) (K : PySem.W.Frag) (mg : Str → Option Value) (base : Heap) (A : Around) (outer : List Env) (s : Shared) (H : Hp) : Prop where
  frames : A.frames = some outer
  mod : Mod K mg base
  bs : ∀ b o, base.get? b = some o → s.heap.get? b = some o ∧ H b = none
  bsz : base.objs.size ≤ s.heap.objs.size
  funs : s.heap.FunFrames base outer
  frf : ∀ b ∈ frs outer, H b = none
  hok : HOk P w H s.heap
  bare : AllBare s.gens
/-- a call's end -/
def CE (outer : List Env) (P : Program) (w : World) (H : Hp) (s : Shared) (Q : VK) (u : Value) (s' : Shared) : Prop :=
  ∃ v H', s'.os = s.os ∧ AllBare s'.gens ∧ Un (frs outer) [] H H' s.heap s'.heap ∧ HOk P w H' s'.heap ∧ RelV v u ∧ Q v H'
def CR (CX : CXT) (outer : List Env) (P : Program) (w : World) (H : Hp) (s : Shared) (Q : VK) (E : XK) (r : Result) (s' : Shared) : Prop :=
  match r with
  | .ok (.ret u) => CE outer P w H s Q u s'
  | .ok _ => False
  | .error e => CX outer H s E e s'
structure FnOk (P : Program) (w : World) (K : PySem.W.Frag) (mg : Str → Option Value) (base : Heap) (CX : CXT) (k : Nat) (f : Addr) (fd : FuncData) (ps : List Str) (sp : Sp) : Prop where
  len : ∀ vs H Q E, sp vs H Q E → vs.length = ps.length
  run : ∀ (A : Around) (outer : List Env) (s : Shared) (H : Hp) (args : Args) (us : List Value) (vs : List V) (Q : VK) (E : XK), Room k A → Env0 P w K mg base A outer s H → BindsTo s fd args (ps.zip us) → Vals vs us → sp vs H Q E →
    codeAny (model P w) A (.call (.ref f) args) (CR CX outer P w H s Q E) s
section
variable {X : Cx} {pins : List (Addr × Obj)} {σ : St} {H : Hp} {s s' : Shared}
/-- from a body: what a callee wants -/
theorem Inv.env0 (I : Inv X pins σ H s) : Env0 X.prog X.w X.K X.mg X.base X.A X.stack s H :=
  ⟨I.ok.frames, I.ok.mod, I.bs, Nat.le_trans I.ok.bsz I.sz, I.stack, I.stkFree, I.hok, I.bare⟩
/-- behind a call -/
theorem Inv.after {Q : VK} {u : Value} (I : Inv X pins σ H s) (h : CE X.stack X.prog X.w H s Q u s') : EP X pins σ Q u s' := by
  obtain ⟨v, H', os, bare, un, hok, r, q⟩ := h
  obtain ⟨hh, g, d, t, os'⟩ := s'
  obtain rfl : os' = s.os := os
  exact ⟨v, H', I.call (h' := hh) (g' := g) (d' := d) (t' := t) (ch := []) un hok bare (fun b z => absurd z (by simp)), r, q⟩
end

/-! ### calls -/
/-- f(..): the written arguments, then the defaults dvs; E: what is wanted of an exception -/
def tCall (sp : Sp) (dvs : List V) (E : XK) (t : TA) : TE := fun σ H Q => t σ H fun vs H1 => sp (vs ++ dvs) H1 Q E
/-- how the parameters are bound: us the positional arguments, kw the keywords' values by name, ds the defaults that fill up -/
def Binds (K : PySem.W.Frag) (fd : FuncData) (ps : List Str) (ds : List Value) : Prop :=
  ∀ (s : Shared) (us : List Value), K.In s.heap → (us ++ ds).length = ps.length → BindsTo s fd ⟨us, []⟩ (ps.zip (us ++ ds))
/-- every parameter is given -/
theorem Binds.all {K : PySem.W.Frag} {fd : FuncData} {ps : List Str} (h : ∀ us : List Value, us.length = ps.length → bindArgs fd ⟨us, []⟩ = pure (ps.zip us)) : Binds K fd ps [] := fun s us _ hl => by
  rw [List.append_nil] at hl ⊢
  exact .of_eq (h us hl)

/-- an exception of a callee reaches what this body wants of exceptions -/
def Passes (CX : CXT) (X : Cx) (E : XK) : Prop := ∀ (pins : List (Addr × Obj)) (σ : St) (H : Hp) (s : Shared) (e : Value) (s' : Shared), Inv X pins σ H s → CX X.stack H s E e s' → X.xe e s'

section
variable {X : Cx} {CX : CXT} {k : Nat} {f C : Addr} {fd : FuncData} {ps : List Str} {sp : Sp} {dvs : List V} {ds : List Value} {E : XK} {x m : Str} {p pos apos : Pos} {e o : Expr} {es : List Expr} {ta : TE} {t : TA}

/-- the callee runs -/
theorem run_fn {pins : List (Addr × Obj)} {σ : St} {H : Hp} {s : Shared} {Q : VK} {us : List Value} {vs : List V} (F : FnOk X.prog X.w X.K X.mg X.base CX k f fd ps sp) (hr : Room k X.A) (hb : Binds X.K fd ps ds) (hd : Vals dvs ds) (hx : Passes CX X E)
    (I : Inv X pins σ H s) (r : Vals vs us) (h : sp (vs ++ dvs) H Q E) : wpAny (model X.prog X.w) X.A (call (.ref f) us) (EP X pins σ Q) X.xe s := by
  have r2 : Vals (vs ++ dvs) (us ++ ds) := r.append hd
  have hl : (us ++ ds).length = ps.length := by rw [← r2.length]; exact F.len _ _ _ _ h
  refine wpAny_call (codeAny_mono (F.run X.A X.stack s H ⟨us, []⟩ (us ++ ds) (vs ++ dvs) Q E hr I.env0 (hb s us I.kIn hl) r2 h) fun r s' hq => ?_)
  cases r with
  | error e => exact hx pins σ H s e s' I hq
  | ok fl =>
    cases fl with
    | ret u => exact I.after hq
    | next => exact False.elim hq
    | brk => exact False.elim hq
    | cont => exact False.elim hq

theorem pe_call (F : FnOk X.prog X.w X.K X.mg X.base CX k f fd ps sp) (hr : Room k X.A) (hg : Gl X x) (hm : X.mg x = some (.ref f)) (hk : PySem.W.keepIn X.K (.ref f) = true) (hb : Binds X.K fd ps ds) (hd : Vals dvs ds) (hx : Passes CX X E)
    (ha : PA X (e :: es) t) (hdb : (x == ("__debug__" : Str)) = false := by decide) (he : starEach (e :: es) X.env = (false, eval e X.env) :: starEach es X.env := by rfl) (hpl : (backTo pos (starEach es X.env)).any (·.1) = false := by rfl) :
    PE X (.Call (.Name x p) (e :: es) [] pos) (tCall sp dvs E t) := by
  intro pins s σ H Q I h
  refine wpAny_Call_Name_kw (ld_glob I hg hm ?_ hdb)
  refine PySem.W.callWith_K (h₀ := X.base) I.ok.mod.kin hk (thn (ha pos pins s σ H _ I h) fun us s1 ⟨vs, H1, I1, r, q⟩ => ⟨I1.kIn, ?_⟩) he hpl
  exact run_fn F hr hb hd hx I1 r q
/-- what a class must have to be made -/
structure Mk (K : PySem.W.Frag) (C f : Addr) : Prop where
  makes : PySem.W.makesIn K C = true
  init : PySem.W.findIn K (.ref C) "__init__" = some (some (.ref f))
  fn : PySem.W.isFn K (.ref f) = true
  kp : PySem.W.keepIn K (.ref C) = true

end

/-! ### keywords -/
section
variable {X : Cx} {CX : CXT} {k : Nat} {f C : Addr} {fd : FuncData} {ps ks : List Str} {sp : Sp} {E : XK} {x m : Str} {p pos apos kpos : Pos} {e o : Expr} {es : List Expr} {kws : List Keyword} {te ta : TE} {t tk : TA} {nm : Option Str}
/-- how a call with keywords binds: g puts the positional values us and the keywords' values ws (names ks) in the parameters' order, defaults among them -/
structure KBinds (K : PySem.W.Frag) (fd : FuncData) (ps ks : List Str) (g : List Value → List Value → List Value) (gV : List V → List V → List V) : Prop where
  to : ∀ (s : Shared) (us ws : List Value), K.In s.heap → (g us ws).length = ps.length → BindsTo s fd ⟨us, ks.zip ws⟩ (ps.zip (g us ws))
  rel : ∀ {vs : List V} {us : List Value} {zs : List V} {ws : List Value}, Vals vs us → Vals zs ws → Vals (gV vs zs) (g us ws)
variable {g : List Value → List Value → List Value} {gV : List V → List V → List V}
end

/-! ### a def's body keeps its promise -/
/-- names: the parameters first -/
structure FnScope (N P : List Str) (sc : Scope) : Prop where
  kind : sc.kind = .function
  co : sc.isCoroutine = false
  gen : sc.isGenerator = false
  nd : N.Nodup
  pre : N.take P.length = P
  par : ∀ x ∈ P, sc.names.lookup x = some .local ∨ sc.names.lookup x = some .cell
  nofree : ∀ y ∈ sc.names, y.2 ≠ .free

theorem bindL_out {kindOf : Str → Option NameKind} {x : Str} : ∀ {binds : List (Str × Value)} {m : Str → Option Value}, (∀ v, (x, v) ∉ binds) → bindL kindOf binds m x = m x
  | [], _, _ => rfl
  | (n, v) :: r, m, h => by
    unfold bindL
    rw [bindL_out fun w hw => h w (List.mem_cons_of_mem _ hw)]
    split
    · have : x ≠ n := by rintro rfl; exact h v List.mem_cons_self
      simp [this]
    · rfl
theorem bindC_out {kindOf : Str → Option NameKind} {x : Str} : ∀ {binds : List (Str × Value)} {m : Str → Option Value}, (∀ v, (x, v) ∉ binds) → bindC kindOf binds m x = m x
  | [], _, _ => rfl
  | (n, v) :: r, m, h => by
    unfold bindC
    rw [bindC_out fun w hw => h w (List.mem_cons_of_mem _ hw)]
    split
    · rfl
    · have : x ≠ n := by rintro rfl; exact h v List.mem_cons_self
      simp [this]
theorem bindL_get {kindOf : Str → Option NameKind} {x : Str} {v : Value} : ∀ {P : List Str} {vs : List Value} {i : Nat} {m : Str → Option Value}, P.Nodup → P[i]? = some x → vs[i]? = some v → kindOf x = some .local →
    bindL kindOf (P.zip vs) m x = some v
  | [], _, _, _, _, h, _, _ => by simp at h
  | _ :: _, [], _, _, _, _, h, _ => by simp at h
  | p :: P, w :: vs, 0, m, nd, h1, h2, hk => by
    simp at h1 h2; subst h1; subst h2
    show bindL kindOf ((p, w) :: P.zip vs) m p = _
    unfold bindL
    rw [bindL_out fun v hv => (List.nodup_cons.mp nd).1 (List.of_mem_zip hv).1, if_pos hk]
    simp
  | p :: P, w :: vs, i + 1, m, nd, h1, h2, hk => by
    show bindL kindOf ((p, w) :: P.zip vs) m x = _
    unfold bindL
    exact bindL_get (i := i) (List.nodup_cons.mp nd).2 (by simpa using h1) (by simpa using h2) hk
theorem bindC_get {kindOf : Str → Option NameKind} {x : Str} {v : Value} : ∀ {P : List Str} {vs : List Value} {i : Nat} {m : Str → Option Value}, P.Nodup → P[i]? = some x → vs[i]? = some v → kindOf x ≠ some .local →
    bindC kindOf (P.zip vs) m x = some v
  | [], _, _, _, _, h, _, _ => by simp at h
  | _ :: _, [], _, _, _, _, h, _ => by simp at h
  | p :: P, w :: vs, 0, m, nd, h1, h2, hk => by
    simp at h1 h2; subst h1; subst h2
    show bindC kindOf ((p, w) :: P.zip vs) m p = _
    unfold bindC
    rw [bindC_out fun v hv => (List.nodup_cons.mp nd).1 (List.of_mem_zip hv).1, if_neg hk]
    simp
  | p :: P, w :: vs, i + 1, m, nd, h1, h2, hk => by
    show bindC kindOf ((p, w) :: P.zip vs) m x = _
    unfold bindC
    exact bindC_get (i := i) (List.nodup_cons.mp nd).2 (by simpa using h1) (by simpa using h2) hk

/-- the names' values at the entry -/
def start (N : List Str) (vs : List V) : St := vs.map some ++ List.replicate (N.length - vs.length) none

/-- the context of a def's body, at its entry; an exception leaves the frame, then lies as CX says -/
def cxOf (CX : CXT) (P : Program) (w : World) (K : PySem.W.Frag) (mg : Str → Option Value) (base : Heap) (N : List Str) (qual : Str) (scope : Scope) (f : Addr) (cd : Value) (A : Around) (outer : List Env) (s : Shared) (H : Hp) (E : XK) : Cx where
  prog := P
  w := w
  K := K
  mg := mg
  base := base
  A := A.deeper (envOfC qual scope s.heap.objs.size f cd)
  N := N
  s₀ := s
  H₀ := H
  env := envOfC qual scope s.heap.objs.size f cd
  outer := outer
  stack := envOfC qual scope s.heap.objs.size f cd :: outer
  ex := []
  calm := true
  fn := fun _ => true
  pn := []
  xe := fun e s' => wpAny (model P w) (A.deeper (envOfC qual scope s.heap.objs.size f cd)) (leaving (envOfC qual scope s.heap.objs.size f cd) e) (fun _ s'' => CX outer H s E e s'') (fun e' s'' => CX outer H s E e' s'') s'

theorem cell_has {sc : Scope} {n : Nat} {x : Str} (h : sc.names.lookup x = some .cell) : ∃ c, (cellsFrom n sc.names []).lookup x = some c := by
  have q := PySem.W.cellsFrom_some sc.names n [] (.inl h)
  exact Option.isSome_iff_exists.mp q

theorem inv_start {CX : CXT} {P : Program} {w : World} {K : PySem.W.Frag} {mg : Str → Option Value} {base : Heap} {N ps : List Str} {qual : Str} {scope : Scope} {f : Addr} {cd : Value} {A : Around} {outer : List Env} {s s1 : Shared} {H : Hp} {E : XK} {us : List Value} {vs : List V}
    (S : FnScope N ps scope) (hd : A.handled = none) (e0 : Env0 P w K mg base A outer s H) (hl : vs.length = ps.length) (r : Vals vs us)
    (x : InCallC s s.heap.objs.size (bindL (envOfC qual scope s.heap.objs.size f cd).kindOf (ps.zip us) fun _ => none) (cellsFrom (s.heap.objs.size + 1) scope.names []) (bindC (envOfC qual scope s.heap.objs.size f cd).kindOf (ps.zip us) fun _ => none) s1) :
    Inv (cxOf CX P w K mg base N qual scope f cd A outer s H E) [] (start N vs) H s1 := by
  have hpl : ps.length ≤ N.length := by have := congrArg List.length S.pre; rw [List.length_take] at this; omega
  obtain ⟨h1, tk, rfl, hk⟩ := x.done
  have noA : ∀ b : Addr, b ∉ (cxOf CX P w K mg base N qual scope f cd A outer s H E).ex := fun b z => absurd (show b ∈ ([] : List Addr) from z) (by simp)
  refine ⟨⟨e0.mod, S.kind, rfl, rfl, Nat.le_refl _, fun y z c h1 h2 => ?_, fun y hy => ?_, fun y c _ h => ?_, fun _ => hd, Around.frames_deeper e0.frames, .inr ⟨rfl, rfl⟩, fun b z => absurd z (noA b), e0.bs, e0.bsz, fun b _ _ => noA b, fun b z => absurd z (noA b), e0.funs, e0.frf⟩,
    rfl, e0.bare, Un.kept hk, ⟨_, x.toInCall.ns, fun i y v h1 h2 h3 => ?_⟩, fun y c h => ⟨_, x.cell y c h⟩, e0.hok.fresh (Nat.le_refl _), fun y c h => ?_, fun p hp => absurd (show p ∈ ([] : List (Addr × Obj)) from hp) (by simp), e0.hok.kept hk, ?_⟩
  · exact name_of_addr x.apart (PySem.mem_of_lookup h1) (PySem.mem_of_lookup h2)
  · have hy : scope.names.lookup y = some .cell ∨ scope.names.lookup y = some .free := hy
    rcases hy with hy | hy
    · exact cell_has hy
    · exact absurd rfl (S.nofree _ (PySem.mem_of_lookup hy))
  · exact Nat.le_of_lt (x.above y c (PySem.mem_of_lookup h))
  · have hi : i < vs.length := by
      unfold start at h2
      by_cases hi : i < vs.length
      · exact hi
      · rw [List.getElem?_append_right (by simpa using hi)] at h2
        rw [List.getElem?_replicate] at h2
        split at h2 <;> cases h2
    have ha : vs[i]? = some v := by
      unfold start at h2
      rw [List.getElem?_append_left (by simpa using hi), List.getElem?_map] at h2
      cases e : vs[i]? with
      | none => rw [e] at h2; cases h2
      | some a => rw [e] at h2; cases h2; rfl
    obtain ⟨u, hu, rv⟩ := r.get ha
    have hp : ps[i]? = some y := by
      rw [← S.pre, List.getElem?_take_of_lt (by omega)]; exact h1
    have ndP : ps.Nodup := by rw [← S.pre]; exact S.nd.sublist (List.take_sublist _ _)
    refine ⟨u, rv, ?_⟩
    rcases S.par y (List.mem_of_getElem? hp) with k | k
    · exact .inl ⟨k, bindL_get ndP hp hu k⟩
    · obtain ⟨c, e⟩ := cell_has (n := s.heap.objs.size + 1) k
      refine .inr ⟨.inl k, c, e, ?_⟩
      have q := x.cell y c e
      rw [bindC_get ndP hp hu (by show scope.names.lookup y ≠ _; rw [k]; decide)] at q
      exact q
  · exact e0.hok.fresh (Nat.le_of_lt (x.above y c (PySem.mem_of_lookup h)))
  · unfold start
    show _ = N.length
    rw [List.length_append, List.length_map, List.length_replicate]
    omega

/-- THE RULE: a def (or a method) of the text, by its body. The body's reading t is chosen for each entry; it is run at the parameters' values -/
theorem fn_of {CX : CXT} {P : Program} {w : World} {K : PySem.W.Frag} {mg : Str → Option Value} {base : Heap} {k : Nat} {f : Addr} {name qual : Str} {params : Arguments} {body : List Stmt} {scope : Scope} {dV kV doc pm cdv ct oc : Value} {an od : Option Addr}
    {osl : Array (Option Value)} {N ps : List Str} {sp : Sp} (lk : K.lookup f = some ⟨oc, od, .func (PySem.W.fnOf name qual params body scope dV kV doc pm an cdv ct), osl⟩) (hcd : PySem.W.codeIn K cdv qual = true) (S : FnScope N ps scope)
    (len : ∀ vs H Q E, sp vs H Q E → vs.length = ps.length)
    (hbody : ∀ (A : Around) (outer : List Env) (s : Shared) (H : Hp) (vs : List V) (Q : VK) (E : XK), Room k (A.deeper (envOfC qual scope s.heap.objs.size f cdv)) → sp vs H Q E →
      ∃ t, PSs (cxOf CX P w K mg base N qual scope f cdv A outer s H E) body t ∧ t { nx := fun _ H' => Q .non H', rt := Q } (start N vs) H) :
    FnOk P w K mg base CX (k + 1) f (PySem.W.fnOf name qual params body scope dV kV doc pm an cdv ct) ps sp := by
  refine ⟨len, fun A outer s H args us vs Q E hr e0 hb r hsp => ?_⟩
  have hl := len _ _ _ _ hsp
  have KX : K.In s.heap := e0.mod.kin.keeps fun b o e => (e0.bs b o e).1
  have lim : s.heap.NoLimit := e0.mod.nolimit.keeps fun b o e => (e0.bs b o e).1
  have hkind : ∀ y ∈ ps.zip us, scope.names.lookup y.1 = some .local ∨ (scope.names.lookup y.1 = some .cell ∧ ((cellsFrom (s.heap.objs.size + 1) scope.names []).lookup y.1).isSome = true) := fun ⟨n, v⟩ hy => by
    rcases S.par n (List.of_mem_zip hy).1 with q | q
    · exact .inl q
    · exact .inr ⟨q, PySem.W.cellsFrom_some _ _ _ (.inl q)⟩
  refine codeAny_call_function hr.depth (KX _ _ lk) rfl S.co S.gen rfl (PySem.W.codeRec_of KX hcd) (hb _ _ _ _ ?_)
  refine wpAny_newFunctionEnv_cells S.kind hkind fun env he s1 x => ?_
  subst he
  refine ⟨lim.keeps x.toInCall.keep, codeAny_func ?_⟩
  obtain ⟨t, ht, hq⟩ := hbody A outer s H vs Q E (hr.deeper _) hsp
  have I : Inv (cxOf CX P w K mg base N qual scope f cdv A outer s H E) [] (start N vs) H s1 := inv_start S hr.hd e0 hl r x
  refine wpAny_mono (ht [] s1 (start N vs) H _ I hq) (fun fl s' hs => ?_) fun e s' hs => hs
  have fin : ∀ {σ' : St} {H' : Hp} {v : V} {u : Value}, Inv (cxOf CX P w K mg base N qual scope f cdv A outer s H E) [] σ' H' s' → RelV v u → Q v H' → CE outer P w H s Q u s' :=
    fun {σ' H' v u} J rv q => ⟨v, H', J.os, J.bare, J.base, J.hok, rv, q⟩
  cases fl with
  | ret u =>
    obtain ⟨v, σ', H', J, rv, q⟩ := hs
    exact fin J rv q
  | next =>
    obtain ⟨σ', H', J, q⟩ := hs
    exact fin (v := V.non) (u := Value.none) J rfl q
  | brk =>
    obtain ⟨_, _, _, q⟩ := hs
    exact False.elim q
  | cont =>
    obtain ⟨_, _, _, q⟩ := hs
    exact False.elim q
end L2

namespace L2
open PySem PySem.Spec PyProof.Rows
section
variable {X : Cx} {x : Str} {p pos : Pos} {e : Expr} {es : List Expr} {t : TA} {id T : String} {r : List V → Hp → VK → Prop}

def tCB (r : List V → Hp → VK → Prop) (t : TA) : TE := fun σ H Q => t σ H fun vs H1 => r vs H1 Q
/-- f(e, ..), f a built-in function -/
theorem pe_callB (hc : CallR X (.builtin id) r) (hg : Gl X x) (hm : X.mg x = none) (hv : bootBuiltins x = some (.builtin id)) (ha : PA X (e :: es) t) (hn : x ≠ "__name__" := by decide) (hdb : (x == ("__debug__" : Str)) = false := by decide)
    (he : starEach (e :: es) X.env = (false, eval e X.env) :: starEach es X.env := by rfl) (hpl : (backTo pos (starEach es X.env)).any (·.1) = false := by rfl) : PE X (.Call (.Name x p) (e :: es) [] pos) (tCB r t) := by
  intro pins s σ H Q I h
  refine wpAny_Call_Name_kw (ld_blt I hg hm hv ?_ hn hdb)
  exact PyProof.Rows.callWith_builtin1 (thn (ha pos pins s σ H _ I h) fun us s1 ⟨vs, H1, I1, r1, q1⟩ => hc pins s1 σ H1 vs us Q I1 r1 q1) he hpl
/-- T(e, ..), T a built-in type -/
theorem pe_callTy (hc : CallR X (.type T) r) (hg : Gl X x) (hm : X.mg x = none) (hv : bootBuiltins x = some (.type T)) (ha : PA X (e :: es) t) (hn : x ≠ "__name__" := by decide) (hdb : (x == ("__debug__" : Str)) = false := by decide)
    (he : starEach (e :: es) X.env = (false, eval e X.env) :: starEach es X.env := by rfl) (hpl : (backTo pos (starEach es X.env)).any (·.1) = false := by rfl) : PE X (.Call (.Name x p) (e :: es) [] pos) (tCB r t) := by
  intro pins s σ H Q I h
  refine wpAny_Call_Name_kw (ld_blt I hg hm hv ?_ hn hdb)
  exact PyProof.Rows.callWith_type1 (thn (ha pos pins s σ H _ I h) fun us s1 ⟨vs, H1, I1, r1, q1⟩ => hc pins s1 σ H1 vs us Q I1 r1 q1) he hpl
end
end L2

namespace HT
open PySem PyProof.Rows

section
open PySem.SeqAt
open PySem.AutoSeq1 (wpAny_loadPart')
open PySem.MeetsSeq PySem.MeetsSeq2 PySem.MeetsSeq3

end

section
variable {prog : Program} {w : World} {A : Around} {E : Value → Shared → Prop} {s : Shared}

/-! ### t[a:b], not the whole -/
/-- a slice's bound as a place among n (d where it is left out) -/
def sIx (n d : Nat) : Option Int → Nat
  | none => d
  | some v => if v < 0 then (v + (n : Int)).toNat else min v.toNat n
end
end HT

namespace L2
open PySem PySem.Spec PyProof.Rows

/-! ### the parts of a slice -/
abbrev TO := St → Hp → (Option Int → Hp → Prop) → Prop
/-- a slice's part (left out, or an int) -/
def PO (X : Cx) (e : Option Expr) (t : TO) : Prop :=
  ∀ (pins : List (Addr × Obj)) (s : Shared) (σ : St) (H : Hp) (Q : Option Int → Hp → Prop), Inv X pins σ H s → t σ H Q →
    wpAny (model X.prog X.w) X.A (evalPart e X.env) (fun u s' => ∃ o H', Inv X pins σ H' s' ∧ IsPart u o ∧ Q o H') X.xe s
def tNoPart : TO := fun _ H Q => Q none H
def tPart (t : TE) : TO := fun σ H Q => t σ H fun x H1 => ∃ i, x = .int i ∧ Q (some i) H1

theorem intsAre_of {ns : List Int} : ∀ {us : List Value}, Vals (ns.map V.int) us → IntsAre us ns := by
  induction ns with
  | nil => intro us r; rw [List.map_nil] at r; cases r; exact .nil
  | cons n ns ih =>
    intro us r
    rw [List.map_cons] at r
    cases r with
    | cons r1 r2 =>
      obtain ⟨t, e⟩ := r1
      subst e
      exact .cons n t (ih r2)

section
variable {X : Cx} {e : Expr} {te : TE} {lo hi : Option Expr} {tl th : TO} {pos p2 : Pos}

theorem po_none : PO X none tNoPart := by
  intro pins s σ H Q I h
  rw [evalPart_none]
  exact wpAny_pure ⟨none, H, I, .none, h⟩
theorem po_some (h : PE X e te) : PO X (some e) (tPart te) := by
  intro pins s σ H Q I hw
  rw [evalPart_some]
  refine thn (h pins s σ H _ I hw) fun u s1 ⟨x, H1, I1, r1, q1⟩ => ?_
  obtain ⟨i, rfl, q⟩ := q1
  obtain ⟨t, rfl⟩ := r1
  exact ⟨some i, H1, I1, .int i t, q⟩

/-- what a slice of a value is, by values: the slice object stands at sl -/
def SlR (X : Cx) (r : V → Option Int → Option Int → Hp → VK → Prop) : Prop :=
  ∀ (pins : List (Addr × Obj)) (s : Shared) (σ : St) (H : Hp) (x : V) (v vl vu : Value) (lo hi : Option Int) (sl : Addr) (Q : VK), Inv X pins σ H s → RelV x v → s.heap.IsSliceOf sl vl vu .none → IsPart vl lo → IsPart vu hi → r x lo hi H Q →
    ∃ T id, typeLookup (.type T) "__getitem__" = pure (some (.builtin id)) ∧ s.TypeIs v T ∧ wpAny (model X.prog X.w) X.A (getItem v (.ref sl)) (EP X pins σ Q) X.xe s
def tSl (r : V → Option Int → Option Int → Hp → VK → Prop) (te : TE) (tl th : TO) : TE := fun σ H Q => te σ H fun x H1 => tl σ H1 fun l H2 => th σ H2 fun u H3 => r x l u H3 Q
/-- a[lo:hi], any a -/
theorem pe_slice {r : V → Option Int → Option Int → Hp → VK → Prop} (hr : SlR X r) (he : PE X e te) (hl : PO X lo tl) (hu : PO X hi th) : PE X (.Subscript e (.Slice lo hi none p2) pos) (tSl r te tl th) := by
  intro pins s σ H Q I h
  refine Subscript_ (thn (he pins s σ H _ I h) fun v s1 ⟨x, H1, I1, r1, q1⟩ => ?_)
  refine wpAny_Slice (thn (hl pins s1 σ H1 _ I1 q1) fun vl s2 ⟨l, H2, I2, pl, q2⟩ => thn (hu pins s2 σ H2 _ I2 q2) fun vu s3 ⟨u, H3, I3, pu, q3⟩ => ?_)
  rw [evalPart_none]
  refine wpAny_pure ?_
  have I4 : Inv X pins σ H3 { s3 with heap := s3.heap.push { cls := .type "slice", data := .fields #[vl, vu, .none] } } := I3.kept (t' := s3.toks) fun b ob q => Heap.get?_push_of_some _ q
  obtain ⟨T, id, hT, ht, hg⟩ := hr pins { s3 with heap := s3.heap.push { cls := .type "slice", data := .fields #[vl, vu, .none] } } σ H3 x v vl vu l u s3.heap.objs.size Q I4 r1 (Heap.IsSliceOf.new ..) pl pu q3
  show wpAny (model X.prog X.w) X.A (subscriptTail e (.Slice lo hi none p2) v (.ref s3.heap.objs.size)) (EP X pins σ Q) X.xe { s3 with heap := s3.heap.push { cls := .type "slice", data := .fields #[vl, vu, .none] } }
  exact tail_any (ops := [.ref s3.heap.objs.size, v]) ht hT hg (by with_unfolding_all rfl)

/-- the items of xs[lo:hi] -/
def cutV (xs : List V) (lo hi : Option Int) : List V := (xs.drop (HT.sIx xs.length 0 lo)).take (HT.sIx xs.length xs.length hi - HT.sIx xs.length 0 lo)
theorem cutV_length (xs : List V) (lo hi : Option Int) : (cutV xs lo hi).length ≤ xs.length := by
  unfold cutV
  rw [List.length_take, List.length_drop]
  omega
/-! ### t < u, t + u -/
end
end L2

namespace L2
open PySem PySem.Spec PyProof.Rows

/-! ### places -/
/-- the place that an index of any sign means -/
def ixN (n : Nat) (i : Int) : Option Nat := if 0 ≤ i then (if i < n then some i.toNat else none) else if -(n : Int) ≤ i then some (i + n).toNat else none
def atI {α : Type} (xs : List α) (i : Int) : Option α := (ixN xs.length i).bind fun j => xs[j]?
theorem ixN_seq {n : Nat} {i : Int} {j : Nat} (h : ixN n i = some j) : seqIndex? i n = some j ∧ j < n ∧ -(n : Int) ≤ i ∧ i < n := by
  unfold ixN at h
  by_cases h0 : 0 ≤ i
  · rw [if_pos h0] at h
    by_cases h1 : i < n
    · rw [if_pos h1] at h
      have e : i.toNat = j := Option.some.inj h
      exact ⟨by rw [seqIndex_of h0 h1, e], by omega, by omega, h1⟩
    · rw [if_neg h1] at h; cases h
  · rw [if_neg h0] at h
    by_cases h1 : -(n : Int) ≤ i
    · rw [if_pos h1] at h
      have e : (i + n).toNat = j := Option.some.inj h
      exact ⟨by rw [seqIndex_neg (by omega) h1, e], by omega, h1, by omega⟩
    · rw [if_neg h1] at h; cases h
theorem atI_get {α : Type} {xs : List α} {i : Int} {v : α} (h : atI xs i = some v) : ∃ j, seqIndex? i xs.length = some j ∧ xs[j]? = some v ∧ j < xs.length ∧ -(xs.length : Int) ≤ i ∧ i < xs.length := by
  unfold atI at h
  cases e : ixN xs.length i with
  | none => rw [e] at h; cases h
  | some j =>
    rw [e] at h
    obtain ⟨h1, h2, h3, h4⟩ := ixN_seq e
    exact ⟨j, h1, h, h2, h3, h4⟩
theorem atI_nat {α : Type} {xs : List α} {j : Nat} {v : α} (h : xs[j]? = some v) : atI xs (j : Int) = some v := by
  have hj : j < xs.length := (List.getElem?_eq_some_iff.mp h).1
  have e : ixN xs.length (j : Int) = some j := by
    unfold ixN
    rw [if_pos (by omega), if_pos (by omega)]; simp
  unfold atI; rw [e]; exact h
theorem atI_last {α : Type} (xs : List α) (v : α) : atI (xs ++ [v]) (-1) = some v := by
  have hl : (xs ++ [v]).length = xs.length + 1 := by simp
  have e : ixN (xs ++ [v]).length (-1) = some xs.length := by
    unfold ixN
    rw [hl, if_neg (by decide), if_pos (by omega)]
    congr 1
    omega
  unfold atI
  rw [e]
  show (xs ++ [v])[xs.length]? = some v
  simp

/-! ### what may be subscripted -/
/-- what stands as an index of a plain subscript -/
def PlainIx (b : Expr) : Prop := ∀ o i, subscripted b false o i = operate [o, i] (getItem o i)
/-- a subscript by values -/
def IxR (X : Cx) (r : R2) : Prop :=
  ∀ (value slice : Expr) (pins : List (Addr × Obj)) (s : Shared) (σ : St) (H : Hp) (x y : V) (v u : Value) (Q : VK), Inv X pins σ H s → RelV x v → RelV y u → r x y H Q →
    subscripted slice false v u = operate [v, u] (getItem v u) → wpAny (model X.prog X.w) X.A (subscriptTail value slice v u) (EP X pins σ Q) X.xe s
/-- a call of a builtin's method by values: the receiver, the arguments -/
def MtR (X : Cx) (id : String) (r : V → List V → Hp → VK → Prop) : Prop :=
  ∀ (pins : List (Addr × Obj)) (s : Shared) (σ : St) (H : Hp) (x : V) (xs : List V) (v : Value) (us : List Value) (Q : VK), Inv X pins σ H s → RelV x v → Vals xs us → r x xs H Q →
    wpAny (model X.prog X.w) X.A (call (.builtin id) (v :: us)) (EP X pins σ Q) X.xe s
section
variable {X : Cx} {a b : Expr} {ta tb : TE} {pos : Pos}
/-- a[b] -/
theorem pe_ix {r : R2} (hr : IxR X r) (ha : PE X a ta) (hb : PE X b tb) (hs : PlainIx b) : PE X (.Subscript a b pos) (tOp r ta tb) := by
  intro pins s σ H Q I h
  exact Subscript_ (binT ha hb I h fun v u s2 x y H2 I2 rx ry q => hr a b pins s2 σ H2 x y v u Q I2 rx ry q (hs _ _))

def rIxL (K : PySem.W.Frag) : R2 := fun x y H Q => ∃ p xs i v, x = .ref p ∧ y = .int i ∧ SqL K H p xs ∧ atI xs i = some v ∧ Q v H
def rIxT (K : PySem.W.Frag) : R2 := fun x y H Q => ∃ p xs i v, x = .ref p ∧ y = .int i ∧ SqT K H p xs ∧ atI xs i = some v ∧ Q v H
theorem ix_list : IxR X (rIxL X.K) := by
  intro value slice pins s σ H x y v u Q I rx ry h hs
  obtain ⟨p, xs, i, z, rfl, rfl, hq, he, q⟩ := h
  cases rx
  obtain ⟨t, rfl⟩ := ry
  obtain ⟨its, r, pl, hz⟩ := I.list hq
  obtain ⟨j, h1, h2, h3, h4, h5⟩ := atI_get he
  obtain ⟨w, ew, rw'⟩ := r.get h2
  have hl := r.length
  have hn := line63
  have fin : EP X pins σ Q w s := ⟨z, H, I, rw', q⟩
  by_cases h0 : 0 ≤ i
  · have hj : i.toNat = j := by
      rw [seqIndex_of h0 h5] at h1
      exact Option.some.inj h1
    exact item_listR pl.isList h0 (by omega) (by rw [hj]; simpa using ew) fin hs
  · have hj : (i + (its.toArray.size : Int)).toNat = j := by
      rw [seqIndex_neg (by omega) h4] at h1
      rw [List.size_toArray, ← hl]
      exact Option.some.inj h1
    exact subscriptTail_builtinR (x := w) pl.isList.typeIs slot_list_getitem.lookup
      (wpAny_getItem_list_neg (Q := fun r s' => r = w ∧ EP X pins σ Q r s') pl.isList (by omega) (by rw [List.size_toArray] <;> omega) (by omega) (by rw [hj]; simpa using ew) ⟨rfl, fin⟩) hs
theorem ix_tup : IxR X (rIxT X.K) := by
  intro value slice pins s σ H x y v u Q I rx ry h hs
  obtain ⟨p, xs, i, z, rfl, rfl, hq, he, q⟩ := h
  cases rx
  obtain ⟨t, rfl⟩ := ry
  obtain ⟨its, r, pl, hz⟩ := I.tuple hq
  obtain ⟨j, h1, h2, h3, h4, h5⟩ := atI_get he
  obtain ⟨w, ew, rw'⟩ := r.get h2
  have hl := r.length
  have hn := line63
  have fin : EP X pins σ Q w s := ⟨z, H, I, rw', q⟩
  exact subscriptTail_builtinR (x := w) pl.typeIs slot_tuple_getitem.lookup
    (getItem_tuple (j := j) (Q := fun r s' => r = w ∧ EP X pins σ Q r s') pl (by omega) (by omega) (by rw [List.size_toArray, ← hl]; exact h1) (by simpa using ew) ⟨rfl, fin⟩) hs
/-! ### xs[i] = v, any sign -/
/-- the list's object behind a store -/
theorem mapSeq_set (its : List Value) (n j : Nat) (u : Value) : Obj.mapSeq (·.setIfInBounds j u) { cls := .type "list", data := .seq its.toArray n } = { cls := .type "list", data := .seq (its.set j u).toArray n } := by
  simp [Obj.mapSeq]
theorem Inv.lst {pins : List (Addr × Obj)} {σ : St} {H : Hp} {s : Shared} {p : Addr} {xs : List V} (I : Inv X pins σ H s) (h : H p = some (.lst xs)) :
    ∃ (its : List Value) (n : Nat), Vals xs its ∧ s.heap.get? p = some { cls := .type "list", data := .seq its.toArray n } ∧ xs.length ≤ sizeLine := by
  obtain ⟨z, its, n, r, e⟩ := I.hok p _ h
  exact ⟨its, n, r, e, z⟩
/-- the list at p is written by an update of its object -/
theorem Inv.lstUpd {pins : List (Addr × Obj)} {σ : St} {H : Hp} {s : Shared} {p : Addr} {xs ys : List V} {its its' : List Value} {n n' : Nat} {f : Obj → Obj} (I : Inv X pins σ H s) (h : H p = some (.lst xs))
    (ho : s.heap.get? p = some { cls := .type "list", data := .seq its.toArray n }) (hf : f { cls := .type "list", data := .seq its.toArray n } = { cls := .type "list", data := .seq its'.toArray n' }) (r : Vals ys its') (hz : ys.length ≤ sizeLine) (t : Nat) :
    Inv X pins σ (upd H p (.lst ys)) { s with heap := s.heap.update p f, toks := t } := by
  have e : (s.heap.update p f).get? p = some { cls := .type "list", data := .seq its'.toArray n' } := by
    rw [Heap.get?_update_self f ho (by rw [hf] <;> rfl), hf]
  refine I.write (x := p) (e := p) (by rw [h]; trivial) (.inl rfl) (fun b u hb q => (Heap.get?_update_other _ _ (Ne.symm hb)).trans q) ⟨_, e⟩ ?_
  exact ⟨hz, its', n', r, e⟩
def rSetL : V → V → V → Hp → (Hp → Prop) → Prop := fun o i v H Q => ∃ p xs k j, o = .ref p ∧ i = .int k ∧ H p = some (.lst xs) ∧ ixN xs.length k = some j ∧ Q (upd H p (.lst (xs.set j v)))
theorem set_list : PSet X rSetL := by
  intro pins s σ H o i v ov iv u Q I ro ri rv h
  obtain ⟨p, xs, k, j, rfl, rfl, hp, hj, q⟩ := h
  cases ro
  obtain ⟨t, rfl⟩ := ri
  obtain ⟨its, n, r, ho, hz⟩ := I.lst hp
  obtain ⟨h1, h2, h3, h4⟩ := ixN_seq hj
  have hl := r.length
  have hn := line63
  have I' : Inv X pins σ (upd H p (.lst (xs.set j v))) { s with heap := s.heap.update p (Obj.mapSeq (·.setIfInBounds j u)) } :=
    I.lstUpd hp ho (mapSeq_set its n j u) (r.set rv j) (by rw [List.length_set]; exact hz) s.toks
  by_cases h0 : 0 ≤ k
  · have hk : k.toNat = j := by
      rw [seqIndex_of h0 h4] at h1
      exact Option.some.inj h1
    exact PySem.W.ki_setAt ho h0 (by omega) (by rw [List.size_toArray, ← hl]; exact h4) (by rw [hk]; exact ⟨_, I', q⟩)
  · have hk : (k + (its.toArray.size : Int)).toNat = j := by
      rw [seqIndex_neg (by omega) h3] at h1
      rw [List.size_toArray, ← hl]
      exact Option.some.inj h1
    exact PySem.W.ki_setBack ho (by omega) (by rw [List.size_toArray, ← hl]; exact h3) (by omega) (by rw [hk]; exact ⟨_, I', q⟩)

/-! ### slices -/
theorem slice_bounds (lo hi : Option Int) (n : Nat) : (sliceBounds lo hi none n).1 = ((HT.sIx n 0 lo : Nat) : Int) ∧ (sliceBounds lo hi none n).2.1 = ((HT.sIx n n hi : Nat) : Int) ∧ (sliceBounds lo hi none n).2.2 = 1 := by
  refine ⟨?_, ?_, rfl⟩
  · cases lo with
    | none => simp [sliceBounds, HT.sIx]
    | some i =>
      simp only [sliceBounds, HT.sIx, Option.getD_none, show (1 : Int) > 0 by decide, if_true]
      by_cases h : i < 0
      · simp only [h, if_true] <;> omega
      · simp only [h, if_false] <;> omega
  · cases hi with
    | none => simp [sliceBounds, HT.sIx]
    | some i =>
      simp only [sliceBounds, HT.sIx, Option.getD_none, show (1 : Int) > 0 by decide, if_true]
      by_cases h : i < 0
      · simp only [h, if_true] <;> omega
      · simp only [h, if_false] <;> omega
theorem slicePick_cut (its : List Value) (lo hi : Option Int) : slicePick its.toArray lo hi none = ((its.drop (HT.sIx its.length 0 lo)).take (HT.sIx its.length its.length hi - HT.sIx its.length 0 lo)).toArray := by
  obtain ⟨h1, h2, h3⟩ := slice_bounds lo hi its.toArray.size
  unfold slicePick
  rw [h1, h2, h3]
  simp only [sliceRange_one, pick_run, List.size_toArray] <;> rfl
/-- xs[lo:hi] of a list: a new list -/
def rSlL (K : PySem.W.Frag) : V → Option Int → Option Int → Hp → VK → Prop := fun x lo hi H Q => ∃ a xs, x = .ref a ∧ SqL K H a xs ∧ ∀ p, H p = none → Q (.ref p) (upd H p (.lst (cutV xs lo hi)))
theorem sl_list : SlR X (rSlL X.K) := by
  intro pins s σ H x v vl vu lo hi sl Q I rx hs pl pu h
  obtain ⟨a, xs, rfl, hx, q⟩ := h
  cases rx
  obtain ⟨its, r, ht, hz⟩ := I.list hx
  have hlen := r.length
  refine ⟨"list", _, slot_list_getitem.lookup, ht.isList.typeIs, ?_⟩
  refine wpAny_getItem_list_slice ht.isList hs pl pu .none (by simp) ?_ (by rw [List.size_toArray] <;> omega)
  rw [slicePick_cut, ← hlen]
  refine ⟨.ref s.heap.objs.size, _, I.laid (t' := s.toks) (o := .lst (cutV xs lo hi)) (fun b ob q => Heap.get?_push_of_some _ q) (Nat.le_refl _) ?_, rfl, q _ (I.hok.fresh (Nat.le_refl _))⟩
  exact ⟨Nat.le_trans (cutV_length xs lo hi) hz, _, 0, (r.drop (HT.sIx xs.length 0 lo)).take (HT.sIx xs.length xs.length hi - HT.sIx xs.length 0 lo), Heap.get?_push_size _ rfl⟩

/-! ### in, not in: flat items -/
/-! ### len, list(x), tuple(x) of any list or tuple that is read -/
theorem call_len_seq : CallR X (.builtin "len") (fun xs H Q => ∃ p ys, xs = [.ref p] ∧ (SqL X.K H p ys ∨ SqT X.K H p ys) ∧ Q (.int ys.length) H) := by
  intro pins s σ H xs us Q I r h
  obtain ⟨p, ys, rfl, hq, q⟩ := h
  obtain ⟨u, rfl, rx⟩ := vals1 r
  cases rx
  have hn := line63
  rcases hq with hq | hq
  · obtain ⟨its, r', pl, hz⟩ := I.list hq
    have hlen := r'.length
    exact Calls.call_len_list pl.isList (by simp only [List.size_toArray] <;> omega) ⟨.int ys.length, H, I.tok _, ⟨s.toks + 1, by rw [List.size_toArray, hlen]⟩, q⟩
  · obtain ⟨its, r', pl, hz⟩ := I.tuple hq
    have hlen := r'.length
    exact len_tuple pl (by simp only [List.size_toArray] <;> omega) ⟨.int ys.length, H, I.tok _, ⟨s.toks + 1, by rw [List.size_toArray, hlen]⟩, q⟩
theorem call_list_of : CallR X (.type "list") (fun xs H Q => ∃ p ys, xs = [.ref p] ∧ (SqL X.K H p ys ∨ SqT X.K H p ys) ∧ ∀ l, H l = none → Q (.ref l) (upd H l (.lst ys))) := by
  intro pins s σ H xs us Q I r h
  obtain ⟨p, ys, rfl, hq, q⟩ := h
  obtain ⟨u, rfl, rx⟩ := vals1 r
  cases rx
  have fin : ∀ (its : List Value), Vals ys its → ys.length ≤ sizeLine → ∀ (h' : Heap) (c' : Nat), (∀ b o', s.heap.get? b = some o' → h'.get? b = some o') →
      h'.get? s.heap.objs.size = some { cls := .type "list", dict := none, data := .seq its.toArray c', slots := #[] } → EP X pins σ Q (.ref s.heap.objs.size) { s with heap := h' } := fun its r' hz h' c' kp e =>
    ⟨.ref s.heap.objs.size, _, I.laid (t' := s.toks) kp (Nat.le_refl _) (show ObjOk X.prog X.w _ h' _ (.lst ys) from ⟨hz, its, c', r', e⟩), rfl, q _ (I.hok.fresh (Nat.le_refl _))⟩
  rcases hq with hq | hq
  · obtain ⟨its, r', pl, hz⟩ := I.list hq
    have hlen := r'.length
    obtain ⟨o, ho, hc, n, hd⟩ := pl.isList
    exact call_list_seq p (.inl rfl) ho hc hd (fun h' c' kp e => fin its r' hz h' c' kp e) (by simp only [List.size_toArray] <;> omega)
  · obtain ⟨its, r', pl, hz⟩ := I.tuple hq
    have hlen := r'.length
    obtain ⟨o, ho, hc, n, hd⟩ := pl
    exact call_list_seq p (.inr rfl) ho hc hd (fun h' c' kp e => fin its r' hz h' c' kp e) (by simp only [List.size_toArray] <;> omega)
/-! ### the call of a builtin's method: o.m(..) -/
/-- the value is of that builtin type -/
def tyV (K : PySem.W.Frag) (T : String) (x : V) (H : Hp) : Prop := match x with
  | .str _ => T = "str"
  | .int _ => T = "int"
  | .ref p => (T = "list" ∧ ∃ xs, SqL K H p xs) ∨ (T = "tuple" ∧ ∃ o, K.lookup p = some o ∧ o.cls = .type "tuple" ∧ o.dict = none) ∨
      (T = "dict" ∧ ((∃ kvs, H p = some (.dK kvs)) ∨ ∃ kvs, H p = some (.dT kvs))) ∨ (T = "set" ∧ ∃ S n, H p = some (.set S n))
  | _ => False
theorem tyV_is {pins : List (Addr × Obj)} {σ : St} {H : Hp} {s : Shared} {T : String} {x : V} {v : Value} (I : Inv X pins σ H s) (r : RelV x v) (ty : tyV X.K T x H) :
    s.TypeIs v T ∧ ∀ a, v = .ref a → ∃ ob, s.heap.get? a = some ob ∧ ob.dict = none := by
  cases x with
  | str z =>
    obtain ⟨t, rfl⟩ := r
    cases (show T = "str" from ty)
    exact ⟨typeIs_str s z t, fun _ e => nomatch e⟩
  | int i =>
    obtain ⟨t, rfl⟩ := r
    cases (show T = "int" from ty)
    exact ⟨typeIs_int s i t, fun _ e => nomatch e⟩
  | ref p =>
    cases r
    rcases ty with ⟨rfl, xs, hq⟩ | ⟨rfl, o, hk, hc, hd⟩ | ⟨rfl, hk⟩ | ⟨rfl, S, n, hk⟩
    · obtain ⟨its, _, pl, _⟩ := I.list hq
      refine ⟨pl.isList.typeIs, fun a e => ?_⟩
      cases e
      obtain ⟨o, n, e, c, hd, _⟩ := pl
      exact ⟨o, e, hd⟩
    · refine ⟨⟨o, I.kIn p o hk, hc⟩, fun a e => ?_⟩
      cases e
      exact ⟨o, I.kIn _ o hk, hd⟩
    · have z : ∃ o, s.heap.get? p = some o ∧ o.ExactDict := by
        rcases hk with ⟨kvs, hk⟩ | ⟨kvs, hk⟩
        · obtain ⟨_, _, _, _, o, _, _, e, ex, _⟩ := I.hok p _ hk
          exact ⟨o, e, ex⟩
        · obtain ⟨_, _, _, _, o, _, _, e, ex, _⟩ := I.hok p _ hk
          exact ⟨o, e, ex⟩
      obtain ⟨o, e, ex⟩ := z
      refine ⟨⟨o, e, ex.1⟩, fun a e2 => ?_⟩
      cases e2
      exact ⟨o, e, ex.2.1⟩
    · obtain ⟨o, _, _, _, e, ex, _⟩ := I.hok p _ hk
      refine ⟨⟨o, e, ex.1⟩, fun a e2 => ?_⟩
      cases e2
      exact ⟨o, e, ex.2.1⟩
  | _ => exact False.elim ty
def tBM0 (K : PySem.W.Frag) (T : String) (r : V → List V → Hp → VK → Prop) (to : TE) : TE := fun σ H Q => to σ H fun x H1 => tyV K T x H1 ∧ r x [] H1 Q
def tBM (K : PySem.W.Frag) (T : String) (r : V → List V → Hp → VK → Prop) (to : TE) (t : TA) : TE := fun σ H Q => to σ H fun x H1 => tyV K T x H1 ∧ t σ H1 fun xs H2 => r x xs H2 Q
variable {o e : Expr} {es : List Expr} {to : TE} {t : TA} {name : Str} {apos cpos : Pos} {T id : String} {r : V → List V → Hp → VK → Prop}
theorem pe_bm0 (pa : PlainAttrs T) (slot : Slot T name id) (hty : typeOf (.builtin id) = pure (.type "method_descriptor")) (hm : MtR X id r) (ho : PE X o to)
    (hbase : attributeBase o name X.env (eval o X.env) = eval o X.env := by rfl) (hline : (apos.endLine == cpos.line) = true := by rfl) : PE X (.Call (.Attribute o name apos) [] [] cpos) (tBM0 X.K T r to) := by
  intro pins s σ H Q I h
  refine wpAny_Call_method0_late hbase hline (thn (ho pins s σ H _ I h) fun v s1 ⟨x, H1, I1, r1, ty, q1⟩ => ?_)
  obtain ⟨h1, h2⟩ := tyV_is I1 r1 ty
  exact ⟨T, id, pa, slot, hty, h1, h2, Calls.callWith_builtin rfl (PySem.evalArgs_none (hm pins s1 σ H1 x [] v [] Q I1 r1 .nil q1))⟩
theorem pe_bm (pa : PlainAttrs T) (slot : Slot T name id) (hty : typeOf (.builtin id) = pure (.type "method_descriptor")) (hm : MtR X id r) (ho : PE X o to) (ha : PA X (e :: es) t)
    (hbase : attributeBase o name X.env (eval o X.env) = eval o X.env := by rfl)
    (hfew : ((backTo cpos (starEach (e :: es) X.env)).all (fun x => !x.1) && (backToKw cpos (keywordEach [] X.env)).all (fun x => x.1.isSome)
      && decide ((e :: es).length + ([] : List Keyword).length + (if ([] : List Keyword).isEmpty then 0 else 1) < 30)) = true := by rfl)
    (hline : (apos.endLine == cpos.line) = true := by rfl) (hs : starEach (e :: es) X.env = (false, eval e X.env) :: starEach es X.env := by rfl) (hplain : (backTo cpos (starEach es X.env)).any (·.1) = false := by rfl) :
    PE X (.Call (.Attribute o name apos) (e :: es) [] cpos) (tBM X.K T r to t) := by
  intro pins s σ H Q I h
  refine wpAny_Call_method_late hbase hfew hline rfl (thn (ho pins s σ H _ I h) fun v s1 ⟨x, H1, I1, r1, ty, q1⟩ => ?_)
  obtain ⟨h1, h2⟩ := tyV_is I1 r1 ty
  refine ⟨T, id, pa, slot, hty, h1, h2, ?_⟩
  have hA := ha cpos pins s1 σ H1 _ I1 q1
  rw [hs] at hA ⊢
  refine Calls.callWith_builtin (by show (false || (backTo cpos (starEach es X.env)).any (·.1)) = false; rw [hplain] <;> rfl) (Calls.evalArgs_plain ?_)
  exact thn hA fun us s2 ⟨vs, H2, I2, r2, q2⟩ => hm pins s2 σ H2 x vs v us Q I2 r1 r2 q2
/- xs.append(e), list.index on a module's tuple .. are MtR facts of 06m -/
end
end L2

namespace L2
open PySem PySem.Spec PyProof.Rows

def MtM (X : Cx) (id : String) (r : V → List V → Hp → VK → Prop) : Prop :=
  ∀ (pins : List (Addr × Obj)) (s : Shared) (σ : St) (H : Hp) (x : V) (xs : List V) (v : Value) (us : List Value) (Q : VK), Inv X pins σ H s → RelV x v → Vals xs us → r x xs H Q →
    wpAny (model X.prog X.w) X.A (call (.builtin id) (v :: us)) (EP X pins σ Q) X.xe s

/-! ### lists of values -/
theorem Vals.one : ∀ {x : V} {us : List Value}, Vals [x] us → ∃ u, us = [u] ∧ RelV x u
  | _, _, .cons r .nil => ⟨_, rfl, r⟩
theorem Vals.two : ∀ {x y : V} {us : List Value}, Vals [x, y] us → ∃ u v, us = [u, v] ∧ RelV x u ∧ RelV y v
  | _, _, _, .cons r (.cons q .nil) => ⟨_, _, rfl, r, q⟩
theorem Vals.zero : ∀ {us : List Value}, Vals [] us → us = []
  | _, .nil => rfl
theorem Vals.dropLast {xs : List V} {us : List Value} (h : Vals xs us) : Vals xs.dropLast us.dropLast := by
  induction h with
  | nil => exact .nil
  | cons r t ih =>
    cases t with
    | nil => exact .nil
    | cons q t' => exact .cons r ih
theorem erase_last {α : Type} (l : List α) : l.eraseIdx (l.length - 1) = l.dropLast := by
  induction l with
  | nil => rfl
  | cons a r ih =>
    cases r with
    | nil => rfl
    | cons b r =>
      have e : (a :: b :: r).length - 1 = ((b :: r).length - 1) + 1 := by
        have h1 : (a :: b :: r).length = r.length + 2 := rfl
        have h2 : (b :: r).length = r.length + 1 := rfl
        omega
      rw [e, List.eraseIdx_cons_succ, ih]
      all_goals rfl
section
variable {X : Cx} {pins : List (Addr × Obj)} {σ : St} {H : Hp} {s : Shared} {l b : Addr} {xs ys zs : List V}

/-! ### the two steps: a tracked list is rewritten, a new list is laid -/
theorem Inv.lset {its its' : List Value} {n : Nat} {f : Array Value → Array Value} {t' : Nat} (I : Inv X pins σ H s) (hH : H l = some (.lst xs))
    (e : s.heap.get? l = some { cls := .type "list", data := .seq its.toArray n }) (hf : f its.toArray = its'.toArray) (hv : Vals ys its') (hz : ys.length ≤ sizeLine) :
    Inv X pins σ (upd H l (.lst ys)) { s with heap := s.heap.update l (Obj.mapSeq f), toks := t' } := by
  have q := PySem.IsL.update e f
  rw [hf] at q
  refine I.write (x := l) (e := l) (by rw [hH]; exact trivial) (.inl rfl) (fun b' u hb hu => (Heap.get?_update_other s.heap (Obj.mapSeq f) (Ne.symm hb)).trans hu) ⟨_, q⟩ ?_
  exact ⟨hz, its', _, hv, q⟩
theorem Inv.lnew {its : List Value} {t' : Nat} (I : Inv X pins σ H s) (hv : Vals ys its) (hz : ys.length ≤ sizeLine) :
    Inv X pins σ (upd H s.heap.objs.size (.lst ys)) { s with heap := s.heap.push { cls := .type "list", data := .seq its.toArray }, toks := t' } :=
  I.laid (fun _ _ q => Heap.get?_push_of_some _ q) (Nat.le_refl _) ⟨hz, its, 0, hv, Heap.get?_push_size _ rfl⟩
theorem Inv.fresh (I : Inv X pins σ H s) : H s.heap.objs.size = none := I.hok.fresh (Nat.le_refl _)
theorem Inv.lstM (I : Inv X pins σ H s) (hH : H l = some (.lst xs)) : xs.length ≤ sizeLine ∧ ∃ (its : List Value) (n : Nat), Vals xs its ∧ xs.length = its.length ∧ s.heap.get? l = some { cls := .type "list", data := .seq its.toArray n } := by
  obtain ⟨z, its, n, r, e⟩ := I.hok l _ hH
  exact ⟨z, its, n, r, r.length, e⟩

theorem notLongL {n : Nat} (h : n ≤ sizeLine) : Builtin.List.listTooLong n = false := by
  unfold Builtin.List.listTooLong
  exact decide_eq_false (by omega)
end

section
variable {X : Cx}

/-! ### methods -/
def rAppend : V → List V → Hp → VK → Prop := fun x vs H Q => ∃ l xs y, x = .ref l ∧ vs = [y] ∧ H l = some (.lst xs) ∧ xs.length < sizeLine ∧ Q .non (upd H l (.lst (xs ++ [y])))
theorem mt_append : MtM X "list.append" rAppend := by
  intro pins s σ H x vs v us Q I rx rv h
  obtain ⟨l, xs, y, rfl, rfl, hH, hz, q⟩ := h
  cases rx
  obtain ⟨u, rfl, ru⟩ := rv.one
  obtain ⟨z, its, n, r, hl, e⟩ := I.lstM hH
  refine call_meets F.slot_list_append ⟨_, e, rfl⟩ F.entry_list_append (F.args_list_append_2 _ _) (PySem.list_append l its.toArray n u (by rw [List.size_toArray]; omega)) ⟨e, ?_⟩
  refine ⟨.non, _, I.lset (its' := its ++ [u]) hH e (by simp) (r.append (.cons ru .nil)) ?_, rfl, q⟩
  rw [List.length_append, List.length_singleton]
  omega

def rExtend : V → List V → Hp → VK → Prop := fun x vs H Q => ∃ l b xs zs, x = .ref l ∧ vs = [.ref b] ∧ H l = some (.lst xs) ∧ H b = some (.lst zs) ∧ xs.length + zs.length ≤ sizeLine ∧ Q .non (upd H l (.lst (xs ++ zs)))
theorem mt_extend : MtM X "list.extend" rExtend := by
  intro pins s σ H x vs v us Q I rx rv h
  obtain ⟨l, b, xs, zs, rfl, rfl, hH, hB, hz, q⟩ := h
  cases rx
  obtain ⟨u, rfl, ru⟩ := rv.one
  cases ru
  obtain ⟨z, its, n, r, hl, e⟩ := I.lstM hH
  obtain ⟨z2, its2, n2, r2, hl2, e2⟩ := I.lstM hB
  have hsz : its.toArray.size + its2.toArray.size ≤ sizeLine := by rw [List.size_toArray, List.size_toArray]; omega
  have hlong : ¬ (!its.toArray.isEmpty && Builtin.List.listTooLong (its.toArray.size + its2.toArray.size)) = true := by
    rw [notLongL hsz, Bool.and_false]
    exact Bool.false_ne_true
  refine call_meets F.slot_list_extend ⟨_, e, rfl⟩ F.entry_list_extend (F.args_list_extend_2 _ _)
    (AutoSeq1.list_extend_list_list_0 l its.toArray n b its2.toArray n2 hlong (by rw [List.size_toArray]; omega) (by omega)) ⟨e, e2, ?_⟩
  refine ⟨.non, _, I.lset (its' := its ++ its2) hH e (by simp) (r.append r2) ?_, rfl, q⟩
  rw [List.length_append]
  omega

def rPop : V → List V → Hp → VK → Prop := fun x vs H Q => ∃ l xs y, x = .ref l ∧ vs = [] ∧ H l = some (.lst xs) ∧ xs[xs.length - 1]? = some y ∧ Q y (upd H l (.lst xs.dropLast))
theorem mt_pop : MtM X "list.pop" rPop := by
  intro pins s σ H x vs v us Q I rx rv h
  obtain ⟨l, xs, y, rfl, rfl, hH, hy, q⟩ := h
  cases rx
  have hus := rv.zero
  subst hus
  obtain ⟨z, its, n, r, hl, e⟩ := I.lstM hH
  obtain ⟨u, hu, ru⟩ := r.get hy
  have hy' : its.toArray[its.toArray.size - 1]? = some u := by
    show its.toArray[its.length - 1]? = some u
    rw [← Array.getElem?_toList, ← hl]
    exact hu
  refine call_meets F.slot_list_pop ⟨_, e, rfl⟩ F.entry_list_pop (F.args_list_pop_1 _) (MeetsSeq.list_pop_last l its.toArray n u hy' (by rw [List.size_toArray]; omega)) ⟨e, ?_⟩
  refine ⟨y, _, I.lset (its' := its.dropLast) hH e ?_ r.dropLast ?_, ru, q⟩
  · show its.toArray.eraseIdxIfInBounds (its.toArray.size - 1) = its.dropLast.toArray
    rw [List.size_toArray, List.eraseIdxIfInBounds_toArray, erase_last]
  · rw [List.length_dropLast]
    omega

/-! ### list + list, list += list, list * int -/
def rCat : R2 := fun x y H Q => ∃ l b xs zs, x = .ref l ∧ y = .ref b ∧ H l = some (.lst xs) ∧ H b = some (.lst zs) ∧ xs.length + zs.length ≤ sizeLine ∧ ∀ p, H p = none → Q (.ref p) (upd H p (.lst (xs ++ zs)))
theorem op_cat : OpR X (binaryOp .Add) rCat := by
  intro pins s σ H x y v u Q I rx ry h
  obtain ⟨l, b, xs, zs, rfl, rfl, hH, hB, hz, q⟩ := h
  cases rx
  cases ry
  obtain ⟨z, its, n, r, hl, e⟩ := I.lstM hH
  obtain ⟨z2, its2, n2, r2, hl2, e2⟩ := I.lstM hB
  refine PySem.P.add_list e e2 ?_ (by rw [List.size_toArray, List.size_toArray]; omega)
  have ea : its.toArray ++ its2.toArray = (its ++ its2).toArray := by simp
  rw [ea]
  exact ⟨.ref _, _, I.lnew (t' := s.toks) (r.append r2) (by rw [List.length_append]; omega), rfl, q _ I.fresh⟩
/-! ### del xs[i] -/
end

/-! ### xs[a:b] = ys -/
section
variable {prog : Program} {w : World} {A : Around} {E : Value → Shared → Prop} {s : Shared}
end

section
variable {X : Cx}
end
end L2

namespace Att
open PySem PySem.W PySem.Calls PyProof.Rows

/-! ### the script -/
theorem ints_of_wellAll {P : Params} {h : Heap} : ∀ (ns : List Int) (vs : List Value), WellAll P h vs (ns.map WData.int) → IntsAre vs ns := by
  intro ns
  induction ns with
  | nil =>
    intro vs w
    rw [List.map_nil] at w
    cases w
    exact .nil
  | cons n ns ih =>
    intro vs w
    rw [List.map_cons] at w
    cases w with
    | cons a b =>
      cases a
      exact .cons _ _ (ih _ b)

theorem script_of {l : OpenLaw} {n : Nat} (hn : l.most = some n) {P : Params} {h : Heap} {args : List WData} {vals : List Value}
    (hpre : l.row.toRowW.claim.pre args = true) (hwl : WellAll P h vals args) :
    ∃ a vs ns, vals = [Value.ref a] ∧ args = [WData.list (ns.map WData.int)] ∧ h.get? a = some { cls := .type "list", data := .seq vs.toArray } ∧ IntsAre vs ns ∧ ns.length ≤ n := by
  have hsh : WShape.hasAll [] args [.list .int] = true := (pre_splitW hpre).1
  have hc : l.pre.holds [] { args := args } = true := (pre_splitW hpre).2
  obtain ⟨d, r, rfl, h1, h2⟩ := hasAllW_cons hsh
  obtain rfl := hasAllW_nil h2
  obtain ⟨xs, rfl, h3⟩ := hasW_list h1
  obtain ⟨ns, rfl⟩ := items_int h3
  have hlen : ns.length ≤ n := by
    unfold OpenLaw.pre at hc
    have h4 : (WTm.not (.lt (.lit (.int (n : Int))) (.len (.arg 0)))).holds [] { args := [.list (ns.map .int)] } = true := by
      have h4 := (holds_andW hc).1
      rw [hn] at h4
      exact h4
    have h5 := condW_of h4 (w_not (w_lt w_lit (w_len_list (w_arg rfl))))
    rw [List.length_map] at h5
    refine Nat.le_of_not_lt fun q => ?_
    have q' : (n : Int) < ((ns.length : Nat) : Int) := by omega
    first
      | (rw [decide_eq_true q'] at h5; exact absurd h5 (by decide))
      | (simp at h5; omega)
  cases hwl with
  | cons w1 w2 =>
    cases w2
    cases w1 with
    | list ho hall => exact ⟨_, _, ns, rfl, rfl, ho, ints_of_wellAll ns _ hall, hlen⟩

theorem post_true (l : OpenLaw) (args : List WData) : l.row.toRowW.claim.post args (.bool true) args = true :=
  postW_of (r := l.row.toRowW) (X := (true == true))
    (show WShape.has [] (.bool true) .bool = true by first | rfl | decide | simp [WShape.has, WShape.arms, WShape.armsAll])
    (show (WTm.eq .res (.lit (.bool true))).value [] { args := args, res := some (.bool true), after := args } = some (.bool (true == true)) from w_eq_bool (w_res rfl) w_lit) rfl

/-! ### the attachment: holds_open's last premise (the goal 'hc' behind k_head) from a wpAny of the law's body -/
/-- the same from a codeAny of the CALL (for a layer whose function contracts speak of calls) -/
theorem attach_call {l : OpenLaw} {n : Nat} {q : Program} {loose : List Str} {XP : (Str → Option Value) → Heap → Prop} {YP : World → Heap → Prop} {d : DefRec}
    (hn : l.most = some n) (hdf : d.params.defaults = [])
    (call : ∀ (w : World) (s₀ s₁ : Shared) (mg mb : Str → Option Value) (fa : Addr) (o : Obj) (pm cd doc : Value) (a : Addr) (vs : List Value) (ns : List Int),
      Ground q loose [] XP w s₀ mg mb s₁.heap → YP w s₁.heap →
      s₁.heap.get? fa = some o → o.data = .func (docDef d.name d.params d.body d.scope pm cd doc) → s₁.heap.CodeRec cd d.name → mg d.name = some (.ref fa) →
      s₁.heap.get? a = some { cls := .type "list", data := .seq vs.toArray } → IntsAre vs ns → ns.length ≤ n → s₁.gens = #[] →
      codeAny (model l.prog w) callerA (.call (.ref fa) ⟨[.ref a], []⟩) (fun r s' => r = .ok (.ret (.bool true)) ∧ OldK s₁.heap s'.heap ∧ s'.os = s₁.os ∧ AllBare s'.gens) s₁) :
    WalkO q loose XP YP l.row.toRowW d [] (fun f vs => PySem.call f vs) := by
  intro w s₀ s₁ mg mb G Y fa o pm cd doc dV kV ho hd hcd hD hmg hg args vals as hpre hlay hrd hwl hlo
  obtain rfl : dV = .none := Dflts.none hD hdf
  obtain rfl : kV = .none := Dflts.noKw hD
  obtain ⟨a, vs, ns, rfl, rfl, hobj, hints, hlen⟩ := script_of hn hpre hwl
  refine enter_call (codeAny_mono (call w s₀ s₁ mg mb fa o pm cd doc a vs ns G Y ho (fd_plain hd) hcd hmg hobj hints hlen hg) fun r s' hq => ?_)
  obtain ⟨rfl, h2, h3, h4⟩ := hq
  exact ⟨.inl ⟨.bool true, .bool true, [], rfl, fun _ => rfl, .bool true, post_true l _, fun _ => ⟨List.Pairwise.nil, fun _ hm => (nomatch hm)⟩⟩, h2, h3, h4⟩

/-! ### rules over ANY heap (no ledger) from facts about the written part K: the library's own take a ledger (News) for what they write -/
section
variable {prog : Program} {w : World} {A : Around} {E : Value → Shared → Prop} {s : Shared} {K : Frag}

/-! the whole heap as the ledger: makes every rule that writes through a ledger a rule over any heap -/
end
end Att

namespace L2
open PySem PySem.Spec PyProof.Rows

theorem vals_ints : ∀ {vs : List Value} {ns : List Int}, IntsAre vs ns → Vals (ns.map V.int) vs
  | _, _, .nil => .nil
  | _, _, .cons n t h => .cons ⟨t, rfl⟩ (vals_ints h)

/-- nothing is tracked but the script, known to the object (or it is an object of the module) -/
def Only (H : Hp) : Prop := ∀ b, H b = none ∨ ∃ o xs, H b = some (.frz o (.lst xs))

/-- THE HEAD: the law's promise, at the heap behind the top. F, the promise of the law's def, may use that base is part of the heap (so K.In base, base.Ns mainGlobals mg stand in Mod) -/
theorem law_call {P : Program} {w : World} {K : PySem.W.Frag} {mg mb : Str → Option Value} {CX : CXT} {k : Nat} {fa a : Addr} {fd : FuncData} {x : Str} {sp : Sp} {s₁ : Shared} {vs : List Value} {ns : List Int}
    (KX : K.In s₁.heap) (hns : s₁.heap.Ns mainGlobals mg) (hb : s₁.heap.Ns builtinsNs mb) (hbb : ∀ x : Str, x ≠ "__name__" → mb x = bootBuiltins x) (hlim : s₁.heap.NoLimit) (hg : s₁.gens = #[])
    (ha : s₁.heap.get? a = some { cls := .type "list", data := .seq vs.toArray }) (hi : IntsAre vs ns) (hl : ns.length ≤ sizeLine) (hr : Room k callerA)
    (F : ∀ base : Heap, K.In base → base.Ns mainGlobals mg → FnOk P w K mg base CX k fa fd [x] sp) (hbind : ∀ (s : Shared) (u : Value), BindsTo s fd ⟨[u], []⟩ [(x, u)])
    (hsp : ∀ H : Hp, Only H → SqL K H a (ns.map V.int) → sp [.ref a] H (fun v _ => v = .bl true) fun _ _ _ => False)
    (hCX : ∀ H e s', CX [] H s₁ (fun _ _ _ => False) e s' → False) :
    codeAny (model P w) callerA (.call (.ref fa) ⟨[.ref a], []⟩) (fun r s' => r = .ok (.ret (.bool true)) ∧ OldK s₁.heap s'.heap ∧ s'.os = s₁.os ∧ AllBare s'.gens) s₁ := by
  have rv := vals_ints hi
  have lenV := hi.length
  -- from an abstract heap in which nothing but the script may be tracked
  have core : ∀ H : Hp, Only H → SqL K H a (ns.map V.int) → HOk P w H s₁.heap → (∀ b, H b ≠ none → b = a) → (H a ≠ none → K.lookup a = none) →
      codeAny (model P w) callerA (.call (.ref fa) ⟨[.ref a], []⟩) (fun r s' => r = .ok (.ret (.bool true)) ∧ OldK s₁.heap s'.heap ∧ s'.os = s₁.os ∧ AllBare s'.gens) s₁ := by
    intro H hO hS hok hA hK
    have base_of : ∀ {b : Addr} {o : Obj}, s₁.heap.get? b = some o → H b = none → (hidT s₁.heap H).get? b = some o := fun e n => hidT_get e n
    have noA : ∀ {b : Addr} {o : Obj} {es : Array DictEntry} {ep : Nat}, s₁.heap.get? b = some o → o.data = .dict es ep → H b = none := fun {b o es ep} e d => by
      cases q : H b with
      | none => rfl
      | some u =>
        have e' : b = a := hA b (by rw [q]; simp)
        subst e'
        rw [ha] at e; cases e
        have d' : Data.seq vs.toArray _ = Data.dict es ep := d
        cases d'
    have nsK : ∀ {b : Addr} {m : Str → Option Value}, s₁.heap.Ns b m → (hidT s₁.heap H).Ns b m := fun {b m} ⟨o, es, ep, e, d, r⟩ => ⟨o, es, ep, base_of e (noA e d), d, r⟩
    have hKb : K.In (hidT s₁.heap H) := fun b o e => base_of (KX b o e) (by
      cases q : H b with
      | none => rfl
      | some u =>
        have e' : b = a := hA b (by rw [q]; simp)
        subst e'
        rw [hK (by rw [q]; simp)] at e; cases e)
    have hM : Mod K mg (hidT s₁.heap H) := ⟨hKb, nsK hns, ⟨mb, nsK hb, hbb⟩, let ⟨mc, h1, h2⟩ := hlim; ⟨mc, nsK h1, h2⟩⟩
    have e0 : Env0 P w K mg (hidT s₁.heap H) callerA [] s₁ H := ⟨rfl, hM, fun b o e => of_hidT e, Nat.le_of_eq (hidT_size _ _), trivial, fun b hb => absurd (show b ∈ ([] : List Addr) from hb) (by simp), hok, .of_eq hg⟩
    refine codeAny_mono ((F _ hKb (nsK hns)).run callerA [] s₁ H ⟨[.ref a], []⟩ [.ref a] [.ref a] _ _ hr e0 (hbind s₁ (.ref a)) (.cons rfl .nil) (hsp H hO hS)) fun r s' h => ?_
    cases r with
    | error e => exact (hCX H e s' h).elim
    | ok fl =>
      cases fl with
      | next => exact False.elim h
      | brk => exact False.elim h
      | cont => exact False.elim h
      | ret u =>
        obtain ⟨v, H', os, bare, un, hok', r', q⟩ := h
        have q' : v = .bl true := q
        subst q'
        obtain rfl : u = Value.bool true := r'
        refine ⟨rfl, OldK.of_keep fun b o e => ?_, os, bare⟩
        cases q : H b with
        | none => exact un.keep b o e q (by intro z; exact absurd (show b ∈ ([] : List Addr) from z) (by simp)) (by simp)
        | some u =>
          rcases hO b with z | ⟨ob, xs, z⟩
          · rw [q] at z; cases z
          · have z2 := un.frzs b ob _ z
            obtain ⟨e1, _⟩ := hok b _ z
            obtain ⟨e2, _⟩ := hok' b _ z2
            rw [e] at e1; cases e1
            exact e2
  cases hk : K.lookup a with
  | some o =>
    -- the script is one of the module's own objects
    have e := KX a o hk
    rw [ha] at e
    cases e
    refine core (fun _ => none) (fun _ => .inl rfl) (.inr ⟨_, vs.toArray, _, hk, rfl, rfl, rfl, by rw [List.size_toArray, lenV]; exact hl, by simpa using rv⟩) (fun b u z => by have z' : (none : Option HO) = some u := z; cases z') (fun b z => absurd rfl z) fun z => absurd rfl z
  | none =>
    refine core (fun b => if b = a then some (.frz { cls := .type "list", data := .seq vs.toArray } (.lst (ns.map V.int))) else none) (fun b => ?_) (.inl (.inr ⟨{ cls := .type "list", data := .seq vs.toArray }, if_pos rfl⟩)) (fun b u z => ?_) (fun b z => ?_) fun _ => hk
    · by_cases hb : b = a
      · exact .inr ⟨_, _, if_pos hb⟩
      · exact .inl (if_neg hb)
    · by_cases hb : b = a
      · have z' := (if_pos hb).symm.trans z
        cases z'
        subst hb
        exact ⟨ha, by rw [List.length_map]; exact hl, vs, _, rv, ha⟩
      · have z' := (if_neg hb).symm.trans z
        cases z'
    · by_cases hb : b = a
      · exact hb
      · exact absurd (if_neg hb) z
end L2

namespace L2
open PySem PySem.Spec PyProof.Rows

/-- the goal that k_head leaves (case hc), from the law's promise. F gives the function object fd (K's own) once, then the promise over every base -/
theorem walk_of {l : PySem.W.OpenLaw} {n k : Nat} {q : Program} {loose : List Str} {XP : (Str → Option Value) → Heap → Prop} {YP : World → Heap → Prop} {d : DefRec} {K : Params → PySem.W.Frag} {CX : World → CXT} {sp : World → Sp} {x : Str}
    (hn : l.most = some n) (hn2 : n ≤ sizeLine) (hdf : d.params.defaults = []) (hr : Room k callerA)
    (hY : ∀ (w : World) (h : Heap), YP w h → (K w.params).In h)
    (F : ∀ (w : World) (mg : Str → Option Value) (fa : Addr) (h : Heap), (K w.params).In h → h.Ns mainGlobals mg → mg d.name = some (.ref fa) →
      ∃ fd : FuncData, (∀ (s : Shared) (u : Value), BindsTo s fd ⟨[u], []⟩ [(x, u)]) ∧
        ∀ base : Heap, (K w.params).In base → base.Ns mainGlobals mg → FnOk l.prog w (K w.params) mg base (CX w) k fa fd [x] (sp w))
    (hsp : ∀ (w : World) (H : Hp) (a : Addr) (ns : List Int), ns.length ≤ n → Only H → SqL (K w.params) H a (ns.map V.int) → sp w [.ref a] H (fun v _ => v = .bl true) fun _ _ _ => False)
    (hCX : ∀ (w : World) (H : Hp) (s : Shared) (e : Value) (s' : Shared), CX w [] H s (fun _ _ _ => False) e s' → False) :
    PySem.W.WalkO q loose XP YP l.row.toRowW d [] (fun f vs => PySem.call f vs) := by
  refine Att.attach_call hn hdf fun w s₀ s₁ mg mb fa o pm cd doc a vs ns G Y ho hd hcd hmg hobj hints hlen hg => ?_
  have KX := hY w _ Y
  obtain ⟨fd, hb, hF⟩ := F w mg fa _ KX G.T.g hmg
  exact law_call KX G.T.g G.T.b G.T.builtins G.T.nolimit hg hobj hints (Nat.le_trans hlen hn2) hr hF hb (fun H hO hS => hsp w H a ns hlen hO hS) fun H e s' => hCX w H s₁ e s'
end L2

/- THE LAST THEOREM (shape; LID, My.* are yours):
   My.Adr: a structure of the addresses that your layer names (classes, functions); My.Txt K t: a structure (Prop) of the equations over K;
   My.txt_mk : {K} {implicit addresses ..} (e1 : nsIn K mainGlobals "law" = some (some (.ref f))) (e2 : K.lookup f = some ⟨oc, od, .func (fnOf "law" "law" params body scope dV kV doc pm an cdv ct), sl⟩) (e3 : codeIn K cdv "law" = true) .. : ∃ t, My.Txt K t

set_option maxRecDepth 100000 in
set_option maxHeartbeats 0 in
theorem PySem.Challenge.cw_LID_holds : PySem.Challenge.rw_LID.Holds := by
  w_on; o_law; k_head; (case hw => w_witness2)
  k_fill
  refine L2.walk_of (l := PySem.Challenge.rw_LID) (n := 63) (k := 40) (x := "script") (CX := fun w => ..) (sp := fun _ => My.sp_law) rfl (by decide) rfl ⟨rfl, by decide, by decide⟩ (fun w h Y => PySem.W.kIn_of Y) ?F ?S ?C
  case F =>
    intro w mg fa h KX G hmg
    have T : ∃ t, My.Txt (L2.KOf KX) t := by
      dsimp only [L2.KOf]                          -- K must stand as «<heap const> w.params» for k_is
      refine' My.txt_mk ?e1 ?e2 ?e3 ..
      (case e1 => PySem.W.k_is)                    -- in the order: a name -> its address -> its object -> its parts
      (case e2 => PySem.W.k_is)
      ..
    obtain ⟨t, T⟩ := T
    have e0 := hmg.symm.trans (PySem.W.mg_of KX G T.law)
    cases e0                                       -- fa is the law's own address
    exact ⟨_, fun s u => .of_eq rfl, fun base kb nb => My.law_fn T kb nb⟩     -- if «.of_eq rfl» comes too early: refine' ⟨_, ?b, fun base kb nb => My.law_fn T kb nb⟩; exact fun s u => .of_eq rfl
  case S => exact fun w H a ns hl hO hS => ..
  case C => exact ..
(the tactic k_is has no namespace: write k_is) -/

/-! SHORT WORDS over the layer: a def of the text, its body, what a loop and a test want. -/
namespace L2
open PySem PySem.Spec PyProof.Rows

/-! ### the text by places -/
def defArgs (s : Stmt) : Arguments := match s with
  | .FunctionDef _ a _ _ _ _ _ _ _ _ => a
  | _ => { posonlyargs := [], args := [], vararg := none, kwonlyargs := [], kw_defaults := [], kwarg := none, defaults := [] }
def defBody (s : Stmt) : List Stmt := match s with
  | .FunctionDef _ _ b _ _ _ _ _ _ _ => b
  | _ => []
def defScope (s : Stmt) : Scope := match s with
  | .FunctionDef _ _ _ _ _ _ sc _ _ _ => sc
  | _ => { kind := .function, names := [], isGenerator := false, isCoroutine := false }

/-! ### no exception leaves a def -/
abbrev CX0 : CXT := fun _ _ _ _ _ _ => False
abbrev E0 : XK := fun _ _ _ => False
theorem pass0 {X : Cx} : Passes CX0 X E0 := fun _ _ _ _ _ _ _ h => h.elim

/-! ### a def (or method) of the text as it stands behind the top -/
structure Fun (K : PySem.W.Frag) (x qual : Str) (st : Stmt) (f : Addr) (fd : FuncData) : Prop where
  ex : ∃ (oc : Value) (od : Option Addr) (kV doc pm : Value) (an : Option Addr) (cdv ct : Value) (osl : Array (Option Value)),
    fd = PySem.W.fnOf x qual (defArgs st) (defBody st) (defScope st) .none kV doc pm an cdv ct ∧ K.lookup f = some ⟨oc, od, .func fd, osl⟩ ∧ PySem.W.codeIn K cdv qual = true
  kp : PySem.W.keepIn K (.ref f) = true
section
variable {P : Program} {w : World} {K : PySem.W.Frag} {mg : Str → Option Value} {base : Heap}
/-- THE RULE for a def: its body as a term of rules, and the reading of that term -/
theorem Fun.ok {x qual : Str} {st : Stmt} {f : Addr} {fd : FuncData} {N ps : List Str} {k : Nat} {sp : Sp} (F : Fun K x qual st f fd) (S : FnScope N ps (defScope st)) (len : ∀ vs H Q E, sp vs H Q E → vs.length = ps.length)
    (hbody : ∀ (cdv : Value) (A : Around) (outer : List Env) (s : Shared) (H : Hp) (vs : List V) (Q : VK) (E : XK), Room k (A.deeper (envOfC qual (defScope st) s.heap.objs.size f cdv)) → sp vs H Q E →
      ∃ t, PSs (cxOf CX0 P w K mg base N qual (defScope st) f cdv A outer s H E).nox (defBody st) t ∧ t { nx := fun _ H' => Q .non H', rt := Q } (start N vs) H) : FnOk P w K mg base CX0 (k + 1) f fd ps sp := by
  obtain ⟨oc, od, kV, doc, pm, an, cdv, ct, osl, rfl, lk, hcd⟩ := F.ex
  refine fn_of lk hcd S len fun A outer s H vs Q E hr hsp => ?_
  obtain ⟨t, h, q⟩ := hbody cdv A outer s H vs Q E hr hsp
  exact ⟨t, h.nox, q⟩
/-- how its arguments bind (no defaults): h is «fun _ _ _ _ _ _ us hl => match us, hl with | [_, _], _ => rfl», one _ a parameter -/
theorem Fun.binds {x qual : Str} {st : Stmt} {f : Addr} {fd : FuncData} {ps : List Str} (F : Fun K x qual st f fd)
    (h : ∀ (kV doc pm : Value) (an : Option Addr) (cdv ct : Value) (us : List Value), us.length = ps.length → bindArgs (PySem.W.fnOf x qual (defArgs st) (defBody st) (defScope st) .none kV doc pm an cdv ct) ⟨us, []⟩ = pure (ps.zip us)) : Binds K fd ps [] := by
  obtain ⟨oc, od, kV, doc, pm, an, cdv, ct, osl, rfl, lk, hcd⟩ := F.ex
  exact .all (h kV doc pm an cdv ct)
theorem fun_mk {x qual : Str} {st : Stmt} {f : Addr} {oc : Value} {od an : Option Addr} {osl : Array (Option Value)} {kV doc pm cdv ct : Value} (l : K.lookup f = some ⟨oc, od, .func (PySem.W.fnOf x qual (defArgs st) (defBody st) (defScope st) .none kV doc pm an cdv ct), osl⟩)
    (c : PySem.W.codeIn K cdv qual = true) (k : PySem.W.keepIn K (.ref f) = true) : Fun K x qual st f (PySem.W.fnOf x qual (defArgs st) (defBody st) (defScope st) .none kV doc pm an cdv ct) := ⟨⟨oc, od, kV, doc, pm, an, cdv, ct, osl, rfl, l, c⟩, k⟩
end
theorem hu_of {A : Around} {k : Nat} (hr : Room k A) : A.units + 1 < cLine := Nat.lt_of_le_of_lt (Nat.add_le_add_left (by decide : 1 ≤ 64) _) hr.units
/-! ### expressions in short: the name that stands in the i-th slot -/
section
variable {X : Cx}
theorem pv (i : Nat) {x : Str} {pos : Pos} (hN : X.N[i]? = some x := by rfl) (hv : Vis X.env.scope x := by first | exact Or.inl rfl | exact Or.inr (Or.inl rfl) | exact Or.inr (Or.inr rfl)) (hd : (x == ("__debug__" : Str)) = false := by decide)
    (hcd : (x == ("__classdict__" : Str)) = false := by decide) : PE X (.Name x pos) (tVar i) := pe_var hN hv hd hcd
end

/-! ### tests -/
theorem iteF {A B : Prop} (h : B) : if false = true then A else B := by
  rw [if_neg Bool.false_ne_true]
  exact h
theorem iteT {A B : Prop} (h : A) : if true = true then A else B := by
  rw [if_pos rfl]
  exact h
theorem ite2 {c A B : Prop} [Decidable c] (h1 : c → A) (h2 : ¬ c → B) : if c then A else B := by
  by_cases h : c
  · rw [if_pos h]
    exact h1 h
  · rw [if_neg h]
    exact h2 h
theorem iteNS {c A B : Prop} [Decidable c] (hc : c) (h : B) : if (!decide c) = true then A else B := by
  rw [decide_eq_true hc]
  exact iteF h

/-! ### heaps -/
/-- all that was tracked is as it was -/
def Same (H H' : Hp) : Prop := ∀ b o, H b = some o → H' b = some o
theorem Same.refl (H : Hp) : Same H H := fun _ _ h => h
theorem Same.trans {H H1 H2 : Hp} (a : Same H H1) (b : Same H1 H2) : Same H H2 := fun c o h => b c o (a c o h)
theorem Same.free {H H' : Hp} (e : Same H H') {l : Addr} (h : H' l = Option.none) : H l = Option.none := by
  cases q : H l with
  | none => rfl
  | some o =>
    rw [e l o q] at h
    cases h
end L2

namespace InkX
open PySem PySem.Spec PyProof.Rows L2

/-! ### isinstance, as a call by values -/
section
variable {X : Cx}
theorem call_isinst : CallR X (.builtin "isinstance") (fun xs H Q => ∃ x T t b, xs = [x, .ty T] ∧ TyOf X.K H x t ∧ PySem.W.kitOne X.K t (.type T) = some b ∧ Q (.bl b) H) := by
  intro pins s σ H xs us Q I r h
  obtain ⟨x, T, t, b, rfl, ty, e, q⟩ := h
  obtain ⟨u, v, rfl, rx, rv⟩ := r.two
  cases (show v = Value.type T from rv)
  exact isinst_ok I rx ty e fun tk => ⟨.bl b, H, I.tok tk, rfl, q⟩
/-- a built-in type as a value -/
theorem pe_ty {x : Str} {T : String} {pos : Pos} (hg : Gl X x) (hm : X.mg x = none) (hv : bootBuiltins x = some (.type T)) (hn : x ≠ "__name__" := by decide) (hd : (x == ("__debug__" : Str)) = false := by decide) : PE X (.Name x pos) (tC (.ty T)) :=
  pe_bltn hg hm hv rfl hn hd
end

/-! ### several untracked records of ours have turned -/
theorem turnedN {X : Cx} {pins : List (Addr × Obj)} {σ : L2.St} {H : Hp} {s : Shared} {h' : Heap} {t' : Nat} {ch : List Addr} (I : Inv X pins σ H s) (k : ∀ b o, b ∉ ch → s.heap.get? b = some o → h'.get? b = some o)
    (hf : ∀ b ∈ ch, FpOk X pins H b) : Inv X pins σ H { s with heap := h', toks := t' } := by
  have nit : ∀ b u, H b = some u → b ∉ ch := fun b u e z => by rw [(hf b z).1] at e; cases e
  refine I.step (g' := s.gens) (d' := s.drawn) (ch := ch) (fun b hb => ?_) (fun b o _ _ hc e _ => k b o hc e) (fun b o _ _ hc e _ => ⟨o.slots, k b o hc e⟩) (fun _ _ _ _ n => n)
    (fun b o hc e => ⟨o, k b o hc e⟩) (fun _ _ e => e) (fun _ _ _ e => e) (fun b ps e => ⟨#[], by rw [e]; simp⟩) (fun m hm => ?_) (fun b u e => ?_) I.bare
  · obtain ⟨_, f1, _, f3, f4, f5⟩ := hf b hb
    exact ⟨f3, f1, f4, f5⟩
  · obtain ⟨o, es, ep, ho, r⟩ := hm
    exact ⟨o, es, ep, k _ o (fun z => (hf _ z).2.1 rfl) ho, r⟩
  · refine (I.hok b u e).stay (fun c v hc q => k c v ?_ q) (fun _ q => q) fun _ _ q => q
    rcases hc with z | z
    · rw [z]; exact nit b u e
    · exact nit c _ z
/-- .. and a tuple that stands there untracked is taken up -/
theorem adopt {X : Cx} {pins : List (Addr × Obj)} {σ : L2.St} {H : Hp} {s : Shared} {h' : Heap} {t' : Nat} {ch : List Addr} {p : Addr} {xs : List V} {us : List Value} (I : Inv X pins σ H s) (k : ∀ b o, b ∉ ch → s.heap.get? b = some o → h'.get? b = some o)
    (hf : ∀ b ∈ ch, FpOk X pins H b) (hp : s.heap.objs.size ≤ p) (hz : xs.length ≤ sizeLine) (rv : Vals xs us) (ht : IsTup h' p us.toArray) : Inv X pins σ (upd H p (.tup xs)) { s with heap := h', toks := t' } := by
  have hn : H p = none := I.hok.fresh hp
  have nit : ∀ b u, H b = some u → b ∉ ch := fun b u e z => by rw [(hf b z).1] at e; cases e
  have nep : ∀ b o, s.heap.get? b = some o → b ≠ p := fun b o e z => by subst z; exact absurd (Nat.lt_of_lt_of_le (Heap.lt_size e) hp) (Nat.lt_irrefl _)
  refine I.step (g' := s.gens) (d' := s.drawn) (ch := ch) (fun b hb => ?_) (fun b o _ _ hc e _ => k b o hc e) (fun b o _ _ hc e _ => ⟨o.slots, k b o hc e⟩) (fun b o _ e n => by rw [upd_ne (nep b o e)]; exact n)
    (fun b o hc e => ⟨o, k b o hc e⟩) (fun b ys e => by rw [upd_ne (ne_of_none e hn)]; exact e) (fun b _ _ e => by rw [upd_ne (ne_of_none e hn)]; exact e) (fun b ps e => ⟨#[], by rw [upd_ne (ne_of_none e hn), e]; simp⟩) (fun m hm => ?_) (fun b u e => ?_) I.bare
  · obtain ⟨_, f1, _, f3, f4, f5⟩ := hf b hb
    exact ⟨f3, f1, f4, f5⟩
  · obtain ⟨o, es, ep, ho, r⟩ := hm
    exact ⟨o, es, ep, k _ o (fun z => (hf _ z).2.1 rfl) ho, r⟩
  · by_cases hb : b = p
    · subst hb
      rw [upd_same] at e
      cases e
      exact ⟨hz, us, rv, ht⟩
    · rw [upd_ne hb] at e
      refine (I.hok b u e).stay (fun c v hc q => k c v ?_ q) (fun c q => by rw [upd_ne (ne_of_none q hn)]; exact q) fun c ys q => by rw [upd_ne (ne_of_none q hn)]; exact q
      rcases hc with z | z
      · rw [z]; exact nit b u e
      · exact nit c _ z

/-! ### zip of two lists, or of two tuples -/
/-- k: a list (true) or a tuple (false) -/
def ItA (k : Bool) (h : Heap) (i a : Addr) (n : Nat) : Prop := match k with
  | true => h.IsListIter i a n
  | false => h.IsTupleIter i a n
def SqA (k : Bool) (h : Heap) (a : Addr) (xs : Array Value) : Prop := match k with
  | true => h.IsList a xs
  | false => h.IsTuple a xs
theorem ItA.at {k : Bool} {h h' : Heap} {i a : Addr} {n : Nat} (x : ItA k h i a n) (e : ∀ o, h.get? i = some o → h'.get? i = some o) : ItA k h' i a n := by
  cases k
  · obtain ⟨o, ho, r⟩ := x; exact ⟨o, e o ho, r⟩
  · obtain ⟨o, ho, r⟩ := x; exact ⟨o, e o ho, r⟩
theorem SqA.at {k : Bool} {h h' : Heap} {a : Addr} {xs : Array Value} (x : SqA k h a xs) (e : ∀ o, h.get? a = some o → h'.get? a = some o) : SqA k h' a xs := by
  cases k
  · obtain ⟨o, ho, r⟩ := x; exact ⟨o, e o ho, r⟩
  · obtain ⟨o, ho, r⟩ := x; exact ⟨o, e o ho, r⟩
theorem ItA.obj {k : Bool} {h : Heap} {i a : Addr} {n : Nat} (x : ItA k h i a n) : ∃ o, h.get? i = some o ∧ ∀ v, o.data ≠ .cell v := by
  cases k
  · obtain ⟨o, ho, _, d⟩ := x; exact ⟨o, ho, fun v z => by rw [d] at z; cases z⟩
  · obtain ⟨o, ho, _, d⟩ := x; exact ⟨o, ho, fun v z => by rw [d] at z; cases z⟩
section
variable {prog : Program} {w : World} {A : Around} {E : Value → Shared → Prop} {s : Shared}
theorem drawT_item {it t : Addr} {i : Nat} {items : Array Value} {x : Value} {Q : Value → Shared → Prop} (hit : s.heap.IsTupleIter it t i) (ht : s.heap.IsTuple t items) (hx : items[i]? = some x)
    (hQ : ∀ h', h'.IsTupleIter it t (i + 1) → Heap.SameBut it s.heap h' → Q x { s with heap := h' }) : wpAny (model prog w) A (Builtin.SmallTypes.nextOf (.ref it)) Q E s := by
  obtain ⟨o, ho, hc, hd⟩ := id hit
  obtain ⟨ol, hol, _, nl, hdl⟩ := ht
  unfold Builtin.SmallTypes.nextOf
  refine wpAny_bind (wpAny_callSpecial?_slot (name := Str.ofString "__next__") hit.typeIs F.slot_tuple_iterator_next (wpAny_call_entry F.slot_tuple_iterator_next hit.typeIs F.entry_tuple_iterator_next ?_ (F.args_tuple_iterator_next_1 _)))
  show wpAny _ _ (field (.ref it) 0 >>= _) _ _ s
  refine wpAny_bind (wpAny_field ho hd (x := .ref t) rfl ?_)
  show wpAny _ _ (if (Value.ref t == Value.none) = true then _ else _) _ _ s
  rw [if_neg (show ¬ ((Value.ref t == Value.none) = true) from Bool.false_ne_true)]
  show wpAny _ _ (field (.ref it) 1 >>= _) _ _ s
  refine wpAny_bind (wpAny_field ho hd (x := .int i 0) rfl ?_)
  show wpAny _ _ (seqItems? (.ref t) >>= _) _ _ s
  refine wpAny_bind (wpAny_seqItems hol hdl ?_)
  simp only [Int.toNat_natCast, hx]
  refine wpAny_bind (wpAny_setField ho hd (by simp) (wpAny_pure ⟨x, rfl, wpAny_pure (hQ _ ?_ (Heap.SameBut.update ..))⟩))
  refine ⟨_, Heap.get?_update_self _ ho (Obj.isFreed_of_fields (Obj.data_mapFields hd _)), (Obj.cls_mapFields ..).trans hc, ?_⟩
  rw [Obj.data_mapFields hd]; simp [rawInt]
theorem drawT_end {it t : Addr} {i : Nat} {items : Array Value} {Q : Value → Shared → Prop} (hh : A.handled = none) (hit : s.heap.IsTupleIter it t i) (ht : s.heap.IsTuple t items) (hx : items[i]? = none)
    (hE : ∀ h' e, Heap.ExtBut it s.heap h' → (∃ o, h'.get? e = some o ∧ o.cls = .type "StopIteration") → E (.ref e) { s with heap := h' }) : wpAny (model prog w) A (Builtin.SmallTypes.nextOf (.ref it)) Q E s := by
  obtain ⟨o, ho, hc, hd⟩ := id hit
  obtain ⟨ol, hol, _, nl, hdl⟩ := ht
  unfold Builtin.SmallTypes.nextOf
  refine wpAny_bind (wpAny_callSpecial?_slot (name := Str.ofString "__next__") hit.typeIs F.slot_tuple_iterator_next (wpAny_call_entry F.slot_tuple_iterator_next hit.typeIs F.entry_tuple_iterator_next ?_ (F.args_tuple_iterator_next_1 _)))
  show wpAny _ _ (field (.ref it) 0 >>= _) _ _ s
  refine wpAny_bind (wpAny_field ho hd (x := .ref t) rfl ?_)
  show wpAny _ _ (if (Value.ref t == Value.none) = true then _ else _) _ _ s
  rw [if_neg (show ¬ ((Value.ref t == Value.none) = true) from Bool.false_ne_true)]
  show wpAny _ _ (field (.ref it) 1 >>= _) _ _ s
  refine wpAny_bind (wpAny_field ho hd (x := .int i 0) rfl ?_)
  show wpAny _ _ (seqItems? (.ref t) >>= _) _ _ s
  refine wpAny_bind (wpAny_seqItems hol hdl ?_)
  simp only [Int.toNat_natCast, hx]
  refine wpAny_bind (wpAny_rule (wpAny_bind (wpAny_setField ho hd (by simp) ?_)))
  show wpAny _ _ (newExc (.type "StopIteration") [] >>= _) _ _ _
  refine wpAny_bind ?_
  simp only [newExc, newTuple]
  refine wpAny_bind (wpAny_newObj_type ?_ (by size_fits))
  refine wpAny_bind (m := firstArgMember _ _) (wpAny_of_eq (a := Value.none) (by first | rfl | (simp only [firstArgMember]; rfl)) ?_)
  refine wpAny_newObj_type ?_ (by size_fits)
  simp only [raiseNew]
  refine wpAny_bind (wpAny_handled ?_)
  first | rw [show A.in1.handled = none from hh] | rw [hh]
  refine wpAny_bind (wpAny_pure (wpAny_throw ?_))
  exact hE _ _ (((Heap.SameBut.update ..).extBut.push _).push _) ⟨_, Heap.get?_push_size _ rfl, rfl⟩
theorem drawA_item {k : Bool} {it t : Addr} {i : Nat} {items : Array Value} {x : Value} {Q : Value → Shared → Prop} (hit : ItA k s.heap it t i) (ht : SqA k s.heap t items) (hx : items[i]? = some x)
    (hQ : ∀ h', ItA k h' it t (i + 1) → Heap.SameBut it s.heap h' → Q x { s with heap := h' }) : wpAny (model prog w) A (Builtin.SmallTypes.nextOf (.ref it)) Q E s := by
  cases k
  · exact drawT_item hit ht hx hQ
  · exact wpAny_nextOf_list_item hit ht hx hQ
theorem drawA_end {k : Bool} {it t : Addr} {i : Nat} {items : Array Value} {Q : Value → Shared → Prop} (hh : A.handled = none) (hit : ItA k s.heap it t i) (ht : SqA k s.heap t items) (hx : items[i]? = none)
    (hE : ∀ h' e, Heap.ExtBut it s.heap h' → (∃ o, h'.get? e = some o ∧ o.cls = .type "StopIteration") → E (.ref e) { s with heap := h' }) : wpAny (model prog w) A (Builtin.SmallTypes.nextOf (.ref it)) Q E s := by
  cases k
  · exact drawT_end hh hit ht hx hE
  · exact wpAny_nextOf_list_end hh hit ht hx hE
abbrev itObj (k : Bool) (l : Addr) : Obj := { cls := .type (if k then "list_iterator" else "tuple_iterator"), data := .fields #[.ref l, .int 0 0] }
theorem iterA {k : Bool} {l : Addr} {xs : Array Value} {Q : Value → Shared → Prop} (h : SqA k s.heap l xs) (hQ : Q (.ref s.heap.objs.size) { s with heap := s.heap.push (itObj k l) }) : wpAny (model prog w) A (pyIter (.ref l)) Q E s := by
  cases k
  · exact wpAny_pyIter_tuple h hQ
  · exact wpAny_pyIter_list h hQ

/-- the zip's own records -/
structure ZipSt (k : Bool) (h : Heap) (z TI TO i1 i2 l1 l2 : Addr) (n : Nat) : Prop where
  z : IsZip h z TI TO .none
  ti : IsPair h TI (.ref i1) (.ref i2)
  to : ∃ a b, IsPair h TO a b
  i1 : ItA k h i1 l1 n
  i2 : ItA k h i2 l2 n
theorem zipA_item {k : Bool} {z TI TO i1 i2 l1 l2 : Addr} {n : Nat} {xs ys : Array Value} {x y : Value} {Q : Value → Shared → Prop} (D : ZipApart z TI TO i1 i2 l1 l2) (st : ZipSt k s.heap z TI TO i1 i2 l1 l2 n)
    (hl1 : SqA k s.heap l1 xs) (hl2 : SqA k s.heap l2 ys) (hx : xs[n]? = some x) (hy : ys[n]? = some y)
    (hQ : ∀ h', IsZip h' z TI TO (rawInt s.heap.objs.size) → IsPair h' TO x y → ItA k h' i1 l1 (n + 1) → ItA k h' i2 l2 (n + 1) → IsPair h' s.heap.objs.size x y →
      (∀ c o, c ≠ z → c ≠ TO → c ≠ i1 → c ≠ i2 → s.heap.get? c = some o → h'.get? c = some o) → Q (.ref s.heap.objs.size) { s with heap := h' }) :
    wpAny (model prog w) A (Builtin.«zip.__next__» ⟨[.ref z], []⟩) (fun fin s' => ∃ v, fin = .done (.ret v) ∧ Q v s') E s := by
  obtain ⟨hz, hTI, ⟨a, b, hTO⟩, h1, h2⟩ := st
  show wpAny _ _ (field (.ref z) 2 >>= _) _ _ _
  refine wpAny_bind (wpAny_field hz rfl (x := .bool false) rfl ?_)
  show wpAny _ _ (field (.ref z) 3 >>= _) _ _ _
  refine wpAny_bind (wpAny_field hz rfl (x := .ref TI) rfl (wpAny_bind (wpAny_seqItems hTI rfl ?_)))
  show wpAny _ _ (Builtin.SmallTypes.ownedTupleIsFree (.ref z) >>= _) _ _ _
  refine wpAny_bind ?_
  unfold Builtin.SmallTypes.ownedTupleIsFree
  refine wpAny_bind (wpAny_field hz rfl (x := .none) rfl (wpAny_pure ?_))
  simp only [if_true]
  refine wpAny_bind (wpAny_rule (wpAny_bind (wpAny_field hz rfl (x := .ref TO) rfl (wpAny_bind (wpAny_setField_rec hz (by simp) fun g1 z1 c1 => ?_)))))
  replace z1 : IsZip g1 z TI TO .ellipsis := z1
  refine wpAny_bind ?_
  simp only [List.zipIdx_cons, List.zipIdx_nil, List.forIn_cons, List.forIn_nil]
  refine wpAny_bind (wpAny_bind (wpAny_onRaise ?_))
  show wpAny _ _ (Builtin.SmallTypes.nextOf (.ref i1) >>= _) _ _ _
  refine wpAny_bind (drawA_item (h1.at fun o e => c1.extBut _ _ D.i1z e) (hl1.at fun o e => c1.extBut _ _ D.l1z e) hx fun g2 h12 c2 => wpAny_pure ?_)
  have o2 : IsPair g2 TO a b := c2.extBut _ _ D.TOi1 (c1.extBut _ _ D.TOz hTO)
  refine wpAny_bind (wpAny_seqItems o2 rfl (wpAny_bind (wpAny_updateSeq_pair o2 fun g3 o3 c3 => ?_)))
  replace o3 : IsPair g3 TO x b := o3
  refine wpAny_bind (wpAny_letGo (wpAny_pure (wpAny_bind (wpAny_bind (wpAny_onRaise ?_)))))
  show wpAny _ _ (Builtin.SmallTypes.nextOf (.ref i2) >>= _) _ _ _
  refine wpAny_bind (drawA_item (((h2.at fun o e => c1.extBut _ _ D.i2z e).at fun o e => c2.extBut _ _ D.i12.symm e).at fun o e => c3.extBut _ _ D.TOi2.symm e)
    (((hl2.at fun o e => c1.extBut _ _ D.l2z e).at fun o e => c2.extBut _ _ D.l2i1 e).at fun o e => c3.extBut _ _ D.l2TO e) hy fun g4 h24 c4 => wpAny_pure ?_)
  have o4 : IsPair g4 TO x b := c4.extBut _ _ D.TOi2 o3
  refine wpAny_bind (wpAny_seqItems o4 rfl (wpAny_bind (wpAny_updateSeq_pair o4 fun g5 o5 c5 => ?_)))
  replace o5 : IsPair g5 TO x y := o5
  refine wpAny_bind (wpAny_letGo (wpAny_pure (wpAny_pure (wpAny_bind (wpAny_seqItems o5 rfl (wpAny_bind (wpAny_newTuple ?_)))))))
  have sz : g5.objs.size = s.heap.objs.size := by rw [c5.1, c4.1, c3.1, c2.1, c1.1]
  have z5 : IsZip g5 z TI TO .ellipsis := c5.extBut _ _ D.TOz.symm (c4.extBut _ _ D.i2z.symm (c3.extBut _ _ D.TOz.symm (c2.extBut _ _ D.i1z.symm z1)))
  have k5 : ∀ c o, c ≠ z → c ≠ TO → c ≠ i1 → c ≠ i2 → s.heap.get? c = some o → g5.get? c = some o := fun c o n1 n2 n3 n4 e => c5.extBut _ _ n2 (c4.extBut _ _ n4 (c3.extBut _ _ n2 (c2.extBut _ _ n3 (c1.extBut _ _ n1 e))))
  have h15 : ItA k g5 i1 l1 (n + 1) := ((h12.at fun o e => c3.extBut _ _ D.TOi1.symm e).at fun o e => c4.extBut _ _ D.i12 e).at fun o e => c5.extBut _ _ D.TOi1.symm e
  have h25 : ItA k g5 i2 l2 (n + 1) := h24.at fun o e => c5.extBut _ _ D.TOi2.symm e
  have zlt : z < g5.objs.size := Heap.lt_size z5
  show wpAny _ _ (Builtin.SmallTypes.ownedTupleHandOut (.ref z) (.ref g5.objs.size) >>= _) _ _ _
  refine wpAny_bind ?_
  unfold Builtin.SmallTypes.ownedTupleHandOut
  have z6 : IsZip (g5.push { cls := .type "tuple", data := .seq #[x, y] }) z TI TO .ellipsis := Heap.get?_push_of_some _ z5
  refine wpAny_bind (wpAny_setField_rec z6 (by simp) fun g7 z7 c7 => ?_)
  replace z7 : IsZip g7 z TI TO (rawInt g5.objs.size) := z7
  refine wpAny_setField_rec z7 (by simp) fun g8 z8 c8 => ?_
  replace z8 : IsZip g8 z TI TO (rawInt g5.objs.size) := z8
  have up : ∀ c o, c ≠ z → g5.get? c = some o → g8.get? c = some o := fun c o n1 e => c8.extBut _ _ n1 (c7.extBut _ _ n1 (Heap.get?_push_of_some _ e))
  have t8 : IsPair g8 g5.objs.size x y := c8.extBut _ _ (Nat.ne_of_gt zlt) (c7.extBut _ _ (Nat.ne_of_gt zlt) (Heap.get?_push_size _ rfl))
  rw [sz] at z8 t8
  refine wpAny_pure ⟨_, rfl, ?_⟩
  show Q (.ref g5.objs.size) _
  rw [sz]
  exact hQ g8 z8 (up _ _ D.TOz o5) (h15.at fun o e => up _ o D.i1z e) (h25.at fun o e => up _ o D.i2z e) t8 fun c o n1 n2 n3 n4 e => up c o n1 (k5 c o n1 n2 n3 n4 e)
theorem zipA_end {k : Bool} {z TI TO i1 i2 l1 l2 : Addr} {n : Nat} {xs ys : Array Value} {Q : Fin → Shared → Prop} (hh : A.handled = none) (D : ZipApart z TI TO i1 i2 l1 l2) (st : ZipSt k s.heap z TI TO i1 i2 l1 l2 n)
    (hl1 : SqA k s.heap l1 xs) (hl2 : SqA k s.heap l2 ys) (hend : xs[n]? = none ∨ ys[n]? = none)
    (hE : ∀ h' e, (∀ c o, c ≠ z → c ≠ TO → c ≠ i1 → c ≠ i2 → s.heap.get? c = some o → h'.get? c = some o) → (∃ o, h'.get? e = some o ∧ o.cls = .type "StopIteration") → E (.ref e) { s with heap := h' }) :
    wpAny (model prog w) A (Builtin.«zip.__next__» ⟨[.ref z], []⟩) Q E s := by
  obtain ⟨hz, hTI, ⟨a, b, hTO⟩, h1, h2⟩ := st
  show wpAny _ _ (field (.ref z) 2 >>= _) _ _ _
  refine wpAny_bind (wpAny_field hz rfl (x := .bool false) rfl ?_)
  show wpAny _ _ (field (.ref z) 3 >>= _) _ _ _
  refine wpAny_bind (wpAny_field hz rfl (x := .ref TI) rfl (wpAny_bind (wpAny_seqItems hTI rfl ?_)))
  show wpAny _ _ (Builtin.SmallTypes.ownedTupleIsFree (.ref z) >>= _) _ _ _
  refine wpAny_bind ?_
  unfold Builtin.SmallTypes.ownedTupleIsFree
  refine wpAny_bind (wpAny_field hz rfl (x := .none) rfl (wpAny_pure ?_))
  simp only [if_true]
  refine wpAny_bind (wpAny_rule (wpAny_bind (wpAny_field hz rfl (x := .ref TO) rfl (wpAny_bind (wpAny_setField_rec hz (by simp) fun g1 z1 c1 => ?_)))))
  replace z1 : IsZip g1 z TI TO .ellipsis := z1
  refine wpAny_bind ?_
  simp only [List.zipIdx_cons, List.zipIdx_nil, List.forIn_cons, List.forIn_nil]
  refine wpAny_bind (wpAny_bind (wpAny_onRaise ?_))
  show wpAny _ _ (Builtin.SmallTypes.nextOf (.ref i1) >>= _) _ _ _
  cases hx : xs[n]? with
  | none =>
    refine wpAny_bind (drawA_end hh (h1.at fun o e => c1.extBut _ _ D.i1z e) (hl1.at fun o e => c1.extBut _ _ D.l1z e) hx fun g2 e c2 he => ?_)
    obtain ⟨oe, hoe, hce⟩ := he
    have z2 : IsZip g2 z TI TO .ellipsis := c2 _ _ D.i1z.symm z1
    have hez : e ≠ z := fun x => by subst x; rw [z2] at hoe; cases hoe; simp at hce
    exact wpAny_setField_rec z2 (by simp) fun g3 _ c3 => hE g3 e (fun c o n1 _ n3 _ x => c3.extBut _ _ n1 (c2 _ _ n3 (c1.extBut _ _ n1 x))) ⟨oe, c3.extBut _ _ hez hoe, hce⟩
  | some x =>
    have hy : ys[n]? = none := by rcases hend with h | h; (rw [hx] at h; cases h); exact h
    refine wpAny_bind (drawA_item (h1.at fun o e => c1.extBut _ _ D.i1z e) (hl1.at fun o e => c1.extBut _ _ D.l1z e) hx fun g2 h12 c2 => wpAny_pure ?_)
    have o2 : IsPair g2 TO a b := c2.extBut _ _ D.TOi1 (c1.extBut _ _ D.TOz hTO)
    refine wpAny_bind (wpAny_seqItems o2 rfl (wpAny_bind (wpAny_updateSeq_pair o2 fun g3 o3 c3 => ?_)))
    refine wpAny_bind (wpAny_letGo (wpAny_pure (wpAny_bind (wpAny_bind (wpAny_onRaise ?_)))))
    show wpAny _ _ (Builtin.SmallTypes.nextOf (.ref i2) >>= _) _ _ _
    refine wpAny_bind (drawA_end hh (((h2.at fun o e => c1.extBut _ _ D.i2z e).at fun o e => c2.extBut _ _ D.i12.symm e).at fun o e => c3.extBut _ _ D.TOi2.symm e)
      (((hl2.at fun o e => c1.extBut _ _ D.l2z e).at fun o e => c2.extBut _ _ D.l2i1 e).at fun o e => c3.extBut _ _ D.l2TO e) hy fun g4 e c4 he => ?_)
    obtain ⟨oe, hoe, hce⟩ := he
    have z4 : IsZip g4 z TI TO .ellipsis := c4 _ _ D.i2z.symm (c3.extBut _ _ D.TOz.symm (c2.extBut _ _ D.i1z.symm z1))
    have hez : e ≠ z := fun x => by subst x; rw [z4] at hoe; cases hoe; simp at hce
    exact wpAny_setField_rec z4 (by simp) fun g5 _ c5 => hE g5 e (fun c o n1 n2 n3 n4 x => c5.extBut _ _ n1 (c4 _ _ n4 (c3.extBut _ _ n2 (c2.extBut _ _ n3 (c1.extBut _ _ n1 x))))) ⟨oe, c5.extBut _ _ hez hoe, hce⟩
theorem nextA_item {k : Bool} {z TI TO i1 i2 l1 l2 : Addr} {n : Nat} {xs ys : Array Value} {x y : Value} {Q : Option Value → Shared → Prop} (D : ZipApart z TI TO i1 i2 l1 l2) (st : ZipSt k s.heap z TI TO i1 i2 l1 l2 n)
    (hl1 : SqA k s.heap l1 xs) (hl2 : SqA k s.heap l2 ys) (hx : xs[n]? = some x) (hy : ys[n]? = some y)
    (hQ : ∀ h', IsZip h' z TI TO (rawInt s.heap.objs.size) → IsPair h' TO x y → ItA k h' i1 l1 (n + 1) → ItA k h' i2 l2 (n + 1) → IsPair h' s.heap.objs.size x y →
      (∀ c o, c ≠ z → c ≠ TO → c ≠ i1 → c ≠ i2 → s.heap.get? c = some o → h'.get? c = some o) → Q (some (.ref s.heap.objs.size)) { s with heap := h' }) : wpAny (model prog w) A (pyNext (.ref z)) Q E s := by
  have hT : s.TypeIs (.ref z) "zip" := ⟨_, st.z, rfl⟩
  unfold pyNext
  exact wpAny_bind (wpAny_attempt (wpAny_callSpecial?_slot (name := Str.ofString "__next__") hT F.slot_zip_next (wpAny_call_entry F.slot_zip_next hT F.entry_zip_next
    (zipA_item D st hl1 hl2 hx hy fun h' a1 a2 a3 a4 a5 a7 => wpAny_pure (hQ h' a1 a2 a3 a4 a5 a7)) (F.args_zip_next_1 _))))
theorem nextA_end {k : Bool} {z TI TO i1 i2 l1 l2 : Addr} {n : Nat} {xs ys : Array Value} {Q : Option Value → Shared → Prop} (hh : A.handled = none) (D : ZipApart z TI TO i1 i2 l1 l2) (st : ZipSt k s.heap z TI TO i1 i2 l1 l2 n)
    (hl1 : SqA k s.heap l1 xs) (hl2 : SqA k s.heap l2 ys) (hend : xs[n]? = none ∨ ys[n]? = none)
    (hQ : ∀ h', (∀ c o, c ≠ z → c ≠ TO → c ≠ i1 → c ≠ i2 → s.heap.get? c = some o → h'.get? c = some o) → Q none { s with heap := h' }) : wpAny (model prog w) A (pyNext (.ref z)) Q E s := by
  have hT : s.TypeIs (.ref z) "zip" := ⟨_, st.z, rfl⟩
  unfold pyNext
  refine wpAny_bind (wpAny_attempt (wpAny_callSpecial?_slot (name := Str.ofString "__next__") hT F.slot_zip_next (wpAny_call_entry F.slot_zip_next hT F.entry_zip_next
    (zipA_end hh D st hl1 hl2 hend fun h' e hk he => ?_) (F.args_zip_next_1 _))))
  obtain ⟨o, ho, hc⟩ := he
  exact wpAny_bind (wpAny_isInstance (T := "StopIteration") (b := true) ⟨o, ho, hc⟩ isSubtype_stop (wpAny_pure (hQ _ hk)))
end
abbrev zH1 (k : Bool) (h : Heap) (l1 : Addr) : Heap := h.push (itObj k l1)
abbrev zH2 (k : Bool) (h : Heap) (l1 l2 : Addr) : Heap := (zH1 k h l1).push (itObj k l2)
abbrev zH3 (k : Bool) (h : Heap) (l1 l2 : Addr) : Heap := (zH2 k h l1 l2).push { cls := .type "tuple", data := .seq #[.ref h.objs.size, .ref (zH1 k h l1).objs.size] }
abbrev zH4 (k : Bool) (h : Heap) (l1 l2 : Addr) : Heap := (zH3 k h l1 l2).push { cls := .type "tuple", data := .seq #[.none, .none] }
abbrev zH5 (k : Bool) (h : Heap) (l1 l2 : Addr) : Heap := (zH4 k h l1 l2).push { cls := .type "zip", data := .fields #[.none, .bool false, .bool false, .ref (zH2 k h l1 l2).objs.size, .ref (zH3 k h l1 l2).objs.size] }
theorem meets_zipA (k : Bool) (l1 l2 : Addr) (xs ys : Array Value) :
    Meets (Builtin.«zip.__new__» ⟨[.type "zip", .ref l1, .ref l2], []⟩) (fun _ R s => SqA k s.heap l1 xs ∧ SqA k s.heap l2 ys ∧ R (.ok (.ret (.ref (zH4 k s.heap l1 l2).objs.size))) { s with heap := zH5 k s.heap l1 l2 }) :=
  .of_wp fun prog w A R s h => by
    obtain ⟨hp, g, d, tk, os⟩ := s; obtain ⟨hl1, hl2, h⟩ := h
    have hsub := sub_zip
    have hL1 : SqA k (Shared.heap ⟨hp, g, d, tk, os⟩) l1 xs := hl1
    have hL2 : SqA k (Shared.heap ⟨hp.push (itObj k l1), g, d, tk, os⟩) l2 ys := hl2.at fun o e => Heap.get?_push_of_some _ e
    wp_walk using iterA hL1, iterA hL2
    exact ⟨_, rfl, h⟩
section
variable {prog : Program} {w : World} {A : Around} {E : Value → Shared → Prop} {s : Shared}
theorem call_zipA {k : Bool} {l1 l2 : Addr} {xs ys : Array Value} {Q : Value → Shared → Prop} (hl1 : SqA k s.heap l1 xs) (hl2 : SqA k s.heap l2 ys)
    (h : ∀ h', ZipSt k h' (s.heap.objs.size + 4) (s.heap.objs.size + 2) (s.heap.objs.size + 3) s.heap.objs.size (s.heap.objs.size + 1) l1 l2 0 → (∀ c o, s.heap.get? c = some o → h'.get? c = some o) → Q (.ref (s.heap.objs.size + 4)) { s with heap := h' }) :
    wpAny (model prog w) A (call (.type "zip") [.ref l1, .ref l2]) Q E s := by
  refine callType_new F.called_zip (by decide) (F.typeCall_zip_2 _ _) (F.newCall_zip_2 _ _) (fun obj => F.args_object_init_3 obj _ _) F.entry_zip_new (meets_zipA k l1 l2 xs ys) ⟨hl1, hl2, ?_⟩
  have z1 : (zH1 k s.heap l1).objs.size = s.heap.objs.size + 1 := Heap.size_push ..
  have z2 : (zH2 k s.heap l1 l2).objs.size = s.heap.objs.size + 2 := by rw [Heap.size_push, z1]
  have z3 : (zH3 k s.heap l1 l2).objs.size = s.heap.objs.size + 3 := by rw [Heap.size_push, z2]
  have z4 : (zH4 k s.heap l1 l2).objs.size = s.heap.objs.size + 4 := by rw [Heap.size_push, z3]
  have g5 : (zH5 k s.heap l1 l2).get? (zH4 k s.heap l1 l2).objs.size = some _ := Heap.get?_push_size _ rfl
  have g4 : (zH5 k s.heap l1 l2).get? (zH3 k s.heap l1 l2).objs.size = some _ := Heap.get?_push_of_some _ (Heap.get?_push_size _ rfl)
  have g3 : (zH5 k s.heap l1 l2).get? (zH2 k s.heap l1 l2).objs.size = some _ := Heap.get?_push_of_some _ (Heap.get?_push_of_some _ (Heap.get?_push_size _ rfl))
  have g2 : (zH5 k s.heap l1 l2).get? (zH1 k s.heap l1).objs.size = some (itObj k l2) := Heap.get?_push_of_some _ (Heap.get?_push_of_some _ (Heap.get?_push_of_some _ (Heap.get?_push_size _ rfl)))
  have g1 : (zH5 k s.heap l1 l2).get? s.heap.objs.size = some (itObj k l1) := Heap.get?_push_of_some _ (Heap.get?_push_of_some _ (Heap.get?_push_of_some _ (Heap.get?_push_of_some _ (Heap.get?_push_size _ rfl))))
  show _ ∧ _
  rw [z2, z3, z4] at g5
  rw [z1, z2] at g3
  rw [z3] at g4
  rw [z1] at g2
  rw [z4]
  refine ⟨⟨_, g5, rfl⟩, h _ ⟨g5, g3, ⟨_, _, g4⟩, ?_, ?_⟩ fun c o x => Heap.get?_push_of_some _ (Heap.get?_push_of_some _ (Heap.get?_push_of_some _ (Heap.get?_push_of_some _ (Heap.get?_push_of_some _ x))))⟩
  · cases k
    · exact ⟨_, g1, rfl, rfl⟩
    · exact ⟨_, g1, rfl, rfl⟩
  · cases k
    · exact ⟨_, g2, rfl, rfl⟩
    · exact ⟨_, g2, rfl, rfl⟩
end
/-- a list or a tuple that is read -/
def SqB (K : PySem.W.Frag) (k : Bool) (H : Hp) (a : Addr) (xs : List V) : Prop := match k with
  | true => SqL K H a xs
  | false => SqT K H a xs
theorem sqB_at {X : Cx} {pins : List (Addr × Obj)} {σ : L2.St} {H : Hp} {s : Shared} {k : Bool} {a : Addr} {xs : List V} (I : Inv X pins σ H s) (h : SqB X.K k H a xs) : ∃ its : List Value, Vals xs its ∧ SqA k s.heap a its.toArray ∧ xs.length ≤ sizeLine := by
  cases k
  · obtain ⟨its, r, p, z⟩ := I.tuple h
    exact ⟨its, r, p, z⟩
  · obtain ⟨its, r, p, z⟩ := I.list h
    exact ⟨its, r, p.isList, z⟩
theorem sqB_inj {X : Cx} {pins : List (Addr × Obj)} {σ : L2.St} {H : Hp} {s : Shared} {k : Bool} {a : Addr} {xs ys : List V} (I : Inv X pins σ H s) (h : SqB X.K k H a xs) (h' : SqB X.K k H a ys) : xs = ys := by
  cases k
  · exact I.tuple_inj h h'
  · exact I.list_inj h h'
theorem sqA_lt {k : Bool} {h : Heap} {a : Addr} {xs : Array Value} (x : SqA k h a xs) : a < h.objs.size := by
  cases k
  · obtain ⟨o, ho, _⟩ := x; exact Heap.lt_size ho
  · obtain ⟨o, ho, _⟩ := x; exact Heap.lt_size ho
def Itz (K : PySem.W.Frag) (k : Bool) (a1 a2 : Addr) : It :=
  ⟨fun i H => ∃ xs ys x y, SqB K k H a1 xs ∧ SqB K k H a2 ys ∧ xs[i]? = some x ∧ ys[i]? = some y,
   fun i H v H' => ∃ p x y, H p = none ∧ v = .ref p ∧ H' = upd H p (.tup [x, y]) ∧ (∀ xs, SqB K k H a1 xs → xs[i]? = some x) ∧ ∀ ys, SqB K k H a2 ys → ys[i]? = some y,
   fun i H => ∃ xs ys, SqB K k H a1 xs ∧ SqB K k H a2 ys ∧ (xs.length ≤ i ∨ ys.length ≤ i)⟩
theorem turn_zip {P : Program} {w : World} {K : PySem.W.Frag} {elts : List Expr} {x1 : Nat} {tpos : Pos} {k : Bool} {z TI TO i1 i2 l1 l2 : Addr} (D : ZipApart z TI TO i1 i2 l1 l2) :
    Turn P w K (.Tuple elts x1 tpos) (Itz K k l1 l2) [z, TI, TO, i1, i2] z (fun i h => ZipSt k h z TI TO i1 i2 l1 l2 i) where
  mem := by simp
  obj := fun i h st b hb => by
    obtain ⟨hz, hTI, ⟨a, c, hTO⟩, h1, h2⟩ := st
    simp only [List.mem_cons, List.not_mem_nil, or_false] at hb
    rcases hb with rfl | rfl | rfl | rfl | rfl
    · exact ⟨_, hz, fun v e => by cases e⟩
    · exact ⟨_, hTI, fun v e => by cases e⟩
    · exact ⟨_, hTO, fun v e => by cases e⟩
    · exact h1.obj
    · exact h2.obj
  keep := fun i h h' st kk => by
    obtain ⟨hz, hTI, ⟨a, c, hTO⟩, h1, h2⟩ := st
    exact ⟨kk z (by simp) _ hz, kk TI (by simp) _ hTI, ⟨a, c, kk TO (by simp) _ hTO⟩, h1.at fun o e => kk i1 (by simp) o e, h2.at fun o e => kk i2 (by simp) o e⟩
  item := by
    intro X hP hw hK hc i pins s σ H E I hf st hg
    subst hP hw hK
    obtain ⟨xs, ys, x, y, q1, q2, e1, e2⟩ := hg
    obtain ⟨us, r1, p1, _⟩ := sqB_at I q1
    obtain ⟨vs, r2, p2, _⟩ := sqB_at I q2
    obtain ⟨u, eu, ru⟩ := r1.get e1
    obtain ⟨v, ev, rv⟩ := r2.get e2
    refine nextA_item (x := u) (y := v) D st p1 p2 (by simpa using eu) (by simpa using ev) fun h' g1 g2 g3 g4 g5 g7 => ?_
    refine ⟨_, rfl, wpAny_letOwnedTupleGo_zip g1 fun h2 hz2 c2 => ?_⟩
    have ne : ∀ {b o}, s.heap.get? b = some o → s.heap.objs.size ≠ b := fun e => Nat.ne_of_gt (Heap.lt_size e)
    have k2 : ∀ b o, b ∉ [z, TI, TO, i1, i2] → s.heap.get? b = some o → h2.get? b = some o := fun b o hb e => by
      simp only [List.mem_cons, List.not_mem_nil, or_false, not_or] at hb
      exact c2.extBut _ _ hb.1 (g7 b o hb.1 hb.2.2.1 hb.2.2.2.1 hb.2.2.2.2 e)
    have I2 : Inv X pins σ (upd H s.heap.objs.size (.tup [x, y])) { s with heap := h2, toks := s.toks } :=
      adopt I k2 hf (Nat.le_refl _) (by show 2 ≤ sizeLine; decide) (.cons ru (.cons rv .nil)) ⟨_, c2.extBut _ _ (ne st.z) g5, rfl, _, rfl⟩
    refine ⟨.ref s.heap.objs.size, _, I2, rfl, ⟨_, x, y, I.hok.fresh (Nat.le_refl _), rfl, rfl, fun xs' q => ?_, fun ys' q => ?_⟩, ?_, fun b hb => ?_⟩
    · rw [sqB_inj I q q1]; exact e1
    · rw [sqB_inj I q q2]; exact e2
    · exact ⟨hz2, c2.extBut _ _ D.TIz (g7 _ _ D.TIz D.TITO D.TIi1 D.TIi2 st.ti), ⟨u, v, c2.extBut _ _ D.TOz g2⟩, g3.at fun o e => c2.extBut _ _ D.i1z e, g4.at fun o e => c2.extBut _ _ D.i2z e⟩
    · have hlt : ∃ o, s.heap.get? b = some o := by
        obtain ⟨hz, hTI, ⟨a, c, hTO⟩, h1, h2⟩ := st
        simp only [List.mem_cons, List.not_mem_nil, or_false] at hb
        rcases hb with rfl | rfl | rfl | rfl | rfl
        · exact ⟨_, hz⟩
        · exact ⟨_, hTI⟩
        · exact ⟨_, hTO⟩
        · exact h1.obj.imp fun _ e => e.1
        · exact h2.obj.imp fun _ e => e.1
      obtain ⟨o, e⟩ := hlt
      rw [upd_ne (ne e).symm]
      exact (hf b hb).1
  done := by
    intro X hP hw hK hc i pins s σ H E I hf st hg
    subst hP hw hK
    obtain ⟨xs, ys, q1, q2, e⟩ := hg
    obtain ⟨us, r1, p1, _⟩ := sqB_at I q1
    obtain ⟨vs, r2, p2, _⟩ := sqB_at I q2
    have l1 := r1.length
    have l2 := r2.length
    refine nextA_end (I.ok.hd hc) D st p1 p2 (e.imp (fun e => by simp; omega) (fun e => by simp; omega)) fun h' kk => ⟨rfl, turnedN (t' := s.toks) (ch := [z, TI, TO, i1, i2]) I (fun b o hb e => ?_) hf⟩
    simp only [List.mem_cons, List.not_mem_nil, or_false, not_or] at hb
    exact kk b o hb.1 hb.2.2.1 hb.2.2.2.1 hb.2.2.2.2 e
  self := fun _ _ _ _ _ st h => wpAny_pyIter_zip st.z h
def iZip (K : PySem.W.Frag) (ta : TA) : TI := fun σ H R => ta σ H fun vs H1 => ∃ k a1 a2 xs ys, vs = [.ref a1, .ref a2] ∧ SqB K k H1 a1 xs ∧ SqB K k H1 a2 ys ∧ R (Itz K k a1 a2) H1
theorem pi_zip {X : Cx} {elts : List Expr} {x1 : Nat} {tpos : Pos} {a b : Expr} {ta : TA} {p pos : Pos} (hg : Gl X "zip") (hm : X.mg "zip" = none) (ha : PA X [a, b] ta)
    (hs : starEach [a, b] X.env = [(false, eval a X.env), (false, eval b X.env)] := by rfl) (hs2 : starEach [b] X.env = [(false, eval b X.env)] := by rfl) : PI X (.Tuple elts x1 tpos) (.Call (.Name "zip" p) [a, b] [] pos) (iZip X.K ta) := by
  intro pins s σ H R I h
  refine Call_ (ld_blt I hg hm boot_zip (PyProof.Rows.callWith_type1 (thn (ha pos pins s σ H _ I h) fun us s1 ⟨vs, H1, I1, r1, q1⟩ => ?_) (by rw [hs, hs2]) (by rw [hs2]; rfl)))
  obtain ⟨k, a1, a2, xs, ys, e, q1, q2, q⟩ := q1
  subst e
  obtain ⟨u1, u2, rfl, e1, e2⟩ := r1.two
  cases (show u1 = Value.ref a1 from e1)
  cases (show u2 = Value.ref a2 from e2)
  obtain ⟨us, rr1, p1, _⟩ := sqB_at I1 q1
  obtain ⟨ws, rr2, p2, _⟩ := sqB_at I1 q2
  have b1 := sqA_lt p1
  have b2 := sqA_lt p2
  refine call_zipA p1 p2 fun h' st kk => wpAny_pyIter_zip st.z ?_
  have I2 : Inv X pins σ H1 { s1 with heap := h', toks := s1.toks } := I1.kept kk
  refine ⟨_, _, _, _, H1, rfl, I2, turn_zip (zipApart_new b1 b2), st, fun b hb => ?_, q⟩
  have hb' : s1.heap.objs.size ≤ b := by
    simp only [List.mem_cons, List.not_mem_nil, or_false] at hb
    rcases hb with rfl | rfl | rfl | rfl | rfl
    · exact Nat.le_add_right _ _
    · exact Nat.le_add_right _ _
    · exact Nat.le_add_right _ _
    · exact Nat.le_refl _
    · exact Nat.le_add_right _ _
  exact I1.fpOk hb' (I1.hok.fresh hb')
theorem for_zip {K : PySem.W.Frag} {k : Bool} {a1 a2 : Addr} {xs ys : List V} {g : TG} {tb : TS} {D : Ends} {σ : L2.St} {H : Hp} (Pv : Nat → L2.St → Hp → Prop) (hn : xs.length = ys.length) (h0 : Pv 0 σ H)
    (hl : ∀ i σ H, i ≤ xs.length → Pv i σ H → SqB K k H a1 xs ∧ SqB K k H a2 ys)
    (hs : ∀ i x y p σ H, xs[i]? = some x → ys[i]? = some y → H p = none → Pv i σ H → g (.ref p) σ (upd H p (.tup [x, y])) fun σ2 H2 => tb { D with nx := Pv (i + 1), ct := Pv (i + 1), bk := D.nx } σ2 H2) (hd : ∀ σ H, Pv xs.length σ H → D.nx σ H) :
    ∃ W : Nat → Nat → L2.St → Hp → Prop, (∃ m, W 0 m σ H) ∧ ∀ i m σ H, W i m σ H →
      ((Itz K k a1 a2).stop i H ∧ D.nx σ H) ∨ ((Itz K k a1 a2).go i H ∧ ∃ N : L2.St → Hp → Prop, (∀ σ' H', N σ' H' → ∃ m', m' < m ∧ W (i + 1) m' σ' H') ∧ ∀ x H', (Itz K k a1 a2).yld i H x H' → g x σ H' fun σ2 H2 => tb { D with nx := N, ct := N, bk := D.nx } σ2 H2) := by
  refine ⟨fun i m σ H => m = xs.length - i ∧ i ≤ xs.length ∧ Pv i σ H, ⟨xs.length, by simp, Nat.zero_le _, h0⟩, ?_⟩
  rintro i m σ H ⟨rfl, hi, p⟩
  obtain ⟨q1, q2⟩ := hl i σ H hi p
  by_cases hlt : i < xs.length
  · have hlt2 : i < ys.length := by omega
    refine .inr ⟨⟨xs, ys, xs[i], ys[i], q1, q2, by simp [hlt], by simp [hlt2]⟩, Pv (i + 1), fun σ' H' p' => ⟨xs.length - (i + 1), by omega, rfl, hlt, p'⟩, fun x H' y => ?_⟩
    obtain ⟨a, x', y', hn', rfl, rfl, e1, e2⟩ := y
    exact hs i x' y' a σ _ (e1 xs q1) (e2 ys q2) hn' p
  · have e : i = xs.length := by omega
    subst e
    exact .inl ⟨⟨xs, ys, q1, q2, .inl (Nat.le_refl _)⟩, hd σ H p⟩

/-! ### range(a, b) as a thing, list(range(a, b)) -/
section
variable {X : Cx}
end

/-! ### // by any divisor of some size; sum of a list of ints -/
section
variable {X : Cx}
theorem log2_big {j : Int} (h0 : 0 < j) (h1 : j < 10 ^ 70) : j.natAbs.log2 < 9000 := by
  have h : j.natAbs < 2 ^ 9000 := Nat.lt_trans (show j.natAbs < 10 ^ 70 by omega) (by decide +kernel)
  exact (Nat.log2_lt (by omega)).mpr h
theorem op_fdivB : OpR X (binaryOp .FloorDiv) (rI (fun _ j => 0 < j ∧ j < 10 ^ 70) fun i j => .int (i / j)) := opI fun i j _ _ _ _ _ hc q => by
  have h1 : (0 : Int) < j := hc.1
  exact floordiv_int (by omega) (by rw [Int.fdiv_eq_ediv_of_nonneg i (by omega)]; exact q) (.inl (PyProof.noPylong_of_log2 (log2_big hc.1 hc.2)))
theorem call_sum (hc : X.calm = true) : CallR X (.builtin "sum") (fun xs H Q => ∃ (p : Addr) (ns : List Int), xs = [.ref p] ∧ SqL X.K H p (ns.map V.int) ∧ Q (.int ns.sum) H) := by
  intro pins s σ H xs us Q I r h
  obtain ⟨p, ns, rfl, hq, q⟩ := h
  obtain ⟨u, rfl, rx⟩ := r.one
  cases (show u = Value.ref p from rx)
  obtain ⟨its, rv, pl, hz⟩ := I.list hq
  have hi : IntsAre its ns := intsAre_of rv
  have hall : AllInts its.toArray := hi.allInts
  obtain ⟨zs, ez⟩ := hall.items
  have hl := pl.isList
  have es : (numsOf its.toArray.toList).sum = ns.sum := by rw [show its.toArray.toList = its from rfl, hi.numsOf]
  rw [ez] at hl es
  rw [nums_intItems] at es
  refine PySem.sum_intListG (I.ok.hd hc) hl fun h' tk t' hk => ⟨.int ns.sum, H, I.kept hk, ⟨t', ?_⟩, q⟩
  rw [preSum_eq, List.take_of_length_le (by simp), es]
end

/-! ### two lists of the very same values compared -/
def idV : V → Bool
  | .int _ | .bl _ | .str _ | .non | .ref _ => true
  | _ => false
theorem eqAt_id {A : Around} {s : Shared} {x : V} {u v : Value} (hx : idV x = true) (ru : RelV x u) (rv : RelV x v) : SeqAt.EqAt A s u v true := by
  cases x with
  | int i => obtain ⟨t, rfl⟩ := ru; obtain ⟨t', rfl⟩ := rv; simpa using SeqAt.EqAt.int_int (A := A) (s := s) i t i t'
  | bl b => cases (show u = Value.bool b from ru); cases (show v = Value.bool b from rv); exact SeqAt.EqAt.same _
  | str b => obtain ⟨t, rfl⟩ := ru; obtain ⟨t', rfl⟩ := rv; simpa using SeqAt.EqAt.str_str (A := A) (s := s) b t b t'
  | non => cases (show u = Value.none from ru); cases (show v = Value.none from rv); exact SeqAt.EqAt.same _
  | ref a => cases (show u = Value.ref a from ru); cases (show v = Value.ref a from rv); exact SeqAt.EqAt.same _
  | _ => cases hx
section
variable {X : Cx}
end
end InkX

namespace Ink
/-- rows: pairs of ints -/
abbrev Row := List (Int × Int)
/-- the last pair grown, or one more -/
def grow (t : Row) (s e : Int) : Row :=
  match t.getLast? with
  | some p => if p.2 = s then t.dropLast ++ [(p.1, e)] else t ++ [(s, e)]
  | none => t ++ [(s, e)]
def plainStep (t : Row) (p : Int × Int) : Row := if p.1 = p.2 then t else grow t p.1 p.2
def plainF (r : Row) : Row := r.foldl plainStep []
/-- s, s+1, .., n of them -/
def run (s : Int) : Nat → List Int
  | 0 => []
  | n + 1 => s :: run (s + 1) n
def span (p : Int × Int) : List Int := run p.1 (p.2 - p.1).toNat
def spell (r : Row) : List Int := r.flatMap span
def rowOf (ns : List Int) : Row := ns.foldl (fun t n => grow t n (n + 1)) []
theorem run_length (s : Int) (n : Nat) : (run s n).length = n := by
  induction n generalizing s with
  | zero => rfl
  | succ n ih => simp [run, ih]
theorem grow_nil (s e : Int) : grow [] s e = [(s, e)] := rfl
theorem grow_pos (t : Row) {q : Int × Int} {s : Int} {e : Int} (h : q.2 = s) : grow (t ++ [q]) s e = t ++ [(q.1, e)] := by
  simp [grow, h]
theorem grow_neg (t : Row) {q : Int × Int} {s : Int} {e : Int} (h : ¬ q.2 = s) : grow (t ++ [q]) s e = t ++ [q] ++ [(s, e)] := by
  simp [grow, h]
theorem grow_snoc (t : Row) (a s e : Int) : grow (t ++ [(a, s)]) s e = t ++ [(a, e)] := by
  simp [grow]
theorem grow_run (t : Row) (a s : Int) (n : Nat) : (run s n).foldl (fun t n => grow t n (n + 1)) (t ++ [(a, s)]) = t ++ [(a, s + n)] := by
  induction n generalizing s with
  | zero => simp [run]
  | succ n ih =>
    rw [run, List.foldl_cons, grow_snoc, ih]
    have : s + 1 + (n : Int) = s + ((n + 1 : Nat) : Int) := by omega
    rw [this]
theorem step_run (t : Row) (p : Int × Int) (h : p.1 ≤ p.2) : plainStep t p = (span p).foldl (fun t n => grow t n (n + 1)) t := by
  obtain ⟨s, e⟩ := p
  simp only at h
  unfold plainStep span
  by_cases he : s = e
  · subst he; simp [run]
  · obtain ⟨n, hn⟩ : ∃ n : Nat, e = s + 1 + n := ⟨(e - s - 1).toNat, by omega⟩
    subst hn
    rw [if_neg he]
    have h2 : ((s, s + 1 + (n : Int)).2 - (s, s + 1 + (n : Int)).1).toNat = n + 1 := by simp only; omega
    rw [h2, run, List.foldl_cons]
    simp only
    rcases List.eq_nil_or_concat t with rfl | ⟨u, q, rfl⟩
    · rw [grow_nil, grow_nil]
      exact (grow_run [] s (s + 1) n).symm
    · by_cases hq : q.2 = s
      · rw [List.concat_eq_append, grow_pos u hq, grow_pos u hq, grow_run]
      · rw [List.concat_eq_append, grow_neg u hq, grow_neg u hq, grow_run]
theorem foldl_flatMap' {α β γ : Type} (f : γ → β → γ) (g : α → List β) : ∀ (l : List α) (c : γ), (l.flatMap g).foldl f c = l.foldl (fun c a => (g a).foldl f c) c
  | [], _ => rfl
  | a :: l, c => by rw [List.flatMap_cons, List.foldl_append, List.foldl_cons, foldl_flatMap' f g l]
theorem plain_eq (r : Row) (h : ∀ p ∈ r, p.1 ≤ p.2) : plainF r = rowOf (spell r) := by
  unfold plainF rowOf spell
  rw [foldl_flatMap']
  have key : ∀ (r : Row), (∀ p ∈ r, p.1 ≤ p.2) → ∀ t : Row, r.foldl plainStep t = r.foldl (fun c a => (span a).foldl (fun t n => grow t n (n + 1)) c) t := by
    intro r
    induction r with
    | nil => intro _ t; rfl
    | cons p r ih =>
      intro h t
      rw [List.foldl_cons, List.foldl_cons, step_run t p (h p (List.mem_cons_self ..))]
      exact ih (fun q hq => h q (List.mem_cons_of_mem _ hq)) _
  exact key r h []
theorem grow_length (t : Row) (s e : Int) : (grow t s e).length ≤ t.length + 1 := by
  rcases List.eq_nil_or_concat t with rfl | ⟨u, q, rfl⟩
  · rw [grow_nil]; simp
  · by_cases hq : q.2 = s
    · rw [List.concat_eq_append, grow_pos u hq]; simp
    · rw [List.concat_eq_append, grow_neg u hq]; simp
theorem foldl_take_succ {α β : Type} (f : β → α → β) (l : List α) (b : β) (i : Nat) (x : α) (h : l[i]? = some x) : (l.take (i + 1)).foldl f b = f ((l.take i).foldl f b) x := by
  rw [List.take_add_one, h, List.foldl_append]
  rfl
end Ink

namespace Ink
/-! ### sizes and places -/
def tot (r : Row) : Int := (r.map fun p => p.2 - p.1).sum
theorem tot_nil : tot [] = 0 := rfl
theorem tot_cons (p : Int × Int) (r : Row) : tot (p :: r) = (p.2 - p.1) + tot r := by simp [tot]
theorem tot_snoc (r : Row) (p : Int × Int) : tot (r ++ [p]) = tot r + (p.2 - p.1) := by simp [tot]
theorem tot_append (r q : Row) : tot (r ++ q) = tot r + tot q := by simp [tot]
theorem take_snoc {α : Type} {l : List α} {i : Nat} {x : α} (h : l[i]? = some x) : l.take (i + 1) = l.take i ++ [x] := by rw [List.take_add_one, h]; rfl
end Ink
namespace Ink
theorem run_snoc (s : Int) (n : Nat) : run s (n + 1) = run s n ++ [s + n] := by
  induction n generalizing s with
  | zero => simp [run]
  | succ n ih =>
    rw [run, ih, run]
    have : s + 1 + (n : Int) = s + ((n + 1 : Nat) : Int) := by omega
    rw [this]; rfl
theorem span_more {a n : Int} (h : a ≤ n) : span (a, n + 1) = span (a, n) ++ [n] := by
  unfold span
  have e : ((a, n + 1).2 - (a, n + 1).1).toNat = ((a, n).2 - (a, n).1).toNat + 1 := by simp only; omega
  rw [e, run_snoc]
  have : a + ((((a, n).2 - (a, n).1).toNat : Nat) : Int) = n := by simp only; omega
  simp only at this ⊢
  rw [this]
theorem span_one (n : Int) : span (n, n + 1) = [n] := by
  have := span_more (a := n) (n := n) (Int.le_refl _)
  rw [this]
  have e : span (n, n) = [] := by unfold span; simp [run]
  rw [e]; rfl
theorem spell_append (r q : Row) : spell (r ++ q) = spell r ++ spell q := by unfold spell; rw [List.flatMap_append]
theorem spell_one (p : Int × Int) : spell [p] = span p := by simp [spell]
theorem spell_grow (t : Row) (n : Int) (h : ∀ p ∈ t, p.1 ≤ p.2) : spell (grow t n (n + 1)) = spell t ++ [n] := by
  rcases List.eq_nil_or_concat t with rfl | ⟨u, q, rfl⟩
  · rw [grow_nil, spell_one, span_one]; rfl
  · rw [List.concat_eq_append] at h ⊢
    by_cases hq : q.2 = n
    · obtain ⟨a, b⟩ := q
      simp only at hq
      subst hq
      have hb : a ≤ b := h (a, b) (by simp)
      rw [grow_pos u rfl, spell_append, spell_append, spell_one, spell_one, span_more hb, List.append_assoc]
    · rw [grow_neg u hq, spell_append, spell_one, span_one]
theorem grow_ok (t : Row) (n : Int) (h : ∀ p ∈ t, p.1 ≤ p.2) : ∀ p ∈ grow t n (n + 1), p.1 ≤ p.2 := by
  rcases List.eq_nil_or_concat t with rfl | ⟨u, q, rfl⟩
  · rw [grow_nil]; intro p hp; simp at hp; subst hp; show n ≤ n + 1; omega
  · rw [List.concat_eq_append] at h ⊢
    by_cases hq : q.2 = n
    · rw [grow_pos u hq]
      intro p hp
      rcases List.mem_append.mp hp with z | z
      · exact h p (List.mem_append_left _ z)
      · simp at z; subst z
        have := h q (by simp)
        show q.1 ≤ n + 1
        omega
    · rw [grow_neg u hq]
      intro p hp
      rcases List.mem_append.mp hp with z | z
      · exact h p z
      · simp at z; subst z; show n ≤ n + 1; omega
theorem spell_rowOf (ns : List Int) : spell (rowOf ns) = ns := by
  have key : ∀ (ns : List Int) (t : Row), (∀ p ∈ t, p.1 ≤ p.2) → spell (ns.foldl (fun t n => grow t n (n + 1)) t) = spell t ++ ns := by
    intro ns
    induction ns with
    | nil => intro t _; simp
    | cons n ns ih =>
      intro t h
      rw [List.foldl_cons, ih _ (grow_ok t n h), spell_grow t n h, List.append_assoc]; rfl
  have := key ns [] (fun p hp => by cases hp)
  simpa [rowOf, spell] using this
theorem rowOf_ok (ns : List Int) : ∀ p ∈ rowOf ns, p.1 ≤ p.2 := by
  have key : ∀ (ns : List Int) (t : Row), (∀ p ∈ t, p.1 ≤ p.2) → ∀ p ∈ ns.foldl (fun t n => grow t n (n + 1)) t, p.1 ≤ p.2 := by
    intro ns
    induction ns with
    | nil => intro t h; exact h
    | cons n ns ih => intro t h; exact ih _ (grow_ok t n h)
  exact key ns [] (fun p hp => by cases hp)
end Ink
namespace Ink
theorem span_length (p : Int × Int) (h : p.1 ≤ p.2) : ((span p).length : Int) = p.2 - p.1 := by
  unfold span; rw [run_length]; omega
theorem spell_len : ∀ (r : Row), (∀ p ∈ r, p.1 ≤ p.2) → ((spell r).length : Int) = tot r
  | [], _ => rfl
  | p :: r, h => by
    have ih := spell_len r fun q hq => h q (List.mem_cons_of_mem _ hq)
    have hp := span_length p (h p (List.mem_cons_self ..))
    have e : spell (p :: r) = span p ++ spell r := rfl
    rw [e, List.length_append, tot_cons]
    omega
end Ink

namespace Ink
open PySem L2 InkX

/-! ### a def of the text, called by its promise -/
structure DefAt (K : PySem.W.Frag) (mg : Str → Option Value) (x : Str) (st : Stmt) (ps : List Str) (a : Addr) (d : FuncData) : Prop where
  F : Fun K x x st a d
  b : Binds K d ps []
  m : mg x = some (.ref a)
section
variable {X : Cx}
theorem pe_def {x : Str} {st : Stmt} {ps : List Str} {f : Addr} {fd : FuncData} {j k : Nat} {sp : Sp} {e : Expr} {es : List Expr} {t : TA} {p pos : Pos} (d : DefAt X.K X.mg x st ps f fd) (G : FnOk X.prog X.w X.K X.mg X.base CX0 k f fd ps sp) (hr : Room j X.A)
    (ha : PA X (e :: es) t) (hjk : k ≤ j := by first | decide | omega) (hg : Gl X x := by rfl) (hdb : (x == ("__debug__" : Str)) = false := by decide) (he : starEach (e :: es) X.env = (false, eval e X.env) :: starEach es X.env := by rfl)
    (hpl : (backTo pos (starEach es X.env)).any (·.1) = false := by rfl) : PE X (.Call (.Name x p) (e :: es) [] pos) (tCall sp [] E0 t) :=
  pe_call G (hr.mono hjk) hg d.m d.F.kp d.b .nil pass0 ha hdb he hpl
theorem ps_imp {st : Stmt} {t t' : TS} (h : PS X st t) (hi : ∀ D σ H, t' D σ H → t D σ H) : PS X st t' := fun pins s σ H D I q => h pins s σ H D I (hi D σ H q)
end

/-! ### heaps -/
/-- all but what stands at l is as it was -/
def Keep (l : Addr) (H H' : Hp) : Prop := ∀ a o, H a = some o → a ≠ l → H' a = some o
theorem Same.keep {l : Addr} {H H' : Hp} (s : Same H H') : Keep l H H' := fun a o e _ => s a o e
theorem Keep.trans {l : Addr} {H H1 H2 : Hp} (a : Keep l H H1) (b : Keep l H1 H2) : Keep l H H2 := fun c o e n => b c o (a c o e n) n
theorem keep_upd (l : Addr) (H : Hp) (o : HO) : Keep l H (upd H l o) := fun a u e n => by rw [upd_ne n]; exact e
theorem keep_of {l : Addr} {H H1 H2 : Hp} (h : H l = none) (a : Same H H1) (b : Keep l H1 H2) : Same H H2 := fun c o e => b c o (a c o e) (ne_of_none e h)
theorem same_new {H : Hp} {p : Addr} (h : H p = none) (o : HO) : Same H (upd H p o) := fun b u q => by rw [upd_ne (ne_of_none q h)]; exact q
/-! ### the reader of a script: a list of the cells, a place, a rest, a mix -/
def SrcOk (H : Hp) (l c : Addr) : Prop := c ≠ l ∧ ∃ (ns : List Int) (i d r : Int), H l = some (.lst [.ref c, .int i, .int d, .int r]) ∧ H c = some (.lst (ns.map V.int)) ∧ 0 ≤ i ∧ 0 ≤ r ∧ r < 2147483647
theorem SrcOk.same {H H' : Hp} {l c : Addr} (s : SrcOk H l c) (k : Same H H') : SrcOk H' l c := by
  obtain ⟨n, ns, i, d, r, h1, h2, h3⟩ := s
  exact ⟨n, ns, i, d, r, k _ _ h1, k _ _ h2, h3⟩
theorem SrcOk.keep {H H' : Hp} {l c m : Addr} (s : SrcOk H l c) (k : Keep m H H') (h1 : l ≠ m) (h2 : c ≠ m) : SrcOk H' l c := by
  obtain ⟨n, ns, i, d, r, e1, e2, h3⟩ := s
  exact ⟨n, ns, i, d, r, k _ _ e1 h1, k _ _ e2 h2, h3⟩
theorem SrcOk.ne {H : Hp} {l c a : Addr} (s : SrcOk H l c) (h : H a = none) : l ≠ a ∧ c ≠ a := by
  obtain ⟨n, ns, i, d, r, e1, e2, h3⟩ := s
  exact ⟨ne_of_none e1 h, ne_of_none e2 h⟩
theorem at40 {a b c d : V} : atI [a, b, c, d] 0 = some a := rfl
theorem at41 {a b c d : V} : atI [a, b, c, d] 1 = some b := rfl
theorem at42 {a b c d : V} : atI [a, b, c, d] 2 = some c := rfl
theorem at43 {a b c d : V} : atI [a, b, c, d] 3 = some d := rfl
theorem at20 {a b : V} : atI [a, b] 0 = some a := rfl
theorem at21 {a b : V} : atI [a, b] 1 = some b := rfl
/-- the promise of the reader's step: any number below the base -/
def spNext : Sp := fun vs H Q _ => ∃ (l c : Addr) (b : Int), vs = [.ref l, .int b] ∧ SrcOk H l c ∧ 0 < b ∧ b < 10 ^ 70 ∧
  ∀ (v : Int) (H' : Hp), 0 ≤ v → v < b → SrcOk H' l c → (∀ a, a ≠ l → H' a = H a) → Q (.int v) H'
def spSrc (K : PySem.W.Frag) : Sp := fun vs H Q _ => ∃ (a : Addr) (ns : List Int), vs = [.ref a] ∧ SqL K H a (ns.map V.int) ∧
  ∀ (l c : Addr) (H' : Hp), SrcOk H' l c → Same H H' → H l = none → H c = none → Q (.ref l) H'

/-! ### the same things, to a depth -/
def flat : V → Bool
  | .int _ | .bl _ | .str _ | .non => true
  | _ => false
def AtS (k : Bool) (H : Hp) (a : Addr) (xs : List V) : Prop := match k with
  | true => H a = some (.lst xs)
  | false => H a = some (.tup xs)
theorem AtS.same {k : Bool} {H H' : Hp} {a : Addr} {xs : List V} (h : AtS k H a xs) (s : Same H H') : AtS k H' a xs := by
  cases k
  · exact s _ _ h
  · exact s _ _ h
theorem AtS.sq {K : PySem.W.Frag} {k : Bool} {H : Hp} {a : Addr} {xs : List V} (h : AtS k H a xs) : SqB K k H a xs := by
  cases k
  · exact SqT.of h
  · exact SqL.of h
def Eqv (H : Hp) : Nat → V → V → Prop
  | 0, _, _ => False
  | n + 1, x, y => (flat x = true ∧ x = y) ∨ ∃ (k : Bool) (a b : Addr) (xs ys : List V), x = .ref a ∧ y = .ref b ∧ AtS k H a xs ∧ AtS k H b ys ∧ xs.length = ys.length ∧
      ∀ (i : Nat) (u v : V), xs[i]? = some u → ys[i]? = some v → Eqv H n u v
theorem Eqv.same {H H' : Hp} (s : Same H H') : ∀ {n : Nat} {x y : V}, Eqv H n x y → Eqv H' n x y
  | 0, _, _, h => h
  | n + 1, x, y, h => by
    rcases h with h | ⟨k, a, b, xs, ys, e1, e2, h1, h2, hl, hi⟩
    · exact .inl h
    · exact .inr ⟨k, a, b, xs, ys, e1, e2, h1.same s, h2.same s, hl, fun i u v eu ev => Eqv.same s (hi i u v eu ev)⟩
def spSame (n : Nat) : Sp := fun vs H Q _ => ∃ x y, vs = [x, y] ∧ Eqv H n x y ∧ ∀ H', Same H H' → Q (.bl true) H'
def spWhole : Sp := fun vs H Q _ => ∃ i : Int, vs = [.int i] ∧ Q (.bl true) H
section
variable (K : PySem.W.Frag)
theorem k_bb : PySem.W.kitOne K (.type "bool") (.type "bool") = some true := by rfl
theorem k_ib : PySem.W.kitOne K (.type "int") (.type "bool") = some false := by kernel_rfl
theorem k_ii : PySem.W.kitOne K (.type "int") (.type "int") = some true := by rfl
theorem k_sb : PySem.W.kitOne K (.type "str") (.type "bool") = some false := by kernel_rfl
theorem k_si : PySem.W.kitOne K (.type "str") (.type "int") = some false := by kernel_rfl
theorem k_ss : PySem.W.kitOne K (.type "str") (.type "str") = some true := by rfl
theorem k_lb : PySem.W.kitOne K (.type "list") (.type "bool") = some false := by kernel_rfl
theorem k_li : PySem.W.kitOne K (.type "list") (.type "int") = some false := by kernel_rfl
theorem k_ls : PySem.W.kitOne K (.type "list") (.type "str") = some false := by kernel_rfl
theorem k_ll : PySem.W.kitOne K (.type "list") (.type "list") = some true := by rfl
theorem k_lt : PySem.W.kitOne K (.type "list") (.type "tuple") = some false := by kernel_rfl
theorem k_tb : PySem.W.kitOne K (.type "tuple") (.type "bool") = some false := by kernel_rfl
theorem k_ti : PySem.W.kitOne K (.type "tuple") (.type "int") = some false := by kernel_rfl
theorem k_ts : PySem.W.kitOne K (.type "tuple") (.type "str") = some false := by kernel_rfl
theorem k_tl : PySem.W.kitOne K (.type "tuple") (.type "list") = some false := by kernel_rfl
theorem k_tt : PySem.W.kitOne K (.type "tuple") (.type "tuple") = some true := by rfl
end
def tyS (k : Bool) : Value := .type (if k then "list" else "tuple")
theorem AtS.ty {K : PySem.W.Frag} {k : Bool} {H : Hp} {a : Addr} {xs : List V} (h : AtS k H a xs) : TyOf K H (.ref a) (tyS k) := by
  cases k
  · exact TyOf.tup h
  · exact TyOf.lst h
theorem k_qb (K : PySem.W.Frag) (k : Bool) : PySem.W.kitOne K (tyS k) (.type "bool") = some false := by cases k; exact k_tb K; exact k_lb K
theorem k_qi (K : PySem.W.Frag) (k : Bool) : PySem.W.kitOne K (tyS k) (.type "int") = some false := by cases k; exact k_ti K; exact k_li K
theorem k_qs (K : PySem.W.Frag) (k : Bool) : PySem.W.kitOne K (tyS k) (.type "str") = some false := by cases k; exact k_ts K; exact k_ls K
theorem k_ql (K : PySem.W.Frag) (k : Bool) : PySem.W.kitOne K (tyS k) (.type "list") = some k := by cases k; exact k_tl K; exact k_ll K
theorem k_qt (K : PySem.W.Frag) (k : Bool) : PySem.W.kitOne K (tyS k) (.type "tuple") = some (!k) := by cases k; exact k_tt K; exact k_lt K

/-! ### rows: lists of pairs -/
def PairAt (H : Hp) (a : Addr) (p : Int × Int) : Prop := H a = some (.tup [.int p.1, .int p.2])
abbrev PairsAt (H : Hp) : List Addr → Row → Prop := Paired (PairAt H)
def RowAt (H : Hp) (r : Addr) (row : Row) : Prop := ∃ as : List Addr, H r = some (.lst (as.map V.ref)) ∧ PairsAt H as row
theorem PairsAt.tups {H H' : Hp} {as : List Addr} {row : Row} (h : PairsAt H as row) (t : ∀ a xs, H a = some (.tup xs) → H' a = some (.tup xs)) : PairsAt H' as row := Paired.mapP h fun a p e => t a _ e
theorem PairsAt.same {H H' : Hp} {as : List Addr} {row : Row} (h : PairsAt H as row) (s : Same H H') : PairsAt H' as row := h.tups fun a xs e => s a _ e
theorem RowAt.same {H H' : Hp} {r : Addr} {row : Row} (h : RowAt H r row) (s : Same H H') : RowAt H' r row := by
  obtain ⟨as, h1, h2⟩ := h
  exact ⟨as, s _ _ h1, h2.same s⟩
/-- what stands at l is no tuple -/
theorem PairsAt.keep {H H' : Hp} {as : List Addr} {row : Row} {l : Addr} {xs : List V} (h : PairsAt H as row) (hl : H l = some (.lst xs)) (s : Keep l H H') : PairsAt H' as row :=
  h.tups fun a ys e => s a _ e (ne_of e hl (by intro z; cases z))
theorem RowAt.keep {H H' : Hp} {r : Addr} {row : Row} {l : Addr} {xs : List V} (h : RowAt H r row) (hl : H l = some (.lst xs)) (n : r ≠ l) (s : Keep l H H') : RowAt H' r row := by
  obtain ⟨as, h1, h2⟩ := h
  exact ⟨as, s _ _ h1 n, h2.keep hl s⟩
theorem PairsAt.get {H : Hp} : ∀ {as : List Addr} {row : Row} {i : Nat} {a : Addr}, PairsAt H as row → as[i]? = some a → ∃ p, row[i]? = some p ∧ PairAt H a p
  | _, _, _, _, .nil, e => by simp at e
  | _, _, 0, _, .cons r _, e => by simp at e; subst e; exact ⟨_, rfl, r⟩
  | _, _, i + 1, a, .cons _ t, e => by
    obtain ⟨p, h1, h2⟩ := PairsAt.get (i := i) (a := a) t (by simpa using e)
    exact ⟨p, by simpa using h1, h2⟩
theorem PairsAt.snoc {H : Hp} : ∀ {as : List Addr} {row : Row} {a : Addr} {p : Int × Int}, PairsAt H as row → PairAt H a p → PairsAt H (as ++ [a]) (row ++ [p])
  | _, _, _, _, .nil, e => .cons e .nil
  | _, _, _, _, .cons r t, e => .cons r (PairsAt.snoc t e)
theorem PairsAt.split {H : Hp} : ∀ {as : List Addr} {row : Row} {p : Int × Int}, PairsAt H as (row ++ [p]) → ∃ bs a, as = bs ++ [a] ∧ PairsAt H bs row ∧ PairAt H a p
  | as, [], p, h => by
    cases h with
    | cons r t => cases t; exact ⟨[], _, rfl, .nil, r⟩
  | as, q :: row, p, h => by
    cases h with
    | cons r t =>
      obtain ⟨bs, a, rfl, h1, h2⟩ := PairsAt.split (row := row) (p := p) t
      exact ⟨_ :: bs, a, rfl, .cons r h1, h2⟩
theorem PairsAt.len {H : Hp} {as : List Addr} {row : Row} (h : PairsAt H as row) : as.length = row.length := Paired.length h
theorem atI_neg1 {α : Type} (xs : List α) (v : α) : atI (xs ++ [v]) (-1) = some v := atI_last xs v
theorem ixN_neg1 (n : Nat) : ixN (n + 1) (-1) = some n := by
  unfold ixN
  rw [if_neg (by decide), if_pos (by omega)]
  congr 1
  omega
theorem set_last {α : Type} (xs : List α) (a b : α) : (xs ++ [a]).set xs.length b = xs ++ [b] := by
  simp
def spPlain : Sp := fun vs H Q _ => ∃ (r : Addr) (row : Row), vs = [.ref r] ∧ RowAt H r row ∧ row.length ≤ 1000000 ∧
  ∀ (q : Addr) (H' : Hp), RowAt H' q (plainF row) → Same H H' → H q = none → Q (.ref q) H'
def spLaw (K : PySem.W.Frag) : Sp := fun vs H Q _ => ∃ (a : Addr) (ns : List Int), vs = [.ref a] ∧ SqL K H a (ns.map V.int) ∧ ns.length ≤ 63 ∧ ∀ H', Q (.bl true) H'
theorem million {n : Nat} (h : n ≤ 1000001) : n < sizeLine := Nat.lt_of_le_of_lt h (by decide)
end Ink

namespace Ink
open PySem L2 InkX
/-! ### defs that all laws share -/
def nextT1 : TS := fun D σ H => ∃ (l c : Addr) (b : Int), σ = [some (.ref l), some (.int b), none, none] ∧ SrcOk H l c ∧
  ∀ (cell : Option V) (H' : Hp), SrcOk H' l c → (∀ a, a ≠ l → H' a = H a) → D.nx [some (.ref l), some (.int b), cell, none] H'
def nextT2 : TS := fun D σ H => ∃ (l c : Addr) (b : Int), σ = [some (.ref l), some (.int b), some (.int 7), none] ∧ SrcOk H l c ∧
  ∀ (cell : Int) (H' : Hp), SrcOk H' l c → (∀ a, a ≠ l → H' a = H a) → D.nx [some (.ref l), some (.int b), some (.int cell), none] H'
theorem at_ints {ns : List Int} {i : Int} (h0 : 0 ≤ i) (h1 : i < (ns.length : Int)) : ∃ v : Int, atI (ns.map V.int) i = some (.int v) := by
  have hk : i.toNat < ns.length := by omega
  refine ⟨ns[i.toNat], ?_⟩
  have q : atI (ns.map V.int) ((i.toNat : Nat) : Int) = some (.int ns[i.toNat]) := atI_nat (by rw [List.getElem?_map, List.getElem?_eq_getElem hk] <;> rfl)
  have ei : ((i.toNat : Nat) : Int) = i := by omega
  rw [ei] at q
  exact q
theorem cut_ints (ns : List Int) (lo hi : Option Int) : ∃ ms : List Int, cutV (ns.map V.int) lo hi = ms.map V.int := by
  unfold cutV
  refine ⟨(ns.drop (HT.sIx (ns.map V.int).length 0 lo)).take (HT.sIx (ns.map V.int).length (ns.map V.int).length hi - HT.sIx (ns.map V.int).length 0 lo), ?_⟩
  rw [List.map_take, List.map_drop]
theorem tt {p : Prop} [Decidable p] {Q : V → Hp → Prop} {H : Hp} (hp : p) (h : Q (.bl true) H) : Q (.bl (decide p)) H := by
  rw [decide_eq_true hp]
  exact h
theorem AtS.or {K : PySem.W.Frag} {k : Bool} {H : Hp} {a : Addr} {xs : List V} (h : AtS k H a xs) : SqL K H a xs ∨ SqT K H a xs := by
  cases k
  · exact .inr (SqT.of h)
  · exact .inl (SqL.of h)
theorem off_keep {l : Addr} {H H' : Hp} (k : ∀ a, a ≠ l → H' a = H a) : Keep l H H' := fun a o e n => by rw [k a n]; exact e
end Ink

namespace Ink
open PySem L2 InkX
end Ink

namespace InkX
open PySem PySem.Spec PyProof.Rows L2
/-! ### a list made by one clause: [elt for tg in iter if ..]; its own names are local, it names none of the def's -/
/-- the context of the block -/
def cxC (X : Cx) (N : List Str) (scope : Scope) (C : Addr) (s₀ : Shared) (H₀ : Hp) (ex : List Addr) (pn : List (Addr × Obj)) : Cx where
  prog := X.prog
  w := X.w
  K := X.K
  mg := X.mg
  base := X.base
  A := X.A
  N := N
  s₀ := s₀
  H₀ := H₀
  env := newEnv scope C X.env.globals [] X.env.qual none .none (some X.env) X.env.builtins
  outer := X.stack
  stack := X.stack
  ex := ex
  fn := fun _ => true
  calm := X.calm
  pn := pn
  xe := fun _ _ => False
structure CompScope (scope : Scope) : Prop where
  kind : scope.kind = .function
  free : ∀ x ∈ scope.names, x.2 ≠ .free
  cell : ∀ x ∈ scope.names, x.2 ≠ .cell
  names : ∀ x ∈ scope.names, x.2 = .local → scope.names.lookup x.1 = some .local
section
variable {prog : Program} {w : World} {A : Around} {R : Result → Shared → Prop} {s : Shared}
/-- the tests of a clause -/
def testsOf (ifs : List Expr) (env : Env) : Sem Bool := forIn ifs true fun c r => if r = true then do let ok ← isTrue c env (eval c env); pure (ForInStep.yield ok) else pure (ForInStep.yield r)
theorem compLoopG {elt target iter : Expr} {ifs : List Expr} {scope : Scope} {pos : Pos} {it acc : Value} {env : Env} (I : Nat → Shared → Prop)
    (turn : ∀ n s, I n s → wpAny (model prog w) A (pyNext it) (fun r s₁ => match r with
      | none => R (.ok .next) s₁
      | some v => wpAny (model prog w) A (letOwnedTupleGo target it v) (fun _ s₂ => wpAny (model prog w) A (assign target env v) (fun _ s₃ =>
          wpAny (model prog w) A (testsOf ifs env) (fun ok s₄ =>
            if ok = true then wpAny (model prog w) A (eval elt env) (fun x s₅ => wpAny (model prog w) A (call (.builtin "list.append") [acc, x]) (fun _ s₆ => ∃ m, m < n ∧ I m s₆) (fun _ _ => False) s₅) (fun _ _ => False) s₄
            else ∃ m, m < n ∧ I m s₄) (fun _ _ => False) s₃) (fun _ _ => False) s₂) (fun _ _ => False) s₁) (fun _ _ => False) s)
    (n : Nat) (h : I n s) : codeAny (model prog w) A (.compLoop (.ListComp elt [⟨target, iter, ifs, 0⟩] scope pos) 0 it acc env) R s := by
  refine codeAny_loop rfl I (fun n s hI => ?_) n h
  show wpAny _ A ((compTurn (.ListComp elt [⟨target, iter, ifs, 0⟩] scope pos) 0 it acc env).onRaise (fun x => do noteFrame x env; theTreesLotGoes x)) _ _ s
  refine wpAny_noted ?_
  rw [compTurn_list]
  refine wpAny_bind (wpAny_standAt (wpAny_bind (wpAny_mono (turn n s hI) (fun r s₁ h₁ => ?_) fun _ _ h' => h'.elim)))
  cases r with
  | none => exact wpAny_pure h₁
  | some v =>
    refine wpAny_bind (wpAny_mono h₁ (fun _ s₂ h₂ => wpAny_bind (wpAny_mono h₂ (fun _ s₃ h₃ => wpAny_bind (wpAny_mono h₃ (fun ok s₄ h₄ => ?_) fun _ _ h' => h'.elim)) fun _ _ h' => h'.elim)) fun _ _ h' => h'.elim)
    cases ok with
    | false => exact wpAny_pure ⟨rfl, h₄⟩
    | true => exact wpAny_bind (wpAny_bind (wpAny_mono h₄ (fun x s₅ h₅ => wpAny_bind (wpAny_mono h₅ (fun _ s₆ h₆ => wpAny_pure (wpAny_pure ⟨rfl, h₆⟩)) fun _ _ h' => h'.elim)) fun _ _ h' => h'.elim))
end
section
variable {X : Cx} {N : List Str} {scope : Scope}
/-- the block's entry: iterators at fp, the list at acc stands in H already -/
theorem comp_start {pins : List (Addr × Obj)} {σ : L2.St} {H : Hp} {s : Shared} {fp : List Addr} {h₁ : Heap} {t : Nat} (cs : CompScope scope) (I : Inv X pins σ H s) (hf : ∀ b ∈ fp, FpOk X pins H b) (hlt : ∀ b ∈ fp, b < s.heap.objs.size)
    (hns : h₁.Ns s.heap.objs.size fun _ => none) (hk : ∀ b o, s.heap.get? b = some o → h₁.get? b = some o) :
    Inv (cxC X N scope s.heap.objs.size s H fp (X.pn ++ pins)) [] (List.replicate N.length none) H { s with heap := h₁, toks := t } := by
  have nol : ∀ {x c}, (cxC X N scope s.heap.objs.size s H fp (X.pn ++ pins)).env.cells.lookup x = some c → False := fun {x c} e => by
    have e' : (none : Option Addr) = some c := e
    cases e'
  refine ⟨⟨I.ok.mod, cs.kind, I.ok.glob, I.ok.blt, Nat.le_refl _, fun x y c e _ => (nol e).elim, fun x hx => ?_, fun x c _ e => (nol e).elim, I.ok.hd, I.ok.frames, .inl rfl, fun b hb => ⟨Nat.ne_of_lt (hlt b hb), fun x c e => (nol e).elim⟩, I.bs, Nat.le_trans I.ok.bsz I.sz, fun b o e hb => ?_, fun b hb z => ?_, I.stack, I.stkFree⟩,
    rfl, I.bare, Un.kept hk, ⟨_, hns, fun i x v e1 e2 _ => ?_⟩, fun x c e => (nol e).elim, I.hok.fresh (Nat.le_refl _), fun x c e => (nol e).elim, fun p hp => ?_, I.hok.kept hk, by rw [List.length_replicate]; rfl⟩
  · have hx' : scope.names.lookup x = some .cell ∨ scope.names.lookup x = some .free := hx
    rcases hx' with z | z
    · exact absurd rfl (cs.cell _ (PySem.mem_of_lookup z))
    · exact absurd rfl (cs.free _ (PySem.mem_of_lookup z))
  · rcases (hf b hb).2.2.2.1 with z | z
    · exact I.ok.noex b o e z
    · exact absurd (Nat.lt_of_lt_of_le (Heap.lt_size (I.ok.bs b o e).1) z) (Nat.lt_irrefl _)
  · rcases List.mem_cons.mp (I.stkSub b z) with e | e
    · exact (hf b hb).2.1 e
    · exact (hf b hb).2.2.1 e
  · rw [List.getElem?_replicate] at e2
    split at e2 <;> cases e2
  · have hp' : p ∈ X.pn ++ pins := by
      have z : p ∈ (X.pn ++ pins) ++ [] := hp
      simpa using z
    obtain ⟨e, n, nl, nf, d⟩ := I.pin p hp'
    refine ⟨hk _ _ e, n, Nat.ne_of_lt (Heap.lt_size e), fun z => ?_, d⟩
    rcases List.mem_cons.mp (I.stkSub p.1 z) with e | e
    · exact nl e
    · exact nf e
/-- the block's end -/
theorem comp_end {pins : List (Addr × Obj)} {σ σ' : L2.St} {H H' : Hp} {s s' : Shared} {fp : List Addr} {h' : Heap} (I : Inv X pins σ H s) (hf : ∀ b ∈ fp, FpOk X pins H b) (J : Inv (cxC X N scope s.heap.objs.size s H fp (X.pn ++ pins)) [] σ' H' s')
    (hs : Heap.SameBut s.heap.objs.size s'.heap h') : Inv X pins σ H' { s' with heap := h' } := by
  have I4 : Inv X pins σ H' s' := I.call' (ch := fp) J.os J.base J.hok J.bare fun b hb => ⟨(hf b hb).2.2.2.1, (hf b hb).2.1, (hf b hb).2.2.2.2.1, (hf b hb).2.2.2.2.2⟩
  refine I4.turned (t' := s'.toks) (it := s.heap.objs.size) (fun b o hb e => hs.extBut _ _ hb e) J.free (Nat.ne_of_gt I.lt) (.inr I.sz) (fun x c e z => ?_) fun p hp z => ?_
  · obtain ⟨v, o, ho, _⟩ := I.cell x c e
    exact absurd (Heap.lt_size ho) (by rw [z]; exact Nat.lt_irrefl _)
  · exact absurd (Heap.lt_size (I.pin p hp).1) (by rw [z]; exact Nat.lt_irrefl _)

def PTs (X : Cx) (ifs : List Expr) (t : TT) : Prop :=
  ∀ (pins : List (Addr × Obj)) (s : Shared) (σ : L2.St) (H : Hp) (Q : Bool → Hp → Prop), Inv X pins σ H s → t σ H Q → wpAny (model X.prog X.w) X.A (testsOf ifs X.env) (TP X pins σ Q) X.xe s
def tYes : TT := fun _ H Q => Q true H
theorem pts_nil : PTs X [] tYes := fun pins s σ H Q I h => wpAny_tests_nil ⟨H, I, h⟩
theorem pts_one {c : Expr} {t : TT} (h : PT X c t) : PTs X [c] t := fun pins s σ H Q I q => wpAny_tests_one (h pins s σ H Q I q)

/-- the turns of a block -/
def tTurns (J : It) (acc : Addr) (g : TG) (tt : TT) (te : TE) (n : Nat) (H : Hp) (Q : VK) : Prop :=
  ∃ W : Nat → Nat → L2.St → Hp → Prop, (∃ m, W 0 m (List.replicate n none) H) ∧ ∀ i m σ H, W i m σ H →
    (J.stop i H ∧ Q (.ref acc) H) ∨ (J.go i H ∧ ∃ Nx : L2.St → Hp → Prop, (∀ σ' H', Nx σ' H' → ∃ m', m' < m ∧ W (i + 1) m' σ' H') ∧ ∀ x H', J.yld i H x H' → g x σ H' fun σ2 H2 => tt σ2 H2 fun b H3 =>
      if b = true then te σ2 H3 fun v H4 => ∃ xs, H4 acc = some (.lst xs) ∧ xs.length < sizeLine ∧ Nx σ2 (upd H4 acc (.lst (xs ++ [v]))) else Nx σ2 H3)
def tComp (n : Nat) (wi : TI) (g : TG) (tt : TT) (te : TE) : TE := fun σ H Q => wi σ H fun J H1 => ∀ acc, H1 acc = none → tTurns J acc g tt te n (upd H1 acc (.lst [])) Q
theorem pe_comp {elt tg iter : Expr} {ifs : List Expr} {pos : Pos} {wi : TI} {g : TG} {tt : TT} {te : TE} (cs : CompScope scope) (hc : X.calm = true) (hi : PI X tg iter wi)
    (hg : ∀ C s₀ H₀ ex pn, PG (cxC X N scope C s₀ H₀ ex pn) tg g) (ht : ∀ C s₀ H₀ ex pn, PTs (cxC X N scope C s₀ H₀ ex pn) ifs tt) (he : ∀ C s₀ H₀ ex pn, PE (cxC X N scope C s₀ H₀ ex pn) elt te)
    (hs : ∀ x, foldedSetIterable iter X.env x = pure x := by intro _; rfl) : PE X (.ListComp elt [⟨tg, iter, ifs, 0⟩] scope pos) (tComp N.length wi g tt te) := by
  intro pins s σ H Q I h
  refine wpAny_ListComp cs.free cs.kind cs.names (thn (hi pins s σ H _ I h) fun v s1 h1 => thn h1 fun itv s2 h2 => ?_) hs
  obtain ⟨it, fp, tn, J, H2, e, I2, T, st2, f2, q⟩ := h2
  subst e
  refine wpAny_newObj_type (hd := by size_fits) ?_
  have hacc : H2 s2.heap.objs.size = none := I2.hok.fresh (Nat.le_refl _)
  have I3 : Inv X pins σ (upd H2 s2.heap.objs.size (.lst [])) { s2 with heap := s2.heap.push { cls := .type "list", data := .seq ([] : List Value).toArray }, toks := s2.toks } := I2.lnew (ys := []) .nil (Nat.zero_le _)
  have ftn : ∀ b ∈ fp, b < s2.heap.objs.size := fun b hb => by
    obtain ⟨o, ho, _⟩ := T.obj _ _ st2 b hb
    exact Heap.lt_size ho
  have f3 : ∀ b ∈ fp, FpOk X pins (upd H2 s2.heap.objs.size (.lst [])) b := fun b hb => ⟨by rw [upd_ne (Nat.ne_of_lt (ftn b hb))]; exact (f2 b hb).1, (f2 b hb).2⟩
  have k3 : ∀ b o, s2.heap.get? b = some o → (s2.heap.push { cls := .type "list", data := .seq ([] : List Value).toArray }).get? b = some o := fun b o e => Heap.get?_push_of_some _ e
  have q3 := q _ hacc
  generalize hs3 : ({ s2 with heap := s2.heap.push { cls := .type "list", data := .seq ([] : List Value).toArray }, toks := s2.toks } : Shared) = s3 at I3
  generalize hH3 : upd H2 s2.heap.objs.size (.lst []) = H3 at I3 f3 q3
  have hh3 : s3.heap = s2.heap.push { cls := .type "list", data := .seq ([] : List Value).toArray } := by rw [← hs3]
  have ft3 : ∀ b ∈ fp, b < s3.heap.objs.size := fun b hb => by rw [hh3, Heap.size_push]; exact Nat.lt_succ_of_lt (ftn b hb)
  have st3 : tn 0 s3.heap := T.keep _ _ _ st2 fun b _ o e => by rw [hh3]; exact k3 b o e
  show wpAny _ _ _ _ _ s3
  refine wpAny_newFunctionEnv cs.cell (fun y hy => by simp at hy) (fun h₁ hns hsb => ?_) cs.kind
  have kh : ∀ b o, s3.heap.get? b = some o → h₁.get? b = some o := fun b o e => hsb.extBut _ _ (Nat.ne_of_lt (Heap.lt_size e)) (Heap.get?_push_of_some _ e)
  have J0 : Inv (cxC X N scope s3.heap.objs.size s3 H3 fp (X.pn ++ pins)) [] (List.replicate N.length none) H3 { s3 with heap := h₁, toks := s3.toks + ([] : List (Str × Value)).length } := comp_start cs I3 f3 ft3 hns kh
  have st4 : tn 0 h₁ := T.keep _ _ _ st3 fun b _ o e => kh b o e
  obtain ⟨W, ⟨m0, w0⟩, turn⟩ := q3
  have stat : ∀ {H' : Hp}, (∀ b ∈ fp, H' b = none) → ∀ b ∈ fp, FpOk (cxC X N scope s3.heap.objs.size s3 H3 fp (X.pn ++ pins)) [] H' b := fun hn b hb => by
    refine ⟨hn b hb, Nat.ne_of_lt (ft3 b hb), fun z => ?_, .inl hb, fun x c e => ?_, fun p hp => ?_⟩
    · rcases List.mem_cons.mp (I3.stkSub b z) with e | e
      · exact (f3 b hb).2.1 e
      · exact (f3 b hb).2.2.1 e
    · have e' : (none : Option Addr) = some c := e
      cases e'
    · have hp' : p ∈ X.pn ++ pins := by
        have z : p ∈ (X.pn ++ pins) ++ [] := hp
        simpa using z
      exact (f3 b hb).2.2.2.2.2 p hp'
  have loop : ∀ s5 : Shared, s5 = { s3 with heap := h₁, toks := s3.toks + ([] : List (Str × Value)).length } → codeAny (model X.prog X.w) X.A (.compLoop (.ListComp elt [⟨tg, iter, ifs, 0⟩] scope pos) 0 (.ref it) (.ref s2.heap.objs.size) (cxC X N scope s3.heap.objs.size s3 H3 fp (X.pn ++ pins)).env)
      (fun r s' => ∃ m, s'.heap.Ns s3.heap.objs.size m ∧ ∀ h', Heap.SameBut s3.heap.objs.size s'.heap h' → match r with
        | .ok _ => EP X pins σ Q (.ref s2.heap.objs.size) { s' with heap := h' }
        | .error x => wpAny (model X.prog X.w) X.A (passOn "comprehension.variables-let-go" x (cxC X N scope s3.heap.objs.size s3 H3 fp (X.pn ++ pins)).env) (EP X pins σ Q) X.xe { s' with heap := h' }) s5 := by
    rintro s5 rfl
    refine compLoopG (fun n s' => ∃ i σ' H', Inv (cxC X N scope s3.heap.objs.size s3 H3 fp (X.pn ++ pins)) [] σ' H' s' ∧ tn i s'.heap ∧ (∀ b ∈ fp, H' b = none) ∧ W i n σ' H') ?_ m0 ⟨0, _, H3, J0, st4, fun b hb => (f3 b hb).1, w0⟩
    rintro n s6 ⟨i, σ6, H6, I6, st6, fr6, w6⟩
    rcases turn i n σ6 H6 w6 with ⟨stop, qn⟩ | ⟨go, Nx, hN, step⟩
    · refine thn (T.done (cxC X N scope s3.heap.objs.size s3 H3 fp (X.pn ++ pins)) rfl rfl rfl hc i [] s6 σ6 H6 _ I6 (stat fr6) st6 stop) fun r s7 ⟨hr, I7⟩ => ?_
      subst hr
      obtain ⟨m, hm, _⟩ := I7.loc
      exact ⟨m, hm, fun h' hsb' => ⟨.ref s2.heap.objs.size, H6, comp_end I3 f3 I7 hsb', rfl, qn⟩⟩
    · refine thn (T.item (cxC X N scope s3.heap.objs.size s3 H3 fp (X.pn ++ pins)) rfl rfl rfl hc i [] s6 σ6 H6 _ I6 (stat fr6) st6 go) fun r s7 ⟨u, hr, h7⟩ => ?_
      subst hr
      refine thn h7 fun _ s8 ⟨x, H8, I8, r8, y8, st8, fr8⟩ => ?_
      have I8' := I8.pinned (stat fr8) (T.obj _ _ st8)
      refine thn (hg _ _ _ _ _ _ s8 σ6 H8 x u _ I8' r8 (step x H8 y8)) fun _ s9 ⟨σ9, H9, I9, q9⟩ => ?_
      refine thn (ht _ _ _ _ _ _ s9 σ9 H9 _ I9 q9) fun ok s10 ⟨H10, I10, q10⟩ => ?_
      have again : ∀ {σ7 : L2.St} {H7 : Hp} {s11 : Shared}, Inv (cxC X N scope s3.heap.objs.size s3 H3 fp (X.pn ++ pins)) ([] ++ pinsAt fp s8.heap) σ7 H7 s11 → Nx σ7 H7 → ∃ m, m < n ∧ ∃ i σ' H', Inv (cxC X N scope s3.heap.objs.size s3 H3 fp (X.pn ++ pins)) [] σ' H' s11 ∧ tn i s11.heap ∧ (∀ b ∈ fp, H' b = none) ∧ W i m σ' H' := fun {σ7 H7 s11} I7 n7 => by
        obtain ⟨m', hm, w7⟩ := hN σ7 H7 n7
        refine ⟨m', hm, i + 1, σ7, H7, I7.unpinned, T.keep _ _ _ st8 fun b hb o e => (I7.pin (b, o) (List.mem_append_right _ (List.mem_append_right _ (mem_pinsAt hb e)))).1, fun b hb => ?_, w7⟩
        obtain ⟨o, e, d⟩ := T.obj _ _ st8 b hb
        exact (I7.pin (b, o) (List.mem_append_right _ (List.mem_append_right _ (mem_pinsAt hb e)))).2.1
      cases ok with
      | false =>
        rw [if_neg Bool.false_ne_true] at q10
        exact again I10 q10
      | true =>
        rw [if_pos rfl] at q10
        refine thn (he _ _ _ _ _ _ s10 σ9 H10 _ I10 q10) fun v s11 ⟨y, H11, I11, r11, xs, hx, hz, n11⟩ => ?_
        refine thn (mt_append _ s11 σ9 H11 (.ref s2.heap.objs.size) [y] (.ref s2.heap.objs.size) [v] (fun _ H' => Nx σ9 H') I11 rfl (.cons r11 .nil) ⟨_, xs, y, rfl, rfl, hx, hz, n11⟩) fun _ s12 ⟨_, H12, I12, _, n12⟩ => ?_
        exact again I12 n12
  exact codeAny_compStart_list (loop _ rfl) (T.self _ _ _ _ _ st4 (loop _ rfl))
/-- the forms one uses: a list that the block leaves as it is, each item one value -/
theorem comp_list {K : PySem.W.Frag} {a acc : Addr} {xs : List V} {g : TG} {tt : TT} {te : TE} {n : Nat} {H : Hp} {Q : VK} (Pv : Nat → L2.St → Hp → Prop) (h0 : Pv 0 (List.replicate n none) H) (hl : ∀ i σ H, i ≤ xs.length → Pv i σ H → SqL K H a xs)
    (hs : ∀ i x σ H, xs[i]? = some x → Pv i σ H → g x σ H fun σ2 H2 => tt σ2 H2 fun b H3 => if b = true then te σ2 H3 fun v H4 => ∃ ys, H4 acc = some (.lst ys) ∧ ys.length < sizeLine ∧ Pv (i + 1) σ2 (upd H4 acc (.lst (ys ++ [v]))) else Pv (i + 1) σ2 H3)
    (hd : ∀ σ H, Pv xs.length σ H → Q (.ref acc) H) : tTurns (Itl K a) acc g tt te n H Q := by
  refine ⟨fun i m σ H => m = xs.length - i ∧ i ≤ xs.length ∧ Pv i σ H, ⟨xs.length, by simp, Nat.zero_le _, h0⟩, ?_⟩
  rintro i m σ H ⟨rfl, hi, p⟩
  have q := hl i σ H hi p
  by_cases hlt : i < xs.length
  · refine .inr ⟨⟨xs, xs[i], q, by simp [hlt]⟩, Pv (i + 1), fun σ' H' p' => ⟨xs.length - (i + 1), by omega, rfl, hlt, p'⟩, fun x H' y => ?_⟩
    obtain ⟨e, y⟩ := y
    subst e
    exact hs i x σ _ (y xs q) p
  · have e : i = xs.length := by omega
    subst e
    exact .inl ⟨⟨xs, q, Nat.le_refl _⟩, hd σ H p⟩
end
end InkX
namespace InkX
open PySem PySem.Spec PyProof.Rows L2
/-! ### ranges of any bounds -/
section
variable {X : Cx} {tg : Expr}
end
end InkX

namespace InkX
open PySem PySem.Spec PyProof.Rows L2
/-! ### two clauses: [elt for tg in iter for tg2 in iter2 if ..] -/
section
variable {prog : Program} {w : World} {A : Around} {R : Result → Shared → Prop} {s : Shared}
theorem turn_in (elt tg iter tg2 iter2 : Expr) (ifs ifs2 : List Expr) (scope : Scope) (pos : Pos) (it acc : Value) (env : Env) :
    compTurn (.ListComp elt [⟨tg, iter, ifs, 0⟩, ⟨tg2, iter2, ifs2, 0⟩] scope pos) 1 it acc env = (do
      standAt iter2.pos
      match ← pyNext it with
      | none => pure (.done .next)
      | some v =>
        letOwnedTupleGo tg2 it v
        assign tg2 env v
        let ok ← testsOf ifs2 env
        if ok then (do let _ ← call (.builtin "list.append") [acc, ← eval elt env])
        again (.compLoop (.ListComp elt [⟨tg, iter, ifs, 0⟩, ⟨tg2, iter2, ifs2, 0⟩] scope pos) 1 it acc env)) := by rfl
theorem turn_out (elt tg iter tg2 iter2 : Expr) (ifs ifs2 : List Expr) (scope : Scope) (pos : Pos) (it acc : Value) (env : Env) :
    compTurn (.ListComp elt [⟨tg, iter, ifs, 0⟩, ⟨tg2, iter2, ifs2, 0⟩] scope pos) 0 it acc env = (do
      standAt iter.pos
      match ← pyNext it with
      | none => pure (.done .next)
      | some v =>
        letOwnedTupleGo tg it v
        assign tg env v
        let ok ← testsOf ifs env
        if ok then
          let x ← eval iter2 env
          standAt iter2.pos
          let x ← foldedSetIterable iter2 env x
          let _ ← runOwn (.compStart (.ListComp elt [⟨tg, iter, ifs, 0⟩, ⟨tg2, iter2, ifs2, 0⟩] scope pos) 1 (← holding [x] (pyIter x)) acc env) env
        again (.compLoop (.ListComp elt [⟨tg, iter, ifs, 0⟩, ⟨tg2, iter2, ifs2, 0⟩] scope pos) 0 it acc env)) := by rfl
theorem loopIn {elt tg iter tg2 iter2 : Expr} {ifs ifs2 : List Expr} {scope : Scope} {pos : Pos} {it acc : Value} {env : Env} (I : Nat → Shared → Prop)
    (turn : ∀ n s, I n s → wpAny (model prog w) A (pyNext it) (fun r s₁ => match r with
      | none => R (.ok .next) s₁
      | some v => wpAny (model prog w) A (letOwnedTupleGo tg2 it v) (fun _ s₂ => wpAny (model prog w) A (assign tg2 env v) (fun _ s₃ =>
          wpAny (model prog w) A (testsOf ifs2 env) (fun ok s₄ =>
            if ok = true then wpAny (model prog w) A (eval elt env) (fun x s₅ => wpAny (model prog w) A (call (.builtin "list.append") [acc, x]) (fun _ s₆ => ∃ m, m < n ∧ I m s₆) (fun _ _ => False) s₅) (fun _ _ => False) s₄
            else ∃ m, m < n ∧ I m s₄) (fun _ _ => False) s₃) (fun _ _ => False) s₂) (fun _ _ => False) s₁) (fun _ _ => False) s)
    (n : Nat) (h : I n s) : codeAny (model prog w) A (.compLoop (.ListComp elt [⟨tg, iter, ifs, 0⟩, ⟨tg2, iter2, ifs2, 0⟩] scope pos) 1 it acc env) R s := by
  refine codeAny_loop rfl I (fun n s hI => ?_) n h
  show wpAny _ A ((compTurn (.ListComp elt [⟨tg, iter, ifs, 0⟩, ⟨tg2, iter2, ifs2, 0⟩] scope pos) 1 it acc env).onRaise (fun x => do noteFrame x env; theTreesLotGoes x)) _ _ s
  refine wpAny_noted ?_
  rw [turn_in]
  refine wpAny_bind (wpAny_standAt (wpAny_bind (wpAny_mono (turn n s hI) (fun r s₁ h₁ => ?_) fun _ _ h' => h'.elim)))
  cases r with
  | none => exact wpAny_pure h₁
  | some v =>
    refine wpAny_bind (wpAny_mono h₁ (fun _ s₂ h₂ => wpAny_bind (wpAny_mono h₂ (fun _ s₃ h₃ => wpAny_bind (wpAny_mono h₃ (fun ok s₄ h₄ => ?_) fun _ _ h' => h'.elim)) fun _ _ h' => h'.elim)) fun _ _ h' => h'.elim)
    cases ok with
    | false => exact wpAny_pure ⟨rfl, h₄⟩
    | true => exact wpAny_bind (wpAny_bind (wpAny_mono h₄ (fun x s₅ h₅ => wpAny_bind (wpAny_mono h₅ (fun _ s₆ h₆ => wpAny_pure (wpAny_pure ⟨rfl, h₆⟩)) fun _ _ h' => h'.elim)) fun _ _ h' => h'.elim))
theorem startIn {elt tg iter tg2 iter2 : Expr} {ifs ifs2 : List Expr} {scope : Scope} {pos : Pos} {it acc : Value} {env : Env}
    (h0 : codeAny (model prog w) A (.compLoop (.ListComp elt [⟨tg, iter, ifs, 0⟩, ⟨tg2, iter2, ifs2, 0⟩] scope pos) 1 it acc env) R s)
    (h : wpAny (model prog w) A (pyIter it) (fun it' s' => codeAny (model prog w) A (.compLoop (.ListComp elt [⟨tg, iter, ifs, 0⟩, ⟨tg2, iter2, ifs2, 0⟩] scope pos) 1 it' acc env) R s') (fun _ _ => False) s) :
    codeAny (model prog w) A (.compStart (.ListComp elt [⟨tg, iter, ifs, 0⟩, ⟨tg2, iter2, ifs2, 0⟩] scope pos) 1 it acc env) R s := by
  refine codeAny_of_tree ?_
  show wpAny _ _ ((compStart (.ListComp elt [⟨tg, iter, ifs, 0⟩, ⟨tg2, iter2, ifs2, 0⟩] scope pos) 1 it acc env).onRaise (fun x => do noteFrame x env; standAt theWindowsPlace)) _ _ s
  refine wpAny_notedAt ?_
  unfold compStart
  show wpAny _ _ (ask >>= _) _ _ s
  refine wpAny_bind (wpAny_askSetting (wpAny_ite ?_))
  split
  · first
      | exact wpAny_bind (wpAny_pure (wpAny_pure (And.intro rfl h0)))
      | exact wpAny_pure (And.intro rfl h0)
  · first
      | exact wpAny_bind (wpAny_rule (wpAny_bind (wpAny_standAt (wpAny_bind (wpAny_mono h (fun it' s' h' => wpAny_pure (And.intro rfl h')) fun _ _ x => x.elim)))))
      | (refine wpAny_bind (wpAny_rule ?_); show wpAny _ _ (standAt iter2.pos >>= _) _ _ s; exact wpAny_bind (wpAny_standAt (wpAny_bind (wpAny_mono h (fun it' s' h' => wpAny_pure (And.intro rfl h')) fun _ _ x => x.elim))))
theorem loopOut {elt tg iter tg2 iter2 : Expr} {ifs ifs2 : List Expr} {scope : Scope} {pos : Pos} {it acc : Value} {env : Env} (I : Nat → Shared → Prop)
    (hs2 : ∀ x, foldedSetIterable iter2 env x = pure x)
    (turn : ∀ n s, I n s → wpAny (model prog w) A (pyNext it) (fun r s₁ => match r with
      | none => R (.ok .next) s₁
      | some v => wpAny (model prog w) A (letOwnedTupleGo tg it v) (fun _ s₂ => wpAny (model prog w) A (assign tg env v) (fun _ s₃ =>
          wpAny (model prog w) A (testsOf ifs env) (fun ok s₄ =>
            if ok = true then wpAny (model prog w) A (eval iter2 env) (fun x s₅ => wpAny (model prog w) A (pyIter x) (fun it2 s₆ =>
              codeAny (model prog w) A (.compStart (.ListComp elt [⟨tg, iter, ifs, 0⟩, ⟨tg2, iter2, ifs2, 0⟩] scope pos) 1 it2 acc env) (fun r s₇ => (∃ f, r = .ok f) ∧ ∃ m, m < n ∧ I m s₇) s₆) (fun _ _ => False) s₅) (fun _ _ => False) s₄
            else ∃ m, m < n ∧ I m s₄) (fun _ _ => False) s₃) (fun _ _ => False) s₂) (fun _ _ => False) s₁) (fun _ _ => False) s)
    (n : Nat) (h : I n s) : codeAny (model prog w) A (.compLoop (.ListComp elt [⟨tg, iter, ifs, 0⟩, ⟨tg2, iter2, ifs2, 0⟩] scope pos) 0 it acc env) R s := by
  refine codeAny_loop rfl I (fun n s hI => ?_) n h
  show wpAny _ A ((compTurn (.ListComp elt [⟨tg, iter, ifs, 0⟩, ⟨tg2, iter2, ifs2, 0⟩] scope pos) 0 it acc env).onRaise (fun x => do noteFrame x env; theTreesLotGoes x)) _ _ s
  refine wpAny_noted ?_
  rw [turn_out]
  refine wpAny_bind (wpAny_standAt (wpAny_bind (wpAny_mono (turn n s hI) (fun r s₁ h₁ => ?_) fun _ _ h' => h'.elim)))
  cases r with
  | none => exact wpAny_pure h₁
  | some v =>
    refine wpAny_bind (wpAny_mono h₁ (fun _ s₂ h₂ => wpAny_bind (wpAny_mono h₂ (fun _ s₃ h₃ => wpAny_bind (wpAny_mono h₃ (fun ok s₄ h₄ => ?_) fun _ _ h' => h'.elim)) fun _ _ h' => h'.elim)) fun _ _ h' => h'.elim)
    cases ok with
    | false => exact wpAny_pure ⟨rfl, h₄⟩
    | true =>
      refine wpAny_bind (wpAny_mono h₄ (fun x s₅ h₅ => wpAny_bind (wpAny_standAt (wpAny_bind (wpAny_of_eq (hs2 x) (wpAny_bind (wpAny_holding (wpAny_mono h₅ (fun it2 s₆ h₆ => ?_) fun _ _ h' => h'.elim))))))) fun _ _ h' => h'.elim)
      refine wpAny_bind (wpAny_runOwn (codeAny_mono h₆ fun r s₇ ⟨⟨f, hf⟩, hm⟩ => ?_))
      subst hf
      exact wpAny_pure ⟨rfl, hm⟩
end
section
variable {X : Cx} {N : List Str} {scope : Scope}
/-- the inner turns: they end with Nx -/
def tInner (wi : TI) (acc : Addr) (g : TG) (tt : TT) (te : TE) : L2.St → Hp → (L2.St → Hp → Prop) → Prop := fun σ H Nx => wi σ H fun J H1 =>
  ∃ W : Nat → Nat → L2.St → Hp → Prop, (∃ m, W 0 m σ H1) ∧ ∀ i m σ H, W i m σ H →
    (J.stop i H ∧ Nx σ H) ∨ (J.go i H ∧ ∃ N2 : L2.St → Hp → Prop, (∀ σ' H', N2 σ' H' → ∃ m', m' < m ∧ W (i + 1) m' σ' H') ∧ ∀ x H', J.yld i H x H' → g x σ H' fun σ2 H2 => tt σ2 H2 fun b H3 =>
      if b = true then te σ2 H3 fun v H4 => ∃ xs, H4 acc = some (.lst xs) ∧ xs.length < sizeLine ∧ N2 σ2 (upd H4 acc (.lst (xs ++ [v]))) else N2 σ2 H3)
/-- the inner block within a context Y whose frame is the block's -/
theorem inner_run {Y : Cx} {elt tg iter tg2 iter2 : Expr} {ifs ifs2 : List Expr} {pos : Pos} {wi2 : TI} {g2 : TG} {tt2 : TT} {te : TE} {acc : Addr} (hc : Y.calm = true) (hxe : Y.xe = fun _ _ => False) (hi : PI Y tg2 iter2 wi2) (hg : PG Y tg2 g2) (ht : PTs Y ifs2 tt2) (he : PE Y elt te)
    {pins : List (Addr × Obj)} {s : Shared} {σ : L2.St} {H : Hp} {Nx : L2.St → Hp → Prop} (I : Inv Y pins σ H s) (h : tInner wi2 acc g2 tt2 te σ H Nx) :
    wpAny (model Y.prog Y.w) Y.A (eval iter2 Y.env) (fun x s₅ => wpAny (model Y.prog Y.w) Y.A (pyIter x) (fun it2 s₆ =>
      codeAny (model Y.prog Y.w) Y.A (.compStart (.ListComp elt [⟨tg, iter, ifs, 0⟩, ⟨tg2, iter2, ifs2, 0⟩] scope pos) 1 it2 (.ref acc) Y.env) (fun r s₇ => (∃ f, r = .ok f) ∧ ∃ σ' H', Inv Y pins σ' H' s₇ ∧ Nx σ' H') s₆) (fun _ _ => False) s₅) (fun _ _ => False) s := by
  have hi' := hi pins s σ H _ I h
  have hg' := hg
  have ht' := ht
  have he' := he
  unfold PG at hg'
  unfold PTs at ht'
  unfold PE at he'
  rw [hxe] at hi' hg' ht' he'
  refine thn hi' fun v s1 h1 => thn h1 fun itv s2 h2 => ?_
  obtain ⟨it, fp, tn, J, H2, e, I2, T, st2, f2, W, ⟨m0, w0⟩, turn⟩ := h2
  subst e
  have stat : ∀ {H' : Hp}, (∀ b ∈ fp, H' b = none) → ∀ b ∈ fp, FpOk Y pins H' b := fun hn b hb => ⟨hn b hb, (f2 b hb).2⟩
  have loop : codeAny (model Y.prog Y.w) Y.A (.compLoop (.ListComp elt [⟨tg, iter, ifs, 0⟩, ⟨tg2, iter2, ifs2, 0⟩] scope pos) 1 (.ref it) (.ref acc) Y.env) (fun r s₇ => (∃ f, r = .ok f) ∧ ∃ σ' H', Inv Y pins σ' H' s₇ ∧ Nx σ' H') s2 := by
    refine loopIn (fun n s' => ∃ i σ' H', Inv Y pins σ' H' s' ∧ tn i s'.heap ∧ (∀ b ∈ fp, H' b = none) ∧ W i n σ' H') ?_ m0 ⟨0, σ, H2, I2, st2, fun b hb => (f2 b hb).1, w0⟩
    rintro n s6 ⟨i, σ6, H6, I6, st6, fr6, w6⟩
    rcases turn i n σ6 H6 w6 with ⟨stop, qn⟩ | ⟨go, N2, hN, step⟩
    · refine thn (T.done Y rfl rfl rfl hc i pins s6 σ6 H6 _ I6 (stat fr6) st6 stop) fun r s7 ⟨hr, I7⟩ => ?_
      subst hr
      exact ⟨⟨_, rfl⟩, σ6, H6, I7, qn⟩
    · refine thn (T.item Y rfl rfl rfl hc i pins s6 σ6 H6 _ I6 (stat fr6) st6 go) fun r s7 ⟨u, hr, h7⟩ => ?_
      subst hr
      refine thn h7 fun _ s8 ⟨x, H8, I8, r8, y8, st8, fr8⟩ => ?_
      have I8' := I8.pinned (stat fr8) (T.obj _ _ st8)
      refine thn (hg' _ s8 σ6 H8 x u _ I8' r8 (step x H8 y8)) fun _ s9 ⟨σ9, H9, I9, q9⟩ => ?_
      refine thn (ht' _ s9 σ9 H9 _ I9 q9) fun ok s10 ⟨H10, I10, q10⟩ => ?_
      have again : ∀ {σ7 : L2.St} {H7 : Hp} {s11 : Shared}, Inv Y (pins ++ pinsAt fp s8.heap) σ7 H7 s11 → N2 σ7 H7 → ∃ m, m < n ∧ ∃ i σ' H', Inv Y pins σ' H' s11 ∧ tn i s11.heap ∧ (∀ b ∈ fp, H' b = none) ∧ W i m σ' H' := fun {σ7 H7 s11} I7 n7 => by
        obtain ⟨m', hm, w7⟩ := hN σ7 H7 n7
        refine ⟨m', hm, i + 1, σ7, H7, I7.unpinned, T.keep _ _ _ st8 fun b hb o e => (I7.pin (b, o) (List.mem_append_right _ (List.mem_append_right _ (mem_pinsAt hb e)))).1, fun b hb => ?_, w7⟩
        obtain ⟨o, e, d⟩ := T.obj _ _ st8 b hb
        exact (I7.pin (b, o) (List.mem_append_right _ (List.mem_append_right _ (mem_pinsAt hb e)))).2.1
      cases ok with
      | false =>
        rw [if_neg Bool.false_ne_true] at q10
        exact again I10 q10
      | true =>
        rw [if_pos rfl] at q10
        refine thn (he' _ s10 σ9 H10 _ I10 q10) fun v s11 ⟨y, H11, I11, r11, xs, hx, hz, n11⟩ => ?_
        have ap := mt_append _ s11 σ9 H11 (.ref acc) [y] (.ref acc) [v] (fun _ H' => N2 σ9 H') I11 rfl (.cons r11 .nil) ⟨_, xs, y, rfl, rfl, hx, hz, n11⟩
        rw [hxe] at ap
        exact thn ap fun _ s12 ⟨_, H12, I12, _, n12⟩ => again I12 n12
  exact startIn loop (T.self _ _ _ _ _ st2 loop)

end

/-! ### rules that name the written part, within a block -/
theorem yesN {i : Nat} {v : V} {σ : L2.St} {H : Hp} {Q : L2.St → Bool → Hp → Prop} (h : Q (σ.set i (some v)) true H) : gName i v σ H (fun σ2 H2 => tYes σ2 H2 (Q σ2)) := h
theorem yes {σ : L2.St} {H : Hp} {Q : Bool → Hp → Prop} (h : Q true H) : tYes σ H Q := h
section
variable {X : Cx} {N : List Str} {scope : Scope} {C : Addr} {s₀ : Shared} {H₀ : Hp} {ex : List Addr} {pn : List (Addr × Obj)}
theorem pgC_tup {es : List Expr} {k : Nat} {t : TGs} {n : Nat} {pos : Pos} (hc : X.calm = true) (h : PGs (cxC X N scope C s₀ H₀ ex pn) es t)
    (hn : (assignEach es (cxC X N scope C s₀ H₀ ex pn).env).length = n := by rfl) (hst : (assignEach es (cxC X N scope C s₀ H₀ ex pn).env).findIdx? (·.1) = none := by rfl) : PG (cxC X N scope C s₀ H₀ ex pn) (.Tuple es k pos) (gTup X.K n t) := pg_tup (X := cxC X N scope C s₀ H₀ ex pn) hc h hn hst
theorem ixC_tup : IxR (cxC X N scope C s₀ H₀ ex pn) (rIxT X.K) := ix_tup
end
end InkX

namespace Ink
open PySem L2 InkX
/-- one pair more at the end of a list that is ours alone -/
theorem grown {H0 H2 : Hp} {q t : Addr} {bs : List Addr} {row : Row} {st en : Int} (hq0 : H0 q = none) (s : Same H0 H2) (hq2 : H2 q = some (.lst (bs.map V.ref))) (hb : PairsAt H2 bs row) (ht : H2 t = none) :
    (upd (upd H2 t (.tup [.int st, .int en])) q (.lst (bs.map V.ref ++ [.ref t]))) q = some (.lst ((bs ++ [t]).map V.ref)) ∧
    PairsAt (upd (upd H2 t (.tup [.int st, .int en])) q (.lst (bs.map V.ref ++ [.ref t]))) (bs ++ [t]) (row ++ [(st, en)]) ∧ Same H0 (upd (upd H2 t (.tup [.int st, .int en])) q (.lst (bs.map V.ref ++ [.ref t]))) := by
  have ntq : q ≠ t := ne_of_none hq2 ht
  have s1 : Same H2 (upd H2 t (.tup [.int st, .int en])) := same_new ht _
  refine ⟨by rw [upd_same, List.map_append]; rfl, ?_, keep_of hq0 (s.trans s1) (keep_upd q _ _)⟩
  refine PairsAt.snoc ((hb.same s1).keep (s1 _ _ hq2) (keep_upd q _ _)) ?_
  show upd _ q _ t = _
  rw [upd_ne ntq.symm, upd_same]
/-- the last pair changed -/
theorem turned {H0 H2 : Hp} {q t a : Addr} {bs : List Addr} {row : Row} {st en : Int} (hq0 : H0 q = none) (s : Same H0 H2) (hq2 : H2 q = some (.lst (bs.map V.ref ++ [.ref a]))) (hb : PairsAt H2 bs row) (ht : H2 t = none) :
    (upd (upd H2 t (.tup [.int st, .int en])) q (.lst ((bs.map V.ref ++ [V.ref a]).set bs.length (V.ref t)))) q = some (.lst ((bs ++ [t]).map V.ref)) ∧
    PairsAt (upd (upd H2 t (.tup [.int st, .int en])) q (.lst ((bs.map V.ref ++ [V.ref a]).set bs.length (V.ref t)))) (bs ++ [t]) (row ++ [(st, en)]) ∧ Same H0 (upd (upd H2 t (.tup [.int st, .int en])) q (.lst ((bs.map V.ref ++ [V.ref a]).set bs.length (V.ref t)))) := by
  have ntq : q ≠ t := ne_of_none hq2 ht
  have s1 : Same H2 (upd H2 t (.tup [.int st, .int en])) := same_new ht _
  have e : (bs.map V.ref ++ [V.ref a]).set bs.length (V.ref t) = (bs ++ [t]).map V.ref := by
    have z := set_last (bs.map V.ref) (V.ref a) (V.ref t)
    rw [List.length_map] at z
    rw [z, List.map_append]; rfl
  rw [e]
  refine ⟨upd_same, ?_, keep_of hq0 (s.trans s1) (keep_upd q _ _)⟩
  refine PairsAt.snoc ((hb.same s1).keep (s1 _ _ hq2) (keep_upd q _ _)) ?_
  show upd _ q _ t = _
  rw [upd_ne ntq.symm, upd_same]
theorem ixLast (bs : List Addr) (a : Addr) : ixN (bs.map V.ref ++ [V.ref a]).length (-1) = some bs.length := by
  rw [List.length_append, List.length_map, List.length_singleton]
  exact ixN_neg1 _
theorem take_fold {f : Row → Int × Int → Row} {row : Row} {i : Nat} {p : Int × Int} (h : row[i]? = some p) : (row.take (i + 1)).foldl f [] = f ((row.take i).foldl f []) p := foldl_take_succ f row [] i p h
theorem plain_le (row : Row) : ∀ t : Row, (row.foldl plainStep t).length ≤ t.length + row.length := by
  induction row with
  | nil => intro t; simp
  | cons p row ih =>
    intro t
    have h1 := ih (plainStep t p)
    have h2 : (plainStep t p).length ≤ t.length + 1 := by
      unfold plainStep
      split
      · omega
      · exact grow_length _ _ _
    rw [List.foldl_cons, List.length_cons]
    omega
theorem rowOf_le (ns : List Int) : ∀ t : Row, (ns.foldl (fun t n => grow t n (n + 1)) t).length ≤ t.length + ns.length := by
  induction ns with
  | nil => intro t; simp
  | cons n ns ih =>
    intro t
    have h1 := ih (grow t n (n + 1))
    have h2 := grow_length t n (n + 1)
    rw [List.foldl_cons, List.length_cons]
    omega
end Ink

namespace Ink
open PySem PySem.Spec PyProof.Rows L2 InkX
/-! ### rows compared, whatever they tell -/
def spSize : Sp := fun vs H Q _ => ∃ (r : Addr) (row : Row), vs = [.ref r] ∧ RowAt H r row ∧ row.length ≤ 1000000 ∧ ∀ H', Same H H' → Q (.int (tot row)) H'
end Ink

namespace InkE
open PySem PySem.Spec PyProof.Rows PySem.W L2

/-! ### an exception in the air -/
section
variable {P : Program} {w : World} {H H' : Hp} {h h0 g : Heap} {a T : Addr} {C a0 : Value} {o : HO}
theorem objHere (x : ObjOk P w H h a o) : ∃ u, h.get? a = some u := by
  cases o with
  | lst xs => obtain ⟨_, _, _, _, e⟩ := x; exact ⟨_, e⟩
  | tup xs => obtain ⟨_, _, _, _, e, _⟩ := x; exact ⟨_, e⟩
  | dK kvs => obtain ⟨_, _, _, _, _, _, _, e, _⟩ := x; exact ⟨_, e⟩
  | dT kvs => obtain ⟨_, _, _, _, _, _, _, e, _⟩ := x; exact ⟨_, e⟩
  | set S n => obtain ⟨_, _, _, _, e, _⟩ := x; exact ⟨_, e⟩
  | ins C dx fs => obtain ⟨_, _, _, e, _⟩ := x; exact ⟨_, e⟩
  | own y => exact x
  | xd fs => obtain ⟨_, ⟨_, _, _, e, _⟩, _⟩ := x; exact ⟨_, e⟩
  | rng lo hi => obtain ⟨_, _, _, e⟩ := x; exact ⟨_, e⟩
  | frz ob u => exact ⟨_, x.1⟩
  | tbl ps => exact ⟨_, x⟩
  | met f y => exact ⟨_, x⟩
  | ext φ => exact x.2.1
theorem hokNone (x : HOk P w H h) {b : Addr} (e : h.get? b = none) : H b = none := by
  cases q : H b with
  | none => rfl
  | some u =>
    obtain ⟨z, hz⟩ := objHere (x b u q)
    rw [e] at hz
    cases hz
theorem hide_none {l : List Addr} {b : Addr} (e : (hideAll h l).get? b = none) : b ∈ l ∨ h.get? b = none := by
  by_cases hb : b ∈ l
  · exact .inl hb
  · right
    cases q : h.get? b with
    | none => rfl
    | some u => rw [hideAll_get l q hb] at e; cases e

/-- the object at a of class C (first field a0), its record at T; neither lay in h0, neither is tracked -/
def Fly (h0 : Heap) (H : Hp) (h : Heap) (a T : Addr) (C a0 : Value) : Prop :=
  (∃ oe vs oT ts, h.get? a = some oe ∧ (oe.cls = C ∧ vs[0]? = some a0) ∧ oe.data = .fields vs ∧ vs[1]? = some (.ref T) ∧ T ≠ a ∧ h.get? T = some oT ∧ oT.data = .fields ts ∧ ts[3]? = some .none) ∧ (H a = none ∧ H T = none) ∧ h0.get? a = none ∧ h0.get? T = none

theorem fly_land {fs hd : List Addr} {l' : List Env} (u : Un fs [] H H' h0 h) (hok : HOk P w H' h) (h1 : ∀ b o, h0.get? b = some o → b ∉ fs → b ∉ hd) (h2 : ∀ b ∈ hd, H' b = none)
    (h3 : ∀ b ∈ fs, ∃ o, h.get? b = some o ∧ ∀ vs, o.data ≠ .fields vs) (h4 : ∀ b ∈ hd, h0.get? b = none ∨ ∃ o, h.get? b = some o ∧ ∀ vs, o.data ≠ .fields vs)
    (ha : h0.get? a = none) (ha' : H' a = none) (f : Heap.FlyingW (hideAll h hd) l' a C a0 g) (k : h.UpToSlots g) :
    Un fs [] H H' h0 g ∧ HOk P w H' g ∧ ∃ T, Fly h0 H' g a T C a0 := by
  have nil : ∀ b : Addr, b ∉ ([] : List Addr) := fun b => List.not_mem_nil
  have kp : ∀ b o, h.get? b = some o → b ∉ hd → g.get? b = some o := fun b o e n => f.1 b o (hideAll_get hd e n)
  refine ⟨⟨fun b o e n hb _ => kp b o (u.keep b o e n hb (nil b)) (h1 b o e hb), fun b o e n hb _ => ?_, fun b o e n _ => u.free b o e n (nil b), fun b o e _ => ?_, u.tups, u.frzs, u.tbls⟩, fun b o e => ?_, ?_⟩
  · obtain ⟨sl, e1⟩ := u.slot b o e n hb (nil b)
    obtain ⟨o', e2, nf⟩ := h3 b hb
    obtain ⟨sl', e3⟩ := k b o' e2 nf
    rw [e1] at e2
    cases e2
    exact ⟨sl', e3⟩
  · by_cases hb : b ∈ fs
    · obtain ⟨o', e2, nf⟩ := h3 b hb
      obtain ⟨sl', e3⟩ := k b o' e2 nf
      exact ⟨_, e3⟩
    · obtain ⟨o', e1⟩ := u.there b o e (nil b)
      exact ⟨o', kp b o' e1 (h1 b o e hb)⟩
  · refine (hok b o e).stay (fun c v hc q => kp c v q fun hm => ?_) (fun _ q => q) fun _ _ q => q
    have hn := h2 c hm
    rcases hc with rfl | hc
    · rw [e] at hn; cases hn
    · rw [hc] at hn; cases hn
  · obtain ⟨_, _, _, oe, vs, T, oT, ts, e1, e2, e3, e4, e5, e6, e7, e8, e9⟩ := f
    refine ⟨T, ⟨oe, vs, oT, ts, e1, e2, e3, e4, e6, e7, e8, e9⟩, ⟨ha', ?_⟩, ha, ?_⟩
    · rcases hide_none e5 with hm | hn
      · exact h2 T hm
      · exact hokNone hok hn
    · rcases hide_none e5 with hm | hn
      · rcases h4 T hm with z | ⟨o, eo, nf⟩
        · exact z
        · obtain ⟨sl, eg⟩ := k T o eo nf
          rw [e7] at eg
          cases eg
          exact absurd e8 (nf ts)
      · cases q : h0.get? T with
        | none => rfl
        | some o =>
          obtain ⟨o', eo⟩ := u.there T o q (nil T)
          rw [hn] at eo
          cases eo
theorem fly_ground {base : Heap} {l : List Env} (F : Fly h0 H h a T C a0) (S : h.FunFrames base l) : Heap.FlyingW (hideAll h (a :: T :: frs l)) l a C a0 h := by
  obtain ⟨⟨oe, vs, oT, ts, e1, e2, e3, e4, e5, e6, e7, e8⟩, _, _⟩ := F
  refine ⟨fun b o e => of_hideAll _ e, hideAll_none _ (List.mem_cons_self), funFrames_hide S fun env he b hb => ?_, oe, vs, T, oT, ts, e1, e2, e3, e4, ?_, e5, e6, e7, e8⟩
  · exact List.mem_cons_of_mem _ (List.mem_cons_of_mem _ (List.mem_filterMap.mpr ⟨env, he, hb⟩))
  · exact hideAll_none _ (List.mem_cons_of_mem _ List.mem_cons_self)
end

/-- behind a call that an exception left -/
def CX1 (P : Program) (w : World) : CXT := fun outer H s E e s' => ∃ a T C a0 H', e = .ref a ∧ (s'.os = s.os ∧ AllBare s'.gens) ∧ Un (frs outer) [] H H' s.heap s'.heap ∧ HOk P w H' s'.heap ∧ Fly s.heap H' s'.heap a T C a0 ∧ E C none H'

section
variable {X : Cx} {pins : List (Addr × Obj)} {σ : L2.St} {H H1 : Hp} {s s' : Shared} {a T : Addr} {C a0 : Value}
theorem frs_is (hst : X.stack = X.env :: X.outer) (hf : X.env.frame = some X.env.locals) : frs X.stack = X.env.locals :: X.fs := by
  rw [hst]
  unfold frs
  rw [List.filterMap_cons, hf]
  rfl
/-- what is hidden behind the frames and the two records -/
theorem hid_frame (I : Inv X pins σ H s) : ∀ b ∈ frs X.stack, ∃ o, s.heap.get? b = some o ∧ ∀ vs, o.data ≠ .fields vs := fun b hb => (I.stack.mem hb).2
/-- a call's exception, at the caller: the state goes on as h says -/
theorem fly_here {l' : List Env} {g : Heap} (I : Inv X pins σ H s) (os : s'.os = s.os) (bare : AllBare s'.gens) (u : Un (frs X.stack) [] H H1 s.heap s'.heap) (hok : HOk X.prog X.w H1 s'.heap) (F : Fly s.heap H1 s'.heap a T C a0)
    (f : Heap.FlyingW (hideAll s'.heap (a :: T :: frs X.stack)) l' a C a0 g) (k : s'.heap.UpToSlots g) : Inv X pins σ H1 { s' with heap := g } := by
  have I1 : Inv X pins σ H1 s' := I.call' (ch := []) os u hok bare (fun b z => absurd z (by simp))
  obtain ⟨_, ⟨na, nT⟩, sa, sT⟩ := id F
  have p1 : ∀ b o, s.heap.get? b = some o → b ∉ frs X.stack → b ∉ a :: T :: frs X.stack := fun b o e hb hm => by
    rcases List.mem_cons.mp hm with rfl | hm
    · rw [sa] at e; cases e
    rcases List.mem_cons.mp hm with rfl | hm
    · rw [sT] at e; cases e
    · exact hb hm
  have p2 : ∀ b ∈ a :: T :: frs X.stack, H1 b = none := fun b hm => by
    rcases List.mem_cons.mp hm with rfl | hm
    · exact na
    rcases List.mem_cons.mp hm with rfl | hm
    · exact nT
    · exact I1.stkFree b hm
  have p4 : ∀ b ∈ a :: T :: frs X.stack, s.heap.get? b = none ∨ ∃ o, s'.heap.get? b = some o ∧ ∀ vs, o.data ≠ .fields vs := fun b hm => by
    rcases List.mem_cons.mp hm with rfl | hm
    · exact .inl sa
    rcases List.mem_cons.mp hm with rfl | hm
    · exact .inl sT
    · exact .inr (hid_frame I1 b hm)
  obtain ⟨u', hok', _⟩ := fly_land (hd := a :: T :: frs X.stack) u hok p1 p2 (hid_frame I1) p4 sa na f k
  exact I.call' (s' := { s' with heap := g }) (ch := []) os u' hok' bare (fun b z => absurd z (by simp))
end

/-! ### through a def's frame -/
section
variable {P : Program} {w : World} {K : PySem.W.Frag} {mg : Str → Option Value} {base : Heap} {N : List Str} {qual : Str} {scope : Scope} {f : Addr} {cd : Value} {A : Around} {outer : List Env} {s : Shared} {H : Hp} {E : XK}
abbrev cx1 (P : Program) (w : World) (K : PySem.W.Frag) (mg : Str → Option Value) (base : Heap) (N : List Str) (qual : Str) (scope : Scope) (f : Addr) (cd : Value) (A : Around) (outer : List Env) (s : Shared) (H : Hp) (E : XK) : Cx :=
  cxOf (CX1 P w) P w K mg base N qual scope f cd A outer s H E
theorem passX : Passes (CX1 P w) (cx1 P w K mg base N qual scope f cd A outer s H E) E := by
  intro pins σ H1 s1 e s' I h
  obtain ⟨a, T, C, a0, H', rfl, ⟨os, bare⟩, u, hok, F, q⟩ := h
  have I1 : Inv (cx1 P w K mg base N qual scope f cd A outer s H E) pins σ H' s' := I.call' (ch := []) os u hok bare (fun b z => absurd z (by simp))
  obtain ⟨_, ⟨na, nT⟩, sa, sT⟩ := id F
  have old : ∀ b, s1.heap.get? b = none → s.heap.get? b = none := fun b e => by
    cases z : s.heap.get? b with
    | none => rfl
    | some o =>
      obtain ⟨o', e'⟩ := I.base.there b o z (fun m => absurd (show b ∈ ([] : List Addr) from m) (by simp))
      rw [e] at e'
      cases e'
  refine wpAny_leaves_onW (base := hideAll s'.heap (a :: T :: frs (cx1 P w K mg base N qual scope f cd A outer s H E).stack)) I.ok.frames rfl (fly_ground F I1.stack) fun g fl k => ?_
  have p1 : ∀ b o, s.heap.get? b = some o → b ∉ frs outer → b ∉ a :: T :: frs (cx1 P w K mg base N qual scope f cd A outer s H E).stack := fun b o e hb hm => by
    rcases List.mem_cons.mp hm with rfl | hm
    · rw [old b sa] at e; cases e
    rcases List.mem_cons.mp hm with rfl | hm
    · rw [old b sT] at e; cases e
    · rw [frs_is rfl rfl] at hm
      rcases List.mem_cons.mp hm with rfl | hm
      · exact absurd (Heap.lt_size e) (Nat.not_lt.mpr I.ok.above)
      · exact hb hm
  have p2 : ∀ b ∈ a :: T :: frs (cx1 P w K mg base N qual scope f cd A outer s H E).stack, H' b = none := fun b hm => by
    rcases List.mem_cons.mp hm with rfl | hm
    · exact na
    rcases List.mem_cons.mp hm with rfl | hm
    · exact nT
    · exact I1.stkFree b hm
  have p4 : ∀ b ∈ a :: T :: frs (cx1 P w K mg base N qual scope f cd A outer s H E).stack, s.heap.get? b = none ∨ ∃ o, s'.heap.get? b = some o ∧ ∀ vs, o.data ≠ .fields vs := fun b hm => by
    rcases List.mem_cons.mp hm with rfl | hm
    · exact .inl (old b sa)
    rcases List.mem_cons.mp hm with rfl | hm
    · exact .inl (old b sT)
    · exact .inr (hid_frame I1 b hm)
  obtain ⟨u', hok', T', F'⟩ := fly_land (h0 := s.heap) (fs := frs outer) (hd := a :: T :: frs (cx1 P w K mg base N qual scope f cd A outer s H E).stack) I1.base hok p1 p2 (fun b hb => (I1.funs.mem hb).2) p4 (old a sa) na fl k
  exact ⟨a, T', C, a0, H', rfl, ⟨I1.os, bare⟩, u', hok', F', q⟩

/-- an exception that is raised in this body -/
def Raises (X : Cx) (E : XK) : Prop := ∀ (pins : List (Addr × Obj)) (σ : L2.St) (H : Hp) (s : Shared) (h' : Heap) (e : Addr) (C : Value) (args : List Value), Inv X pins σ H s → Heap.MadeExcOf s.heap h' e C args → E C none H → X.xe (.ref e) { s with heap := h' }
theorem raiseX : Raises (cx1 P w K mg base N qual scope f cd A outer s H E) E := by
  intro pins σ H1 s1 h' e C args I M q
  have old : ∀ b, s1.heap.get? b = none → s.heap.get? b = none := fun b e => by
    cases z : s.heap.get? b with
    | none => rfl
    | some o =>
      obtain ⟨o', e'⟩ := I.base.there b o z (fun m => absurd (show b ∈ ([] : List Addr) from m) (by simp))
      rw [e] at e'
      cases e'
  refine wpAny_leaves_madeW (base := hideAll s1.heap (frs (cx1 P w K mg base N qual scope f cd A outer s H E).stack)) (h := s1.heap) I.ok.frames rfl (fun b o e => of_hideAll _ e) (funFrames_hide I.stack fun env he b hb => List.mem_filterMap.mpr ⟨env, he, hb⟩) M fun g t fl _ _ k => ?_
  have k1 : s1.heap.UpToSlots g := (Heap.UpToSlots.of_keeps M.keeps).trans k
  have p1 : ∀ b o, s.heap.get? b = some o → b ∉ frs outer → b ∉ frs (cx1 P w K mg base N qual scope f cd A outer s H E).stack := fun b o e hb hm => by
    rw [frs_is rfl rfl] at hm
    rcases List.mem_cons.mp hm with rfl | hm
    · exact absurd (Heap.lt_size e) (Nat.not_lt.mpr I.ok.above)
    · exact hb hm
  obtain ⟨u', hok', T', F'⟩ := fly_land (h0 := s.heap) (fs := frs outer) (hd := frs (cx1 P w K mg base N qual scope f cd A outer s H E).stack) I.base I.hok p1 (fun b hm => I.stkFree b hm) (fun b hb => (I.funs.mem hb).2) (fun b hm => .inr (hid_frame I b hm)) (old e M.new) (hokNone I.hok M.new) fl k1
  exact ⟨e, T', C, .ref t, H1, rfl, ⟨I.os, I.bare⟩, u', hok', F', q⟩

/-- a def whose exceptions go on -/
theorem okX {x qual : Str} {st : Stmt} {f : Addr} {fd : FuncData} {N ps : List Str} {k : Nat} {sp : Sp} (F : Fun K x qual st f fd) (S : FnScope N ps (defScope st)) (len : ∀ vs H Q E, sp vs H Q E → vs.length = ps.length)
    (hbody : ∀ (cdv : Value) (A : Around) (outer : List Env) (s : Shared) (H : Hp) (vs : List V) (Q : VK) (E : XK), Room k (A.deeper (envOfC qual (defScope st) s.heap.objs.size f cdv)) → sp vs H Q E →
      ∃ t, PSs (cx1 P w K mg base N qual (defScope st) f cdv A outer s H E) (defBody st) t ∧ t { nx := fun _ H' => Q .non H', rt := Q } (start N vs) H) : FnOk P w K mg base (CX1 P w) (k + 1) f fd ps sp := by
  obtain ⟨oc, od, kV, doc, pm, an, cdv, ct, osl, rfl, lk, hcd⟩ := F.ex
  exact fn_of lk hcd S len fun A outer s H vs Q E hr hsp => hbody cdv A outer s H vs Q E hr hsp
end

/-! ### raise -/
section
variable {X : Cx}
theorem exc_obj {K : Frag} {h : Heap} {C : Addr} {bmB : List Value} {newId : String} {x : Str} {mg : Str → Option Value} (I : K.In h) (m : mg x = some (.ref C)) (q : excIn K C bmB newId = true) : OwnCls x C bmB newId mg h := by
  refine ⟨m, ?_⟩
  unfold excIn at q
  split at q
  case h_2 => cases q
  rename_i dd cd sl ho
  split at q
  case h_2 => cases q
  rename_i c1 bm k0 k1 k2 k3 n k5 hm hs
  simp only [Bool.and_eq_true, beq_iff_eq, Bool.not_eq_true'] at q
  obtain ⟨⟨⟨⟨⟨e1, e2⟩, hdel⟩, ht⟩, hno⟩, hni⟩ := q
  cases e1
  cases e2
  cases cd with
  | mk nm bs mro ns qn hd sn sub ab col del =>
    cases hm
    cases hdel
    cases sl with
    | mk l =>
      have hs' : l = [k0, k1, k2, k3, some (.builtin newId), k5] := hs
      subst hs'
      exact ⟨bm, ns, nm, qn, bs, hd, sn, sub, ab, col, dd, k0, k1, k2, k3, k5, _, I _ _ ho, .of_isNs (isNs_of_in I hno), nsMap_none_of_in I hno hni, tail_of_in I ht⟩

def tRaise (C : Addr) (E : XK) (t : TA) : TS := fun _ σ H => t σ H fun vs H1 => vs.length ≤ sizeLine ∧ E (.ref C) none H1
theorem ps_raise {E : XK} {x : Str} {C : Addr} {bmB : List Value} {newId initId B : String} {e : Expr} {es : List Expr} {t : TA} {np cpos pos : Pos} (FB : ExcBaseFacts B newId initId bmB) (hx : excIn X.K C bmB newId = true) (hm : X.mg x = some (.ref C)) (hc : X.calm = true) (hr : Raises X E)
    (ha : PA X (e :: es) t) (hg : Gl X x := by rfl) (hdb : (x == ("__debug__" : Str)) = false := by decide) (he : starEach (e :: es) X.env = (false, eval e X.env) :: starEach es X.env := by rfl) (hpl : (backTo cpos (starEach es X.env)).any (·.1) = false := by rfl) :
    PS X (.Raise (some (.Call (.Name x np) (e :: es) [] cpos)) none pos) (tRaise C E t) := by
  intro pins s σ H D I h
  obtain ⟨tl, Nd, c1, c2, c3, c4, c5, c6, c7, c8, c9, d0, d1, d2, d3, d5, mN, hC, hN, hni, T⟩ := (exc_obj I.mod.kin hm hx).obj
  refine wpAny_Raise_call_subT (nm := c1) (q := c2) (N := Nd) (bs := c3) (hdct := c4) (sn := c5) (sub := c6) (ab := c7) (col := c8) (dd := c9) (k0 := d0) (k1 := d1) (k2 := d2) (k3 := d3) (k5 := d5) FB (T.hasType FB.hasBase) (I.ok.hd hc) (by rw [he]; show (false || (backTo cpos (starEach es X.env)).any (·.1)) = false; rw [hpl]; rfl) hni (ld_glob I hg hm ⟨rfl, ?_⟩ hdb)
  rw [he]
  have hw := ha cpos pins s σ H _ I h
  rw [he] at hw
  refine Calls.evalArgs_plain (thn hw fun us s1 ⟨vs, H1, I1, r, q1, q2⟩ => ?_)
  exact ⟨rfl, by rw [← r.length]; exact q1, I1.bk _ _ hC, hN.keeps I1.bk, T.keeps I1.bk, fun h' e M => hr pins σ H1 s1 h' e _ _ I1 M q2⟩
end

/-! ### a def that may raise, called -/
section
variable {X : Cx} {x : Str} {st : Stmt} {ps : List Str} {f : Addr} {fd : FuncData} {j k : Nat} {sp : Sp} {e : Expr} {es : List Expr} {t : TA} {p pos : Pos} {E : XK}
theorem pe_defX (d : Ink.DefAt X.K X.mg x st ps f fd) (G : FnOk X.prog X.w X.K X.mg X.base (CX1 X.prog X.w) k f fd ps sp) (hr : Room j X.A) (hx : Passes (CX1 X.prog X.w) X E)
    (ha : PA X (e :: es) t) (hjk : k ≤ j := by first | decide | omega) (hg : Gl X x := by rfl) (hdb : (x == ("__debug__" : Str)) = false := by decide) (he : starEach (e :: es) X.env = (false, eval e X.env) :: starEach es X.env := by rfl)
    (hpl : (backTo pos (starEach es X.env)).any (·.1) = false := by rfl) : PE X (.Call (.Name x p) (e :: es) [] pos) (tCall sp [] E t) :=
  pe_call G (hr.mono hjk) hg d.m d.F.kp d.b .nil hx ha hdb he hpl
/-- the same, where an exception is met here -/
theorem call_met {pins : List (Addr × Obj)} {σ : L2.St} {H : Hp} {s : Shared} {Q : VK} {E' : Value → Shared → Prop} (d : Ink.DefAt X.K X.mg x st ps f fd) (G : FnOk X.prog X.w X.K X.mg X.base (CX1 X.prog X.w) k f fd ps sp) (hr : Room j X.A) (ha : PA X.nox (e :: es) t) (I : Inv X pins σ H s)
    (h : t σ H fun vs H1 => sp vs H1 Q E) (hE : ∀ H1 s1 e s', Inv X pins σ H1 s1 → CX1 X.prog X.w X.stack H1 s1 E e s' → E' e s')
    (hjk : k ≤ j) (hg : Gl X x) (hdb : (x == ("__debug__" : Str)) = false) (he : starEach (e :: es) X.env = (false, eval e X.env) :: starEach es X.env)
    (hpl : (backTo pos (starEach es X.env)).any (·.1) = false) : wpAny (model X.prog X.w) X.A (eval (.Call (.Name x p) (e :: es) [] pos) X.env) (EP X pins σ Q) E' s := by
  refine wpAny_Call_Name_kw (ld_glob I hg d.m ?_ hdb)
  refine PySem.W.callWith_K (h₀ := X.base) I.ok.mod.kin d.F.kp (wpAny_mono (ha pos pins s σ H _ (I.wish _) h) (fun us s1 ⟨vs, H1, I1, r, q⟩ => ⟨I1.unwish.kIn, ?_⟩) fun _ _ z => False.elim z) he hpl
  have I1 := I1.unwish
  have r2 : Vals vs us := r
  have hl : (us ++ []).length = ps.length := by rw [List.append_nil, ← r2.length]; exact G.len _ _ _ _ q
  have B := d.b s1 us I1.kIn hl
  rw [List.append_nil] at B
  refine wpAny_call (codeAny_mono (G.run X.A X.stack s1 H1 ⟨us, []⟩ us vs Q E (hr.mono hjk) I1.env0 B r2 q) fun r s' hq => ?_)
  cases r with
  | error e => exact hE H1 s1 e s' I1 hq
  | ok fl =>
    cases fl with
    | ret u => exact I1.after hq
    | next => exact False.elim hq
    | brk => exact False.elim hq
    | cont => exact False.elim hq
end

/-! ### try: one statement with one call, one clause -/
abbrev cxH (X : Cx) (a : Addr) : Cx := { X with A := X.A.mark (some (.ref a)), calm := false, xe := fun _ _ => False }
section
variable {X : Cx} {pins : List (Addr × Obj)} {σ : L2.St} {H : Hp} {s : Shared} {a : Addr}
theorem okH (ok : X.Ok) (a : Addr) : (cxH X a).Ok :=
  { mod := ok.mod, kind := ok.kind, glob := ok.glob, blt := ok.blt, above := ok.above, inj := ok.inj, has := ok.has, cab := ok.cab, hd := fun z => (Bool.false_ne_true z).elim, frames := ok.frames, stk := ok.stk, exf := ok.exf, bs := ok.bs, bsz := ok.bsz, noex := ok.noex, exfs := ok.exfs, funs := ok.funs, frf := ok.frf }
theorem inH (I : Inv X pins σ H s) (a : Addr) : Inv (cxH X a) pins σ H s := { ok := okH I.ok a, os := I.os, bare := I.bare, base := I.base, loc := I.loc, cell := I.cell, free := I.free, freeC := I.freeC, pin := I.pin, hok := I.hok, len := I.len }
theorem outH (ok : X.Ok) (I : Inv (cxH X a) pins σ H s) : Inv X pins σ H s := { ok := ok, os := I.os, bare := I.bare, base := I.base, loc := I.loc, cell := I.cell, free := I.free, freeC := I.freeC, pin := I.pin, hok := I.hok, len := I.len }
theorem spH (ok : X.Ok) {D : Ends} {f : Flow} {s' : Shared} (h : SP (cxH X a) pins D f s') : SP X pins D f s' := by
  cases f with
  | next => obtain ⟨σ', H', I, q⟩ := h; exact ⟨σ', H', outH ok I, q⟩
  | brk => obtain ⟨σ', H', I, q⟩ := h; exact ⟨σ', H', outH ok I, q⟩
  | cont => obtain ⟨σ', H', I, q⟩ := h; exact ⟨σ', H', outH ok I, q⟩
  | ret u => obtain ⟨v, σ', H', I, r, q⟩ := h; exact ⟨v, σ', H', outH ok I, r, q⟩

/-- the clause takes it -/
theorem clause {y : Str} {C Cy : Addr} {b0 : Stmt} {suite : List Stmt} {tb : TS} {np hpos : Pos} {D : Ends} {e : Value} {s' : Shared} (hst : X.stack = X.env :: X.outer) (hf : X.env.frame = some X.env.locals) (hmy : X.mg y = some (.ref Cy)) (hx : exmOne X.K (.ref C) (.ref Cy) = some true)
    (hb : ∀ a, PSs (cxH X a) (b0 :: suite) tb) (hg : Gl X y) (hdb : (y == ("__debug__" : Str)) = false) (I : Inv X pins σ H s) (h : CX1 X.prog X.w X.stack H s (fun c _ H2 => c = .ref C ∧ tb D σ H2) e s') :
    wpAny (model X.prog X.w) X.A (noteFrame e X.env) (fun _ s₂ => wpAny (model X.prog X.w) X.A (setFlight e none) (fun _ s₃ => wpAny (model X.prog X.w) X.A (handleBy e X.env [.ExceptHandler (some (.Name y np)) none (b0 :: suite) hpos]) (SP X pins D) X.xe s₃) X.xe s₂) X.xe s' := by
  obtain ⟨a, T, c, a0, H2, rfl, ⟨os, bare⟩, u, hok, F, rfl, q⟩ := h
  have I1 : Inv X pins σ H2 s' := I.call' (ch := []) os u hok bare (fun b z => absurd z (by simp))
  have G0 := fly_ground F I1.stack
  have G0' : Heap.FlyingW (hideAll s'.heap (a :: T :: frs X.stack)) (X.env :: X.outer) a (.ref C) a0 s'.heap := by
    have z := G0
    rw [hst] at z
    rw [hst]
    exact z
  refine wpAny_looks_onW (I.ok.frames.trans (by rw [hst])) hf G0' fun h4 held k4 => wpAny_landsW held fun h5 fl5 k5 => ?_
  have I5 : Inv X pins σ H2 { s' with heap := h5 } := fly_here I os bare u hok F fl5 (k4.trans k5)
  obtain ⟨ob, hob, hcl⟩ := fl5.there
  have LT : Looks (model X.prog X.w) h5 (typeOf (.ref a)) (.ref C) := hcl ▸ (Looks.ld hob).andThen .now
  refine wpAny_handleBy_cons (codeAny_handlers_test (ld_glob (X := cxH X a) (inH I5 a) hg hmy ?_ hdb)) (by intro z; cases z)
  refine (exm_one (M := model X.prog X.w) I5.kIn LT hx).here ?_
  refine codeAny_handlers_suite (lands_againW fl5 fun h6 fl6 k6 => ?_)
  have I6 : Inv X pins σ H2 { s' with heap := h6 } := fly_here I os bare u hok F fl6 ((k4.trans k5).trans k6)
  exact wpAny_mono (hb a pins _ σ H2 D (inH I6 a) q) (fun fl s2 z => spH I6.ok z) fun _ _ z => False.elim z

def tTryS (i : Nat) (sp : Sp) (t : TA) (C : Addr) (tb : TS) : TS := fun D σ H => t σ H fun vs H1 => sp vs H1 (fun v H2 => D.nx (σ.set i (some v)) H2) (fun c _ H2 => c = .ref C ∧ tb D σ H2)
variable {x y : Str} {st : Stmt} {ps : List Str} {f : Addr} {fd : FuncData} {j k : Nat} {sp : Sp} {e : Expr} {es : List Expr} {t : TA} {p pos pos1 pos2 pos3 np hpos : Pos} {C Cy : Addr} {b0 : Stmt} {suite : List Stmt} {tb : TS}
theorem ps_tryS {i : Nat} {z : Str} (hN : X.N.Nodup) (hi : X.N[i]? = some z) (hz : Loc X.env.scope z) (d : Ink.DefAt X.K X.mg x st ps f fd) (G : FnOk X.prog X.w X.K X.mg X.base (CX1 X.prog X.w) k f fd ps sp) (hr : Room j X.A) (ha : PA X.nox (e :: es) t) (hmy : X.mg y = some (.ref Cy)) (hx : exmOne X.K (.ref C) (.ref Cy) = some true)
    (hb : ∀ a, PSs (cxH X a) (b0 :: suite) tb) (hst : X.stack = X.env :: X.outer := by rfl) (hf : X.env.frame = some X.env.locals := by rfl) (hgy : Gl X y := by rfl) (hdy : (y == ("__debug__" : Str)) = false := by decide)
    (hjk : k ≤ j := by first | decide | omega) (hg : Gl X x := by rfl) (hdb : (x == ("__debug__" : Str)) = false := by decide) (he : starEach (e :: es) X.env = (false, eval e X.env) :: starEach es X.env := by rfl)
    (hpl : (backTo pos (starEach es X.env)).any (·.1) = false := by rfl) (hs : swapsWith (.Call (.Name x p) (e :: es) [] pos) (some (.Name z pos3)) pos1.line X.env = pure false := by rfl) (hfn : X.fn z = true ∨ X.env.scope.names.lookup z = some .local := by first | exact .inl rfl | exact .inr rfl) :
    PS X (.Try [.Assign [.Name z pos3] (.Call (.Name x p) (e :: es) [] pos) pos1] [.ExceptHandler (some (.Name y np)) none (b0 :: suite) hpos] [] [] pos2) (tTryS i sp t C tb) := by
  intro pins s σ H D I h
  refine wpAny_Try_except (wpAny_execs_cons (wpAny_Assign_Name (thn (call_met d G hr ha I h (fun H1 s1 e s' I1 z => ?_) hjk hg hdb he hpl) fun v s1 ⟨y, H1, I1, r1, q1⟩ => ?_) hs))
  · exact clause hst hf hmy hx hb hgy hdy I1 z
  · exact store_ok I1 hN hi hz r1 (fun s2 I2 => wpAny_execs_nil (wpAny_execs_nil ⟨_, H1, I2, q1⟩)) hfn
end
end InkE

namespace InkE
open PySem PySem.Spec PyProof.Rows L2
/-! ### a text with fields: some text -/
section
variable {X : Cx}
abbrev TJ := L2.St → Hp → (Hp → Prop) → Prop
def PJ (X : Cx) (es : List Expr) (m : Nat) (t : TJ) : Prop := ∀ (pins : List (Addr × Obj)) (s : Shared) (σ : L2.St) (H : Hp) (out : Str) (Q : Hp → Prop), L2.Inv X pins σ H s → t σ H Q → out.length + m ≤ 1000000 →
  wpAny (model X.prog X.w) X.A (joinParts out (evalEach es X.env)) (fun u s' => ∃ x tk H', u = .str x tk ∧ L2.Inv X pins σ H' s' ∧ Q H') X.xe s
theorem pj_nil : PJ X [] 0 (fun _ H Q => Q H) := fun pins s σ H out Q I h hl =>
  joinParts_nil ⟨out, _, H, rfl, I.tok _, h⟩ (Nat.le_of_lt (Nat.lt_of_le_of_lt hl (by decide)))
theorem fit_out {out y : Str} {m n : Nat} (h : out.length + (n + m) ≤ 1000000) (hy : y.length ≤ n) : (out ++ y).length ≤ sizeLine ∧ (out ++ y).length + m ≤ 1000000 := by
  rw [PySem.strLen_append]
  refine ⟨Nat.le_of_lt (Nat.lt_of_le_of_lt (show out.length + y.length ≤ 1000000 by omega) (by decide)), by omega⟩
theorem pj_str {x : Str} {j : Nat} {pos : Pos} {es : List Expr} {m : Nat} {t : TJ} (h : PJ X es m t) : PJ X (.Constant (.str x) j pos :: es) (x.length + m) t := by
  intro pins s σ H out Q I q hl
  refine joinParts_consE (joinParts_cons (Calls.Constant_str ?_))
  have z := fit_out (y := x) hl (Nat.le_refl _)
  exact ⟨z.1, h pins _ σ H _ Q (I.tok _) q z.2⟩
theorem pj_int {e : Expr} {te : TE} {pos : Pos} {es : List Expr} {m : Nat} {t : TJ} (he : PE X e te) (h : PJ X es m t) : PJ X (.FormattedValue e (-1) none pos :: es) (1921 + m) (fun σ H Q => te σ H fun v H1 => ∃ i : Int, v = .int i ∧ i.natAbs.log2 < 1920 ∧ t σ H1 Q) := by
  intro pins s σ H out Q I q hl
  refine joinParts_consE (joinParts_cons (FormattedValue_plain (thn (he pins s σ H _ I q) fun v s1 ⟨x, H1, I1, r1, i, e1, hi, q1⟩ => ?_)))
  subst e1
  obtain ⟨tk, rfl⟩ := r1
  refine formatField_int_small hi ?_
  have z := fit_out (y := Str.ofString (toString i)) hl (int_text_len_1921 hi)
  exact ⟨z.1, h pins _ σ H1 _ Q (I1.tok _) q1 z.2⟩
theorem pe_fstr {v1 v2 : Expr} {rest : List Expr} {pos : Pos} {m : Nat} {t : TJ} (h : PJ X (v1 :: v2 :: rest) m t) (hm : m ≤ 1000000 := by decide +kernel) : PE X (.JoinedStr (v1 :: v2 :: rest) pos) (fun σ H Q => t σ H fun H1 => ∀ x, Q (.str x) H1) := by
  intro pins s σ H Q I q
  refine JoinedStr_many (thn (h pins s σ H Str.empty _ I q (by show 0 + m ≤ _; omega)) fun u s1 ⟨x, tk, H1, e, I1, q1⟩ => ?_)
  subst e
  exact ⟨.str x, H1, I1, ⟨_, rfl⟩, q1 x⟩

/-! ### a op b op c op d -/
def tChain3 (r r' r2 : R2) (ta tb tc td : TE) : TT := fun σ H Q => ta σ H fun x H1 => tb σ H1 fun y H2 => r x y H2 fun z H3 => ∃ k, z = .bl k ∧
  (if k = true then tc σ H3 fun u H4 => r' y u H4 fun z' H5 => ∃ k', z' = .bl k' ∧ (if k' = true then td σ H5 fun v H6 => r2 u v H6 fun z2 H7 => ∃ k2, z2 = .bl k2 ∧ Q k2 H7 else Q false H5) else Q false H3)
theorem pt_chain3 {op op' op2 : CmpOp} {r r' r2 : R2} {a b c d : Expr} {ta tb tc td : TE} {pos : Pos} (ho : OpR X (compareOp op) r) (ho' : OpR X (compareOp op') r') (ho2 : OpR X (compareOp op2) r2) (ha : PE X a ta) (hb : PE X b tb) (hc : PE X c tc) (hd : PE X d td)
    (hm : lastMarks [op, op', op2] [b, c, d] = false := by with_unfolding_all rfl) : PT X (.Compare a [op, op', op2] [b, c, d] pos) (tChain3 r r' r2 ta tb tc td) := by
  intro pins s σ H Q I h
  refine isTrue_chain (thn (ha pins s σ H _ I h) fun v s1 ⟨x, H1, I1, r1, q1⟩ => test_link (thn (hb pins s1 σ H1 _ I1 q1) fun u s2 ⟨y, H2, I2, r2', q2⟩ =>
    thn (ho pins s2 σ H2 x y v u _ I2 r1 r2' q2) fun z s3 ⟨z', H3, I3, r3, k, e, q3⟩ => ?_)) hm
  subst e
  cases r3
  refine wpAny_truthy_bool ?_
  cases k with
  | false => exact ite_ff ⟨H3, I3, q3⟩
  | true =>
    refine ite_tt (test_link (thn (hc pins s3 σ H3 _ I3 q3) fun v4 s4 ⟨x4, H4, I4, r4, q4⟩ => thn (ho' pins s4 σ H4 y x4 u v4 _ I4 r2' r4 q4) fun z5 s5 ⟨x5, H5, I5, r5, k5, e5, q5⟩ => ?_))
    subst e5
    cases r5
    refine wpAny_truthy_bool ?_
    cases k5 with
    | false => exact ite_ff ⟨H5, I5, q5⟩
    | true =>
      refine ite_tt (test_last (thn (hd pins s5 σ H5 _ I5 q5) fun v6 s6 ⟨x6, H6, I6, r6, q6⟩ => thn (ho2 pins s6 σ H6 x4 x6 v4 v6 _ I6 r4 r6 q6) fun z7 s7 ⟨x7, H7, I7, r7, k7, e7, q7⟩ => ?_))
      subst e7
      cases r7
      exact wpAny_truthy_bool ⟨H7, I7, q7⟩
end
end InkE
namespace Ink
open PySem L2 InkX InkE
theorem free_same {H H' : Hp} {a : Addr} (s : Same H H') (h : H' a = none) : H a = none := by
  cases q : H a with
  | none => rfl
  | some o => rw [s a o q] at h; cases h
/-! ### parts of a row -/
def Fit (i : Int) : Prop := -(10 ^ 60) < i ∧ i < 10 ^ 60
theorem Fit.log {i : Int} (h : Fit i) : i.natAbs.log2 < 1920 := by
  have h1 : i.natAbs < 2 ^ 1920 := by
    have : i.natAbs < 10 ^ 60 := by
      obtain ⟨a, b⟩ := h
      have e : ((10 : Int) ^ 60) = (((10 : Nat) ^ 60 : Nat) : Int) := by norm_cast
      rw [e] at a b
      omega
    exact Nat.lt_of_lt_of_le this (by decide +kernel)
  by_cases h0 : i.natAbs = 0
  · rw [h0]
    decide
  · exact (Nat.log2_lt h0).mpr h1
/-- one stretch's part -/
def pc1 (a b h : Int) (p : Int × Int) : Row := if max (a - h) 0 < min (b - h) (p.2 - p.1) then [(p.1 + max (a - h) 0, p.1 + min (b - h) (p.2 - p.1))] else []
def pcs (a b : Int) : Int → Row → Row
  | _, [] => []
  | h, p :: r => pc1 a b h p ++ pcs a b (h + (p.2 - p.1)) r
theorem pcs_snoc (a b : Int) (p : Int × Int) : ∀ (r : Row) (c : Int), pcs a b c (r ++ [p]) = pcs a b c r ++ pc1 a b (c + tot r) p
  | [], c => by simp [pcs, tot_nil]
  | q :: r, c => by
    have e : c + (q.2 - q.1) + tot r = c + tot (q :: r) := by rw [tot_cons]; omega
    rw [List.cons_append, pcs, pcs_snoc a b p r, pcs, e, List.append_assoc]
theorem pc1_le (a b h : Int) (p : Int × Int) : (pc1 a b h p).length ≤ 1 := by
  unfold pc1
  split <;> simp
theorem pcs_le (a b : Int) : ∀ (r : Row) (c : Int), (pcs a b c r).length ≤ r.length
  | [], _ => Nat.le_refl _
  | q :: r, c => by
    have ih := pcs_le a b r (c + (q.2 - q.1))
    have z := pc1_le a b c q
    rw [pcs, List.length_append, List.length_cons]
    omega
theorem pc1_ok (a b h : Int) (p : Int × Int) : ∀ q ∈ pc1 a b h p, q.1 ≤ q.2 := by
  unfold pc1
  split
  · intro q hq
    simp only [List.mem_singleton] at hq
    subst hq
    simp only
    omega
  · intro q hq
    cases hq
theorem pcs_ok (a b : Int) : ∀ (r : Row) (c : Int), ∀ q ∈ pcs a b c r, q.1 ≤ q.2
  | [], _ => fun q hq => by cases hq
  | p :: r, c => fun q hq => by
    rw [pcs] at hq
    rcases List.mem_append.mp hq with z | z
    · exact pc1_ok a b c p q z
    · exact pcs_ok a b r _ q z
theorem run_drop (s : Int) : ∀ (n k : Nat), (run s n).drop k = run (s + k) (n - k)
  | n, 0 => by simp
  | 0, k + 1 => by simp [run]
  | n + 1, k + 1 => by
    rw [run, List.drop_succ_cons, run_drop (s + 1) n k]
    have e1 : s + 1 + (k : Int) = s + ((k + 1 : Nat) : Int) := by omega
    have e2 : n + 1 - (k + 1) = n - k := by omega
    rw [e1, e2]
theorem run_take (s : Int) : ∀ (n k : Nat), (run s n).take k = run s (min k n)
  | n, 0 => by simp [run]
  | 0, k + 1 => by simp [run]
  | n + 1, k + 1 => by
    rw [run, List.take_succ_cons, run_take (s + 1) n k]
    have e2 : min (k + 1) (n + 1) = min k n + 1 := by omega
    rw [e2, run]
/-- the stretch's part, spelt -/
theorem spell_pc1 (a b h : Int) (p : Int × Int) (hp : p.1 ≤ p.2) : spell (pc1 a b h p) = ((span p).take (b - h).toNat).drop (a - h).toNat := by
  obtain ⟨s, e⟩ := p
  simp only at hp
  unfold pc1 span
  simp only
  rw [run_take, run_drop]
  split
  · rename_i hc
    rw [spell_one, span]
    simp only
    congr 1
    · omega
    · omega
  · rename_i hc
    have z : min (b - h).toNat (e - s).toNat - (a - h).toNat = 0 := by omega
    rw [z]
    rfl
theorem spell_pcs (a b : Int) : ∀ (r : Row) (h : Int), (∀ p ∈ r, p.1 ≤ p.2) → spell (pcs a b h r) = ((spell r).take (b - h).toNat).drop (a - h).toNat
  | [], h, _ => by simp [pcs, spell]
  | p :: r, h, ok => by
    have hp := ok p (List.mem_cons_self ..)
    have ih := spell_pcs a b r (h + (p.2 - p.1)) fun q hq => ok q (List.mem_cons_of_mem _ hq)
    have e : spell (p :: r) = span p ++ spell r := rfl
    have hl := span_length p hp
    rw [pcs, spell_append, spell_pc1 a b h p hp, ih, e, List.take_append, List.drop_append, List.length_take]
    congr 1
    have e1 : (b - (h + (p.2 - p.1))).toNat = (b - h).toNat - (span p).length := by omega
    rw [e1]
    by_cases hb : (span p).length ≤ (b - h).toNat
    · have e2 : (a - (h + (p.2 - p.1))).toNat = (a - h).toNat - min (b - h).toNat (span p).length := by omega
      rw [e2]
    · have e3 : (b - h).toNat - (span p).length = 0 := by omega
      rw [e3]
      simp
def In3 (a b t : Int) : Prop := 0 ≤ a ∧ a ≤ b ∧ b ≤ t
def spCheck (C : Addr) : Sp := fun vs H Q E => ∃ (r : Addr) (row : Row) (a b : Int), vs = [.ref r, .int a, .int b] ∧ RowAt H r row ∧ row.length ≤ 1000000 ∧ Fit a ∧ Fit b ∧ Fit (tot row) ∧
  (In3 a b (tot row) → ∀ H', Same H H' → Q .non H') ∧ (¬ In3 a b (tot row) → ∀ H', Same H H' → E (.ref C) none H')
def spPieces : Sp := fun vs H Q _ => ∃ (r : Addr) (row : Row) (a b : Int), vs = [.ref r, .int a, .int b] ∧ RowAt H r row ∧ row.length ≤ 1000000 ∧
  ∀ (q : Addr) (H' : Hp), RowAt H' q (pcs a b 0 row) → Same H H' → H q = none → Q (.ref q) H'
/-- the classes of refusals -/
structure ExcAt (K : PySem.W.Frag) (mg : Str → Option Value) (C : Addr) : Prop where
  m : mg "OutOfPlace" = some (.ref C)
  x : PySem.W.excIn K C [.type "ValueError", .type "Exception", .type "BaseException", .type "object"] "ValueError.__new__" = true
  h : PySem.W.exmOne K (.ref C) (.ref C) = some true
structure ExcAt2 (K : PySem.W.Frag) (mg : Str → Option Value) (C D : Addr) : Prop where
  m : mg "InkError" = some (.ref D)
  h : PySem.W.exmOne K (.ref C) (.ref D) = some true
end Ink

namespace Ink
open PySem L2 InkX InkE
end Ink

namespace Ink
open PySem L2 InkX InkE
theorem spell_plain (r : Row) (ok : ∀ p ∈ r, p.1 ≤ p.2) : spell (plainF r) = spell r := by rw [plain_eq r ok, spell_rowOf]
theorem spell_part (a b : Int) (row : Row) (ok : ∀ p ∈ row, p.1 ≤ p.2) : spell (plainF (pcs a b 0 row)) = ((spell row).take b.toNat).drop a.toNat := by
  rw [spell_plain _ (pcs_ok a b row 0), spell_pcs a b row 0 ok, Int.sub_zero, Int.sub_zero]
theorem plainF_le (r : Row) : (plainF r).length ≤ r.length := by
  have z := plain_le r []
  simpa [plainF] using z
end Ink

namespace Ink
open PySem PySem.Spec PyProof.Rows L2 InkX InkE
/-! ### pairs of lists of the very same values compared -/
/-! ### rows joined, put in, cut out -/
theorem PairsAt.append {H : Hp} : ∀ {as bs : List Addr} {r q : Row}, PairsAt H as r → PairsAt H bs q → PairsAt H (as ++ bs) (r ++ q)
  | _, _, _, _, .nil, t => t
  | _, _, _, _, .cons e r, t => .cons e (PairsAt.append r t)
theorem app_ok {r q : Row} (h : ∀ p ∈ r, p.1 ≤ p.2) (g : ∀ p ∈ q, p.1 ≤ p.2) : ∀ p ∈ r ++ q, p.1 ≤ p.2 := fun p hp => (List.mem_append.mp hp).elim (h p) (g p)
end Ink

namespace L2
open PySem PySem.Spec PyProof.Rows

/-! ### lists of pairs as tables -/
section
variable {κ : Type} [DecidableEq κ]
def valV (kvs : List (κ × V)) (k : κ) : Option V := (kvs.find? fun kv => decide (kv.1 = k)).map (·.2)
/-- in its place, or at the end -/
def putK (kvs : List (κ × V)) (k : κ) (v : V) : List (κ × V) :=
  if (kvs.any fun kv => decide (kv.1 = k)) = true then kvs.map (fun kv => if kv.1 = k then (kv.1, v) else kv) else kvs ++ [(k, v)]
theorem valV_pos {p : κ × V} {r : List (κ × V)} {k : κ} (e : p.1 = k) : valV (p :: r) k = some p.2 := by simp [valV, List.find?_cons, e]
theorem valV_neg {p : κ × V} {r : List (κ × V)} {k : κ} (e : ¬ p.1 = k) : valV (p :: r) k = valV r k := by simp [valV, List.find?_cons, e]
theorem valV_any (k : κ) : ∀ kvs : List (κ × V), (kvs.any fun kv => decide (kv.1 = k)) = (valV kvs k).isSome
  | [] => rfl
  | p :: r => by
    rw [List.any_cons]
    by_cases e : p.1 = k
    · simp only [valV_pos e, decide_eq_true e, Bool.true_or, Option.isSome_some]
    · rw [valV_neg e, decide_eq_false e, Bool.false_or]; exact valV_any k r
theorem valV_map (k j : κ) (y : V) : ∀ kvs : List (κ × V), valV (kvs.map fun kv => if kv.1 = k then (kv.1, y) else kv) j = (valV kvs j).map fun x => if j = k then y else x
  | [] => rfl
  | p :: r => by
    have ih := valV_map k j y r
    rw [List.map_cons]
    by_cases h : p.1 = k
    · rw [if_pos h]
      by_cases e : p.1 = j
      · rw [valV_pos (p := (p.1, y)) e, valV_pos e, Option.map_some, if_pos (e.symm.trans h)]
      · rw [valV_neg (p := (p.1, y)) e, valV_neg e, ih]
    · rw [if_neg h]
      by_cases e : p.1 = j
      · rw [valV_pos (p := p) e, valV_pos e, Option.map_some, if_neg (fun z => h (e.trans z))]
      · rw [valV_neg (p := p) e, valV_neg e, ih]
theorem valV_snoc (k j : κ) (y : V) : ∀ kvs : List (κ × V), valV kvs k = none → valV (kvs ++ [(k, y)]) j = if j = k then some y else valV kvs j
  | [], _ => by
    by_cases e : k = j
    · rw [if_pos e.symm]; exact valV_pos (p := (k, y)) e
    · rw [if_neg (fun z => e z.symm)]; exact valV_neg (p := (k, y)) e
  | p :: r, hn => by
    rw [List.cons_append]
    have hk : ¬ p.1 = k := fun z => by rw [valV_pos z] at hn; cases hn
    rw [valV_neg hk] at hn
    have ih := valV_snoc k j y r hn
    by_cases e : p.1 = j
    · rw [valV_pos e, valV_pos e, if_neg (fun z => hk (e.trans z))]
    · rw [valV_neg e, valV_neg e, ih]
theorem valV_put (kvs : List (κ × V)) (k j : κ) (y : V) : valV (putK kvs k y) j = if j = k then some y else valV kvs j := by
  unfold putK
  by_cases a : (kvs.any fun kv => decide (kv.1 = k)) = true
  · rw [if_pos a, valV_map]
    rw [valV_any] at a
    by_cases e : j = k
    · obtain ⟨x, hx⟩ := Option.isSome_iff_exists.mp a
      rw [if_pos e, e, hx, Option.map_some, if_pos rfl]
    · rw [if_neg e]
      cases valV kvs j with
      | none => rfl
      | some x => rw [Option.map_some, if_neg e]
  · rw [if_neg a]
    refine valV_snoc k j y kvs ?_
    rw [valV_any] at a
    cases q : valV kvs k with
    | none => rfl
    | some x => rw [q] at a; exact (a rfl).elim
theorem length_putK (kvs : List (κ × V)) (k : κ) (v : V) : (putK kvs k v).length ≤ kvs.length + 1 := by
  unfold putK
  split
  · rw [List.length_map]; omega
  · rw [List.length_append, List.length_cons, List.length_nil]; omega
theorem putK_new {kvs : List (κ × V)} {k : κ} (v : V) (h : valV kvs k = none) : putK kvs k v = kvs ++ [(k, v)] := by
  unfold putK
  rw [valV_any, h]
  exact if_neg (by decide)

theorem RelO.isSome_eq {o : Option V} {u : Option Value} (r : RelO o u) : o.isSome = u.isSome := by
  cases o with
  | none => cases u with
    | none => rfl
    | some _ => exact (show False from r).elim
  | some _ => cases u with
    | none => exact (show False from r).elim
    | some _ => rfl
/-- raw tables of the same keys -/
theorem KV.val {kvs : List (κ × V)} {vs : List (κ × Value)} (r : KV kvs vs) (k : κ) : RelO (valV kvs k) (valueAt vs k) := by
  unfold KV at r
  induction r with
  | nil => exact True.intro
  | @cons p q ps qs h t ih =>
    obtain ⟨h1, h2⟩ := h
    by_cases e : p.1 = k
    · have e' : q.1 = k := h1.symm.trans e
      have b : valueAt (q :: qs) k = some q.2 := by simp [valueAt, List.find?_cons, e']
      rw [valV_pos e, b]; exact h2
    · have e' : ¬ q.1 = k := fun z => e (h1.trans z)
      have b : valueAt (q :: qs) k = valueAt qs k := by simp [valueAt, List.find?_cons, e']
      rw [valV_neg e, b]; exact ih
theorem KV.any {kvs : List (κ × V)} {vs : List (κ × Value)} (r : KV kvs vs) (k : κ) : (kvs.any fun kv => decide (kv.1 = k)) = vs.any fun kv => decide (kv.1 = k) := by
  unfold KV at r
  induction r with
  | nil => rfl
  | cons h t ih => rw [List.any_cons, List.any_cons, ih, h.1]
theorem KV.repl {kvs : List (κ × V)} {vs : List (κ × Value)} (r : KV kvs vs) (k : κ) {y : V} {u : Value} (ry : RelV y u) :
    KV (kvs.map fun kv => if kv.1 = k then (kv.1, y) else kv) (vs.map fun kv => if kv.1 = k then (kv.1, u) else kv) := by
  unfold KV at r ⊢
  induction r with
  | nil => exact .nil
  | @cons p q ps qs h t ih =>
    rw [List.map_cons, List.map_cons]
    refine .cons ?_ ih
    obtain ⟨h1, h2⟩ := h
    by_cases e : p.1 = k
    · rw [if_pos e, if_pos (h1.symm.trans e)]; exact ⟨h1, ry⟩
    · rw [if_neg e, if_neg (fun z => e (h1.trans z))]; exact ⟨h1, h2⟩
theorem KV.put {kvs : List (κ × V)} {vs : List (κ × Value)} (r : KV kvs vs) (k : κ) {y : V} {u : Value} (ry : RelV y u) : KV (putK kvs k y) (stored vs k u) := by
  unfold putK stored
  rw [r.any k]
  by_cases e : (vs.any fun kv => decide (kv.1 = k)) = true
  · rw [if_pos e, if_pos e]; exact r.repl k ry
  · rw [if_neg e, if_neg e]; exact Paired.snoc r ⟨rfl, ry⟩
theorem KV.length {kvs : List (κ × V)} {vs : List (κ × Value)} (r : KV kvs vs) : kvs.length = vs.length := Paired.length r
end


/-! ### a tracked dict, its keys ints and texts or tuples of these -/
theorem kV_is {P : Program} {w : World} {k : Key} {u : Value} (r : RelV (kV k) u) : (mixKind P w).is k u = true := by
  cases k with
  | inl i => obtain ⟨t, e⟩ := (show ∃ t, u = Value.int i t from r); subst e; exact mixKind_int P w i t
  | inr x => obtain ⟨t, e⟩ := (show ∃ t, u = Value.str x t from r); subst e; exact mixKind_str P w x t
theorem items_are {P : Program} {w : World} : ∀ {ks : List Key} {us : List Value}, Vals (ks.map kV) us → ItemsAre (mixKind P w) ks us
  | [], _, r => by rw [List.map_nil] at r; cases r; exact .nil
  | k :: ks, _, r => by
    rw [List.map_cons] at r
    cases r with
    | cons h t => exact .cons (kV_is h) (items_are t)

/-- raw entries of a dict with tuple keys -/
abbrev KT (H : Hp) : List (List Key × V) → List (List Key × Addr × Value) → Prop := Paired fun p q => p.1 = q.1 ∧ H q.2.1 = some (.tup (p.1.map kV)) ∧ RelV p.2 q.2.2
theorem KT.val {H : Hp} {kvs : List (List Key × V)} {xs : List (List Key × Addr × Value)} (r : KT H kvs xs) (k : List Key) : RelO (valV kvs k) ((atKey xs k).map (·.2)) := by
  induction r with
  | nil => exact True.intro
  | @cons p q ps qs h t ih =>
    obtain ⟨h1, _, h2⟩ := h
    by_cases e : p.1 = k
    · have e' : q.1 = k := h1.symm.trans e
      have b : atKey (q :: qs) k = some q.2 := by simp [atKey, List.find?_cons, e']
      rw [valV_pos e, b]; exact h2
    · have e' : ¬ q.1 = k := fun z => e (h1.trans z)
      have b : atKey (q :: qs) k = atKey qs k := by simp [atKey, List.find?_cons, e']
      rw [valV_neg e, b]; exact ih
theorem KT.repl {H : Hp} {kvs : List (List Key × V)} {xs : List (List Key × Addr × Value)} (r : KT H kvs xs) (k : List Key) {y : V} {u : Value} (ry : RelV y u) :
    KT H (kvs.map fun kv => if kv.1 = k then (kv.1, y) else kv) (xs.map (putAt k u)) := by
  induction r with
  | nil => exact .nil
  | @cons p q ps qs h t ih =>
    rw [List.map_cons, List.map_cons]
    refine .cons ?_ ih
    obtain ⟨h1, h2, h3⟩ := h
    unfold putAt
    by_cases e : p.1 = k
    · rw [if_pos e, if_pos (h1.symm.trans e)]; exact ⟨h1, h2, ry⟩
    · rw [if_neg e, if_neg (fun z => e (h1.trans z))]; exact ⟨h1, h2, h3⟩
theorem KT.put {H : Hp} {kvs : List (List Key × V)} {xs : List (List Key × Addr × Value)} (r : KT H kvs xs) (k : List Key) {b : Addr} {y : V} {u : Value} (hb : H b = some (.tup (k.map kV))) (ry : RelV y u) :
    KT H (putK kvs k y) (storedH xs k b u) := by
  have e : (kvs.any fun kv => decide (kv.1 = k)) = (atKey xs k).isSome := by
    rw [valV_any, (r.val k).isSome_eq, Option.isSome_map]
  unfold putK storedH
  rw [e]
  by_cases q : (atKey xs k).isSome = true
  · rw [if_pos q, if_pos q]; exact r.repl k ry
  · rw [if_neg q, if_neg q]; exact Paired.snoc r ⟨rfl, hb, ry⟩
theorem KT.keeps {H H' : Hp} {kvs : List (List Key × V)} {xs : List (List Key × Addr × Value)} (r : KT H kvs xs) (ht : ∀ b ys, H b = some (.tup ys) → H' b = some (.tup ys)) : KT H' kvs xs :=
  Paired.mapP r fun _ _ z => ⟨z.1, ht _ _ z.2.1, z.2.2⟩

section
variable {P : Program} {w : World} {H : Hp} {h : Heap} {a : Addr}
theorem rd_of {u : HO} (ok : HOk P w H h) (e : Rd H a u) : ObjOk P w H h a u := e.ok ok
theorem dk_rd {kvs : List (Key × V)} (ok : HOk P w H h) (e : Rd H a (.dK kvs)) : kvs.length ≤ sizeLine ∧ (a == sysModules) = false ∧ ∃ vs, KV kvs vs ∧ h.DictOf (mixKind P w) a vs :=
  show ObjOk P w H h a (.dK kvs) from rd_of ok e
theorem dk_of {kvs : List (Key × V)} (ok : HOk P w H h) (e : H a = some (.dK kvs)) : kvs.length ≤ sizeLine ∧ (a == sysModules) = false ∧ ∃ vs, KV kvs vs ∧ h.DictOf (mixKind P w) a vs := dk_rd ok (.inl e)
/-- a tracked tuple of ints and texts is a key -/
theorem key_of {ks : List Key} (ok : HOk P w H h) (e : H a = some (.tup (ks.map kV))) : (tupleKind (mixKind P w)).is h ks a := by
  obtain ⟨_, its, r, o, h1, h2, n, h3⟩ := (show ObjOk P w H h a (.tup (ks.map kV)) from ok a _ e)
  exact ⟨o, its.toArray, n, h1, h2, h3, by simpa using items_are r⟩
theorem dt_rd {kvs : List (List Key × V)} (ok : HOk P w H h) (e : Rd H a (.dT kvs)) : kvs.length ≤ sizeLine ∧ (a == sysModules) = false ∧
    ∃ xs, KT H kvs xs ∧ h.DictOfH (tupleKind (mixKind P w)) a xs := by
  obtain ⟨z, y, xs, r, o, es, ep, h1, h2, h3, h4, h5⟩ := (show ObjOk P w H h a (.dT kvs) from rd_of ok e)
  refine ⟨z, y, xs, r, o, es, ep, h1, h2, h3, h4, fun x hx => ?_, h5⟩
  have all : ∀ {l : List (List Key × V)} {m : List (List Key × Addr × Value)}, KT H l m → ∀ x ∈ m, (tupleKind (mixKind P w)).is h x.1 x.2.1 := by
    intro l m q
    induction q with
    | nil => intro x hx; exact nomatch hx
    | @cons p q ps qs hq t ih =>
      intro x hx
      rcases List.mem_cons.mp hx with e | hx
      · subst e
        exact key_of ok (by rw [← hq.1]; exact hq.2.1)
      · exact ih x hx
  exact all r x hx
theorem dt_of {kvs : List (List Key × V)} (ok : HOk P w H h) (e : H a = some (.dT kvs)) : kvs.length ≤ sizeLine ∧ (a == sysModules) = false ∧
    ∃ xs, KT H kvs xs ∧ h.DictOfH (tupleKind (mixKind P w)) a xs := dt_rd ok (.inl e)
end

/-- what the dict at a holds at the key y -/
def DGet (H : Hp) (a : Addr) (y : V) (r : Option V) : Prop :=
  (∃ kvs k, Rd H a (.dK kvs) ∧ y = kV k ∧ r = valV kvs k) ∨ ∃ kvs k b, Rd H a (.dT kvs) ∧ y = .ref b ∧ H b = some (.tup (k.map kV)) ∧ r = valV kvs k
/-- the heap behind a[y] = v -/
def DPut (H : Hp) (a : Addr) (y v : V) (H' : Hp) : Prop :=
  (∃ kvs k, H a = some (.dK kvs) ∧ y = kV k ∧ kvs.length < sizeLine ∧ H' = upd H a (.dK (putK kvs k v))) ∨
  ∃ kvs k b, H a = some (.dT kvs) ∧ y = .ref b ∧ H b = some (.tup (k.map kV)) ∧ kvs.length < sizeLine ∧ H' = upd H a (.dT (putK kvs k v))
theorem DGet.k {H : Hp} {a : Addr} {kvs : List (Key × V)} {k : Key} (e : H a = some (.dK kvs)) : DGet H a (kV k) (valV kvs k) := .inl ⟨kvs, k, .inl e, rfl, rfl⟩
theorem DPut.k {H : Hp} {a : Addr} {kvs : List (Key × V)} {k : Key} {v : V} (e : H a = some (.dK kvs)) (hl : kvs.length < sizeLine) : DPut H a (kV k) v (upd H a (.dK (putK kvs k v))) := .inl ⟨kvs, k, e, rfl, hl, rfl⟩
section
variable {X : Cx} {pins : List (Addr × Obj)} {σ : St} {H : Hp} {s : Shared} {a : Addr} {y v : V} {u r : Value} {o : Option V} {A : Around} {E : Value → Shared → Prop}

theorem Inv.big (I : Inv X pins σ H s) : sysModules < s.heap.objs.size := by
  have h : mainGlobals < s.heap.objs.size := (I.mod.glob.keeps I.bk).lt
  exact Nat.lt_trans (by decide) h

/-- d[y], there -/
theorem d_getItem {Q : Value → Shared → Prop} (hu : A.units + 1 < cLine) (I : Inv X pins σ H s) (g : DGet H a y (some v)) (ry : RelV y u) (h : ∀ w' s', Inv X pins σ H s' → RelV v w' → Q w' s') :
    wpAny (model X.prog X.w) A (getItem (.ref a) u) Q E s := by
  rcases g with ⟨kvs, k, e, ey, l⟩ | ⟨kvs, k, b, e, ey, eb, l⟩
  · subst ey
    obtain ⟨z, hd, vs, rel, dd⟩ := dk_rd I.hok e
    obtain ⟨w', hw, rw'⟩ := RelO.some_of (v := v) (o := valueAt vs k) (by rw [l]; exact rel.val k)
    exact wpAny_getItem_of (kV_is ry) dd.mapOf hw (h w' _ (I.tok _) rw')
  · subst ey
    cases (show u = Value.ref b from ry)
    obtain ⟨z, hd, xs, rel, dd⟩ := dt_rd I.hok e
    obtain ⟨w', hw, rw'⟩ := RelO.some_of (v := v) (o := (atKey xs k).map (·.2)) (by rw [l]; exact rel.val k)
    obtain ⟨p, hp, hp2⟩ := Option.map_eq_some_iff.mp hw
    refine wpAny_getItem_heap (tupleKind_room_in1 hu) (key_of I.hok eb) dd hp ?_
    rw [hp2]
    exact h w' _ (I.tok _) rw'
theorem d_notIn {Q : Value → Shared → Prop} (hu : A.units + 1 < cLine) (I : Inv X pins σ H s) (g : DGet H a y o) (ry : RelV y u) (h : ∀ s', Inv X pins σ H s' → Q (.bool (!o.isSome)) s') :
    wpAny (model X.prog X.w) A (compareOp .NotIn u (.ref a)) Q E s := by
  rcases g with ⟨kvs, k, e, ey, l⟩ | ⟨kvs, k, b, e, ey, eb, l⟩
  · subst ey
    obtain ⟨z, hd, vs, rel, dd⟩ := dk_rd I.hok e
    refine wpAny_notIn_of (kV_is ry) hd dd.mapOf ?_
    rw [← (rel.val k).isSome_eq, ← l]
    exact h _ (I.tok _)
  · subst ey
    cases (show u = Value.ref b from ry)
    obtain ⟨z, hd, xs, rel, dd⟩ := dt_rd I.hok e
    refine wpAny_notIn_heap (tupleKind_room_in1 hu) (key_of I.hok eb) hd dd ?_
    have q := (rel.val k).isSome_eq
    rw [Option.isSome_map] at q
    rw [← q, ← l]
    exact h _ (I.tok _)
/-- a dict's object is replaced -/
theorem d_write {h' : Heap} {t' : Nat} {ob : HO} (I : Inv X pins σ H s) (mu : Mut (H a)) (hs : Heap.SameBut a s.heap h') (he : ∃ q, h'.get? a = some q) (new : ObjOk X.prog X.w (upd H a ob) h' a ob) :
    Inv X pins σ (upd H a ob) { s with heap := h', toks := t' } :=
  I.write (x := a) (e := a) mu (.inl rfl) (fun b q hb z => (hs.2 b hb).trans z) he new
theorem dk_new {P : Program} {w : World} {H' : Hp} {h' : Heap} {kvs : List (Key × V)} {vs : List (Key × Value)} (z : kvs.length ≤ sizeLine) (hd : (a == sysModules) = false) (rel : KV kvs vs) (dd : h'.DictOf (mixKind P w) a vs) :
    ObjOk P w H' h' a (.dK kvs) := ⟨z, hd, vs, rel, dd⟩
/-- d[y] = v -/
theorem d_setItem {H' : Hp} {Q : Unit → Shared → Prop} (hu : A.units + 1 < cLine) (I : Inv X pins σ H s) (g : DPut H a y v H') (ry : RelV y u) (rv : RelV v r) (h : ∀ s', Inv X pins σ H' s' → Q () s') :
    wpAny (model X.prog X.w) A (setItem (.ref a) u r) Q E s := by
  rcases g with ⟨kvs, k, e, ey, l, eH⟩ | ⟨kvs, k, b, e, ey, eb, l, eH⟩
  · subst ey eH
    obtain ⟨z, hd, vs, rel, dd⟩ := dk_of I.hok e
    have hz : vs.length ≤ sizeLine := by rw [← rel.length]; exact z
    have hl : (putK kvs k v).length ≤ sizeLine := by have := length_putK kvs k v; omega
    refine wpAny_setItem_pairs (hsz := hz) (kV_is ry) dd fun h' dd' hs => h _ ?_
    have he : ∃ q, h'.get? a = some q := let ⟨q, _, _, hq, _⟩ := dd'; ⟨q, hq⟩
    exact d_write I (by rw [e]; exact True.intro) hs he (dk_new hl hd (rel.put k rv) dd')
  · subst ey eH
    cases (show u = Value.ref b from ry)
    obtain ⟨z, hd, xs, rel, dd⟩ := dt_of I.hok e
    have hz : xs.length ≤ sizeLine := by rw [← Paired.length rel]; exact z
    have hl : (putK kvs k v).length ≤ sizeLine := by have := length_putK kvs k v; omega
    refine wpAny_setItem_heap (hsz := hz) (tupleKind_room_in1 hu) (key_of I.hok eb) dd fun h' dd' hs => h _ ?_
    obtain ⟨q, es, ep, hq, h2, h3, h4, _, h5⟩ := dd'
    refine d_write I (by rw [e]; exact True.intro) hs ⟨q, hq⟩ ⟨hl, hd, _, (rel.put k eb rv).keeps fun c ys ec => ?_, q, es, ep, hq, h2, h3, h4, h5⟩
    rw [upd_ne (ne_of ec e (fun z => nomatch z))]
    exact ec
end

section
variable {X : Cx} {pins : List (Addr × Obj)} {σ : St} {H : Hp} {s : Shared} {a : Addr} {kvs : List (Key × V)} {k : Key} {u : Value} {A : Around} {E : Value → Shared → Prop}
end


/-! ### readings and rules -/
/-- the element of a subscription, not a slice -/
def NoSl (i : Expr) : Prop := ∀ ov iv, subscripted i false ov iv = operate [ov, iv] (getItem ov iv)
theorem subD_of {prog : Program} {w : World} {A : Around} {E : Value → Shared → Prop} {s : Shared} {env : Env} {value slice : Expr} {pos : Pos} {T id : String} {Q : Value → Shared → Prop}
    (hl : typeLookup (.type T) "__getitem__" = pure (some (.builtin id))) (hs : NoSl slice)
    (h : wpAny (model prog w) A (eval value env) (fun o s₁ => wpAny (model prog w) A (eval slice env) (fun i s₂ => s₂.TypeIs o T ∧ wpAny (model prog w) A (getItem o i) Q E s₂) E s₁) E s) :
    wpAny (model prog w) A (eval (.Subscript value slice pos) env) Q E s := by
  refine Subscript_ (wpAny_mono h (fun o s₁ h₁ => wpAny_mono h₁ (fun i s₂ h₂ => ?_) fun _ _ x => x) fun _ _ x => x)
  obtain ⟨hT, h₂⟩ := h₂
  unfold subscriptTail
  refine wpAny_bind ?_
  rw [getitemInPython_of_ne hT.not_modules]
  refine wpAny_bind (wpAny_specialOf hT hl ?_)
  have fin : wpAny (model prog w) A (subscripted slice false o i) (fun r s₃ => wpAny (model prog w) A (letTemporaryGo value o r >>= fun _ => pure r) Q E s₃) E s₂ := by
    rw [hs o i]
    exact wpAny_operating (wpAny_mono h₂ (fun r s₃ h₃ => wpAny_bind (wpAny_letTemporaryGo (wpAny_pure h₃))) fun _ _ x => x)
  first
    | exact wpAny_pure (wpAny_bind fin)
    | exact wpAny_bind (wpAny_pure (wpAny_bind fin))
    | exact wpAny_bind fin

theorem dict_typeIs {X : Cx} {pins : List (Addr × Obj)} {σ : St} {H : Hp} {s : Shared} {a : Addr} {y : V} {o : Option V} (I : Inv X pins σ H s) (g : DGet H a y o) : s.TypeIs (.ref a) "dict" := by
  rcases g with ⟨kvs, k, e, _, _⟩ | ⟨kvs, k, b, e, _, _, _⟩
  · obtain ⟨_, _, vs, _, dd⟩ := dk_rd I.hok e
    exact dd.typeIs
  · obtain ⟨_, _, xs, _, dd⟩ := dt_rd I.hok e
    exact dd.typeIs
/-- d[y] -/
def tDGet (td ty : TE) : TE := fun σ H Q => td σ H fun x H1 => ty σ H1 fun y H2 => ∃ a v, x = .ref a ∧ DGet H2 a y (some v) ∧ Q v H2
def tDNotIn (ty td : TE) : TE := fun σ H Q => ty σ H fun y H1 => td σ H1 fun x H2 => ∃ a o, x = .ref a ∧ DGet H2 a y o ∧ Q (.bl (!o.isSome)) H2
/-- d[y] = v -/
def sDPut (td ty tv : TE) : TS := fun D σ H => tv σ H fun v H1 => td σ H1 fun x H2 => ty σ H2 fun y H3 => ∃ a H4, x = .ref a ∧ DPut H3 a y v H4 ∧ D.nx σ H4
section
variable {X : Cx} {o i e value : Expr} {pos pos' tpos : Pos} {td ty tv : TE}
theorem pe_dget (hu : X.A.units + 1 < cLine) (ho : PE X o td) (hi : PE X i ty) (hs : NoSl i) : PE X (.Subscript o i pos) (tDGet td ty) := by
  intro pins s σ H Q I h
  refine subD_of PySem.F.slot_dict_getitem.lookup hs (thn (ho pins s σ H _ I h) fun u s1 ⟨x, H1, I1, rx, q1⟩ => thn (hi pins s1 σ H1 _ I1 q1) fun iv s2 ⟨y, H2, I2, ry, a, v, ex, g, q2⟩ => ?_)
  subst ex
  obtain rfl : u = Value.ref a := rx
  exact ⟨dict_typeIs I2 g, d_getItem hu I2 g ry fun w' s3 I3 rw' => ⟨v, H2, I3, rw', q2⟩⟩
theorem pc_dnotin (hu : X.A.units + 1 < cLine) (hi : PE X i ty) (ho : PE X o td) : PC X .NotIn i o (tDNotIn ty td) := by
  intro pins s σ H Q I h
  refine thn (hi pins s σ H _ I h) fun iv s1 ⟨y, H1, I1, ry, q1⟩ => thn (ho pins s1 σ H1 _ I1 q1) fun u s2 ⟨x, H2, I2, rx, a, ov, ex, g, q2⟩ => ?_
  subst ex
  obtain rfl : u = Value.ref a := rx
  exact d_notIn hu I2 g ry fun s3 I3 => ⟨.bl (!ov.isSome), H2, I3, rfl, q2⟩
theorem ps_dput (hu : X.A.units + 1 < cLine) (ho : PE X o td) (hi : PE X i ty) (hv : PE X value tv) (hs : swapsWith value (some (.Subscript o i pos')) pos.line X.env = pure false) :
    PS X (.Assign [.Subscript o i pos'] value pos) (sDPut td ty tv) := by
  intro pins s σ H D I h
  refine wpAny_Assign_Subscript (thn (hv pins s σ H _ I h) fun r s1 ⟨v, H1, I1, rv, q1⟩ => thn (ho pins s1 σ H1 _ I1 q1) fun u s2 ⟨x, H2, I2, rx, q2⟩ => thn (hi pins s2 σ H2 _ I2 q2) fun iv s3 ⟨y, H3, I3, ry, a, H4, ex, g, q3⟩ => ?_) hs
  subst ex
  obtain rfl : u = Value.ref a := rx
  exact d_setItem hu I3 g ry rv fun s4 I4 => ⟨σ, H4, I4, q3⟩
end


/-! ### displays -/
theorem dk_empty {P : Program} {w : World} {H : Hp} (h : Heap) (hb : sysModules < h.objs.size) : ObjOk P w H (h.push { cls := .type "dict", data := .dict #[] }) h.objs.size (.dK []) :=
  ⟨Nat.zero_le _, beq_eq_false_iff_ne.mpr (Ne.symm (Nat.ne_of_lt hb)), [], .nil, Heap.DictOf.new h⟩
/-- {}, to be a dict of the kind that is wanted -/
def tDNewK : TE := fun _ H Q => ∀ p, H p = none → Q (.ref p) (upd H p (.dK []))
section
variable {X : Cx} {pos : Pos}
theorem pe_dnewK : PE X (.Dict [] [] pos) tDNewK := fun pins s σ H Q I h =>
  wpAny_Dict_empty ⟨.ref s.heap.objs.size, _, I.laid (a := s.heap.objs.size) (o := .dK []) (t' := s.toks) (fun _ _ q => Heap.get?_push_of_some _ q) (Nat.le_refl _) (dk_empty s.heap I.big), rfl, h _ (I.hok.fresh (Nat.le_refl _))⟩
end

/-! ### methods -/
/-- a method call o.m(e) of a built-in, with one argument: what must be seen of the text -/
structure M1 (X : Cx) (o : Expr) (m : Str) (apos : Pos) (e : Expr) (cpos : Pos) : Prop where
  base : attributeBase o m X.env (eval o X.env) = eval o X.env
  few : ((backTo cpos (starEach [e] X.env)).all (fun x => !x.1) && (backToKw cpos (keywordEach [] X.env)).all (fun x => x.1.isSome)
    && decide (([e] : List Expr).length + ([] : List Keyword).length + (if ([] : List Keyword).isEmpty then 0 else 1) < 30)) = true
  line : (apos.endLine == cpos.line) = true
  trees : backTo cpos (starEach [e] X.env) = [(false, eval e X.env)]
structure M2 (X : Cx) (o : Expr) (m : Str) (apos : Pos) (e f : Expr) (cpos : Pos) : Prop where
  base : attributeBase o m X.env (eval o X.env) = eval o X.env
  few : ((backTo cpos (starEach [e, f] X.env)).all (fun x => !x.1) && (backToKw cpos (keywordEach [] X.env)).all (fun x => x.1.isSome)
    && decide (([e, f] : List Expr).length + ([] : List Keyword).length + (if ([] : List Keyword).isEmpty then 0 else 1) < 30)) = true
  line : (apos.endLine == cpos.line) = true
  trees : backTo cpos (starEach [e, f] X.env) = [(false, eval e X.env), (false, eval f X.env)]

section
variable {X : Cx} {pins : List (Addr × Obj)} {σ : St} {H : Hp} {s : Shared} {a : Addr} {y d : V} {u r : Value} {o : Option V} {A : Around} {E : Value → Shared → Prop}
end

section
variable {X : Cx} {o e f : Expr} {apos cpos : Pos} {td ty tx : TE}
end

/-! ### dict(d): a copy -/
section
variable {X : Cx} {pins : List (Addr × Obj)} {σ : St} {H : Hp} {s : Shared} {a : Addr} {kvs : List (Key × V)} {A : Around} {E : Value → Shared → Prop}
end


section
variable {X : Cx} {pins : List (Addr × Obj)} {σ : St} {H : Hp} {s : Shared} {a : Addr} {y : V} {u : Value} {A : Around} {E : Value → Shared → Prop}
end
end L2


namespace InkX
open PySem PySem.Spec PyProof.Rows L2
/-! ### a list made by one clause whose tests and item may name the def's captured names; kept, or stored under a plain name -/
def cxF (X : Cx) (N : List Str) (scope : Scope) (cl : List (Str × Addr)) (C : Addr) (s₀ : Shared) (H₀ : Hp) (ex : List Addr) (pn : List (Addr × Obj)) : Cx where
  prog := X.prog
  w := X.w
  K := X.K
  mg := X.mg
  base := X.base
  A := X.A
  N := N
  s₀ := s₀
  H₀ := H₀
  env := compEnvC scope cl C X.env
  outer := X.stack
  stack := X.stack
  ex := ex
  fn := fun _ => false
  calm := X.calm
  pn := pn
  xe := fun _ _ => False
structure CompF (X : Cx) (N : List Str) (scope : Scope) (cl : List (Str × Addr)) (jx : List (Option Nat)) : Prop where
  kind : scope.kind = .function
  cell : ∀ x ∈ scope.names, x.2 ≠ .cell
  names : ∀ x ∈ scope.names, x.2 = .local → scope.names.lookup x.1 = some .local
  clos : closureFor scope X.env = pure cl
  sub : ∀ x c, cl.lookup x = some c → X.env.cells.lookup x = some c
  has : ∀ x, ((relabel scope X.env).names.lookup x = some .cell ∨ (relabel scope X.env).names.lookup x = some .free) → ∃ c, cl.lookup x = some c
  len : jx.length = N.length
  free : ∀ (i j : Nat) (x : Str), jx[i]? = some (some j) → N[i]? = some x → X.N[j]? = some x ∧ X.env.scope.names.lookup x = some .cell ∧ (relabel scope X.env).names.lookup x = some .cell
def startF (jx : List (Option Nat)) (σ : L2.St) : L2.St := jx.map fun o => o.bind fun j => (σ[j]?).join
section
variable {X : Cx} {N : List Str} {scope : Scope} {cl : List (Str × Addr)} {jx : List (Option Nat)}
theorem comp_startF {pins : List (Addr × Obj)} {σ : L2.St} {H : Hp} {s : Shared} {fp : List Addr} {h₁ : Heap} {t : Nat} (cs : CompF X N scope cl jx) (I : Inv X pins σ H s) (hf : ∀ b ∈ fp, FpOk X pins H b) (hlt : ∀ b ∈ fp, b < s.heap.objs.size)
    (hns : h₁.Ns s.heap.objs.size fun _ => none) (hk : ∀ b o, s.heap.get? b = some o → h₁.get? b = some o) :
    Inv (cxF X N scope cl s.heap.objs.size s H fp (X.pn ++ pins)) [] (startF jx σ) H { s with heap := h₁, toks := t } := by
  have sub : ∀ {x c}, (cxF X N scope cl s.heap.objs.size s H fp (X.pn ++ pins)).env.cells.lookup x = some c → X.env.cells.lookup x = some c := fun {x c} e => cs.sub x c e
  refine ⟨⟨I.ok.mod, cs.kind, I.ok.glob, I.ok.blt, Nat.le_refl _, fun x y c e e' => I.ok.inj x y c (sub e) (sub e'), fun x hx => cs.has x hx, fun x c z _ => (by cases z), I.ok.hd, I.ok.frames, .inl rfl, fun b hb => ⟨Nat.ne_of_lt (hlt b hb), fun x c e => (hf b hb).2.2.2.2.1 x c (sub e)⟩, I.bs, Nat.le_trans I.ok.bsz I.sz, fun b o e hb => ?_, fun b hb z => ?_, I.stack, I.stkFree⟩,
    rfl, I.bare, Un.kept hk, ⟨_, hns, fun i x v e1 e2 _ => ?_⟩, fun x c e => ?_, I.hok.fresh (Nat.le_refl _), fun x c e => I.freeC x c (sub e), fun p hp => ?_, I.hok.kept hk, by unfold startF; rw [List.length_map]; exact cs.len⟩
  · rcases (hf b hb).2.2.2.1 with z | z
    · exact I.ok.noex b o e z
    · exact absurd (Nat.lt_of_lt_of_le (Heap.lt_size (I.ok.bs b o e).1) z) (Nat.lt_irrefl _)
  · rcases List.mem_cons.mp (I.stkSub b z) with e | e
    · exact (hf b hb).2.1 e
    · exact (hf b hb).2.2.1 e
  · unfold startF at e2
    rw [List.getElem?_map] at e2
    cases ej : jx[i]? with
    | none => rw [ej] at e2; cases e2
    | some o =>
      rw [ej] at e2
      cases o with
      | none => cases e2
      | some j =>
        have e3 : σ[j]? = some (some v) := by
          have z : ((σ[j]?).join) = some v := Option.some.inj e2
          cases hs : σ[j]? with
          | none => rw [hs] at z; cases z
          | some q => rw [hs] at z; exact congrArg some z
        obtain ⟨f1, f2, f3⟩ := cs.free i j x ej e1
        obtain ⟨m, hn, hl⟩ := I.loc
        obtain ⟨u, ru, look⟩ := hl j x v f1 e3 (.inr (.inl f2))
        refine ⟨u, ru, ?_⟩
        rcases look with ⟨k, _⟩ | ⟨_, c, hc, o, ho, hd⟩
        · have k' : X.env.scope.names.lookup x = some .local := k
          rw [f2] at k'
          cases k'
        · obtain ⟨c', hc'⟩ := cs.has x (.inl f3)
          have z := cs.sub x c' hc'
          rw [hc] at z
          cases z
          exact .inr ⟨.inl f3, c, hc', o, hk _ _ ho, hd⟩
  · obtain ⟨v, o, ho, hd⟩ := I.cell x c (sub e)
    exact ⟨v, o, hk _ _ ho, hd⟩
  · have hp' : p ∈ X.pn ++ pins := by
      have z : p ∈ (X.pn ++ pins) ++ [] := hp
      simpa using z
    obtain ⟨e, n, nl, nf, d⟩ := I.pin p hp'
    refine ⟨hk _ _ e, n, Nat.ne_of_lt (Heap.lt_size e), fun z => ?_, d⟩
    rcases List.mem_cons.mp (I.stkSub p.1 z) with e | e
    · exact nl e
    · exact nf e
theorem comp_midF {pins : List (Addr × Obj)} {σ σ' : L2.St} {H H' : Hp} {s s' : Shared} {fp : List Addr} (I : Inv X pins σ H s) (hf : ∀ b ∈ fp, FpOk X pins H b) (J : Inv (cxF X N scope cl s.heap.objs.size s H fp (X.pn ++ pins)) [] σ' H' s') : Inv X pins σ H' s' :=
  I.call' (ch := fp) J.os J.base J.hok J.bare fun b hb => ⟨(hf b hb).2.2.2.1, (hf b hb).2.1, (hf b hb).2.2.2.2.1, (hf b hb).2.2.2.2.2⟩
theorem comp_outF {pins : List (Addr × Obj)} {σ σ2 : L2.St} {H H' : Hp} {s s' : Shared} {h' : Heap} (I : Inv X pins σ H s) (I4 : Inv X pins σ2 H' s') (hfree : H' s.heap.objs.size = none) (hs : Heap.SameBut s.heap.objs.size s'.heap h') : Inv X pins σ2 H' { s' with heap := h' } := by
  refine I4.turned (t' := s'.toks) (it := s.heap.objs.size) (fun b o hb e => hs.extBut _ _ hb e) hfree (Nat.ne_of_gt I.lt) (.inr I.sz) (fun x c e z => ?_) fun p hp z => ?_
  · obtain ⟨v, o, ho, _⟩ := I.cell x c e
    exact absurd (Heap.lt_size ho) (by rw [z]; exact Nat.lt_irrefl _)
  · exact absurd (Heap.lt_size (I.pin p hp).1) (by rw [z]; exact Nat.lt_irrefl _)
def tTurnsF (J : It) (acc : Addr) (g : TG) (tt : TT) (te : TE) (σ0 : L2.St) (H : Hp) (Q : VK) : Prop :=
  ∃ W : Nat → Nat → L2.St → Hp → Prop, (∃ m, W 0 m σ0 H) ∧ ∀ i m σ H, W i m σ H →
    (J.stop i H ∧ Q (.ref acc) H) ∨ (J.go i H ∧ ∃ Nx : L2.St → Hp → Prop, (∀ σ' H', Nx σ' H' → ∃ m', m' < m ∧ W (i + 1) m' σ' H') ∧ ∀ x H', J.yld i H x H' → g x σ H' fun σ2 H2 => tt σ2 H2 fun b H3 =>
      if b = true then te σ2 H3 fun v H4 => ∃ xs, H4 acc = some (.lst xs) ∧ xs.length < sizeLine ∧ Nx σ2 (upd H4 acc (.lst (xs ++ [v]))) else Nx σ2 H3)
def tCompF (jx : List (Option Nat)) (wi : TI) (g : TG) (tt : TT) (te : TE) : TE := fun σ H Q => wi σ H fun J H1 => ∀ acc, H1 acc = none → tTurnsF J acc g tt te (startF jx σ) (upd H1 acc (.lst [])) Q
theorem comp_core {elt tg iter : Expr} {ifs : List Expr} {pos pos' : Pos} {wi : TI} {g : TG} {tt : TT} {te : TE} (cs : CompF X N scope cl jx) (hc : X.calm = true) (hi : PI X tg iter wi)
    (hg : ∀ C s₀ H₀ ex pn, PG (cxF X N scope cl C s₀ H₀ ex pn) tg g) (ht : ∀ C s₀ H₀ ex pn, PTs (cxF X N scope cl C s₀ H₀ ex pn) ifs tt) (he : ∀ C s₀ H₀ ex pn, PE (cxF X N scope cl C s₀ H₀ ex pn) elt te)
    (hs : ∀ x, foldedSetIterable iter X.env x = pure x) {use : Option (Value → Sem Unit)} {Q' : Value → Shared → Prop} {Q : VK} {pins : List (Addr × Obj)} {s : Shared} {σ : L2.St} {H : Hp} (I : Inv X pins σ H s) (h : tCompF jx wi g tt te σ H Q)
    (fin : ∀ (s3 : Shared) (H3 : Hp) (fp : List Addr) (acc : Addr) (σ6 : L2.St) (H6 : Hp) (s7 : Shared), Inv X pins σ H3 s3 → (∀ b ∈ fp, FpOk X pins H3 b) → Inv (cxF X N scope cl s3.heap.objs.size s3 H3 fp (X.pn ++ pins)) [] σ6 H6 s7 → Q (.ref acc) H6 →
      compPost (model X.prog X.w) X.A X.xe use Q' (.ref acc) s3.heap.objs.size (.ok .next) s7) :
    wpAny (model X.prog X.w) X.A (comprehension (.ListComp elt [⟨tg, iter, ifs, 0⟩] scope pos) scope X.env pos' (newList []) false (eval iter X.env) use) Q' X.xe s := by
  refine wpAny_comprehension_free (use := use) rfl hs cs.clos cs.kind cs.names (thn (hi pins s σ H _ I h) fun v s1 h1 => thn h1 fun itv s2 h2 => ?_)
  obtain ⟨it, fp, tn, J, H2, e, I2, T, st2, f2, q⟩ := h2
  subst e
  refine wpAny_newObj_type (hd := by size_fits) ?_
  have hacc : H2 s2.heap.objs.size = none := I2.hok.fresh (Nat.le_refl _)
  have I3 : Inv X pins σ (upd H2 s2.heap.objs.size (.lst [])) { s2 with heap := s2.heap.push { cls := .type "list", data := .seq ([] : List Value).toArray }, toks := s2.toks } := I2.lnew (ys := []) .nil (Nat.zero_le _)
  have ftn : ∀ b ∈ fp, b < s2.heap.objs.size := fun b hb => by
    obtain ⟨o, ho, _⟩ := T.obj _ _ st2 b hb
    exact Heap.lt_size ho
  have f3 : ∀ b ∈ fp, FpOk X pins (upd H2 s2.heap.objs.size (.lst [])) b := fun b hb => ⟨by rw [upd_ne (Nat.ne_of_lt (ftn b hb))]; exact (f2 b hb).1, (f2 b hb).2⟩
  have k3 : ∀ b o, s2.heap.get? b = some o → (s2.heap.push { cls := .type "list", data := .seq ([] : List Value).toArray }).get? b = some o := fun b o e => Heap.get?_push_of_some _ e
  have q3 := q _ hacc
  generalize hs3 : ({ s2 with heap := s2.heap.push { cls := .type "list", data := .seq ([] : List Value).toArray }, toks := s2.toks } : Shared) = s3 at I3
  generalize hH3 : upd H2 s2.heap.objs.size (.lst []) = H3 at I3 f3 q3
  have hh3 : s3.heap = s2.heap.push { cls := .type "list", data := .seq ([] : List Value).toArray } := by rw [← hs3]
  have ft3 : ∀ b ∈ fp, b < s3.heap.objs.size := fun b hb => by rw [hh3, Heap.size_push]; exact Nat.lt_succ_of_lt (ftn b hb)
  have st3 : tn 0 s3.heap := T.keep _ _ _ st2 fun b _ o e => by rw [hh3]; exact k3 b o e
  show wpAny _ _ _ _ _ s3
  refine wpAny_newFunctionEnv cs.cell (fun y hy => by simp at hy) (fun h₁ hns hsb => ?_) cs.kind
  have kh : ∀ b o, s3.heap.get? b = some o → h₁.get? b = some o := fun b o e => hsb.extBut _ _ (Nat.ne_of_lt (Heap.lt_size e)) (Heap.get?_push_of_some _ e)
  have J0 : Inv (cxF X N scope cl s3.heap.objs.size s3 H3 fp (X.pn ++ pins)) [] (startF jx σ) H3 { s3 with heap := h₁, toks := s3.toks + ([] : List (Str × Value)).length } := comp_startF cs I3 f3 ft3 hns kh
  have st4 : tn 0 h₁ := T.keep _ _ _ st3 fun b _ o e => kh b o e
  obtain ⟨W, ⟨m0, w0⟩, turn⟩ := q3
  have stat : ∀ {H' : Hp}, (∀ b ∈ fp, H' b = none) → ∀ b ∈ fp, FpOk (cxF X N scope cl s3.heap.objs.size s3 H3 fp (X.pn ++ pins)) [] H' b := fun hn b hb => by
    refine ⟨hn b hb, Nat.ne_of_lt (ft3 b hb), fun z => ?_, .inl hb, fun x c e => (f3 b hb).2.2.2.2.1 x c (cs.sub x c e), fun p hp => ?_⟩
    · rcases List.mem_cons.mp (I3.stkSub b z) with e | e
      · exact (f3 b hb).2.1 e
      · exact (f3 b hb).2.2.1 e
    · have hp' : p ∈ X.pn ++ pins := by
        have z : p ∈ (X.pn ++ pins) ++ [] := hp
        simpa using z
      exact (f3 b hb).2.2.2.2.2 p hp'
  have loop : ∀ s5 : Shared, s5 = { s3 with heap := h₁, toks := s3.toks + ([] : List (Str × Value)).length } → codeAny (model X.prog X.w) X.A (.compLoop (.ListComp elt [⟨tg, iter, ifs, 0⟩] scope pos) 0 (.ref it) (.ref s2.heap.objs.size) (cxF X N scope cl s3.heap.objs.size s3 H3 fp (X.pn ++ pins)).env)
      (compPost (model X.prog X.w) X.A X.xe use Q' (.ref s2.heap.objs.size) s3.heap.objs.size) s5 := by
    rintro s5 rfl
    refine compLoopG (fun n s' => ∃ i σ' H', Inv (cxF X N scope cl s3.heap.objs.size s3 H3 fp (X.pn ++ pins)) [] σ' H' s' ∧ tn i s'.heap ∧ (∀ b ∈ fp, H' b = none) ∧ W i n σ' H') ?_ m0 ⟨0, _, H3, J0, st4, fun b hb => (f3 b hb).1, w0⟩
    rintro n s6 ⟨i, σ6, H6, I6, st6, fr6, w6⟩
    rcases turn i n σ6 H6 w6 with ⟨stop, qn⟩ | ⟨go, Nx, hN, step⟩
    · refine thn (T.done (cxF X N scope cl s3.heap.objs.size s3 H3 fp (X.pn ++ pins)) rfl rfl rfl hc i [] s6 σ6 H6 _ I6 (stat fr6) st6 stop) fun r s7 ⟨hr, I7⟩ => ?_
      subst hr
      exact fin s3 H3 fp _ σ6 H6 s7 I3 f3 I7 qn
    · refine thn (T.item (cxF X N scope cl s3.heap.objs.size s3 H3 fp (X.pn ++ pins)) rfl rfl rfl hc i [] s6 σ6 H6 _ I6 (stat fr6) st6 go) fun r s7 ⟨u, hr, h7⟩ => ?_
      subst hr
      refine thn h7 fun _ s8 ⟨x, H8, I8, r8, y8, st8, fr8⟩ => ?_
      have I8' := I8.pinned (stat fr8) (T.obj _ _ st8)
      refine thn (hg _ _ _ _ _ _ s8 σ6 H8 x u _ I8' r8 (step x H8 y8)) fun _ s9 ⟨σ9, H9, I9, q9⟩ => ?_
      refine thn (ht _ _ _ _ _ _ s9 σ9 H9 _ I9 q9) fun ok s10 ⟨H10, I10, q10⟩ => ?_
      have again : ∀ {σ7 : L2.St} {H7 : Hp} {s11 : Shared}, Inv (cxF X N scope cl s3.heap.objs.size s3 H3 fp (X.pn ++ pins)) ([] ++ pinsAt fp s8.heap) σ7 H7 s11 → Nx σ7 H7 → ∃ m, m < n ∧ ∃ i σ' H', Inv (cxF X N scope cl s3.heap.objs.size s3 H3 fp (X.pn ++ pins)) [] σ' H' s11 ∧ tn i s11.heap ∧ (∀ b ∈ fp, H' b = none) ∧ W i m σ' H' := fun {σ7 H7 s11} I7 n7 => by
        obtain ⟨m', hm, w7⟩ := hN σ7 H7 n7
        refine ⟨m', hm, i + 1, σ7, H7, I7.unpinned, T.keep _ _ _ st8 fun b hb o e => (I7.pin (b, o) (List.mem_append_right _ (List.mem_append_right _ (mem_pinsAt hb e)))).1, fun b hb => ?_, w7⟩
        obtain ⟨o, e, d⟩ := T.obj _ _ st8 b hb
        exact (I7.pin (b, o) (List.mem_append_right _ (List.mem_append_right _ (mem_pinsAt hb e)))).2.1
      cases ok with
      | false =>
        rw [if_neg Bool.false_ne_true] at q10
        exact again I10 q10
      | true =>
        rw [if_pos rfl] at q10
        refine thn (he _ _ _ _ _ _ s10 σ9 H10 _ I10 q10) fun v s11 ⟨y, H11, I11, r11, xs, hx, hz, n11⟩ => ?_
        refine thn (mt_append _ s11 σ9 H11 (.ref s2.heap.objs.size) [y] (.ref s2.heap.objs.size) [v] (fun _ H' => Nx σ9 H') I11 rfl (.cons r11 .nil) ⟨_, xs, y, rfl, rfl, hx, hz, n11⟩) fun _ s12 ⟨_, H12, I12, _, n12⟩ => ?_
        exact again I12 n12
  exact codeAny_compStart_list (loop _ rfl) (T.self _ _ _ _ _ st4 (loop _ rfl))
theorem ps_setF {elt tg iter : Expr} {ifs : List Expr} {pos pos' pos2 : Pos} {wi : TI} {g : TG} {tt : TT} {te : TE} {i : Nat} {x : Str} (cs : CompF X N scope cl jx) (hc : X.calm = true) (hN : X.N.Nodup) (hix : X.N[i]? = some x) (hx : X.env.scope.names.lookup x = some .local) (hi : PI X tg iter wi)
    (hg : ∀ C s₀ H₀ ex pn, PG (cxF X N scope cl C s₀ H₀ ex pn) tg g) (ht : ∀ C s₀ H₀ ex pn, PTs (cxF X N scope cl C s₀ H₀ ex pn) ifs tt) (he : ∀ C s₀ H₀ ex pn, PE (cxF X N scope cl C s₀ H₀ ex pn) elt te)
    (hsw : swapsWith (.ListComp elt [⟨tg, iter, ifs, 0⟩] scope pos) (some (.Name x pos')) pos2.line X.env = pure true := by rfl)
    (hs : ∀ x, foldedSetIterable iter X.env x = pure x := by intro _; rfl) : PS X (.Assign [.Name x pos'] (.ListComp elt [⟨tg, iter, ifs, 0⟩] scope pos) pos2) (tAsg (tCompF jx wi g tt te) (gName i)) := by
  intro pins s σ H D I h
  rw [exec_Assign_Name_used _ _ _ _ hsw]
  refine wpAny_bind (wpAny_standAt (wpAny_bind ?_))
  show wpAny _ X.A (do let _ ← comprehension (.ListComp elt [⟨tg, iter, ifs, 0⟩] scope pos) scope X.env _ (newList []) false (eval iter X.env) (some (assign (.Name x pos') X.env))) _ _ s
  have h' : tCompF jx wi g tt te σ H (fun v H' => gName i v σ H' D.nx) := h
  refine wpAny_bind (thn (comp_core (use := some (assign (.Name x pos') X.env)) (Q' := fun _ s' => ∃ σ' H', Inv X pins σ' H' s' ∧ D.nx σ' H') cs hc hi hg ht he hs I h' fun s3 H3 fp acc σ6 H6 s7 I3 f3 I7 qn => ?_) fun _ s' q => ?_)
  · have I4 := comp_midF I3 f3 I7
    obtain ⟨m, hm, _⟩ := I7.loc
    refine wpAny_assign_Name (store_ok2 I4 hN hix (.inl hx) (v := .ref acc) rfl (fun s8 I8 ⟨a, hsb, ha⟩ => ?_) (.inr hx))
    have na : s3.heap.objs.size ≠ a := by
      rcases ha with rfl | ha
      · exact Nat.ne_of_gt I3.lt
      · intro z
        obtain ⟨v, o, ho, _⟩ := I3.cell x a ha
        exact absurd (Heap.lt_size ho) (by rw [z]; exact Nat.lt_irrefl _)
    refine ⟨m, hm.at' fun o e => hsb.extBut _ o na e, fun h' hs' => ⟨_, H6, comp_outF I3 I8 I7.free hs', qn⟩⟩
  · exact wpAny_pure (wpAny_pure q)
/-- no captured names -/
theorem CompF.none (cs : CompScope scope) (N : List Str) : CompF X N scope [] (N.map fun _ => none) where
  kind := cs.kind
  cell := cs.cell
  names := cs.names
  clos := closureFor_none cs.free
  sub := fun x c e => by cases e
  has := fun x hx => by
    have e : relabel scope X.env = scope := by
      unfold relabel
      have z : (scope.names.map fun (n, k) => if (k == NameKind.free && X.env.scope.kind == .function && X.env.kindOf n == some .cell) then (n, NameKind.cell) else (n, k)) = scope.names := by
        have z2 : (scope.names.map fun (n, k) => if (k == NameKind.free && X.env.scope.kind == .function && X.env.kindOf n == some .cell) then (n, NameKind.cell) else (n, k)) = scope.names.map id := List.map_congr_left fun p hp => by
          obtain ⟨n, k⟩ := p
          have q : (k == NameKind.free) = false := by
            have q := cs.free _ hp
            cases k <;> first | rfl | exact absurd rfl q
          simp [q]
        rw [z2, List.map_id]
      rw [z]
    rw [e] at hx
    rcases hx with z | z
    · exact absurd rfl (cs.cell _ (PySem.mem_of_lookup z))
    · exact absurd rfl (cs.free _ (PySem.mem_of_lookup z))
  len := by rw [List.length_map]
  free := fun i j x e _ => by
    rw [List.getElem?_map] at e
    cases h : N[i]? with
    | none => rw [h] at e; cases e
    | some y => rw [h] at e; cases e
theorem compF_list {K : PySem.W.Frag} {a acc : Addr} {xs : List V} {g : TG} {tt : TT} {te : TE} {σ0 : L2.St} {H : Hp} {Q : VK} (Pv : Nat → L2.St → Hp → Prop) (h0 : Pv 0 σ0 H) (hl : ∀ i σ H, i ≤ xs.length → Pv i σ H → SqL K H a xs)
    (hs : ∀ i x σ H, xs[i]? = some x → Pv i σ H → g x σ H fun σ2 H2 => tt σ2 H2 fun b H3 => if b = true then te σ2 H3 fun v H4 => ∃ ys, H4 acc = some (.lst ys) ∧ ys.length < sizeLine ∧ Pv (i + 1) σ2 (upd H4 acc (.lst (ys ++ [v]))) else Pv (i + 1) σ2 H3)
    (hd : ∀ σ H, Pv xs.length σ H → Q (.ref acc) H) : tTurnsF (Itl K a) acc g tt te σ0 H Q := by
  refine ⟨fun i m σ H => m = xs.length - i ∧ i ≤ xs.length ∧ Pv i σ H, ⟨xs.length, by simp, Nat.zero_le _, h0⟩, ?_⟩
  rintro i m σ H ⟨rfl, hi, p⟩
  have q := hl i σ H hi p
  by_cases hlt : i < xs.length
  · refine .inr ⟨⟨xs, xs[i], q, by simp [hlt]⟩, Pv (i + 1), fun σ' H' p' => ⟨xs.length - (i + 1), by omega, rfl, hlt, p'⟩, fun x H' y => ?_⟩
    obtain ⟨e, y⟩ := y
    subst e
    exact hs i x σ _ (y xs q) p
  · have e : i = xs.length := by omega
    subst e
    exact .inl ⟨⟨xs, q, Nat.le_refl _⟩, hd σ H p⟩
theorem compF_range {lo : Int} {k : Nat} {acc : Addr} {g : TG} {tt : TT} {te : TE} {σ0 : L2.St} {H : Hp} {Q : VK} (Pv : Nat → L2.St → Hp → Prop) (h0 : Pv 0 σ0 H)
    (hs : ∀ i σ H, i < k → Pv i σ H → g (.int (lo + i)) σ H fun σ2 H2 => tt σ2 H2 fun b H3 => if b = true then te σ2 H3 fun v H4 => ∃ ys, H4 acc = some (.lst ys) ∧ ys.length < sizeLine ∧ Pv (i + 1) σ2 (upd H4 acc (.lst (ys ++ [v]))) else Pv (i + 1) σ2 H3)
    (hd : ∀ σ H, Pv k σ H → Q (.ref acc) H) : tTurnsF (Itr lo k) acc g tt te σ0 H Q := by
  refine ⟨fun i m σ H => m = k - i ∧ i ≤ k ∧ Pv i σ H, ⟨k, by simp, Nat.zero_le _, h0⟩, ?_⟩
  rintro i m σ H ⟨rfl, hi, p⟩
  by_cases hlt : i < k
  · refine .inr ⟨hlt, Pv (i + 1), fun σ' H' p' => ⟨k - (i + 1), by omega, rfl, hlt, p'⟩, fun x H' y => ?_⟩
    obtain ⟨e, y⟩ := y
    subst e y
    exact hs i σ _ hlt p
  · have e : i = k := by omega
    subst e
    exact .inl ⟨Nat.le_refl _, hd σ H p⟩
end
section
variable {X : Cx} {N : List Str} {scope : Scope} {cl : List (Str × Addr)} {C : Addr} {s₀ : Shared} {H₀ : Hp} {ex : List Addr} {pn : List (Addr × Obj)}
theorem piF_list {tg l : Expr} {tl : TE} (hl : PE (cxF X N scope cl C s₀ H₀ ex pn) l tl) : PI (cxF X N scope cl C s₀ H₀ ex pn) tg l (iList X.K tl) := pi_list hl
end
theorem closureFor_cells {scope : Scope} {env : Env} (h : ∀ p ∈ scope.names, p.2 = .free → ∃ c, env.cells.lookup p.1 = some c) :
    ∃ cl, closureFor scope env = pure cl ∧ (∀ x c, cl.lookup x = some c → env.cells.lookup x = some c) ∧ (∀ p ∈ scope.names, p.2 = .free → ∃ c, cl.lookup p.1 = some c) := by
  unfold closureFor
  have key : ∀ (l : List (Str × NameKind)) (cs : List (Str × Addr)), (∀ p ∈ l, p.2 = .free → ∃ c, env.cells.lookup p.1 = some c) → (∀ x c, cs.lookup x = some c → env.cells.lookup x = some c) →
      ∃ cl, (forIn l cs (fun p r => if (p.2 == NameKind.free) = true then do let c ← cellOf env p.1; pure (ForInStep.yield ((p.1, c) :: r)) else pure (ForInStep.yield r)) : Sem (List (Str × Addr))) = pure cl ∧ (∀ x c, cl.lookup x = some c → env.cells.lookup x = some c) ∧ (∀ p ∈ l, p.2 = .free → ∃ c, cl.lookup p.1 = some c) ∧ (∀ x c, cs.lookup x = some c → ∃ c, cl.lookup x = some c) := by
    intro l
    induction l with
    | nil => intro cs _ hcs; exact ⟨cs, rfl, hcs, (fun p hp => by cases hp), fun x c e => ⟨c, e⟩⟩
    | cons p l ih =>
      intro cs hl hcs
      rw [List.forIn_cons]
      by_cases hp : p.2 = .free
      · obtain ⟨c, hc⟩ := hl p List.mem_cons_self hp
        have e1 : (p.2 == NameKind.free) = true := by rw [hp]; rfl
        have e2 : cellOf env p.1 = pure c := by
          unfold cellOf
          rw [hc]
        rw [if_pos e1, e2]
        simp only [pure_bind]
        obtain ⟨cl, h1, h2, h3, h4⟩ := ih ((p.1, c) :: cs) (fun q hq => hl q (List.mem_cons_of_mem _ hq)) (fun x d e => by
          rw [List.lookup_cons] at e
          cases hx : x == p.1 with
          | true =>
            rw [hx] at e
            cases e
            rw [eq_of_beq hx]
            exact hc
          | false =>
            rw [hx] at e
            exact hcs x d e)
        refine ⟨cl, h1, h2, fun q hq hf => ?_, fun x d e => ?_⟩
        · rcases List.mem_cons.mp hq with rfl | hq
          · exact h4 q.1 c (by rw [List.lookup_cons]; simp)
          · exact h3 q hq hf
        · cases hx : x == p.1 with
          | true => exact h4 x c (by rw [List.lookup_cons, hx])
          | false => exact h4 x d (by rw [List.lookup_cons, hx]; exact e)
      · have e1 : ¬ (p.2 == NameKind.free) = true := fun z => hp (eq_of_beq z)
        rw [if_neg e1]
        simp only [pure_bind]
        obtain ⟨cl, h1, h2, h3, h4⟩ := ih cs (fun q hq => hl q (List.mem_cons_of_mem _ hq)) hcs
        refine ⟨cl, h1, h2, fun q hq hf => ?_, h4⟩
        rcases List.mem_cons.mp hq with rfl | hq
        · exact absurd hf hp
        · exact h3 q hq hf
  obtain ⟨cl, h1, h2, h3, _⟩ := key scope.names [] h (fun x c e => by cases e)
  refine ⟨cl, ?_, h2, h3⟩
  rw [← h1]
  simp only [bind_pure]

/-! ### the closure found by the context itself -/
theorem lookup_relabel {env : Env} : ∀ {names : List (Str × NameKind)} {x : Str} {k : NameKind}, names.lookup x = some k →
    (names.map fun (n, k) => if (k == NameKind.free && env.scope.kind == .function && env.kindOf n == some .cell) then (n, NameKind.cell) else (n, k)).lookup x = some (if (k == NameKind.free && env.scope.kind == .function && env.kindOf x == some .cell) then NameKind.cell else k)
  | [], _, _, h => by cases h
  | (n, k') :: r, x, k, h => by
    rw [List.map_cons]
    by_cases hx : (x == n) = true
    · have e : x = n := eq_of_beq hx
      subst e
      rw [List.lookup_cons, hx] at h
      cases h
      by_cases hc : (k' == NameKind.free && env.scope.kind == .function && env.kindOf x == some .cell) = true
      · show List.lookup x ((if (k' == NameKind.free && env.scope.kind == .function && env.kindOf x == some .cell) = true then (x, NameKind.cell) else (x, k')) :: _) = _
        rw [if_pos hc, if_pos hc, List.lookup_cons, hx]
      · show List.lookup x ((if (k' == NameKind.free && env.scope.kind == .function && env.kindOf x == some .cell) = true then (x, NameKind.cell) else (x, k')) :: _) = _
        rw [if_neg hc, if_neg hc, List.lookup_cons, hx]
    · have hf : (x == n) = false := by simpa using hx
      rw [List.lookup_cons, hf] at h
      have ih := lookup_relabel (env := env) h
      show List.lookup x ((if (k' == NameKind.free && env.scope.kind == .function && env.kindOf n == some .cell) = true then (n, NameKind.cell) else (n, k')) :: _) = _
      by_cases hc : (k' == NameKind.free && env.scope.kind == .function && env.kindOf n == some .cell) = true
      · rw [if_pos hc, List.lookup_cons, hf]; exact ih
      · rw [if_neg hc, List.lookup_cons, hf]; exact ih
theorem lookup_relabel_none {env : Env} : ∀ {names : List (Str × NameKind)} {x : Str}, names.lookup x = none →
    (names.map fun (n, k) => if (k == NameKind.free && env.scope.kind == .function && env.kindOf n == some .cell) then (n, NameKind.cell) else (n, k)).lookup x = none
  | [], _, _ => rfl
  | (n, k') :: r, x, h => by
    rw [List.map_cons]
    have hf : (x == n) = false := by
      cases hx : x == n with
      | false => rfl
      | true => rw [List.lookup_cons, hx] at h; cases h
    rw [List.lookup_cons, hf] at h
    have ih := lookup_relabel_none (env := env) h
    show List.lookup x ((if (k' == NameKind.free && env.scope.kind == .function && env.kindOf n == some .cell) = true then (n, NameKind.cell) else (n, k')) :: _) = _
    by_cases hc : (k' == NameKind.free && env.scope.kind == .function && env.kindOf n == some .cell) = true
    · rw [if_pos hc, List.lookup_cons, hf]; exact ih
    · rw [if_neg hc, List.lookup_cons, hf]; exact ih
structure CompG (X : Cx) (N : List Str) (scope : Scope) (jx : List (Option Nat)) : Prop where
  kind : scope.kind = .function
  cell : ∀ x ∈ scope.names, x.2 ≠ .cell
  names : ∀ x ∈ scope.names, x.2 = .local → scope.names.lookup x.1 = some .local
  xk : X.env.scope.kind = .function
  fr : ∀ x ∈ scope.names, x.2 = .free → X.env.scope.names.lookup x.1 = some .cell
  len : jx.length = N.length
  free : ∀ (i j : Nat) (x : Str), jx[i]? = some (some j) → N[i]? = some x → X.N[j]? = some x ∧ scope.names.lookup x = some .free
def freeOk (NX N : List Str) (scope : Scope) (jx : List (Option Nat)) : Bool := (jx.zip N).all fun p => match p.1 with
  | none => true
  | some j => decide (NX[j]? = some p.2) && decide (scope.names.lookup p.2 = some .free)
theorem compG {X : Cx} {N NX : List Str} {scope sc : Scope} {jx : List (Option Nat)} (e1 : X.env.scope = sc) (e2 : X.N = NX) (k : scope.kind = .function) (h1 : ∀ x ∈ scope.names, x.2 ≠ .cell) (h2 : ∀ x ∈ scope.names, x.2 = .local → scope.names.lookup x.1 = some .local)
    (h3 : sc.kind = .function) (h4 : ∀ x ∈ scope.names, x.2 = .free → sc.names.lookup x.1 = some .cell) (h5 : jx.length = N.length) (h6 : freeOk NX N scope jx = true) : CompG X N scope jx := by
  refine ⟨k, h1, h2, by rw [e1]; exact h3, by rw [e1]; exact h4, h5, fun i j x a b => ?_⟩
  rw [e2]
  unfold freeOk at h6
  rw [List.all_eq_true] at h6
  have z := h6 (some j, x) (List.mem_of_getElem? (i := i) (by rw [List.getElem?_zip_eq_some]; exact ⟨a, b⟩))
  simp only [Bool.and_eq_true, decide_eq_true_eq] at z
  exact z
section
variable {X : Cx} {N : List Str} {scope : Scope} {jx : List (Option Nat)}
theorem CompG.toF {pins : List (Addr × Obj)} {σ : L2.St} {H : Hp} {s : Shared} (cg : CompG X N scope jx) (I : Inv X pins σ H s) : ∃ cl, CompF X N scope cl jx := by
  obtain ⟨cl, h1, h2, h3⟩ := closureFor_cells (scope := scope) (env := X.env) fun p hp hf => I.ok.has p.1 (.inl (cg.fr p hp hf))
  have rel : ∀ x, scope.names.lookup x = some .free → (relabel scope X.env).names.lookup x = some .cell := fun x hx => by
    have z := lookup_relabel (env := X.env) hx
    have c : (NameKind.free == NameKind.free && X.env.scope.kind == .function && X.env.kindOf x == some .cell) = true := by
      have q : X.env.kindOf x = some .cell := cg.fr (x, .free) (PySem.mem_of_lookup hx) rfl
      rw [cg.xk, q]
      rfl
    rw [if_pos c] at z
    exact z
  refine ⟨cl, cg.kind, cg.cell, cg.names, h1, h2, fun x hx => ?_, cg.len, fun i j x a b => ?_⟩
  · cases e : scope.names.lookup x with
    | none =>
      have z : (relabel scope X.env).names.lookup x = none := lookup_relabel_none (env := X.env) e
      rw [z] at hx
      rcases hx with q | q <;> cases q
    | some k =>
      by_cases hk : k = .free
      · subst hk
        exact h3 (x, .free) (PySem.mem_of_lookup e) rfl
      · have z : (relabel scope X.env).names.lookup x = some (if (k == NameKind.free && X.env.scope.kind == .function && X.env.kindOf x == some .cell) then NameKind.cell else k) := lookup_relabel (env := X.env) e
        have c : (k == NameKind.free) = false := by
          cases q : k == NameKind.free with
          | false => rfl
          | true => exact absurd (eq_of_beq q) hk
        rw [c] at z
        simp only [Bool.false_and, Bool.false_eq_true, if_false] at z
        rw [z] at hx
        rcases hx with q | q
        · cases q
          exact absurd rfl (cg.cell (x, .cell) (PySem.mem_of_lookup e))
        · cases q
          exact absurd rfl hk
  · obtain ⟨f1, f2⟩ := cg.free i j x a b
    exact ⟨f1, cg.fr (x, .free) (PySem.mem_of_lookup f2) rfl, rel x f2⟩
theorem ps_setG {elt tg iter : Expr} {ifs : List Expr} {pos pos' pos2 : Pos} {wi : TI} {g : TG} {tt : TT} {te : TE} {i : Nat} {x : Str} (cg : CompG X N scope jx) (hc : X.calm = true) (hN : X.N.Nodup) (hix : X.N[i]? = some x) (hx : X.env.scope.names.lookup x = some .local) (hi : PI X tg iter wi)
    (hg : ∀ cl C s₀ H₀ ex pn, PG (cxF X N scope cl C s₀ H₀ ex pn) tg g) (ht : ∀ cl C s₀ H₀ ex pn, PTs (cxF X N scope cl C s₀ H₀ ex pn) ifs tt) (he : ∀ cl C s₀ H₀ ex pn, PE (cxF X N scope cl C s₀ H₀ ex pn) elt te)
    (hsw : swapsWith (.ListComp elt [⟨tg, iter, ifs, 0⟩] scope pos) (some (.Name x pos')) pos2.line X.env = pure true := by rfl)
    (hs : ∀ x, foldedSetIterable iter X.env x = pure x := by intro _; rfl) : PS X (.Assign [.Name x pos'] (.ListComp elt [⟨tg, iter, ifs, 0⟩] scope pos) pos2) (tAsg (tCompF jx wi g tt te) (gName i)) := by
  intro pins s σ H D I h
  obtain ⟨cl, cs⟩ := cg.toF I
  exact ps_setF cs hc hN hix hx hi (hg cl) (ht cl) (he cl) hsw hs pins s σ H D I h
end
end InkX

namespace InkX
open PySem PySem.Spec PyProof.Rows L2
/-! ### two clauses, with captured names -/
section
variable {X : Cx} {N : List Str} {scope : Scope} {cl : List (Str × Addr)} {jx : List (Option Nat)}
def tTurnsF2 (J : It) (acc : Addr) (g : TG) (tt : TT) (wi2 : TI) (g2 : TG) (tt2 : TT) (te : TE) (σ0 : L2.St) (H : Hp) (Q : VK) : Prop :=
  ∃ W : Nat → Nat → L2.St → Hp → Prop, (∃ m, W 0 m σ0 H) ∧ ∀ i m σ H, W i m σ H →
    (J.stop i H ∧ Q (.ref acc) H) ∨ (J.go i H ∧ ∃ Nx : L2.St → Hp → Prop, (∀ σ' H', Nx σ' H' → ∃ m', m' < m ∧ W (i + 1) m' σ' H') ∧ ∀ x H', J.yld i H x H' → g x σ H' fun σ2 H2 => tt σ2 H2 fun b H3 =>
      if b = true then tInner wi2 acc g2 tt2 te σ2 H3 Nx else Nx σ2 H3)
def tCompF2 (jx : List (Option Nat)) (wi : TI) (g : TG) (tt : TT) (wi2 : TI) (g2 : TG) (tt2 : TT) (te : TE) : TE := fun σ H Q => wi σ H fun J H1 => ∀ acc, H1 acc = none → tTurnsF2 J acc g tt wi2 g2 tt2 te (startF jx σ) (upd H1 acc (.lst [])) Q
theorem comp_core2 {elt tg iter tg2 iter2 : Expr} {ifs ifs2 : List Expr} {pos pos' : Pos} {wi wi2 : TI} {g g2 : TG} {tt tt2 : TT} {te : TE} (cs : CompF X N scope cl jx) (hc : X.calm = true) (hi : PI X tg iter wi)
    (hg : ∀ C s₀ H₀ ex pn, PG (cxF X N scope cl C s₀ H₀ ex pn) tg g) (ht : ∀ C s₀ H₀ ex pn, PTs (cxF X N scope cl C s₀ H₀ ex pn) ifs tt) (hi2 : ∀ C s₀ H₀ ex pn, PI (cxF X N scope cl C s₀ H₀ ex pn) tg2 iter2 wi2) (hg2 : ∀ C s₀ H₀ ex pn, PG (cxF X N scope cl C s₀ H₀ ex pn) tg2 g2) (ht2 : ∀ C s₀ H₀ ex pn, PTs (cxF X N scope cl C s₀ H₀ ex pn) ifs2 tt2) (he : ∀ C s₀ H₀ ex pn, PE (cxF X N scope cl C s₀ H₀ ex pn) elt te)
    (hs : ∀ x, foldedSetIterable iter X.env x = pure x) (hs2 : ∀ (env : Env) x, foldedSetIterable iter2 env x = pure x) {use : Option (Value → Sem Unit)} {Q' : Value → Shared → Prop} {Q : VK} {pins : List (Addr × Obj)} {s : Shared} {σ : L2.St} {H : Hp} (I : Inv X pins σ H s) (h : tCompF2 jx wi g tt wi2 g2 tt2 te σ H Q)
    (fin : ∀ (s3 : Shared) (H3 : Hp) (fp : List Addr) (acc : Addr) (σ6 : L2.St) (H6 : Hp) (s7 : Shared), Inv X pins σ H3 s3 → (∀ b ∈ fp, FpOk X pins H3 b) → Inv (cxF X N scope cl s3.heap.objs.size s3 H3 fp (X.pn ++ pins)) [] σ6 H6 s7 → Q (.ref acc) H6 →
      compPost (model X.prog X.w) X.A X.xe use Q' (.ref acc) s3.heap.objs.size (.ok .next) s7) :
    wpAny (model X.prog X.w) X.A (comprehension (.ListComp elt [⟨tg, iter, ifs, 0⟩, ⟨tg2, iter2, ifs2, 0⟩] scope pos) scope X.env pos' (newList []) false (eval iter X.env) use) Q' X.xe s := by
  refine wpAny_comprehension_free (use := use) rfl hs cs.clos cs.kind cs.names (thn (hi pins s σ H _ I h) fun v s1 h1 => thn h1 fun itv s2 h2 => ?_)
  obtain ⟨it, fp, tn, J, H2, e, I2, T, st2, f2, q⟩ := h2
  subst e
  refine wpAny_newObj_type (hd := by size_fits) ?_
  have hacc : H2 s2.heap.objs.size = none := I2.hok.fresh (Nat.le_refl _)
  have I3 : Inv X pins σ (upd H2 s2.heap.objs.size (.lst [])) { s2 with heap := s2.heap.push { cls := .type "list", data := .seq ([] : List Value).toArray }, toks := s2.toks } := I2.lnew (ys := []) .nil (Nat.zero_le _)
  have ftn : ∀ b ∈ fp, b < s2.heap.objs.size := fun b hb => by
    obtain ⟨o, ho, _⟩ := T.obj _ _ st2 b hb
    exact Heap.lt_size ho
  have f3 : ∀ b ∈ fp, FpOk X pins (upd H2 s2.heap.objs.size (.lst [])) b := fun b hb => ⟨by rw [upd_ne (Nat.ne_of_lt (ftn b hb))]; exact (f2 b hb).1, (f2 b hb).2⟩
  have k3 : ∀ b o, s2.heap.get? b = some o → (s2.heap.push { cls := .type "list", data := .seq ([] : List Value).toArray }).get? b = some o := fun b o e => Heap.get?_push_of_some _ e
  have q3 := q _ hacc
  generalize hs3 : ({ s2 with heap := s2.heap.push { cls := .type "list", data := .seq ([] : List Value).toArray }, toks := s2.toks } : Shared) = s3 at I3
  generalize hH3 : upd H2 s2.heap.objs.size (.lst []) = H3 at I3 f3 q3
  have hh3 : s3.heap = s2.heap.push { cls := .type "list", data := .seq ([] : List Value).toArray } := by rw [← hs3]
  have ft3 : ∀ b ∈ fp, b < s3.heap.objs.size := fun b hb => by rw [hh3, Heap.size_push]; exact Nat.lt_succ_of_lt (ftn b hb)
  have st3 : tn 0 s3.heap := T.keep _ _ _ st2 fun b _ o e => by rw [hh3]; exact k3 b o e
  show wpAny _ _ _ _ _ s3
  refine wpAny_newFunctionEnv cs.cell (fun y hy => by simp at hy) (fun h₁ hns hsb => ?_) cs.kind
  have kh : ∀ b o, s3.heap.get? b = some o → h₁.get? b = some o := fun b o e => hsb.extBut _ _ (Nat.ne_of_lt (Heap.lt_size e)) (Heap.get?_push_of_some _ e)
  have J0 : Inv (cxF X N scope cl s3.heap.objs.size s3 H3 fp (X.pn ++ pins)) [] (startF jx σ) H3 { s3 with heap := h₁, toks := s3.toks + ([] : List (Str × Value)).length } := comp_startF cs I3 f3 ft3 hns kh
  have st4 : tn 0 h₁ := T.keep _ _ _ st3 fun b _ o e => kh b o e
  obtain ⟨W, ⟨m0, w0⟩, turn⟩ := q3
  have stat : ∀ {H' : Hp}, (∀ b ∈ fp, H' b = none) → ∀ b ∈ fp, FpOk (cxF X N scope cl s3.heap.objs.size s3 H3 fp (X.pn ++ pins)) [] H' b := fun hn b hb => by
    refine ⟨hn b hb, Nat.ne_of_lt (ft3 b hb), fun z => ?_, .inl hb, fun x c e => (f3 b hb).2.2.2.2.1 x c (cs.sub x c e), fun p hp => ?_⟩
    · rcases List.mem_cons.mp (I3.stkSub b z) with e | e
      · exact (f3 b hb).2.1 e
      · exact (f3 b hb).2.2.1 e
    · have hp' : p ∈ X.pn ++ pins := by
        have z : p ∈ (X.pn ++ pins) ++ [] := hp
        simpa using z
      exact (f3 b hb).2.2.2.2.2 p hp'
  have loop : ∀ s5 : Shared, s5 = { s3 with heap := h₁, toks := s3.toks + ([] : List (Str × Value)).length } → codeAny (model X.prog X.w) X.A (.compLoop (.ListComp elt [⟨tg, iter, ifs, 0⟩, ⟨tg2, iter2, ifs2, 0⟩] scope pos) 0 (.ref it) (.ref s2.heap.objs.size) (cxF X N scope cl s3.heap.objs.size s3 H3 fp (X.pn ++ pins)).env)
      (compPost (model X.prog X.w) X.A X.xe use Q' (.ref s2.heap.objs.size) s3.heap.objs.size) s5 := by
    rintro s5 rfl
    refine loopOut (fun n s' => ∃ i σ' H', Inv (cxF X N scope cl s3.heap.objs.size s3 H3 fp (X.pn ++ pins)) [] σ' H' s' ∧ tn i s'.heap ∧ (∀ b ∈ fp, H' b = none) ∧ W i n σ' H') (hs2 _) ?_ m0 ⟨0, _, H3, J0, st4, fun b hb => (f3 b hb).1, w0⟩
    rintro n s6 ⟨i, σ6, H6, I6, st6, fr6, w6⟩
    rcases turn i n σ6 H6 w6 with ⟨stop, qn⟩ | ⟨go, Nx, hN, step⟩
    · refine thn (T.done (cxF X N scope cl s3.heap.objs.size s3 H3 fp (X.pn ++ pins)) rfl rfl rfl hc i [] s6 σ6 H6 _ I6 (stat fr6) st6 stop) fun r s7 ⟨hr, I7⟩ => ?_
      subst hr
      exact fin s3 H3 fp _ σ6 H6 s7 I3 f3 I7 qn
    · refine thn (T.item (cxF X N scope cl s3.heap.objs.size s3 H3 fp (X.pn ++ pins)) rfl rfl rfl hc i [] s6 σ6 H6 _ I6 (stat fr6) st6 go) fun r s7 ⟨u, hr, h7⟩ => ?_
      subst hr
      refine thn h7 fun _ s8 ⟨x, H8, I8, r8, y8, st8, fr8⟩ => ?_
      have I8' := I8.pinned (stat fr8) (T.obj _ _ st8)
      refine thn (hg _ _ _ _ _ _ s8 σ6 H8 x u _ I8' r8 (step x H8 y8)) fun _ s9 ⟨σ9, H9, I9, q9⟩ => ?_
      refine thn (ht _ _ _ _ _ _ s9 σ9 H9 _ I9 q9) fun ok s10 ⟨H10, I10, q10⟩ => ?_
      have again : ∀ {σ7 : L2.St} {H7 : Hp} {s11 : Shared}, Inv (cxF X N scope cl s3.heap.objs.size s3 H3 fp (X.pn ++ pins)) ([] ++ pinsAt fp s8.heap) σ7 H7 s11 → Nx σ7 H7 → ∃ m, m < n ∧ ∃ i σ' H', Inv (cxF X N scope cl s3.heap.objs.size s3 H3 fp (X.pn ++ pins)) [] σ' H' s11 ∧ tn i s11.heap ∧ (∀ b ∈ fp, H' b = none) ∧ W i m σ' H' := fun {σ7 H7 s11} I7 n7 => by
        obtain ⟨m', hm, w7⟩ := hN σ7 H7 n7
        refine ⟨m', hm, i + 1, σ7, H7, I7.unpinned, T.keep _ _ _ st8 fun b hb o e => (I7.pin (b, o) (List.mem_append_right _ (List.mem_append_right _ (mem_pinsAt hb e)))).1, fun b hb => ?_, w7⟩
        obtain ⟨o, e, d⟩ := T.obj _ _ st8 b hb
        exact (I7.pin (b, o) (List.mem_append_right _ (List.mem_append_right _ (mem_pinsAt hb e)))).2.1
      cases ok with
      | false =>
        rw [if_neg Bool.false_ne_true] at q10
        exact again I10 q10
      | true =>
        rw [if_pos rfl] at q10
        refine thn (inner_run (Y := cxF X N scope cl s3.heap.objs.size s3 H3 fp (X.pn ++ pins)) hc rfl (hi2 _ _ _ _ _) (hg2 _ _ _ _ _) (ht2 _ _ _ _ _) (he _ _ _ _ _) I10 q10) fun x s11 h11 => thn h11 fun it2 s12 h12 => codeAny_mono h12 fun r s13 ⟨hr, σ', H', I13, n13⟩ => ⟨hr, again I13 n13⟩
  exact codeAny_compStart_list (loop _ rfl) (T.self _ _ _ _ _ st4 (loop _ rfl))
theorem pe_compG2 {elt tg iter tg2 iter2 : Expr} {ifs ifs2 : List Expr} {pos : Pos} {wi wi2 : TI} {g g2 : TG} {tt tt2 : TT} {te : TE} (cg : CompG X N scope jx) (hc : X.calm = true) (hi : PI X tg iter wi)
    (hg : ∀ cl C s₀ H₀ ex pn, PG (cxF X N scope cl C s₀ H₀ ex pn) tg g) (ht : ∀ cl C s₀ H₀ ex pn, PTs (cxF X N scope cl C s₀ H₀ ex pn) ifs tt)
    (hi2 : ∀ cl C s₀ H₀ ex pn, PI (cxF X N scope cl C s₀ H₀ ex pn) tg2 iter2 wi2) (hg2 : ∀ cl C s₀ H₀ ex pn, PG (cxF X N scope cl C s₀ H₀ ex pn) tg2 g2) (ht2 : ∀ cl C s₀ H₀ ex pn, PTs (cxF X N scope cl C s₀ H₀ ex pn) ifs2 tt2) (he : ∀ cl C s₀ H₀ ex pn, PE (cxF X N scope cl C s₀ H₀ ex pn) elt te)
    (hs : ∀ x, foldedSetIterable iter X.env x = pure x := by intro _; rfl) (hs2 : ∀ (env : Env) x, foldedSetIterable iter2 env x = pure x := by intro _ _; rfl) :
    PE X (.ListComp elt [⟨tg, iter, ifs, 0⟩, ⟨tg2, iter2, ifs2, 0⟩] scope pos) (tCompF2 jx wi g tt wi2 g2 tt2 te) := by
  intro pins s σ H Q I h
  obtain ⟨cl, cs⟩ := cg.toF I
  rw [eval_ListComp]
  refine comp_core2 (use := none) cs hc hi (hg cl) (ht cl) (hi2 cl) (hg2 cl) (ht2 cl) (he cl) hs hs2 I h fun s3 H3 fp acc σ6 H6 s7 I3 f3 I7 qn => ?_
  obtain ⟨m, hm, _⟩ := I7.loc
  exact ⟨m, hm, fun h' hsb => ⟨.ref acc, H6, comp_outF I3 (comp_midF I3 f3 I7) I7.free hsb, rfl, qn⟩⟩
theorem compF2_list {K : PySem.W.Frag} {a acc : Addr} {xs : List V} {g : TG} {tt : TT} {wi2 : TI} {g2 : TG} {tt2 : TT} {te : TE} {σ0 : L2.St} {H : Hp} {Q : VK} (Pv : Nat → L2.St → Hp → Prop) (h0 : Pv 0 σ0 H) (hl : ∀ i σ H, i ≤ xs.length → Pv i σ H → SqL K H a xs)
    (hs : ∀ i x σ H, xs[i]? = some x → Pv i σ H → g x σ H fun σ2 H2 => tt σ2 H2 fun b H3 => if b = true then tInner wi2 acc g2 tt2 te σ2 H3 (Pv (i + 1)) else Pv (i + 1) σ2 H3)
    (hd : ∀ σ H, Pv xs.length σ H → Q (.ref acc) H) : tTurnsF2 (Itl K a) acc g tt wi2 g2 tt2 te σ0 H Q := by
  refine ⟨fun i m σ H => m = xs.length - i ∧ i ≤ xs.length ∧ Pv i σ H, ⟨xs.length, by simp, Nat.zero_le _, h0⟩, ?_⟩
  rintro i m σ H ⟨rfl, hi, p⟩
  have q := hl i σ H hi p
  by_cases hlt : i < xs.length
  · refine .inr ⟨⟨xs, xs[i], q, by simp [hlt]⟩, Pv (i + 1), fun σ' H' p' => ⟨xs.length - (i + 1), by omega, rfl, hlt, p'⟩, fun x H' y => ?_⟩
    obtain ⟨e, y⟩ := y
    subst e
    exact hs i x σ _ (y xs q) p
  · have e : i = xs.length := by omega
    subst e
    exact .inl ⟨⟨xs, q, Nat.le_refl _⟩, hd σ H p⟩
theorem inner_list {K : PySem.W.Frag} {a acc : Addr} {xs : List V} {g : TG} {tt : TT} {te : TE} {σ : L2.St} {H : Hp} {Nx : L2.St → Hp → Prop} (Pv : Nat → L2.St → Hp → Prop) (h0 : Pv 0 σ H) (hl : ∀ i σ H, i ≤ xs.length → Pv i σ H → SqL K H a xs)
    (hs : ∀ i x σ H, xs[i]? = some x → Pv i σ H → g x σ H fun σ2 H2 => tt σ2 H2 fun b H3 => if b = true then te σ2 H3 fun v H4 => ∃ ys, H4 acc = some (.lst ys) ∧ ys.length < sizeLine ∧ Pv (i + 1) σ2 (upd H4 acc (.lst (ys ++ [v]))) else Pv (i + 1) σ2 H3)
    (hd : ∀ σ H, Pv xs.length σ H → Nx σ H) : ∃ W : Nat → Nat → L2.St → Hp → Prop, (∃ m, W 0 m σ H) ∧ ∀ i m σ H, W i m σ H →
    ((Itl K a).stop i H ∧ Nx σ H) ∨ ((Itl K a).go i H ∧ ∃ N2 : L2.St → Hp → Prop, (∀ σ' H', N2 σ' H' → ∃ m', m' < m ∧ W (i + 1) m' σ' H') ∧ ∀ x H', (Itl K a).yld i H x H' → g x σ H' fun σ2 H2 => tt σ2 H2 fun b H3 =>
      if b = true then te σ2 H3 fun v H4 => ∃ xs, H4 acc = some (.lst xs) ∧ xs.length < sizeLine ∧ N2 σ2 (upd H4 acc (.lst (xs ++ [v]))) else N2 σ2 H3) := by
  refine ⟨fun i m σ H => m = xs.length - i ∧ i ≤ xs.length ∧ Pv i σ H, ⟨xs.length, by simp, Nat.zero_le _, h0⟩, ?_⟩
  rintro i m σ H ⟨rfl, hi, p⟩
  have q := hl i σ H hi p
  by_cases hlt : i < xs.length
  · refine .inr ⟨⟨xs, xs[i], q, by simp [hlt]⟩, Pv (i + 1), fun σ' H' p' => ⟨xs.length - (i + 1), by omega, rfl, hlt, p'⟩, fun x H' y => ?_⟩
    obtain ⟨e, y⟩ := y
    subst e
    exact hs i x σ _ (y xs q) p
  · have e : i = xs.length := by omega
    subst e
    exact .inl ⟨⟨xs, q, Nat.le_refl _⟩, hd σ H p⟩
end
end InkX

namespace InkX
open PySem PySem.Spec PyProof.Rows L2
open AutoSeq1 (wpAny_loadPart')
section
variable {prog : Program} {w : World} {A : Around} {E : Value → Shared → Prop} {s : Shared} {κ : Type} [DecidableEq κ] {knd : KeyKind prog w κ}
theorem hint_dict {d : Addr} {Q : Bool → Shared → Prop} (hT : s.TypeIs (.ref d) "dict") (h : Q false s) : wpAny (model prog w) A (Builtin.List.listLengthHint (.ref d)) Q E s := by
  unfold Builtin.List.listLengthHint
  refine wpAny_bind (wpAny_specialOf hT F.slot_dict_len.lookup ?_)
  generalize hid : ("dict.__len__" : String) = id0
  wp_delta
  rw [show splitId id0 = some ("dict", "__len__") by subst hid; decide +kernel]
  subst hid
  refine wpAny_bind (wpAny_isInstance (T := "dict") (b := true) hT (by rw [isSubtype_type]; kernel_rfl) ?_)
  refine wpAny_ite_split (fun q => absurd q (by decide)) fun _ => ?_
  refine wpAny_ite_split (fun _ => ?_) fun q => absurd (by decide +kernel) q
  exact wpAny_bind (wpAny_typeOf hT (wpAny_pure h))
theorem extend_dict {R : Result → Shared → Prop} {d : Addr} {kvs : List (κ × Value)} {ep : Nat} (hh : A.handled = none) (hs : (d == sysModules) = false) (hd : s.heap.DictAt knd d kvs ep) (hlen : kvs.length ≤ sizeLine) (S : Addr) (res : Value) (c₀ : Nat) (hS : s.heap.get? S = some { cls := .type "list", data := .seq #[] c₀ })
    (hR : ∀ h' tk acc' c', (∀ b o, b ≠ S → s.heap.get? b = some o → h'.get? b = some o) → h'.get? S = some { cls := .type "list", dict := none, data := .seq acc' c', slots := #[] } →
      ItemsOf (fun i v => ∃ k x, kvs[i]? = some (k, x) ∧ knd.is k v = true) acc' kvs.length → R (.ok (.ret res)) { s with heap := h', toks := tk }) :
    wpAny (model prog w) A.in1 (Builtin.List.listExtendWith (.ref S) (.ref d) res)
      (fun fin s' => match fin with | .done f => R (.ok f) s' | .again c' => c'.quiet = true ∧ codeAny (model prog w) A c' R s') (fun e s' => R (.error e) s') s := by
  have hT : s.TypeIs (.ref d) "dict" := by
    obtain ⟨o, es, ho, hx, _⟩ := hd
    exact ⟨o, ho, hx.1⟩
  have hSd : S ≠ d := fun e => by
    obtain ⟨o, es, ho, hx, hda, _⟩ := hd
    rw [← e, hS] at ho
    cases ho
    cases hda
  have hSlt : S < s.heap.objs.size := Heap.lt_size hS
  have hdlt : d < s.heap.objs.size := by
    obtain ⟨o, es, ho, _⟩ := hd
    exact Heap.lt_size ho
  have hSI : S ≠ s.heap.objs.size := Nat.ne_of_lt hSlt
  have hdI : d ≠ s.heap.objs.size := Nat.ne_of_lt hdlt
  have W := (Walks.dictKeys (prog := prog) (w := w) (A := A.in1) (knd := knd) hh s.heap.objs.size d hdI kvs ep).toS
  unfold Builtin.List.listExtendWith
  refine wpAny_bind (wpAny_typeOf hT ?_)
  have h1 : Builtin.List.listSameRef (.ref S) (.ref d) = false := by simp [Builtin.List.listSameRef, hSd]
  have h2 : (Value.type "dict" == Value.type "list") = false := by decide
  have h3 : (Value.type "dict" == Value.type "tuple") = false := by decide
  simp only [h1, h2, h3, Bool.or_false, Bool.false_eq_true, if_false]
  refine wpAny_bind (wpAny_pyIter_dict hs hd ?_)
  have hit : (s.heap.push { cls := .type "dict_keyiterator", data := .fields #[.ref d, .int 0 0, .int kvs.length 0, .int ep 0] }).IsKeyIter s.heap.objs.size d 0 kvs.length ep := ⟨_, Heap.get?_push_size _ rfl, rfl, rfl⟩
  have grow : ∀ b o, s.heap.get? b = some o → (s.heap.push { cls := .type "dict_keyiterator", data := .fields #[.ref d, .int 0 0, .int kvs.length 0, .int ep 0] }).get? b = some o := fun b o e => Heap.get?_push_of_some _ e
  generalize s.heap.push { cls := .type "dict_keyiterator", data := .fields #[.ref d, .int 0 0, .int kvs.length 0, .int ep 0] } = g1 at hit grow
  have hT1 : ({ s with heap := g1 } : Shared).TypeIs (.ref d) "dict" := by
    obtain ⟨o, ho, hc⟩ := hT
    exact ⟨o, grow _ _ ho, hc⟩
  refine wpAny_bind (wpAny_holding (hint_dict hT1 ?_))
  refine wpAny_ite_split (fun _ => ?_) fun q => absurd (by decide +kernel) q
  refine wpAny_bind (wpAny_rule (wpAny_bind ?_))
  show wpAny _ A.in1 (updateSeq S (fun z => z.push .none) >>= fun _ => updateSeq S fun z => z.pop) _ _ _
  have g1S := grow _ _ hS
  refine wpAny_bind (wpAny_updateSeq g1S rfl ?_)
  have g2S := Heap.get?_update_self (Obj.mapSeq fun z => z.push Value.none) g1S rfl
  refine wpAny_updateSeq (hz := by seq_fits) g2S rfl ?_
  have g3S := Heap.get?_update_self (Obj.mapSeq fun z => z.pop) g2S rfl
  have oth : ∀ b o, b ≠ S → g1.get? b = some o → ((g1.update S (Obj.mapSeq fun z => z.push Value.none)).update S (Obj.mapSeq fun z => z.pop)).get? b = some o := fun b o nb e =>
    (Heap.get?_update_other _ _ nb.symm).trans ((Heap.get?_update_other _ _ nb.symm).trans e)
  refine wpAny_pure ⟨plainId_quiet F.plain_extend_loop _, codeAny_extend_loopS W hlen S (fun hm => ?_) res kvs.length 0 _ #[] _ rfl (Nat.zero_le _) ⟨hit.at fun o e => oth _ o hSI.symm e, (hd.at' fun o e => oth _ o hSd.symm (grow _ o e))⟩ g3S (ItemsOf.nil _) fun s' acc' c' hm hS' hacc => ?_⟩
  · rcases List.mem_cons.mp hm with e | e
    · exact hSI e
    · exact hSd (List.mem_singleton.mp e)
  · rw [Moved.eq_with hm]
    refine hR s'.heap s'.toks acc' c' (fun b o nb e => hm.heap b o (fun q => ?_) (oth b o nb (grow b o e))) hS' hacc
    rcases List.mem_cons.mp q with z | z
    · exact nb z
    · exact absurd (Heap.lt_size e) (by rw [List.mem_singleton.mp z]; exact Nat.lt_irrefl _)
theorem call_list_dict {Q : Value → Shared → Prop} {d : Addr} {kvs : List (κ × Value)} {ep : Nat} (hh : A.handled = none) (hs : (d == sysModules) = false) (hd : s.heap.DictAt knd d kvs ep) (hlen : kvs.length ≤ sizeLine)
    (hQ : ∀ h' tk acc' c', (∀ b o, s.heap.get? b = some o → h'.get? b = some o) → h'.get? s.heap.objs.size = some { cls := .type "list", dict := none, data := .seq acc' c', slots := #[] } →
      ItemsOf (fun i v => ∃ k x, kvs[i]? = some (k, x) ∧ knd.is k v = true) acc' kvs.length → Q (.ref s.heap.objs.size) { s with heap := h', toks := tk }) :
    wpAny (model prog w) A (call (.type "list") [.ref d]) Q E s := by
  refine callType_codes (Q₁ := fun u s1 => u = .ref s.heap.objs.size ∧ s1 = { s with heap := s.heap.push { cls := .type "list", data := .seq #[] } }) F.called_list (F.typeCall_list_1 _) F.entry_list_init (code_list_new _ ⟨rfl, rfl⟩) fun u s1 e1 => ?_
  obtain ⟨rfl, rfl⟩ := e1
  have hS : (s.heap.push { cls := .type "list", data := .seq #[] }).get? s.heap.objs.size = some { cls := .type "list", data := .seq #[] } := Heap.get?_push_size _ rfl
  have hd1 : (s.heap.push { cls := .type "list", data := .seq #[] }).DictAt knd d kvs ep := hd.at' fun o e => Heap.get?_push_of_some _ e
  have hdn : d ≠ s.heap.objs.size := by
    obtain ⟨o, es, ho, _⟩ := hd
    exact Nat.ne_of_lt (Heap.lt_size ho)
  refine ⟨⟨_, hS, rfl⟩, F.args_list_init_2 _ _, ?_⟩
  show wpAny _ _ (do let old ← Builtin.List.listItems (.ref s.heap.objs.size); Builtin.List.listUpdate (.ref s.heap.objs.size) (fun _ => #[]); letGo old.toList.reverse; Builtin.List.listExtendWith (.ref s.heap.objs.size) (.ref d) .none) _ _ _
  refine wpAny_bind ?_
  unfold Builtin.List.listItems
  refine wpAny_bind (wpAny_seqItems hS rfl (wpAny_pure ?_))
  show wpAny _ _ (updateSeq s.heap.objs.size (fun _ => #[]) >>= fun _ => letGo (#[] : Array Value).toList.reverse >>= fun _ => Builtin.List.listExtendWith (.ref s.heap.objs.size) (.ref d) .none) _ _ _
  refine wpAny_bind (wpAny_updateSeq hS rfl ?_)
  have hS2 := Heap.get?_update_self (Obj.mapSeq fun _ => (#[] : Array Value)) hS rfl
  have oth : ∀ b o, b ≠ s.heap.objs.size → (s.heap.push { cls := .type "list", data := .seq #[] }).get? b = some o → ((s.heap.push { cls := .type "list", data := .seq #[] }).update s.heap.objs.size (Obj.mapSeq fun _ => (#[] : Array Value))).get? b = some o := fun b o nb e => (Heap.get?_update_other _ _ nb.symm).trans e
  refine wpAny_bind (wpAny_letGo ?_)
  refine extend_dict (A := A.in1) (knd := knd) hh hs (hd1.at' fun o e => oth _ o hdn e) hlen s.heap.objs.size .none _ hS2 fun h' tk acc' c' hk hS' hacc => ?_
  exact ⟨rfl, hQ h' tk acc' c' (fun b o e => hk b o (Nat.ne_of_lt (Heap.lt_size e)) (oth b o (Nat.ne_of_lt (Heap.lt_size e)) (Heap.get?_push_of_some _ e))) hS' hacc⟩
end
theorem call_listD {X : Cx} (hc : X.calm = true) : CallR X (.type "list") (fun xs H Q => ∃ (d : Addr) (kvs : List (Key × V)), xs = [.ref d] ∧ H d = some (.dK kvs) ∧ ∀ l, H l = none → Q (.ref l) (upd H l (.lst (kvs.map fun p => kV p.1)))) := by
  intro pins s σ H xs us Q I r h
  obtain ⟨d, kvs, rfl, hd, q⟩ := h
  obtain ⟨u, rfl, rx⟩ := r.one
  cases (show u = Value.ref d from rx)
  obtain ⟨hz, hs, vs, kv, o, es, ep, ho, hx⟩ := (show ObjOk X.prog X.w H s.heap d (.dK kvs) from I.hok d _ hd)
  have len := kv.length
  refine call_list_dict (I.ok.hd hc) hs ⟨o, es, ho, hx⟩ (by omega) fun h' tk acc' c' hk hS hacc => ?_
  refine ⟨.ref s.heap.objs.size, _, I.laid (o := .lst (kvs.map fun p => kV p.1)) (t' := tk) hk (Nat.le_refl _) ⟨by rw [List.length_map]; exact hz, acc'.toList, c', ?_, by simpa using hS⟩, rfl, q _ (I.hok.fresh (Nat.le_refl _))⟩
  have key : ∀ (kvs : List (Key × V)) (vs : List (Key × Value)) (us : List Value), KV kvs vs → us.length = vs.length → (∀ (j : Nat) (v : Value), us[j]? = some v → ∃ k x, vs[j]? = some (k, x) ∧ keyIs k v = true) → Vals (kvs.map fun p => kV p.1) us := by
    intro kvs
    induction kvs with
    | nil =>
      intro vs us kv hl _
      cases kv
      cases us with
      | nil => exact .nil
      | cons => simp at hl
    | cons p r ih =>
      intro vs us kv hl hp
      cases kv with
      | @cons _ q _ vs' h1 h2 =>
      cases us with
      | nil => simp at hl
      | cons u us =>
        obtain ⟨k, x, e1, e2⟩ := hp 0 u rfl
        have e3 : q = (k, x) := by simpa using e1
        subst e3
        refine .cons ?_ (ih vs' us h2 (by simpa using hl) fun j v e => ?_)
        · show L2.RelV (kV p.1) u
          rw [show p.1 = k from h1.1]
          rcases keyIs_shape e2 with ⟨i, t, rfl, rfl⟩ | ⟨i, t, rfl, rfl⟩
          · exact ⟨t, rfl⟩
          · exact ⟨t, rfl⟩
        · obtain ⟨k', x', e4, e5⟩ := hp (j + 1) v (by simpa using e)
          exact ⟨k', x', by simpa using e4, e5⟩
  exact key kvs vs acc'.toList kv (by simpa using hacc.1) fun j v e => hacc.2 j v (by simpa using e)
end InkX

namespace InkF
open PySem PySem.Spec PyProof.Rows L2 InkX Ink
section
variable {X : Cx}
/-! ### list.insert -/
def insV (xs : List V) (i : Int) (y : V) : List V := xs.take i.toNat ++ [y] ++ xs.drop i.toNat
def rInsert : V → List V → Hp → VK → Prop := fun x vs H Q => ∃ (l : Addr) (xs : List V) (i : Int) (y : V), x = .ref l ∧ vs = [.int i, y] ∧ H l = some (.lst xs) ∧ 0 ≤ i ∧ i ≤ xs.length ∧ xs.length < sizeLine ∧ Q .non (upd H l (.lst (insV xs i y)))
theorem mt_insert : MtM X "list.insert" rInsert := by
  intro pins s σ H x vs v us Q I rx rv h
  obtain ⟨l, xs, i, y, rfl, rfl, hH, h0, h1, hz, q⟩ := h
  cases rx
  obtain ⟨u1, u2, rfl, r1, r2⟩ := rv.two
  obtain ⟨t, rfl⟩ := r1
  obtain ⟨z, its, n, r, hl, e⟩ := I.lstM hH
  have hf : ¬ (!Builtin.List.listFitsIndex i) = true := by
    have z2 : sizeLine < 2 ^ 62 := by decide
    rw [show Builtin.List.listFitsIndex i = true from fitsIndex_both (by omega) (by omega)]
    exact Bool.false_ne_true
  refine call_meets F.slot_list_insert ⟨_, e, rfl⟩ F.entry_list_insert (F.args_list_insert_3 _ _ _) (AutoSeq1.list_insert_list_int_val_1 l its.toArray n i t u2 hf (by rw [List.size_toArray]; omega)) ⟨e, ?_⟩
  have hk : (if i < 0 then (i + (its.toArray.size : Int)).toNat else min i.toNat its.toArray.size) = i.toNat := by
    rw [if_neg (by omega), List.size_toArray]
    omega
  refine ⟨.non, _, I.lset (its' := its.take i.toNat ++ [u2] ++ its.drop i.toNat) hH e ?_ ?_ ?_, rfl, q⟩
  · show (its.toArray.extract 0 (if i < 0 then (i + (its.toArray.size : Int)).toNat else min i.toNat its.toArray.size)).push u2 ++ its.toArray.extract (if i < 0 then (i + (its.toArray.size : Int)).toNat else min i.toNat its.toArray.size) = _
    rw [hk]
    simp [List.take_of_length_le]
  · exact ((r.take i.toNat).append (.cons r2 .nil)).append (r.drop i.toNat)
  · unfold insV
    simp
    omega
/-! ### deep equality -/
theorem rcAt_E {pins : List (Addr × Obj)} {σ : L2.St} {H : Hp} {s : Shared} {A : Around} (I : Inv X pins σ H s) {k : Bool} {a b : Addr} {xs ys : List V} (hu : A.units < cLine) (h1 : AtS k H a xs) (h2 : AtS k H b ys) (hl : xs.length = ys.length)
    (ih : ∀ (i : Nat) (x y : V) (u v : Value), xs[i]? = some x → ys[i]? = some y → RelV x u → RelV y v → SeqAt.EqAt A.in1 s u v true) : SeqAt.RcAt A s (.ref a) (.ref b) true := by
  have step : ∀ (us vs : List Value), Vals xs us → Vals ys vs → ∀ j (g1 : j < us.toArray.size) (g2 : j < vs.toArray.size), SeqAt.EqAt A.in1 s us.toArray[j] vs.toArray[j] ((fun _ => true) j) := by
    intro us vs r1 r2 j g1 g2
    have l1 := r1.length
    have l2 := r2.length
    have hj : j < xs.length := by simpa [l1] using g1
    have hj2 : j < ys.length := by omega
    have ej : xs[j]? = some xs[j] := by simp [hj]
    have ej2 : ys[j]? = some ys[j] := by simp [hj2]
    obtain ⟨u', eu, ru'⟩ := r1.get ej
    obtain ⟨v', ev, rv'⟩ := r2.get ej2
    have hu' : us.toArray[j] = u' := by
      have : us[j]? = some us.toArray[j] := by simp
      rw [this] at eu; exact Option.some.inj eu
    have hv' : vs.toArray[j] = v' := by
      have : vs[j]? = some vs.toArray[j] := by simp
      rw [this] at ev; exact Option.some.inj ev
    rw [hu', hv']
    exact ih j _ _ _ _ ej ej2 ru' rv'
  cases k with
  | true =>
    obtain ⟨us, r1, p1, _⟩ := I.list (SqL.of (K := X.K) h1)
    obtain ⟨vs, r2, p2, _⟩ := I.list (SqL.of (K := X.K) h2)
    have l1 := r1.length
    have l2 := r2.length
    have key := SeqAt.RcAt.lists (A := A) (s := s) p1.isList p2.isList (by simp; omega) hu (step us vs r1 r2)
    have e : (List.range us.toArray.size).all (fun _ => true) = true := by simp
    rw [e] at key
    exact key
  | false =>
    obtain ⟨us, r1, p1, _⟩ := I.tuple (SqT.of (K := X.K) h1)
    obtain ⟨vs, r2, p2, _⟩ := I.tuple (SqT.of (K := X.K) h2)
    have l1 := r1.length
    have l2 := r2.length
    have key := SeqAt.RcAt.tuples (A := A) (s := s) (e := fun _ => true) p1 p2 hu (step us vs r1 r2)
    have e : ((List.range (min us.toArray.size vs.toArray.size)).all (fun _ => true) && us.toArray.size == vs.toArray.size) = true := by simp; omega
    rw [e] at key
    exact key
theorem eqAt_E {pins : List (Addr × Obj)} {σ : L2.St} {H : Hp} {s : Shared} (I : Inv X pins σ H s) : ∀ (n : Nat) (A : Around) (x y : V) (u v : Value), A.units + n < cLine → Eqv H n x y → RelV x u → RelV y v → SeqAt.EqAt A s u v true := by
  intro n
  induction n with
  | zero => intro A x y u v _ h; exact h.elim
  | succ n ih =>
    intro A x y u v hu h ru rv
    rcases h with ⟨fx, rfl⟩ | ⟨k, a, b, xs, ys, rfl, rfl, h1, h2, hl, hi⟩
    · refine eqAt_id ?_ ru rv
      cases x <;> first | rfl | exact fx
    · cases (show u = Value.ref a from ru)
      cases (show v = Value.ref b from rv)
      by_cases hab : a = b
      · subst hab
        exact SeqAt.EqAt.same _
      exact SeqAt.EqAt.of_refs hab (rcAt_E I (by omega) h1 h2 hl fun i x y u v ex ey ru rv => ih A.in1 x y u v (by show A.units + 1 + n < cLine; omega) (hi i x y ex ey) ru rv)
def rEqE (n : Nat) : R2 := fun x y H Q => ∃ (a b : Addr), x = .ref a ∧ y = .ref b ∧ Eqv H n x y ∧ Q (.bl true) H
theorem op_eqE (n : Nat) (hu : X.A.units + n < cLine) : OpR X (compareOp .Eq) (rEqE n) := by
  intro pins s σ H x y v u Q I rx ry h
  obtain ⟨a, b, rfl, rfl, h, q⟩ := h
  cases (show v = Value.ref a from rx)
  cases (show u = Value.ref b from ry)
  cases n with
  | zero => exact h.elim
  | succ n =>
    rcases h with ⟨fx, _⟩ | ⟨k, a', b', xs, ys, e1, e2, h1, h2, hl, hi⟩
    · cases fx
    · cases e1
      cases e2
      exact rcAt_E I (by omega) h1 h2 hl (fun i x y u v ex ey ru rv => eqAt_E I n X.A.in1 x y u v (by show X.A.units + 1 + n < cLine; omega) (hi i x y ex ey) ru rv) _ _ _ _ ⟨.bl true, H, I, rfl, q⟩
end
end InkF

namespace Ink
open PySem PySem.Spec PyProof.Rows L2 InkX InkE InkF
/-! ### two lists side by side -/
inductive All2 {α β : Type} (R : α → β → Prop) : List α → List β → Prop
  | nil : All2 R [] []
  | cons {a : α} {b : β} {as : List α} {bs : List β} : R a b → All2 R as bs → All2 R (a :: as) (b :: bs)
section
variable {α β : Type} {R R' : α → β → Prop} {as : List α} {bs : List β} {a : α} {b : β}
theorem All2.len : ∀ {as : List α} {bs : List β}, All2 R as bs → as.length = bs.length
  | _, _, .nil => rfl
  | _, _, .cons _ t => by rw [List.length_cons, List.length_cons, t.len]
theorem All2.get : ∀ {as : List α} {bs : List β} {i : Nat}, All2 R as bs → as[i]? = some a → ∃ b, bs[i]? = some b ∧ R a b
  | _, _, _, .nil, h => by simp at h
  | _, _, 0, .cons r _, h => by simp at h; subst h; exact ⟨_, rfl, r⟩
  | _, _, i + 1, .cons _ t, h => by simp at h; simpa using t.get h
theorem All2.get' : ∀ {as : List α} {bs : List β} {i : Nat}, All2 R as bs → bs[i]? = some b → ∃ a, as[i]? = some a ∧ R a b
  | _, _, _, .nil, h => by simp at h
  | _, _, 0, .cons r _, h => by simp at h; subst h; exact ⟨_, rfl, r⟩
  | _, _, i + 1, .cons _ t, h => by simp at h; simpa using t.get' h
theorem All2.snoc : ∀ {as : List α} {bs : List β}, All2 R as bs → R a b → All2 R (as ++ [a]) (bs ++ [b])
  | _, _, .nil, h => .cons h .nil
  | _, _, .cons r t, h => .cons r (t.snoc h)
theorem All2.mono : ∀ {as : List α} {bs : List β}, (∀ a b, R a b → R' a b) → All2 R as bs → All2 R' as bs
  | _, _, _, .nil => .nil
  | _, _, h, .cons r t => .cons (h _ _ r) (t.mono h)
theorem All2.set : ∀ {as : List α} {bs : List β} (i : Nat), All2 R as bs → R a b → All2 R (as.set i a) (bs.set i b)
  | _, _, _, .nil, _ => .nil
  | _, _, 0, .cons _ t, h => .cons h t
  | _, _, i + 1, .cons r t, h => .cons r (t.set i h)
theorem All2.split : ∀ {as : List α} {bs : List β}, All2 R as (bs ++ [b]) → ∃ as' a, as = as' ++ [a] ∧ All2 R as' bs ∧ R a b
  | _, [], .cons r .nil => ⟨[], _, rfl, .nil, r⟩
  | _, c :: bs, .cons r t => by
    obtain ⟨as', a, rfl, t', r'⟩ := t.split
    exact ⟨_ :: as', a, rfl, .cons r t', r'⟩
end
/-! ### items -/
inductive Item where
  | win (n : Int)
  | ink (a b : Int)
def itemVs : Item → List V
  | .win n => [.str "win", .int n]
  | .ink a b => [.str "ink", .int a, .int b]
def ItemAt (H : Hp) (v : V) (it : Item) : Prop := ∃ a, v = .ref a ∧ H a = some (.tup (itemVs it))
theorem ItemAt.same {H H' : Hp} {v : V} {it : Item} (s : Same H H') : ItemAt H v it → ItemAt H' v it := fun ⟨a, e, h⟩ => ⟨a, e, s _ _ h⟩
theorem ItemAt.keep {H H' : Hp} {v : V} {it : Item} {q : Addr} {xs : List V} (hq : H q = some (.lst xs)) (k : Keep q H H') : ItemAt H v it → ItemAt H' v it := fun ⟨a, e, h⟩ => ⟨a, e, k a _ h (by
  intro z
  rw [z, hq] at h
  cases h)⟩
def ItemsAt (H : Hp) (v : V) (its : List Item) : Prop := ∃ a vs, v = .ref a ∧ H a = some (.lst vs) ∧ All2 (ItemAt H) vs its
theorem ItemsAt.same {H H' : Hp} {v : V} {its : List Item} (s : Same H H') : ItemsAt H v its → ItemsAt H' v its := fun ⟨a, vs, e, h, t⟩ => ⟨a, vs, e, s _ _ h, t.mono fun _ _ => ItemAt.same s⟩
def SheetsAt (H : Hp) (r : Addr) (rows : List (List Item)) : Prop := ∃ vs, H r = some (.lst vs) ∧ All2 (ItemsAt H) vs rows
theorem SheetsAt.same {H H' : Hp} {r : Addr} {rows : List (List Item)} (s : Same H H') : SheetsAt H r rows → SheetsAt H' r rows := fun ⟨vs, h, t⟩ => ⟨vs, s _ _ h, t.mono fun _ _ => ItemsAt.same s⟩
theorem ItemAt.eqv {H : Hp} {x y : V} {it : Item} (n : Nat) (h1 : ItemAt H x it) (h2 : ItemAt H y it) : Eqv H (n + 2) x y := by
  obtain ⟨a, rfl, e1⟩ := h1
  obtain ⟨b, rfl, e2⟩ := h2
  refine .inr ⟨false, a, b, _, _, rfl, rfl, e1, e2, rfl, fun i u v eu ev => ?_⟩
  rw [eu] at ev
  cases ev
  cases it with
  | win n =>
    match i, eu with
    | 0, e => cases e; exact .inl ⟨rfl, rfl⟩
    | 1, e => cases e; exact .inl ⟨rfl, rfl⟩
    | k + 2, e => simp [itemVs] at e
  | ink p q =>
    match i, eu with
    | 0, e => cases e; exact .inl ⟨rfl, rfl⟩
    | 1, e => cases e; exact .inl ⟨rfl, rfl⟩
    | 2, e => cases e; exact .inl ⟨rfl, rfl⟩
    | k + 3, e => simp [itemVs] at e
theorem ItemsAt.eqv {H : Hp} {x y : V} {its : List Item} (n : Nat) (h1 : ItemsAt H x its) (h2 : ItemsAt H y its) : Eqv H (n + 3) x y := by
  obtain ⟨a, vs, rfl, e1, t1⟩ := h1
  obtain ⟨b, us, rfl, e2, t2⟩ := h2
  refine .inr ⟨true, a, b, _, _, rfl, rfl, e1, e2, by rw [t1.len, t2.len], fun i u v eu ev => ?_⟩
  obtain ⟨z, ez, r1⟩ := t1.get eu
  obtain ⟨z', ez', r2⟩ := t2.get ev
  rw [ez] at ez'
  cases ez'
  exact r1.eqv n r2
theorem SheetsAt.eqv {H : Hp} {x y : Addr} {rows : List (List Item)} (n : Nat) (h1 : SheetsAt H x rows) (h2 : SheetsAt H y rows) : Eqv H (n + 4) (.ref x) (.ref y) := by
  obtain ⟨vs, e1, t1⟩ := h1
  obtain ⟨us, e2, t2⟩ := h2
  refine .inr ⟨true, x, y, _, _, rfl, rfl, e1, e2, by rw [t1.len, t2.len], fun i u v eu ev => ?_⟩
  obtain ⟨z, ez, r1⟩ := t1.get eu
  obtain ⟨z', ez', r2⟩ := t2.get ev
  rw [ez] at ez'
  cases ez'
  exact r1.eqv n r2
def itemsStep (t : List Item) (e : Int) : List Item :=
  if e < 0 then t ++ [.win (-1 - e)] else
  match t.getLast? with
  | some (.ink a b) => if b = e then t.dropLast ++ [.ink a (e + 1)] else t ++ [.ink e (e + 1)]
  | _ => t ++ [.ink e (e + 1)]
def itemsOf (es : List Int) : List Item := es.foldl itemsStep []
def winsOf (its : List Item) : List Int := its.filterMap fun it => match it with | .win n => some n | .ink _ _ => none
def winsE (es : List Int) : List Int := es.filterMap fun e => if e < 0 then some (-1 - e) else none
theorem winsOf_append (a b : List Item) : winsOf (a ++ b) = winsOf a ++ winsOf b := by unfold winsOf; rw [List.filterMap_append]
theorem wins_step (t : List Item) (e : Int) : winsOf (itemsStep t e) = winsOf t ++ (if e < 0 then [-1 - e] else []) := by
  unfold itemsStep
  by_cases h : e < 0
  · rw [if_pos h, if_pos h, winsOf_append]; rfl
  · rw [if_neg h, if_neg h, List.append_nil]
    rcases List.eq_nil_or_concat t with rfl | ⟨t', l, rfl⟩
    · rfl
    · rw [List.concat_eq_append, List.getLast?_concat]
      cases l with
      | win n => simp [winsOf_append, winsOf]
      | ink a b =>
        show winsOf (if b = e then (t' ++ [Item.ink a b]).dropLast ++ [.ink a (e + 1)] else (t' ++ [Item.ink a b]) ++ [.ink e (e + 1)]) = _
        by_cases hb : b = e
        · rw [if_pos hb, List.dropLast_concat, winsOf_append, winsOf_append]; rfl
        · rw [if_neg hb, winsOf_append, winsOf_append]; simp [winsOf]
theorem wins_fold (es : List Int) : ∀ t : List Item, winsOf (es.foldl itemsStep t) = winsOf t ++ winsE es := by
  induction es with
  | nil => intro t; simp [winsE]
  | cons e es ih =>
    intro t
    rw [List.foldl_cons, ih, wins_step, List.append_assoc]
    unfold winsE
    rw [List.filterMap_cons]
    by_cases h : e < 0
    · simp [h]
    · simp [h]
theorem wins_itemsOf (es : List Int) : winsOf (itemsOf es) = winsE es := by
  unfold itemsOf
  rw [wins_fold]
  rfl
theorem mem_winsE {es : List Int} {y : Int} : y ∈ winsE es ↔ 0 ≤ y ∧ -1 - y ∈ es := by
  unfold winsE
  rw [List.mem_filterMap]
  constructor
  · rintro ⟨e, he, h⟩
    by_cases h0 : e < 0
    · rw [if_pos h0] at h
      cases h
      exact ⟨by omega, by have z : -1 - (-1 - e) = e := by omega
                          rw [z]; exact he⟩
    · rw [if_neg h0] at h
      cases h
  · rintro ⟨h0, h1⟩
    refine ⟨-1 - y, h1, ?_⟩
    rw [if_pos (by omega)]
    congr 1
    omega
theorem items_len (es : List Int) : ∀ t : List Item, (es.foldl itemsStep t).length ≤ t.length + es.length := by
  induction es with
  | nil => intro t; simp
  | cons e es ih =>
    intro t
    rw [List.foldl_cons]
    have z := ih (itemsStep t e)
    have z2 : (itemsStep t e).length ≤ t.length + 1 := by
      unfold itemsStep
      split
      · simp
      · split
        · split
          · rw [List.length_append, List.length_dropLast, List.length_singleton]; omega
          · simp
        · simp
    rw [List.length_cons]
    omega
/-! ### the windows of rows of entries, and where they lead -/
def Nxt (rows : List (List Int)) (x y : Int) : Prop := 0 ≤ x ∧ ∃ es, rows[x.toNat]? = some es ∧ y ∈ winsE es
inductive Reach (E : Int → Int → Prop) (s : Int) : Int → Prop
  | one {y : Int} : E s y → Reach E s y
  | step {y z : Int} : Reach E s y → E y z → Reach E s z
/-- all windows are upon sheets that are there -/
def Sound (rows : List (List Int)) : Prop := ∀ es ∈ rows, ∀ y ∈ winsE es, y < rows.length
theorem Sound.nxt {rows : List (List Int)} (h : Sound rows) {x y : Int} (e : Nxt rows x y) : 0 ≤ y ∧ y < rows.length := by
  obtain ⟨_, es, he, hy⟩ := e
  exact ⟨(mem_winsE.mp hy).1, h es (List.mem_of_getElem? he) y hy⟩
/-! ### counting what is not seen -/
def cnt (n : Nat) (p : Nat → Bool) : Nat := ((List.range n).filter p).length
theorem cnt_eq (n : Nat) {p q : Nat → Bool} (h : ∀ i, i < n → p i = q i) : cnt n p = cnt n q := by
  unfold cnt
  rw [List.filter_congr fun i hi => h i (List.mem_range.mp hi)]
theorem cnt_succ (n : Nat) (p : Nat → Bool) : cnt (n + 1) p = cnt n p + (if p n = true then 1 else 0) := by
  unfold cnt
  rw [List.range_succ, List.filter_append, List.length_append]
  congr 1
  by_cases h : p n = true
  · rw [if_pos h]; simp [h]
  · rw [if_neg h]; simp [h]
theorem cnt_flip (j : Nat) : ∀ (n : Nat) {p q : Nat → Bool}, j < n → p j = true → (∀ i, q i = (p i && decide (i ≠ j))) → cnt n q + 1 = cnt n p
  | 0, _, _, h, _, _ => by omega
  | n + 1, p, q, h, hj, hq => by
    rw [cnt_succ, cnt_succ]
    by_cases e : j = n
    · subst e
      have z : cnt j q = cnt j p := cnt_eq j fun i hi => by
        rw [hq i]
        have : decide (i ≠ j) = true := by simp; omega
        rw [this, Bool.and_true]
      have z2 : q j = false := by rw [hq j]; simp
      rw [z, z2, if_pos hj]
      simp
    · have ih := cnt_flip j n (p := p) (q := q) (by omega) hj hq
      have z : q n = p n := by
        rw [hq n]
        have : decide (n ≠ j) = true := by simp; omega
        rw [this, Bool.and_true]
      rw [z]
      omega
theorem cnt_le (n : Nat) (p : Nat → Bool) : cnt n p ≤ n := by
  unfold cnt
  have := List.length_filter_le p (List.range n)
  rw [List.length_range] at this
  exact this
/-! ### entries -/
def EntsAt (av : Addr → Prop) (H : Hp) (v : V) (es : List Int) : Prop := ∃ a, v = .ref a ∧ ¬ av a ∧ H a = some (.lst (es.map V.int))
def RowsAt (av : Addr → Prop) (H : Hp) (r : Addr) (rows : List (List Int)) : Prop := ∃ vs, H r = some (.lst vs) ∧ All2 (EntsAt av H) vs rows
theorem EntsAt.keep {av : Addr → Prop} {H H' : Hp} {v : V} {es : List Int} (k : ∀ a o, ¬ av a → H a = some o → H' a = some o) : EntsAt av H v es → EntsAt av H' v es := fun ⟨a, e, n, h⟩ => ⟨a, e, n, k a _ n h⟩
theorem RowsAt.same {av : Addr → Prop} {H H' : Hp} {r : Addr} {rows : List (List Int)} (s : Same H H') : RowsAt av H r rows → RowsAt av H' r rows := fun ⟨vs, h, t⟩ => ⟨vs, s _ _ h, t.mono fun _ _ => EntsAt.keep fun a o _ e => s a o e⟩
theorem RowsAt.get {av : Addr → Prop} {H : Hp} {r : Addr} {rows : List (List Int)} {i : Nat} {es : List Int} (h : RowsAt av H r rows) (e : rows[i]? = some es) : ∃ vs a, H r = some (.lst vs) ∧ vs[i]? = some (.ref a) ∧ H a = some (.lst (es.map V.int)) ∧ vs.length = rows.length := by
  obtain ⟨vs, hr, t⟩ := h
  obtain ⟨v, ev, a, rfl, _, ha⟩ := t.get' e
  exact ⟨vs, a, hr, ev, ha, t.len⟩
/-- the windows go down by some rank -/
def Rkd (rows : List (List Int)) : Prop := ∃ rk : Int → Nat, (∀ x, rk x ≤ 40) ∧ ∀ x y, Nxt rows x y → rk y < rk x
theorem EntsAt.at {av : Addr → Prop} {H : Hp} {v : V} {es : List Int} {q : Addr} (o : HO) (hq : av q) : EntsAt av H v es → EntsAt av (upd H q o) v es := EntsAt.keep fun a u n e => by
  rw [upd_ne (fun z => n (by rw [z]; exact hq))]
  exact e
theorem EntsAt.new {av : Addr → Prop} {H : Hp} {v : V} {es : List Int} {p : Addr} (o : HO) (hp : H p = none) : EntsAt av H v es → EntsAt av (upd H p o) v es := EntsAt.keep fun a u _ e => same_new hp o a u e
def seen (kvs : List (Key × V)) (x : Int) : Prop := (valV kvs (Sum.inl x)).isSome = true
def miss (n : Nat) (kvs : List (Key × V)) : Nat := cnt n fun i => (valV kvs (Sum.inl (i : Int))).isNone
theorem seen_put {kvs : List (Key × V)} {y x : Int} (v : V) : seen (putK kvs (Sum.inl y) v) x ↔ x = y ∨ seen kvs x := by
  unfold seen
  rw [valV_put]
  by_cases h : x = y
  · rw [if_pos (by rw [h]), h]; simp
  · rw [if_neg (fun z => h (Sum.inl.inj z))]; simp [h]
theorem miss_put {n : Nat} {kvs : List (Key × V)} {y : Int} (v : V) (h0 : 0 ≤ y) (h1 : y < n) (hn : valV kvs (Sum.inl y) = none) : miss n (putK kvs (Sum.inl y) v) + 1 = miss n kvs := by
  refine cnt_flip y.toNat n (by omega) ?_ fun i => ?_
  · show (valV kvs (Sum.inl (y.toNat : Int))).isNone = true
    rw [show ((y.toNat : Nat) : Int) = y by omega, hn]
    rfl
  · show (valV (putK kvs (Sum.inl y) v) (Sum.inl (i : Int))).isNone = ((valV kvs (Sum.inl (i : Int))).isNone && decide (i ≠ y.toNat))
    rw [valV_put]
    by_cases h : (i : Int) = y
    · rw [if_pos (by rw [h])]
      have : decide (i ≠ y.toNat) = false := by simp; omega
      rw [this, Bool.and_false]
      rfl
    · rw [if_neg (fun z => h (Sum.inl.inj z))]
      have : decide (i ≠ y.toNat) = true := by simp; omega
      rw [this, Bool.and_true]
theorem run_len (lo : Int) (n : Nat) : (run lo n).length = n := by
  induction n generalizing lo with
  | zero => rfl
  | succ n ih => rw [run, List.length_cons, ih]
theorem All2.new {H2 : Hp} {q t : Addr} {vs : List V} {its : List Item} {it : Item} {ys : List V} (hq2 : H2 q = some (.lst ys)) (hb : All2 (ItemAt H2) vs its) (ht : H2 t = none) (zs : List V) :
    All2 (ItemAt (upd (upd H2 t (.tup (itemVs it))) q (.lst zs))) (vs ++ [.ref t]) (its ++ [it]) := by
  have ntq : q ≠ t := ne_of_none hq2 ht
  have s1 : Same H2 (upd H2 t (.tup (itemVs it))) := same_new ht _
  refine All2.snoc (hb.mono fun v i h => (h.same s1).keep (s1 _ _ hq2) (keep_upd q _ _)) ⟨t, rfl, ?_⟩
  rw [upd_ne ntq.symm, upd_same]
end Ink

namespace InkP
open PySem PySem.Spec PyProof.Rows L2 InkX
section
variable {M : Model} {A : Around} {E : Value → Shared → Prop} {s : Shared}
theorem inplace_list {a b : Value} {Q : Value → Shared → Prop} (ha : s.TypeIs a "list") (hb : s.TypeIs b "list") (hc : wpAny M A (call (.builtin "list.__iadd__") [a, b]) Q E s) : wpAny M A (inplaceOp .Add a b) Q E s := by
  unfold inplaceOp
  refine wpAny_holding ?_
  have hq : isSeqSlot (some (.builtin "list.__iadd__")) = true := by decide +kernel
  have hfi : fillsInplaceSlot (.type "list") "add" (Operator.Add == .Add) = pure false := by
    unfold fillsInplaceSlot
    show (typeLookup (.type "list") (dunderI "add") >>= fun fi => pure (fi.isSome && !isSeqSlot fi)) = pure false
    rw [PySem.F.slot_list_iadd.lookup, pure_bind, hq]; rfl
  have hsi : seqSlot? (.type "list") (dunderI "add") = pure (some (.builtin "list.__iadd__")) := PySem.seqSlot_of PySem.F.slot_list_iadd.lookup hq
  refine wpAny_bind (wpAny_typeOf ha (wpAny_bind (wpAny_of_eq hfi ?_)))
  show wpAny M A (if false = true then _ else _) Q E s
  rw [if_neg Bool.false_ne_true]
  refine wpAny_bind (binaryOp1_none (nm := "add") ha hb PySem.noFill_list_add ?_)
  refine wpAny_bind (wpAny_of_eq hsi ?_)
  exact wpAny_bind (wpAny_rule hc)
end
section
variable {X : Cx}
/-- xs += zs, in place -/
def rIadd : V → V → Hp → VK → Prop := fun x y H Q => ∃ l b xs zs, x = .ref l ∧ y = .ref b ∧ H l = some (.lst xs) ∧ H b = some (.lst zs) ∧ xs.length + zs.length ≤ sizeLine ∧ Q (.ref l) (upd H l (.lst (xs ++ zs)))
theorem ip_cat : PIp X .Add rIadd := by
  intro pins s σ H x y v u Q I rx ry h
  obtain ⟨l, b, xs, zs, rfl, rfl, hH, hB, hz, q⟩ := h
  cases rx
  cases ry
  obtain ⟨z, its, n, r, hl, e⟩ := I.lstM hH
  obtain ⟨z2, its2, n2, r2, hl2, e2⟩ := I.lstM hB
  have hsz : its.toArray.size + its2.toArray.size ≤ sizeLine := by rw [List.size_toArray, List.size_toArray]; omega
  have hlong : ¬ (!its.toArray.isEmpty && Builtin.List.listTooLong (its.toArray.size + its2.toArray.size)) = true := by
    rw [notLongL hsz, Bool.and_false]
    exact Bool.false_ne_true
  refine inplace_list ⟨_, e, rfl⟩ ⟨_, e2, rfl⟩ ?_
  refine call_meets PySem.F.slot_list_iadd ⟨_, e, rfl⟩ PySem.F.entry_list_iadd (PySem.F.args_list_iadd_2 _ _)
    (AutoSeq1.list___iadd___list_list_0 l its.toArray n b its2.toArray n2 hlong (by rw [List.size_toArray]; omega) (by omega)) ⟨e, e2, ?_⟩
  refine ⟨.ref l, _, I.lset (its' := its ++ its2) hH e (by simp) (r.append r2) ?_, rfl, q⟩
  rw [List.length_append]
  omega
section
variable {N : List Str} {scope : Scope} {cl : List (Str × Addr)} {C : Addr} {s₀ : Shared} {H₀ : Hp} {ex : List Addr} {pn : List (Addr × Obj)}
theorem callF_list : CallR (cxF X N scope cl C s₀ H₀ ex pn) (.type "list") (fun xs H Q => ∃ p ys, xs = [.ref p] ∧ (SqL X.K H p ys ∨ SqT X.K H p ys) ∧ ∀ l, H l = none → Q (.ref l) (upd H l (.lst ys))) := call_list_of
end
end
theorem if_andW {p q A B T : Prop} [Decidable p] [Decidable q] (w : p → (if decide q = true then A else B) → T) (h1 : p ∧ q → A) (h2 : ¬ (p ∧ q) → B) : if decide p = true then T else (if false = true then A else B) := by
  by_cases a : p
  · rw [if_pos (decide_eq_true a)]
    by_cases b : q
    · exact w a (by rw [if_pos (decide_eq_true b)]; exact h1 ⟨a, b⟩)
    · exact w a (by rw [decide_eq_false b, if_neg Bool.false_ne_true]; exact h2 fun z => b z.2)
  · rw [decide_eq_false a, if_neg Bool.false_ne_true, if_neg Bool.false_ne_true]
    exact h2 fun z => a z.1
theorem if_and {p q A B T : Prop} [Decidable p] [Decidable q] (w : (if decide q = true then A else B) → T) (h1 : p ∧ q → A) (h2 : ¬ (p ∧ q) → B) : if decide p = true then T else (if false = true then A else B) := if_andW (fun _ => w) h1 h2
end InkP

namespace Ink
open PySem PySem.Spec PyProof.Rows L2 InkX InkE InkF
/-- rows of addresses from nought on -/
def RowNn (r : Row) : Prop := ∀ p ∈ r, 0 ≤ p.1 ∧ p.1 ≤ p.2
def RowPos (r : Row) : Prop := ∀ p ∈ r, 0 ≤ p.1 ∧ p.1 < p.2
theorem grow_pos' {t : Row} {s e : Int} (h : RowPos t) (h0 : 0 ≤ s) (h1 : s < e) : RowPos (grow t s e) := by
  have add : RowPos (t ++ [(s, e)]) := fun p hp => by
    rcases List.mem_append.mp hp with z | z
    · exact h p z
    · rw [List.mem_singleton.mp z]; exact ⟨h0, h1⟩
  unfold grow
  rcases List.eq_nil_or_concat t with rfl | ⟨t', l, rfl⟩
  · exact add
  · rw [List.concat_eq_append] at h add ⊢
    rw [List.getLast?_concat]
    show RowPos (if l.2 = s then (t' ++ [l]).dropLast ++ [(l.1, e)] else t' ++ [l] ++ [(s, e)])
    by_cases c : l.2 = s
    · rw [if_pos c, List.dropLast_concat]
      intro p hp
      rcases List.mem_append.mp hp with z | z
      · exact h p (List.mem_append_left _ z)
      · have := h l (by simp)
        rw [List.mem_singleton.mp z]
        exact ⟨this.1, by show l.1 < e; omega⟩
    · rw [if_neg c]
      exact add
theorem plain_pos {r : Row} (h : RowNn r) : RowPos (plainF r) := by
  have z : ∀ (r t : Row), RowNn r → RowPos t → RowPos (r.foldl plainStep t) := by
    intro r
    induction r with
    | nil => intro t _ g; exact g
    | cons p r ih =>
      intro t h g
      rw [List.foldl_cons]
      refine ih _ (fun q hq => h q (List.mem_cons_of_mem _ hq)) ?_
      unfold plainStep
      have hp := h p (by simp)
      by_cases c : p.1 = p.2
      · rw [if_pos c]; exact g
      · rw [if_neg c]; exact grow_pos' g hp.1 (by omega)
  exact z r [] h fun p hp => by cases hp
theorem rowOf_pos {ns : List Int} (h : ∀ x ∈ ns, 0 ≤ x) : RowPos (rowOf ns) := by
  have z : ∀ (ns : List Int) (t : Row), (∀ x ∈ ns, 0 ≤ x) → RowPos t → RowPos (ns.foldl (fun t n => grow t n (n + 1)) t) := by
    intro ns
    induction ns with
    | nil => intro t _ g; exact g
    | cons n ns ih =>
      intro t h g
      rw [List.foldl_cons]
      exact ih _ (fun x hx => h x (List.mem_cons_of_mem _ hx)) (grow_pos' g (h n (by simp)) (by omega))
  exact z ns [] h fun p hp => by cases hp
theorem RowPos.nn {r : Row} (h : RowPos r) : RowNn r := fun p hp => ⟨(h p hp).1, by have := (h p hp).2; omega⟩
theorem pcs_nn (a b : Int) : ∀ (r : Row) (h : Int), RowNn r → RowNn (pcs a b h r)
  | [], _, _ => fun p hp => by cases hp
  | q :: r, h, g => by
    intro p hp
    rw [pcs] at hp
    rcases List.mem_append.mp hp with z | z
    · have gq := g q (by simp)
      refine ⟨?_, pc1_ok a b h q p z⟩
      unfold pc1 at z
      split at z
      · rw [List.mem_singleton.mp z]
        show 0 ≤ q.1 + max (a - h) 0
        omega
      · cases z
    · exact pcs_nn a b r _ (fun x hx => g x (List.mem_cons_of_mem _ hx)) p z
end Ink

set_option Elab.async false
set_option linter.all false
set_option maxRecDepth 100000
namespace Ink
open PySem L2 InkX InkE InkF InkP
def top (i : Nat) : Stmt := PySem.Challenge.pw_inkroot_k21_moved_items.main.body.getD i (.Pass ⟨0, 0, 0, 0⟩)
structure Nms (mg : Str → Option Value) : Prop where
  n_len : mg "len" = none
  n_list : mg "list" = none
  n_tuple : mg "tuple" = none
  n_int : mg "int" = none
  n_bool : mg "bool" = none
  n_str : mg "str" = none
  n_range : mg "range" = none
  n_zip : mg "zip" = none
  n_isinstance : mg "isinstance" = none
  n_sum : mg "sum" = none
  n_min : mg "min" = none
  n_max : mg "max" = none
section
variable {P : Program} {w : World} {K : PySem.W.Frag} {mg : Str → Option Value} {base : Heap}

abbrev s_law_src : Stmt := top 22
theorem sc_law_src : FnScope ["_law_script"] ["_law_script"] (defScope s_law_src) := ⟨rfl, rfl, rfl, by decide +kernel, rfl, by decide +kernel, by decide +kernel⟩
theorem ok_law_src {f : Addr} {fd : FuncData} (F : Fun K "_law_src" "_law_src" s_law_src f fd) (T : Nms mg) : FnOk P w K mg base CX0 1 f fd ["_law_script"] (spSrc K) := by
  refine F.ok sc_law_src (fun vs H Q E h => ?_) (fun cdv A outer s H vs Q E hr h => ?_)
  · obtain ⟨a, ns, rfl, _⟩ := h
    rfl
  obtain ⟨a, ns, rfl, hS, k⟩ := h
  refine ⟨_, (pss_one (ps_ret (pe_lst (pa_cons (pe_callTy call_list_of rfl T.n_list PyProof.Rows.boot_list (pa_cons (pe_slice sl_list (pv 0) po_none (po_some pe_int)) pa_nil)) (pa_cons pe_int (pa_cons pe_int (pa_cons pe_int pa_nil))))))), ?_⟩
  refine ⟨_, rfl, _, rfl, a, _, rfl, hS, fun p hp => ?_⟩
  refine ⟨p, _, rfl, .inl (SqL.of upd_same), fun c hc => ?_⟩
  refine ⟨(by show 4 ≤ sizeLine; decide), fun l hl => ?_⟩
  obtain ⟨ms, em⟩ := cut_ints ns none (some 63)
  have ncl : c ≠ l := ne_of_none (H := upd (upd H p _) c _) upd_same hl
  have s1 : Same H (upd H p (.lst (cutV (ns.map V.int) none (some 63)))) := same_new hp _
  have s2 := s1.trans (same_new hc (.lst (cutV (ns.map V.int) none (some 63))))
  refine k l c _ ⟨ncl, ms, 0, 0, 1, upd_same, ?_, by decide, by decide, by decide⟩ (s2.trans (same_new hl _)) (s2.free hl) (s1.free hc)
  rw [upd_ne ncl, upd_same, em]

abbrev s_law_next : Stmt := top 23
theorem sc_law_next : FnScope ["_law_src_here", "_law_base", "_law_cell", "_law_digit"] ["_law_src_here", "_law_base"] (defScope s_law_next) := ⟨rfl, rfl, rfl, by decide +kernel, rfl, by decide +kernel, by decide +kernel⟩
theorem ok_law_next {f : Addr} {fd : FuncData} (F : Fun K "_law_next" "_law_next" s_law_next f fd) (T : Nms mg) : FnOk P w K mg base CX0 1 f fd ["_law_src_here", "_law_base"] spNext := by
  refine F.ok sc_law_next (fun vs H Q E h => ?_) (fun cdv A outer s H vs Q E hr h => ?_)
  · obtain ⟨l, c, b, rfl, _⟩ := h
    rfl
  obtain ⟨l, c, b, rfl, S, hb0, hb1, k⟩ := h
  refine ⟨_, (pss_cons (ps_imp (t' := nextT1) (ps_if (pt_cmpR op_le (pe_ix ix_list (pv 0) pe_int (fun _ _ => rfl)) pe_int (nomark _))
      (pss_cons (ps_set (i := 2) sc_law_next.nd rfl (Or.inl rfl) pe_int)
      (pss_cons (ps_imp (t' := nextT2) (ps_if (pt_cmpR op_lt (pe_ix ix_list (pv 0) pe_int (fun _ _ => rfl)) (pe_callB call_len_seq rfl T.n_len PySem.boot_len (pa_cons (pe_ix ix_list (pv 0) pe_int (fun _ _ => rfl)) pa_nil)) (nomark _))
      (pss_cons (ps_set (i := 2) sc_law_next.nd rfl (Or.inl rfl) (pe_ix ix_list (pe_ix ix_list (pv 0) pe_int (fun _ _ => rfl)) (pe_ix ix_list (pv 0) pe_int (fun _ _ => rfl)) (fun _ _ => rfl)))
      (pss_one (ps_asg (pe_op op_add (pe_ix ix_list (pv 0) pe_int (fun _ _ => rfl)) pe_int) (pg_sub (pv 0) pe_int set_list))))
      pss_nil) ?b2)
      (pss_cons (ps_asg (pe_op op_mod (pe_op op_add (pe_op op_add (pe_op op_mul (pe_ix ix_list (pv 0) pe_int (fun _ _ => rfl)) pe_int) (pe_op op_mod (pv 2) pe_int)) pe_int) pe_int) (pg_sub (pv 0) pe_int set_list))
      (pss_one (ps_if (pt_cmpR op_ge (pv 2) (pe_op op_pow pe_int pe_int) (nomark _))
      (pss_one (ps_asg (pv 2) (pg_sub (pv 0) pe_int set_list)))
      pss_nil)))))
      pss_nil) ?b1)
      (pss_cons (ps_if (pt_cmpR op_gt (pe_ix ix_list (pv 0) pe_int (fun _ _ => rfl)) pe_int (nomark _))
      (pss_cons (ps_set (i := 3) sc_law_next.nd rfl (Or.inl rfl) (pe_op op_mod (pe_ix ix_list (pv 0) pe_int (fun _ _ => rfl)) (pv 1)))
      (pss_cons (ps_asg (pe_op op_fdivB (pe_ix ix_list (pv 0) pe_int (fun _ _ => rfl)) (pv 1)) (pg_sub (pv 0) pe_int set_list))
      (pss_one (ps_ret (pv 3)))))
      pss_nil)
      (pss_one (ps_ret (pe_op op_mod (pe_op op_fdivB (pe_op op_mod (pe_op op_mul (pe_ix ix_list (pv 0) pe_int (fun _ _ => rfl)) pe_int) pe_int) pe_int) (pv 1)))))), ?_⟩
  case b2 =>
    rintro D σ H ⟨l, c, b, rfl, ⟨ncl, ns, i, d, r, hl, hc, hi, hr0, hr1⟩, k⟩
    refine ⟨_, rfl, l, _, _, _, rfl, rfl, SqL.of hl, at41, _, rfl, l, _, _, _, rfl, rfl, SqL.of hl, at40, c, _, rfl, .inl (SqL.of hc), _, _, rfl, rfl, _, rfl, ?_⟩
    refine ite2 (fun c2 => ?_) (fun c2 => ?_)
    · have c3 : i < (ns.length : Int) := by
        have z := of_decide_eq_true c2
        rwa [List.length_map] at z
      obtain ⟨v, hv⟩ := at_ints hi c3
      refine ⟨_, rfl, l, _, _, _, rfl, rfl, SqL.of hl, at40, _, rfl, l, _, _, _, rfl, rfl, SqL.of hl, at41, c, _, _, _, rfl, rfl, SqL.of hc, hv, ?_⟩
      refine ⟨_, rfl, l, _, _, _, rfl, rfl, SqL.of hl, at41, _, _, rfl, rfl, _, rfl, l, _, _, 1, rfl, rfl, hl, rfl, ?_⟩
      exact k v _ ⟨ncl, ns, i + 1, d, r, upd_same, by rw [upd_ne ncl]; exact hc, by omega, hr0, hr1⟩ fun a ha => upd_ne ha
    · exact k 7 H ⟨ncl, ns, i, d, r, hl, hc, hi, hr0, hr1⟩ fun a _ => rfl
  case b1 =>
    rintro D σ H ⟨l, c, b, rfl, S, k⟩
    obtain ⟨ncl, ns, i, d, r, hl, hc, hi, hr0, hr1⟩ := id S
    refine ⟨_, rfl, l, _, _, _, rfl, rfl, SqL.of hl, at42, _, _, rfl, rfl, _, rfl, ?_⟩
    refine ite2 (fun c1 => ?_) (fun c1 => ?_)
    · refine ⟨l, c, b, rfl, S, fun cell H1 S1 k1 => ?_⟩
      obtain ⟨_, ns1, i1, d1, r1, hl1, hc1, hi1, hr2, hr3⟩ := id S1
      refine ⟨_, rfl, l, _, _, _, rfl, rfl, SqL.of hl1, at43, _, _, rfl, rfl, .inl ⟨by omega, by omega⟩, _, rfl, _, _, rfl, rfl, (by show (0 : Int) < 998244353; decide), _, _, rfl, rfl, _, _, rfl, rfl, _, _, rfl, rfl, (by show (0 : Int) < 2147483647; decide), _, rfl, l, _, _, 3, rfl, rfl, hl1, rfl, ?_⟩
      refine ⟨_, rfl, _, _, rfl, rfl, ⟨by decide, by decide, by decide⟩, _, _, rfl, rfl, _, rfl, ?_⟩
      have b0 : 0 ≤ (r1 * 48271 + cell % 998244353 + 1) % 2147483647 := Int.emod_nonneg _ (by decide)
      have b1 : (r1 * 48271 + cell % 998244353 + 1) % 2147483647 < 2147483647 := Int.emod_lt_of_pos _ (by decide)
      refine ite2 (fun c2 => ?_) (fun c2 => ?_)
      · refine ⟨_, rfl, _, rfl, l, _, _, 2, rfl, rfl, upd_same, rfl, ?_⟩
        refine k _ _ ⟨ncl, ns1, i1, cell, _, upd_same, ?_, hi1, b0, b1⟩ fun a ha => ?_
        · rw [upd_ne ncl, upd_ne ncl]; exact hc1
        · rw [upd_ne ha, upd_ne ha]; exact k1 a ha
      · refine k _ _ ⟨ncl, ns1, i1, d1, _, upd_same, ?_, hi1, b0, b1⟩ fun a ha => ?_
        · rw [upd_ne ncl]; exact hc1
        · rw [upd_ne ha]; exact k1 a ha
    · exact k none H S fun a _ => rfl
  refine ⟨l, c, b, rfl, S, fun cell H1 S1 k1 => ?_⟩
  obtain ⟨ncl, ns, i, d, r, hl, hc, hi, hr0, hr1⟩ := S1
  refine ⟨_, rfl, l, _, _, _, rfl, rfl, SqL.of hl, at42, _, _, rfl, rfl, _, rfl, ?_⟩
  refine ite2 (fun c1 => ?_) (fun c1 => ?_)
  · refine ⟨_, rfl, l, _, _, _, rfl, rfl, SqL.of hl, at42, _, rfl, _, _, rfl, rfl, hb0, ?_⟩
    refine ⟨_, rfl, l, _, _, _, rfl, rfl, SqL.of hl, at42, _, rfl, _, _, rfl, rfl, ⟨hb0, hb1⟩, _, rfl, l, _, _, 2, rfl, rfl, hl, rfl, ?_⟩
    refine ⟨_, rfl, ?_⟩
    refine k (d % b) _ (Int.emod_nonneg _ (by omega)) (Int.emod_lt_of_pos _ hb0) ⟨ncl, ns, i, d / b, r, upd_same, ?_, hi, hr0, hr1⟩ fun a ha => ?_
    · rw [upd_ne ncl]; exact hc
    · rw [upd_ne ha]; exact k1 a ha
  · refine ⟨_, rfl, l, _, _, _, rfl, rfl, SqL.of hl, at43, _, _, rfl, rfl, .inl ⟨by omega, by omega⟩, _, _, rfl, rfl, (by show (0 : Int) < 2147483399; decide), _, _, rfl, rfl, ⟨by decide, by decide⟩, _, rfl, _, _, rfl, rfl, hb0, ?_⟩
    exact k _ _ (Int.emod_nonneg _ (by omega)) (Int.emod_lt_of_pos _ hb0) ⟨ncl, ns, i, d, r, hl, hc, hi, hr0, hr1⟩ k1

abbrev s_law_whole : Stmt := top 24
abbrev s_law_same : Stmt := top 25
theorem sc_law_whole : FnScope ["_law_found"] ["_law_found"] (defScope s_law_whole) := ⟨rfl, rfl, rfl, by decide +kernel, rfl, by decide +kernel, by decide +kernel⟩
theorem sc_law_same : FnScope ["_law_found", "_law_due", "_law_one", "_law_other"] ["_law_found", "_law_due"] (defScope s_law_same) := ⟨rfl, rfl, rfl, by decide +kernel, rfl, by decide +kernel, by decide +kernel⟩
theorem ok_law_whole {f : Addr} {fd : FuncData} (F : Fun K "_law_whole" "_law_whole" s_law_whole f fd) (T : Nms mg) : FnOk P w K mg base CX0 1 f fd ["_law_found"] spWhole := by
  refine F.ok sc_law_whole (fun vs H Q E h => ?_) (fun cdv A outer s H vs Q E hr h => ?_)
  · obtain ⟨i, rfl, _⟩ := h
    rfl
  obtain ⟨i, rfl, k⟩ := h
  refine ⟨_, (pss_one (ps_ret (pe_and (pe_callB call_isinst rfl T.n_isinstance PyProof.Rows.boot_isinstance (pa_cons (pv 0) (pa_cons (pe_ty rfl T.n_int PyProof.Rows.boot_int) pa_nil))) (pe_one (pe_not (pe_callB call_isinst rfl T.n_isinstance PyProof.Rows.boot_isinstance (pa_cons (pv 0) (pa_cons (pe_ty rfl T.n_bool PyProof.Rows.boot_bool) pa_nil)))))))), ?_⟩
  exact ⟨_, rfl, _, _, _, _, rfl, TyOf.int i, k_ii K, _, rfl, iteT ⟨_, rfl, _, _, _, _, rfl, TyOf.int i, k_ib K, _, rfl, k⟩⟩
theorem step_law_same {f fW : Addr} {fd fdW : FuncData} {n : Nat} (T : Nms mg) (d_law_whole : DefAt K mg "_law_whole" s_law_whole ["_law_found"] fW fdW) (g_law_whole : FnOk P w K mg base CX0 1 fW fdW ["_law_found"] spWhole)
    (d_law_same : DefAt K mg "_law_same" s_law_same ["_law_found", "_law_due"] f fd) (g_law_same : FnOk P w K mg base CX0 (n + 1) f fd ["_law_found", "_law_due"] (spSame n)) : FnOk P w K mg base CX0 (n + 2) f fd ["_law_found", "_law_due"] (spSame (n + 1)) := by
  refine d_law_same.F.ok sc_law_same (fun vs H Q E h => ?_) (fun cdv A outer s H vs Q E hr h => ?_)
  · obtain ⟨x, y, rfl, _⟩ := h
    rfl
  obtain ⟨x, y, rfl, h, k⟩ := h
  refine ⟨_, (pss_cons (ps_if (pt_cmp (pc_isN (pv 1)))
      (pss_one (ps_ret (pe_cmp (pc_isN (pv 0)))))
      pss_nil)
      (pss_cons (ps_if (pt_val (pe_callB call_isinst rfl T.n_isinstance PyProof.Rows.boot_isinstance (pa_cons (pv 1) (pa_cons (pe_ty rfl T.n_bool PyProof.Rows.boot_bool) pa_nil))))
      (pss_one (ps_ret (pe_and (pe_callB call_isinst rfl T.n_isinstance PyProof.Rows.boot_isinstance (pa_cons (pv 0) (pa_cons (pe_ty rfl T.n_bool PyProof.Rows.boot_bool) pa_nil))) (pe_one (pe_cmpR op_eq (pv 0) (pv 1) (nomark _))))))
      pss_nil)
      (pss_cons (ps_if (pt_val (pe_callB call_isinst rfl T.n_isinstance PyProof.Rows.boot_isinstance (pa_cons (pv 1) (pa_cons (pe_ty rfl T.n_int PyProof.Rows.boot_int) pa_nil))))
      (pss_one (ps_ret (pe_and (pe_def d_law_whole g_law_whole hr (pa_cons (pv 0) pa_nil)) (pe_one (pe_cmpR op_eq (pv 0) (pv 1) (nomark _))))))
      pss_nil)
      (pss_cons (ps_if (pt_val (pe_callB call_isinst rfl T.n_isinstance PyProof.Rows.boot_isinstance (pa_cons (pv 1) (pa_cons (pe_ty rfl T.n_str PyProof.Rows.boot_str) pa_nil))))
      (pss_one (ps_ret (pe_and (pe_callB call_isinst rfl T.n_isinstance PyProof.Rows.boot_isinstance (pa_cons (pv 0) (pa_cons (pe_ty rfl T.n_str PyProof.Rows.boot_str) pa_nil))) (pe_one (pe_cmpR op_eq (pv 0) (pv 1) (nomark _))))))
      pss_nil)
      (pss_cons (ps_if (PW.pt (pw_or (pt_cmpR op_ne (pe_callB call_isinst rfl T.n_isinstance PyProof.Rows.boot_isinstance (pa_cons (pv 1) (pa_cons (pe_ty rfl T.n_list PyProof.Rows.boot_list) pa_nil))) (pe_callB call_isinst rfl T.n_isinstance PyProof.Rows.boot_isinstance (pa_cons (pv 0) (pa_cons (pe_ty rfl T.n_list PyProof.Rows.boot_list) pa_nil))) (nomark _)) (pw_or1 (pt_cmpR op_ne (pe_callB call_isinst rfl T.n_isinstance PyProof.Rows.boot_isinstance (pa_cons (pv 1) (pa_cons (pe_ty rfl T.n_tuple PyProof.Rows.boot_tuple) pa_nil))) (pe_callB call_isinst rfl T.n_isinstance PyProof.Rows.boot_isinstance (pa_cons (pv 0) (pa_cons (pe_ty rfl T.n_tuple PyProof.Rows.boot_tuple) pa_nil))) (nomark _)))))
      (pss_one (ps_ret pe_bl))
      pss_nil)
      (pss_cons (ps_if (pt_cmpR op_ne (pe_callB call_len_seq rfl T.n_len PySem.boot_len (pa_cons (pv 0) pa_nil)) (pe_callB call_len_seq rfl T.n_len PySem.boot_len (pa_cons (pv 1) pa_nil)) (nomark _))
      (pss_one (ps_ret pe_bl))
      pss_nil)
      (pss_cons (ps_for PassesOwn.never rfl (pi_zip rfl T.n_zip (pa_cons (pv 0) (pa_cons (pv 1) pa_nil))) (pg_tup (n := 2) rfl (pgs_cons (pg_name (i := 2) sc_law_same.nd rfl (Or.inl rfl)) (pgs_cons (pg_name (i := 3) sc_law_same.nd rfl (Or.inl rfl)) pgs_nil)))
      (pss_one (ps_if (pt_not (pt_val (pe_def d_law_same g_law_same hr (pa_cons (pv 2) (pa_cons (pv 3) pa_nil)))))
      (pss_one (ps_ret pe_bl))
      pss_nil)))
      (pss_one (ps_ret pe_bl))))))))), ?_⟩
  have kk := k H (Same.refl H)
  rcases h with ⟨hf, rfl⟩ | ⟨kd, a, b, xs, ys, rfl, rfl, h1, h2, hl, hi⟩
  · cases x with
    | non =>
      refine ⟨_, rfl, _, rfl, ite2 (fun _ => ?_) (fun c => absurd (decide_eq_true rfl) c)⟩
      exact ⟨_, rfl, tt rfl kk⟩
    | bl v =>
      refine ⟨_, rfl, _, rfl, ite2 (fun c => absurd (of_decide_eq_true c) (fun z => nomatch z)) (fun _ => ?_)⟩
      refine ⟨_, rfl, _, _, _, _, rfl, TyOf.bl v, k_bb K, _, rfl, iteT ?_⟩
      exact ⟨_, rfl, _, _, _, _, rfl, TyOf.bl v, k_bb K, _, rfl, iteT ⟨_, rfl, _, rfl, rfl, tt rfl kk⟩⟩
    | int i =>
      refine ⟨_, rfl, _, rfl, ite2 (fun c => absurd (of_decide_eq_true c) (fun z => nomatch z)) (fun _ => ?_)⟩
      refine ⟨_, rfl, _, _, _, _, rfl, TyOf.int i, k_ib K, _, rfl, iteF ?_⟩
      refine ⟨_, rfl, _, _, _, _, rfl, TyOf.int i, k_ii K, _, rfl, iteT ?_⟩
      exact ⟨_, rfl, i, rfl, _, rfl, iteT ⟨_, rfl, _, rfl, rfl, tt rfl kk⟩⟩
    | str v =>
      refine ⟨_, rfl, _, rfl, ite2 (fun c => absurd (of_decide_eq_true c) (fun z => nomatch z)) (fun _ => ?_)⟩
      refine ⟨_, rfl, _, _, _, _, rfl, TyOf.str v, k_sb K, _, rfl, iteF ?_⟩
      refine ⟨_, rfl, _, _, _, _, rfl, TyOf.str v, k_si K, _, rfl, iteF ?_⟩
      refine ⟨_, rfl, _, _, _, _, rfl, TyOf.str v, k_ss K, _, rfl, iteT ?_⟩
      exact ⟨_, rfl, _, _, _, _, rfl, TyOf.str v, k_ss K, _, rfl, iteT ⟨_, rfl, _, rfl, rfl, tt rfl kk⟩⟩
    | _ => cases hf
  · refine ⟨_, rfl, _, rfl, ite2 (fun c => absurd (of_decide_eq_true c) (fun z => nomatch z)) (fun _ => ?_)⟩
    refine ⟨_, rfl, _, _, _, _, rfl, h2.ty, k_qb K kd, _, rfl, iteF ?_⟩
    refine ⟨_, rfl, _, _, _, _, rfl, h2.ty, k_qi K kd, _, rfl, iteF ?_⟩
    refine ⟨_, rfl, _, _, _, _, rfl, h2.ty, k_qs K kd, _, rfl, iteF ?_⟩
    refine ⟨_, rfl, _, _, _, _, rfl, h2.ty, k_ql K kd, _, rfl, _, _, _, _, rfl, h1.ty, k_ql K kd, rfl, _, rfl, iteNS rfl ?_⟩
    refine ⟨_, rfl, _, _, _, _, rfl, h2.ty, k_qt K kd, _, rfl, _, _, _, _, rfl, h1.ty, k_qt K kd, rfl, _, rfl, iteNS rfl ?_⟩
    refine ⟨_, rfl, a, _, rfl, h1.or, _, rfl, b, _, rfl, h2.or, rfl, _, rfl, iteNS (by rw [hl]) ?_⟩
    refine ⟨_, rfl, _, rfl, kd, a, b, xs, ys, rfl, h1.sq, h2.sq, for_zip (fun i σ H2 => ∃ u v, σ = [some (.ref a), some (.ref b), u, v] ∧ Same H H2) hl ⟨none, none, rfl, Same.refl H⟩ (fun i σ H2 _ ⟨_, _, _, s⟩ => ⟨(h1.same s).sq, (h2.same s).sq⟩) ?_ ?_⟩
    · rintro i u v p σ H2 eu ev hp ⟨_, _, rfl, s⟩
      refine ⟨p, _, rfl, SqT.of upd_same, rfl, u, [v], rfl, v, [], rfl, rfl, ?_⟩
      have s2 := s.trans (same_new hp (.tup [u, v]))
      refine ⟨_, rfl, _, rfl, u, v, rfl, Eqv.same s2 (hi i u v eu ev), fun H4 s4 => ⟨_, rfl, iteF ?_⟩⟩
      exact ⟨_, _, rfl, s2.trans s4⟩
    · rintro σ H2 ⟨_, _, rfl, s⟩
      exact k H2 s
theorem ok_law_same {f fW : Addr} {fd fdW : FuncData} (T : Nms mg) (d_law_whole : DefAt K mg "_law_whole" s_law_whole ["_law_found"] fW fdW) (d_law_same : DefAt K mg "_law_same" s_law_same ["_law_found", "_law_due"] f fd) : ∀ n : Nat, FnOk P w K mg base CX0 (n + 1) f fd ["_law_found", "_law_due"] (spSame n)
  | 0 => by
    have no : ∀ vs H Q E, ¬ spSame 0 vs H Q E := fun vs H Q E h => by
      obtain ⟨x, y, _, h, _⟩ := h
      exact h
    exact ⟨fun vs H Q E h => absurd h (no vs H Q E), fun A outer s H args us vs Q E _ _ _ _ h => absurd h (no vs H Q E)⟩
  | n + 1 => step_law_same T d_law_whole (ok_law_whole d_law_whole.F T) d_law_same (ok_law_same T d_law_whole d_law_same n)

abbrev splain : Stmt := top 4
theorem scplain : FnScope ["row", "told", "start", "stop"] ["row"] (defScope splain) := ⟨rfl, rfl, rfl, by decide +kernel, rfl, by decide +kernel, by decide +kernel⟩
theorem ok_plain {f : Addr} {fd : FuncData} (F : Fun K "plain" "plain" splain f fd) : FnOk P w K mg base CX0 1 f fd ["row"] spPlain := by
  refine F.ok scplain (fun vs H Q E h => ?_) (fun cdv A outer s H vs Q E hr h => ?_)
  · obtain ⟨r, row, rfl, _⟩ := h
    rfl
  obtain ⟨r, row, rfl, ⟨as, hr1, hp⟩, hlen, k⟩ := h
  refine ⟨_, (pss_cons (ps_set (i := 1) scplain.nd rfl (Or.inl rfl) (pe_lst pa_nil))
      (pss_cons (ps_for PassesOwn.never rfl (pi_list (pv 0)) (pg_tup (n := 2) rfl (pgs_cons (pg_name (i := 2) scplain.nd rfl (Or.inl rfl)) (pgs_cons (pg_name (i := 3) scplain.nd rfl (Or.inl rfl)) pgs_nil)))
      (pss_cons (ps_if (pt_cmpR op_eq (pv 2) (pv 3) (nomark _))
      (pss_one ps_continue)
      pss_nil)
      (pss_one (ps_if (PW.pt (pw_and (pt_truth (pv 1) (fun _ => rfl)) (pw_and1 (pt_cmpR op_eq (pe_ix ix_tup (pe_ix ix_list (pv 1) (pe_un un_neg pe_int) (fun _ _ => rfl)) pe_int (fun _ _ => rfl)) (pv 2) (nomark _)))))
      (pss_one (ps_asg (pe_tup (pa_cons (pe_ix ix_tup (pe_ix ix_list (pv 1) (pe_un un_neg pe_int) (fun _ _ => rfl)) pe_int (fun _ _ => rfl)) (pa_cons (pv 3) pa_nil))) (pg_sub (pv 1) (pe_un un_neg pe_int) set_list)))
      (pss_one (ps_expr (pe_bm PySem.F.plainAttrs_list PySem.F.slot_list_append PySem.F.type_list_append mt_append (pv 1) (pa_cons (pe_tup (pa_cons (pv 2) (pa_cons (pv 3) pa_nil))) pa_nil))))))))
      (pss_one (ps_ret (pv 1))))), ?_⟩
  refine ⟨(by show 0 ≤ sizeLine; decide), fun q hq => ?_⟩
  have s0 : Same H (upd H q (.lst [])) := same_new hq _
  refine ⟨_, rfl, r, rfl, ⟨_, SqL.of (s0 _ _ hr1)⟩, for_list (K := K) (a := r) (xs := as.map V.ref) (fun i σ H2 => ∃ (bs : List Addr) (u v : Option V), σ = [some (.ref r), some (.ref q), u, v] ∧ H2 q = some (.lst (bs.map V.ref)) ∧ PairsAt H2 bs ((row.take i).foldl plainStep []) ∧ Same H H2)
    ⟨[], none, none, rfl, upd_same, .nil, s0⟩ (fun i σ H2 _ ⟨_, _, _, _, _, _, s⟩ => SqL.of (s _ _ hr1)) ?_ ?_⟩
  · rintro i x σ H2 hi ⟨bs, u, v, rfl, hq2, hb, s⟩
    rw [List.getElem?_map] at hi
    obtain ⟨a, ea, rfl⟩ := Option.map_eq_some_iff.mp hi
    obtain ⟨⟨st, en⟩, ep, ha⟩ := hp.get ea
    have step := take_fold (f := plainStep) ep
    have bl : bs.length < sizeLine := by
      have z := hb.len
      have z2 := plain_le (row.take i) []
      rw [List.length_take] at z2
      exact million (by simp only [List.length_nil] at z2; omega)
    refine ⟨a, _, rfl, SqT.of (s _ _ ha), rfl, _, _, rfl, _, _, rfl, rfl, ?_⟩
    refine ⟨_, rfl, _, rfl, rfl, _, rfl, ite2 (fun c => ?_) (fun c => ?_)⟩
    · have e : st = en := V.int.inj (of_decide_eq_true c)
      refine ⟨bs, _, _, rfl, hq2, ?_, s⟩
      rw [step, plainStep, if_pos e]
      exact hb
    · have e : ¬ st = en := fun z => c (decide_eq_true (congrArg V.int z))
      rw [plainStep, if_neg e] at step
      rcases List.eq_nil_or_concat ((row.take i).foldl plainStep []) with hn | ⟨rw0, q0, hn⟩
      · rw [hn] at hb step
        have hbs : bs = [] := List.eq_nil_of_length_eq_zero hb.len
        subst hbs
        refine ⟨_, rfl, false, .inl ⟨_, SqL.of hq2, rfl⟩, iteF (iteF ?_)⟩
        refine ⟨_, rfl, .inl ⟨rfl, _, SqL.of hq2⟩, _, rfl, _, rfl, (by show 2 ≤ sizeLine; decide), fun t ht => ⟨q, _, _, rfl, rfl, same_new ht _ _ _ hq2, (by show 0 < sizeLine; decide), ?_⟩⟩
        obtain ⟨g1, g2, g3⟩ := grown (st := st) (en := en) hq s hq2 hb ht
        refine ⟨[] ++ [t], _, _, rfl, g1, ?_, g3⟩
        rw [step, grow_nil]
        exact g2
      · rw [List.concat_eq_append] at hn
        rw [hn] at hb step
        obtain ⟨cs, a0, rfl, hc, ha0⟩ := hb.split
        have hq3 : H2 q = some (.lst (cs.map V.ref ++ [.ref a0])) := by rw [hq2, List.map_append]; rfl
        refine ⟨_, rfl, true, .inl ⟨_, SqL.of hq3, by simp⟩, iteT ?_⟩
        refine ⟨_, rfl, _, rfl, q, _, _, _, rfl, rfl, SqL.of hq3, atI_neg1 _ _, a0, _, _, _, rfl, rfl, SqT.of ha0, at21, _, rfl, rfl, _, rfl, ite2 (fun c2 => ?_) (fun c2 => ?_)⟩
        · have e2 : q0.2 = st := V.int.inj (of_decide_eq_true c2)
          refine ⟨_, rfl, _, rfl, q, _, _, _, rfl, rfl, SqL.of hq3, atI_neg1 _ _, a0, _, _, _, rfl, rfl, SqT.of ha0, at20, _, rfl, (by show 2 ≤ sizeLine; decide), fun t ht => ?_⟩
          refine ⟨_, rfl, _, rfl, q, _, _, cs.length, rfl, rfl, same_new ht _ _ _ hq3, ixLast cs a0, ?_⟩
          obtain ⟨g1, g2, g3⟩ := turned (st := q0.1) (en := en) hq s hq3 hc ht
          refine ⟨cs ++ [t], _, _, rfl, g1, ?_, g3⟩
          rw [step, grow_pos _ e2]
          exact g2
        · have e2 : ¬ q0.2 = st := fun z => c2 (decide_eq_true (congrArg V.int z))
          refine ⟨_, rfl, .inl ⟨rfl, _, SqL.of hq2⟩, _, rfl, _, rfl, (by show 2 ≤ sizeLine; decide), fun t ht => ⟨q, _, _, rfl, rfl, same_new ht _ _ _ hq2, (by rw [List.length_map]; exact bl), ?_⟩⟩
          obtain ⟨g1, g2, g3⟩ := grown (st := st) (en := en) hq s hq2 hb ht
          refine ⟨cs ++ [a0] ++ [t], _, _, rfl, g1, ?_, g3⟩
          rw [step, grow_neg _ e2]
          exact g2
  · rintro σ H2 ⟨bs, u, v, rfl, hq2, hb, s⟩
    refine ⟨_, rfl, k q H2 ⟨bs, hq2, ?_⟩ s hq⟩
    rw [List.length_map, hp.len, List.take_length] at hb
    exact hb

abbrev ssize : Stmt := top 5
theorem scsize : FnScope ["row"] ["row"] (defScope ssize) := ⟨rfl, rfl, rfl, by decide +kernel, rfl, by decide +kernel, by decide +kernel⟩
theorem ok_size {f : Addr} {fd : FuncData} (F : Fun K "size" "size" ssize f fd) (T : Nms mg) : FnOk P w K mg base CX0 1 f fd ["row"] spSize := by
  refine F.ok scsize (fun vs H Q E h => ?_) (fun cdv A outer s H vs Q E hr h => ?_)
  · obtain ⟨n, ns, rfl, _⟩ := h
    rfl
  obtain ⟨r, row, rfl, ⟨as, hr1, hp⟩, hlen, k⟩ := h
  refine ⟨_, (pss_one (ps_ret (pe_callB (call_sum rfl) rfl T.n_sum PyProof.Rows.boot_sum (pa_cons (pe_comp (N := ["start", "stop"]) ⟨rfl, by decide +kernel, by decide +kernel, by decide +kernel⟩ rfl (pi_list (pv 0)) (fun _ _ _ _ _ => (pgC_tup (n := 2) rfl (pgs_cons (pg_name (i := 0) (show List.Nodup (["start", "stop"] : List Str) by decide +kernel) rfl (Or.inl rfl)) (pgs_cons (pg_name (i := 1) (show List.Nodup (["start", "stop"] : List Str) by decide +kernel) rfl (Or.inl rfl)) pgs_nil)))) (fun _ _ _ _ _ => pts_nil) (fun _ _ _ _ _ => (pe_op op_sub (pv 1) (pv 0)))) pa_nil)))), ?_⟩
  refine ⟨_, rfl, r, rfl, ⟨_, SqL.of hr1⟩, fun acc hacc => comp_list (K := K) (a := r) (xs := as.map V.ref) (fun i σ H2 => ∃ u v : Option V, σ = [u, v] ∧ H2 acc = some (.lst (((row.take i).map fun p => p.2 - p.1).map V.int)) ∧ Same H H2)
    ⟨none, none, rfl, upd_same, same_new hacc _⟩ (fun i σ H2 _ ⟨_, _, _, _, s⟩ => SqL.of (s _ _ hr1)) ?_ ?_⟩
  · rintro i x σ H2 hi ⟨u, v, rfl, ha, s⟩
    rw [List.getElem?_map] at hi
    obtain ⟨a, ea, rfl⟩ := Option.map_eq_some_iff.mp hi
    obtain ⟨⟨st, en⟩, ep, hpa⟩ := hp.get ea
    refine ⟨a, _, rfl, SqT.of (s _ _ hpa), rfl, _, _, rfl, _, _, rfl, rfl, yes (iteT ?_)⟩
    refine ⟨_, rfl, _, rfl, _, _, rfl, rfl, _, ha, ?_, _, _, rfl, ?_, keep_of hacc s (keep_upd acc _ _)⟩
    · rw [List.length_map, List.length_map, List.length_take]
      exact million (by omega)
    · rw [upd_same, take_snoc ep, List.map_append, List.map_append]
      rfl
  · rintro σ H2 ⟨u, v, rfl, ha, s⟩
    rw [List.length_map, hp.len, List.take_length] at ha
    exact ⟨acc, _, rfl, SqL.of ha, k H2 s⟩

abbrev scheck_places : Stmt := top 6
theorem sccheck_places : FnScope ["row", "start", "stop"] ["row", "start", "stop"] (defScope scheck_places) := ⟨rfl, rfl, rfl, by decide +kernel, rfl, by decide +kernel, by decide +kernel⟩
theorem ok_check_places {f fS C : Addr} {fd fdS : FuncData} (F : Fun K "check_places" "check_places" scheck_places f fd) (T : Nms mg) (Z : ExcAt K mg C) (dsize : DefAt K mg "size" ssize ["row"] fS fdS) : FnOk P w K mg base (CX1 P w) 2 f fd ["row", "start", "stop"] (spCheck C) := by
  have gsize : FnOk P w K mg base CX0 1 fS fdS ["row"] spSize := ok_size dsize.F T
  refine okX F sccheck_places (fun vs H Q E h => ?_) (fun cdv A outer s H vs Q E hr h => ?_)
  · obtain ⟨r, row, a, b, rfl, _⟩ := h
    rfl
  obtain ⟨r, row, a, b, rfl, R, hl, fa, fb, ft, k1, k2⟩ := h
  refine ⟨_, (pss_one (ps_if (pt_not (pt_chain3 op_le op_le op_le pe_int (pv 1) (pv 2) (pe_def dsize gsize hr (pa_cons (pv 0) pa_nil))))
      (pss_one (ps_imp (t' := fun _ σ H' => σ = [some (.ref r), some (.int a), some (.int b)] ∧ Same H H' ∧ ¬ In3 a b (tot row)) (ps_raise PySem.F.excBase_ValueError Z.x Z.m rfl raiseX (pa_cons (pe_fstr (pj_str (pj_int (pv 1) (pj_str (pj_int (pv 2) (pj_str (pj_int (pe_def dsize gsize hr (pa_cons (pv 0) pa_nil)) pj_nil))))))) pa_nil)) ?b1))
      pss_nil)), ?_⟩
  case b1 =>
    rintro D σ H' ⟨rfl, s1, hn⟩
    refine ⟨_, rfl, a, rfl, fa.log, _, rfl, b, rfl, fb.log, _, rfl, r, row, rfl, R.same s1, hl, fun H2 s2 => ⟨_, rfl, ft.log, fun x => ⟨(by show 1 ≤ sizeLine; decide), k2 hn H2 (s1.trans s2)⟩⟩⟩
  refine ⟨_, rfl, _, _, rfl, rfl, _, rfl, ite2 (fun c1 => ?_) (fun c1 => iteT ⟨rfl, Same.refl H, fun z => c1 (decide_eq_true z.1)⟩)⟩
  refine ⟨_, rfl, _, _, rfl, rfl, _, rfl, ite2 (fun c2 => ?_) (fun c2 => iteT ⟨rfl, Same.refl H, fun z => c2 (decide_eq_true z.2.1)⟩)⟩
  refine ⟨_, rfl, r, row, rfl, R, hl, fun H1 s1 => ⟨_, _, rfl, rfl, _, rfl, ite2 (fun c3 => ?_) (fun c3 => ?_)⟩⟩
  · refine ⟨rfl, s1, fun z => ?_⟩
    rw [decide_eq_true z.2.2] at c3
    cases c3
  · refine k1 ⟨of_decide_eq_true c1, of_decide_eq_true c2, ?_⟩ H1 s1
    by_cases z : b ≤ tot row
    · exact z
    · rw [decide_eq_false z] at c3
      exact absurd rfl c3

abbrev spieces : Stmt := top 7
theorem scpieces : FnScope ["row", "start", "stop", "told", "ahead", "first", "last", "low", "high"] ["row", "start", "stop"] (defScope spieces) := ⟨rfl, rfl, rfl, by decide +kernel, rfl, by decide +kernel, by decide +kernel⟩
theorem ok_pieces {f : Addr} {fd : FuncData} (F : Fun K "pieces" "pieces" spieces f fd) (T : Nms mg) : FnOk P w K mg base CX0 1 f fd ["row", "start", "stop"] spPieces := by
  refine F.ok scpieces (fun vs H Q E h => ?_) (fun cdv A outer s H vs Q E hr h => ?_)
  · obtain ⟨r, row, a, b, rfl, _⟩ := h
    rfl
  obtain ⟨r, row, a, b, rfl, ⟨as, hr1, hp⟩, hlen, k⟩ := h
  refine ⟨_, (pss_cons (ps_set (i := 3) scpieces.nd rfl (Or.inl rfl) (pe_lst pa_nil))
      (pss_cons (ps_set (i := 4) scpieces.nd rfl (Or.inl rfl) pe_int)
      (pss_cons (ps_for PassesOwn.never rfl (pi_list (pv 0)) (pg_tup (n := 2) rfl (pgs_cons (pg_name (i := 5) scpieces.nd rfl (Or.inl rfl)) (pgs_cons (pg_name (i := 6) scpieces.nd rfl (Or.inl rfl)) pgs_nil)))
      (pss_cons (ps_set (i := 7) scpieces.nd rfl (Or.inl rfl) (pe_callB (call_max2 rfl) rfl T.n_max PyProof.Rows.boot_max (pa_cons (pe_op op_sub (pv 1) (pv 4)) (pa_cons pe_int pa_nil))))
      (pss_cons (ps_set (i := 8) scpieces.nd rfl (Or.inl rfl) (pe_callB (call_min2 rfl) rfl T.n_min PyProof.Rows.boot_min (pa_cons (pe_op op_sub (pv 2) (pv 4)) (pa_cons (pe_op op_sub (pv 6) (pv 5)) pa_nil))))
      (pss_cons (ps_if (pt_cmpR op_lt (pv 7) (pv 8) (nomark _))
      (pss_one (ps_expr (pe_bm PySem.F.plainAttrs_list PySem.F.slot_list_append PySem.F.type_list_append mt_append (pv 3) (pa_cons (pe_tup (pa_cons (pe_op op_add (pv 5) (pv 7)) (pa_cons (pe_op op_add (pv 5) (pv 8)) pa_nil))) pa_nil))))
      pss_nil)
      (pss_one (ps_aug (i := 4) scpieces.nd rfl (Or.inl rfl) (pe_op op_sub (pv 6) (pv 5)) ip_add))))))
      (pss_one (ps_ret (pv 3)))))), ?_⟩
  refine ⟨(by show 0 ≤ sizeLine; decide), fun q hq => ?_⟩
  have s0 : Same H (upd H q (.lst [])) := same_new hq _
  refine ⟨_, rfl, r, rfl, ⟨_, SqL.of (s0 _ _ hr1)⟩, for_list (K := K) (a := r) (xs := as.map V.ref) (fun i σ H2 => ∃ (bs : List Addr) (t : Int) (u v x y : Option V), σ = [some (.ref r), some (.int a), some (.int b), some (.ref q), some (.int t), u, v, x, y] ∧ t = tot (row.take i) ∧ H2 q = some (.lst (bs.map V.ref)) ∧ PairsAt H2 bs (pcs a b 0 (row.take i)) ∧ Same H H2)
    ⟨[], 0, none, none, none, none, rfl, rfl, upd_same, .nil, s0⟩ (fun i σ H2 _ ⟨_, _, _, _, _, _, _, _, _, _, s⟩ => SqL.of (s _ _ hr1)) ?_ ?_⟩
  · rintro i x σ H2 hi ⟨bs, t, u, v, x1, y1, rfl, et, hq2, hb, s⟩
    rw [List.getElem?_map] at hi
    obtain ⟨ad, ea, rfl⟩ := Option.map_eq_some_iff.mp hi
    obtain ⟨⟨st, en⟩, ep, ha⟩ := hp.get ea
    have step := pcs_snoc a b (st, en) (row.take i) 0
    rw [← take_snoc ep, Int.zero_add, ← et] at step
    have et2 : t + (en - st) = tot (row.take (i + 1)) := by rw [take_snoc ep, tot_snoc, et]
    have bl : bs.length < sizeLine := by
      have z := hb.len
      have z2 := pcs_le a b (row.take i) 0
      rw [List.length_take] at z2
      exact million (by omega)
    have e1 : (if (0 : Int) > a - t then (0 : Int) else a - t) = max (a - t) 0 := by split <;> omega
    have e2 : (if en - st < b - t then en - st else b - t) = min (b - t) (en - st) := by split <;> omega
    refine ⟨ad, _, rfl, SqT.of (s _ _ ha), rfl, _, _, rfl, _, _, rfl, rfl, ?_⟩
    refine ⟨_, rfl, _, rfl, _, _, rfl, rfl, _, _, rfl, ?_⟩
    refine ⟨_, rfl, _, rfl, _, _, rfl, rfl, _, rfl, _, rfl, _, _, rfl, rfl, _, _, rfl, ?_⟩
    rw [e1, e2]
    refine ⟨_, rfl, _, rfl, _, _, rfl, rfl, _, rfl, ite2 (fun c => ?_) (fun c => ?_)⟩
    · have c' : max (a - t) 0 < min (b - t) (en - st) := of_decide_eq_true c
      unfold pc1 at step
      rw [if_pos c'] at step
      refine ⟨_, rfl, .inl ⟨rfl, _, SqL.of hq2⟩, _, rfl, _, rfl, _, _, rfl, rfl, _, rfl, _, rfl, _, _, rfl, rfl, (by show 2 ≤ sizeLine; decide), fun tu htu => ⟨q, _, _, rfl, rfl, same_new htu _ _ _ hq2, (by rw [List.length_map]; exact bl), ?_⟩⟩
      obtain ⟨g1, g2, g3⟩ := grown (st := st + max (a - t) 0) (en := st + min (b - t) (en - st)) hq s hq2 hb htu
      refine ⟨_, rfl, _, rfl, _, rfl, _, _, rfl, rfl, _, _, rfl, rfl, ?_⟩
      refine ⟨bs ++ [tu], _, _, _, _, _, rfl, et2, g1, ?_, g3⟩
      rw [step]
      exact g2
    · have c' : ¬ max (a - t) 0 < min (b - t) (en - st) := fun z => c (decide_eq_true z)
      unfold pc1 at step
      rw [if_neg c', List.append_nil] at step
      refine ⟨_, rfl, _, rfl, _, rfl, _, _, rfl, rfl, _, _, rfl, rfl, ?_⟩
      refine ⟨bs, _, _, _, _, _, rfl, et2, hq2, ?_, s⟩
      rw [step]
      exact hb
  · rintro σ H2 ⟨bs, t, u, v, x1, y1, rfl, et, hq2, hb, s⟩
    rw [List.length_map, hp.len, List.take_length] at hb
    exact ⟨_, rfl, k q H2 ⟨bs, hq2, hb⟩ s hq⟩

theorem winsOf_le (its : List Item) : (winsOf its).length ≤ its.length := List.length_filterMap_le _ its
def spWins : Sp := fun vs H Q _ => ∃ (r : Addr) (its : List Item), vs = [.ref r] ∧ ItemsAt H (.ref r) its ∧ its.length ≤ 100000 ∧
  ∀ (o : Addr) (H' : Hp), H' o = some (.lst ((winsOf its).map V.int)) → Same H H' → H o = none → Q (.ref o) H'
abbrev swindows : Stmt := top 9
theorem scwindows : FnScope ["items"] ["items"] (defScope swindows) := ⟨rfl, rfl, rfl, by decide +kernel, rfl, by decide +kernel, by decide +kernel⟩
theorem ok_windows {f : Addr} {fd : FuncData} (F : Fun K "windows" "windows" swindows f fd) (T : Nms mg) : FnOk P w K mg base CX0 1 f fd ["items"] spWins := by
  refine F.ok scwindows (fun vs H Q E h => ?_) (fun cdv A outer s H vs Q E hr h => ?_)
  · obtain ⟨n, ns, rfl, _⟩ := h
    rfl
  obtain ⟨r, its, rfl, ⟨a, vs, e, hr1, hp⟩, hlen, k⟩ := h
  cases e
  refine ⟨_, (pss_one (ps_ret (pe_comp (N := ["item"]) ⟨rfl, by decide +kernel, by decide +kernel, by decide +kernel⟩ rfl (pi_list (pv 0)) (fun _ _ _ _ _ => (pg_name (i := 0) (show List.Nodup (["item"] : List Str) by decide +kernel) rfl (Or.inl rfl))) (fun _ _ _ _ _ => pts_one (pt_cmpR op_eq (pe_ix ixC_tup (pv 0) pe_int (fun _ _ => rfl)) pe_str (nomark _))) (fun _ _ _ _ _ => (pe_ix ixC_tup (pv 0) pe_int (fun _ _ => rfl)))))), ?_⟩
  refine ⟨_, rfl, r, rfl, ⟨_, SqL.of hr1⟩, fun acc hacc => comp_list (K := K) (a := r) (xs := vs) (fun i σ H2 => ∃ u : Option V, σ = [u] ∧ H2 acc = some (.lst ((winsOf (its.take i)).map V.int)) ∧ Same H H2)
    ⟨none, rfl, upd_same, same_new hacc _⟩ (fun i σ H2 _ ⟨_, _, _, s⟩ => SqL.of (s _ _ hr1)) ?_ ?_⟩
  · rintro i x σ H2 hi ⟨u, rfl, ha, s⟩
    obtain ⟨it, ei, b, rfl, hb⟩ := hp.get hi
    have step : winsOf (its.take (i + 1)) = winsOf (its.take i) ++ winsOf [it] := by rw [take_snoc ei, winsOf_append]
    have bl : (winsOf (its.take i)).length ≤ 100000 := by
      have z := winsOf_le (its.take i)
      rw [List.length_take] at z
      omega
    cases it with
    | win n =>
      refine ⟨_, rfl, b, _, _, _, rfl, rfl, SqT.of (s _ _ hb), rfl, rfl, _, rfl, ite2 (fun _ => ?_) (fun z => absurd (by decide) z)⟩
      refine ⟨_, rfl, b, _, _, _, rfl, rfl, SqT.of (s _ _ hb), rfl, _, ha, (by rw [List.length_map]; exact million (by omega)), _, rfl, ?_, keep_of hacc s (keep_upd acc _ _)⟩
      rw [upd_same, step, List.map_append]
      rfl
    | ink p q =>
      refine ⟨_, rfl, b, _, _, _, rfl, rfl, SqT.of (s _ _ hb), rfl, rfl, _, rfl, ite2 (fun z => absurd z (by decide)) (fun _ => ?_)⟩
      refine ⟨_, rfl, ?_, s⟩
      rw [ha, step]
      show _ = some (HO.lst ((winsOf (its.take i) ++ []).map V.int))
      rw [List.append_nil]
  · rintro σ H2 ⟨u, rfl, ha, s⟩
    rw [hp.len, List.take_length] at ha
    exact k acc H2 ha s hacc

structure Topo (rows : List (List Int)) (ks : List Int) : Prop where
  rng : ∀ x ∈ ks, 0 ≤ x ∧ x < rows.length
  dn : ∀ (i : Nat) (x : Int), ks[i]? = some x → ∀ y, Nxt rows x y → y ∈ ks.take i
def spBelow : Sp := fun vs H Q _ => ∃ (r L : Addr) (rows : List (List Int)) (ss : List Int), vs = [.ref r, .ref L] ∧ SheetsAt H r (rows.map itemsOf) ∧ H L = some (.lst (ss.map V.int)) ∧ ss.length ≤ 1000 ∧ rows.length ≤ 1000 ∧ (∀ es ∈ rows, es.length ≤ 1000) ∧ Sound rows ∧ Rkd rows ∧ (∀ s ∈ ss, 0 ≤ s ∧ s < rows.length) ∧
  ∀ (ks : List Int) (o : Addr) (H' : Hp), H' o = some (.lst (ks.map V.int)) → Same H H' → Topo rows ks → (∀ s ∈ ss, s ∈ ks) → ks.length ≤ 1000 → H o = none → Q (.ref o) H'
theorem Topo.snoc {rows : List (List Int)} {ks : List Int} {x : Int} (h : Topo rows ks) (h0 : 0 ≤ x) (h1 : x < rows.length) (hx : ∀ y, Nxt rows x y → y ∈ ks) : Topo rows (ks ++ [x]) := by
  refine ⟨fun y hy => ?_, fun i y hi z hz => ?_⟩
  · rcases List.mem_append.mp hy with q | q
    · exact h.rng y q
    · have : y = x := by simpa using q
      omega
  · by_cases c : i < ks.length
    · rw [List.getElem?_append_left c] at hi
      rw [List.take_append_of_le_length (by omega)]
      exact h.dn i y hi z hz
    · have c2 : i = ks.length := by
        rcases Nat.lt_or_ge i (ks ++ [x]).length with q | q
        · rw [List.length_append, List.length_singleton] at q; omega
        · rw [List.getElem?_eq_none q] at hi; cases hi
      subst c2
      rw [List.getElem?_append_right (Nat.le_refl _), Nat.sub_self] at hi
      cases hi
      rw [List.take_append_of_le_length (Nat.le_refl _), List.take_length]
      exact hx z hz
theorem seen_keys {kvs : List (Key × V)} {ks : List Int} (h : kvs.map (·.1) = ks.map Sum.inl) (x : Int) : seen kvs x ↔ x ∈ ks := by
  unfold seen
  rw [← valV_any, List.any_eq_true]
  constructor
  · rintro ⟨p, hp, e⟩
    have e' : p.1 = Sum.inl x := of_decide_eq_true e
    have : p.1 ∈ ks.map (Sum.inl : Int → Key) := by rw [← h]; exact List.mem_map_of_mem hp
    rw [e', List.mem_map] at this
    obtain ⟨y, hy, ey⟩ := this
    rw [Sum.inl.inj ey] at hy
    exact hy
  · intro hx
    have : (Sum.inl x : Key) ∈ kvs.map (·.1) := by rw [h]; exact List.mem_map_of_mem hx
    obtain ⟨p, hp, e⟩ := List.mem_map.mp this
    exact ⟨p, hp, decide_eq_true e⟩
structure Bel (rows : List (List Int)) (rk : Int → Nat) (H : Hp) (W S : Addr) (ss : List Int) (H2 : Hp) (bs ps ks : List Int) (kvs : List (Key × V)) : Prop where
  hW : H2 W = some (.lst ((bs ++ ps).map V.int))
  hS : H2 S = some (.dK kvs)
  sm : Same H H2
  ky : kvs.map (·.1) = ks.map Sum.inl
  tp : Topo rows ks
  rg : ∀ x ∈ bs ++ ps, 0 ≤ x ∧ x < rows.length
  ns : ∀ x ∈ ps, ¬ seen kvs x
  pw : ps.Pairwise fun a b => rk b < rk a
  rb : ∀ (i : Nat) (x : Int), ps[i]? = some x → rk x + i ≤ 40
  st : ∀ s ∈ ss, s ∈ bs ∨ s ∈ ks
  kl : kvs.length + miss rows.length kvs ≤ rows.length
  bl : bs.length ≤ 1000
theorem keys_putK {kvs : List (Key × V)} {k : Key} (v : V) (h : (valV kvs k).isSome = true) : (putK kvs k v).map (·.1) = kvs.map (·.1) := by
  unfold putK
  rw [if_pos (by rw [valV_any]; exact h), List.map_map]
  refine List.map_congr_left fun p _ => ?_
  show (if p.1 = k then (p.1, v) else p).1 = p.1
  split <;> rfl
theorem rb_len {rk : Int → Nat} {ps : List Int} (rb : ∀ (i : Nat) (x : Int), ps[i]? = some x → rk x + i ≤ 40) : ps.length ≤ 41 := by
  rcases List.eq_nil_or_concat ps with rfl | ⟨p', n, rfl⟩
  · simp
  · rw [List.concat_eq_append] at rb ⊢
    have := rb p'.length n (by rw [List.getElem?_append_right (Nat.le_refl _), Nat.sub_self]; rfl)
    rw [List.length_append, List.length_singleton]
    omega
/-- the top of what waits: pushed, or of the beginning -/
structure Top (rk : Int → Nat) (ss bs ps ks : List Int) (kvs : List (Key × V)) (bs' ps' : List Int) (n : Int) : Prop where
  eq : bs ++ ps = bs' ++ ps' ++ [n]
  ns : ∀ x ∈ ps', ¬ seen kvs x ∧ x ≠ n
  pw : ps'.Pairwise fun a b => rk b < rk a
  rb : ∀ (i : Nat) (x : Int), ps'[i]? = some x → rk x + i ≤ 40
  st : ∀ s ∈ ss, s ∈ bs' ∨ s = n ∨ s ∈ ks
  old : seen kvs n → bs'.length + 50 - ps'.length < bs.length + 50 - ps.length
  le : bs'.length + 50 - ps'.length ≤ bs.length + 51 - ps.length
  bl : bs'.length ≤ bs.length
  up : ∀ y : Int, rk y ≤ 40 → rk y < rk n → (ps ++ [y]).Pairwise (fun a b => rk b < rk a) ∧ ∀ (i : Nat) (x : Int), (ps ++ [y])[i]? = some x → rk x + i ≤ 40
theorem Bel.top {rows : List (List Int)} {rk : Int → Nat} {H : Hp} {W S : Addr} {ss : List Int} {H2 : Hp} {bs ps ks : List Int} {kvs : List (Key × V)} (B : Bel rows rk H W S ss H2 bs ps ks kvs) : bs ++ ps = [] ∨ ∃ bs' ps' n, Top rk ss bs ps ks kvs bs' ps' n := by
  have snocRb : ∀ (qs : List Int) (y : Int), (∀ (i : Nat) (x : Int), qs[i]? = some x → rk x + i ≤ 40) → rk y + qs.length ≤ 40 → ∀ (i : Nat) (x : Int), (qs ++ [y])[i]? = some x → rk x + i ≤ 40 := by
    intro qs y h1 h2 i x hx
    rcases Nat.lt_or_ge i qs.length with q | q
    · rw [List.getElem?_append_left q] at hx
      exact h1 i x hx
    · have qi : i = qs.length := by
        rcases Nat.lt_or_ge i (qs ++ [y]).length with w | w
        · rw [List.length_append, List.length_singleton] at w; omega
        · rw [List.getElem?_eq_none w] at hx; cases hx
      subst qi
      rw [List.getElem?_append_right (Nat.le_refl _), Nat.sub_self] at hx
      cases hx
      exact h2
  rcases List.eq_nil_or_concat ps with rfl | ⟨ps', n, rfl⟩
  · rcases List.eq_nil_or_concat bs with rfl | ⟨bs', n, rfl⟩
    · exact .inl rfl
    · rw [List.concat_eq_append] at B ⊢
      refine .inr ⟨bs', [], n, by simp, by simp, by simp, by simp, fun s hs => ?_, fun _ => ?_, ?_, ?_, fun y h1 h2 => ⟨by simp, snocRb [] y (by simp) (by simpa using h1)⟩⟩
      · rcases B.st s hs with z | z
        · rcases List.mem_append.mp z with z | z
          · exact .inl z
          · exact .inr (.inl (by simpa using z))
        · exact .inr (.inr z)
      · rw [List.length_append, List.length_singleton]; simp only [List.length_nil]; omega
      · rw [List.length_append, List.length_singleton]; simp only [List.length_nil]; omega
      · rw [List.length_append, List.length_singleton]; omega
  · rw [List.concat_eq_append] at B ⊢
    have pwd := List.pairwise_append.mp B.pw
    have rbn := B.rb ps'.length n (by rw [List.getElem?_append_right (Nat.le_refl _), Nat.sub_self]; rfl)
    refine .inr ⟨bs, ps', n, by rw [List.append_assoc], fun x hx => ⟨B.ns x (List.mem_append_left _ hx), fun e => ?_⟩, pwd.1, fun i x hx => ?_, fun s hs => (B.st s hs).elim .inl fun z => .inr (.inr z), fun z => absurd z (B.ns n (by simp)), ?_, Nat.le_refl _, fun y h1 h2 => ⟨?_, snocRb _ y B.rb ?_⟩⟩
    · subst e
      exact Nat.lt_irrefl _ (pwd.2.2 x hx x (by simp))
    · refine B.rb i x ?_
      rw [List.getElem?_append_left]
      · exact hx
      · rcases Nat.lt_or_ge i ps'.length with q | q
        · exact q
        · rw [List.getElem?_eq_none q] at hx; cases hx
    · rw [List.length_append, List.length_singleton]; omega
    · rw [List.pairwise_append]
      refine ⟨B.pw, by simp, fun a ha c hc => ?_⟩
      have : c = y := by simpa using hc
      subst this
      rcases List.mem_append.mp ha with q | q
      · have := pwd.2.2 a q n (by simp)
        omega
      · have : a = n := by simpa using q
        subst this
        exact h2
    · rw [List.length_append, List.length_singleton]; omega
def BelPv (rows : List (List Int)) (rk : Int → Nat) (H : Hp) (r L W S : Addr) (ss : List Int) (m : Nat) (σ : L2.St) (H2 : Hp) : Prop := ∃ (bs ps ks : List Int) (kvs : List (Key × V)) (u v : Option V), σ = [some (.ref r), some (.ref L), some (.ref S), some (.ref W), u, v] ∧ Bel rows rk H W S ss H2 bs ps ks kvs ∧ m = 100 * miss rows.length kvs + (bs.length + 50 - ps.length)
abbrev sbelow : Stmt := top 10
theorem scbelow : FnScope ["rows", "sheets", "told", "waiting", "number", "missing"] ["rows", "sheets"] (defScope sbelow) := ⟨rfl, rfl, rfl, by decide +kernel, rfl, by decide +kernel, by decide +kernel⟩
theorem ok_below {f fI : Addr} {fd fdI : FuncData} (F : Fun K "below" "below" sbelow f fd) (T : Nms mg) (dwindows : DefAt K mg "windows" swindows ["items"] fI fdI) : FnOk P w K mg base CX0 2 f fd ["rows", "sheets"] spBelow := by
  have gwindows : FnOk P w K mg base CX0 1 fI fdI ["items"] spWins := ok_windows dwindows.F T
  refine F.ok scbelow (fun vs H Q E h => ?_) (fun cdv A outer s0 H vs Q E hr h => ?_)
  · obtain ⟨r, L, rows, ss, rfl, _⟩ := h
    rfl
  obtain ⟨r, L, rows, ss, rfl, hR, hL, hsl, hlen, hes, hsd, ⟨rk, hrb, hrk⟩, hin, k⟩ := h
  have hu := hu_of hr
  refine ⟨_, (pss_cons (ps_set (i := 2) scbelow.nd rfl (Or.inr rfl) pe_dnewK)
      (pss_cons (ps_set (i := 3) scbelow.nd rfl (Or.inl rfl) (pe_callTy call_list_of rfl T.n_list PyProof.Rows.boot_list (pa_cons (pv 1) pa_nil)))
      (pss_cons (ps_while PassesOwn.never (pt_truth (pv 3) (fun _ => rfl)) (pss_cons (ps_set (i := 4) scbelow.nd rfl (Or.inl rfl) (pe_ix ix_list (pv 3) (pe_un un_neg pe_int) (fun _ _ => rfl)))
      (pss_cons (ps_setG (N := ["other", "told"]) (i := 5) (compG (sc := defScope sbelow) (NX := ["rows", "sheets", "told", "waiting", "number", "missing"]) (jx := [none, some 2]) rfl rfl rfl (by decide +kernel) (by decide +kernel) rfl (by decide +kernel) rfl (by decide +kernel)) rfl scbelow.nd rfl rfl (pi_list (pe_def dwindows gwindows hr (pa_cons (pe_ix ix_list (pv 0) (pv 4) (fun _ _ => rfl)) pa_nil))) (fun _ _ _ _ _ _ => (pg_name (i := 0) (show List.Nodup (["other", "told"] : List Str) by decide +kernel) rfl (Or.inl rfl))) (fun _ _ _ _ _ _ => pts_one (pt_cmp (pc_dnotin hu (pv 0) (pv 1)))) (fun _ _ _ _ _ _ => (pv 0)))
      (pss_one (ps_if (pt_truth (pv 5) (fun _ => rfl))
      (pss_one (ps_expr (pe_bm PySem.F.plainAttrs_list PySem.F.slot_list_append PySem.F.type_list_append mt_append (pv 3) (pa_cons (pe_ix ix_list (pv 5) pe_int (fun _ _ => rfl)) pa_nil))))
      (pss_cons (ps_dput hu (pv 2) (pv 4) pe_bl rfl)
      (pss_one (ps_expr (pe_bm0 PySem.F.plainAttrs_list PySem.F.slot_list_pop PySem.F.type_list_pop mt_pop (pv 3))))))))))
      (pss_one (ps_ret (pe_callTy (call_listD rfl) rfl T.n_list PyProof.Rows.boot_list (pa_cons (pv 2) pa_nil))))))), ?_⟩
  intro S hS
  have s1 : Same H (upd H S (.dK [])) := same_new hS _
  refine ⟨_, rfl, L, _, rfl, .inl (SqL.of (s1 _ _ hL)), fun W hW => ?_⟩
  have s2 := s1.trans (same_new hW (.lst (ss.map V.int)))
  have H0W : H W = none := by
    cases e : H W with
    | none => rfl
    | some o => exact absurd ((s1 _ _ e).symm.trans hW) (by simp)
  have nWS : W ≠ S := (ne_of_none upd_same hW).symm
  refine ⟨BelPv rows rk H r L W S ss, ⟨_, ss, [], [], [], none, none, rfl, ⟨(by rw [upd_same, List.append_nil]), same_new hW _ _ _ upd_same, s2, rfl, ⟨(fun x hx => by cases hx), fun i x hi => by simp at hi⟩, (fun x hx => hin x (by simpa using hx)), by simp, by simp, by simp, (fun s hs => .inl hs), ?_, hsl⟩, rfl⟩, ?_⟩
  · have := cnt_le rows.length (fun i => (valV ([] : List (Key × V)) (Sum.inl (i : Int))).isNone)
    show 0 + cnt rows.length _ ≤ _
    omega
  rintro m σ H2 ⟨bs, ps, ks, kvs, u, v, rfl, B, rfl⟩
  refine ⟨_, rfl, !((bs ++ ps).map V.int).isEmpty, .inl ⟨_, SqL.of B.hW, rfl⟩, ?_⟩
  rcases B.top with en | ⟨bs', ps', n, t⟩
  · have e2 : (!((bs ++ ps).map V.int).isEmpty) = false := by rw [en]; rfl
    rw [e2]
    refine iteF ?_
    have ek : kvs.map (fun p => kV p.1) = ks.map V.int := by
      have z : kvs.map (fun p => kV p.1) = (kvs.map (·.1)).map kV := by rw [List.map_map]; rfl
      rw [z, B.ky, List.map_map]
      rfl
    have kl : ks.length = kvs.length := by
      have z := congrArg List.length B.ky
      rw [List.length_map, List.length_map] at z
      exact z.symm
    have kll := B.kl
    refine ⟨_, rfl, S, kvs, rfl, B.hS, fun l hl => ?_⟩
    refine k ks l _ (by rw [upd_same, ek]) (B.sm.trans (same_new hl _)) B.tp (fun s hs => (B.st s hs).elim (fun z => ?_) id) (by omega) ?_
    · rw [(List.append_eq_nil_iff.mp en).1] at z
      cases z
    cases e : H l with
    | none => rfl
    | some o => exact absurd ((B.sm _ _ e).symm.trans hl) (by simp)
  have eW := B.hW
  rw [t.eq] at eW
  rw [t.eq]
  refine ite2 (fun _ => ?_) (fun z => absurd (by simp) z)
  refine ⟨fun σ' H' => ∃ m', m' < 100 * miss rows.length kvs + (bs.length + 50 - ps.length) ∧ BelPv rows rk H r L W S ss m' σ' H', fun σ' H' z => z, ?_⟩
  have an : atI ((bs' ++ ps' ++ [n]).map V.int) (-1) = some (.int n) := by rw [List.map_append]; exact atI_neg1 _ _
  obtain ⟨n0, n1⟩ := B.rg n (by rw [t.eq]; simp)
  have tl := t.le
  have tbl := t.bl
  have pl := rb_len B.rb
  have pl' := rb_len t.rb
  have bbl := B.bl
  obtain ⟨es, hes1⟩ : ∃ es, rows[n.toNat]? = some es := ⟨_, List.getElem?_eq_getElem (by omega)⟩
  have hesl := hes es (List.mem_of_getElem? hes1)
  obtain ⟨rvs, hr2, hrall⟩ := hR.same B.sm
  obtain ⟨vi, hvi, hI⟩ := hrall.get' (i := n.toNat) (b := itemsOf es) (by rw [List.getElem?_map, hes1]; rfl)
  obtain ⟨b, ivs, rfl, hb, hit⟩ := id hI
  have hil := items_len es []
  have arow : atI rvs n = some (.ref b) := by
    have z := atI_nat hvi
    rw [show ((n.toNat : Nat) : Int) = n by omega] at z
    exact z
  refine ⟨_, rfl, _, rfl, W, _, _, _, rfl, rfl, SqL.of eW, an, ?_⟩
  refine ⟨_, rfl, _, rfl, r, _, _, _, rfl, rfl, SqL.of hr2, arow, b, itemsOf es, rfl, hI, ?_, fun z H4 hz s4 nz => ?_⟩
  · show (es.foldl itemsStep []).length ≤ _
    simp only [List.length_nil] at hil
    omega
  rw [wins_itemsOf] at hz
  have hwll : (winsE es).length ≤ es.length := List.length_filterMap_le _ es
  have hS4 := s4 _ _ B.hS
  have hW4 := s4 _ _ eW
  refine ⟨z, rfl, ⟨_, SqL.of hz⟩, fun acc hacc => compF_list (K := K) (a := z) (xs := (winsE es).map V.int) (fun i σ H5 => ∃ u : Option V, σ = [u, some (.ref S)] ∧ H5 acc = some (.lst ((((winsE es).take i).filter (fun y => (valV kvs (Sum.inl y)).isNone)).map V.int)) ∧ Same H4 H5) ⟨none, rfl, upd_same, same_new hacc _⟩ (fun i σ H5 _ ⟨_, _, _, s5⟩ => SqL.of (s5 _ _ hz)) ?_ ?_⟩
  · rintro i x σ H5 hi ⟨u, rfl, h5, s5⟩
    rw [List.getElem?_map] at hi
    obtain ⟨y, ey, rfl⟩ := Option.map_eq_some_iff.mp hi
    have st := take_snoc ey
    have bl : (((winsE es).take i).filter (fun y => (valV kvs (Sum.inl y)).isNone)).length ≤ 1000 := by
      have z := List.length_filter_le (fun y => (valV kvs (Sum.inl y)).isNone) ((winsE es).take i)
      rw [List.length_take] at z
      omega
    refine ⟨_, rfl, _, rfl, S, _, rfl, DGet.k (k := Sum.inl y) (s5 _ _ hS4), _, rfl, ?_⟩
    cases ev : valV kvs (Sum.inl y) with
    | none =>
      refine iteT ⟨_, rfl, _, h5, (by rw [List.length_map]; exact million (by omega)), _, rfl, ?_, keep_of hacc s5 (keep_upd acc _ _)⟩
      rw [upd_same, st, List.filter_append, List.filter_cons_of_pos (p := fun y => (valV kvs (Sum.inl y)).isNone) (by rw [ev]; rfl), List.map_append]
      rfl
    | some o =>
      refine iteF ⟨_, rfl, ?_, s5⟩
      rw [st, List.filter_append, List.filter_cons_of_neg (p := fun y => (valV kvs (Sum.inl y)).isNone) (by rw [ev]; exact Bool.false_ne_true), List.filter_nil, List.append_nil]
      exact h5
  rintro σ H5 ⟨u, rfl, h5, s5⟩
  rw [List.length_map, List.take_length] at h5
  have hS5 := s5 _ _ hS4
  have hW5 := s5 _ _ hW4
  have sm5 := B.sm.trans (s4.trans s5)
  have kll := B.kl
  refine ⟨_, rfl, _, .inl ⟨_, SqL.of h5, rfl⟩, ?_⟩
  cases em : (winsE es).filter (fun y => (valV kvs (Sum.inl y)).isNone) with
  | nil =>
    refine iteF ?_
    have allS : ∀ y, Nxt rows n y → y ∈ ks := by
      rintro y ⟨_, es', he', hy⟩
      rw [hes1] at he'
      cases he'
      rw [← seen_keys B.ky]
      have z := List.filter_eq_nil_iff.mp em y hy
      unfold seen
      cases q : valV kvs (Sum.inl y) with
      | none => rw [q] at z; exact absurd rfl z
      | some o => rfl
    refine ⟨_, rfl, _, rfl, S, _, rfl, DPut.k (k := Sum.inl n) hS5 (million (by omega)), ?_⟩
    have hW6 : (upd H5 S (.dK (putK kvs (Sum.inl n) (.bl true)))) W = some (.lst ((bs' ++ ps' ++ [n]).map V.int)) := by rw [upd_ne nWS]; exact hW5
    refine ⟨_, rfl, .inl ⟨rfl, _, SqL.of hW6⟩, W, _, .int n, rfl, rfl, hW6, (by simp), ?_⟩
    have ee : ((bs' ++ ps' ++ [n]).map V.int).dropLast = (bs' ++ ps').map V.int := by rw [List.map_append (l₁ := bs' ++ ps'), List.map_singleton, List.dropLast_concat]
    rw [ee]
    have rg' : ∀ x ∈ bs' ++ ps', 0 ≤ x ∧ x < rows.length := fun x hx => B.rg x (by rw [t.eq]; exact List.mem_append_left _ hx)
    cases en : valV kvs (Sum.inl n) with
    | none =>
      have mp := miss_put (n := rows.length) (.bl true) n0 n1 en
      refine ⟨100 * miss rows.length (putK kvs (Sum.inl n) (.bl true)) + (bs'.length + 50 - ps'.length), by omega, bs', ps', ks ++ [n], putK kvs (Sum.inl n) (.bl true), _, _, rfl, ⟨upd_same, (by rw [upd_ne nWS.symm, upd_same]), keep_of H0W (keep_of hS sm5 (keep_upd S _ _)) (keep_upd W _ _), ?_, B.tp.snoc n0 n1 allS, rg', fun x hx => ?_, t.pw, t.rb, fun s hs => ?_, ?_, by omega⟩, rfl⟩
      · rw [putK_new _ en, List.map_append, B.ky, List.map_append]
        rfl
      · intro q
        rcases (seen_put _).mp q with e | e
        · exact (t.ns x hx).2 e
        · exact (t.ns x hx).1 e
      · rcases t.st s hs with q | q | q
        · exact .inl q
        · exact .inr (by rw [q]; simp)
        · exact .inr (List.mem_append_left _ q)
      · rw [putK_new _ en, List.length_append, List.length_singleton] at *
        omega
    | some o =>
      have sn : seen kvs n := by unfold seen; rw [en]; rfl
      have so := t.old sn
      have sp : ∀ x, seen (putK kvs (Sum.inl n) (.bl true)) x ↔ seen kvs x := fun x => by
        rw [seen_put]
        exact ⟨fun z => z.elim (fun e => by rw [e]; exact sn) id, .inr⟩
      have ms : miss rows.length (putK kvs (Sum.inl n) (.bl true)) = miss rows.length kvs := by
        refine cnt_eq _ fun i _ => ?_
        have z := sp (i : Int)
        unfold seen at z
        cases q1 : valV (putK kvs (Sum.inl n) (.bl true)) (Sum.inl (i : Int)) with
        | none =>
          cases q2 : valV kvs (Sum.inl (i : Int)) with
          | none => rfl
          | some o2 => rw [q1, q2] at z; exact absurd (z.mpr rfl) Bool.false_ne_true
        | some o1 =>
          cases q2 : valV kvs (Sum.inl (i : Int)) with
          | none => rw [q1, q2] at z; exact absurd (z.mp rfl) Bool.false_ne_true
          | some o2 => rfl
      have kn : n ∈ ks := (seen_keys B.ky n).mp sn
      refine ⟨100 * miss rows.length (putK kvs (Sum.inl n) (.bl true)) + (bs'.length + 50 - ps'.length), by rw [ms]; omega, bs', ps', ks, putK kvs (Sum.inl n) (.bl true), _, _, rfl, ⟨upd_same, (by rw [upd_ne nWS.symm, upd_same]), keep_of H0W (keep_of hS sm5 (keep_upd S _ _)) (keep_upd W _ _), ?_, B.tp, rg', fun x hx q => (t.ns x hx).1 ((sp x).mp q), t.pw, t.rb, fun s hs => ?_, ?_, by omega⟩, rfl⟩
      · rw [keys_putK _ (by rw [en]; rfl), B.ky]
      · rcases t.st s hs with q | q | q
        · exact .inl q
        · exact .inr (by rw [q]; exact kn)
        · exact .inr q
      · have z := congrArg List.length (keys_putK (kvs := kvs) (k := Sum.inl n) (.bl true) (by rw [en]; rfl))
        rw [List.length_map, List.length_map] at z
        rw [z, ms]
        exact kll
  | cons y ts =>
    refine iteT ?_
    rw [em] at h5
    have ym : y ∈ (winsE es).filter (fun y => (valV kvs (Sum.inl y)).isNone) := by rw [em]; simp
    obtain ⟨yw, yn⟩ := List.mem_filter.mp ym
    have hyn : Nxt rows n y := ⟨n0, es, hes1, yw⟩
    obtain ⟨y0, y1⟩ := hsd.nxt hyn
    obtain ⟨up1, up2⟩ := t.up y (hrb y) (hrk n y hyn)
    have wl := congrArg List.length t.eq
    rw [List.length_append] at wl
    refine ⟨_, rfl, .inl ⟨rfl, _, SqL.of hW5⟩, _, rfl, acc, _, _, _, rfl, rfl, SqL.of h5, atI_nat (xs := V.int y :: ts.map V.int) (j := 0) rfl, W, _, _, rfl, rfl, hW5, (by rw [List.length_map, ← wl]; exact million (by omega)), ?_⟩
    have pl2 := rb_len up2
    rw [List.length_append, List.length_singleton] at pl2
    refine ⟨100 * miss rows.length kvs + (bs.length + 50 - (ps ++ [y]).length), ?_, bs, ps ++ [y], ks, kvs, _, _, rfl, ⟨(by rw [upd_same, ← List.append_assoc, t.eq, List.map_append (l₁ := bs' ++ ps' ++ [n])]; rfl), (by rw [upd_ne nWS.symm]; exact hS5), keep_of H0W sm5 (keep_upd W _ _), B.ky, B.tp, fun x hx => ?_, fun x hx => ?_, up1, up2, B.st, kll, bbl⟩, rfl⟩
    · rw [List.length_append, List.length_singleton]; omega
    · rw [← List.append_assoc] at hx
      rcases List.mem_append.mp hx with q | q
      · exact B.rg x q
      · have : x = y := by simpa using q
        subst this
        exact ⟨y0, y1⟩
    · rcases List.mem_append.mp hx with q | q
      · exact B.ns x q
      · have : x = y := by simpa using q
        subst this
        intro q
        unfold seen at q
        cases w : valV kvs (Sum.inl x) with
        | none => rw [w] at q; cases q
        | some o => rw [w] at yn; cases yn

def itRow (g : Int → Row) : Item → Row
  | .win n => g n
  | .ink a b => [(a, b)]
/-- what entries show, where sh tells what sheets show -/
def entS (sh : Int → List Int) (e : Int) : List Int := if e < 0 then sh (-1 - e) else [e]
def showE (sh : Int → List Int) (es : List Int) : List Int := es.flatMap (entS sh)
def Shows (rows : List (List Int)) (sh : Int → List Int) : Prop := ∀ (x : Int) (es : List Int), 0 ≤ x → rows[x.toNat]? = some es → sh x = showE sh es
def rowsIt (sh : Int → List Int) (its : List Item) : Row := its.flatMap (itRow fun n => rowOf (sh n))
def InkOk (t : List Item) : Prop := ∀ a b, Item.ink a b ∈ t → a < b
theorem rowsIt_append (sh : Int → List Int) (a b : List Item) : rowsIt sh (a ++ b) = rowsIt sh a ++ rowsIt sh b := by unfold rowsIt; rw [List.flatMap_append]
theorem rowsIt_one (sh : Int → List Int) (it : Item) : rowsIt sh [it] = itRow (fun n => rowOf (sh n)) it := by simp [rowsIt]
theorem step_rows (sh : Int → List Int) (t : List Item) (e : Int) (ok : InkOk t) : spell (rowsIt sh (itemsStep t e)) = spell (rowsIt sh t) ++ entS sh e ∧ InkOk (itemsStep t e) := by
  have add : ∀ it : Item, (∀ a b, it = .ink a b → a < b) → InkOk (t ++ [it]) := fun it h a b hm => by
    rcases List.mem_append.mp hm with z | z
    · exact ok a b z
    · exact h a b (List.mem_singleton.mp z).symm
  unfold itemsStep
  by_cases h : e < 0
  · rw [if_pos h]
    refine ⟨?_, add _ fun a b z => by cases z⟩
    rw [rowsIt_append, spell_append, rowsIt_one]
    show _ ++ spell (rowOf (sh (-1 - e))) = _
    rw [spell_rowOf]
    unfold entS
    rw [if_pos h]
  · rw [if_neg h]
    have one : spell [(e, e + 1)] = [e] := by
      rw [spell_one]
      unfold span
      have : (e + 1 - e).toNat = 1 := by omega
      show run e (e + 1 - e).toNat = _
      rw [this]
      rfl
    have es1 : entS sh e = [e] := by unfold entS; rw [if_neg h]
    have plainAdd : spell (rowsIt sh (t ++ [.ink e (e + 1)])) = spell (rowsIt sh t) ++ entS sh e ∧ InkOk (t ++ [.ink e (e + 1)]) := by
      refine ⟨?_, add _ fun a b z => by cases z; omega⟩
      rw [rowsIt_append, spell_append, rowsIt_one, es1]
      show _ ++ spell [(e, e + 1)] = _
      rw [one]
    rcases List.eq_nil_or_concat t with rfl | ⟨t', l, rfl⟩
    · exact plainAdd
    · rw [List.concat_eq_append] at ok add plainAdd ⊢
      rw [List.getLast?_concat]
      cases l with
      | win n => exact plainAdd
      | ink a b =>
        show spell (rowsIt sh (if b = e then (t' ++ [Item.ink a b]).dropLast ++ [.ink a (e + 1)] else (t' ++ [Item.ink a b]) ++ [.ink e (e + 1)])) = _ ∧ InkOk (if b = e then (t' ++ [Item.ink a b]).dropLast ++ [.ink a (e + 1)] else (t' ++ [Item.ink a b]) ++ [.ink e (e + 1)])
        by_cases hb : b = e
        · subst hb
          have ab := ok a b (by simp)
          rw [if_pos rfl, List.dropLast_concat]
          refine ⟨?_, fun p q hm => ?_⟩
          · rw [rowsIt_append, rowsIt_append, spell_append, spell_append, rowsIt_one, rowsIt_one, es1, List.append_assoc]
            congr 1
            show spell [(a, b + 1)] = spell [(a, b)] ++ [b]
            rw [spell_one, spell_one]
            unfold span
            show run a (b + 1 - a).toNat = run a (b - a).toNat ++ [b]
            have : (b + 1 - a).toNat = (b - a).toNat + 1 := by omega
            rw [this, run_snoc]
            congr 2
            omega
          · rcases List.mem_append.mp hm with z | z
            · exact ok p q (List.mem_append_left _ z)
            · have z' : Item.ink p q = Item.ink a (b + 1) := by simpa using z
              cases z'
              omega
        · rw [if_neg hb]
          exact plainAdd
theorem rows_items (sh : Int → List Int) (es : List Int) : spell (rowsIt sh (itemsOf es)) = showE sh es ∧ InkOk (itemsOf es) := by
  have z : ∀ t : List Item, InkOk t → spell (rowsIt sh (es.foldl itemsStep t)) = spell (rowsIt sh t) ++ showE sh es ∧ InkOk (es.foldl itemsStep t) := by
    induction es with
    | nil => intro t ok; exact ⟨by simp [showE], ok⟩
    | cons e es ih =>
      intro t ok
      obtain ⟨h1, h2⟩ := step_rows sh t e ok
      obtain ⟨h3, h4⟩ := ih _ h2
      refine ⟨?_, h4⟩
      rw [List.foldl_cons, h3, h1, List.append_assoc]
      unfold showE
      rw [List.flatMap_cons]
  have q := z [] (fun a b h => by cases h)
  refine ⟨?_, q.2⟩
  unfold itemsOf
  rw [q.1]
  rfl
theorem itRow_len (sh : Int → List Int) (it : Item) (h : ∀ a b, it = .ink a b → a < b) : (itRow (fun n => rowOf (sh n)) it).length ≤ (spell (itRow (fun n => rowOf (sh n)) it)).length := by
  cases it with
  | win n =>
    show (rowOf (sh n)).length ≤ (spell (rowOf (sh n))).length
    rw [spell_rowOf]
    have z := rowOf_le (sh n) []
    simpa [rowOf] using z
  | ink a b =>
    have ab := h a b rfl
    show 1 ≤ (spell [(a, b)]).length
    rw [spell_one]
    unfold span
    show 1 ≤ (run a (b - a).toNat).length
    rw [run_len]
    omega
theorem rowsIt_len (sh : Int → List Int) : ∀ its : List Item, InkOk its → (rowsIt sh its).length ≤ (spell (rowsIt sh its)).length
  | [], _ => by simp [rowsIt]
  | it :: its, h => by
    have e : rowsIt sh (it :: its) = itRow (fun n => rowOf (sh n)) it ++ rowsIt sh its := by unfold rowsIt; rw [List.flatMap_cons]
    rw [e, spell_append, List.length_append, List.length_append]
    have a := itRow_len sh it (fun a b z => h a b (by rw [← z]; simp))
    have b := rowsIt_len sh its (fun a b z => h a b (List.mem_cons_of_mem _ z))
    omega
theorem rowsIt_ok (sh : Int → List Int) (its : List Item) (h : InkOk its) : ∀ p ∈ rowsIt sh its, p.1 ≤ p.2 := by
  intro p hp
  unfold rowsIt at hp
  obtain ⟨it, hi, hm⟩ := List.mem_flatMap.mp hp
  cases it with
  | win n => exact rowOf_ok _ p hm
  | ink a b =>
    have : p = (a, b) := by simpa [itRow] using hm
    subst this
    have := h a b hi
    show a ≤ b
    omega
def spItemRow : Sp := fun vs H Q _ => ∃ (v : V) (it : Item) (S : Addr) (kvs : List (Key × V)) (g : Int → Row), vs = [v, .ref S] ∧ ItemAt H v it ∧ H S = some (.dK kvs) ∧ (∀ n, it = .win n → ∃ a, valV kvs (Sum.inl n) = some (.ref a) ∧ RowAt H a (g n)) ∧
  ∀ (a : Addr) (H' : Hp), RowAt H' a (itRow g it) → Same H H' → ((∃ n, it = .win n ∧ valV kvs (Sum.inl n) = some (.ref a)) ∨ H a = none) → Q (.ref a) H'
abbrev sitem_row : Stmt := top 11
theorem scitem_row : FnScope ["item", "views"] ["item", "views"] (defScope sitem_row) := ⟨rfl, rfl, rfl, by decide +kernel, rfl, by decide +kernel, by decide +kernel⟩
theorem ok_item_row {f : Addr} {fd : FuncData} (F : Fun K "item_row" "item_row" sitem_row f fd) (T : Nms mg) : FnOk P w K mg base CX0 1 f fd ["item", "views"] spItemRow := by
  refine F.ok scitem_row (fun vs H Q E h => ?_) (fun cdv A outer s H vs Q E hr h => ?_)
  · obtain ⟨v, it, S, kvs, g, rfl, _⟩ := h
    rfl
  obtain ⟨v, it, S, kvs, g, rfl, ⟨a, rfl, ha⟩, hS, hw, k⟩ := h
  have hu := hu_of hr
  refine ⟨_, (pss_cons (ps_if (pt_cmpR op_eq (pe_ix ix_tup (pv 0) pe_int (fun _ _ => rfl)) pe_str (nomark _))
      (pss_one (ps_ret (pe_dget hu (pv 1) (pe_ix ix_tup (pv 0) pe_int (fun _ _ => rfl)) (fun _ _ => rfl))))
      pss_nil)
      (pss_one (ps_ret (pe_lst (pa_cons (pe_tup (pa_cons (pe_ix ix_tup (pv 0) pe_int (fun _ _ => rfl)) (pa_cons (pe_ix ix_tup (pv 0) pe_int (fun _ _ => rfl)) pa_nil))) pa_nil))))), ?_⟩
  cases it with
  | win n =>
    refine ⟨_, rfl, a, _, _, _, rfl, rfl, SqT.of ha, rfl, rfl, _, rfl, ite2 (fun _ => ?_) (fun z => absurd (by decide) z)⟩
    obtain ⟨b, hb, Rb⟩ := hw n rfl
    have z := DGet.k (k := Sum.inl n) hS
    rw [hb] at z
    exact ⟨_, rfl, _, rfl, a, _, _, _, rfl, rfl, SqT.of ha, rfl, S, _, rfl, z, k b H Rb (Same.refl H) (.inl ⟨n, rfl, hb⟩)⟩
  | ink p q =>
    refine ⟨_, rfl, a, _, _, _, rfl, rfl, SqT.of ha, rfl, rfl, _, rfl, ite2 (fun z => absurd z (by decide)) (fun _ => ?_)⟩
    refine ⟨_, rfl, a, _, _, _, rfl, rfl, SqT.of ha, rfl, _, rfl, a, _, _, _, rfl, rfl, SqT.of ha, rfl, (by show 2 ≤ sizeLine; decide), fun t ht => ⟨(by show 1 ≤ sizeLine; decide), fun l hl => ?_⟩⟩
    have s1 : Same H (upd H t (.tup [.int p, .int q])) := same_new ht _
    have s2 := s1.trans (same_new hl (.lst [.ref t]))
    refine k l _ ⟨[t], upd_same, .cons ?_ .nil⟩ s2 (.inr ?_)
    · exact same_new hl _ _ _ upd_same
    · cases e : H l with
      | none => rfl
      | some o => exact absurd ((s1 _ _ e).symm.trans hl) (by simp)

theorem PairsAt.keepD {H H' : Hp} {S : Addr} {kvs : List (Key × V)} (hS : H S = some (.dK kvs)) (k : ∀ a ob, a ≠ S → H a = some ob → H' a = some ob) : ∀ {as : List Addr} {r : Row}, PairsAt H as r → PairsAt H' as r
  | _, _, .nil => .nil
  | _, _, .cons r t => .cons (k _ _ (fun z => by
      have r' := r
      unfold PairAt at r'
      rw [z, hS] at r'
      cases r') r) (PairsAt.keepD hS k t)
theorem RowAt.keepD {H H' : Hp} {S a : Addr} {kvs : List (Key × V)} {row : Row} (hS : H S = some (.dK kvs)) (n : a ≠ S) (k : ∀ a ob, a ≠ S → H a = some ob → H' a = some ob) (R : RowAt H a row) : RowAt H' a row := by
  obtain ⟨as, h, p⟩ := R
  exact ⟨as, k _ _ n h, p.keepD hS k⟩
/-- the views that a dict holds -/
def ViewsAt (H : Hp) (kvs : List (Key × V)) (sh : Int → List Int) (xs : List Int) : Prop := ∀ x ∈ xs, ∃ a, valV kvs (Sum.inl x) = some (.ref a) ∧ RowAt H a (rowOf (sh x))
def spViews : Sp := fun vs H Q _ => ∃ (r L : Addr) (rows : List (List Int)) (ss : List Int) (sh : Int → List Int), vs = [.ref r, .ref L] ∧ SheetsAt H r (rows.map itemsOf) ∧ H L = some (.lst (ss.map V.int)) ∧ ss.length ≤ 1000 ∧ rows.length ≤ 1000 ∧ (∀ es ∈ rows, es.length ≤ 1000) ∧ Sound rows ∧ Rkd rows ∧ (∀ s ∈ ss, 0 ≤ s ∧ s < rows.length) ∧ Shows rows sh ∧ (∀ x : Int, 0 ≤ x → x < rows.length → (sh x).length ≤ 10000) ∧
  ∀ (S : Addr) (kvs : List (Key × V)) (ks : List Int) (H' : Hp), H' S = some (.dK kvs) → ViewsAt H' kvs sh ks → Topo rows ks → (∀ s ∈ ss, s ∈ ks) → (∀ x ∈ ks, ∀ a, valV kvs (Sum.inl x) = some (.ref a) → H a = none) → Same H H' → H S = none → Q (.ref S) H'
abbrev sviews_below : Stmt := top 12
theorem scviews_below : FnScope ["rows", "sheets", "views", "number"] ["rows", "sheets"] (defScope sviews_below) := ⟨rfl, rfl, rfl, by decide +kernel, rfl, by decide +kernel, by decide +kernel⟩
theorem ok_views_below {g fI fB fW fP : Addr} {fd fdI fdB fdW fdP : FuncData} (F : Fun K "views_below" "views_below" sviews_below g fd) (T : Nms mg) (dwindows : DefAt K mg "windows" swindows ["items"] fI fdI) (dbelow : DefAt K mg "below" sbelow ["rows", "sheets"] fB fdB) (ditem_row : DefAt K mg "item_row" sitem_row ["item", "views"] fW fdW) (dplain : DefAt K mg "plain" splain ["row"] fP fdP) : FnOk P w K mg base CX0 3 g fd ["rows", "sheets"] spViews := by
  have gbelow : FnOk P w K mg base CX0 2 fB fdB ["rows", "sheets"] spBelow := ok_below dbelow.F T dwindows
  have gitem_row : FnOk P w K mg base CX0 1 fW fdW ["item", "views"] spItemRow := ok_item_row ditem_row.F T
  have gplain : FnOk P w K mg base CX0 1 fP fdP ["row"] spPlain := ok_plain dplain.F
  refine F.ok scviews_below (fun vs H Q E h => ?_) (fun cdv A outer s0 H vs Q E hr h => ?_)
  · obtain ⟨r, L, rows, ss, sh, rfl, _⟩ := h
    rfl
  obtain ⟨r, L, rows, ss, sh, rfl, hR, hL, hsl, hlen, hes, hsd, hrk, hin, hsh, hbd, k⟩ := h
  have hu := hu_of hr
  refine ⟨_, (pss_cons (ps_set (i := 2) scviews_below.nd rfl (Or.inr rfl) pe_dnewK)
      (pss_cons (ps_for PassesOwn.never rfl (pi_list (pe_def dbelow gbelow hr (pa_cons (pv 0) (pa_cons (pv 1) pa_nil)))) (pg_name (i := 3) scviews_below.nd rfl (Or.inl rfl))
      (pss_one (ps_dput hu (pv 2) (pv 3) (pe_def dplain gplain hr (pa_cons (pe_compG2 (N := ["item", "stretch", "views"]) (compG (sc := defScope sviews_below) (NX := ["rows", "sheets", "views", "number"]) (jx := [none, none, some 2]) rfl rfl rfl (by decide +kernel) (by decide +kernel) rfl (by decide +kernel) rfl (by decide +kernel)) rfl (pi_list (pe_ix ix_list (pv 0) (pv 3) (fun _ _ => rfl))) (fun _ _ _ _ _ _ => (pg_name (i := 0) (show List.Nodup (["item", "stretch", "views"] : List Str) by decide +kernel) rfl (Or.inl rfl))) (fun _ _ _ _ _ _ => pts_nil) (fun _ _ _ _ _ _ => (piF_list (pe_def ditem_row gitem_row hr (pa_cons (pv 0) (pa_cons (pv 2) pa_nil))))) (fun _ _ _ _ _ _ => (pg_name (i := 1) (show List.Nodup (["item", "stretch", "views"] : List Str) by decide +kernel) rfl (Or.inl rfl))) (fun _ _ _ _ _ _ => pts_nil) (fun _ _ _ _ _ _ => (pv 1))) pa_nil)) rfl)))
      (pss_one (ps_ret (pv 2))))), ?_⟩
  intro S hS
  have s1 : Same H (upd H S (.dK [])) := same_new hS _
  refine ⟨_, rfl, _, rfl, r, L, rows, ss, rfl, hR.same s1, s1 _ _ hL, hsl, hlen, hes, hsd, hrk, hin, fun ks o H2 ho s2 tp sk kl hno => ?_⟩
  have hS2 := s2 _ _ (upd_same (H := H) (a := S) (o := .dK []))
  have noS : o ≠ S := (ne_of_none upd_same hno).symm
  refine ⟨o, rfl, ⟨_, SqL.of ho⟩, for_list (K := K) (a := o) (xs := ks.map V.int) (fun i σ H3 => ∃ (kvs : List (Key × V)) (u : Option V), σ = [some (.ref r), some (.ref L), some (.ref S), u] ∧ H3 S = some (.dK kvs) ∧ ViewsAt H3 kvs sh (ks.take i) ∧ kvs.length ≤ i ∧ (∀ x a, valV kvs (Sum.inl x) = some (.ref a) → H a = none ∧ a ≠ S) ∧ (∀ a ob, a ≠ S → H2 a = some ob → H3 a = some ob)) ⟨[], none, rfl, hS2, (fun y hy => by simp at hy), Nat.le_refl _, (fun x a e => by cases e), fun _ _ _ e => e⟩ ?_ ?_ ?_⟩
  · rintro i σ H3 _ ⟨_, _, _, _, _, _, _, k3⟩
    exact SqL.of (k3 o _ noS ho)
  · rintro i x σ H3 hi ⟨kvs, u, rfl, hS3, hv3, hk3, hn3, k3⟩
    rw [List.getElem?_map] at hi
    obtain ⟨x, ex, rfl⟩ := Option.map_eq_some_iff.mp hi
    obtain ⟨x0, x1⟩ := tp.rng x (List.mem_of_getElem? ex)
    obtain ⟨es, hes1⟩ : ∃ es, rows[x.toNat]? = some es := ⟨_, List.getElem?_eq_getElem (by omega)⟩
    have sm3 : Same H H3 := fun a ob e => k3 a ob (ne_of_none e hS) (s2 _ _ (s1 _ _ e))
    obtain ⟨rvs, hr3, hrall⟩ := hR.same sm3
    obtain ⟨vi, hvi, hI⟩ := hrall.get' (i := x.toNat) (b := itemsOf es) (by rw [List.getElem?_map, hes1]; rfl)
    obtain ⟨b, ivs, rfl, hb, hit⟩ := id hI
    obtain ⟨hsp, hok⟩ := rows_items sh es
    have shx := hsh x es x0 hes1
    have tot : (rowsIt sh (itemsOf es)).length ≤ 10000 := by
      have z := rowsIt_len sh (itemsOf es) hok
      rw [hsp, ← shx] at z
      have := hbd x x0 x1
      omega
    have part : ∀ j, (rowsIt sh ((itemsOf es).take j)).length ≤ 10000 := fun j => by
      have e : rowsIt sh (itemsOf es) = rowsIt sh ((itemsOf es).take j) ++ rowsIt sh ((itemsOf es).drop j) := by rw [← rowsIt_append, List.take_append_drop]
      rw [e, List.length_append] at tot
      omega
    have arow : atI rvs x = some (.ref b) := by
      have z := atI_nat hvi
      rw [show ((x.toNat : Nat) : Int) = x by omega] at z
      exact z
    refine ⟨_, rfl, _, rfl, r, _, _, _, rfl, rfl, SqL.of hr3, arow, b, rfl, ⟨_, SqL.of hb⟩, fun acc hacc => compF2_list (K := K) (a := b) (xs := ivs) (fun j σ H5 => ∃ (u v : Option V) (as : List Addr), σ = [u, v, some (.ref S)] ∧ H5 acc = some (.lst (as.map V.ref)) ∧ PairsAt H5 as (rowsIt sh ((itemsOf es).take j)) ∧ Same H3 H5) ⟨none, none, [], rfl, upd_same, .nil, same_new hacc _⟩ (fun j σ H5 _ ⟨_, _, _, _, _, _, s5⟩ => SqL.of (s5 _ _ hb)) ?_ ?_⟩
    · rintro j v σ H5 hj ⟨u, u2, as, rfl, h5, p5, s5⟩
      obtain ⟨it, ei, hiv⟩ := hit.get hj
      have st : rowsIt sh ((itemsOf es).take (j + 1)) = rowsIt sh ((itemsOf es).take j) ++ itRow (fun n => rowOf (sh n)) it := by rw [take_snoc ei, rowsIt_append, rowsIt_one]
      refine yesN ?_
      refine iteT ?_
      refine ⟨_, rfl, _, rfl, v, it, S, kvs, (fun n => rowOf (sh n)), rfl, hiv.same s5, s5 _ _ hS3, fun n hn => ?_, fun a2 H6 R6 s6 hor => ?_⟩
      · subst hn
        obtain ⟨a, ha, Ra⟩ := hv3 n (tp.dn i x ex n ⟨x0, es, hes1, by
          rw [← wins_itemsOf]
          unfold winsOf
          rw [List.mem_filterMap]
          exact ⟨.win n, List.mem_of_getElem? ei, rfl⟩⟩)
        exact ⟨a, ha, Ra.same s5⟩
      obtain ⟨as2, h6a, p6⟩ := id R6
      have na2 : a2 ≠ acc := by
        rcases hor with ⟨n, hn, hv⟩ | hn
        · subst hn
          obtain ⟨a, ha, as0, h0', _⟩ := hv3 n (tp.dn i x ex n ⟨x0, es, hes1, by
            rw [← wins_itemsOf]
            unfold winsOf
            rw [List.mem_filterMap]
            exact ⟨.win n, List.mem_of_getElem? ei, rfl⟩⟩)
          rw [hv] at ha
          cases ha
          exact ne_of_none h0' hacc
        · exact (ne_of_none h5 hn).symm
      have h6 := s6 _ _ h5
      have pl := part (j + 1)
      rw [st, List.length_append] at pl
      have al := p5.len
      have al2 := p6.len
      refine ⟨a2, rfl, ⟨_, SqL.of h6a⟩, inner_list (K := K) (a := a2) (acc := acc) (g := gName 1) (tt := tYes) (te := tVar 1) (xs := as2.map V.ref) (fun l σ H7 => ∃ v2 : Option V, σ = [some v, v2, some (.ref S)] ∧ H7 acc = some (.lst ((as ++ as2.take l).map V.ref)) ∧ PairsAt H7 (as ++ as2.take l) (rowsIt sh ((itemsOf es).take j) ++ (itRow (fun n => rowOf (sh n)) it).take l) ∧ Keep acc H6 H7 ∧ Same H3 H7) ?_ ?_ ?_ ?_⟩
      · exact ⟨u2, rfl, (by simpa using h6), (by simpa using p5.same s6), (fun _ _ e _ => e), s5.trans s6⟩
      · rintro l σ H7 _ ⟨_, _, _, _, K7, _⟩
        exact SqL.of (K7 a2 _ h6a na2)
      · rintro l y σ H7 hl ⟨v2, rfl, h7, p7, K7, s7⟩
        rw [List.getElem?_map] at hl
        obtain ⟨t, et, rfl⟩ := Option.map_eq_some_iff.mp hl
        obtain ⟨pr, epr, hpr⟩ := p6.get et
        have ll : l < as2.length := by
          rcases Nat.lt_or_ge l as2.length with q | q
          · exact q
          · rw [List.getElem?_eq_none q] at et; cases et
        have hpr7 : PairAt H7 t pr := K7 t _ hpr (fun z => by
          have q : H6 acc = some (.tup [.int pr.1, .int pr.2]) := by rw [← z]; exact hpr
          rw [h6] at q
          cases q)
        have K8 : Keep acc H7 (upd H7 acc (.lst ((as ++ as2.take l).map V.ref ++ [.ref t]))) := keep_upd acc _ _
        refine yesN ?_
        refine iteT ?_
        refine ⟨_, rfl, _, h7, ?_, _, rfl, ?_, ?_, ?_, keep_of hacc s7 K8⟩
        · rw [List.length_map, List.length_append, List.length_take]
          exact million (by omega)
        · rw [upd_same, take_snoc et, ← List.append_assoc, List.map_append (l₁ := as ++ as2.take l)]
          rfl
        · rw [take_snoc et, take_snoc epr, ← List.append_assoc, ← List.append_assoc]
          exact PairsAt.snoc (p7.keep h7 K8) (K8 t _ hpr7 (fun z => by
            have q : H7 acc = some (.tup [.int pr.1, .int pr.2]) := by rw [← z]; exact hpr7
            rw [h7] at q
            cases q))
        · exact fun a ob e n => K8 a ob (K7 a ob e n) n
      · rintro σ H7 ⟨v2, rfl, h7, p7, K7, s7⟩
        rw [List.length_map, List.take_length] at h7 p7
        rw [al2, List.take_length] at p7
        exact ⟨_, _, _, rfl, h7, (by rw [st]; exact p7), s7⟩
    · rintro σ H5 ⟨u, u2, as, rfl, h5, p5, s5⟩
      rw [hit.len, List.take_length] at p5
      have kvl : i < ks.length := by
        rcases Nat.lt_or_ge i ks.length with q | q
        · exact q
        · rw [List.getElem?_eq_none q] at ex; cases ex
      refine ⟨acc, _, rfl, ⟨as, h5, p5⟩, by omega, fun q H6 R6 s6 hq => ?_⟩
      have hS6 := s6 _ _ (s5 _ _ hS3)
      have nqS : q ≠ S := (ne_of_none (s5 _ _ hS3) hq).symm
      have er : plainF (rowsIt sh (itemsOf es)) = rowOf (sh x) := by rw [plain_eq _ (rowsIt_ok sh _ hok), hsp, shx]
      rw [er] at R6
      have k7 : ∀ a ob, a ≠ S → H6 a = some ob → upd H6 S (.dK (putK kvs (Sum.inl x) (.ref q))) a = some ob := fun a ob n e => by rw [upd_ne n]; exact e
      refine ⟨_, rfl, _, rfl, S, _, rfl, DPut.k (k := Sum.inl x) hS6 (million (by omega)), ?_⟩
      refine ⟨putK kvs (Sum.inl x) (.ref q), _, rfl, upd_same, fun y hy => ?_, ?_, fun y a e => ?_, fun a ob n e => k7 a ob n (s6 _ _ (s5 _ _ (k3 a ob n e)))⟩
      · rw [valV_put]
        by_cases c : y = x
        · rw [if_pos (by rw [c]), c]
          exact ⟨q, rfl, R6.keepD hS6 nqS k7⟩
        · rw [if_neg (fun z => c (Sum.inl.inj z))]
          rw [take_snoc ex] at hy
          rcases List.mem_append.mp hy with z | z
          · obtain ⟨a, ha, Ra⟩ := hv3 y z
            exact ⟨a, ha, ((Ra.same s5).same s6).keepD hS6 (hn3 y a ha).2 k7⟩
          · exact absurd (by simpa using z) c
      · have := length_putK kvs (Sum.inl x) (V.ref q)
        omega
      · rw [valV_put] at e
        by_cases c : y = x
        · rw [if_pos (by rw [c])] at e
          cases e
          refine ⟨?_, nqS⟩
          cases z : H q with
          | none => rfl
          | some ob => exact absurd ((s5 _ _ (sm3 _ _ z)).symm.trans hq) (by simp)
        · rw [if_neg (fun z => c (Sum.inl.inj z))] at e
          exact hn3 y a e
  · rintro σ H3 ⟨kvs, u, rfl, hS3, hv3, hk3, hn3, k3⟩
    rw [List.length_map, List.take_length] at hv3
    exact ⟨_, rfl, k S kvs ks H3 hS3 hv3 tp sk (fun x _ a e => (hn3 x a e).1) (fun a ob e => k3 a ob (ne_of_none e hS) (s2 _ _ (s1 _ _ e))) hS⟩

def goesOn : Item → Item → Bool
  | .ink _ b, .ink c _ => decide (b = c)
  | _, _ => false
def spGoes : Sp := fun vs H Q _ => ∃ (x y : V) (i j : Item), vs = [x, y] ∧ ItemAt H x i ∧ ItemAt H y j ∧ Q (.bl (goesOn i j)) H
abbrev sgoes_on : Stmt := top 14
theorem scgoes_on : FnScope ["one", "other"] ["one", "other"] (defScope sgoes_on) := ⟨rfl, rfl, rfl, by decide +kernel, rfl, by decide +kernel, by decide +kernel⟩
theorem ok_goes_on {f : Addr} {fd : FuncData} (F : Fun K "goes_on" "goes_on" sgoes_on f fd) (T : Nms mg) : FnOk P w K mg base CX0 1 f fd ["one", "other"] spGoes := by
  refine F.ok scgoes_on (fun vs H Q E h => ?_) (fun cdv A outer s H vs Q E hr h => ?_)
  · obtain ⟨x, y, i, j, rfl, _⟩ := h
    rfl
  obtain ⟨x, y, i, j, rfl, ⟨a, rfl, ha⟩, ⟨b, rfl, hb⟩, k⟩ := h
  refine ⟨_, (pss_one (ps_ret (pe_and (pe_cmpR op_eq (pe_ix ix_tup (pv 0) pe_int (fun _ _ => rfl)) pe_str (nomark _)) (pe_and (pe_cmpR op_eq (pe_ix ix_tup (pv 1) pe_int (fun _ _ => rfl)) pe_str (nomark _)) (pe_one (pe_cmpR op_eq (pe_ix ix_tup (pv 0) pe_int (fun _ _ => rfl)) (pe_ix ix_tup (pv 1) pe_int (fun _ _ => rfl)) (nomark _))))))), ?_⟩
  cases i with
  | win n => exact ⟨_, rfl, a, _, _, _, rfl, rfl, SqT.of ha, rfl, rfl, _, rfl, ite2 (fun z => absurd z (by decide)) (fun _ => k)⟩
  | ink p q =>
    refine ⟨_, rfl, a, _, _, _, rfl, rfl, SqT.of ha, rfl, rfl, _, rfl, ite2 (fun _ => ?_) (fun z => absurd (by decide) z)⟩
    cases j with
    | win n => exact ⟨_, rfl, b, _, _, _, rfl, rfl, SqT.of hb, rfl, rfl, _, rfl, ite2 (fun z => absurd z (by decide)) (fun _ => k)⟩
    | ink u v =>
      refine ⟨_, rfl, b, _, _, _, rfl, rfl, SqT.of hb, rfl, rfl, _, rfl, ite2 (fun _ => ?_) (fun z => absurd (by decide) z)⟩
      refine ⟨_, rfl, a, _, _, _, rfl, rfl, SqT.of ha, rfl, _, rfl, b, _, _, _, rfl, rfl, SqT.of hb, rfl, rfl, ?_⟩
      have e : decide (V.int q = V.int u) = decide (q = u) := by
        by_cases c : q = u
        · rw [c]; simp
        · have c2 : ¬ V.int q = V.int u := fun z => c (V.int.inj z)
          rw [decide_eq_false c, decide_eq_false c2]
      rw [e]
      exact k

def plainIStep (t : List Item) (it : Item) : List Item :=
  match t.getLast?, it with
  | some (.ink a b), .ink c d => if b = c then t.dropLast ++ [.ink a d] else t ++ [it]
  | _, _ => t ++ [it]
def plainI (its : List Item) : List Item := its.foldl plainIStep []
theorem plainI_len (its : List Item) : ∀ t : List Item, (its.foldl plainIStep t).length ≤ t.length + its.length := by
  induction its with
  | nil => intro t; simp
  | cons e its ih =>
    intro t
    rw [List.foldl_cons]
    have z := ih (plainIStep t e)
    have z2 : (plainIStep t e).length ≤ t.length + 1 := by
      unfold plainIStep
      split
      · split
        · rw [List.length_append, List.length_dropLast, List.length_singleton]; omega
        · simp
      · simp
    rw [List.length_cons]
    omega
def spPlainItems : Sp := fun vs H Q _ => ∃ (r : Addr) (its : List Item), vs = [.ref r] ∧ ItemsAt H (.ref r) its ∧ its.length ≤ 1000000 ∧
  ∀ (o : Addr) (H' : Hp), ItemsAt H' (.ref o) (plainI its) → Same H H' → H o = none → Q (.ref o) H'
abbrev splain_items : Stmt := top 15
theorem scplain_items : FnScope ["items", "told", "item"] ["items"] (defScope splain_items) := ⟨rfl, rfl, rfl, by decide +kernel, rfl, by decide +kernel, by decide +kernel⟩
theorem ok_plain_items {f fG : Addr} {fd fdG : FuncData} (F : Fun K "plain_items" "plain_items" splain_items f fd) (T : Nms mg) (dgoes_on : DefAt K mg "goes_on" sgoes_on ["one", "other"] fG fdG) : FnOk P w K mg base CX0 2 f fd ["items"] spPlainItems := by
  have ggoes_on : FnOk P w K mg base CX0 1 fG fdG ["one", "other"] spGoes := ok_goes_on dgoes_on.F T
  refine F.ok scplain_items (fun vs H Q E h => ?_) (fun cdv A outer s H vs Q E hr h => ?_)
  · obtain ⟨r, its, rfl, _⟩ := h
    rfl
  obtain ⟨r, its, rfl, ⟨a, ivs, e, hr1, hit⟩, hlen, k⟩ := h
  cases e
  refine ⟨_, (pss_cons (ps_set (i := 1) scplain_items.nd rfl (Or.inl rfl) (pe_lst pa_nil))
      (pss_cons (ps_for PassesOwn.never rfl (pi_list (pv 0)) (pg_name (i := 2) scplain_items.nd rfl (Or.inl rfl))
      (pss_one (ps_if (PW.pt (pw_and (pt_truth (pv 1) (fun _ => rfl)) (pw_and1 (pt_val (pe_def dgoes_on ggoes_on hr (pa_cons (pe_ix ix_list (pv 1) (pe_un un_neg pe_int) (fun _ _ => rfl)) (pa_cons (pv 2) pa_nil)))))))
      (pss_one (ps_asg (pe_tup (pa_cons pe_str (pa_cons (pe_ix ix_tup (pe_ix ix_list (pv 1) (pe_un un_neg pe_int) (fun _ _ => rfl)) pe_int (fun _ _ => rfl)) (pa_cons (pe_ix ix_tup (pv 2) pe_int (fun _ _ => rfl)) pa_nil)))) (pg_sub (pv 1) (pe_un un_neg pe_int) set_list)))
      (pss_one (ps_expr (pe_bm PySem.F.plainAttrs_list PySem.F.slot_list_append PySem.F.type_list_append mt_append (pv 1) (pa_cons (pv 2) pa_nil)))))))
      (pss_one (ps_ret (pv 1))))), ?_⟩
  refine ⟨(by show 0 ≤ sizeLine; decide), fun q hq => ?_⟩
  have s0 : Same H (upd H q (.lst [])) := same_new hq _
  refine ⟨_, rfl, r, rfl, ⟨_, SqL.of (s0 _ _ hr1)⟩, for_list (K := K) (a := r) (xs := ivs) (fun i σ H2 => ∃ (vs : List V) (u : Option V), σ = [some (.ref r), some (.ref q), u] ∧ H2 q = some (.lst vs) ∧ All2 (ItemAt H2) vs ((its.take i).foldl plainIStep []) ∧ Same H H2)
    ⟨[], none, rfl, upd_same, .nil, s0⟩ (fun i σ H2 _ ⟨_, _, _, _, _, s⟩ => SqL.of (s _ _ hr1)) ?_ ?_⟩
  · rintro i x σ H2 hi ⟨vs, u, rfl, hq2, hb, s⟩
    obtain ⟨it, ei, hiv⟩ := hit.get hi
    have hx2 := hiv.same s
    have step : (its.take (i + 1)).foldl plainIStep [] = plainIStep ((its.take i).foldl plainIStep []) it := by rw [take_snoc ei, List.foldl_append]; rfl
    have bl : vs.length < sizeLine := by
      have z := hb.len
      have z2 := plainI_len (its.take i) []
      rw [List.length_take, List.length_nil] at z2
      exact million (by omega)
    have app : plainIStep ((its.take i).foldl plainIStep []) it = (its.take i).foldl plainIStep [] ++ [it] → ∃ (vs' : List V) (u' : Option V), [some (V.ref r), some (.ref q), some x] = [some (.ref r), some (.ref q), u'] ∧ (upd H2 q (.lst (vs ++ [x]))) q = some (.lst vs') ∧ All2 (ItemAt (upd H2 q (.lst (vs ++ [x])))) vs' ((its.take (i + 1)).foldl plainIStep []) ∧ Same H (upd H2 q (.lst (vs ++ [x]))) := fun e => by
      refine ⟨_, _, rfl, upd_same, ?_, keep_of hq s (keep_upd q _ _)⟩
      rw [step, e]
      exact All2.snoc (hb.mono fun v i h => h.keep hq2 (keep_upd q _ _)) (hx2.keep hq2 (keep_upd q _ _))
    rcases List.eq_nil_or_concat ((its.take i).foldl plainIStep []) with hn | ⟨t0, l0, hn⟩
    · have hvs : vs = [] := by
        rw [hn] at hb
        exact List.eq_nil_of_length_eq_zero hb.len
      subst hvs
      refine ⟨_, rfl, false, .inl ⟨_, SqL.of hq2, rfl⟩, iteF (iteF ?_)⟩
      refine ⟨_, rfl, .inl ⟨rfl, _, SqL.of hq2⟩, _, rfl, q, _, _, rfl, rfl, hq2, bl, app ?_⟩
      rw [hn]
      rfl
    · rw [List.concat_eq_append] at hn
      have hb' := hb
      rw [hn] at hb'
      obtain ⟨us, v0, rfl, hb0, hv0⟩ := hb'.split
      obtain ⟨a0, rfl, ha0⟩ := id hv0
      refine ⟨_, rfl, true, .inl ⟨_, SqL.of hq2, by simp⟩, iteT ?_⟩
      refine ⟨_, rfl, _, rfl, q, _, _, _, rfl, rfl, SqL.of hq2, atI_neg1 _ _, _, rfl, _, _, l0, it, rfl, hv0, hx2, _, rfl, ?_⟩
      cases l0 with
      | win n =>
        refine iteF ?_
        refine ⟨_, rfl, .inl ⟨rfl, _, SqL.of hq2⟩, _, rfl, q, _, _, rfl, rfl, hq2, bl, app ?_⟩
        rw [hn]
        unfold plainIStep
        rw [List.getLast?_concat]
      | ink p1 p2 =>
        cases it with
        | win n =>
          refine iteF ?_
          refine ⟨_, rfl, .inl ⟨rfl, _, SqL.of hq2⟩, _, rfl, q, _, _, rfl, rfl, hq2, bl, app ?_⟩
          rw [hn]
          unfold plainIStep
          rw [List.getLast?_concat]
        | ink c d =>
          refine ite2 (fun z => ?_) (fun z => ?_)
          · have e2 : p2 = c := of_decide_eq_true z
            obtain ⟨ax, rfl, hax⟩ := id hx2
            refine ⟨_, rfl, _, rfl, q, _, _, _, rfl, rfl, SqL.of hq2, atI_neg1 _ _, a0, _, _, _, rfl, rfl, SqT.of ha0, rfl, _, rfl, ax, _, _, _, rfl, rfl, SqT.of hax, rfl, (by show 3 ≤ sizeLine; decide), fun t ht => ?_⟩
            refine ⟨_, rfl, _, rfl, q, _, _, us.length, rfl, rfl, same_new ht _ _ _ hq2, (by rw [List.length_append]; exact ixN_neg1 _), ?_⟩
            rw [set_last]
            refine ⟨_, _, rfl, upd_same, ?_, keep_of hq (s.trans (same_new ht _)) (keep_upd q _ _)⟩
            have e3 : (its.take (i + 1)).foldl plainIStep [] = t0 ++ [.ink p1 d] := by
              rw [step, hn]
              unfold plainIStep
              rw [List.getLast?_concat, List.dropLast_concat]
              show (if p2 = c then t0 ++ [Item.ink p1 d] else _) = _
              rw [if_pos e2]
            rw [e3]
            exact All2.new (it := .ink p1 d) hq2 hb0 ht _
          · have e2 : ¬ p2 = c := fun w => z (decide_eq_true w)
            refine ⟨_, rfl, .inl ⟨rfl, _, SqL.of hq2⟩, _, rfl, q, _, _, rfl, rfl, hq2, bl, app ?_⟩
            rw [hn]
            unfold plainIStep
            rw [List.getLast?_concat]
            show (if p2 = c then _ else t0 ++ [Item.ink p1 p2] ++ [Item.ink c d]) = _
            rw [if_neg e2]
  · rintro σ H2 ⟨vs, u, rfl, hq2, hb, s⟩
    rw [hit.len, List.take_length] at hb
    exact ⟨_, rfl, k q H2 ⟨q, vs, rfl, hq2, hb⟩ s hq⟩

def spItems : Sp := fun vs H Q _ => ∃ (e : Addr) (es : List Int), vs = [.ref e] ∧ H e = some (.lst (es.map V.int)) ∧ es.length ≤ 100000 ∧
  ∀ (o : Addr) (H' : Hp), ItemsAt H' (.ref o) (itemsOf es) → Same H H' → H o = none → Q (.ref o) H'
abbrev s_law_items_of : Stmt := top 26
theorem sc_law_items_of : FnScope ["_law_entries", "_law_items", "_law_entry"] ["_law_entries"] (defScope s_law_items_of) := ⟨rfl, rfl, rfl, by decide +kernel, rfl, by decide +kernel, by decide +kernel⟩
theorem ok_law_items_of {f : Addr} {fd : FuncData} (F : Fun K "_law_items_of" "_law_items_of" s_law_items_of f fd) (T : Nms mg) : FnOk P w K mg base CX0 1 f fd ["_law_entries"] spItems := by
  refine F.ok sc_law_items_of (fun vs H Q E h => ?_) (fun cdv A outer s H vs Q E hr h => ?_)
  · obtain ⟨r, row, rfl, _⟩ := h
    rfl
  obtain ⟨e, es, rfl, he, hlen, k⟩ := h
  refine ⟨_, (pss_cons (ps_set (i := 1) sc_law_items_of.nd rfl (Or.inl rfl) (pe_lst pa_nil))
      (pss_cons (ps_for PassesOwn.never rfl (pi_list (pv 0)) (pg_name (i := 2) sc_law_items_of.nd rfl (Or.inl rfl))
      (pss_one (ps_if (pt_cmpR op_lt (pv 2) pe_int (nomark _))
      (pss_one (ps_expr (pe_bm PySem.F.plainAttrs_list PySem.F.slot_list_append PySem.F.type_list_append mt_append (pv 1) (pa_cons (pe_tup (pa_cons pe_str (pa_cons (pe_op op_sub (pe_un un_neg pe_int) (pv 2)) pa_nil))) pa_nil))))
      (pss_one (ps_if (PW.pt (pw_and (pt_cmpR op_gt (pe_callB call_len_seq rfl T.n_len PySem.boot_len (pa_cons (pv 1) pa_nil)) pe_int (nomark _)) (pw_and (pt_cmpR op_eq (pe_ix ix_tup (pe_ix ix_list (pv 1) (pe_un un_neg pe_int) (fun _ _ => rfl)) pe_int (fun _ _ => rfl)) pe_str (nomark _)) (pw_and1 (pt_cmpR op_eq (pe_ix ix_tup (pe_ix ix_list (pv 1) (pe_un un_neg pe_int) (fun _ _ => rfl)) pe_int (fun _ _ => rfl)) (pv 2) (nomark _))))))
      (pss_one (ps_asg (pe_tup (pa_cons pe_str (pa_cons (pe_ix ix_tup (pe_ix ix_list (pv 1) (pe_un un_neg pe_int) (fun _ _ => rfl)) pe_int (fun _ _ => rfl)) (pa_cons (pe_op op_add (pv 2) pe_int) pa_nil)))) (pg_sub (pv 1) (pe_un un_neg pe_int) set_list)))
      (pss_one (ps_expr (pe_bm PySem.F.plainAttrs_list PySem.F.slot_list_append PySem.F.type_list_append mt_append (pv 1) (pa_cons (pe_tup (pa_cons pe_str (pa_cons (pv 2) (pa_cons (pe_op op_add (pv 2) pe_int) pa_nil)))) pa_nil)))))))))
      (pss_one (ps_ret (pv 1))))), ?_⟩
  refine ⟨(by show 0 ≤ sizeLine; decide), fun q hq => ?_⟩
  have s0 : Same H (upd H q (.lst [])) := same_new hq _
  refine ⟨_, rfl, e, rfl, ⟨_, SqL.of (s0 _ _ he)⟩, for_list (K := K) (a := e) (xs := es.map V.int) (fun i σ H2 => ∃ (vs : List V) (u : Option V), σ = [some (.ref e), some (.ref q), u] ∧ H2 q = some (.lst vs) ∧ All2 (ItemAt H2) vs ((es.take i).foldl itemsStep []) ∧ Same H H2)
    ⟨[], none, rfl, upd_same, .nil, s0⟩ (fun i σ H2 _ ⟨_, _, _, _, _, s⟩ => SqL.of (s _ _ he)) ?_ ?_⟩
  · rintro i x σ H2 hi ⟨vs, u, rfl, hq2, hb, s⟩
    rw [List.getElem?_map] at hi
    obtain ⟨x, ex, rfl⟩ := Option.map_eq_some_iff.mp hi
    have step : (es.take (i + 1)).foldl itemsStep [] = itemsStep ((es.take i).foldl itemsStep []) x := by rw [take_snoc ex, List.foldl_append]; rfl
    have bl : vs.length < sizeLine := by
      have z := hb.len
      have z2 := items_len (es.take i) []
      rw [List.length_take, List.length_nil] at z2
      exact million (by omega)
    refine ⟨_, rfl, _, _, rfl, rfl, _, rfl, ite2 (fun c => ?_) (fun c => ?_)⟩
    · have c' : x < 0 := of_decide_eq_true c
      rw [itemsStep, if_pos c'] at step
      refine ⟨_, rfl, .inl ⟨rfl, _, SqL.of hq2⟩, _, rfl, _, rfl, _, _, rfl, rfl, (by show 2 ≤ sizeLine; decide), fun t ht => ⟨q, _, _, rfl, rfl, same_new ht _ _ _ hq2, bl, ?_⟩⟩
      refine ⟨vs ++ [.ref t], _, rfl, upd_same, ?_, keep_of hq (s.trans (same_new ht _)) (keep_upd q _ _)⟩
      rw [step]
      exact All2.new (it := .win (-1 - x)) hq2 hb ht _
    · have c' : ¬ x < 0 := fun z => c (decide_eq_true z)
      rw [itemsStep, if_neg c'] at step
      rcases List.eq_nil_or_concat ((es.take i).foldl itemsStep []) with hn | ⟨t0, l0, hn⟩
      · rw [hn] at hb step
        have hvs : vs = [] := List.eq_nil_of_length_eq_zero hb.len
        subst hvs
        refine ⟨_, rfl, q, _, rfl, .inl (SqL.of hq2), _, _, rfl, rfl, _, rfl, iteF (iteF ?_)⟩
        refine ⟨_, rfl, .inl ⟨rfl, _, SqL.of hq2⟩, _, rfl, _, rfl, _, _, rfl, rfl, (by show 3 ≤ sizeLine; decide), fun t ht => ⟨q, _, _, rfl, rfl, same_new ht _ _ _ hq2, bl, ?_⟩⟩
        refine ⟨[] ++ [.ref t], _, rfl, upd_same, ?_, keep_of hq (s.trans (same_new ht _)) (keep_upd q _ _)⟩
        rw [step]
        exact All2.new (it := .ink x (x + 1)) hq2 hb ht _
      · rw [List.concat_eq_append] at hn
        rw [hn, List.getLast?_concat, List.dropLast_concat] at step
        rw [hn] at hb
        obtain ⟨us, v0, rfl, hb0, a0, rfl, ha0⟩ := hb.split
        refine ⟨_, rfl, q, _, rfl, .inl (SqL.of hq2), _, _, rfl, rfl, _, rfl, ite2 (fun _ => ?_) (fun z => absurd (decide_eq_true (by simp)) z)⟩
        cases l0 with
        | win n =>
          refine ⟨_, rfl, _, rfl, q, _, _, _, rfl, rfl, SqL.of hq2, atI_neg1 _ _, a0, _, _, _, rfl, rfl, SqT.of ha0, rfl, rfl, _, rfl, ite2 (fun z => absurd z (by decide)) (fun _ => iteF ?_)⟩
          refine ⟨_, rfl, .inl ⟨rfl, _, SqL.of hq2⟩, _, rfl, _, rfl, _, _, rfl, rfl, (by show 3 ≤ sizeLine; decide), fun t ht => ⟨q, _, _, rfl, rfl, same_new ht _ _ _ hq2, bl, ?_⟩⟩
          refine ⟨_, _, rfl, upd_same, ?_, keep_of hq (s.trans (same_new ht _)) (keep_upd q _ _)⟩
          rw [step]
          exact All2.new (it := .ink x (x + 1)) hq2 hb ht _
        | ink p1 p2 =>
          refine ⟨_, rfl, _, rfl, q, _, _, _, rfl, rfl, SqL.of hq2, atI_neg1 _ _, a0, _, _, _, rfl, rfl, SqT.of ha0, rfl, rfl, _, rfl, ite2 (fun _ => ?_) (fun z => absurd (by decide) z)⟩
          refine ⟨_, rfl, _, rfl, q, _, _, _, rfl, rfl, SqL.of hq2, atI_neg1 _ _, a0, _, _, _, rfl, rfl, SqT.of ha0, rfl, _, rfl, rfl, _, rfl, ite2 (fun c2 => ?_) (fun c2 => ?_)⟩
          · have e2 : p2 = x := V.int.inj (of_decide_eq_true c2)
            refine ⟨_, rfl, _, rfl, q, _, _, _, rfl, rfl, SqL.of hq2, atI_neg1 _ _, a0, _, _, _, rfl, rfl, SqT.of ha0, rfl, _, rfl, _, _, rfl, rfl, (by show 3 ≤ sizeLine; decide), fun t ht => ?_⟩
            refine ⟨_, rfl, _, rfl, q, _, _, us.length, rfl, rfl, same_new ht _ _ _ hq2, (by rw [List.length_append]; exact ixN_neg1 _), ?_⟩
            rw [set_last]
            refine ⟨_, _, rfl, upd_same, ?_, keep_of hq (s.trans (same_new ht _)) (keep_upd q _ _)⟩
            rw [step]
            show All2 _ _ (if p2 = x then t0 ++ [Item.ink p1 (x + 1)] else _)
            rw [if_pos e2]
            exact All2.new (it := .ink p1 (x + 1)) hq2 hb0 ht _
          · have e2 : ¬ p2 = x := fun z => c2 (decide_eq_true (congrArg V.int z))
            refine ⟨_, rfl, .inl ⟨rfl, _, SqL.of hq2⟩, _, rfl, _, rfl, _, _, rfl, rfl, (by show 3 ≤ sizeLine; decide), fun t ht => ⟨q, _, _, rfl, rfl, same_new ht _ _ _ hq2, bl, ?_⟩⟩
            refine ⟨_, _, rfl, upd_same, ?_, keep_of hq (s.trans (same_new ht _)) (keep_upd q _ _)⟩
            rw [step]
            show All2 _ _ (if p2 = x then _ else t0 ++ [Item.ink p1 p2] ++ [Item.ink x (x + 1)])
            rw [if_neg e2]
            exact All2.new (it := .ink x (x + 1)) hq2 hb ht _
  · rintro σ H2 ⟨vs, u, rfl, hq2, hb, s⟩
    rw [List.length_map, List.take_length] at hb
    exact ⟨_, rfl, k q H2 ⟨q, vs, rfl, hq2, hb⟩ s hq⟩

theorem ItemsAt.keep {H H' : Hp} {a q : Addr} {its : List Item} {xs : List V} (hq : H q = some (.lst xs)) (n : a ≠ q) (k : Keep q H H') : ItemsAt H (.ref a) its → ItemsAt H' (.ref a) its := by
  rintro ⟨b, vs, e, h, t⟩
  cases e
  exact ⟨a, vs, rfl, k a _ h n, t.mono fun _ _ => ItemAt.keep hq k⟩
def spCopied : Sp := fun vs H Q _ => ∃ (av : Addr → Prop) (r : Addr) (rows : List (List Int)), vs = [.ref r] ∧ RowsAt av H r rows ∧ rows.length ≤ 1000 ∧ (∀ es ∈ rows, es.length ≤ 1000) ∧
  ∀ (o : Addr) (H' : Hp), SheetsAt H' o (rows.map itemsOf) → Same H H' → H o = none → Q (.ref o) H'
abbrev s_law_copied : Stmt := top 32
theorem sc_law_copied : FnScope ["_law_rows"] ["_law_rows"] (defScope s_law_copied) := ⟨rfl, rfl, rfl, by decide +kernel, rfl, by decide +kernel, by decide +kernel⟩
theorem ok_law_copied {f fI : Addr} {fd fdI : FuncData} (F : Fun K "_law_copied" "_law_copied" s_law_copied f fd) (T : Nms mg) (d_law_items_of : DefAt K mg "_law_items_of" s_law_items_of ["_law_entries"] fI fdI) : FnOk P w K mg base CX0 2 f fd ["_law_rows"] spCopied := by
  have g_law_items_of : FnOk P w K mg base CX0 1 fI fdI ["_law_entries"] spItems := ok_law_items_of d_law_items_of.F T
  refine F.ok sc_law_copied (fun vs H Q E h => ?_) (fun cdv A outer s H vs Q E hr h => ?_)
  · obtain ⟨av, n, ns, rfl, _⟩ := h
    rfl
  obtain ⟨av, r, rows, rfl, ⟨vs, hr1, hp⟩, hlen, hes, k⟩ := h
  refine ⟨_, (pss_one (ps_ret (pe_comp (N := ["_law_row"]) ⟨rfl, by decide +kernel, by decide +kernel, by decide +kernel⟩ rfl (pi_list (pv 0)) (fun _ _ _ _ _ => (pg_name (i := 0) (show List.Nodup (["_law_row"] : List Str) by decide +kernel) rfl (Or.inl rfl))) (fun _ _ _ _ _ => pts_nil) (fun _ _ _ _ _ => (pe_def d_law_items_of g_law_items_of hr (pa_cons (pv 0) pa_nil)))))), ?_⟩
  refine ⟨_, rfl, r, rfl, ⟨_, SqL.of hr1⟩, fun acc hacc => comp_list (K := K) (a := r) (xs := vs) (fun i σ H2 => ∃ (u : Option V) (zs : List V), σ = [u] ∧ H2 acc = some (.lst zs) ∧ All2 (fun v its => ∃ a, v = .ref a ∧ a ≠ acc ∧ ItemsAt H2 v its) zs ((rows.take i).map itemsOf) ∧ Same H H2)
    ⟨none, [], rfl, upd_same, .nil, same_new hacc _⟩ (fun i σ H2 _ ⟨_, _, _, _, _, s⟩ => SqL.of (s _ _ hr1)) ?_ ?_⟩
  · rintro i x σ H2 hi ⟨u, zs, rfl, ha, hz, s⟩
    obtain ⟨es, ei, b, rfl, _, hb⟩ := hp.get hi
    have hel := hes es (List.mem_of_getElem? ei)
    have step : (rows.take (i + 1)).map itemsOf = (rows.take i).map itemsOf ++ [itemsOf es] := by rw [take_snoc ei, List.map_append]; rfl
    have zl := hz.len
    rw [List.length_map, List.length_take] at zl
    unfold gName tYes
    refine iteT ?_
    refine ⟨_, rfl, b, es, rfl, s _ _ hb, by omega, fun o H4 I4 s4 ho => ?_⟩
    have ha4 := s4 _ _ ha
    have no : o ≠ acc := (ne_of_none ha ho).symm
    refine ⟨zs, ha4, million (by omega), _, _, rfl, upd_same, ?_, keep_of hacc (s.trans s4) (keep_upd acc _ _)⟩
    rw [step]
    refine All2.snoc (hz.mono ?_) ⟨o, rfl, no, I4.keep ha4 no (keep_upd acc _ _)⟩
    rintro v its ⟨a, rfl, na, I⟩
    exact ⟨a, rfl, na, (I.same s4).keep ha4 na (keep_upd acc _ _)⟩
  · rintro σ H2 ⟨u, zs, rfl, ha, hz, s⟩
    rw [hp.len, List.take_length] at hz
    exact k acc H2 ⟨zs, ha, hz.mono fun v its ⟨_, _, _, I⟩ => I⟩ s hacc

def spOrder : Sp := fun vs H Q _ => ∃ (l c : Addr) (m : Int), vs = [.ref l, .int m] ∧ SrcOk H l c ∧ 0 ≤ m ∧ m ≤ 1000 ∧
  ∀ (q : Addr) (os : List Int) (H' : Hp), H' q = some (.lst (os.map V.int)) → os.length = m.toNat → os.Nodup → (∀ e ∈ os, 0 ≤ e ∧ e < m) → SrcOk H' l c → Keep l H H' → H q = none → Q (.ref q) H'
abbrev s_law_order : Stmt := top 28
theorem sc_law_order : FnScope ["_law_src_here", "_law_many", "_law_order_here", "_law_k"] ["_law_src_here", "_law_many"] (defScope s_law_order) := ⟨rfl, rfl, rfl, by decide +kernel, rfl, by decide +kernel, by decide +kernel⟩
theorem ok_law_order {f fN : Addr} {fd fdN : FuncData} (F : Fun K "_law_order" "_law_order" s_law_order f fd) (T : Nms mg) (d_law_next : DefAt K mg "_law_next" s_law_next ["_law_src_here", "_law_base"] fN fdN) : FnOk P w K mg base CX0 2 f fd ["_law_src_here", "_law_many"] spOrder := by
  have g_law_next : FnOk P w K mg base CX0 1 fN fdN ["_law_src_here", "_law_base"] spNext := ok_law_next d_law_next.F T
  refine F.ok sc_law_order (fun vs H Q E h => ?_) (fun cdv A outer s H vs Q E hr h => ?_)
  · obtain ⟨l, c, m, rfl, _⟩ := h
    rfl
  obtain ⟨l, c, m, rfl, S1, m0, m1, k⟩ := h
  refine ⟨_, (pss_cons (ps_set (i := 2) sc_law_order.nd rfl (Or.inl rfl) (pe_lst pa_nil))
      (pss_cons (ps_for PassesOwn.never rfl (pi_range1 rfl T.n_range (pa_cons (pv 1) pa_nil)) (pg_name (i := 3) sc_law_order.nd rfl (Or.inl rfl))
      (pss_one (ps_expr (pe_bm PySem.F.plainAttrs_list PySem.F.slot_list_insert PySem.F.type_list_insert mt_insert (pv 2) (pa_cons (pe_def d_law_next g_law_next hr (pa_cons (pv 0) (pa_cons (pe_op op_add (pv 3) pe_int) pa_nil))) (pa_cons (pv 3) pa_nil))))))
      (pss_one (ps_ret (pv 2))))), ?_⟩
  refine ⟨(by show 0 ≤ sizeLine; decide), fun q hq => ?_⟩
  have nql : q ≠ l := (S1.ne hq).1.symm
  have nqc : q ≠ c := (S1.ne hq).2.symm
  have S2 := S1.same (same_new hq (.lst []))
  refine ⟨_, rfl, m, rfl, by omega, by omega, ?_⟩
  refine for_range (lo := 0) (n := m.toNat) (fun i σ H2 => ∃ (os : List Int) (a : Option V), σ = [some (.ref l), some (.int m), some (.ref q), a] ∧ SrcOk H2 l c ∧ H2 q = some (.lst (os.map V.int)) ∧ os.length = i ∧ os.Nodup ∧ (∀ e ∈ os, 0 ≤ e ∧ e < i) ∧ Keep l H H2) ?_ ?_ ?_
  · exact ⟨[], none, rfl, S2, upd_same, rfl, List.nodup_nil, (fun es he => by cases he), fun a o e _ => same_new hq _ a o e⟩
  · rintro i σ H2 hi ⟨os, a, rfl, S3, h3, hl3, hn3, he3, K3⟩
    refine ⟨_, rfl, .inl ⟨rfl, _, SqL.of h3⟩, _, rfl, _, rfl, _, _, rfl, rfl, l, c, _, rfl, S3, by omega, by omega, fun w H4 w0 w1 S4 k4 => ?_⟩
    have h4 : H4 q = some (.lst (os.map V.int)) := by rw [k4 q nql]; exact h3
    refine ⟨_, rfl, q, _, _, _, rfl, rfl, h4, w0, (by rw [List.length_map]; omega), (by rw [List.length_map]; exact million (by omega)), ?_⟩
    refine ⟨os.take w.toNat ++ [0 + (i : Int)] ++ os.drop w.toNat, _, rfl, S4.keep (keep_upd q _ _) nql.symm nqc.symm, ?_, ?_, ?_, fun e he => ?_, fun a o e n => ?_⟩
    · rw [upd_same]
      unfold insV
      simp
    · simp
      omega
    · have pm : (os.take w.toNat ++ [0 + (i : Int)] ++ os.drop w.toNat).Perm ((0 + (i : Int)) :: os) := by
        rw [List.append_assoc, List.singleton_append]
        refine List.perm_middle.trans ?_
        rw [List.take_append_drop]
      rw [pm.nodup_iff, List.nodup_cons]
      refine ⟨fun z => ?_, hn3⟩
      have := he3 _ z
      omega
    · rcases List.mem_append.mp he with z | z
      · rcases List.mem_append.mp z with z | z
        · have := he3 e (List.mem_of_mem_take z)
          omega
        · have : e = 0 + (i : Int) := by simpa using z
          omega
      · have := he3 e (List.mem_of_mem_drop z)
        omega
    · rw [upd_ne (ne_of_none e hq), k4 a n]
      exact K3 a o e n
  · rintro σ H2 ⟨os, a, rfl, S3, h3, hl3, hn3, he3, K3⟩
    exact ⟨_, rfl, k q os H2 h3 hl3 hn3 (fun e he => by have := he3 e he; omega) S3 K3 hq⟩

theorem at_neg {os : List Int} {j : Int} (h0 : 0 ≤ j) (h1 : j < os.length) : ∃ o ∈ os, atI (os.map V.int) (-1 - j) = some (.int o) := by
  have hb : os.length - 1 - j.toNat < os.length := by omega
  refine ⟨os[os.length - 1 - j.toNat], List.getElem_mem _, ?_⟩
  unfold atI ixN
  rw [List.length_map, if_neg (by omega), if_pos (by omega)]
  have e : (-1 - j + (os.length : Int)).toNat = os.length - 1 - j.toNat := by omega
  show (os.map V.int)[(-1 - j + (os.length : Int)).toNat]? = _
  rw [e, List.getElem?_map, List.getElem?_eq_getElem hb]
  rfl
def spEnts : Sp := fun vs H Q _ => ∃ (l c d : Addr) (low : List Int) (m : Int), vs = [.ref l, .ref d, .int m] ∧ SrcOk H l c ∧ H d = some (.lst (low.map V.int)) ∧ d ≠ l ∧ low.length ≤ 1000 ∧ (∀ o ∈ low, 0 ≤ o) ∧ 0 ≤ m ∧ m ≤ 100 ∧
  ∀ (q : Addr) (es : List Int) (H' : Hp), H' q = some (.lst (es.map V.int)) → es.length ≤ m.toNat → (winsE es).length ≤ 2 → (∀ e ∈ es, (e < 0 → -1 - e ∈ low) ∧ e < 12 + m) → SrcOk H' l c → Keep l H H' → H q = none → Q (.ref q) H'
def entT : TS := fun D σ H => ∃ (l c d q : Addr) (low es : List Int) (m wins way : Int) (kk : Option V), σ = [some (.ref l), some (.ref d), some (.int m), some (.ref q), some (.int wins), kk, some (.int way)] ∧ SrcOk H l c ∧ H d = some (.lst (low.map V.int)) ∧ d ≠ l ∧ H q = some (.lst (es.map V.int)) ∧ q ≠ l ∧ low.length ≤ 1000 ∧ (∀ o ∈ low, 0 ≤ o) ∧ es.length ≤ 1000 ∧
  ∀ (e wins' : Int) (H' : Hp), (e < 0 → -1 - e ∈ low) → (e < 12 ∨ ∃ e' ∈ es, e = e' + 1) → (e < 0 → wins < 2 ∧ wins' = wins + 1) → (¬ e < 0 → wins' = wins) → SrcOk H' l c → (∀ a, a ≠ l → H' a = H a) → D.nx [some (.ref l), some (.ref d), some (.int m), some (.ref q), some (.int wins'), kk, some (.int way)] (upd H' q (.lst (es.map V.int ++ [.int e])))
abbrev s_law_entries_by : Stmt := top 29
theorem sc_law_entries_by : FnScope ["_law_src_here", "_law_lower", "_law_most", "_law_entries", "_law_wins", "_law_k", "_law_way"] ["_law_src_here", "_law_lower", "_law_most"] (defScope s_law_entries_by) := ⟨rfl, rfl, rfl, by decide +kernel, rfl, by decide +kernel, by decide +kernel⟩
theorem ok_law_entries_by {f fN : Addr} {fd fdN : FuncData} (F : Fun K "_law_entries_by" "_law_entries_by" s_law_entries_by f fd) (T : Nms mg) (d_law_next : DefAt K mg "_law_next" s_law_next ["_law_src_here", "_law_base"] fN fdN) : FnOk P w K mg base CX0 2 f fd ["_law_src_here", "_law_lower", "_law_most"] spEnts := by
  have g_law_next : FnOk P w K mg base CX0 1 fN fdN ["_law_src_here", "_law_base"] spNext := ok_law_next d_law_next.F T
  refine F.ok sc_law_entries_by (fun vs H Q E h => ?_) (fun cdv A outer s H vs Q E hr h => ?_)
  · obtain ⟨l, c, d, low, m, rfl, _⟩ := h
    rfl
  obtain ⟨l, c, d, low, m, rfl, S1, hd, ndl, hlow, hlo, m0, m1, k⟩ := h
  refine ⟨_, (pss_cons (ps_set (i := 3) sc_law_entries_by.nd rfl (Or.inl rfl) (pe_lst pa_nil))
      (pss_cons (ps_set (i := 4) sc_law_entries_by.nd rfl (Or.inl rfl) pe_int)
      (pss_cons (ps_for PassesOwn.never rfl (pi_range1 rfl T.n_range (pa_cons (pe_def d_law_next g_law_next hr (pa_cons (pv 0) (pa_cons (pe_op op_add (pv 2) pe_int) pa_nil))) pa_nil)) (pg_name (i := 5) sc_law_entries_by.nd rfl (Or.inl rfl))
      (pss_cons (ps_set (i := 6) sc_law_entries_by.nd rfl (Or.inl rfl) (pe_def d_law_next g_law_next hr (pa_cons (pv 0) (pa_cons pe_int pa_nil))))
      (pss_one (ps_imp (t' := entT) (ps_if (PW.pt (pw_and (pt_cmpR op_lt (pv 6) pe_int (nomark _)) (pw_and (pt_cmpR op_lt (pv 4) pe_int (nomark _)) (pw_and1 (pt_cmpR op_gt (pe_callB call_len_seq rfl T.n_len PySem.boot_len (pa_cons (pv 1) pa_nil)) pe_int (nomark _))))))
      (pss_cons (ps_expr (pe_bm PySem.F.plainAttrs_list PySem.F.slot_list_append PySem.F.type_list_append mt_append (pv 3) (pa_cons (pe_op op_sub (pe_un un_neg pe_int) (pe_ix ix_list (pv 1) (pe_op op_sub (pe_un un_neg pe_int) (pe_def d_law_next g_law_next hr (pa_cons (pv 0) (pa_cons (pe_callB (call_min2 rfl) rfl T.n_min PyProof.Rows.boot_min (pa_cons pe_int (pa_cons (pe_callB call_len_seq rfl T.n_len PySem.boot_len (pa_cons (pv 1) pa_nil)) pa_nil))) pa_nil)))) (fun _ _ => rfl))) pa_nil)))
      (pss_one (ps_set (i := 4) sc_law_entries_by.nd rfl (Or.inl rfl) (pe_op op_add (pv 4) pe_int))))
      (pss_one (ps_imp (t' := entT) (ps_if (PW.pt (pw_and (pt_cmpR op_eq (pv 6) pe_int (nomark _)) (pw_and (pt_cmpR op_gt (pe_callB call_len_seq rfl T.n_len PySem.boot_len (pa_cons (pv 3) pa_nil)) pe_int (nomark _)) (pw_and1 (pt_cmpR op_ge (pe_ix ix_list (pv 3) (pe_un un_neg pe_int) (fun _ _ => rfl)) pe_int (nomark _))))))
      (pss_one (ps_expr (pe_bm PySem.F.plainAttrs_list PySem.F.slot_list_append PySem.F.type_list_append mt_append (pv 3) (pa_cons (pe_op op_add (pe_ix ix_list (pv 3) (pe_un un_neg pe_int) (fun _ _ => rfl)) pe_int) pa_nil))))
      (pss_one (ps_imp (t' := entT) (ps_expr (pe_bm PySem.F.plainAttrs_list PySem.F.slot_list_append PySem.F.type_list_append mt_append (pv 3) (pa_cons (pe_def d_law_next g_law_next hr (pa_cons (pv 0) (pa_cons pe_int pa_nil))) pa_nil))) ?b3))) ?b2))) ?b1))))
      (pss_one (ps_ret (pv 3)))))), ?_⟩
  case b1 =>
    rintro D σ H ⟨l, c, d, q, low, es, m, wins, way, kk, rfl, S, hd, ndl, hq, nql, hlow, hlo, hes, k⟩
    have els : entT D [some (.ref l), some (.ref d), some (.int m), some (.ref q), some (.int wins), kk, some (.int way)] H := ⟨l, c, d, q, low, es, m, wins, way, kk, rfl, S, hd, ndl, hq, nql, hlow, hlo, hes, k⟩
    refine ⟨_, rfl, _, _, rfl, rfl, _, rfl, ite2 (fun _ => ?_) (fun _ => iteF els)⟩
    refine ⟨_, rfl, _, _, rfl, rfl, _, rfl, ite2 (fun c2 => ?_) (fun _ => iteF els)⟩
    have w2 : wins < 2 := of_decide_eq_true c2
    refine ⟨_, rfl, d, _, rfl, .inl (SqL.of hd), _, _, rfl, rfl, _, rfl, ite2 (fun c3 => ?_) (fun _ => els)⟩
    have hpos : 0 < (low.length : Int) := by have z := of_decide_eq_true c3; rw [List.length_map] at z; exact z
    have hmin : ∀ z : Int, z = (if ((low.map V.int).length : Int) < 3 then ((low.map V.int).length : Int) else 3) → 0 < z ∧ z ≤ low.length ∧ z ≤ 3 := fun z hz => by
      rw [List.length_map] at hz
      rw [hz]
      split <;> omega
    obtain ⟨z0, z1, z2⟩ := hmin _ rfl
    refine ⟨_, rfl, .inl ⟨rfl, _, SqL.of hq⟩, _, rfl, _, rfl, _, rfl, _, rfl, _, rfl, d, _, rfl, .inl (SqL.of hd), _, _, rfl, l, c, _, rfl, S, z0, by omega, fun j H1 j0 j1 S1 k1 => ⟨_, _, rfl, rfl, ?_⟩⟩
    obtain ⟨o, ho, ao⟩ := at_neg (os := low) (j := j) j0 (by omega)
    have hd1 : H1 d = some (.lst (low.map V.int)) := by rw [k1 d ndl]; exact hd
    have hq1 : H1 q = some (.lst (es.map V.int)) := by rw [k1 q nql]; exact hq
    refine ⟨d, _, _, _, rfl, rfl, SqL.of hd1, ao, _, _, rfl, rfl, q, _, _, rfl, rfl, hq1, (by rw [List.length_map]; exact million (by omega)), ?_⟩
    refine ⟨_, rfl, _, _, rfl, rfl, ?_⟩
    have lo0 := hlo o ho
    refine k (-1 - o) _ H1 (fun _ => ?_) ?_ (fun _ => ⟨w2, rfl⟩) (fun z => absurd (by omega) z) S1 k1
    · rw [show -1 - (-1 - o) = o by omega]
      exact ho
    · have := hlo o ho
      exact .inl (by omega)
  case b2 =>
    rintro D σ H ⟨l, c, d, q, low, es, m, wins, way, kk, rfl, S, hd, ndl, hq, nql, hlow, hlo, hes, k⟩
    have els : entT D [some (.ref l), some (.ref d), some (.int m), some (.ref q), some (.int wins), kk, some (.int way)] H := ⟨l, c, d, q, low, es, m, wins, way, kk, rfl, S, hd, ndl, hq, nql, hlow, hlo, hes, k⟩
    refine ⟨_, rfl, rfl, _, rfl, ite2 (fun _ => ?_) (fun _ => iteF els)⟩
    refine ⟨_, rfl, q, _, rfl, .inl (SqL.of hq), _, _, rfl, rfl, _, rfl, ite2 (fun c2 => ?_) (fun _ => iteF els)⟩
    rcases List.eq_nil_or_concat es with rfl | ⟨es', e0, rfl⟩
    · exact absurd (of_decide_eq_true c2) (by simp)
    rw [List.concat_eq_append] at hq hes k
    have ae : atI ((es' ++ [e0]).map V.int) (-1) = some (.int e0) := by rw [List.map_append]; exact atI_neg1 _ _
    refine ⟨_, rfl, _, rfl, q, _, _, _, rfl, rfl, SqL.of hq, ae, _, _, rfl, rfl, _, rfl, ite2 (fun c3 => ?_) (fun _ => ?_)⟩
    · have e00 : 0 ≤ e0 := of_decide_eq_true c3
      refine ⟨_, rfl, .inl ⟨rfl, _, SqL.of hq⟩, _, rfl, _, rfl, q, _, _, _, rfl, rfl, SqL.of hq, ae, _, _, rfl, rfl, q, _, _, rfl, rfl, hq, (by rw [List.length_map]; exact million (by omega)), ?_⟩
      exact k (e0 + 1) wins H (fun z => by omega) (.inr ⟨e0, by simp, rfl⟩) (fun z => by omega) (fun _ => rfl) S fun _ _ => rfl
    · exact ⟨l, c, d, q, low, es' ++ [e0], m, wins, way, kk, rfl, S, hd, ndl, hq, nql, hlow, hlo, hes, k⟩
  case b3 =>
    rintro D σ H ⟨l, c, d, q, low, es, m, wins, way, kk, rfl, S, hd, ndl, hq, nql, hlow, hlo, hes, k⟩
    refine ⟨_, rfl, .inl ⟨rfl, _, SqL.of hq⟩, _, rfl, l, c, 12, rfl, S, by decide, by decide, fun y H1 y0 y1 S1 k1 => ?_⟩
    have hq1 : H1 q = some (.lst (es.map V.int)) := by rw [k1 q nql]; exact hq
    refine ⟨q, _, _, rfl, rfl, hq1, (by rw [List.length_map]; exact million (by omega)), ?_⟩
    exact k y wins H1 (fun z => by omega) (.inl y1) (fun z => by omega) (fun _ => rfl) S1 k1
  refine ⟨(by show 0 ≤ sizeLine; decide), fun q hq => ?_⟩
  have nql : q ≠ l := (S1.ne hq).1.symm
  have nqc : q ≠ c := (S1.ne hq).2.symm
  have nqd : q ≠ d := (ne_of_none hd hq).symm
  have s2 : Same H (upd H q (.lst [])) := same_new hq _
  have S2 := S1.same s2
  refine ⟨_, rfl, _, rfl, _, _, rfl, rfl, l, c, _, rfl, S2, by omega, by omega, fun n H2 n0 n1 S2' k2 => ⟨n, rfl, by omega, by omega, ?_⟩⟩
  refine for_range (lo := 0) (n := n.toNat) (fun i σ H2 => ∃ (es : List Int) (wins : Int) (kk way : Option V), σ = [some (.ref l), some (.ref d), some (.int m), some (.ref q), some (.int wins), kk, way] ∧ SrcOk H2 l c ∧ H2 q = some (.lst (es.map V.int)) ∧ es.length = i ∧ (∀ e ∈ es, (e < 0 → -1 - e ∈ low) ∧ e < 12 + i) ∧ Keep l H H2 ∧ (((winsE es).length : Int) ≤ wins ∧ wins ≤ 2)) ?_ ?_ ?_
  · refine ⟨[], 0, none, none, rfl, S2', (by rw [k2 q nql]; exact upd_same), rfl, (fun es he => by cases he), (fun a o e n => ?_), by decide, by decide⟩
    rw [k2 a n]
    exact s2 a o e
  · rintro i σ H3 hi ⟨es, wins, kk, way, rfl, S3, h3, hl3, he3, K3, hw3⟩
    refine ⟨_, rfl, l, c, 5, rfl, S3, by decide, by decide, fun y H4 y0 y1 S4 k4 => ?_⟩
    have h4 : H4 q = some (.lst (es.map V.int)) := by rw [k4 q nql]; exact h3
    have hd4 : H4 d = some (.lst (low.map V.int)) := by rw [k4 d ndl]; exact K3 d _ hd ndl
    refine ⟨l, c, d, q, low, es, m, wins, y, _, rfl, S4, hd4, ndl, h4, nql, hlow, hlo, by omega, fun e wins' H5 e1 e2 e3 e4 S5 k5 => ?_⟩
    refine ⟨es ++ [e], wins', _, _, rfl, S5.keep (keep_upd q _ _) nql.symm nqc.symm, (by rw [upd_same, List.map_append]; rfl), (by rw [List.length_append, hl3]; rfl), (fun x hx => ?_), (fun a o ea n => ?_), ?_⟩
    · rcases List.mem_append.mp hx with z | z
      · have := he3 x z
        exact ⟨this.1, by omega⟩
      · have : x = e := by simpa using z
        subst this
        refine ⟨e1, ?_⟩
        rcases e2 with z | ⟨e', he', rfl⟩
        · omega
        · have := (he3 e' he').2
          omega
    · rw [upd_ne (ne_of_none ea hq), k5 a n, k4 a n]
      exact K3 a o ea n
    · have wa : (winsE (es ++ [e])).length = (winsE es).length + (if e < 0 then 1 else 0) := by
        unfold winsE
        rw [List.filterMap_append, List.length_append]
        by_cases c : e < 0
        · simp [c]
        · simp [c]
      rw [wa]
      by_cases c : e < 0
      · have := e3 c
        rw [if_pos c]
        omega
      · have := e4 c
        rw [if_neg c]
        omega
  · rintro σ H3 ⟨es, wins, kk, way, rfl, S3, h3, hl3, he3, K3, hw3⟩
    exact ⟨_, rfl, k q es H3 h3 (by omega) (by omega) (fun e he => ⟨(he3 e he).1, by have := (he3 e he).2; omega⟩) S3 K3 hq⟩

theorem ixN_in {n : Nat} {i : Int} (h0 : 0 ≤ i) (h1 : i < n) : ixN n i = some i.toNat := by
  unfold ixN
  rw [if_pos h0, if_pos h1]
def rkOf : List Int → Int → Nat
  | [], _ => 0
  | y :: ys, x => if y = x then 0 else rkOf ys x + 1
theorem rkOf_le (x : Int) : ∀ os : List Int, rkOf os x ≤ os.length
  | [] => Nat.le_refl _
  | y :: ys => by
    unfold rkOf
    have := rkOf_le x ys
    split <;> simp <;> omega
theorem rkOf_take {x : Int} : ∀ {os : List Int} {k : Nat}, x ∈ os.take k → rkOf os x < k
  | [], k, h => by simp at h
  | y :: ys, 0, h => by simp at h
  | y :: ys, k + 1, h => by
    unfold rkOf
    rw [List.take_succ_cons] at h
    by_cases e : y = x
    · rw [if_pos e]; omega
    · rw [if_neg e]
      rcases List.mem_cons.mp h with z | z
      · exact absurd z.symm e
      · have := rkOf_take z
        omega
theorem rkOf_at {o : Int} : ∀ {os : List Int} {k : Nat}, os.Nodup → os[k]? = some o → rkOf os o = k
  | [], k, _, h => by simp at h
  | y :: ys, 0, _, h => by
    simp at h
    unfold rkOf
    rw [if_pos h]
  | y :: ys, k + 1, hn, h => by
    simp at h
    rw [List.nodup_cons] at hn
    unfold rkOf
    rw [if_neg (fun e => hn.1 (by rw [e]; exact List.mem_of_getElem? h)), rkOf_at hn.2 h]
theorem at_here {os : List Int} {i : Nat} {o : Int} (h : os[i]? = some o) {z : Int} (e : z = i) : atI (os.map V.int) z = some (.int o) := by
  rw [e]
  exact atI_nat (by rw [List.getElem?_map, h]; rfl)
/-- rows whose windows go down an order -/
def Down (os : List Int) (rows : List (List Int)) : Prop := ∀ (x : Nat) (es : List Int), rows[x]? = some es → ∀ e ∈ es, e < 0 → -1 - e ∈ os ∧ rkOf os (-1 - e) < rkOf os x
theorem Down.rkd {os : List Int} {rows : List (List Int)} (h : Down os rows) (hl : os.length ≤ 40) : Rkd rows := by
  refine ⟨rkOf os, fun x => Nat.le_trans (rkOf_le x os) hl, ?_⟩
  rintro x y ⟨x0, es, he, hy⟩
  obtain ⟨y0, hm⟩ := mem_winsE.mp hy
  have z := (h _ es he _ hm (by omega)).2
  rw [show -1 - (-1 - y) = y by omega, show ((x.toNat : Nat) : Int) = x by omega] at z
  exact z
theorem Down.sound {os : List Int} {rows : List (List Int)} (h : Down os rows) (hb : ∀ e ∈ os, 0 ≤ e ∧ e < rows.length) : Sound rows := by
  intro es he y hy
  obtain ⟨x, hx⟩ := List.getElem?_of_mem he
  obtain ⟨y0, hm⟩ := mem_winsE.mp hy
  have z := (h x es hx _ hm (by omega)).1
  rw [show -1 - (-1 - y) = y by omega] at z
  exact (hb y z).2
theorem Down.set {os : List Int} {rows : List (List Int)} {o : Int} {es : List Int} (h : Down os rows) (h0 : 0 ≤ o) (he : ∀ e ∈ es, e < 0 → -1 - e ∈ os ∧ rkOf os (-1 - e) < rkOf os o) : Down os (rows.set o.toNat es) := by
  intro x es' hx e hm hneg
  by_cases c : x = o.toNat
  · subst c
    rw [List.getElem?_set] at hx
    rw [if_pos rfl] at hx
    split at hx
    · cases hx
      rw [show ((o.toNat : Nat) : Int) = o by omega]
      exact he e hm hneg
    · cases hx
  · rw [List.getElem?_set_ne (fun z => c z.symm)] at hx
    exact h x es' hx e hm hneg
def geo (p q : Nat) : Nat → Nat
  | 0 => q
  | k + 1 => q + p * geo p q k
/-- how much there is in rows, by a rank that windows go down by -/
def Lim (rows : List (List Int)) (p q R : Nat) : Prop := (∀ es ∈ rows, es.length ≤ q ∧ (winsE es).length ≤ p) ∧ ∃ rk : Int → Nat, (∀ x, rk x ≤ R) ∧ ∀ x y, Nxt rows x y → rk y < rk x
def Lims (rows : List (List Int)) : Prop := ∃ p q R, Lim rows p q R ∧ R ≤ 40 ∧ q ≤ 900 ∧ geo p (q + 1) R ≤ 10000
theorem Down.lim {os : List Int} {rows : List (List Int)} {p q R : Nat} (h : Down os rows) (hl : os.length ≤ R) (hb : ∀ es ∈ rows, es.length ≤ q ∧ (winsE es).length ≤ p) : Lim rows p q R := by
  refine ⟨hb, rkOf os, fun x => Nat.le_trans (rkOf_le x os) hl, ?_⟩
  rintro x y ⟨x0, es, he, hy⟩
  obtain ⟨y0, hm⟩ := mem_winsE.mp hy
  have z := (h _ es he _ hm (by omega)).2
  rw [show -1 - (-1 - y) = y by omega, show ((x.toNat : Nat) : Int) = x by omega] at z
  exact z
def spSheetsBy : Sp := fun vs H Q _ => ∃ (l c : Addr), vs = [.ref l] ∧ SrcOk H l c ∧
  ∀ (r : Addr) (rows : List (List Int)) (H' : Hp), RowsAt (fun a => a = l) H' r rows → r ≠ l → 0 < rows.length → rows.length ≤ 1000 → (∀ es ∈ rows, es.length ≤ 1000) → Sound rows → Rkd rows → Lims rows → SrcOk H' l c → Q (.ref r) H'
theorem cut_to (ns : List Int) {p : Int} (h : 0 ≤ p) : cutV (ns.map V.int) none (some p) = (ns.take p.toNat).map V.int := by
  unfold cutV
  have e1 : HT.sIx (ns.map V.int).length 0 none = 0 := rfl
  have e2 : HT.sIx (ns.map V.int).length (ns.map V.int).length (some p) = min p.toNat ns.length := by
    show (if p < 0 then (p + ((ns.map V.int).length : Int)).toNat else min p.toNat (ns.map V.int).length) = _
    rw [if_neg (by omega), List.length_map]
  rw [e1, e2, List.drop_zero, Nat.sub_zero, List.map_take]
  rcases Nat.le_total p.toNat ns.length with z | z
  · rw [Nat.min_eq_left z]
  · rw [Nat.min_eq_right z, List.take_of_length_le (by simp), List.take_of_length_le (by rw [List.length_map]; exact z)]
abbrev s_law_sheets_by : Stmt := top 30
theorem sc_law_sheets_by : FnScope ["_law_src_here", "_law_many", "_law_order_here", "_law_rows", "_law_k"] ["_law_src_here"] (defScope s_law_sheets_by) := ⟨rfl, rfl, rfl, by decide +kernel, rfl, by decide +kernel, by decide +kernel⟩
theorem ok_law_sheets_by {f fN fO fE : Addr} {fd fdN fdO fdE : FuncData} (F : Fun K "_law_sheets_by" "_law_sheets_by" s_law_sheets_by f fd) (T : Nms mg) (d_law_next : DefAt K mg "_law_next" s_law_next ["_law_src_here", "_law_base"] fN fdN) (d_law_order : DefAt K mg "_law_order" s_law_order ["_law_src_here", "_law_many"] fO fdO) (d_law_entries_by : DefAt K mg "_law_entries_by" s_law_entries_by ["_law_src_here", "_law_lower", "_law_most"] fE fdE) : FnOk P w K mg base CX0 3 f fd ["_law_src_here"] spSheetsBy := by
  have g_law_next : FnOk P w K mg base CX0 1 fN fdN ["_law_src_here", "_law_base"] spNext := ok_law_next d_law_next.F T
  have g_law_order : FnOk P w K mg base CX0 2 fO fdO ["_law_src_here", "_law_many"] spOrder := ok_law_order d_law_order.F T d_law_next
  have g_law_entries_by : FnOk P w K mg base CX0 2 fE fdE ["_law_src_here", "_law_lower", "_law_most"] spEnts := ok_law_entries_by d_law_entries_by.F T d_law_next
  refine F.ok sc_law_sheets_by (fun vs H Q E h => ?_) (fun cdv A outer s H vs Q E hr h => ?_)
  · obtain ⟨l, c, rfl, _⟩ := h
    rfl
  obtain ⟨l, c, rfl, S, k⟩ := h
  refine ⟨_, (pss_cons (ps_set (i := 1) sc_law_sheets_by.nd rfl (Or.inl rfl) (pe_op op_add pe_int (pe_def d_law_next g_law_next hr (pa_cons (pv 0) (pa_cons pe_int pa_nil)))))
      (pss_cons (ps_set (i := 2) sc_law_sheets_by.nd rfl (Or.inl rfl) (pe_def d_law_order g_law_order hr (pa_cons (pv 0) (pa_cons (pv 1) pa_nil))))
      (pss_cons (ps_setG (N := ["_law_k"]) (i := 3) (compG (sc := defScope s_law_sheets_by) (NX := ["_law_src_here", "_law_many", "_law_order_here", "_law_rows", "_law_k"]) (jx := [none]) rfl rfl rfl (by decide +kernel) (by decide +kernel) rfl (by decide +kernel) rfl (by decide +kernel)) rfl sc_law_sheets_by.nd rfl rfl (pi_range1 rfl T.n_range (pa_cons (pv 1) pa_nil)) (fun _ _ _ _ _ _ => (pg_name (i := 0) (show List.Nodup (["_law_k"] : List Str) by decide +kernel) rfl (Or.inl rfl))) (fun _ _ _ _ _ _ => pts_nil) (fun _ _ _ _ _ _ => (pe_lst pa_nil)))
      (pss_cons (ps_for PassesOwn.never rfl (pi_range1 rfl T.n_range (pa_cons (pv 1) pa_nil)) (pg_name (i := 4) sc_law_sheets_by.nd rfl (Or.inl rfl))
      (pss_one (ps_asg (pe_def d_law_entries_by g_law_entries_by hr (pa_cons (pv 0) (pa_cons (pe_slice sl_list (pv 2) po_none (po_some (pv 4))) (pa_cons pe_int pa_nil)))) (pg_sub (pv 3) (pe_ix ix_list (pv 2) (pv 4) (fun _ _ => rfl)) set_list))))
      (pss_one (ps_ret (pv 3))))))), ?_⟩
  refine ⟨_, rfl, l, c, 6, rfl, S, by decide, by decide, fun v H1 v0 v1 S1 k1 => ⟨_, _, rfl, rfl, ?_⟩⟩
  refine ⟨_, rfl, _, rfl, l, c, 1 + v, rfl, S1, by omega, by omega, fun q os H2 h3 hl3 hn3 he3 S3 K2 hq2 => ?_⟩
  have nql : q ≠ l := (S1.ne hq2).1.symm
  refine ⟨_, rfl, 1 + v, rfl, by omega, by omega, fun acc hacc => compF_range (fun i σ H2' => ∃ (u : Option V) (vs : List V), σ = [u] ∧ H2' acc = some (.lst vs) ∧ All2 (EntsAt (fun a => a = l ∨ a = q ∨ a = acc) H2') vs (List.replicate i []) ∧ Same H2 H2') ?_ ?_ ?_⟩
  · exact ⟨none, [], rfl, upd_same, .nil, same_new hacc _⟩
  · rintro i σ H5 hi ⟨u, vs, rfl, h5, t5, s5⟩
    have S5 := S3.same s5
    have q5 := s5 _ _ h3
    unfold gName tYes
    refine iteT ⟨(by show 0 ≤ sizeLine; decide), fun p hp => ⟨vs, same_new hp _ _ _ h5, million (by have := t5.len; simp at this; omega), _, vs ++ [.ref p], rfl, upd_same, ?_, keep_of hacc (s5.trans (same_new hp _)) (keep_upd acc _ _)⟩⟩
    have npa : p ≠ acc := (ne_of_none h5 hp).symm
    rw [List.replicate_succ']
    refine All2.snoc (t5.mono fun _ _ h => (h.new _ hp).at _ (.inr (.inr rfl))) ⟨p, rfl, fun z => ?_, (by rw [upd_ne npa, upd_same]; rfl)⟩
    rcases z with z | z | z
    · exact (S5.ne hp).1 z.symm
    · exact ne_of_none q5 hp z.symm
    · exact npa z
  rintro σ H5 ⟨u, vs, rfl, h5, t5, s5⟩
  have S5 := S3.same s5
  have q5 := s5 _ _ h3
  have nal : acc ≠ l := (S3.ne hacc).1.symm
  have nac : acc ≠ c := (S3.ne hacc).2.symm
  have naq : acc ≠ q := (ne_of_none h3 hacc).symm
  refine ⟨_, rfl, 1 + v, rfl, by omega, by omega, ?_⟩
  refine for_range (lo := 0) (n := (1 + v).toNat) (fun i σ H7 => ∃ (vs : List V) (rows : List (List Int)) (kk : Option V), σ = [some (.ref l), some (.int (1 + v)), some (.ref q), some (.ref acc), kk] ∧ SrcOk H7 l c ∧ H7 q = some (.lst (os.map V.int)) ∧ H7 acc = some (.lst vs) ∧ All2 (EntsAt (fun a => a = l ∨ a = q ∨ a = acc) H7) vs rows ∧ rows.length = (1 + v).toNat ∧ (∀ es ∈ rows, es.length ≤ 5 ∧ (winsE es).length ≤ 2) ∧ Down os rows) ?_ ?_ ?_
  · refine ⟨vs, _, _, rfl, S5, q5, h5, t5, by simp, (fun es he => ?_), fun x es hx e he => ?_⟩
    · rw [List.mem_replicate] at he
      rw [he.2]
      exact ⟨by simp, by simp [winsE]⟩
    · rw [List.getElem?_replicate] at hx
      split at hx
      · cases hx
        cases he
      · cases hx
  · rintro i σ H7 hi ⟨vs, rows, kk, rfl, S7, q7, h7, t7, hl7, hs7, hd7⟩
    have hoi : os[i]? = some (os[i]'(by omega)) := List.getElem?_eq_getElem (by omega)
    generalize os[i]'(by omega) = o at hoi
    have bo := he3 o (List.mem_of_getElem? hoi)
    have tl := t7.len
    refine ⟨_, rfl, _, rfl, _, rfl, _, rfl, q, _, rfl, SqL.of q7, fun d hd => ?_⟩
    rw [cut_to os (by omega)]
    have s8 : Same H7 (upd H7 d (.lst ((os.take (0 + (i : Int)).toNat).map V.int))) := same_new hd _
    have e8 : (0 + (i : Int)).toNat = i := by omega
    rw [e8] at s8 ⊢
    have ndl : d ≠ l := (S7.ne hd).1.symm
    refine ⟨l, c, d, os.take i, 5, rfl, S7.same s8, upd_same, ndl, (by rw [List.length_take]; omega), (fun o ho => (he3 o (List.mem_of_mem_take ho)).1), by decide, by decide, fun t es H9 ht hle hw2 hee S9 K9 ht0 => ?_⟩
    have q9 := K9 q _ (s8 _ _ q7) nql
    have h9 := K9 acc _ (s8 _ _ h7) nal
    have nta : t ≠ acc := (ne_of_none (s8 _ _ h7) ht0).symm
    have ntq : t ≠ q := (ne_of_none (s8 _ _ q7) ht0).symm
    have ntl : t ≠ l := ((S7.same s8).ne ht0).1.symm
    refine ⟨_, rfl, _, rfl, _, rfl, q, _, _, _, rfl, rfl, SqL.of q9, at_here hoi (by omega), acc, _, _, o.toNat, rfl, rfl, h9, ixN_in (by omega) (by omega), ?_⟩
    refine ⟨_, rows.set o.toNat es, _, rfl, S9.keep (keep_upd acc _ _) nal.symm nac.symm, ?_, upd_same, All2.set _ (t7.mono fun _ _ h => ?_) ⟨t, rfl, fun z => ?_, (by rw [upd_ne nta]; exact ht)⟩, (by rw [List.length_set]; exact hl7), fun es' he => ?_, hd7.set bo.1 fun e he hn => ?_⟩
    · rw [upd_ne naq.symm]
      exact q9
    · refine EntsAt.at _ (.inr (.inr rfl)) (EntsAt.keep (fun a o na e => ?_) h)
      exact K9 a o (s8 _ _ e) (fun z => na (.inl z))
    · rcases z with z | z | z
      · exact ntl z
      · exact ntq z
      · exact nta z
    · rcases List.mem_or_eq_of_mem_set he with z | z
      · exact hs7 es' z
      · subst z
        have : (5 : Int).toNat = 5 := rfl
        exact ⟨by omega, hw2⟩
    · have z := (hee e he).1 hn
      exact ⟨List.mem_of_mem_take z, by rw [rkOf_at hn3 hoi]; exact rkOf_take z⟩
  · rintro σ H7 ⟨vs, rows, kk, rfl, S7, q7, h7, t7, hl7, hs7, hd7⟩
    exact ⟨_, rfl, k acc rows H7 ⟨vs, h7, t7.mono fun _ _ ⟨a, e, n, h⟩ => ⟨a, e, fun z => n (.inl z), h⟩⟩ nal (by omega) (by omega) (fun es he => by have := hs7 es he; omega) (hd7.sound fun e he => by have := he3 e he; omega) (hd7.rkd (by omega)) ⟨2, 5, 6, hd7.lim (by omega) hs7, by decide, by decide, by decide⟩ S7⟩

def spShow (d : Nat) : Sp := fun vs H Q _ => ∃ (av : Addr → Prop) (r : Addr) (rows : List (List Int)) (x : Int) (sh : Int → List Int) (rk : Int → Nat), vs = [.ref r, .int x] ∧ RowsAt av H r rows ∧ rows.length ≤ 1000 ∧ Sound rows ∧ 0 ≤ x ∧ x < rows.length ∧ Shows rows sh ∧ (∀ x : Int, 0 ≤ x → x < rows.length → (sh x).length ≤ 10000) ∧ (∀ x y, Nxt rows x y → rk y < rk x) ∧ rk x < d ∧
  ∀ (o : Addr) (H' : Hp), H' o = some (.lst ((sh x).map V.int)) → Same H H' → H o = none → Q (.ref o) H'
abbrev s_law_show : Stmt := top 27
theorem sc_law_show : FnScope ["_law_rows", "_law_sheet", "_law_numbers", "_law_entry"] ["_law_rows", "_law_sheet"] (defScope s_law_show) := ⟨rfl, rfl, rfl, by decide +kernel, rfl, by decide +kernel, by decide +kernel⟩
theorem step_law_show {g : Addr} {fd : FuncData} {n : Nat} (T : Nms mg) (d_law_show : DefAt K mg "_law_show" s_law_show ["_law_rows", "_law_sheet"] g fd) (g_law_show : FnOk P w K mg base CX0 (n + 1) g fd ["_law_rows", "_law_sheet"] (spShow n)) : FnOk P w K mg base CX0 (n + 2) g fd ["_law_rows", "_law_sheet"] (spShow (n + 1)) := by
  refine d_law_show.F.ok sc_law_show (fun vs H Q E h => ?_) (fun cdv A outer s H vs Q E hr h => ?_)
  · obtain ⟨av, r, rows, x, sh, rk, rfl, _⟩ := h
    rfl
  obtain ⟨av, r, rows, x, sh, rk, rfl, R, hlen, hsd, x0, x1, hsh, hbd, hrk, hd, k⟩ := h
  obtain ⟨es, hes1⟩ : ∃ es, rows[x.toNat]? = some es := ⟨_, List.getElem?_eq_getElem (by omega)⟩
  obtain ⟨rvs, b, hr0, hvi, hb0, hrl⟩ := R.get hes1
  have arow : atI rvs x = some (.ref b) := by
    have z := atI_nat hvi
    rw [show ((x.toNat : Nat) : Int) = x by omega] at z
    exact z
  have shx := hsh x es x0 hes1
  have part : ∀ i, (showE sh (es.take i)).length ≤ 10000 := fun i => by
    have z := hbd x x0 x1
    have e : showE sh es = showE sh (es.take i) ++ showE sh (es.drop i) := by
      unfold showE
      rw [← List.flatMap_append, List.take_append_drop]
    rw [shx, e, List.length_append] at z
    omega
  refine ⟨_, (pss_cons (ps_set (i := 2) sc_law_show.nd rfl (Or.inl rfl) (pe_lst pa_nil))
      (pss_cons (ps_for PassesOwn.never rfl (pi_list (pe_ix ix_list (pv 0) (pv 1) (fun _ _ => rfl))) (pg_name (i := 3) sc_law_show.nd rfl (Or.inl rfl))
      (pss_one (ps_if (pt_cmpR op_lt (pv 3) pe_int (nomark _))
      (pss_one (ps_expr (pe_bm PySem.F.plainAttrs_list PySem.F.slot_list_extend PySem.F.type_list_extend mt_extend (pv 2) (pa_cons (pe_def d_law_show g_law_show hr (pa_cons (pv 0) (pa_cons (pe_op op_sub (pe_un un_neg pe_int) (pv 3)) pa_nil))) pa_nil))))
      (pss_one (ps_expr (pe_bm PySem.F.plainAttrs_list PySem.F.slot_list_append PySem.F.type_list_append mt_append (pv 2) (pa_cons (pv 3) pa_nil)))))))
      (pss_one (ps_ret (pv 2))))), ?_⟩
  refine ⟨(by show 0 ≤ sizeLine; decide), fun q hq => ?_⟩
  have s0 : Same H (upd H q (.lst [])) := same_new hq _
  refine ⟨_, rfl, _, rfl, r, _, _, _, rfl, rfl, SqL.of (s0 _ _ hr0), arow, b, rfl, ⟨_, SqL.of (s0 _ _ hb0)⟩, for_list (K := K) (a := b) (xs := es.map V.int) (fun i σ H2 => ∃ u : Option V, σ = [some (.ref r), some (.int x), some (.ref q), u] ∧ H2 q = some (.lst ((showE sh (es.take i)).map V.int)) ∧ Same H H2) ⟨none, rfl, upd_same, s0⟩ (fun i σ H2 _ ⟨_, _, _, s2⟩ => SqL.of (s2 _ _ hb0)) ?_ ?_⟩
  · rintro i e σ H2 hi ⟨u, rfl, h2, s2⟩
    rw [List.getElem?_map] at hi
    obtain ⟨e, ex, rfl⟩ := Option.map_eq_some_iff.mp hi
    have st : showE sh (es.take (i + 1)) = showE sh (es.take i) ++ entS sh e := by
      rw [take_snoc ex]
      unfold showE
      rw [List.flatMap_append]
      simp
    have pl := part (i + 1)
    rw [st, List.length_append] at pl
    refine ⟨_, rfl, _, _, rfl, rfl, _, rfl, ite2 (fun c => ?_) (fun c => ?_)⟩
    · have c' : e < 0 := of_decide_eq_true c
      have ee : entS sh e = sh (-1 - e) := by unfold entS; rw [if_pos c']
      rw [ee] at st pl
      have hyn : Nxt rows x (-1 - e) := ⟨x0, es, hes1, mem_winsE.mpr ⟨by omega, by rw [show -1 - (-1 - e) = e by omega]; exact List.mem_of_getElem? ex⟩⟩
      obtain ⟨y0, y1⟩ := hsd.nxt hyn
      have rky := hrk _ _ hyn
      refine ⟨_, rfl, .inl ⟨rfl, _, SqL.of h2⟩, _, rfl, _, rfl, _, rfl, _, _, rfl, rfl, av, r, rows, -1 - e, sh, rk, rfl, R.same s2, hlen, hsd, y0, y1, hsh, hbd, hrk, by omega, fun o H3 h3 s3 ho => ?_⟩
      refine ⟨q, o, _, _, rfl, rfl, s3 _ _ h2, h3, Nat.le_of_lt (million (by rw [List.length_map, List.length_map]; omega)), ?_⟩
      refine ⟨_, rfl, ?_, keep_of hq (s2.trans s3) (keep_upd q _ _)⟩
      rw [upd_same, st, List.map_append]
    · have c' : ¬ e < 0 := fun z => c (decide_eq_true z)
      have ee : entS sh e = [e] := by unfold entS; rw [if_neg c']
      rw [ee] at st pl
      refine ⟨_, rfl, .inl ⟨rfl, _, SqL.of h2⟩, _, rfl, q, _, _, rfl, rfl, h2, (by rw [List.length_map]; exact million (by omega)), ?_⟩
      refine ⟨_, rfl, ?_, keep_of hq s2 (keep_upd q _ _)⟩
      rw [upd_same, st, List.map_append]
      rfl
  · rintro σ H2 ⟨u, rfl, h2, s2⟩
    rw [List.length_map, List.take_length, ← shx] at h2
    exact ⟨_, rfl, k q H2 h2 s2 hq⟩
theorem ok_law_show {g : Addr} {fd : FuncData} (T : Nms mg) (d_law_show : DefAt K mg "_law_show" s_law_show ["_law_rows", "_law_sheet"] g fd) : ∀ n : Nat, FnOk P w K mg base CX0 (n + 1) g fd ["_law_rows", "_law_sheet"] (spShow n)
  | 0 => by
    have no : ∀ vs H Q E, ¬ spShow 0 vs H Q E := fun vs H Q E h => by
      obtain ⟨_, _, _, _, _, _, _, _, _, _, _, _, _, _, _, h, _⟩ := h
      exact Nat.not_lt_zero _ h
    exact ⟨fun vs H Q E h => absurd h (no vs H Q E), fun A outer s H args us vs Q E _ _ _ _ h => absurd h (no vs H Q E)⟩
  | n + 1 => step_law_show T d_law_show (ok_law_show T d_law_show n)
/-- what sheets show, found by rank -/
def shF (rows : List (List Int)) : Nat → Int → List Int
  | 0, _ => []
  | k + 1, x => match rows[x.toNat]? with
    | some es => showE (shF rows k) es
    | none => []
theorem showE_congr {f g : Int → List Int} {es : List Int} (h : ∀ y ∈ winsE es, f y = g y) : showE f es = showE g es := by
  unfold showE
  rw [List.flatMap_def, List.flatMap_def]
  congr 1
  refine List.map_congr_left fun e he => ?_
  unfold entS
  by_cases c : e < 0
  · rw [if_pos c, if_pos c, h (-1 - e) (mem_winsE.mpr ⟨by omega, by rw [show -1 - (-1 - e) = e by omega]; exact he⟩)]
  · rw [if_neg c, if_neg c]
theorem shows_ex {rows : List (List Int)} (h : Rkd rows) : ∃ sh, Shows rows sh := by
  obtain ⟨rk, hb, hd⟩ := h
  have key : ∀ (k : Nat) (x : Int), 0 ≤ x → rk x < k → shF rows k x = shF rows (k + 1) x := by
    intro k
    induction k with
    | zero => intro x _ h; omega
    | succ k ih =>
      intro x x0 hx
      cases e : rows[x.toNat]? with
      | none => simp [shF, e]
      | some es =>
        have e1 : shF rows (k + 1) x = showE (shF rows k) es := by simp [shF, e]
        have e2 : shF rows (k + 1 + 1) x = showE (shF rows (k + 1)) es := by
          show (match rows[x.toNat]? with | some es => showE (shF rows (k + 1)) es | none => []) = _
          rw [e]
        rw [e1, e2]
        refine showE_congr fun y hy => ih y (mem_winsE.mp hy).1 ?_
        have := hd x y ⟨x0, es, e, hy⟩
        omega
  refine ⟨shF rows 41, fun x es x0 he => ?_⟩
  rw [key 41 x x0 (by have := hb x; omega)]
  show (match rows[x.toNat]? with | some es => showE (shF rows 41) es | none => []) = _
  rw [he]
theorem showE_len {sh : Int → List Int} {B : Nat} : ∀ {es : List Int}, (∀ y ∈ winsE es, (sh y).length ≤ B) → (showE sh es).length ≤ es.length + (winsE es).length * B
  | [], _ => by simp [showE]
  | e :: es, h => by
    have a : showE sh (e :: es) = entS sh e ++ showE sh es := by unfold showE; rw [List.flatMap_cons]
    rw [a, List.length_append, List.length_cons]
    by_cases c : e < 0
    · have w : winsE (e :: es) = (-1 - e) :: winsE es := by simp [winsE, c]
      have b : (entS sh e).length ≤ B := by
        unfold entS
        rw [if_pos c]
        exact h _ (by rw [w]; simp)
      have ih := showE_len (sh := sh) (B := B) (es := es) fun y hy => h y (by rw [w]; exact List.mem_cons_of_mem _ hy)
      rw [w, List.length_cons, Nat.succ_mul]
      omega
    · have w : winsE (e :: es) = winsE es := by simp [winsE, c]
      have b : (entS sh e).length = 1 := by
        unfold entS
        rw [if_neg c]
        rfl
      have ih := showE_len (sh := sh) (B := B) (es := es) fun y hy => h y (by rw [w]; exact hy)
      rw [w]
      omega
theorem geo_mono {p q : Nat} : ∀ {j k : Nat}, j ≤ k → geo p q j ≤ geo p q k
  | 0, 0, _ => Nat.le_refl _
  | 0, k + 1, _ => by unfold geo; exact Nat.le_add_right _ _
  | j + 1, k + 1, h => by
    unfold geo
    have := Nat.mul_le_mul_left p (geo_mono (p := p) (q := q) (Nat.le_of_succ_le_succ h))
    omega
theorem shows_len {rows : List (List Int)} {sh : Int → List Int} {p q R : Nat} (hl : Lim rows p q R) (hs : Sound rows) (hsh : Shows rows sh) : ∀ x : Int, 0 ≤ x → x < rows.length → (sh x).length ≤ geo p q R := by
  obtain ⟨hb, rk, hR, hd⟩ := hl
  have key : ∀ (k : Nat) (x : Int), 0 ≤ x → x < rows.length → rk x ≤ k → (sh x).length ≤ geo p q (rk x) := by
    intro k
    induction k with
    | zero =>
      intro x x0 x1 hx
      obtain ⟨es, he⟩ : ∃ es, rows[x.toNat]? = some es := ⟨_, List.getElem?_eq_getElem (by omega)⟩
      have hbe := hb es (List.mem_of_getElem? he)
      have nw : winsE es = [] := by
        cases w : winsE es with
        | nil => rfl
        | cons y t =>
          have := hd x y ⟨x0, es, he, by rw [w]; simp⟩
          omega
      rw [hsh x es x0 he]
      have z := showE_len (sh := sh) (B := 0) (es := es) (fun y hy => by rw [nw] at hy; cases hy)
      rw [nw] at z
      simp at z
      rw [show rk x = 0 by omega]
      unfold geo
      omega
    | succ k ih =>
      intro x x0 x1 hx
      obtain ⟨es, he⟩ : ∃ es, rows[x.toNat]? = some es := ⟨_, List.getElem?_eq_getElem (by omega)⟩
      have hbe := hb es (List.mem_of_getElem? he)
      rw [hsh x es x0 he]
      cases hr : rk x with
      | zero =>
        have z := ih x x0 x1 (by omega)
        rw [hsh x es x0 he, hr] at z
        exact z
      | succ r =>
        have z := showE_len (sh := sh) (B := geo p q r) (es := es) (fun y hy => by
          have n : Nxt rows x y := ⟨x0, es, he, hy⟩
          have lt := hd x y n
          obtain ⟨y0, y1⟩ := hs.nxt n
          exact Nat.le_trans (ih y y0 y1 (by omega)) (geo_mono (by omega)))
        have m := Nat.mul_le_mul_right (geo p q r) hbe.2
        unfold geo
        omega
  intro x x0 x1
  exact Nat.le_trans (key (rk x) x x0 x1 (Nat.le_refl _)) (geo_mono (hR x))

def inkOf (r : Row) : List Item := r.map fun p => .ink p.1 p.2
def spInked : Sp := fun vs H Q _ => ∃ (r : Addr) (row : Row), vs = [.ref r] ∧ RowAt H r row ∧ row.length ≤ 100000 ∧
  ∀ (o : Addr) (H' : Hp), ItemsAt H' (.ref o) (inkOf (plainF row)) → Same H H' → H o = none → Q (.ref o) H'
abbrev sinked : Stmt := top 16
theorem scinked : FnScope ["row"] ["row"] (defScope sinked) := ⟨rfl, rfl, rfl, by decide +kernel, rfl, by decide +kernel, by decide +kernel⟩
theorem ok_inked {f fP : Addr} {fd fdP : FuncData} (F : Fun K "inked" "inked" sinked f fd) (T : Nms mg) (dplain : DefAt K mg "plain" splain ["row"] fP fdP) : FnOk P w K mg base CX0 2 f fd ["row"] spInked := by
  have gplain : FnOk P w K mg base CX0 1 fP fdP ["row"] spPlain := ok_plain dplain.F
  refine F.ok scinked (fun vs H Q E h => ?_) (fun cdv A outer s H vs Q E hr h => ?_)
  · obtain ⟨r, row, rfl, _⟩ := h
    rfl
  obtain ⟨r, row, rfl, R, hlen, k⟩ := h
  refine ⟨_, (pss_one (ps_ret (pe_comp (N := ["start", "stop"]) ⟨rfl, by decide +kernel, by decide +kernel, by decide +kernel⟩ rfl (pi_list (pe_def dplain gplain hr (pa_cons (pv 0) pa_nil))) (fun _ _ _ _ _ => (pgC_tup (n := 2) rfl (pgs_cons (pg_name (i := 0) (show List.Nodup (["start", "stop"] : List Str) by decide +kernel) rfl (Or.inl rfl)) (pgs_cons (pg_name (i := 1) (show List.Nodup (["start", "stop"] : List Str) by decide +kernel) rfl (Or.inl rfl)) pgs_nil)))) (fun _ _ _ _ _ => pts_nil) (fun _ _ _ _ _ => (pe_tup (pa_cons pe_str (pa_cons (pv 0) (pa_cons (pv 1) pa_nil)))))))), ?_⟩
  refine ⟨_, rfl, r, row, rfl, R, by omega, fun q H1 R1 s1 hq => ?_⟩
  obtain ⟨as, h1, p1⟩ := id R1
  have pl := plainF_le row
  refine ⟨q, rfl, ⟨_, SqL.of h1⟩, fun acc hacc => comp_list (K := K) (a := q) (xs := as.map V.ref) (fun i σ H2 => ∃ (u v : Option V) (vs : List V), σ = [u, v] ∧ H2 acc = some (.lst vs) ∧ All2 (ItemAt H2) vs (inkOf ((plainF row).take i)) ∧ Same H1 H2)
    ⟨none, none, [], rfl, upd_same, .nil, same_new hacc _⟩ (fun i σ H2 _ ⟨_, _, _, _, _, _, s⟩ => SqL.of (s _ _ h1)) ?_ ?_⟩
  · rintro i x σ H2 hi ⟨u, v, vs, rfl, ha, t2, s⟩
    rw [List.getElem?_map] at hi
    obtain ⟨a, ea, rfl⟩ := Option.map_eq_some_iff.mp hi
    obtain ⟨⟨st, en⟩, ep, hpa⟩ := p1.get ea
    have bl := t2.len
    unfold inkOf at bl
    rw [List.length_map, List.length_take] at bl
    refine ⟨a, _, rfl, SqT.of (s _ _ hpa), rfl, _, _, rfl, _, _, rfl, rfl, yes (iteT ?_)⟩
    refine ⟨_, rfl, _, rfl, (by show 3 ≤ sizeLine; decide), fun t ht => ?_⟩
    refine ⟨vs, same_new ht _ _ _ ha, million (by omega), _, _, _, rfl, upd_same, ?_, keep_of hacc (s.trans (same_new ht _)) (keep_upd acc _ _)⟩
    have e : inkOf ((plainF row).take (i + 1)) = inkOf ((plainF row).take i) ++ [.ink st en] := by
      rw [take_snoc ep]
      unfold inkOf
      rw [List.map_append]
      rfl
    rw [e]
    exact All2.new (it := .ink st en) ha t2 ht _
  · rintro σ H2 ⟨u, v, vs, rfl, ha, t2, s⟩
    rw [List.length_map, p1.len, List.take_length] at t2
    refine k acc H2 ⟨acc, vs, rfl, ha, t2⟩ (s1.trans s) ?_
    cases e : H acc with
    | none => rfl
    | some o => exact absurd ((s1 _ _ e).symm.trans hacc) (by simp)

/-! ### items, spelt out as entries -/
def explI : Item → List Int
  | .win n => [-1 - n]
  | .ink a b => run a (b - a).toNat
def expl (its : List Item) : List Int := its.flatMap explI
def ItOk1 : Item → Prop
  | .win n => 0 ≤ n
  | .ink a b => 0 ≤ a ∧ a < b
def ItOk (its : List Item) : Prop := ∀ it ∈ its, ItOk1 it
theorem expl_append (a b : List Item) : expl (a ++ b) = expl a ++ expl b := by unfold expl; rw [List.flatMap_append]
theorem expl_one (a : Item) : expl [a] = explI a := by simp [expl]
theorem ItOk.append {a b : List Item} (h : ItOk a) (g : ItOk b) : ItOk (a ++ b) := fun it hm => (List.mem_append.mp hm).elim (h it) (g it)
theorem ItOk.one {a : Item} (h : ItOk1 a) : ItOk [a] := fun it hm => by rw [List.mem_singleton.mp hm]; exact h
theorem step_neg (t : List Item) {n : Int} (h : 0 ≤ n) : itemsStep t (-1 - n) = t ++ [.win n] := by
  unfold itemsStep
  rw [if_pos (by omega)]
  congr 3
  omega
theorem step_snoc (t : List Item) (p s : Int) (h : 0 ≤ s) : itemsStep (t ++ [.ink p s]) s = t ++ [.ink p (s + 1)] := by
  unfold itemsStep
  rw [if_neg (by omega), List.getLast?_concat]
  show (if s = s then (t ++ [Item.ink p s]).dropLast ++ [.ink p (s + 1)] else _) = _
  rw [if_pos rfl, List.dropLast_concat]
theorem steps_run (t : List Item) (p : Int) : ∀ (n : Nat) (s : Int), 0 ≤ s → (run s n).foldl itemsStep (t ++ [.ink p s]) = t ++ [.ink p (s + n)]
  | 0, s, _ => by simp [run]
  | n + 1, s, h => by
    rw [run, List.foldl_cons, step_snoc t p s h, steps_run t p n (s + 1) (by omega)]
    congr 3
    omega
theorem plainI_one (t : List Item) (it : Item) (h : ItOk1 it) : plainIStep t it = (explI it).foldl itemsStep t := by
  cases it with
  | win n =>
    show plainIStep t (.win n) = itemsStep t (-1 - n)
    rw [step_neg t h]
    unfold plainIStep
    cases t.getLast? with
    | none => rfl
    | some l => cases l <;> rfl
  | ink a b =>
    obtain ⟨a0, ab⟩ := h
    have e : (b - a).toNat = (b - (a + 1)).toNat + 1 := by omega
    show plainIStep t (.ink a b) = (run a (b - a).toNat).foldl itemsStep t
    rw [e, run, List.foldl_cons]
    have fin : ∀ (u : List Item) (p : Int), (run (a + 1) (b - (a + 1)).toNat).foldl itemsStep (u ++ [.ink p (a + 1)]) = u ++ [.ink p b] := fun u p => by
      rw [steps_run u p _ _ (by omega)]
      congr 3
      omega
    unfold plainIStep itemsStep
    rw [if_neg (by omega)]
    cases t.getLast? with
    | none => exact (fin t a).symm
    | some l =>
      cases l with
      | win n => exact (fin t a).symm
      | ink p q =>
        show (if q = a then t.dropLast ++ [Item.ink p b] else t ++ [Item.ink a b]) = List.foldl itemsStep (if q = a then t.dropLast ++ [Item.ink p (a + 1)] else t ++ [Item.ink a (a + 1)]) _
        by_cases c : q = a
        · rw [if_pos c, if_pos c, fin]
        · rw [if_neg c, if_neg c, fin]
theorem plainI_expl (its : List Item) (h : ItOk its) : plainI its = itemsOf (expl its) := by
  unfold plainI itemsOf expl
  rw [foldl_flatMap']
  have z : ∀ (its : List Item) (t : List Item), ItOk its → its.foldl plainIStep t = its.foldl (fun c a => (explI a).foldl itemsStep c) t := by
    intro its
    induction its with
    | nil => intro t _; rfl
    | cons it its ih =>
      intro t h
      rw [List.foldl_cons, List.foldl_cons, plainI_one t it (h it (by simp))]
      exact ih _ fun i hi => h i (List.mem_cons_of_mem _ hi)
  exact z its [] h
theorem expl_step (t : List Item) (e : Int) (h : ItOk t) : expl (itemsStep t e) = expl t ++ [e] ∧ ItOk (itemsStep t e) := by
  unfold itemsStep
  by_cases c : e < 0
  · rw [if_pos c, expl_append, expl_one]
    refine ⟨?_, h.append (ItOk.one (by show 0 ≤ -1 - e; omega))⟩
    show expl t ++ [-1 - (-1 - e)] = _
    rw [show -1 - (-1 - e) = e by omega]
  · rw [if_neg c]
    have pl : expl (t ++ [.ink e (e + 1)]) = expl t ++ [e] ∧ ItOk (t ++ [.ink e (e + 1)]) := by
      refine ⟨?_, h.append (ItOk.one ⟨by omega, by omega⟩)⟩
      rw [expl_append, expl_one]
      show _ ++ run e (e + 1 - e).toNat = _
      rw [show (e + 1 - e).toNat = 1 by omega]
      rfl
    rcases List.eq_nil_or_concat t with rfl | ⟨t', l, rfl⟩
    · exact pl
    · rw [List.concat_eq_append] at h pl ⊢
      rw [List.getLast?_concat]
      cases l with
      | win n => exact pl
      | ink a b =>
        show expl (if b = e then (t' ++ [Item.ink a b]).dropLast ++ [.ink a (e + 1)] else (t' ++ [Item.ink a b]) ++ [.ink e (e + 1)]) = _ ∧ ItOk (if b = e then (t' ++ [Item.ink a b]).dropLast ++ [.ink a (e + 1)] else (t' ++ [Item.ink a b]) ++ [.ink e (e + 1)])
        by_cases hb : b = e
        · subst hb
          obtain ⟨a0, ab⟩ : 0 ≤ a ∧ a < b := h (.ink a b) (by simp)
          rw [if_pos rfl, List.dropLast_concat]
          refine ⟨?_, ItOk.append (fun i hi => h i (List.mem_append_left _ hi)) (ItOk.one ⟨a0, by omega⟩)⟩
          rw [expl_append, expl_append, expl_one, expl_one, List.append_assoc]
          congr 1
          show run a (b + 1 - a).toNat = run a (b - a).toNat ++ [b]
          rw [show (b + 1 - a).toNat = (b - a).toNat + 1 by omega, run_snoc]
          congr 2
          omega
        · rw [if_neg hb]
          exact pl
theorem expl_items (es : List Int) : expl (itemsOf es) = es ∧ ItOk (itemsOf es) := by
  have z : ∀ (es : List Int) (t : List Item), ItOk t → expl (es.foldl itemsStep t) = expl t ++ es ∧ ItOk (es.foldl itemsStep t) := by
    intro es
    induction es with
    | nil => intro t h; exact ⟨by simp, h⟩
    | cons e es ih =>
      intro t h
      obtain ⟨h1, h2⟩ := expl_step t e h
      obtain ⟨h3, h4⟩ := ih _ h2
      exact ⟨by rw [List.foldl_cons, h3, h1, List.append_assoc]; rfl, h4⟩
  obtain ⟨h1, h2⟩ := z es [] (fun i hi => by cases hi)
  exact ⟨by unfold itemsOf; rw [h1]; rfl, h2⟩
theorem expl_ink (r : Row) : expl (inkOf r) = spell r := by
  unfold expl inkOf spell
  rw [List.flatMap_map]
  rfl
theorem inkOf_ok {r : Row} (h : RowPos r) : ItOk (inkOf r) := by
  intro it hm
  unfold inkOf at hm
  obtain ⟨p, hp, rfl⟩ := List.mem_map.mp hm
  exact h p hp
/-! ### the places that items cover -/
abbrev Deal := Item × Row × Int × Int
def rowI (sh : Int → List Int) (it : Item) : Row := itRow (fun n => rowOf (sh n)) it
def dealF (sh : Int → List Int) : Int → List Item → List Deal
  | _, [] => []
  | f, it :: r => (it, rowI sh it, f, f + tot (rowI sh it)) :: dealF sh (f + tot (rowI sh it)) r
theorem dealF_append (sh : Int → List Int) (b : List Item) : ∀ (a : List Item) (f : Int), dealF sh f (a ++ b) = dealF sh f a ++ dealF sh (f + tot (rowsIt sh a)) b
  | [], f => by simp [dealF, rowsIt, tot]
  | it :: a, f => by
    rw [List.cons_append, dealF, dealF, dealF_append sh b a, List.cons_append]
    have e : rowsIt sh (it :: a) = rowI sh it ++ rowsIt sh a := by unfold rowsIt; rw [List.flatMap_cons]; rfl
    rw [e, tot_append, Int.add_assoc]
theorem dealF_len (sh : Int → List Int) : ∀ (a : List Item) (f : Int), (dealF sh f a).length = a.length
  | [], _ => rfl
  | _ :: a, f => by rw [dealF, List.length_cons, List.length_cons, dealF_len sh a]
def DealAt (N : Addr → Prop) (H : Hp) (v : V) (d : Deal) : Prop := ∃ (a ra : Addr) (x : V), v = .ref a ∧ H a = some (.tup [x, .ref ra, .int d.2.2.1, .int d.2.2.2]) ∧ ItemAt H x d.1 ∧ RowAt H ra d.2.1 ∧ N ra
theorem DealAt.same {N : Addr → Prop} {H H' : Hp} {v : V} {d : Deal} (s : Same H H') : DealAt N H v d → DealAt N H' v d := fun ⟨a, ra, x, e, h, i, r, n⟩ => ⟨a, ra, x, e, s _ _ h, i.same s, r.same s, n⟩
theorem DealAt.keep {N : Addr → Prop} {H H' : Hp} {v : V} {d : Deal} {q : Addr} {xs : List V} (hq : H q = some (.lst xs)) (nq : ∀ a, N a → a ≠ q) (k : Keep q H H') : DealAt N H v d → DealAt N H' v d := fun ⟨a, ra, x, e, h, i, r, n⟩ => ⟨a, ra, x, e, k a _ h (by
  intro z
  rw [z, hq] at h
  cases h), i.keep hq k, r.keep hq (nq ra n) k, n⟩
def WinsIn (H : Hp) (kvs : List (Key × V)) (sh : Int → List Int) (its : List Item) : Prop := ∀ n, Item.win n ∈ its → ∃ a, valV kvs (Sum.inl n) = some (.ref a) ∧ RowAt H a (rowOf (sh n))
theorem WinsIn.same {H H' : Hp} {kvs : List (Key × V)} {sh : Int → List Int} {its : List Item} (s : Same H H') (h : WinsIn H kvs sh its) : WinsIn H' kvs sh its := fun n hn => by
  obtain ⟨a, e, r⟩ := h n hn
  exact ⟨a, e, r.same s⟩
/-! ### what is put among items -/
def aD (p : Int) (d : Deal) : List Item := if d.2.2.2 ≤ p then [d.1] else if p ≤ d.2.2.1 then [] else inkOf (plainF (pcs 0 (p - d.2.2.1) 0 d.2.1))
def bD (p : Int) (d : Deal) : List Item := if d.2.2.2 ≤ p then [] else if p ≤ d.2.2.1 then [d.1] else inkOf (plainF (pcs (p - d.2.2.1) (d.2.2.2 - d.2.2.1) 0 d.2.1))
def aE (sh : Int → List Int) (p : Int) : Int → List Int → List Int
  | _, [] => []
  | f, e :: r => (if f + (entS sh e).length ≤ p then [e] else if p ≤ f then [] else (entS sh e).take (p - f).toNat) ++ aE sh p (f + (entS sh e).length) r
def bE (sh : Int → List Int) (p : Int) : Int → List Int → List Int
  | _, [] => []
  | f, e :: r => (if f + (entS sh e).length ≤ p then [] else if p ≤ f then [e] else (entS sh e).drop (p - f).toNat) ++ bE sh p (f + (entS sh e).length) r
theorem showE_cons (sh : Int → List Int) (e : Int) (r : List Int) : showE sh (e :: r) = entS sh e ++ showE sh r := by unfold showE; rw [List.flatMap_cons]
theorem showE_append (sh : Int → List Int) (a b : List Int) : showE sh (a ++ b) = showE sh a ++ showE sh b := by unfold showE; rw [List.flatMap_append]
theorem aE_append (sh : Int → List Int) (p : Int) (y : List Int) : ∀ (x : List Int) (f : Int), aE sh p f (x ++ y) = aE sh p f x ++ aE sh p (f + (showE sh x).length) y
  | [], f => by simp [aE, showE]
  | e :: x, f => by
    rw [List.cons_append, aE, aE, aE_append sh p y x, List.append_assoc, showE_cons, List.length_append, Int.add_assoc]
    push_cast
    rfl
theorem bE_append (sh : Int → List Int) (p : Int) (y : List Int) : ∀ (x : List Int) (f : Int), bE sh p f (x ++ y) = bE sh p f x ++ bE sh p (f + (showE sh x).length) y
  | [], f => by simp [bE, showE]
  | e :: x, f => by
    rw [List.cons_append, bE, bE, bE_append sh p y x, List.append_assoc, showE_cons, List.length_append, Int.add_assoc]
    push_cast
    rfl
theorem entS_nn (sh : Int → List Int) {e : Int} (h : 0 ≤ e) : entS sh e = [e] := by unfold entS; rw [if_neg (by omega)]
theorem showE_run (sh : Int → List Int) : ∀ (n : Nat) (a : Int), 0 ≤ a → showE sh (run a n) = run a n
  | 0, _, _ => rfl
  | n + 1, a, h => by rw [run, showE_cons, entS_nn sh h, showE_run sh n (a + 1) (by omega)]; rfl
theorem aE_run (sh : Int → List Int) (p : Int) : ∀ (n : Nat) (a f : Int), 0 ≤ a → aE sh p f (run a n) = (run a n).take (p - f).toNat
  | 0, _, _, _ => by simp [run, aE]
  | n + 1, a, f, h => by
    rw [run, aE, aE_run sh p n (a + 1) _ (by omega), entS_nn sh h]
    show (if f + 1 ≤ p then [a] else if p ≤ f then [] else _) ++ (run (a + 1) n).take (p - (f + 1)).toNat = _
    by_cases c : f + 1 ≤ p
    · rw [if_pos c, show (p - f).toNat = (p - (f + 1)).toNat + 1 by omega]
      rfl
    · rw [if_neg c, if_pos (by omega), show (p - f).toNat = 0 by omega, show (p - (f + 1)).toNat = 0 by omega]
      rfl
theorem bE_run (sh : Int → List Int) (p : Int) : ∀ (n : Nat) (a f : Int), 0 ≤ a → bE sh p f (run a n) = (run a n).drop (p - f).toNat
  | 0, _, _, _ => by simp [run, bE]
  | n + 1, a, f, h => by
    rw [run, bE, bE_run sh p n (a + 1) _ (by omega), entS_nn sh h]
    show (if f + 1 ≤ p then [] else if p ≤ f then [a] else _) ++ (run (a + 1) n).drop (p - (f + 1)).toNat = _
    by_cases c : f + 1 ≤ p
    · rw [if_pos c, show (p - f).toNat = (p - (f + 1)).toNat + 1 by omega]
      rfl
    · rw [if_neg c, if_pos (by omega), show (p - f).toNat = 0 by omega, show (p - (f + 1)).toNat = 0 by omega]
      rfl
theorem show_win (sh : Int → List Int) {n : Int} (h : 0 ≤ n) : entS sh (-1 - n) = sh n := by
  unfold entS
  rw [if_pos (by omega), show -1 - (-1 - n) = n by omega]
theorem rowI_ok (sh : Int → List Int) (it : Item) (h : ItOk1 it) : ∀ q ∈ rowI sh it, q.1 ≤ q.2 := by
  cases it with
  | win n => exact rowOf_ok _
  | ink a b =>
    intro q hq
    have : q = (a, b) := by simpa [rowI, itRow] using hq
    subst this
    have := h.2
    show a ≤ b
    omega
theorem spell_rowI (sh : Int → List Int) (it : Item) (h : ItOk1 it) : spell (rowI sh it) = showE sh (explI it) := by
  cases it with
  | win n =>
    show spell (rowOf (sh n)) = showE sh [-1 - n]
    rw [spell_rowOf, showE_cons, show_win sh h]
    simp [showE]
  | ink a b =>
    show spell [(a, b)] = showE sh (run a (b - a).toNat)
    rw [spell_one, showE_run sh _ _ h.1]
    rfl
theorem tot_rowI (sh : Int → List Int) (it : Item) (h : ItOk1 it) : tot (rowI sh it) = (showE sh (explI it)).length := by
  rw [← spell_rowI sh it h, spell_len _ (rowI_ok sh it h)]
theorem aD_eq (sh : Int → List Int) (p f : Int) (it : Item) (h : ItOk1 it) : expl (aD p (it, rowI sh it, f, f + tot (rowI sh it))) = aE sh p f (explI it) := by
  have tt := tot_rowI sh it h
  have sp : expl (inkOf (plainF (pcs 0 (p - f) 0 (rowI sh it)))) = (showE sh (explI it)).take (p - f).toNat := by
    rw [expl_ink, spell_part _ _ _ (rowI_ok sh it h), spell_rowI sh it h]
    rfl
  unfold aD
  show expl (if f + tot (rowI sh it) ≤ p then [it] else if p ≤ f then [] else inkOf (plainF (pcs 0 (p - f) 0 (rowI sh it)))) = _
  rw [tt]
  cases it with
  | win n =>
    have e1 : showE sh (explI (.win n)) = entS sh (-1 - n) := by show showE sh [-1 - n] = _; rw [showE_cons]; simp [showE]
    rw [e1] at sp ⊢
    show _ = aE sh p f [-1 - n]
    rw [aE, aE, List.append_nil]
    split
    · rfl
    · split
      · rfl
      · exact sp
  | ink a b =>
    have e1 : showE sh (explI (.ink a b)) = run a (b - a).toNat := showE_run sh _ _ h.1
    rw [e1] at sp ⊢
    show _ = aE sh p f (run a (b - a).toNat)
    rw [aE_run sh p _ _ _ h.1]
    have rl := run_length a (b - a).toNat
    split
    · rename_i c
      rw [expl_one, List.take_of_length_le (by omega)]
      rfl
    · split
      · rename_i c
        rw [show (p - f).toNat = 0 by omega]
        rfl
      · exact sp
theorem bD_eq (sh : Int → List Int) (p f : Int) (it : Item) (h : ItOk1 it) : expl (bD p (it, rowI sh it, f, f + tot (rowI sh it))) = bE sh p f (explI it) := by
  have tt := tot_rowI sh it h
  have sp : expl (inkOf (plainF (pcs (p - f) (f + tot (rowI sh it) - f) 0 (rowI sh it)))) = (showE sh (explI it)).drop (p - f).toNat := by
    rw [expl_ink, spell_part _ _ _ (rowI_ok sh it h), spell_rowI sh it h, List.take_of_length_le (by rw [tt]; omega)]
  unfold bD
  show expl (if f + tot (rowI sh it) ≤ p then [] else if p ≤ f then [it] else inkOf (plainF (pcs (p - f) (f + tot (rowI sh it) - f) 0 (rowI sh it)))) = _
  have c1 : (f + tot (rowI sh it) ≤ p) = (f + (showE sh (explI it)).length ≤ p) := by rw [tt]
  simp only [c1]
  cases it with
  | win n =>
    have e1 : showE sh (explI (.win n)) = entS sh (-1 - n) := by show showE sh [-1 - n] = _; rw [showE_cons]; simp [showE]
    rw [e1] at sp ⊢
    show _ = bE sh p f [-1 - n]
    rw [bE, bE, List.append_nil]
    split
    · rfl
    · split
      · rfl
      · exact sp
  | ink a b =>
    have e1 : showE sh (explI (.ink a b)) = run a (b - a).toNat := showE_run sh _ _ h.1
    rw [e1] at sp ⊢
    show _ = bE sh p f (run a (b - a).toNat)
    rw [bE_run sh p _ _ _ h.1]
    have rl := run_length a (b - a).toNat
    split
    · rename_i c
      rw [List.drop_of_length_le (by omega)]
      rfl
    · split
      · rename_i c
        rw [expl_one, show (p - f).toNat = 0 by omega]
        rfl
      · exact sp
theorem ahead_eq (sh : Int → List Int) (p : Int) : ∀ (its : List Item) (f : Int), ItOk its → expl ((dealF sh f its).flatMap (aD p)) = aE sh p f (expl its)
  | [], f, _ => rfl
  | it :: r, f, h => by
    have h1 := h it (by simp)
    rw [dealF, List.flatMap_cons, expl_append, aD_eq sh p f it h1, ahead_eq sh p r _ fun i hi => h i (List.mem_cons_of_mem _ hi)]
    have e : expl (it :: r) = explI it ++ expl r := by unfold expl; rw [List.flatMap_cons]
    rw [e, aE_append, tot_rowI sh it h1]
theorem behind_eq (sh : Int → List Int) (p : Int) : ∀ (its : List Item) (f : Int), ItOk its → expl ((dealF sh f its).flatMap (bD p)) = bE sh p f (expl its)
  | [], f, _ => rfl
  | it :: r, f, h => by
    have h1 := h it (by simp)
    rw [dealF, List.flatMap_cons, expl_append, bD_eq sh p f it h1, behind_eq sh p r _ fun i hi => h i (List.mem_cons_of_mem _ hi)]
    have e : expl (it :: r) = explI it ++ expl r := by unfold expl; rw [List.flatMap_cons]
    rw [e, bE_append, tot_rowI sh it h1]
def ShNn (sh : Int → List Int) (its : List Item) : Prop := ∀ n, Item.win n ∈ its → ∀ x ∈ sh n, 0 ≤ x
theorem rowI_nn (sh : Int → List Int) (it : Item) (h : ItOk1 it) (g : ∀ n, it = .win n → ∀ x ∈ sh n, 0 ≤ x) : RowNn (rowI sh it) := by
  cases it with
  | win n => exact (rowOf_pos (g n rfl)).nn
  | ink a b =>
    intro q hq
    have : q = (a, b) := by simpa [rowI, itRow] using hq
    subst this
    exact ⟨h.1, by have := h.2; show a ≤ b; omega⟩
theorem deal_ok (sh : Int → List Int) : ∀ (its : List Item) (f : Int), ItOk its → ShNn sh its → ∀ d ∈ dealF sh f its, ItOk1 d.1 ∧ RowNn d.2.1
  | [], _, _, _ => fun d hd => by cases hd
  | it :: r, f, h, g => by
    intro d hd
    rw [dealF] at hd
    rcases List.mem_cons.mp hd with rfl | z
    · exact ⟨h it (by simp), rowI_nn sh it (h it (by simp)) fun n e => g n (by rw [e]; simp)⟩
    · exact deal_ok sh r _ (fun i hi => h i (List.mem_cons_of_mem _ hi)) (fun n hn => g n (List.mem_cons_of_mem _ hn)) d z
theorem parts_ok {a b : Int} {r : Row} (h : RowNn r) : ItOk (inkOf (plainF (pcs a b 0 r))) := inkOf_ok (plain_pos (pcs_nn a b r 0 h))
theorem aD_ok {p : Int} {d : Deal} (h : ItOk1 d.1) (g : RowNn d.2.1) : ItOk (aD p d) := by
  unfold aD
  split
  · exact ItOk.one h
  · split
    · exact fun i hi => by cases hi
    · exact parts_ok g
theorem bD_ok {p : Int} {d : Deal} (h : ItOk1 d.1) (g : RowNn d.2.1) : ItOk (bD p d) := by
  unfold bD
  split
  · exact fun i hi => by cases hi
  · split
    · exact ItOk.one h
    · exact parts_ok g
theorem flat_ok {g : Deal → List Item} {l : List Deal} (h : ∀ d ∈ l, ItOk (g d)) : ItOk (l.flatMap g) := fun it hm => by
  obtain ⟨d, hd, hm⟩ := List.mem_flatMap.mp hm
  exact h d hd it hm
theorem ink_len (r : Row) : (inkOf r).length = r.length := by unfold inkOf; rw [List.length_map]
theorem parts_len (a b : Int) (r : Row) : (inkOf (plainF (pcs a b 0 r))).length ≤ r.length := by
  rw [ink_len]
  exact Nat.le_trans (plainF_le _) (pcs_le a b r 0)
theorem flat_len (sh : Int → List Int) {g : Deal → List Item} (hg : ∀ d, (g d).length ≤ d.2.1.length + 1) : ∀ (its : List Item) (f : Int), ((dealF sh f its).flatMap g).length ≤ (rowsIt sh its).length + its.length
  | [], _ => by simp [dealF]
  | it :: r, f => by
    rw [dealF, List.flatMap_cons, List.length_append]
    have a := hg (it, rowI sh it, f, f + tot (rowI sh it))
    have b := flat_len sh hg r (f + tot (rowI sh it))
    have e : rowsIt sh (it :: r) = rowI sh it ++ rowsIt sh r := by unfold rowsIt; rw [List.flatMap_cons]; rfl
    rw [e, List.length_append, List.length_cons]
    simp only at a
    omega
theorem aD_len (p : Int) (d : Deal) : (aD p d).length ≤ d.2.1.length + 1 := by
  unfold aD
  split
  · simp
  · split
    · simp
    · exact Nat.le_trans (parts_len _ _ _) (by omega)
theorem bD_len (p : Int) (d : Deal) : (bD p d).length ≤ d.2.1.length + 1 := by
  unfold bD
  split
  · simp
  · split
    · simp
    · exact Nat.le_trans (parts_len _ _ _) (by omega)
theorem flat_take {α β : Type} (g : α → List β) (l : List α) (i : Nat) : ((l.take i).flatMap g).length ≤ (l.flatMap g).length := by
  have e : l.flatMap g = (l.take i).flatMap g ++ (l.drop i).flatMap g := by rw [← List.flatMap_append, List.take_append_drop]
  rw [e, List.length_append]
  omega
theorem flat_snoc {α β : Type} (g : α → List β) {l : List α} {i : Nat} {a : α} (h : l[i]? = some a) : (l.take (i + 1)).flatMap g = (l.take i).flatMap g ++ g a := by
  rw [take_snoc h, List.flatMap_append]
  simp
theorem rowI_len (sh : Int → List Int) {its : List Item} {it : Item} (h : it ∈ its) : (rowI sh it).length ≤ (rowsIt sh its).length := by
  obtain ⟨a, b, rfl⟩ := List.append_of_mem h
  rw [rowsIt_append]
  have e : rowsIt sh (it :: b) = rowI sh it ++ rowsIt sh b := by unfold rowsIt; rw [List.flatMap_cons]; rfl
  rw [e, List.length_append, List.length_append]
  omega
/-- all but two lists of ours is as it was -/
def Keep2 (A B : Addr) (H H' : Hp) : Prop := ∀ a o, H a = some o → a ≠ A → a ≠ B → H' a = some o
theorem Keep2.tup {A B : Addr} {H H' : Hp} {xs ys : List V} (k : Keep2 A B H H') (hA : H A = some (.lst xs)) (hB : H B = some (.lst ys)) : ∀ a zs, H a = some (.tup zs) → H' a = some (.tup zs) := fun a zs h => k a _ h (fun z => by
  rw [z, hA] at h
  cases h) (fun z => by
  rw [z, hB] at h
  cases h)
theorem ItemAt.tups {H H' : Hp} {v : V} {it : Item} (t : ∀ a xs, H a = some (.tup xs) → H' a = some (.tup xs)) : ItemAt H v it → ItemAt H' v it := fun ⟨a, e, h⟩ => ⟨a, e, t a _ h⟩
theorem DealAt.keep2 {N : Addr → Prop} {A B : Addr} {H H' : Hp} {v : V} {d : Deal} {xs ys : List V} (hA : H A = some (.lst xs)) (hB : H B = some (.lst ys)) (n : ∀ a, N a → a ≠ A ∧ a ≠ B) (k : Keep2 A B H H') : DealAt N H v d → DealAt N H' v d := fun ⟨a, ra, x, e, h, i, ⟨as, hr, hp⟩, hn⟩ =>
  ⟨a, ra, x, e, k.tup hA hB _ _ h, i.tups (k.tup hA hB), ⟨as, k _ _ hr (n ra hn).1 (n ra hn).2, hp.tups (k.tup hA hB)⟩, hn⟩
theorem All2.app {α β : Type} {R : α → β → Prop} : ∀ {as cs : List α} {bs ds : List β}, All2 R as bs → All2 R cs ds → All2 R (as ++ cs) (bs ++ ds)
  | _, _, _, _, .nil, h => h
  | _, _, _, _, .cons r t, h => .cons r (t.app h)
structure PutPv (H1 : Hp) (A B : Addr) (l1 l2 : List Item) (H2 : Hp) : Prop where
  a : ∃ vs, H2 A = some (.lst vs) ∧ All2 (ItemAt H2) vs l1
  b : ∃ vs, H2 B = some (.lst vs) ∧ All2 (ItemAt H2) vs l2
  k : Keep2 A B H1 H2
theorem PutPv.same {H1 H2 H3 : Hp} {A B : Addr} {l1 l2 : List Item} (p : PutPv H1 A B l1 l2 H2) (s : Same H2 H3) : PutPv H1 A B l1 l2 H3 := by
  obtain ⟨⟨v1, h1, t1⟩, ⟨v2, h2, t2⟩, k⟩ := p
  exact ⟨⟨v1, s _ _ h1, t1.mono fun _ _ h => h.same s⟩, ⟨v2, s _ _ h2, t2.mono fun _ _ h => h.same s⟩, fun a o e n m => s _ _ (k a o e n m)⟩
theorem PutPv.moreA {H1 H2 : Hp} {A B : Addr} {l1 l2 l3 : List Item} {v1 v3 : List V} (p : PutPv H1 A B l1 l2 H2) (n : A ≠ B) (h1 : H2 A = some (.lst v1)) (t3 : All2 (ItemAt H2) v3 l3) : PutPv H1 A B (l1 ++ l3) l2 (upd H2 A (.lst (v1 ++ v3))) := by
  obtain ⟨⟨v1', h1', t1⟩, ⟨v2, h2, t2⟩, k⟩ := p
  rw [h1] at h1'
  cases h1'
  have kp : ∀ v i, ItemAt H2 v i → ItemAt (upd H2 A (.lst (v1 ++ v3))) v i := fun v i h => h.keep h1 (keep_upd A _ _)
  refine ⟨⟨_, upd_same, (t1.mono kp).app (t3.mono kp)⟩, ⟨v2, by rw [upd_ne n.symm]; exact h2, t2.mono kp⟩, fun a o e m1 m2 => ?_⟩
  rw [upd_ne m1]
  exact k a o e m1 m2
theorem PutPv.moreB {H1 H2 : Hp} {A B : Addr} {l1 l2 l3 : List Item} {v2 v3 : List V} (p : PutPv H1 A B l1 l2 H2) (n : A ≠ B) (h2 : H2 B = some (.lst v2)) (t3 : All2 (ItemAt H2) v3 l3) : PutPv H1 A B l1 (l2 ++ l3) (upd H2 B (.lst (v2 ++ v3))) := by
  obtain ⟨⟨v1, h1, t1⟩, ⟨v2', h2', t2⟩, k⟩ := p
  rw [h2] at h2'
  cases h2'
  have kp : ∀ v i, ItemAt H2 v i → ItemAt (upd H2 B (.lst (v2 ++ v3))) v i := fun v i h => h.keep h2 (keep_upd B _ _)
  refine ⟨⟨v1, by rw [upd_ne n]; exact h1, t1.mono kp⟩, ⟨_, upd_same, (t2.mono kp).app (t3.mono kp)⟩, fun a o e m1 m2 => ?_⟩
  rw [upd_ne m2]
  exact k a o e m1 m2
theorem shows_nn {rows : List (List Int)} {sh : Int → List Int} (hsd : Sound rows) (hrk : Rkd rows) (hsh : Shows rows sh) : ∀ x : Int, 0 ≤ x → x < rows.length → ∀ y ∈ sh x, 0 ≤ y := by
  obtain ⟨rk, hb, hd⟩ := hrk
  have key : ∀ (k : Nat) (x : Int), rk x < k → 0 ≤ x → x < rows.length → ∀ y ∈ sh x, 0 ≤ y := by
    intro k
    induction k with
    | zero => intro x h; omega
    | succ k ih =>
      intro x hx x0 x1 y hy
      have he : rows[x.toNat]? = some rows[x.toNat] := List.getElem?_eq_getElem (by omega)
      rw [hsh x _ x0 he] at hy
      unfold showE at hy
      obtain ⟨e, hm, hy⟩ := List.mem_flatMap.mp hy
      unfold entS at hy
      by_cases c : e < 0
      · rw [if_pos c] at hy
        have nx : Nxt rows x (-1 - e) := ⟨x0, _, he, mem_winsE.mpr ⟨by omega, by rw [show -1 - (-1 - e) = e by omega]; exact hm⟩⟩
        obtain ⟨a, b⟩ := hsd.nxt nx
        have := hd _ _ nx
        exact ih _ (by omega) a b y hy
      · rw [if_neg c] at hy
        rw [List.mem_singleton.mp hy]
        omega
  exact fun x => key (rk x + 1) x (Nat.lt_succ_self _)
theorem win_nxt {rows : List (List Int)} {s n : Int} {es : List Int} (h0 : 0 ≤ s) (he : rows[s.toNat]? = some es) (h : Item.win n ∈ itemsOf es) : Nxt rows s n := by
  refine ⟨h0, es, he, ?_⟩
  rw [← wins_itemsOf]
  unfold winsOf
  rw [List.mem_filterMap]
  exact ⟨.win n, h, rfl⟩
/-- what the rows of sheets are handed in as -/
structure RowsIn (H : Hp) (r : Addr) (rows : List (List Int)) (sh : Int → List Int) : Prop where
  at_ : SheetsAt H r (rows.map itemsOf)
  len : rows.length ≤ 1000
  ents : ∀ es ∈ rows, es.length ≤ 1000
  snd : Sound rows
  rk : Rkd rows
  shw : Shows rows sh
  bd : ∀ x : Int, 0 ≤ x → x < rows.length → (sh x).length ≤ 10000
theorem RowsIn.same {H H' : Hp} {r : Addr} {rows : List (List Int)} {sh : Int → List Int} (s : Same H H') (h : RowsIn H r rows sh) : RowsIn H' r rows sh := { h with at_ := h.at_.same s }
/-- one sheet among them -/
structure OneIn (H : Hp) (r : Addr) (rows : List (List Int)) (sh : Int → List Int) (s : Int) (es : List Int) (rvs : List V) (b : Addr) : Prop where
  he : rows[s.toNat]? = some es
  hr : H r = some (.lst rvs)
  ix : atI rvs s = some (.ref b)
  it : ItemsAt H (.ref b) (itemsOf es)
  il : (itemsOf es).length ≤ 1000
  rl : (rowsIt sh (itemsOf es)).length ≤ 10000
  tt : tot (rowOf (sh s)) = (sh s).length
  se : sh s = showE sh es
theorem RowsIn.one {H : Hp} {r : Addr} {rows : List (List Int)} {sh : Int → List Int} {s : Int} (h : RowsIn H r rows sh) (h0 : 0 ≤ s) (h1 : s < rows.length) : ∃ es rvs b, OneIn H r rows sh s es rvs b := by
  have hes1 : rows[s.toNat]? = some rows[s.toNat] := List.getElem?_eq_getElem (by omega)
  obtain ⟨rvs, hr2, hrall⟩ := h.at_
  obtain ⟨vi, hvi, hI⟩ := hrall.get' (i := s.toNat) (b := itemsOf rows[s.toNat]) (by rw [List.getElem?_map, hes1]; rfl)
  obtain ⟨b, ivs, rfl, hb, hit⟩ := id hI
  have z := atI_nat hvi
  rw [show ((s.toNat : Nat) : Int) = s by omega] at z
  have hil := items_len rows[s.toNat] []
  have hel := h.ents _ (List.mem_of_getElem? hes1)
  obtain ⟨hsp, hok⟩ := rows_items sh rows[s.toNat]
  have se := h.shw s _ h0 hes1
  refine ⟨_, rvs, b, hes1, hr2, z, hI, ?_, ?_, ?_, se⟩
  · show (rows[s.toNat].foldl itemsStep []).length ≤ _
    simp only [List.length_nil] at hil
    omega
  · have q := rowsIt_len sh (itemsOf rows[s.toNat]) hok
    rw [hsp, ← se] at q
    have := h.bd s h0 h1
    omega
  · rw [← spell_len _ (rowOf_ok _), spell_rowOf]
theorem Fit.small {i : Int} (h0 : 0 ≤ i) (h1 : i ≤ 10000) : Fit i := by
  have a : (0 : Int) < 10 ^ 60 := by decide
  have b : (10000 : Int) < 10 ^ 60 := by decide
  exact ⟨by omega, by omega⟩
theorem rowOf_len (ns : List Int) : (rowOf ns).length ≤ ns.length := by
  have z := rowOf_le ns []
  simpa [rowOf] using z
def putRes (sh : Int → List Int) (p : Int) (es new : List Int) : List Int := if new = [] then es else aE sh p 0 es ++ new ++ bE sh p 0 es

def spDealt : Sp := fun vs H Q _ => ∃ (r S : Addr) (its : List Item) (kvs : List (Key × V)) (sh : Int → List Int) (N : Addr → Prop), vs = [.ref r, .ref S] ∧ ItemsAt H (.ref r) its ∧ H S = some (.dK kvs) ∧ WinsIn H kvs sh its ∧ its.length ≤ 100000 ∧ (∀ it ∈ its, (rowI sh it).length ≤ 100000) ∧
  (∀ n a, Item.win n ∈ its → valV kvs (Sum.inl n) = some (.ref a) → N a) ∧ (∀ a, H a = none → N a) ∧
  ∀ (o : Addr) (vs' : List V) (H' : Hp), H' o = some (.lst vs') → All2 (DealAt N H') vs' (dealF sh 0 its) → Same H H' → H o = none → Q (.ref o) H'
abbrev sdealt : Stmt := top 17
theorem scdealt : FnScope ["items", "views", "told", "first", "item", "row", "last"] ["items", "views"] (defScope sdealt) := ⟨rfl, rfl, rfl, by decide +kernel, rfl, by decide +kernel, by decide +kernel⟩
theorem ok_dealt {f fI fZ : Addr} {fd fdI fdZ : FuncData} (F : Fun K "dealt" "dealt" sdealt f fd) (T : Nms mg) (ditem_row : DefAt K mg "item_row" sitem_row ["item", "views"] fI fdI) (dsize : DefAt K mg "size" ssize ["row"] fZ fdZ) : FnOk P w K mg base CX0 2 f fd ["items", "views"] spDealt := by
  have gitem_row : FnOk P w K mg base CX0 1 fI fdI ["item", "views"] spItemRow := ok_item_row ditem_row.F T
  have gsize : FnOk P w K mg base CX0 1 fZ fdZ ["row"] spSize := ok_size dsize.F T
  refine F.ok scdealt (fun vs H Q E h => ?_) (fun cdv A outer s H vs Q E hr h => ?_)
  · obtain ⟨r, S, its, kvs, sh, N, rfl, _⟩ := h
    rfl
  obtain ⟨r, S, its, kvs, sh, N, rfl, ⟨r', ivs, e, hr1, hit⟩, hS, hW, hlen, hrl, nW, nN, k⟩ := h
  cases e
  refine ⟨_, (pss_cons (ps_set (i := 2) scdealt.nd rfl (Or.inl rfl) (pe_lst pa_nil))
      (pss_cons (ps_set (i := 3) scdealt.nd rfl (Or.inl rfl) pe_int)
      (pss_cons (ps_for PassesOwn.never rfl (pi_list (pv 0)) (pg_name (i := 4) scdealt.nd rfl (Or.inl rfl))
      (pss_cons (ps_set (i := 5) scdealt.nd rfl (Or.inl rfl) (pe_def ditem_row gitem_row hr (pa_cons (pv 4) (pa_cons (pv 1) pa_nil))))
      (pss_cons (ps_set (i := 6) scdealt.nd rfl (Or.inl rfl) (pe_op op_add (pv 3) (pe_def dsize gsize hr (pa_cons (pv 5) pa_nil))))
      (pss_cons (ps_expr (pe_bm PySem.F.plainAttrs_list PySem.F.slot_list_append PySem.F.type_list_append mt_append (pv 2) (pa_cons (pe_tup (pa_cons (pv 4) (pa_cons (pv 5) (pa_cons (pv 3) (pa_cons (pv 6) pa_nil))))) pa_nil)))
      (pss_one (ps_set (i := 3) scdealt.nd rfl (Or.inl rfl) (pv 6)))))))
      (pss_one (ps_ret (pv 2)))))), ?_⟩
  refine ⟨(by show 0 ≤ sizeLine; decide), fun q hq => ?_⟩
  have s0 : Same H (upd H q (.lst [])) := same_new hq _
  refine ⟨_, rfl, r, rfl, ⟨_, SqL.of (s0 _ _ hr1)⟩, for_list (K := K) (a := r) (xs := ivs) (fun i σ H2 => ∃ (vs : List V) (u1 u2 u3 : Option V), σ = [some (.ref r), some (.ref S), some (.ref q), some (.int (0 + tot (rowsIt sh (its.take i)))), u1, u2, u3] ∧ H2 q = some (.lst vs) ∧ All2 (DealAt (fun a => N a ∧ a ≠ q) H2) vs (dealF sh 0 (its.take i)) ∧ Same H H2)
    ⟨[], none, none, none, rfl, upd_same, .nil, s0⟩ (fun i σ H2 _ ⟨_, _, _, _, _, _, _, s⟩ => SqL.of (s _ _ hr1)) ?_ ?_⟩
  · rintro i x σ H2 hi ⟨vs, u1, u2, u3, rfl, hq2, hb, s⟩
    obtain ⟨it, ei, hiv⟩ := hit.get hi
    have im := List.mem_of_getElem? ei
    have bl := hb.len
    rw [dealF_len, List.length_take] at bl
    refine ⟨_, rfl, _, rfl, x, it, S, kvs, fun n => rowOf (sh n), rfl, hiv.same s, s _ _ hS, fun n hn => (hW.same s) n (by rw [← hn]; exact im), fun a H3 R3 s3 w3 => ?_⟩
    have na : N a ∧ a ≠ q := by
      rcases w3 with ⟨n, rfl, hv⟩ | h0
      · refine ⟨nW n a im hv, ?_⟩
        obtain ⟨b, hb1, ⟨as, hb2, _⟩⟩ := hW n im
        rw [hv] at hb1
        cases hb1
        exact ne_of_none hb2 hq
      · exact ⟨nN a (free_same s h0), (ne_of_none hq2 h0).symm⟩
    refine ⟨_, rfl, _, rfl, a, rowI sh it, rfl, R3, Nat.le_trans (hrl it im) (by decide), fun H4 s4 => ⟨_, _, rfl, rfl, ?_⟩⟩
    have hq4 := s4 _ _ (s3 _ _ hq2)
    refine ⟨_, rfl, .inl ⟨rfl, _, SqL.of hq4⟩, _, rfl, _, rfl, _, rfl, _, rfl, (by show 4 ≤ sizeLine; decide), fun t ht => ?_⟩
    have hq5 := same_new ht (.tup [x, .ref a, .int (0 + tot (rowsIt sh (its.take i))), .int (0 + tot (rowsIt sh (its.take i)) + tot (rowI sh it))]) _ _ hq4
    refine ⟨q, _, _, rfl, rfl, hq5, million (by omega), ?_⟩
    refine ⟨_, rfl, _, some x, some (.ref a), some (.int (0 + tot (rowsIt sh (its.take i)) + tot (rowI sh it))), ?_, upd_same, ?_, keep_of hq (s.trans (s3.trans (s4.trans (same_new ht _)))) (keep_upd q _ _)⟩
    · have e : rowsIt sh (its.take (i + 1)) = rowsIt sh (its.take i) ++ rowI sh it := by rw [take_snoc ei, rowsIt_append, rowsIt_one]; rfl
      rw [e, tot_append, ← Int.add_assoc]
      rfl
    · have e : dealF sh 0 (its.take (i + 1)) = dealF sh 0 (its.take i) ++ [(it, rowI sh it, 0 + tot (rowsIt sh (its.take i)), 0 + tot (rowsIt sh (its.take i)) + tot (rowI sh it))] := by rw [take_snoc ei, dealF_append]; rfl
      rw [e]
      have ntq : t ≠ q := (ne_of_none hq4 ht).symm
      refine All2.snoc (hb.mono fun v d h => (((h.same s3).same s4).same (same_new ht _)).keep hq5 (fun a h => h.2) (keep_upd q _ _)) ⟨t, a, x, rfl, ?_, ?_, ?_, na⟩
      · rw [upd_ne ntq, upd_same]
      · exact ((((hiv.same s).same s3).same s4).same (same_new ht _)).keep hq5 (keep_upd q _ _)
      · exact (((R3.same s4).same (same_new ht _))).keep hq5 na.2 (keep_upd q _ _)
  · rintro σ H2 ⟨vs, u1, u2, u3, rfl, hq2, hb, s⟩
    rw [hit.len, List.take_length] at hb
    exact ⟨_, rfl, k q vs H2 hq2 (hb.mono fun v d ⟨a, ra, x, e, h, i, r, n⟩ => ⟨a, ra, x, e, h, i, r, n.1⟩) s hq⟩

def spPutAmong : Sp := fun vs H Q _ => ∃ (r S o : Addr) (p : Int) (its oth : List Item) (kvs : List (Key × V)) (sh : Int → List Int), vs = [.ref r, .ref S, .int p, .ref o] ∧ ItemsAt H (.ref r) its ∧ H S = some (.dK kvs) ∧ WinsIn H kvs sh its ∧ ItemsAt H (.ref o) oth ∧ ItOk its ∧ ItOk oth ∧ ShNn sh its ∧ its.length ≤ 50000 ∧ (rowsIt sh its).length ≤ 50000 ∧ oth.length ≤ 50000 ∧
  ∀ (q : Addr) (H' : Hp), ItemsAt H' (.ref q) (itemsOf (aE sh p 0 (expl its) ++ expl oth ++ bE sh p 0 (expl its))) → Same H H' → H q = none → Q (.ref q) H'
abbrev sput_among : Stmt := top 18
theorem scput_among : FnScope ["items", "views", "place", "others", "ahead", "behind", "item", "row", "first", "last"] ["items", "views", "place", "others"] (defScope sput_among) := ⟨rfl, rfl, rfl, by decide +kernel, rfl, by decide +kernel, by decide +kernel⟩
theorem ok_put_among {f fI fZ fP fS fG fK fD : Addr} {fd fdI fdZ fdP fdS fdG fdK fdD : FuncData} (F : Fun K "put_among" "put_among" sput_among f fd) (T : Nms mg) (ditem_row : DefAt K mg "item_row" sitem_row ["item", "views"] fI fdI) (dsize : DefAt K mg "size" ssize ["row"] fZ fdZ) (dplain : DefAt K mg "plain" splain ["row"] fP fdP) (dpieces : DefAt K mg "pieces" spieces ["row", "start", "stop"] fS fdS) (dgoes_on : DefAt K mg "goes_on" sgoes_on ["one", "other"] fG fdG) (dplain_items : DefAt K mg "plain_items" splain_items ["items"] fK fdK) (ddealt : DefAt K mg "dealt" sdealt ["items", "views"] fD fdD) {fN : Addr} {fdN : FuncData} (dinked : DefAt K mg "inked" sinked ["row"] fN fdN) : FnOk P w K mg base CX0 3 f fd ["items", "views", "place", "others"] spPutAmong := by
  have gdealt : FnOk P w K mg base CX0 2 fD fdD ["items", "views"] spDealt := ok_dealt ddealt.F T ditem_row dsize
  have gpieces : FnOk P w K mg base CX0 1 fS fdS ["row", "start", "stop"] spPieces := ok_pieces dpieces.F T
  have ginked : FnOk P w K mg base CX0 2 fN fdN ["row"] spInked := ok_inked dinked.F T dplain
  have gplain_items : FnOk P w K mg base CX0 2 fK fdK ["items"] spPlainItems := ok_plain_items dplain_items.F T dgoes_on
  refine F.ok scput_among (fun vs H Q E h => ?_) (fun cdv A outer s H vs Q E hr h => ?_)
  · obtain ⟨r, S, o, p, its, oth, kvs, sh, rfl, _⟩ := h
    rfl
  obtain ⟨r, S, o, p, its, oth, kvs, sh, rfl, hI, hS, hW, hO, ok1, ok2, nn, l1, l2, l3, k⟩ := h
  refine ⟨_, (pss_cons (ps_set (i := 4) scput_among.nd rfl (Or.inl rfl) (pe_lst pa_nil))
      (pss_cons (ps_set (i := 5) scput_among.nd rfl (Or.inl rfl) (pe_lst pa_nil))
      (pss_cons (ps_for PassesOwn.never rfl (pi_list (pe_def ddealt gdealt hr (pa_cons (pv 0) (pa_cons (pv 1) pa_nil)))) (pg_tup (n := 4) rfl (pgs_cons (pg_name (i := 6) scput_among.nd rfl (Or.inl rfl)) (pgs_cons (pg_name (i := 7) scput_among.nd rfl (Or.inl rfl)) (pgs_cons (pg_name (i := 8) scput_among.nd rfl (Or.inl rfl)) (pgs_cons (pg_name (i := 9) scput_among.nd rfl (Or.inl rfl)) pgs_nil)))))
      (pss_one (ps_if (pt_cmpR op_le (pv 9) (pv 2) (nomark _))
      (pss_one (ps_expr (pe_bm PySem.F.plainAttrs_list PySem.F.slot_list_append PySem.F.type_list_append mt_append (pv 4) (pa_cons (pv 6) pa_nil))))
      (pss_one (ps_if (pt_cmpR op_le (pv 2) (pv 8) (nomark _))
      (pss_one (ps_expr (pe_bm PySem.F.plainAttrs_list PySem.F.slot_list_append PySem.F.type_list_append mt_append (pv 5) (pa_cons (pv 6) pa_nil))))
      (pss_cons (ps_aug (i := 4) scput_among.nd rfl (Or.inl rfl) (pe_def dinked ginked hr (pa_cons (pe_def dpieces gpieces hr (pa_cons (pv 7) (pa_cons pe_int (pa_cons (pe_op op_sub (pv 2) (pv 8)) pa_nil)))) pa_nil)) ip_cat)
      (pss_one (ps_aug (i := 5) scput_among.nd rfl (Or.inl rfl) (pe_def dinked ginked hr (pa_cons (pe_def dpieces gpieces hr (pa_cons (pv 7) (pa_cons (pe_op op_sub (pv 2) (pv 8)) (pa_cons (pe_op op_sub (pv 9) (pv 8)) pa_nil)))) pa_nil)) ip_cat))))))))
      (pss_one (ps_ret (pe_def dplain_items gplain_items hr (pa_cons (pe_op op_cat (pe_op op_cat (pv 4) (pv 3)) (pv 5)) pa_nil))))))), ?_⟩
  refine ⟨(by show 0 ≤ sizeLine; decide), fun A hA => ⟨(by show 0 ≤ sizeLine; decide), fun B hB => ?_⟩⟩
  have sA : Same H (upd H A (.lst [])) := same_new hA _
  have sB : Same _ (upd (upd H A (.lst [])) B (.lst [])) := same_new hB _
  have s0 := sA.trans sB
  have nAB : A ≠ B := ne_of_none upd_same hB
  have hB0 := free_same sA hB
  refine ⟨_, rfl, _, rfl, r, S, its, kvs, sh, fun a => a ≠ A ∧ a ≠ B, rfl, hI.same s0, s0 _ _ hS, hW.same s0, by omega, (fun it hi => by have := rowI_len sh hi; omega), ?_, ?_, fun D dv H1 hD hdl s1 _ => ?_⟩
  · intro n a hn hv
    obtain ⟨b, e, as, hb, _⟩ := hW n hn
    rw [hv] at e
    cases e
    exact ⟨ne_of_none hb hA, ne_of_none hb hB0⟩
  · intro a ha
    exact ⟨(ne_of_none (sB _ _ upd_same) ha).symm, (ne_of_none upd_same ha).symm⟩
  have hA1 := s1 _ _ (sB _ _ (upd_same (H := H) (a := A) (o := .lst [])))
  have hB1 := s1 _ _ (upd_same (H := upd H A (.lst [])) (a := B) (o := .lst []))
  have nD : D ≠ A ∧ D ≠ B := by
    rename_i hD0
    exact ⟨(ne_of_none (sB _ _ upd_same) hD0).symm, (ne_of_none upd_same hD0).symm⟩
  have lenA := flat_len sh (aD_len p) its 0
  have lenB := flat_len sh (bD_len p) its 0
  have dok := deal_ok sh its 0 ok1 nn
  refine ⟨D, rfl, ⟨_, SqL.of hD⟩, for_list (K := K) (a := D) (xs := dv) (fun i σ H2 => ∃ u1 u2 u3 u4 : Option V, σ = [some (.ref r), some (.ref S), some (.int p), some (.ref o), some (.ref A), some (.ref B), u1, u2, u3, u4] ∧ PutPv H1 A B (((dealF sh 0 its).take i).flatMap (aD p)) (((dealF sh 0 its).take i).flatMap (bD p)) H2)
    ⟨none, none, none, none, rfl, ⟨_, hA1, .nil⟩, ⟨_, hB1, .nil⟩, fun _ _ e _ _ => e⟩ (fun i σ H2 _ ⟨_, _, _, _, _, pv⟩ => SqL.of (pv.k _ _ hD nD.1 nD.2)) ?_ ?_⟩
  · rintro i x σ H2 hi ⟨u1, u2, u3, u4, rfl, pv⟩
    obtain ⟨d, ed, hd1⟩ := hdl.get hi
    have hd2 := hd1.keep2 hA1 hB1 (fun a h => h) pv.k
    obtain ⟨a, ra, xi, rfl, hta, hxi, hra, nra⟩ := hd2
    have eA := flat_snoc (aD p) ed
    have eB := flat_snoc (bD p) ed
    have bA := flat_take (aD p) (dealF sh 0 its) i
    have bB := flat_take (bD p) (dealF sh 0 its) i
    have bA1 := flat_take (aD p) (dealF sh 0 its) (i + 1)
    have bB1 := flat_take (bD p) (dealF sh 0 its) (i + 1)
    obtain ⟨v1, hv1, t1⟩ := pv.a
    obtain ⟨v2, hv2, t2⟩ := pv.b
    have z1 := t1.len
    have z2 := t2.len
    obtain ⟨it, row, fi, la⟩ := d
    have rl : row.length ≤ 50000 := by
      have z := List.mem_of_getElem? ed
      have : ∃ it' ∈ its, row = rowI sh it' := by
        have q : ∀ (its : List Item) (f : Int), (it, row, fi, la) ∈ dealF sh f its → ∃ it' ∈ its, row = rowI sh it' := by
          intro its
          induction its with
          | nil => intro f h; cases h
          | cons i0 r0 ih =>
            intro f h
            rw [dealF] at h
            rcases List.mem_cons.mp h with e | e
            · cases e; exact ⟨it, by simp, rfl⟩
            · obtain ⟨i1, m1, e1⟩ := ih _ e
              exact ⟨i1, List.mem_cons_of_mem _ m1, e1⟩
        exact q its 0 z
      obtain ⟨i1, m1, rfl⟩ := this
      have := rowI_len sh m1
      omega
    refine ⟨a, _, rfl, SqT.of hta, rfl, _, _, rfl, _, _, rfl, _, _, rfl, _, _, rfl, rfl, ?_⟩
    refine ⟨_, rfl, _, rfl, _, _, rfl, rfl, _, rfl, ite2 (fun c => ?_) (fun c => ?_)⟩
    · have c' : la ≤ p := of_decide_eq_true c
      refine ⟨_, rfl, .inl ⟨rfl, _, SqL.of hv1⟩, _, rfl, A, _, _, rfl, rfl, hv1, million (by omega), ?_⟩
      refine ⟨_, _, _, _, rfl, ?_⟩
      rw [eA, eB]
      have e1 : aD p (it, row, fi, la) = [it] := by unfold aD; rw [if_pos c']
      have e2 : bD p (it, row, fi, la) = [] := by unfold bD; rw [if_pos c']
      rw [e1, e2, List.append_nil]
      exact pv.moreA nAB hv1 (.cons hxi .nil)
    · have c' : ¬ la ≤ p := fun z => c (decide_eq_true z)
      refine ⟨_, rfl, _, rfl, _, _, rfl, rfl, _, rfl, ite2 (fun c2 => ?_) (fun c2 => ?_)⟩
      · have c2' : p ≤ fi := of_decide_eq_true c2
        refine ⟨_, rfl, .inl ⟨rfl, _, SqL.of hv2⟩, _, rfl, B, _, _, rfl, rfl, hv2, million (by omega), ?_⟩
        refine ⟨_, _, _, _, rfl, ?_⟩
        rw [eA, eB]
        have e1 : aD p (it, row, fi, la) = [] := by unfold aD; rw [if_neg c', if_pos c2']
        have e2 : bD p (it, row, fi, la) = [it] := by unfold bD; rw [if_neg c', if_pos c2']
        rw [e1, e2, List.append_nil]
        exact pv.moreB nAB hv2 (.cons hxi .nil)
      · have c2' : ¬ p ≤ fi := fun z => c2 (decide_eq_true z)
        have e1 : aD p (it, row, fi, la) = inkOf (plainF (pcs 0 (p - fi) 0 row)) := by unfold aD; rw [if_neg c', if_neg c2']
        have e2 : bD p (it, row, fi, la) = inkOf (plainF (pcs (p - fi) (la - fi) 0 row)) := by unfold bD; rw [if_neg c', if_neg c2']
        rw [eA, e1, List.length_append] at bA1
        rw [eB, e2, List.length_append] at bB1
        refine ⟨_, rfl, _, rfl, _, rfl, _, rfl, _, _, rfl, rfl, ra, row, 0, p - fi, rfl, hra, by omega, fun q1 H3 R3 s3 hq1 => ⟨q1, _, rfl, R3, Nat.le_trans (pcs_le _ _ _ _) (by omega), fun q2 H4 I4 s4 hq2 => ?_⟩⟩
        obtain ⟨q2', v3, e3, h3, t3⟩ := I4
        cases e3
        have z3 := t3.len
        have hv1' := s4 _ _ (s3 _ _ hv1)
        refine ⟨A, q2, _, _, rfl, rfl, hv1', h3, Nat.le_of_lt (million (by omega)), ?_⟩
        have pv5 := ((pv.same s3).same s4).moreA nAB hv1' t3
        have hra5 : RowAt (upd H4 A (.lst (v1 ++ v3))) ra row := ((hra.same s3).same s4).keep hv1' nra.1 (keep_upd A _ _)
        have hv2' : (upd H4 A (.lst (v1 ++ v3))) B = some (.lst v2) := by rw [upd_ne nAB.symm]; exact s4 _ _ (s3 _ _ hv2)
        refine ⟨_, rfl, _, rfl, _, rfl, _, rfl, _, _, rfl, rfl, _, rfl, _, rfl, _, _, rfl, rfl, ra, row, p - fi, la - fi, rfl, hra5, by omega, fun q3 H6 R6 s6 hq3 => ⟨q3, _, rfl, R6, Nat.le_trans (pcs_le _ _ _ _) (by omega), fun q4 H7 I7 s7 hq4 => ?_⟩⟩
        obtain ⟨q4', v4, e4, h4, t4⟩ := I7
        cases e4
        have z4 := t4.len
        have hv2'' := s7 _ _ (s6 _ _ hv2')
        refine ⟨B, q4, _, _, rfl, rfl, hv2'', h4, Nat.le_of_lt (million (by omega)), ?_⟩
        refine ⟨_, _, _, _, rfl, ?_⟩
        rw [eA, eB, e1, e2]
        exact ((pv5.same s6).same s7).moreB nAB hv2'' t4
  · rintro σ H2 ⟨u1, u2, u3, u4, rfl, pv⟩
    have dl := hdl.len
    rw [dl, List.take_length] at pv
    obtain ⟨v1, hv1, t1⟩ := pv.a
    obtain ⟨v2, hv2, t2⟩ := pv.b
    have z1 := t1.len
    have z2 := t2.len
    have sm : Same H H2 := fun a ob e => pv.k a ob (s1 _ _ (s0 _ _ e)) (ne_of_none e hA) (ne_of_none e hB0)
    obtain ⟨o', v3, e3, h3, t3⟩ := hO.same sm
    cases e3
    have z3 := t3.len
    refine ⟨_, rfl, _, rfl, A, o, _, _, rfl, rfl, hv1, h3, Nat.le_of_lt (million (by omega)), fun c1 hc1 => ?_⟩
    have n1 : Same H2 (upd H2 c1 (.lst (v1 ++ v3))) := same_new hc1 _
    refine ⟨_, rfl, c1, B, _, _, rfl, rfl, upd_same, n1 _ _ hv2, Nat.le_of_lt (million (by rw [List.length_append]; omega)), fun c2 hc2 => ?_⟩
    have n2 : Same _ (upd (upd H2 c1 (.lst (v1 ++ v3))) c2 (.lst (v1 ++ v3 ++ v2))) := same_new hc2 _
    have n12 := n1.trans n2
    refine ⟨c2, _, rfl, ⟨c2, _, rfl, upd_same, ((t1.app t3).app t2).mono fun v i h => h.same n12⟩, by rw [List.length_append, List.length_append]; omega, fun q H9 I9 s9 hq9 => ?_⟩
    have okA : ItOk ((dealF sh 0 its).flatMap (aD p)) := flat_ok fun d hd => aD_ok (dok d hd).1 (dok d hd).2
    have okB : ItOk ((dealF sh 0 its).flatMap (bD p)) := flat_ok fun d hd => bD_ok (dok d hd).1 (dok d hd).2
    rw [plainI_expl _ ((okA.append ok2).append okB), expl_append, expl_append, ahead_eq sh p its 0 ok1, behind_eq sh p its 0 ok1] at I9
    exact k q H9 I9 (sm.trans (n12.trans s9)) (free_same (sm.trans n12) hq9)

/-! ### what a cut leaves and takes -/
def kD (a b : Int) (d : Deal) : List Item := if d.2.2.2 ≤ a ∨ b ≤ d.2.2.1 then [d.1] else if a ≤ d.2.2.1 ∧ d.2.2.2 ≤ b then [] else inkOf (plainF (pcs 0 (a - d.2.2.1) 0 d.2.1 ++ pcs (b - d.2.2.1) (d.2.2.2 - d.2.2.1) 0 d.2.1))
def tD (a b : Int) (d : Deal) : List Item := if d.2.2.2 ≤ a ∨ b ≤ d.2.2.1 then [] else if a ≤ d.2.2.1 ∧ d.2.2.2 ≤ b then [d.1] else inkOf (plainF (pcs (a - d.2.2.1) (b - d.2.2.1) 0 d.2.1))
def kE1 (sh : Int → List Int) (a b f e : Int) : List Int := if f + (entS sh e).length ≤ a ∨ b ≤ f then [e] else if a ≤ f ∧ f + (entS sh e).length ≤ b then [] else (entS sh e).take (a - f).toNat ++ (entS sh e).drop (b - f).toNat
def tE1 (sh : Int → List Int) (a b f e : Int) : List Int := if f + (entS sh e).length ≤ a ∨ b ≤ f then [] else if a ≤ f ∧ f + (entS sh e).length ≤ b then [e] else ((entS sh e).take (b - f).toNat).drop (a - f).toNat
def kE (sh : Int → List Int) (a b : Int) : Int → List Int → List Int
  | _, [] => []
  | f, e :: r => kE1 sh a b f e ++ kE sh a b (f + (entS sh e).length) r
def tE (sh : Int → List Int) (a b : Int) : Int → List Int → List Int
  | _, [] => []
  | f, e :: r => tE1 sh a b f e ++ tE sh a b (f + (entS sh e).length) r
theorem kE_append (sh : Int → List Int) (a b : Int) (y : List Int) : ∀ (x : List Int) (f : Int), kE sh a b f (x ++ y) = kE sh a b f x ++ kE sh a b (f + (showE sh x).length) y
  | [], f => by simp [kE, showE]
  | e :: x, f => by
    rw [List.cons_append, kE, kE, kE_append sh a b y x, List.append_assoc, showE_cons, List.length_append, Int.add_assoc]
    push_cast
    rfl
theorem tE_append (sh : Int → List Int) (a b : Int) (y : List Int) : ∀ (x : List Int) (f : Int), tE sh a b f (x ++ y) = tE sh a b f x ++ tE sh a b (f + (showE sh x).length) y
  | [], f => by simp [tE, showE]
  | e :: x, f => by
    rw [List.cons_append, tE, tE, tE_append sh a b y x, List.append_assoc, showE_cons, List.length_append, Int.add_assoc]
    push_cast
    rfl
theorem tnS {a f : Int} (h : f < a) : (a - f).toNat = (a - (f + 1)).toNat + 1 := by omega
theorem tn0 {a f : Int} (h : a ≤ f) : (a - f).toNat = 0 := Int.toNat_of_nonpos (Int.sub_nonpos_of_le h)
theorem tn1 {a f : Int} (h : a ≤ f) : (a - (f + 1)).toNat = 0 := tn0 (Int.le_trans h (Int.le_of_lt (Int.lt_succ f)))
theorem nS {a f : Int} (h : ¬ f + 1 ≤ a) : a ≤ f := Int.not_lt.mp h
theorem kE_run (sh : Int → List Int) {a b : Int} (ab : a < b) : ∀ (n : Nat) (x f : Int), 0 ≤ x → kE sh a b f (run x n) = (run x n).take (a - f).toNat ++ (run x n).drop (b - f).toNat
  | 0, _, _, _ => by simp [run, kE]
  | n + 1, x, f, h => by
    rw [run, kE, kE_run sh ab n (x + 1) _ (by omega)]
    unfold kE1
    rw [entS_nn sh h]
    show (if f + 1 ≤ a ∨ b ≤ f then [x] else if a ≤ f ∧ f + 1 ≤ b then [] else _) ++ ((run (x + 1) n).take (a - (f + 1)).toNat ++ (run (x + 1) n).drop (b - (f + 1)).toNat) = _
    by_cases c1 : f + 1 ≤ a
    · rw [if_pos (.inl c1), tnS c1, tnS (Int.lt_trans c1 ab)]
      rfl
    · by_cases c2 : b ≤ f
      · rw [if_pos (.inr c2), tn0 (nS c1), tn0 c2, tn1 (nS c1), tn1 c2]
        rfl
      · rw [if_neg (fun z => z.elim c1 c2), if_pos ⟨nS c1, Int.not_le.mp c2⟩, tn0 (nS c1), tnS (Int.not_le.mp c2), tn1 (nS c1)]
        rfl
theorem tE_run (sh : Int → List Int) {a b : Int} (ab : a < b) : ∀ (n : Nat) (x f : Int), 0 ≤ x → tE sh a b f (run x n) = ((run x n).take (b - f).toNat).drop (a - f).toNat
  | 0, _, _, _ => by simp [run, tE]
  | n + 1, x, f, h => by
    rw [run, tE, tE_run sh ab n (x + 1) _ (by omega)]
    unfold tE1
    rw [entS_nn sh h]
    show (if f + 1 ≤ a ∨ b ≤ f then [] else if a ≤ f ∧ f + 1 ≤ b then [x] else _) ++ ((run (x + 1) n).take (b - (f + 1)).toNat).drop (a - (f + 1)).toNat = _
    by_cases c1 : f + 1 ≤ a
    · rw [if_pos (.inl c1), tnS c1, tnS (Int.lt_trans c1 ab)]
      rfl
    · by_cases c2 : b ≤ f
      · rw [if_pos (.inr c2), tn0 c2, tn1 c2]
        simp
      · rw [if_neg (fun z => z.elim c1 c2), if_pos ⟨nS c1, Int.not_le.mp c2⟩, tn0 (nS c1), tnS (Int.not_le.mp c2), tn1 (nS c1)]
        rfl
theorem spell_two {a b t : Int} {r : Row} (ok : ∀ p ∈ r, p.1 ≤ p.2) (h : (spell r).length ≤ t.toNat) : spell (plainF (pcs 0 a 0 r ++ pcs b t 0 r)) = (spell r).take a.toNat ++ (spell r).drop b.toNat := by
  rw [spell_plain _ (app_ok (pcs_ok _ _ _ _) (pcs_ok _ _ _ _)), spell_append, spell_pcs _ _ _ _ ok, spell_pcs _ _ _ _ ok]
  show ((spell r).take (a - 0).toNat).drop 0 ++ ((spell r).take (t - 0).toNat).drop (b - 0).toNat = _
  rw [Int.sub_zero, Int.sub_zero, Int.sub_zero, List.take_of_length_le h]
  rfl
theorem kD_eq (sh : Int → List Int) {a b : Int} (ab : a < b) (f : Int) (it : Item) (h : ItOk1 it) : expl (kD a b (it, rowI sh it, f, f + tot (rowI sh it))) = kE sh a b f (explI it) := by
  have tt := tot_rowI sh it h
  have sp : expl (inkOf (plainF (pcs 0 (a - f) 0 (rowI sh it) ++ pcs (b - f) (f + tot (rowI sh it) - f) 0 (rowI sh it)))) = (showE sh (explI it)).take (a - f).toNat ++ (showE sh (explI it)).drop (b - f).toNat := by
    rw [expl_ink, spell_two (rowI_ok sh it h) (by rw [spell_rowI sh it h, tt]; omega), spell_rowI sh it h]
  unfold kD
  show expl (if f + tot (rowI sh it) ≤ a ∨ b ≤ f then [it] else if a ≤ f ∧ f + tot (rowI sh it) ≤ b then [] else inkOf (plainF (pcs 0 (a - f) 0 (rowI sh it) ++ pcs (b - f) (f + tot (rowI sh it) - f) 0 (rowI sh it)))) = _
  have c1 : (f + tot (rowI sh it) ≤ a ∨ b ≤ f) = (f + (showE sh (explI it)).length ≤ a ∨ b ≤ f) := by rw [tt]
  have c2 : (a ≤ f ∧ f + tot (rowI sh it) ≤ b) = (a ≤ f ∧ f + (showE sh (explI it)).length ≤ b) := by rw [tt]
  simp only [c1, c2]
  cases it with
  | win n =>
    have e1 : showE sh (explI (.win n)) = entS sh (-1 - n) := by show showE sh [-1 - n] = _; rw [showE_cons]; simp [showE]
    rw [e1] at sp ⊢
    show _ = kE sh a b f [-1 - n]
    rw [kE, kE, List.append_nil]
    unfold kE1
    split
    · rfl
    · split
      · rfl
      · exact sp
  | ink x y =>
    have e1 : showE sh (explI (.ink x y)) = run x (y - x).toNat := showE_run sh _ _ h.1
    rw [e1] at sp ⊢
    show _ = kE sh a b f (run x (y - x).toNat)
    rw [kE_run sh ab _ _ _ h.1]
    have rl := run_length x (y - x).toNat
    split
    · rename_i c
      rw [expl_one]
      rcases c with c | c
      · rw [List.take_of_length_le (by omega), List.drop_of_length_le (by omega), List.append_nil]
        rfl
      · rw [tn0 (Int.le_trans (Int.le_of_lt ab) c), tn0 c]
        rfl
    · split
      · rename_i c
        rw [tn0 c.1, List.drop_of_length_le (by omega)]
        rfl
      · exact sp
theorem tD_eq (sh : Int → List Int) {a b : Int} (ab : a < b) (f : Int) (it : Item) (h : ItOk1 it) : expl (tD a b (it, rowI sh it, f, f + tot (rowI sh it))) = tE sh a b f (explI it) := by
  have tt := tot_rowI sh it h
  have sp : expl (inkOf (plainF (pcs (a - f) (b - f) 0 (rowI sh it)))) = ((showE sh (explI it)).take (b - f).toNat).drop (a - f).toNat := by
    rw [expl_ink, spell_part _ _ _ (rowI_ok sh it h), spell_rowI sh it h]
  unfold tD
  show expl (if f + tot (rowI sh it) ≤ a ∨ b ≤ f then [] else if a ≤ f ∧ f + tot (rowI sh it) ≤ b then [it] else inkOf (plainF (pcs (a - f) (b - f) 0 (rowI sh it)))) = _
  rw [tt]
  cases it with
  | win n =>
    have e1 : showE sh (explI (.win n)) = entS sh (-1 - n) := by show showE sh [-1 - n] = _; rw [showE_cons]; simp [showE]
    rw [e1] at sp ⊢
    show _ = tE sh a b f [-1 - n]
    rw [tE, tE, List.append_nil]
    unfold tE1
    split
    · rfl
    · split
      · rfl
      · exact sp
  | ink x y =>
    have e1 : showE sh (explI (.ink x y)) = run x (y - x).toNat := showE_run sh _ _ h.1
    rw [e1] at sp ⊢
    show _ = tE sh a b f (run x (y - x).toNat)
    rw [tE_run sh ab _ _ _ h.1]
    have rl := run_length x (y - x).toNat
    split
    · rename_i c
      rcases c with c | c
      · rw [List.drop_of_length_le (by rw [List.length_take]; omega)]
        rfl
      · rw [tn0 c]
        simp [expl]
    · split
      · rename_i c
        rw [expl_one, tn0 c.1, List.take_of_length_le (by omega)]
        rfl
      · exact sp
theorem left_eq (sh : Int → List Int) {a b : Int} (ab : a < b) : ∀ (its : List Item) (f : Int), ItOk its → expl ((dealF sh f its).flatMap (kD a b)) = kE sh a b f (expl its)
  | [], f, _ => rfl
  | it :: r, f, h => by
    have h1 := h it (by simp)
    rw [dealF, List.flatMap_cons, expl_append, kD_eq sh ab f it h1, left_eq sh ab r _ fun i hi => h i (List.mem_cons_of_mem _ hi)]
    have e : expl (it :: r) = explI it ++ expl r := by unfold expl; rw [List.flatMap_cons]
    rw [e, kE_append, tot_rowI sh it h1]
theorem taken_eq (sh : Int → List Int) {a b : Int} (ab : a < b) : ∀ (its : List Item) (f : Int), ItOk its → expl ((dealF sh f its).flatMap (tD a b)) = tE sh a b f (expl its)
  | [], f, _ => rfl
  | it :: r, f, h => by
    have h1 := h it (by simp)
    rw [dealF, List.flatMap_cons, expl_append, tD_eq sh ab f it h1, taken_eq sh ab r _ fun i hi => h i (List.mem_cons_of_mem _ hi)]
    have e : expl (it :: r) = explI it ++ expl r := by unfold expl; rw [List.flatMap_cons]
    rw [e, tE_append, tot_rowI sh it h1]
theorem kD_ok {a b : Int} {d : Deal} (h : ItOk1 d.1) (g : RowNn d.2.1) : ItOk (kD a b d) := by
  unfold kD
  split
  · exact ItOk.one h
  · split
    · exact fun i hi => by cases hi
    · exact inkOf_ok (plain_pos fun p hp => (List.mem_append.mp hp).elim (pcs_nn _ _ _ _ g p) (pcs_nn _ _ _ _ g p))
theorem tD_ok {a b : Int} {d : Deal} (h : ItOk1 d.1) (g : RowNn d.2.1) : ItOk (tD a b d) := by
  unfold tD
  split
  · exact fun i hi => by cases hi
  · split
    · exact ItOk.one h
    · exact parts_ok g
theorem kD_len (a b : Int) (d : Deal) : (kD a b d).length ≤ d.2.1.length + d.2.1.length + 1 := by
  unfold kD
  split
  · simp
  · split
    · simp
    · rw [ink_len]
      refine Nat.le_trans (plainF_le _) ?_
      rw [List.length_append]
      have := pcs_le 0 (a - d.2.2.1) d.2.1 0
      have := pcs_le (b - d.2.2.1) (d.2.2.2 - d.2.2.1) d.2.1 0
      omega
theorem tD_len (a b : Int) (d : Deal) : (tD a b d).length ≤ d.2.1.length + d.2.1.length + 1 := by
  unfold tD
  split
  · simp
  · split
    · simp
    · exact Nat.le_trans (parts_len _ _ _) (by omega)
theorem flat_len2 (sh : Int → List Int) {g : Deal → List Item} (hg : ∀ d, (g d).length ≤ d.2.1.length + d.2.1.length + 1) : ∀ (its : List Item) (f : Int), ((dealF sh f its).flatMap g).length ≤ (rowsIt sh its).length + (rowsIt sh its).length + its.length
  | [], _ => by simp [dealF]
  | it :: r, f => by
    rw [dealF, List.flatMap_cons, List.length_append]
    have a := hg (it, rowI sh it, f, f + tot (rowI sh it))
    have b := flat_len2 sh hg r (f + tot (rowI sh it))
    have e : rowsIt sh (it :: r) = rowI sh it ++ rowsIt sh r := by unfold rowsIt; rw [List.flatMap_cons]; rfl
    rw [e, List.length_append, List.length_cons]
    simp only at a
    omega
theorem deal_row (sh : Int → List Int) (it : Item) (row : Row) (fi la : Int) : ∀ (its : List Item) (f : Int), (it, row, fi, la) ∈ dealF sh f its → ∃ it' ∈ its, row = rowI sh it'
  | [], _, h => by cases h
  | i0 :: r0, f, h => by
    rw [dealF] at h
    rcases List.mem_cons.mp h with e | e
    · cases e; exact ⟨it, by simp, rfl⟩
    · obtain ⟨i1, m1, e1⟩ := deal_row sh it row fi la r0 _ e
      exact ⟨i1, List.mem_cons_of_mem _ m1, e1⟩
theorem deal_item (sh : Int → List Int) : ∀ (its : List Item) (f : Int) (d : Deal), d ∈ dealF sh f its → d.1 ∈ its
  | [], _, _, h => by cases h
  | i0 :: r0, f, d, h => by
    rw [dealF] at h
    rcases List.mem_cons.mp h with e | e
    · subst e; simp
    · exact List.mem_cons_of_mem _ (deal_item sh r0 _ d e)
theorem left_win (sh : Int → List Int) {a b n : Int} {its : List Item} (h : Item.win n ∈ (dealF sh 0 its).flatMap (kD a b)) : Item.win n ∈ its := by
  obtain ⟨d, hd, hm⟩ := List.mem_flatMap.mp h
  unfold kD at hm
  split at hm
  · rw [List.mem_singleton.mp hm]
    exact deal_item sh its 0 d hd
  · split at hm
    · cases hm
    · unfold inkOf at hm
      obtain ⟨p, _, e⟩ := List.mem_map.mp hm
      cases e
theorem lists_two {H : Hp} {A : Addr} {l : List Item} {vs : List V} (h : H A = some (.lst vs)) (t : All2 (ItemAt H) vs l) : ItemsAt H (.ref A) l := ⟨A, vs, rfl, h, t⟩
def cutRes (sh : Int → List Int) (a b : Int) (es : List Int) : List Int := if a = b then es else kE sh a b 0 es
def takRes (sh : Int → List Int) (a b : Int) (es : List Int) : List Int := if a = b then [] else tE sh a b 0 es
def spParted : Sp := fun vs H Q _ => ∃ (r S : Addr) (a b : Int) (its : List Item) (kvs : List (Key × V)) (sh : Int → List Int), vs = [.ref r, .ref S, .int a, .int b] ∧ ItemsAt H (.ref r) its ∧ H S = some (.dK kvs) ∧ WinsIn H kvs sh its ∧ its.length ≤ 10000 ∧ (rowsIt sh its).length ≤ 20000 ∧
  ∀ (t L M : Addr) (H' : Hp), H' t = some (.tup [.ref L, .ref M]) → ItemsAt H' (.ref L) ((dealF sh 0 its).flatMap (kD a b)) → ItemsAt H' (.ref M) ((dealF sh 0 its).flatMap (tD a b)) → Same H H' → Q (.ref t) H'
abbrev sparted : Stmt := top 19
theorem scparted : FnScope ["items", "views", "start", "stop", "left", "taken", "item", "row", "first", "last"] ["items", "views", "start", "stop"] (defScope sparted) := ⟨rfl, rfl, rfl, by decide +kernel, rfl, by decide +kernel, by decide +kernel⟩
theorem ok_parted {f fI fZ fP fS fD fN : Addr} {fd fdI fdZ fdP fdS fdD fdN : FuncData} (F : Fun K "parted" "parted" sparted f fd) (T : Nms mg) (ditem_row : DefAt K mg "item_row" sitem_row ["item", "views"] fI fdI) (dsize : DefAt K mg "size" ssize ["row"] fZ fdZ) (dplain : DefAt K mg "plain" splain ["row"] fP fdP) (dpieces : DefAt K mg "pieces" spieces ["row", "start", "stop"] fS fdS) (ddealt : DefAt K mg "dealt" sdealt ["items", "views"] fD fdD) (dinked : DefAt K mg "inked" sinked ["row"] fN fdN) : FnOk P w K mg base CX0 3 f fd ["items", "views", "start", "stop"] spParted := by
  have gdealt : FnOk P w K mg base CX0 2 fD fdD ["items", "views"] spDealt := ok_dealt ddealt.F T ditem_row dsize
  have gpieces : FnOk P w K mg base CX0 1 fS fdS ["row", "start", "stop"] spPieces := ok_pieces dpieces.F T
  have ginked : FnOk P w K mg base CX0 2 fN fdN ["row"] spInked := ok_inked dinked.F T dplain
  refine F.ok scparted (fun vs H Q E h => ?_) (fun cdv A outer s H vs Q E hr h => ?_)
  · obtain ⟨r, S, a, b, its, kvs, sh, rfl, _⟩ := h
    rfl
  obtain ⟨r, S, p, q, its, kvs, sh, rfl, hI, hS, hW, l1, l2, k⟩ := h
  refine ⟨_, (pss_cons (ps_set (i := 4) scparted.nd rfl (Or.inl rfl) (pe_lst pa_nil))
      (pss_cons (ps_set (i := 5) scparted.nd rfl (Or.inl rfl) (pe_lst pa_nil))
      (pss_cons (ps_for PassesOwn.never rfl (pi_list (pe_def ddealt gdealt hr (pa_cons (pv 0) (pa_cons (pv 1) pa_nil)))) (pg_tup (n := 4) rfl (pgs_cons (pg_name (i := 6) scparted.nd rfl (Or.inl rfl)) (pgs_cons (pg_name (i := 7) scparted.nd rfl (Or.inl rfl)) (pgs_cons (pg_name (i := 8) scparted.nd rfl (Or.inl rfl)) (pgs_cons (pg_name (i := 9) scparted.nd rfl (Or.inl rfl)) pgs_nil)))))
      (pss_one (ps_if (PW.pt (pw_or (pt_cmpR op_le (pv 9) (pv 2) (nomark _)) (pw_or1 (pt_cmpR op_le (pv 3) (pv 8) (nomark _)))))
      (pss_one (ps_expr (pe_bm PySem.F.plainAttrs_list PySem.F.slot_list_append PySem.F.type_list_append mt_append (pv 4) (pa_cons (pv 6) pa_nil))))
      (pss_one (ps_if (PW.pt (pw_and (pt_cmpR op_le (pv 2) (pv 8) (nomark _)) (pw_and1 (pt_cmpR op_le (pv 9) (pv 3) (nomark _)))))
      (pss_one (ps_expr (pe_bm PySem.F.plainAttrs_list PySem.F.slot_list_append PySem.F.type_list_append mt_append (pv 5) (pa_cons (pv 6) pa_nil))))
      (pss_cons (ps_aug (i := 4) scparted.nd rfl (Or.inl rfl) (pe_def dinked ginked hr (pa_cons (pe_op op_cat (pe_def dpieces gpieces hr (pa_cons (pv 7) (pa_cons pe_int (pa_cons (pe_op op_sub (pv 2) (pv 8)) pa_nil)))) (pe_def dpieces gpieces hr (pa_cons (pv 7) (pa_cons (pe_op op_sub (pv 3) (pv 8)) (pa_cons (pe_op op_sub (pv 9) (pv 8)) pa_nil))))) pa_nil)) ip_cat)
      (pss_one (ps_aug (i := 5) scparted.nd rfl (Or.inl rfl) (pe_def dinked ginked hr (pa_cons (pe_def dpieces gpieces hr (pa_cons (pv 7) (pa_cons (pe_op op_sub (pv 2) (pv 8)) (pa_cons (pe_op op_sub (pv 3) (pv 8)) pa_nil)))) pa_nil)) ip_cat))))))))
      (pss_one (ps_ret (pe_tup (pa_cons (pv 4) (pa_cons (pv 5) pa_nil)))))))), ?_⟩
  refine ⟨(by show 0 ≤ sizeLine; decide), fun A hA => ⟨(by show 0 ≤ sizeLine; decide), fun B hB => ?_⟩⟩
  have sA : Same H (upd H A (.lst [])) := same_new hA _
  have sB : Same _ (upd (upd H A (.lst [])) B (.lst [])) := same_new hB _
  have s0 := sA.trans sB
  have nAB : A ≠ B := ne_of_none upd_same hB
  have hB0 := free_same sA hB
  refine ⟨_, rfl, _, rfl, r, S, its, kvs, sh, fun a => a ≠ A ∧ a ≠ B, rfl, hI.same s0, s0 _ _ hS, hW.same s0, by omega, (fun it hi => by have := rowI_len sh hi; omega), ?_, ?_, fun D dv H1 hD hdl s1 _ => ?_⟩
  · intro n a hn hv
    obtain ⟨b, e, as, hb, _⟩ := hW n hn
    rw [hv] at e
    cases e
    exact ⟨ne_of_none hb hA, ne_of_none hb hB0⟩
  · intro a ha
    exact ⟨(ne_of_none (sB _ _ upd_same) ha).symm, (ne_of_none upd_same ha).symm⟩
  have hA1 := s1 _ _ (sB _ _ (upd_same (H := H) (a := A) (o := .lst [])))
  have hB1 := s1 _ _ (upd_same (H := upd H A (.lst [])) (a := B) (o := .lst []))
  have nD : D ≠ A ∧ D ≠ B := by
    rename_i hD0
    exact ⟨(ne_of_none (sB _ _ upd_same) hD0).symm, (ne_of_none upd_same hD0).symm⟩
  have lenA := flat_len2 sh (kD_len p q) its 0
  have lenB := flat_len2 sh (tD_len p q) its 0
  refine ⟨D, rfl, ⟨_, SqL.of hD⟩, for_list (K := K) (a := D) (xs := dv) (fun i σ H2 => ∃ u1 u2 u3 u4 : Option V, σ = [some (.ref r), some (.ref S), some (.int p), some (.int q), some (.ref A), some (.ref B), u1, u2, u3, u4] ∧ PutPv H1 A B (((dealF sh 0 its).take i).flatMap (kD p q)) (((dealF sh 0 its).take i).flatMap (tD p q)) H2)
    ⟨none, none, none, none, rfl, ⟨_, hA1, .nil⟩, ⟨_, hB1, .nil⟩, fun _ _ e _ _ => e⟩ (fun i σ H2 _ ⟨_, _, _, _, _, pv⟩ => SqL.of (pv.k _ _ hD nD.1 nD.2)) ?_ ?_⟩
  · rintro i x σ H2 hi ⟨u1, u2, u3, u4, rfl, pv⟩
    obtain ⟨d, ed, hd1⟩ := hdl.get hi
    have hd2 := hd1.keep2 hA1 hB1 (fun a h => h) pv.k
    obtain ⟨a, ra, xi, rfl, hta, hxi, hra, nra⟩ := hd2
    have eA := flat_snoc (kD p q) ed
    have eB := flat_snoc (tD p q) ed
    have bA := flat_take (kD p q) (dealF sh 0 its) i
    have bB := flat_take (tD p q) (dealF sh 0 its) i
    have bA1 := flat_take (kD p q) (dealF sh 0 its) (i + 1)
    have bB1 := flat_take (tD p q) (dealF sh 0 its) (i + 1)
    obtain ⟨v1, hv1, t1⟩ := pv.a
    obtain ⟨v2, hv2, t2⟩ := pv.b
    have z1 := t1.len
    have z2 := t2.len
    obtain ⟨it, row, fi, la⟩ := d
    have rl : row.length ≤ 20000 := by
      obtain ⟨i1, m1, rfl⟩ := deal_row sh it row fi la its 0 (List.mem_of_getElem? ed)
      have := rowI_len sh m1
      omega
    have mV : v1.length < sizeLine := million (by omega)
    have keepIt : (la ≤ p ∨ q ≤ fi) → PutPv H1 A B (((dealF sh 0 its).take (i + 1)).flatMap (kD p q)) (((dealF sh 0 its).take (i + 1)).flatMap (tD p q)) (upd H2 A (.lst (v1 ++ [xi]))) := fun c => by
      rw [eA, eB]
      have e1 : kD p q (it, row, fi, la) = [it] := by unfold kD; rw [if_pos c]
      have e2 : tD p q (it, row, fi, la) = [] := by unfold tD; rw [if_pos c]
      rw [e1, e2, List.append_nil]
      exact pv.moreA nAB hv1 (.cons hxi .nil)
    refine ⟨a, _, rfl, SqT.of hta, rfl, _, _, rfl, _, _, rfl, _, _, rfl, _, _, rfl, rfl, ?_⟩
    refine ⟨_, rfl, _, rfl, _, _, rfl, rfl, _, rfl, ite2 (fun c => iteT ?_) (fun c => ?_)⟩
    · exact ⟨_, rfl, .inl ⟨rfl, _, SqL.of hv1⟩, _, rfl, A, _, _, rfl, rfl, hv1, mV, _, _, _, _, rfl, keepIt (.inl (of_decide_eq_true c))⟩
    have c' : ¬ la ≤ p := fun z => c (decide_eq_true z)
    refine ⟨_, rfl, _, rfl, _, _, rfl, rfl, _, rfl, ite2 (fun c2 => ?_) (fun c2 => ?_)⟩
    · exact ⟨_, rfl, .inl ⟨rfl, _, SqL.of hv1⟩, _, rfl, A, _, _, rfl, rfl, hv1, mV, _, _, _, _, rfl, keepIt (.inr (of_decide_eq_true c2))⟩
    have c2' : ¬ q ≤ fi := fun z => c2 (decide_eq_true z)
    have n1 : ¬ (la ≤ p ∨ q ≤ fi) := fun z => z.elim c' c2'
    have part : ¬ (p ≤ fi ∧ la ≤ q) → PutPv H1 A B (((dealF sh 0 its).take i).flatMap (kD p q)) (((dealF sh 0 its).take i).flatMap (tD p q)) H2 → kD p q (it, row, fi, la) = inkOf (plainF (pcs 0 (p - fi) 0 row ++ pcs (q - fi) (la - fi) 0 row)) ∧ tD p q (it, row, fi, la) = inkOf (plainF (pcs (p - fi) (q - fi) 0 row)) := fun c3 _ => by
      refine ⟨?_, ?_⟩
      · unfold kD; rw [if_neg n1, if_neg c3]
      · unfold tD; rw [if_neg n1, if_neg c3]
    have go : ¬ (p ≤ fi ∧ la ≤ q) → ∀ (q1 q2 : Addr) (v3 : List V) (H4 : Hp), H4 q2 = some (.lst v3) → All2 (ItemAt H4) v3 (inkOf (plainF (pcs 0 (p - fi) 0 row ++ pcs (q - fi) (la - fi) 0 row))) → Same H2 H4 → v1.length + v3.length ≤ sizeLine ∧ PutPv H1 A B (((dealF sh 0 its).take (i + 1)).flatMap (kD p q)) (((dealF sh 0 its).take i).flatMap (tD p q)) (upd H4 A (.lst (v1 ++ v3))) ∧ RowAt (upd H4 A (.lst (v1 ++ v3))) ra row ∧ (upd H4 A (.lst (v1 ++ v3))) B = some (.lst v2) := fun c3 q1 q2 v3 H4 h3 t3 s4 => by
      obtain ⟨e1, e2⟩ := part c3 pv
      have z3 := t3.len
      rw [eA, e1, List.length_append] at bA1
      have hv1' := s4 _ _ hv1
      refine ⟨Nat.le_of_lt (million (by omega)), ?_, (hra.same s4).keep hv1' nra.1 (keep_upd A _ _), by rw [upd_ne nAB.symm]; exact s4 _ _ hv2⟩
      rw [eA, e1]
      exact (pv.same s4).moreA nAB hv1' t3
    have go2 : ¬ (p ≤ fi ∧ la ≤ q) → ∀ (v4 : List V) (H5 H7 : Hp), PutPv H1 A B (((dealF sh 0 its).take (i + 1)).flatMap (kD p q)) (((dealF sh 0 its).take i).flatMap (tD p q)) H5 → H5 B = some (.lst v2) → All2 (ItemAt H7) v4 (inkOf (plainF (pcs (p - fi) (q - fi) 0 row))) → Same H5 H7 → v2.length + v4.length ≤ sizeLine ∧ PutPv H1 A B (((dealF sh 0 its).take (i + 1)).flatMap (kD p q)) (((dealF sh 0 its).take (i + 1)).flatMap (tD p q)) (upd H7 B (.lst (v2 ++ v4))) := fun c3 v4 H5 H7 pv5 h5 t4 s7 => by
      obtain ⟨e1, e2⟩ := part c3 pv
      have z4 := t4.len
      rw [eB, e2, List.length_append] at bB1
      refine ⟨Nat.le_of_lt (million (by omega)), ?_⟩
      rw [eB, e2]
      exact (pv5.same s7).moreB nAB (s7 _ _ h5) t4
    have pl1 := pcs_le 0 (p - fi) row 0
    have pl2 := pcs_le (q - fi) (la - fi) row 0
    have pl3 := pcs_le (p - fi) (q - fi) row 0
    refine ⟨_, rfl, _, rfl, _, _, rfl, rfl, _, rfl, if_and (fun z => ⟨_, rfl, _, rfl, _, _, rfl, rfl, _, rfl, z⟩) (fun c5 => ?_) (fun c5 => ?_)⟩
    · refine ⟨_, rfl, .inl ⟨rfl, _, SqL.of hv2⟩, _, rfl, B, _, _, rfl, rfl, hv2, million (by omega), _, _, _, _, rfl, ?_⟩
      rw [eA, eB]
      have e1 : kD p q (it, row, fi, la) = [] := by unfold kD; rw [if_neg n1, if_pos c5]
      have e2 : tD p q (it, row, fi, la) = [it] := by unfold tD; rw [if_neg n1, if_pos c5]
      rw [e1, e2, List.append_nil]
      exact pv.moreB nAB hv2 (.cons hxi .nil)
    · refine ⟨_, rfl, _, rfl, _, rfl, _, rfl, _, _, rfl, rfl, ra, row, 0, p - fi, rfl, hra, by omega, fun q1 H3 R3 s3 hq1 => ?_⟩
      obtain ⟨as3, ha3, pa3⟩ := id R3
      have n3 := pa3.len
      refine ⟨_, rfl, _, rfl, _, rfl, _, _, rfl, rfl, _, rfl, _, rfl, _, _, rfl, rfl, ra, row, q - fi, la - fi, rfl, hra.same s3, by omega, fun q2 H4 R4 s4 hq2 => ?_⟩
      obtain ⟨as4, ha4, pa4⟩ := id R4
      have n4 := pa4.len
      refine ⟨q1, q2, _, _, rfl, rfl, s4 _ _ ha3, ha4, (by rw [List.length_map, List.length_map]; exact Nat.le_of_lt (million (by omega))), fun m hm => ?_⟩
      have s5 : Same H4 (upd H4 m (.lst (as3.map V.ref ++ as4.map V.ref))) := same_new hm _
      refine ⟨m, pcs 0 (p - fi) 0 row ++ pcs (q - fi) (la - fi) 0 row, rfl, ⟨as3 ++ as4, by rw [upd_same, List.map_append], PairsAt.append ((pa3.same s4).same s5) (pa4.same s5)⟩, by rw [List.length_append]; omega, fun q3 H6 I6 s6 hq3 => ?_⟩
      obtain ⟨q3', v3, e3, h3, t3⟩ := I6
      cases e3
      have s26 := s3.trans (s4.trans (s5.trans s6))
      obtain ⟨g1, g2, g3, g4⟩ := go c5 q1 q3 v3 H6 h3 t3 s26
      refine ⟨A, q3, _, _, rfl, rfl, s26 _ _ hv1, h3, g1, ?_⟩
      refine ⟨_, rfl, _, rfl, _, rfl, _, rfl, _, _, rfl, rfl, _, rfl, _, rfl, _, _, rfl, rfl, ra, row, p - fi, q - fi, rfl, g3, by omega, fun q4 H7 R7 s7 hq4 => ⟨q4, _, rfl, R7, by omega, fun q5 H8 I8 s8 hq5 => ?_⟩⟩
      obtain ⟨q5', v4, e4, h4, t4⟩ := I8
      cases e4
      obtain ⟨f1, f2⟩ := go2 c5 v4 _ H8 g2 g4 t4 (s7.trans s8)
      exact ⟨B, q5, _, _, rfl, rfl, (s7.trans s8) _ _ g4, h4, f1, _, _, _, _, rfl, f2⟩
  · rintro σ H2 ⟨u1, u2, u3, u4, rfl, pv⟩
    have dl := hdl.len
    rw [dl, List.take_length] at pv
    obtain ⟨v1, hv1, t1⟩ := pv.a
    obtain ⟨v2, hv2, t2⟩ := pv.b
    have sm : Same H H2 := fun a ob e => pv.k a ob (s1 _ _ (s0 _ _ e)) (ne_of_none e hA) (ne_of_none e hB0)
    refine ⟨_, rfl, _, rfl, (by show 2 ≤ sizeLine; decide), fun t ht => k t A B _ upd_same ?_ ?_ (sm.trans (same_new ht _))⟩
    · exact (lists_two hv1 t1).same (same_new ht _)
    · exact (lists_two hv2 t2).same (same_new ht _)

def moveRes (sh : Int → List Int) (a b to : Int) (es : List Int) : List Int := if a = b then es else aE sh to 0 (kE sh a b 0 es) ++ tE sh a b 0 es ++ bE sh to 0 (kE sh a b 0 es)
def Mv (a b to n : Int) : Prop := In3 a b n ∧ 0 ≤ to ∧ to ≤ n - (b - a)
theorem rows_ink (sh : Int → List Int) (r : Row) : rowsIt sh (inkOf r) = r := by
  unfold rowsIt inkOf
  rw [List.flatMap_map]
  induction r with
  | nil => rfl
  | cons p r ih => rw [List.flatMap_cons, ih]; rfl
theorem left_rows (sh : Int → List Int) (a b : Int) : ∀ (its : List Item) (f : Int), (rowsIt sh ((dealF sh f its).flatMap (kD a b))).length ≤ (rowsIt sh its).length + (rowsIt sh its).length
  | [], _ => by simp [dealF, rowsIt]
  | it :: r, f => by
    have ih := left_rows sh a b r (f + tot (rowI sh it))
    have e : rowsIt sh (it :: r) = rowI sh it ++ rowsIt sh r := by unfold rowsIt; rw [List.flatMap_cons]; rfl
    have one : (rowsIt sh (kD a b (it, rowI sh it, f, f + tot (rowI sh it)))).length ≤ (rowI sh it).length + (rowI sh it).length := by
      unfold kD
      split
      · rw [rowsIt_one]
        show (rowI sh it).length ≤ _
        omega
      · split
        · simp [rowsIt]
        · rw [rows_ink]
          refine Nat.le_trans (plainF_le _) ?_
          rw [List.length_append]
          have := pcs_le 0 (a - f) (rowI sh it) 0
          have := pcs_le (b - f) (f + tot (rowI sh it) - f) (rowI sh it) 0
          simp only
          omega
    rw [dealF, List.flatMap_cons, rowsIt_append, List.length_append, e, List.length_append]
    omega
def spMovedItems (C : Addr) : Sp := fun vs H Q E => ∃ (r : Addr) (rows : List (List Int)) (s a b to : Int) (sh : Int → List Int), vs = [.ref r, .int s, .int a, .int b, .int to] ∧ RowsIn H r rows sh ∧ 0 ≤ s ∧ s < rows.length ∧ (-100000 < a ∧ a < 100000) ∧ (-100000 < b ∧ b < 100000) ∧ (-100000 < to ∧ to < 100000) ∧
  (Mv a b to (sh s).length → ∀ (es : List Int) (q : Addr) (H' : Hp), rows[s.toNat]? = some es → ItemsAt H' (.ref q) (itemsOf (moveRes sh a b to es)) → Same H H' → H q = none → Q (.ref q) H') ∧
  (¬ Mv a b to (sh s).length → ∀ H', Same H H' → E (.ref C) none H')
theorem Fit.mid {i : Int} (h0 : -300000 < i) (h1 : i < 300000) : Fit i := by
  have a : (300000 : Int) < 10 ^ 60 := by decide
  exact ⟨by omega, by omega⟩
theorem Fit.hund {i : Int} (h : -100000 < i ∧ i < 100000) : Fit i := Fit.mid (by omega) (by omega)
abbrev smoved_items : Stmt := top 20
theorem scmoved_items : FnScope ["rows", "sheet", "start", "stop", "to", "views", "rest", "left", "taken"] ["rows", "sheet", "start", "stop", "to"] (defScope smoved_items) := ⟨rfl, rfl, rfl, by decide +kernel, rfl, by decide +kernel, by decide +kernel⟩
theorem ok_moved_items {f fw fb fi fp fv fs fc fg fk fd' fq fn fa fu C : Addr} {fd gw gb gi gp gv gs gc gg gk gd gq gn ga gu : FuncData} (F : Fun K "moved_items" "moved_items" smoved_items f fd) (T : Nms mg) (Z : ExcAt K mg C)
    (dwindows : DefAt K mg "windows" swindows ["items"] fw gw) (dbelow : DefAt K mg "below" sbelow ["rows", "sheets"] fb gb) (ditem_row : DefAt K mg "item_row" sitem_row ["item", "views"] fi gi) (dplain : DefAt K mg "plain" splain ["row"] fp gp) (dviews_below : DefAt K mg "views_below" sviews_below ["rows", "sheets"] fv gv) (dsize : DefAt K mg "size" ssize ["row"] fs gs) (dcheck_places : DefAt K mg "check_places" scheck_places ["row", "start", "stop"] fc gc)
    (dgoes_on : DefAt K mg "goes_on" sgoes_on ["one", "other"] fg gg) (dplain_items : DefAt K mg "plain_items" splain_items ["items"] fk gk) (ddealt : DefAt K mg "dealt" sdealt ["items", "views"] fd' gd) (dpieces : DefAt K mg "pieces" spieces ["row", "start", "stop"] fq gq) (dinked : DefAt K mg "inked" sinked ["row"] fn gn) (dparted : DefAt K mg "parted" sparted ["items", "views", "start", "stop"] fa ga) (dput_among : DefAt K mg "put_among" sput_among ["items", "views", "place", "others"] fu gu) : FnOk P w K mg base (CX1 P w) 4 f fd ["rows", "sheet", "start", "stop", "to"] (spMovedItems C) := by
  have gcheck_places : FnOk P w K mg base (CX1 P w) 2 _ _ ["row", "start", "stop"] (spCheck C) := ok_check_places dcheck_places.F T Z dsize
  have gviews_below : FnOk P w K mg base CX0 3 _ _ ["rows", "sheets"] spViews := ok_views_below dviews_below.F T dwindows dbelow ditem_row dplain
  have gplain_items : FnOk P w K mg base CX0 2 _ _ ["items"] spPlainItems := ok_plain_items dplain_items.F T dgoes_on
  have gparted : FnOk P w K mg base CX0 3 _ _ ["items", "views", "start", "stop"] spParted := ok_parted dparted.F T ditem_row dsize dplain dpieces ddealt dinked
  have gput_among : FnOk P w K mg base CX0 3 _ _ ["items", "views", "place", "others"] spPutAmong := ok_put_among dput_among.F T ditem_row dsize dplain dpieces dgoes_on dplain_items ddealt dinked
  have gsize : FnOk P w K mg base CX0 1 _ _ ["row"] spSize := ok_size dsize.F T
  refine okX F scmoved_items (fun vs H Q E h => ?_) (fun cdv A outer s0 H vs Q E hr h => ?_)
  · obtain ⟨r, rows, s, p, q, to, sh, rfl, _⟩ := h
    rfl
  obtain ⟨r, rows, s, p, q, to, sh, rfl, R, h0, h1, fp, fq, ft, k1, k2⟩ := h
  have hu := hu_of hr
  refine ⟨_, (pss_cons (ps_set (i := 5) scmoved_items.nd rfl (Or.inl rfl) (pe_def dviews_below gviews_below hr (pa_cons (pv 0) (pa_cons (pe_lst (pa_cons (pv 1) pa_nil)) pa_nil))))
      (pss_cons (ps_expr (pe_defX dcheck_places gcheck_places hr passX (pa_cons (pe_dget hu (pv 5) (pv 1) (fun _ _ => rfl)) (pa_cons (pv 2) (pa_cons (pv 3) pa_nil)))))
      (pss_cons (ps_set (i := 6) scmoved_items.nd rfl (Or.inl rfl) (pe_op op_sub (pe_def dsize gsize hr (pa_cons (pe_dget hu (pv 5) (pv 1) (fun _ _ => rfl)) pa_nil)) (pe_op op_sub (pv 3) (pv 2))))
      (pss_cons (ps_if (pt_not (pt_chain op_le op_le pe_int (pv 4) (pv 6)))
      (pss_one (ps_raise PySem.F.excBase_ValueError Z.x Z.m rfl raiseX (pa_cons (pe_fstr (pj_str (pj_int (pv 4) (pj_str (pj_int (pv 6) (pj_str pj_nil)))))) pa_nil)))
      pss_nil)
      (pss_cons (ps_if (pt_cmpR op_eq (pv 2) (pv 3) (nomark _))
      (pss_one (ps_ret (pe_def dplain_items gplain_items hr (pa_cons (pe_ix ix_list (pv 0) (pv 1) (fun _ _ => rfl)) pa_nil))))
      pss_nil)
      (pss_cons (ps_asg (pe_def dparted gparted hr (pa_cons (pe_ix ix_list (pv 0) (pv 1) (fun _ _ => rfl)) (pa_cons (pv 5) (pa_cons (pv 2) (pa_cons (pv 3) pa_nil))))) (pg_tup (n := 2) rfl (pgs_cons (pg_name (i := 7) scmoved_items.nd rfl (Or.inl rfl)) (pgs_cons (pg_name (i := 8) scmoved_items.nd rfl (Or.inl rfl)) pgs_nil))))
      (pss_one (ps_ret (pe_def dput_among gput_among hr (pa_cons (pv 7) (pa_cons (pv 5) (pa_cons (pv 4) (pa_cons (pv 8) pa_nil))))))))))))), ?_⟩
  refine ⟨_, rfl, _, rfl, (by show 1 ≤ sizeLine; decide), fun L hL => ?_⟩
  have s1 : Same H (upd H L (.lst [.int s])) := same_new hL _
  refine ⟨r, L, rows, [s], sh, rfl, R.at_.same s1, upd_same, by simp, R.len, R.ents, R.snd, R.rk, (fun x hx => by rw [List.mem_singleton.mp hx]; exact ⟨h0, h1⟩), R.shw, R.bd, fun S kvs ks H2 hS hv tp sk hn s2 hS0 => ?_⟩
  have sk1 := sk s (by simp)
  obtain ⟨a, ha, Ra⟩ := hv s sk1
  have z := DGet.k (k := Sum.inl s) hS
  rw [ha] at z
  have s12 := s1.trans s2
  have shl := R.bd s h0 h1
  have rol := rowOf_len (sh s)
  obtain ⟨es, rvs, b, O⟩ := (R.same s12).one h0 h1
  refine ⟨_, rfl, _, rfl, S, _, rfl, z, _, rfl, _, rfl, a, rowOf (sh s), p, q, rfl, Ra, by omega, Fit.hund fp, Fit.hund fq, (by rw [O.tt]; exact Fit.small (by omega) (by omega)), fun hin H3 s3 => ?_, fun hin H3 s3 => ?_⟩
  · have hp : In3 p q (sh s).length := ⟨hin.1, hin.2.1, by rw [← O.tt]; exact hin.2.2⟩
    obtain ⟨es', rvs', b', O3⟩ := (R.same (s12.trans s3)).one h0 h1
    have ee : es = es' := Option.some.inj (O.he.symm.trans O3.he)
    subst ee
    obtain ⟨e1, e2⟩ := expl_items es
    have z3 := DGet.k (k := Sum.inl s) (s3 _ _ hS)
    rw [ha] at z3
    refine ⟨_, rfl, _, rfl, S, _, rfl, z3, a, rowOf (sh s), rfl, Ra.same s3, by omega, fun H4 s4 => ?_⟩
    rw [O.tt]
    refine ⟨_, rfl, _, rfl, _, _, rfl, rfl, _, _, rfl, rfl, ?_⟩
    have fto := (Fit.hund ft).log
    have fr : Fit (((sh s).length : Int) - (q - p)) := Fit.mid (by have := hp.1; have := hp.2.1; have := hp.2.2; omega) (by have := hp.1; have := hp.2.1; omega)
    have no : ¬ Mv p q to (sh s).length → E (.ref C) none H4 := fun c => k2 c H4 (s12.trans (s3.trans s4))
    refine ⟨_, rfl, _, _, rfl, rfl, _, rfl, ite2 (fun c1 => ?_) (fun c1 => ?_)⟩
    rotate_left
    · refine ⟨_, rfl, iteT ?_⟩
      exact ⟨_, rfl, to, rfl, fto, _, rfl, _, rfl, fr.log, fun x => ⟨(by show 1 ≤ sizeLine; decide), no fun m => c1 (decide_eq_true m.2.1)⟩⟩
    refine ⟨_, rfl, _, _, rfl, rfl, _, rfl, ?_⟩
    by_cases c2 : to ≤ ((sh s).length : Int) - (q - p)
    rotate_left
    · have d2 : decide (to ≤ ((sh s).length : Int) - (q - p)) = false := decide_eq_false c2
      rw [d2]
      refine iteT ?_
      exact ⟨_, rfl, to, rfl, fto, _, rfl, _, rfl, fr.log, fun x => ⟨(by show 1 ≤ sizeLine; decide), no fun m => c2 m.2.2⟩⟩
    have d2 : decide (to ≤ ((sh s).length : Int) - (q - p)) = true := decide_eq_true c2
    rw [d2]
    refine iteF ?_
    have mv : Mv p q to (sh s).length := ⟨hp, of_decide_eq_true c1, c2⟩
    have O4 : ItemsAt H4 (.ref b') (itemsOf es) := O3.it.same s4
    have hr4 := s4 _ _ O3.hr
    refine ⟨_, rfl, _, rfl, rfl, _, rfl, ite2 (fun c => ?_) (fun c => ?_)⟩
    · have c' : p = q := V.int.inj (of_decide_eq_true c)
      refine ⟨_, rfl, _, rfl, r, _, _, _, rfl, rfl, SqL.of hr4, O3.ix, b', itemsOf es, rfl, O4, Nat.le_trans O3.il (by decide), fun o H5 I5 s5 ho => ?_⟩
      refine k1 mv es o H5 O.he ?_ (s12.trans (s3.trans (s4.trans s5))) (free_same (s12.trans (s3.trans s4)) ho)
      rw [plainI_expl _ e2, e1] at I5
      unfold moveRes
      rw [if_pos c']
      exact I5
    · have c' : ¬ p = q := fun z => c (by rw [z]; exact decide_eq_true rfl)
      have pq : p < q := by have := hp.2.1; omega
      have wins : ∀ n, Item.win n ∈ itemsOf es → ∃ a2, valV kvs (Sum.inl n) = some (.ref a2) ∧ RowAt H4 a2 (rowOf (sh n)) := fun n hn => by
        have nx := win_nxt h0 O.he hn
        obtain ⟨i, hi⟩ := List.getElem?_of_mem sk1
        obtain ⟨a2, e2, R2⟩ := hv n (List.mem_of_mem_take (tp.dn i s hi n nx))
        exact ⟨a2, e2, (R2.same s3).same s4⟩
      refine ⟨_, rfl, _, rfl, r, _, _, _, rfl, rfl, SqL.of hr4, O3.ix, _, rfl, _, rfl, _, rfl, b', S, p, q, itemsOf es, kvs, sh, rfl, O4, s4 _ _ (s3 _ _ hS), wins, Nat.le_trans O3.il (by decide), Nat.le_trans O3.rl (by decide), fun t L M H5 ht hL5 hM5 s5 => ?_⟩
      have nn : ShNn sh (itemsOf es) := fun n hn => by
        have nx := win_nxt h0 O.he hn
        obtain ⟨n0, n1⟩ := R.snd.nxt nx
        exact shows_nn R.snd R.rk R.shw n n0 n1
      have dok := deal_ok sh (itemsOf es) 0 e2 nn
      have lk : ItOk ((dealF sh 0 (itemsOf es)).flatMap (kD p q)) := flat_ok fun d hd => kD_ok (dok d hd).1 (dok d hd).2
      have tk : ItOk ((dealF sh 0 (itemsOf es)).flatMap (tD p q)) := flat_ok fun d hd => tD_ok (dok d hd).1 (dok d hd).2
      have ll := flat_len2 sh (kD_len p q) (itemsOf es) 0
      have tl := flat_len2 sh (tD_len p q) (itemsOf es) 0
      have lr := left_rows sh p q (itemsOf es) 0
      have oil := O3.il
      have orl := O3.rl
      refine ⟨t, _, rfl, SqT.of ht, rfl, _, _, rfl, _, _, rfl, rfl, ?_⟩
      refine ⟨_, rfl, _, rfl, _, rfl, _, rfl, L, S, M, to, _, _, kvs, sh, rfl, hL5, s5 _ _ (s4 _ _ (s3 _ _ hS)), (fun n hn => ?_), hM5, lk, tk, (fun n hn => nn n (left_win sh hn)), by omega, by omega, by omega, fun o H6 I6 s6 ho => ?_⟩
      · obtain ⟨a2, e3, R2⟩ := wins n (left_win sh hn)
        exact ⟨a2, e3, R2.same s5⟩
      refine k1 mv es o H6 O.he ?_ (s12.trans (s3.trans (s4.trans (s5.trans s6)))) (free_same (s12.trans (s3.trans (s4.trans s5))) ho)
      rw [left_eq sh pq _ _ e2, taken_eq sh pq _ _ e2, e1] at I6
      unfold moveRes
      rw [if_neg c']
      exact I6
  · exact k2 (fun hp => hin ⟨hp.1.1, hp.1.2.1, by rw [O.tt]; exact hp.1.2.2⟩) H3 (s12.trans s3)

theorem showE_take (sh : Int → List Int) (es : List Int) (i : Nat) : (showE sh (es.take i)).length ≤ (showE sh es).length := flat_take (entS sh) es i
theorem cut_front (xs : List V) {p : Int} (h : 0 ≤ p) : cutV xs none (some p) = xs.take p.toNat := by
  unfold cutV
  have e1 : HT.sIx xs.length 0 none = 0 := rfl
  have e2 : HT.sIx xs.length xs.length (some p) = min p.toNat xs.length := by
    show (if p < 0 then (p + (xs.length : Int)).toNat else min p.toNat xs.length) = _
    rw [if_neg (by omega)]
  rw [e1, e2, List.drop_zero, Nat.sub_zero]
  rcases Nat.le_total p.toNat xs.length with z | z
  · rw [Nat.min_eq_left z]
  · rw [Nat.min_eq_right z, List.take_of_length_le (Nat.le_refl _), List.take_of_length_le z]
theorem cut_back (xs : List V) {p : Int} (h : 0 ≤ p) : cutV xs (some p) none = xs.drop p.toNat := by
  unfold cutV
  have e1 : HT.sIx xs.length xs.length none = xs.length := rfl
  have e2 : HT.sIx xs.length 0 (some p) = min p.toNat xs.length := by
    show (if p < 0 then (p + (xs.length : Int)).toNat else min p.toNat xs.length) = _
    rw [if_neg (by omega)]
  rw [e1, e2]
  rcases Nat.le_total p.toNat xs.length with z | z
  · rw [Nat.min_eq_left z, List.take_of_length_le (by rw [List.length_drop]; omega)]
  · rw [Nat.min_eq_right z, List.drop_of_length_le (Nat.le_refl _), List.drop_of_length_le z]
    simp
theorem RowsAt.off {l r : Addr} {H H' : Hp} {rows : List (List Int)} (n : r ≠ l) (k : Keep l H H') : RowsAt (fun a => a = l) H r rows → RowsAt (fun a => a = l) H' r rows := fun ⟨vs, h, t⟩ => ⟨vs, k _ _ h n, t.mono fun _ _ => EntsAt.keep fun a o na e => k a o e na⟩
theorem lims_bd {rows : List (List Int)} {sh : Int → List Int} (hlm : Lims rows) (hsd : Sound rows) (hsh : Shows rows sh) : ∀ x : Int, 0 ≤ x → x < rows.length → (sh x).length ≤ 10000 := by
  obtain ⟨p, q, R, hlim, hR40, hq9, hgeo⟩ := hlm
  have ggeo : geo p q R ≤ geo p (q + 1) R := by
    have : ∀ k, geo p q k ≤ geo p (q + 1) k := fun k => by
      induction k with
      | zero => exact Nat.le_succ q
      | succ k ih =>
        unfold geo
        have := Nat.mul_le_mul_left p ih
        omega
    exact this R
  intro x x0 x1
  have := shows_len hlim hsd hsh x x0 x1
  omega
/-- what the rows, as entries, are -/
structure EntIn (H : Hp) (r : Addr) (rows : List (List Int)) (sh : Int → List Int) (rk : Int → Nat) : Prop where
  at_ : ∃ av, RowsAt av H r rows
  len : rows.length ≤ 1000
  ents : ∀ es ∈ rows, es.length ≤ 1000
  snd : Sound rows
  shw : Shows rows sh
  bd : ∀ x : Int, 0 ≤ x → x < rows.length → (sh x).length ≤ 10000
  rb : ∀ x, rk x ≤ 40
  dn : ∀ x y, Nxt rows x y → rk y < rk x
def spLPieces (d : Nat) : Sp := fun vs H Q _ => ∃ (av : Addr → Prop) (r : Addr) (rows : List (List Int)) (e : Int) (sh : Int → List Int) (rk : Int → Nat), vs = [.ref r, .int e] ∧ RowsAt av H r rows ∧ rows.length ≤ 1000 ∧ Sound rows ∧ Shows rows sh ∧ (∀ x : Int, 0 ≤ x → x < rows.length → (sh x).length ≤ 10000) ∧ (∀ x y, Nxt rows x y → rk y < rk x) ∧ (e < 0 → -1 - e < rows.length ∧ rk (-1 - e) < d) ∧
  ∀ (o : Addr) (H' : Hp), H' o = some (.lst ((entS sh e).map V.int)) → Same H H' → H o = none → Q (.ref o) H'
abbrev s_law_pieces : Stmt := top 33
theorem sc_law_pieces : FnScope ["_law_rows", "_law_entry"] ["_law_rows", "_law_entry"] (defScope s_law_pieces) := ⟨rfl, rfl, rfl, by decide +kernel, rfl, by decide +kernel, by decide +kernel⟩
theorem ok_law_pieces {f g : Addr} {fd gd : FuncData} {d : Nat} (F : Fun K "_law_pieces" "_law_pieces" s_law_pieces f fd) (T : Nms mg) (d_law_show : DefAt K mg "_law_show" s_law_show ["_law_rows", "_law_sheet"] g gd) : FnOk P w K mg base CX0 (d + 2) f fd ["_law_rows", "_law_entry"] (spLPieces d) := by
  have g_law_show : FnOk P w K mg base CX0 (d + 1) _ _ ["_law_rows", "_law_sheet"] (spShow d) := ok_law_show T d_law_show d
  refine F.ok sc_law_pieces (fun vs H Q E h => ?_) (fun cdv A outer s H vs Q E hr h => ?_)
  · obtain ⟨av, r, rows, e, sh, rk, rfl, _⟩ := h
    rfl
  obtain ⟨av, r, rows, e, sh, rk, rfl, R, hlen, hsd, hsh, hbd, hrk, hd, k⟩ := h
  refine ⟨_, (pss_cons (ps_if (pt_cmpR op_lt (pv 1) pe_int (nomark _))
      (pss_one (ps_ret (pe_def d_law_show g_law_show hr (pa_cons (pv 0) (pa_cons (pe_op op_sub (pe_un un_neg pe_int) (pv 1)) pa_nil)))))
      pss_nil)
      (pss_one (ps_ret (pe_lst (pa_cons (pv 1) pa_nil))))), ?_⟩
  refine ⟨_, rfl, _, _, rfl, rfl, _, rfl, ite2 (fun c => ?_) (fun c => ?_)⟩
  · have c' : e < 0 := of_decide_eq_true c
    obtain ⟨d1, d2⟩ := hd c'
    refine ⟨_, rfl, _, rfl, _, rfl, _, _, rfl, rfl, av, r, rows, -1 - e, sh, rk, rfl, R, hlen, hsd, by omega, d1, hsh, hbd, hrk, d2, fun o H' h s ho => k o H' ?_ s ho⟩
    unfold entS
    rw [if_pos c']
    exact h
  · have c' : ¬ e < 0 := fun z => c (decide_eq_true z)
    refine ⟨_, rfl, (by show 1 ≤ sizeLine; decide), fun o ho => k o _ ?_ (same_new ho _) ho⟩
    unfold entS
    rw [if_neg c', upd_same]
    rfl

theorem aE_len (sh : Int → List Int) (p : Int) : ∀ (es : List Int) (f : Int), (aE sh p f es).length ≤ es.length + (showE sh es).length
  | [], _ => by simp [aE]
  | e :: r, f => by
    rw [aE, showE_cons, List.length_append, List.length_append, List.length_cons]
    have a := aE_len sh p r (f + (entS sh e).length)
    have b : (if f + (entS sh e).length ≤ p then [e] else if p ≤ f then [] else (entS sh e).take (p - f).toNat).length ≤ 1 + (entS sh e).length := by
      split
      · simp
      · split
        · simp
        · rw [List.length_take]; omega
    omega
theorem bE_len (sh : Int → List Int) (p : Int) : ∀ (es : List Int) (f : Int), (bE sh p f es).length ≤ es.length + (showE sh es).length
  | [], _ => by simp [bE]
  | e :: r, f => by
    rw [bE, showE_cons, List.length_append, List.length_append, List.length_cons]
    have a := bE_len sh p r (f + (entS sh e).length)
    have b : (if f + (entS sh e).length ≤ p then [] else if p ≤ f then [e] else (entS sh e).drop (p - f).toNat).length ≤ 1 + (entS sh e).length := by
      split
      · simp
      · split
        · simp
        · rw [List.length_drop]; omega
    omega
def spLPut (d : Nat) : Sp := fun vs H Q _ => ∃ (av : Addr → Prop) (r n : Addr) (rows : List (List Int)) (s p : Int) (new : List Int) (sh : Int → List Int) (rk : Int → Nat), vs = [.ref r, .int s, .int p, .ref n] ∧ RowsAt av H r rows ∧ rows.length ≤ 1000 ∧ (∀ es ∈ rows, es.length ≤ 25000) ∧ Sound rows ∧ Shows rows sh ∧ (∀ x : Int, 0 ≤ x → x < rows.length → (sh x).length ≤ 10000) ∧ (∀ x y, Nxt rows x y → rk y < rk x) ∧ 0 ≤ s ∧ s < rows.length ∧ rk s ≤ d ∧ H n = some (.lst (new.map V.int)) ∧ new.length ≤ 25000 ∧
  ∀ (es : List Int) (o : Addr) (H' : Hp), rows[s.toNat]? = some es → H' o = some (.lst ((putRes sh p es new).map V.int)) → (putRes sh p es new).length ≤ 100000 → Same H H' → H o = none → Q (.ref o) H'
abbrev s_law_put : Stmt := top 34
theorem sc_law_put : FnScope ["_law_rows", "_law_sheet", "_law_place", "_law_new", "_law_ahead", "_law_behind", "_law_first", "_law_entry", "_law_pieces_here", "_law_last"] ["_law_rows", "_law_sheet", "_law_place", "_law_new"] (defScope s_law_put) := ⟨rfl, rfl, rfl, by decide +kernel, rfl, by decide +kernel, by decide +kernel⟩
theorem ok_law_put {f g h' : Addr} {fd gd hd' : FuncData} {d : Nat} (F : Fun K "_law_put" "_law_put" s_law_put f fd) (T : Nms mg) (d_law_show : DefAt K mg "_law_show" s_law_show ["_law_rows", "_law_sheet"] g gd) (d_law_pieces : DefAt K mg "_law_pieces" s_law_pieces ["_law_rows", "_law_entry"] h' hd') : FnOk P w K mg base CX0 (d + 3) f fd ["_law_rows", "_law_sheet", "_law_place", "_law_new"] (spLPut d) := by
  have g_law_pieces : FnOk P w K mg base CX0 (d + 2) _ _ ["_law_rows", "_law_entry"] (spLPieces d) := ok_law_pieces d_law_pieces.F T d_law_show
  refine F.ok sc_law_put (fun vs H Q E h => ?_) (fun cdv A outer s0 H vs Q E hr h => ?_)
  · obtain ⟨av, r, n, rows, s, p, new, sh, rk, rfl, _⟩ := h
    rfl
  obtain ⟨av, r, n, rows, s, p, new, sh, rk, rfl, R, hlen, hes, hsd, hsh, hbd, hrk, h0, h1, hd, hn, nl, k⟩ := h
  obtain ⟨es, hes1⟩ : ∃ es, rows[s.toNat]? = some es := ⟨_, List.getElem?_eq_getElem (by omega)⟩
  have esl := hes es (List.mem_of_getElem? hes1)
  have shs := hsh s es h0 hes1
  have shl := hbd s h0 h1
  rw [shs] at shl
  obtain ⟨rvs, b, hr0, hvi, hb0, hrl⟩ := R.get hes1
  have arow : atI rvs s = some (.ref b) := by
    have z := atI_nat hvi
    rw [show ((s.toNat : Nat) : Int) = s by omega] at z
    exact z
  refine ⟨_, (pss_cons (ps_if (pt_cmpR op_eq (pe_callB call_len_seq rfl T.n_len PySem.boot_len (pa_cons (pv 3) pa_nil)) pe_int (nomark _))
      (pss_one (ps_ret (pe_callTy call_list_of rfl T.n_list PyProof.Rows.boot_list (pa_cons (pe_ix ix_list (pv 0) (pv 1) (fun _ _ => rfl)) pa_nil))))
      pss_nil)
      (pss_cons (ps_set (i := 4) sc_law_put.nd rfl (Or.inl rfl) (pe_lst pa_nil))
      (pss_cons (ps_set (i := 5) sc_law_put.nd rfl (Or.inl rfl) (pe_lst pa_nil))
      (pss_cons (ps_set (i := 6) sc_law_put.nd rfl (Or.inl rfl) pe_int)
      (pss_cons (ps_for PassesOwn.never rfl (pi_list (pe_ix ix_list (pv 0) (pv 1) (fun _ _ => rfl))) (pg_name (i := 7) sc_law_put.nd rfl (Or.inl rfl))
      (pss_cons (ps_set (i := 8) sc_law_put.nd rfl (Or.inl rfl) (pe_def d_law_pieces g_law_pieces hr (pa_cons (pv 0) (pa_cons (pv 7) pa_nil))))
      (pss_cons (ps_set (i := 9) sc_law_put.nd rfl (Or.inl rfl) (pe_op op_add (pv 6) (pe_callB call_len_seq rfl T.n_len PySem.boot_len (pa_cons (pv 8) pa_nil))))
      (pss_cons (ps_if (pt_cmpR op_le (pv 9) (pv 2) (nomark _))
      (pss_one (ps_expr (pe_bm PySem.F.plainAttrs_list PySem.F.slot_list_append PySem.F.type_list_append mt_append (pv 4) (pa_cons (pv 7) pa_nil))))
      (pss_one (ps_if (pt_cmpR op_le (pv 2) (pv 6) (nomark _))
      (pss_one (ps_expr (pe_bm PySem.F.plainAttrs_list PySem.F.slot_list_append PySem.F.type_list_append mt_append (pv 5) (pa_cons (pv 7) pa_nil))))
      (pss_cons (ps_expr (pe_bm PySem.F.plainAttrs_list PySem.F.slot_list_extend PySem.F.type_list_extend mt_extend (pv 4) (pa_cons (pe_slice sl_list (pv 8) po_none (po_some (pe_op op_sub (pv 2) (pv 6)))) pa_nil)))
      (pss_one (ps_expr (pe_bm PySem.F.plainAttrs_list PySem.F.slot_list_extend PySem.F.type_list_extend mt_extend (pv 5) (pa_cons (pe_slice sl_list (pv 8) (po_some (pe_op op_sub (pv 2) (pv 6))) po_none) pa_nil))))))))
      (pss_one (ps_set (i := 6) sc_law_put.nd rfl (Or.inl rfl) (pv 9)))))))
      (pss_one (ps_ret (pe_op op_cat (pe_op op_cat (pv 4) (pv 3)) (pv 5))))))))), ?_⟩
  refine ⟨_, rfl, n, _, rfl, .inl (SqL.of hn), rfl, _, rfl, ite2 (fun c => ?_) (fun c => ?_)⟩
  · have c' : new = [] := by
      have z : V.int ((new.map V.int).length : Int) = V.int 0 := of_decide_eq_true c
      have z2 := V.int.inj z
      rw [List.length_map] at z2
      exact List.eq_nil_of_length_eq_zero (by omega)
    refine ⟨_, rfl, _, rfl, r, _, _, _, rfl, rfl, SqL.of hr0, arow, b, _, rfl, .inl (SqL.of hb0), fun o ho => k es o _ hes1 ?_ ?_ (same_new ho _) ho⟩
    · rw [upd_same]
      unfold putRes
      rw [if_pos c']
    · unfold putRes
      rw [if_pos c']
      omega
  have c' : ¬ new = [] := fun z => c (by rw [z]; rfl)
  refine ⟨(by show 0 ≤ sizeLine; decide), fun A hA => ⟨(by show 0 ≤ sizeLine; decide), fun B hB => ?_⟩⟩
  have sA : Same H (upd H A (.lst [])) := same_new hA _
  have sB : Same _ (upd (upd H A (.lst [])) B (.lst [])) := same_new hB _
  have s1 := sA.trans sB
  have nAB : A ≠ B := ne_of_none upd_same hB
  have hB0 := free_same sA hB
  refine ⟨_, rfl, _, rfl, r, _, _, _, rfl, rfl, SqL.of (s1 _ _ hr0), arow, b, rfl, ⟨_, SqL.of (s1 _ _ hb0)⟩, for_list (K := K) (a := b) (xs := es.map V.int) (fun i σ H2 => ∃ u1 u2 u3 : Option V, σ = [some (.ref r), some (.int s), some (.int p), some (.ref n), some (.ref A), some (.ref B), some (.int (0 + ((showE sh (es.take i)).length : Int))), u1, u2, u3] ∧ H2 A = some (.lst ((aE sh p 0 (es.take i)).map V.int)) ∧ H2 B = some (.lst ((bE sh p 0 (es.take i)).map V.int)) ∧ Same H H2)
    ⟨none, none, none, rfl, sB _ _ upd_same, upd_same, s1⟩ (fun i σ H2 _ ⟨_, _, _, _, _, _, s2⟩ => SqL.of (s2 _ _ hb0)) ?_ ?_⟩
  · rintro i x σ H2 hi ⟨u1, u2, u3, rfl, hA2, hB2, s2⟩
    rw [List.getElem?_map] at hi
    obtain ⟨e, ex, rfl⟩ := Option.map_eq_some_iff.mp hi
    have st := take_snoc ex
    have eA : aE sh p 0 (es.take (i + 1)) = aE sh p 0 (es.take i) ++ (if 0 + ((showE sh (es.take i)).length : Int) + (entS sh e).length ≤ p then [e] else if p ≤ 0 + ((showE sh (es.take i)).length : Int) then [] else (entS sh e).take (p - (0 + ((showE sh (es.take i)).length : Int))).toNat) := by
      rw [st, aE_append, aE, aE, List.append_nil]
    have eB : bE sh p 0 (es.take (i + 1)) = bE sh p 0 (es.take i) ++ (if 0 + ((showE sh (es.take i)).length : Int) + (entS sh e).length ≤ p then [] else if p ≤ 0 + ((showE sh (es.take i)).length : Int) then [e] else (entS sh e).drop (p - (0 + ((showE sh (es.take i)).length : Int))).toNat) := by
      rw [st, bE_append, bE, bE, List.append_nil]
    have eF : (0 + ((showE sh (es.take (i + 1))).length : Int)) = 0 + ((showE sh (es.take i)).length : Int) + (entS sh e).length := by
      rw [st, showE_append, showE_cons, List.length_append, List.length_append]
      simp [showE]
    have lA := aE_len sh p (es.take (i + 1)) 0
    have lB := bE_len sh p (es.take (i + 1)) 0
    have lA0 := aE_len sh p (es.take i) 0
    have lB0 := bE_len sh p (es.take i) 0
    have l1 := showE_take sh es (i + 1)
    have l0 := showE_take sh es i
    have t1 : (es.take (i + 1)).length ≤ es.length := by rw [List.length_take]; omega
    have t0 : (es.take i).length ≤ es.length := by rw [List.length_take]; omega
    refine ⟨_, rfl, _, rfl, av, r, rows, e, sh, rk, rfl, R.same s2, hlen, hsd, hsh, hbd, hrk, fun hneg => ?_, fun o H3 h3 s3 ho => ?_⟩
    · have nx : Nxt rows s (-1 - e) := ⟨h0, es, hes1, mem_winsE.mpr ⟨by omega, by rw [show -1 - (-1 - e) = e by omega]; exact List.mem_of_getElem? ex⟩⟩
      have := hrk _ _ nx
      exact ⟨(hsd.nxt nx).2, by omega⟩
    have hA3 := s3 _ _ hA2
    have hB3 := s3 _ _ hB2
    refine ⟨_, rfl, _, rfl, o, _, rfl, .inl (SqL.of h3), _, _, rfl, rfl, ?_⟩
    rw [List.length_map]
    refine ⟨_, rfl, _, rfl, _, _, rfl, rfl, _, rfl, ite2 (fun c1 => ?_) (fun c1 => ?_)⟩
    · have c1' : 0 + ((showE sh (es.take i)).length : Int) + ((entS sh e).length : Int) ≤ p := of_decide_eq_true c1
      rw [if_pos c1'] at eA eB
      refine ⟨_, rfl, .inl ⟨rfl, _, SqL.of hA3⟩, _, rfl, A, _, _, rfl, rfl, hA3, million (by rw [List.length_map]; omega), ?_⟩
      refine ⟨_, rfl, some (.int e), some (.ref o), some (.int (0 + ((showE sh (es.take i)).length : Int) + ((entS sh e).length : Int))), ?_, ?_, ?_, keep_of hA (s2.trans s3) (keep_upd A _ _)⟩
      · rw [eF]; rfl
      · rw [upd_same, eA, List.map_append]; rfl
      · rw [upd_ne nAB.symm, eB, List.append_nil]; exact hB3
    · have c1' : ¬ 0 + ((showE sh (es.take i)).length : Int) + ((entS sh e).length : Int) ≤ p := fun z => c1 (decide_eq_true z)
      rw [if_neg c1'] at eA eB
      refine ⟨_, rfl, _, rfl, _, _, rfl, rfl, _, rfl, ite2 (fun c2 => ?_) (fun c2 => ?_)⟩
      · have c2' : p ≤ 0 + ((showE sh (es.take i)).length : Int) := of_decide_eq_true c2
        rw [if_pos c2'] at eA eB
        refine ⟨_, rfl, .inl ⟨rfl, _, SqL.of hB3⟩, _, rfl, B, _, _, rfl, rfl, hB3, million (by rw [List.length_map]; omega), ?_⟩
        refine ⟨_, rfl, some (.int e), some (.ref o), some (.int (0 + ((showE sh (es.take i)).length : Int) + ((entS sh e).length : Int))), ?_, ?_, ?_, keep_of hB0 (s2.trans s3) (keep_upd B _ _)⟩
        · rw [eF]; rfl
        · rw [upd_ne nAB, eA, List.append_nil]; exact hA3
        · rw [upd_same, eB, List.map_append]; rfl
      · have c2' : ¬ p ≤ 0 + ((showE sh (es.take i)).length : Int) := fun z => c2 (decide_eq_true z)
        rw [if_neg c2'] at eA eB
        rw [eA, List.length_append] at lA
        rw [eB, List.length_append] at lB
        refine ⟨_, rfl, .inl ⟨rfl, _, SqL.of hA3⟩, _, rfl, _, rfl, _, rfl, _, _, rfl, rfl, _, rfl, o, _, rfl, SqL.of h3, fun q1 hq1 => ?_⟩
        have n1 : Same H3 (upd H3 q1 (.lst (cutV ((entS sh e).map V.int) none (some (p - (0 + ((showE sh (es.take i)).length : Int))))))) := same_new hq1 _
        have e1 : cutV ((entS sh e).map V.int) none (some (p - (0 + ((showE sh (es.take i)).length : Int)))) = ((entS sh e).take (p - (0 + ((showE sh (es.take i)).length : Int))).toNat).map V.int := by rw [cut_front _ (by omega), List.map_take]
        refine ⟨A, q1, _, _, rfl, rfl, n1 _ _ hA3, upd_same, Nat.le_of_lt (million (by rw [e1, List.length_map, List.length_map]; omega)), ?_⟩
        have k4 : Keep A H3 (upd (upd H3 q1 (.lst (cutV ((entS sh e).map V.int) none (some (p - (0 + ((showE sh (es.take i)).length : Int))))))) A (.lst ((aE sh p 0 (es.take i)).map V.int ++ cutV ((entS sh e).map V.int) none (some (p - (0 + ((showE sh (es.take i)).length : Int))))))) := Keep.trans (Same.keep n1) (keep_upd A _ _)
        have no : o ≠ A := (ne_of_none hA2 ho).symm
        have nqA : q1 ≠ A := (ne_of_none hA3 hq1).symm
        have hB4 := k4 _ _ hB3 nAB.symm
        refine ⟨_, rfl, .inl ⟨rfl, _, SqL.of hB4⟩, _, rfl, _, rfl, _, rfl, _, _, rfl, rfl, _, rfl, o, _, rfl, SqL.of (k4 _ _ h3 no), fun q2 hq2 => ?_⟩
        have e2 : cutV ((entS sh e).map V.int) (some (p - (0 + ((showE sh (es.take i)).length : Int)))) none = ((entS sh e).drop (p - (0 + ((showE sh (es.take i)).length : Int))).toNat).map V.int := by rw [cut_back _ (by omega), List.map_drop]
        refine ⟨B, q2, _, _, rfl, rfl, same_new hq2 _ _ _ hB4, upd_same, Nat.le_of_lt (million (by rw [e2, List.length_map, List.length_map]; omega)), ?_⟩
        refine ⟨_, rfl, some (.int e), some (.ref o), some (.int (0 + ((showE sh (es.take i)).length : Int) + ((entS sh e).length : Int))), ?_, ?_, ?_, ?_⟩
        · rw [eF]; rfl
        · rw [upd_ne nAB, same_new hq2 _ _ _ upd_same, eA, List.map_append, e1]
        · rw [upd_same, eB, List.map_append, e2]
        · exact keep_of hB0 ((keep_of hA (s2.trans s3) k4).trans (same_new hq2 _)) (keep_upd B _ _)
  · rintro σ H2 ⟨u1, u2, u3, rfl, hA2, hB2, s2⟩
    rw [List.length_map, List.take_length] at hA2 hB2
    have lA := aE_len sh p es 0
    have lB := bE_len sh p es 0
    refine ⟨_, rfl, _, rfl, A, n, _, _, rfl, rfl, hA2, s2 _ _ hn, Nat.le_of_lt (million (by rw [List.length_map, List.length_map]; omega)), fun c1 hc1 => ?_⟩
    have n1 : Same H2 (upd H2 c1 (.lst ((aE sh p 0 es).map V.int ++ new.map V.int))) := same_new hc1 _
    refine ⟨_, rfl, c1, B, _, _, rfl, rfl, upd_same, n1 _ _ hB2, Nat.le_of_lt (million (by rw [List.length_append, List.length_map, List.length_map, List.length_map]; omega)), fun c2 hc2 => ?_⟩
    refine k es c2 _ hes1 ?_ ?_ (s2.trans (n1.trans (same_new hc2 _))) (free_same (s2.trans n1) hc2)
    · rw [upd_same]
      unfold putRes
      rw [if_neg c', List.map_append, List.map_append]
    · unfold putRes
      rw [if_neg c', List.length_append, List.length_append]
      omega

theorem cut_mid (xs : List V) {p q : Int} (h : 0 ≤ p) (g : 0 ≤ q) : cutV xs (some p) (some q) = (xs.take q.toNat).drop p.toNat := by
  unfold cutV
  have e : ∀ r : Int, 0 ≤ r → ∀ d, HT.sIx xs.length d (some r) = min r.toNat xs.length := fun r hr d => by
    show (if r < 0 then (r + (xs.length : Int)).toNat else min r.toNat xs.length) = _
    rw [if_neg (by omega)]
  rw [e p h, e q g, List.drop_take]
  rcases Nat.le_total p.toNat xs.length with z | z
  · rw [Nat.min_eq_left z]
    rcases Nat.le_total q.toNat xs.length with y | y
    · rw [Nat.min_eq_left y]
    · rw [Nat.min_eq_right y, List.take_of_length_le (by rw [List.length_drop]; omega), List.take_of_length_le (by rw [List.length_drop]; omega)]
  · rw [Nat.min_eq_right z, List.drop_of_length_le (Nat.le_refl _), List.drop_of_length_le z]
    simp
def kL1 (sh : Int → List Int) (a b f e : Int) : List Int := if a = b then [e] else kE1 sh a b f e
def tL1 (sh : Int → List Int) (a b f e : Int) : List Int := if a = b then [] else tE1 sh a b f e
theorem cutRes_snoc (sh : Int → List Int) (a b : Int) (es : List Int) (e : Int) : cutRes sh a b (es ++ [e]) = cutRes sh a b es ++ kL1 sh a b (0 + ((showE sh es).length : Int)) e := by
  unfold cutRes kL1
  split
  · rfl
  · rw [kE_append, kE, kE, List.append_nil]
theorem takRes_snoc (sh : Int → List Int) (a b : Int) (es : List Int) (e : Int) : takRes sh a b (es ++ [e]) = takRes sh a b es ++ tL1 sh a b (0 + ((showE sh es).length : Int)) e := by
  unfold takRes tL1
  split
  · rfl
  · rw [tE_append, tE, tE, List.append_nil]
theorem kL1_len (sh : Int → List Int) (a b f e : Int) : (kL1 sh a b f e).length ≤ 1 + 2 * (entS sh e).length := by
  unfold kL1 kE1
  split
  · simp
  · split
    · simp
    · split
      · simp
      · rw [List.length_append, List.length_take, List.length_drop]; omega
theorem tL1_len (sh : Int → List Int) (a b f e : Int) : (tL1 sh a b f e).length ≤ 1 + 2 * (entS sh e).length := by
  unfold tL1 tE1
  split
  · simp
  · split
    · simp
    · split
      · simp
      · rw [List.length_drop, List.length_take]; omega
theorem kE_len (sh : Int → List Int) (a b : Int) : ∀ (es : List Int) (f : Int), (kE sh a b f es).length ≤ es.length + 2 * (showE sh es).length
  | [], _ => by simp [kE]
  | e :: r, f => by
    rw [kE, showE_cons, List.length_append, List.length_append, List.length_cons]
    have x := kE_len sh a b r (f + (entS sh e).length)
    have y : (kE1 sh a b f e).length ≤ 1 + 2 * (entS sh e).length := by
      unfold kE1
      split
      · simp
      · split
        · simp
        · rw [List.length_append, List.length_take, List.length_drop]; omega
    omega
theorem tE_len (sh : Int → List Int) (a b : Int) : ∀ (es : List Int) (f : Int), (tE sh a b f es).length ≤ es.length + 2 * (showE sh es).length
  | [], _ => by simp [tE]
  | e :: r, f => by
    rw [tE, showE_cons, List.length_append, List.length_append, List.length_cons]
    have x := tE_len sh a b r (f + (entS sh e).length)
    have y : (tE1 sh a b f e).length ≤ 1 + 2 * (entS sh e).length := by
      unfold tE1
      split
      · simp
      · split
        · simp
        · rw [List.length_drop, List.length_take]; omega
    omega
theorem cutRes_len (sh : Int → List Int) (a b : Int) (es : List Int) : (cutRes sh a b es).length ≤ es.length + 2 * (showE sh es).length := by
  unfold cutRes
  split
  · omega
  · exact kE_len sh a b es 0
theorem takRes_len (sh : Int → List Int) (a b : Int) (es : List Int) : (takRes sh a b es).length ≤ es.length + 2 * (showE sh es).length := by
  unfold takRes
  split
  · simp
  · exact tE_len sh a b es 0
def spLCut (d : Nat) : Sp := fun vs H Q _ => ∃ (av : Addr → Prop) (r : Addr) (rows : List (List Int)) (s a b : Int) (sh : Int → List Int) (rk : Int → Nat), vs = [.ref r, .int s, .int a, .int b] ∧ RowsAt av H r rows ∧ rows.length ≤ 1000 ∧ (∀ es ∈ rows, es.length ≤ 1000) ∧ Sound rows ∧ Shows rows sh ∧ (∀ x : Int, 0 ≤ x → x < rows.length → (sh x).length ≤ 10000) ∧ (∀ x y, Nxt rows x y → rk y < rk x) ∧ 0 ≤ s ∧ s < rows.length ∧ rk s ≤ d ∧ a ≤ b ∧
  ∀ (es : List Int) (t L M : Addr) (H' : Hp), rows[s.toNat]? = some es → H' t = some (.tup [.ref L, .ref M]) → H' L = some (.lst ((cutRes sh a b es).map V.int)) → H' M = some (.lst ((takRes sh a b es).map V.int)) → Same H H' → H L = none → H M = none → L ≠ M → Q (.ref t) H'
abbrev s_law_cut : Stmt := top 35
theorem sc_law_cut : FnScope ["_law_rows", "_law_sheet", "_law_start", "_law_stop", "_law_kept", "_law_taken", "_law_first", "_law_entry", "_law_pieces_here", "_law_last", "_law_low", "_law_high"] ["_law_rows", "_law_sheet", "_law_start", "_law_stop"] (defScope s_law_cut) := ⟨rfl, rfl, rfl, by decide +kernel, rfl, by decide +kernel, by decide +kernel⟩
theorem ok_law_cut {f g h' : Addr} {fd gd hd' : FuncData} {d : Nat} (F : Fun K "_law_cut" "_law_cut" s_law_cut f fd) (T : Nms mg) (d_law_show : DefAt K mg "_law_show" s_law_show ["_law_rows", "_law_sheet"] g gd) (d_law_pieces : DefAt K mg "_law_pieces" s_law_pieces ["_law_rows", "_law_entry"] h' hd') : FnOk P w K mg base CX0 (d + 3) f fd ["_law_rows", "_law_sheet", "_law_start", "_law_stop"] (spLCut d) := by
  have g_law_pieces : FnOk P w K mg base CX0 (d + 2) _ _ ["_law_rows", "_law_entry"] (spLPieces d) := ok_law_pieces d_law_pieces.F T d_law_show
  refine F.ok sc_law_cut (fun vs H Q E h => ?_) (fun cdv A outer s0 H vs Q E hr h => ?_)
  · obtain ⟨av, r, rows, s, a, b, sh, rk, rfl, _⟩ := h
    rfl
  obtain ⟨av, r, rows, s, p, q, sh, rk, rfl, R, hlen, hes, hsd, hsh, hbd, hrk, h0, h1, hd, hpq, k⟩ := h
  obtain ⟨es, hes1⟩ : ∃ es, rows[s.toNat]? = some es := ⟨_, List.getElem?_eq_getElem (by omega)⟩
  have esl := hes es (List.mem_of_getElem? hes1)
  have shs := hsh s es h0 hes1
  have shl := hbd s h0 h1
  rw [shs] at shl
  obtain ⟨rvs, b, hr0, hvi, hb0, hrl⟩ := R.get hes1
  have arow : atI rvs s = some (.ref b) := by
    have z := atI_nat hvi
    rw [show ((s.toNat : Nat) : Int) = s by omega] at z
    exact z
  refine ⟨_, (pss_cons (ps_set (i := 4) sc_law_cut.nd rfl (Or.inl rfl) (pe_lst pa_nil))
      (pss_cons (ps_set (i := 5) sc_law_cut.nd rfl (Or.inl rfl) (pe_lst pa_nil))
      (pss_cons (ps_set (i := 6) sc_law_cut.nd rfl (Or.inl rfl) pe_int)
      (pss_cons (ps_for PassesOwn.never rfl (pi_list (pe_ix ix_list (pv 0) (pv 1) (fun _ _ => rfl))) (pg_name (i := 7) sc_law_cut.nd rfl (Or.inl rfl))
      (pss_cons (ps_set (i := 8) sc_law_cut.nd rfl (Or.inl rfl) (pe_def d_law_pieces g_law_pieces hr (pa_cons (pv 0) (pa_cons (pv 7) pa_nil))))
      (pss_cons (ps_set (i := 9) sc_law_cut.nd rfl (Or.inl rfl) (pe_op op_add (pv 6) (pe_callB call_len_seq rfl T.n_len PySem.boot_len (pa_cons (pv 8) pa_nil))))
      (pss_cons (ps_set (i := 10) sc_law_cut.nd rfl (Or.inl rfl) (pe_callB (call_max2 rfl) rfl T.n_max PyProof.Rows.boot_max (pa_cons pe_int (pa_cons (pe_op op_sub (pv 2) (pv 6)) pa_nil))))
      (pss_cons (ps_set (i := 11) sc_law_cut.nd rfl (Or.inl rfl) (pe_op op_sub (pe_callB (call_min2 rfl) rfl T.n_min PyProof.Rows.boot_min (pa_cons (pv 9) (pa_cons (pv 3) pa_nil))) (pv 6)))
      (pss_cons (ps_if (PW.pt (pw_or (pt_cmpR op_eq (pv 2) (pv 3) (nomark _)) (pw_or (pt_cmpR op_le (pv 9) (pv 2) (nomark _)) (pw_or1 (pt_cmpR op_le (pv 3) (pv 6) (nomark _))))))
      (pss_one (ps_expr (pe_bm PySem.F.plainAttrs_list PySem.F.slot_list_append PySem.F.type_list_append mt_append (pv 4) (pa_cons (pv 7) pa_nil))))
      (pss_one (ps_if (PW.pt (pw_and (pt_cmpR op_le (pv 2) (pv 6) (nomark _)) (pw_and1 (pt_cmpR op_le (pv 9) (pv 3) (nomark _)))))
      (pss_one (ps_expr (pe_bm PySem.F.plainAttrs_list PySem.F.slot_list_append PySem.F.type_list_append mt_append (pv 5) (pa_cons (pv 7) pa_nil))))
      (pss_cons (ps_expr (pe_bm PySem.F.plainAttrs_list PySem.F.slot_list_extend PySem.F.type_list_extend mt_extend (pv 4) (pa_cons (pe_op op_cat (pe_slice sl_list (pv 8) po_none (po_some (pv 10))) (pe_slice sl_list (pv 8) (po_some (pv 11)) po_none)) pa_nil)))
      (pss_one (ps_expr (pe_bm PySem.F.plainAttrs_list PySem.F.slot_list_extend PySem.F.type_list_extend mt_extend (pv 5) (pa_cons (pe_slice sl_list (pv 8) (po_some (pv 10)) (po_some (pv 11))) pa_nil))))))))
      (pss_one (ps_set (i := 6) sc_law_cut.nd rfl (Or.inl rfl) (pv 9)))))))))
      (pss_one (ps_ret (pe_tup (pa_cons (pv 4) (pa_cons (pv 5) pa_nil))))))))), ?_⟩
  refine ⟨(by show 0 ≤ sizeLine; decide), fun A hA => ⟨(by show 0 ≤ sizeLine; decide), fun B hB => ?_⟩⟩
  have sA : Same H (upd H A (.lst [])) := same_new hA _
  have sB : Same _ (upd (upd H A (.lst [])) B (.lst [])) := same_new hB _
  have s1 := sA.trans sB
  have nAB : A ≠ B := ne_of_none upd_same hB
  have hB0 := free_same sA hB
  have z0 : cutRes sh p q [] = [] ∧ takRes sh p q [] = [] := by
    unfold cutRes takRes
    constructor <;> split <;> rfl
  refine ⟨_, rfl, _, rfl, r, _, _, _, rfl, rfl, SqL.of (s1 _ _ hr0), arow, b, rfl, ⟨_, SqL.of (s1 _ _ hb0)⟩, for_list (K := K) (a := b) (xs := es.map V.int) (fun i σ H2 => ∃ u1 u2 u3 u4 u5 : Option V, σ = [some (.ref r), some (.int s), some (.int p), some (.int q), some (.ref A), some (.ref B), some (.int (0 + ((showE sh (es.take i)).length : Int))), u1, u2, u3, u4, u5] ∧ H2 A = some (.lst ((cutRes sh p q (es.take i)).map V.int)) ∧ H2 B = some (.lst ((takRes sh p q (es.take i)).map V.int)) ∧ Same H H2)
    ⟨none, none, none, none, none, rfl, (by rw [List.take_zero, z0.1]; exact sB _ _ upd_same), (by rw [List.take_zero, z0.2]; exact upd_same), s1⟩ (fun i σ H2 _ ⟨_, _, _, _, _, _, _, _, s2⟩ => SqL.of (s2 _ _ hb0)) ?_ ?_⟩
  · rintro i x σ H2 hi ⟨u1, u2, u3, u4, u5, rfl, hA2, hB2, s2⟩
    rw [List.getElem?_map] at hi
    obtain ⟨e, ex, rfl⟩ := Option.map_eq_some_iff.mp hi
    have st := take_snoc ex
    have eA := cutRes_snoc sh p q (es.take i) e
    have eB := takRes_snoc sh p q (es.take i) e
    rw [← st] at eA eB
    have eF : (0 + ((showE sh (es.take (i + 1))).length : Int)) = 0 + ((showE sh (es.take i)).length : Int) + (entS sh e).length := by
      rw [st, showE_append, showE_cons, List.length_append, List.length_append]
      simp [showE]
    have lA0 := cutRes_len sh p q (es.take i)
    have lB0 := takRes_len sh p q (es.take i)
    have l1 := showE_take sh es (i + 1)
    have l0 := showE_take sh es i
    have le : (entS sh e).length ≤ (showE sh (es.take (i + 1))).length := by
      rw [st, showE_append, showE_cons, List.length_append, List.length_append]
      omega
    have lkk := kL1_len sh p q (0 + ((showE sh (es.take i)).length : Int)) e
    have ltt := tL1_len sh p q (0 + ((showE sh (es.take i)).length : Int)) e
    have t0 : (es.take i).length ≤ es.length := by rw [List.length_take]; omega
    generalize hf : 0 + ((showE sh (es.take i)).length : Int) = fi at *
    refine ⟨_, rfl, _, rfl, av, r, rows, e, sh, rk, rfl, R.same s2, hlen, hsd, hsh, hbd, hrk, fun hneg => ?_, fun o H3 h3 s3 ho => ?_⟩
    · have nx : Nxt rows s (-1 - e) := ⟨h0, es, hes1, mem_winsE.mpr ⟨by omega, by rw [show -1 - (-1 - e) = e by omega]; exact List.mem_of_getElem? ex⟩⟩
      have := hrk _ _ nx
      exact ⟨(hsd.nxt nx).2, by omega⟩
    have hA3 := s3 _ _ hA2
    have hB3 := s3 _ _ hB2
    refine ⟨_, rfl, _, rfl, o, _, rfl, .inl (SqL.of h3), _, _, rfl, rfl, ?_⟩
    rw [List.length_map]
    refine ⟨_, rfl, _, rfl, _, _, rfl, rfl, _, _, rfl, ?_⟩
    refine ⟨_, rfl, _, rfl, _, _, rfl, _, rfl, _, _, rfl, rfl, ?_⟩
    have lo0 : (if p - fi > 0 then p - fi else 0).toNat = (p - fi).toNat ∧ 0 ≤ (if p - fi > 0 then p - fi else 0) := by
      split <;> omega
    have keepIt : (p = q ∨ (fi + ((entS sh e).length : Int)) ≤ p ∨ q ≤ fi) → (upd H3 A (.lst ((cutRes sh p q (es.take i)).map V.int ++ [.int e]))) A = some (.lst ((cutRes sh p q (es.take (i + 1))).map V.int)) ∧ (upd H3 A (.lst ((cutRes sh p q (es.take i)).map V.int ++ [.int e]))) B = some (.lst ((takRes sh p q (es.take (i + 1))).map V.int)) := fun c => by
      have e1 : kL1 sh p q fi e = [e] := by
        unfold kL1 kE1
        rcases c with c | c
        · rw [if_pos c]
        · rw [if_pos c]; split <;> rfl
      have e2 : tL1 sh p q fi e = [] := by
        unfold tL1 tE1
        rcases c with c | c
        · rw [if_pos c]
        · rw [if_pos c]; split <;> rfl
      rw [upd_same, upd_ne nAB.symm, eA, eB, e1, e2, List.append_nil, List.map_append]
      exact ⟨rfl, hB3⟩
    have stf : ∀ y : Option V, [some (V.ref r), some (.int s), some (.int p), some (.int q), some (.ref A), some (.ref B), some (.int (fi + ((entS sh e).length : Int))), some (.int e), some (.ref o), some (.int (fi + ((entS sh e).length : Int))), some (.int (if p - fi > 0 then p - fi else 0)), y] = [some (.ref r), some (.int s), some (.int p), some (.int q), some (.ref A), some (.ref B), some (.int (0 + ((showE sh (es.take (i + 1))).length : Int))), some (.int e), some (.ref o), some (.int (fi + ((entS sh e).length : Int))), some (.int (if p - fi > 0 then p - fi else 0)), y] := fun y => by rw [eF]
    have keepR : ∀ c : (p = q ∨ (fi + ((entS sh e).length : Int)) ≤ p ∨ q ≤ fi), ∃ u1 u2 u3 u4 u5 : Option V, [some (V.ref r), some (.int s), some (.int p), some (.int q), some (.ref A), some (.ref B), some (.int (fi + ((entS sh e).length : Int))), some (.int e), some (.ref o), some (.int (fi + ((entS sh e).length : Int))), some (.int (if p - fi > 0 then p - fi else 0)), some (.int ((if q < (fi + ((entS sh e).length : Int)) then q else (fi + ((entS sh e).length : Int))) - fi))] = [some (.ref r), some (.int s), some (.int p), some (.int q), some (.ref A), some (.ref B), some (.int (0 + ((showE sh (es.take (i + 1))).length : Int))), u1, u2, u3, u4, u5] ∧ (upd H3 A (.lst ((cutRes sh p q (es.take i)).map V.int ++ [.int e]))) A = some (.lst ((cutRes sh p q (es.take (i + 1))).map V.int)) ∧ (upd H3 A (.lst ((cutRes sh p q (es.take i)).map V.int ++ [.int e]))) B = some (.lst ((takRes sh p q (es.take (i + 1))).map V.int)) ∧ Same H (upd H3 A (.lst ((cutRes sh p q (es.take i)).map V.int ++ [.int e]))) := fun c =>
      ⟨_, _, _, _, _, stf _, (keepIt c).1, (keepIt c).2, keep_of hA (s2.trans s3) (keep_upd A _ _)⟩
    have mA : ((cutRes sh p q (es.take i)).map V.int).length < sizeLine := million (by rw [List.length_map]; omega)
    refine ⟨_, rfl, _, rfl, rfl, _, rfl, ite2 (fun c1 => iteT ?_) (fun c1 => ?_)⟩
    · exact ⟨_, rfl, .inl ⟨rfl, _, SqL.of hA3⟩, _, rfl, A, _, _, rfl, rfl, hA3, mA, _, rfl, keepR (.inl (V.int.inj (of_decide_eq_true c1)))⟩
    have c1' : ¬ p = q := fun z => c1 (by rw [z]; exact decide_eq_true rfl)
    refine ⟨_, rfl, _, rfl, _, _, rfl, rfl, _, rfl, ite2 (fun c2 => iteT ?_) (fun c2 => ?_)⟩
    · exact ⟨_, rfl, .inl ⟨rfl, _, SqL.of hA3⟩, _, rfl, A, _, _, rfl, rfl, hA3, mA, _, rfl, keepR (.inr (.inl (of_decide_eq_true c2)))⟩
    have c2' : ¬ (fi + ((entS sh e).length : Int)) ≤ p := fun z => c2 (decide_eq_true z)
    refine ⟨_, rfl, _, rfl, _, _, rfl, rfl, _, rfl, ite2 (fun c3 => ?_) (fun c3 => ?_)⟩
    · exact ⟨_, rfl, .inl ⟨rfl, _, SqL.of hA3⟩, _, rfl, A, _, _, rfl, rfl, hA3, mA, _, rfl, keepR (.inr (.inr (of_decide_eq_true c3)))⟩
    have c3' : ¬ q ≤ fi := fun z => c3 (decide_eq_true z)
    have n1 : ¬ ((fi + ((entS sh e).length : Int)) ≤ p ∨ q ≤ fi) := fun z => z.elim c2' c3'
    have hh : ((if q < (fi + ((entS sh e).length : Int)) then q else (fi + ((entS sh e).length : Int))) - fi).toNat = min (entS sh e).length (q - fi).toNat ∧ 0 ≤ (if q < (fi + ((entS sh e).length : Int)) then q else (fi + ((entS sh e).length : Int))) - fi := by
      split <;> omega
    have pq : p < q := by omega
    have rest : ¬ (p ≤ fi ∧ (fi + ((entS sh e).length : Int)) ≤ q) → kL1 sh p q fi e = (entS sh e).take (if p - fi > 0 then p - fi else 0).toNat ++ (entS sh e).drop ((if q < (fi + ((entS sh e).length : Int)) then q else (fi + ((entS sh e).length : Int))) - fi).toNat ∧ tL1 sh p q fi e = ((entS sh e).take ((if q < (fi + ((entS sh e).length : Int)) then q else (fi + ((entS sh e).length : Int))) - fi).toNat).drop (if p - fi > 0 then p - fi else 0).toNat := fun c4 => by
      unfold kL1 tL1 kE1 tE1
      rw [if_neg c1', if_neg c1', if_neg n1, if_neg n1, if_neg c4, if_neg c4, lo0.1, hh.1]
      rcases Nat.le_total (q - fi).toNat (entS sh e).length with z | z
      · rw [Nat.min_eq_right z]
        exact ⟨rfl, rfl⟩
      · rw [Nat.min_eq_left z, List.drop_of_length_le z, List.drop_of_length_le (Nat.le_refl _), List.take_of_length_le z, List.take_of_length_le (Nat.le_refl _)]
        exact ⟨rfl, rfl⟩
    refine ⟨_, rfl, _, rfl, _, _, rfl, rfl, _, rfl, if_and (fun z => ⟨_, rfl, _, rfl, _, _, rfl, rfl, _, rfl, z⟩) (fun c6 => ?_) (fun c6 => ?_)⟩
    · have e1 : kL1 sh p q fi e = [] := by unfold kL1 kE1; rw [if_neg c1', if_neg n1, if_pos c6]
      have e2 : tL1 sh p q fi e = [e] := by unfold tL1 tE1; rw [if_neg c1', if_neg n1, if_pos c6]
      refine ⟨_, rfl, .inl ⟨rfl, _, SqL.of hB3⟩, _, rfl, B, _, _, rfl, rfl, hB3, million (by rw [List.length_map]; omega), _, rfl, _, _, _, _, _, stf _, ?_, ?_, keep_of hB0 (s2.trans s3) (keep_upd B _ _)⟩
      · rw [upd_ne nAB, eA, e1, List.append_nil]; exact hA3
      · rw [upd_same, eB, e2, List.map_append]; rfl
    · obtain ⟨r1, r2⟩ := rest c6
      rw [r1, List.length_append] at lkk
      rw [r2] at ltt
      refine ⟨_, rfl, .inl ⟨rfl, _, SqL.of hA3⟩, _, rfl, _, rfl, _, rfl, o, _, rfl, SqL.of h3, fun q1 hq1 => ?_⟩
      rw [cut_front _ lo0.2, ← List.map_take]
      have n4 : Same H3 (upd H3 q1 (.lst (((entS sh e).take (if p - fi > 0 then p - fi else 0).toNat).map V.int))) := same_new hq1 _
      refine ⟨_, rfl, _, rfl, _, rfl, o, _, rfl, SqL.of (n4 _ _ h3), fun q2 hq2 => ?_⟩
      rw [cut_back _ hh.2, ← List.map_drop]
      have n5 : Same _ (upd (upd H3 q1 (.lst (((entS sh e).take (if p - fi > 0 then p - fi else 0).toNat).map V.int))) q2 (.lst (((entS sh e).drop ((if q < (fi + ((entS sh e).length : Int)) then q else (fi + ((entS sh e).length : Int))) - fi).toNat).map V.int))) := same_new hq2 _
      refine ⟨q1, q2, _, _, rfl, rfl, n5 _ _ upd_same, upd_same, (by rw [List.length_map, List.length_map]; exact Nat.le_of_lt (million (by omega))), fun q3 hq3 => ?_⟩
      have n6 : Same _ (upd (upd (upd H3 q1 (.lst (((entS sh e).take (if p - fi > 0 then p - fi else 0).toNat).map V.int))) q2 (.lst (((entS sh e).drop ((if q < (fi + ((entS sh e).length : Int)) then q else (fi + ((entS sh e).length : Int))) - fi).toNat).map V.int))) q3 (.lst (((entS sh e).take (if p - fi > 0 then p - fi else 0).toNat).map V.int ++ ((entS sh e).drop ((if q < (fi + ((entS sh e).length : Int)) then q else (fi + ((entS sh e).length : Int))) - fi).toNat).map V.int))) := same_new hq3 _
      have n46 := n4.trans (n5.trans n6)
      have h63 : (upd (upd (upd H3 q1 (.lst (((entS sh e).take (if p - fi > 0 then p - fi else 0).toNat).map V.int))) q2 (.lst (((entS sh e).drop ((if q < (fi + ((entS sh e).length : Int)) then q else (fi + ((entS sh e).length : Int))) - fi).toNat).map V.int))) q3 (.lst (((entS sh e).take (if p - fi > 0 then p - fi else 0).toNat).map V.int ++ ((entS sh e).drop ((if q < (fi + ((entS sh e).length : Int)) then q else (fi + ((entS sh e).length : Int))) - fi).toNat).map V.int))) q3 = some (.lst (((entS sh e).take (if p - fi > 0 then p - fi else 0).toNat).map V.int ++ ((entS sh e).drop ((if q < (fi + ((entS sh e).length : Int)) then q else (fi + ((entS sh e).length : Int))) - fi).toNat).map V.int)) := upd_same
      generalize upd (upd (upd H3 q1 (.lst (((entS sh e).take (if p - fi > 0 then p - fi else 0).toNat).map V.int))) q2 (.lst (((entS sh e).drop ((if q < (fi + ((entS sh e).length : Int)) then q else (fi + ((entS sh e).length : Int))) - fi).toNat).map V.int))) q3 (.lst (((entS sh e).take (if p - fi > 0 then p - fi else 0).toNat).map V.int ++ ((entS sh e).drop ((if q < (fi + ((entS sh e).length : Int)) then q else (fi + ((entS sh e).length : Int))) - fi).toNat).map V.int)) = H6 at n46 h63
      refine ⟨A, q3, _, _, rfl, rfl, n46 _ _ hA3, h63, (by rw [List.length_append, List.length_map, List.length_map, List.length_map]; exact Nat.le_of_lt (million (by omega))), ?_⟩
      have k7 : Keep A H6 (upd H6 A (.lst ((cutRes sh p q (es.take i)).map V.int ++ (((entS sh e).take (if p - fi > 0 then p - fi else 0).toNat).map V.int ++ ((entS sh e).drop ((if q < (fi + ((entS sh e).length : Int)) then q else (fi + ((entS sh e).length : Int))) - fi).toNat).map V.int)))) := keep_upd A _ _
      have hA7 : (upd H6 A (.lst ((cutRes sh p q (es.take i)).map V.int ++ (((entS sh e).take (if p - fi > 0 then p - fi else 0).toNat).map V.int ++ ((entS sh e).drop ((if q < (fi + ((entS sh e).length : Int)) then q else (fi + ((entS sh e).length : Int))) - fi).toNat).map V.int)))) A = some (.lst ((cutRes sh p q (es.take (i + 1))).map V.int)) := by rw [upd_same, eA, r1, List.map_append, List.map_append]
      have no : o ≠ A := (ne_of_none hA2 ho).symm
      have h37 := k7 _ _ (n46 _ _ h3) no
      have hB7 := k7 _ _ (n46 _ _ hB3) nAB.symm
      have sm7 := keep_of hA (s2.trans (s3.trans n46)) k7
      generalize upd H6 A (.lst ((cutRes sh p q (es.take i)).map V.int ++ (((entS sh e).take (if p - fi > 0 then p - fi else 0).toNat).map V.int ++ ((entS sh e).drop ((if q < (fi + ((entS sh e).length : Int)) then q else (fi + ((entS sh e).length : Int))) - fi).toNat).map V.int))) = H7 at k7 hA7 h37 hB7 sm7
      refine ⟨_, rfl, .inl ⟨rfl, _, SqL.of hB7⟩, _, rfl, _, rfl, _, rfl, _, rfl, _, rfl, o, _, rfl, SqL.of h37, fun q4 hq4 => ?_⟩
      rw [cut_mid _ lo0.2 hh.2, ← List.map_take, ← List.map_drop]
      refine ⟨B, q4, _, _, rfl, rfl, same_new hq4 _ _ _ hB7, upd_same, (by rw [List.length_map, List.length_map]; exact Nat.le_of_lt (million (by omega))), ?_⟩
      refine ⟨_, rfl, _, _, _, _, _, stf _, ?_, ?_, keep_of hB0 (sm7.trans (same_new hq4 _)) (keep_upd B _ _)⟩
      · rw [upd_ne nAB]; exact same_new hq4 _ _ _ hA7
      · rw [upd_same, eB, r2, List.map_append]
  · rintro σ H2 ⟨u1, u2, u3, u4, u5, rfl, hA2, hB2, s2⟩
    rw [List.length_map, List.take_length] at hA2 hB2
    refine ⟨_, rfl, _, rfl, (by show 2 ≤ sizeLine; decide), fun t ht => k es t A B _ hes1 upd_same (same_new ht _ _ _ hA2) (same_new ht _ _ _ hB2) (s2.trans (same_new ht _)) hA hB0 nAB⟩

def spMovItN : Sp := fun vs H Q _ => ∃ (r : Addr) (rows : List (List Int)) (s a b to : Int) (sh : Int → List Int), vs = [.ref r, .int s, .int a, .int b, .int to] ∧ RowsIn H r rows sh ∧ 0 ≤ s ∧ s < rows.length ∧ (-100000 < a ∧ a < 100000) ∧ (-100000 < b ∧ b < 100000) ∧ (-100000 < to ∧ to < 100000) ∧
  (Mv a b to (sh s).length → ∀ (es : List Int) (q : Addr) (H' : Hp), rows[s.toNat]? = some es → ItemsAt H' (.ref q) (itemsOf (moveRes sh a b to es)) → Same H H' → H q = none → Q (.ref q) H') ∧
  (¬ Mv a b to (sh s).length → ∀ H', Same H H' → Q .non H')
abbrev s_law_move_or_none : Stmt := top 36
theorem sc_law_move_or_none : FnScope ["_law_rows", "_law_sheet", "_law_start", "_law_stop", "_law_to", "_law_told"] ["_law_rows", "_law_sheet", "_law_start", "_law_stop", "_law_to"] (defScope s_law_move_or_none) := ⟨rfl, rfl, rfl, by decide +kernel, rfl, by decide +kernel, by decide +kernel⟩
theorem ok_law_move_or_none {f fT C : Addr} {fd fdT : FuncData} (F : Fun K "_law_move_or_none" "_law_move_or_none" s_law_move_or_none f fd) (Z : ExcAt K mg C) (dmoved_items : DefAt K mg "moved_items" smoved_items ["rows", "sheet", "start", "stop", "to"] fT fdT) (gmoved_items : FnOk P w K mg base (CX1 P w) 4 fT fdT ["rows", "sheet", "start", "stop", "to"] (spMovedItems C)) :
    FnOk P w K mg base CX0 5 f fd ["_law_rows", "_law_sheet", "_law_start", "_law_stop", "_law_to"] spMovItN := by
  refine F.ok sc_law_move_or_none (fun vs H Q E h => ?_) (fun cdv A outer s H vs Q E hr h => ?_)
  · obtain ⟨r, rows, s, p, q, to, sh, rfl, _⟩ := h
    rfl
  obtain ⟨r, rows, s, p, q, to, sh, rfl, R, h0, h1, fp, fq, ft, k1, k2⟩ := h
  refine ⟨_, (pss_cons (ps_set (i := 5) sc_law_move_or_none.nd rfl (Or.inl rfl) pe_non)
      (pss_cons (ps_tryS (i := 5) sc_law_move_or_none.nd rfl (Or.inl rfl) dmoved_items gmoved_items hr (pa_cons (pv 0) (pa_cons (pv 1) (pa_cons (pv 2) (pa_cons (pv 3) (pa_cons (pv 4) pa_nil))))) Z.m Z.h
      (fun _ => (pss_one (ps_set (i := 5) sc_law_move_or_none.nd rfl (Or.inl rfl) pe_non))))
      (pss_one (ps_ret (pv 5))))), ?_⟩
  refine ⟨_, rfl, _, rfl, _, rfl, _, rfl, _, rfl, r, rows, s, p, q, to, sh, rfl, R, h0, h1, fp, fq, ft, fun hin es o H1 he R1 s1 ho => ?_, fun hin H1 s1 => ⟨rfl, ?_⟩⟩
  · exact ⟨_, rfl, k1 hin es o H1 he R1 s1 ho⟩
  · exact ⟨_, rfl, k2 hin H1 s1⟩

/-! ### the rest behind a cut, as rows -/
theorem kE_mem (sh : Int → List Int) {a b : Int} {N : Int → Prop} : ∀ (es : List Int) (f : Int), (∀ e ∈ es, ∀ x ∈ entS sh e, N x) → ∀ x ∈ kE sh a b f es, x ∈ es ∨ N x
  | [], _, _ => fun x hx => by cases hx
  | e :: r, f, h => by
    intro x hx
    rw [kE] at hx
    rcases List.mem_append.mp hx with z | z
    · unfold kE1 at z
      split at z
      · rw [List.mem_singleton.mp z]; exact .inl (by simp)
      · split at z
        · cases z
        · rcases List.mem_append.mp z with y | y
          · exact .inr (h e (by simp) x (List.mem_of_mem_take y))
          · exact .inr (h e (by simp) x (List.mem_of_mem_drop y))
    · rcases kE_mem sh r _ (fun e he => h e (List.mem_cons_of_mem _ he)) x z with y | y
      · exact .inl (List.mem_cons_of_mem _ y)
      · exact .inr y
theorem showE_nn (sh : Int → List Int) : ∀ (xs : List Int), (∀ x ∈ xs, 0 ≤ x) → showE sh xs = xs
  | [], _ => rfl
  | x :: xs, h => by rw [showE_cons, entS_nn sh (h x (by simp)), showE_nn sh xs fun y hy => h y (List.mem_cons_of_mem _ hy)]; rfl
theorem kE_show (sh : Int → List Int) {a b : Int} (ab : a ≤ b) : ∀ (es : List Int) (f : Int), (∀ e ∈ es, ∀ x ∈ entS sh e, 0 ≤ x) → (showE sh (kE sh a b f es)).length ≤ (showE sh es).length
  | [], _, _ => by simp [kE]
  | e :: r, f, h => by
    rw [kE, showE_append, showE_cons, List.length_append, List.length_append]
    have ih := kE_show sh ab r (f + (entS sh e).length) (fun e he => h e (List.mem_cons_of_mem _ he))
    have one : (showE sh (kE1 sh a b f e)).length ≤ (entS sh e).length := by
      unfold kE1
      split
      · rw [showE_cons]; simp [showE]
      · split
        · simp [showE]
        · rename_i c1 c2
          have h1 := h e (by simp)
          rw [showE_append, showE_nn sh _ fun x hx => h1 x (List.mem_of_mem_take hx), showE_nn sh _ fun x hx => h1 x (List.mem_of_mem_drop hx), List.length_append, List.length_take, List.length_drop]
          omega
    omega
theorem tE_ne (sh : Int → List Int) {a b : Int} (ab : a < b) : ∀ (es : List Int) (f : Int), f ≤ a → a < f + (showE sh es).length → tE sh a b f es ≠ []
  | [], f, h, g => by simp [showE] at g; omega
  | e :: r, f, h, g => by
    rw [showE_cons, List.length_append] at g
    rw [tE]
    intro z
    obtain ⟨z1, z2⟩ := List.append_eq_nil_iff.mp z
    by_cases c1 : f + (entS sh e).length ≤ a
    · exact tE_ne sh ab r (f + (entS sh e).length) c1 (by omega) z2
    · unfold tE1 at z1
      rw [if_neg (fun y => y.elim c1 (by omega))] at z1
      split at z1
      · cases z1
      · rename_i c2
        have q := congrArg List.length z1
        rw [List.length_drop, List.length_take, List.length_nil] at q
        omega
theorem aE_congr {sh sg : Int → List Int} (p : Int) : ∀ (es : List Int) (f : Int), (∀ e ∈ es, entS sh e = entS sg e) → aE sh p f es = aE sg p f es
  | [], _, _ => rfl
  | e :: r, f, h => by rw [aE, aE, h e (by simp), aE_congr p r _ fun x hx => h x (List.mem_cons_of_mem _ hx)]
theorem bE_congr {sh sg : Int → List Int} (p : Int) : ∀ (es : List Int) (f : Int), (∀ e ∈ es, entS sh e = entS sg e) → bE sh p f es = bE sg p f es
  | [], _, _ => rfl
  | e :: r, f, h => by rw [bE, bE, h e (by simp), bE_congr p r _ fun x hx => h x (List.mem_cons_of_mem _ hx)]
theorem showE_le {sh sg : Int → List Int} : ∀ (es : List Int), (∀ y ∈ winsE es, (sg y).length ≤ (sh y).length) → (showE sg es).length ≤ (showE sh es).length
  | [], _ => by simp [showE]
  | e :: r, h => by
    rw [showE_cons, showE_cons, List.length_append, List.length_append]
    have ih := showE_le (sh := sh) (sg := sg) r fun y hy => h y (by
      obtain ⟨a, b⟩ := mem_winsE.mp hy
      exact mem_winsE.mpr ⟨a, List.mem_cons_of_mem _ b⟩)
    have one : (entS sg e).length ≤ (entS sh e).length := by
      unfold entS
      by_cases c : e < 0
      · rw [if_pos c, if_pos c]
        exact h _ (mem_winsE.mpr ⟨by omega, by rw [show -1 - (-1 - e) = e by omega]; simp⟩)
      · rw [if_neg c, if_neg c]; exact Nat.le_refl _
    omega
structure Rest (rows : List (List Int)) (sh : Int → List Int) (rk : Int → Nat) (s a b : Int) (es : List Int) (rs : List (List Int)) (sg : Int → List Int) : Prop where
  snd : Sound rs
  nx : ∀ x y, Nxt rs x y → Nxt rows x y
  shw : Shows rs sg
  bd : ∀ x : Int, 0 ≤ x → x < rs.length → (sg x).length ≤ 10000
  eq : ∀ n, rk n < rk s → 0 ≤ n → n < rows.length → sg n = sh n
theorem cut_rest {rows : List (List Int)} {sh : Int → List Int} {rk : Int → Nat} {s a b : Int} {es : List Int} (hsd : Sound rows) (hrb : ∀ x, rk x ≤ 40) (hdn : ∀ x y, Nxt rows x y → rk y < rk x) (hsh : Shows rows sh) (hbd : ∀ x : Int, 0 ≤ x → x < rows.length → (sh x).length ≤ 10000) (h0 : 0 ≤ s) (h1 : s < rows.length) (he : rows[s.toNat]? = some es) (ab : a ≤ b) : ∃ sg, Rest rows sh rk s a b es (rows.set s.toNat (cutRes sh a b es)) sg := by
  have hnn := shows_nn hsd ⟨rk, hrb, hdn⟩ hsh
  have ent : ∀ e ∈ es, ∀ x ∈ entS sh e, 0 ≤ x := fun e hm x hx => by
    unfold entS at hx
    by_cases c : e < 0
    · rw [if_pos c] at hx
      have nx : Nxt rows s (-1 - e) := ⟨h0, es, he, mem_winsE.mpr ⟨by omega, by rw [show -1 - (-1 - e) = e by omega]; exact hm⟩⟩
      obtain ⟨p, q⟩ := hsd.nxt nx
      exact hnn _ p q x hx
    · rw [if_neg c] at hx
      rw [List.mem_singleton.mp hx]
      omega
  have win : ∀ y ∈ winsE (cutRes sh a b es), y ∈ winsE es := fun y hy => by
    obtain ⟨y0, hm⟩ := mem_winsE.mp hy
    refine mem_winsE.mpr ⟨y0, ?_⟩
    unfold cutRes at hm
    split at hm
    · exact hm
    · rcases kE_mem sh es 0 ent _ hm with z | z
      · exact z
      · omega
  have nx : ∀ x y, Nxt (rows.set s.toNat (cutRes sh a b es)) x y → Nxt rows x y := by
    rintro x y ⟨x0, es', hx, hy⟩
    by_cases c : x.toNat = s.toNat
    · rw [c, List.getElem?_set, if_pos rfl] at hx
      split at hx
      · cases hx
        exact ⟨x0, es, by rw [c]; exact he, win y hy⟩
      · cases hx
    · rw [List.getElem?_set_ne (fun z => c z.symm)] at hx
      exact ⟨x0, es', hx, hy⟩
  have snd : Sound (rows.set s.toNat (cutRes sh a b es)) := fun es' hm y hy => by
    rw [List.length_set]
    rcases List.mem_or_eq_of_mem_set hm with z | z
    · exact hsd es' z y hy
    · subst z
      exact hsd es (List.mem_of_getElem? he) y (win y hy)
  obtain ⟨sg, hsg⟩ := shows_ex (rows := rows.set s.toNat (cutRes sh a b es)) ⟨rk, hrb, fun x y h => hdn x y (nx x y h)⟩
  have at_s : (rows.set s.toNat (cutRes sh a b es))[s.toNat]? = some (cutRes sh a b es) := by
    rw [List.getElem?_set, if_pos rfl, if_pos (by omega)]
  have key : ∀ (k : Nat) (x : Int), rk x < k → 0 ≤ x → x < rows.length → (rk x < rk s → sg x = sh x) ∧ (sg x).length ≤ (sh x).length := by
    intro k
    induction k with
    | zero => intro x h; omega
    | succ k ih =>
      intro x hx x0 x1
      by_cases c : x.toNat = s.toNat
      · have xs : x = s := by omega
        subst xs
        refine ⟨fun z => by omega, ?_⟩
        have e1 := hsg x _ x0 at_s
        have e2 : showE sg (cutRes sh a b es) = showE sh (cutRes sh a b es) := showE_congr fun y hy => by
          have n := hdn x y ⟨x0, es, he, win y hy⟩
          obtain ⟨p, q⟩ := hsd.nxt ⟨x0, es, he, win y hy⟩
          exact (ih y (by omega) p q).1 n
        rw [e1, e2, hsh x es x0 he]
        unfold cutRes
        split
        · exact Nat.le_refl _
        · exact kE_show sh ab es 0 ent
      · have hx1 : rows[x.toNat]? = some rows[x.toNat] := List.getElem?_eq_getElem (by omega)
        have e1 := hsg x _ x0 (by rw [List.getElem?_set_ne (fun z => c z.symm)]; exact hx1)
        have e2 := hsh x _ x0 hx1
        have low : ∀ y ∈ winsE rows[x.toNat], rk y < rk x ∧ 0 ≤ y ∧ y < rows.length := fun y hy => by
          have n : Nxt rows x y := ⟨x0, _, hx1, hy⟩
          exact ⟨hdn x y n, hsd.nxt n⟩
        refine ⟨fun z => ?_, ?_⟩
        · rw [e1, e2]
          exact showE_congr fun y hy => (ih y (by have := (low y hy).1; omega) (low y hy).2.1 (low y hy).2.2).1 (by have := (low y hy).1; omega)
        · rw [e1, e2]
          exact showE_le _ fun y hy => (ih y (by have := (low y hy).1; omega) (low y hy).2.1 (low y hy).2.2).2
  refine ⟨sg, snd, nx, hsg, fun x x0 x1 => ?_, fun n h n0 n1 => (key (rk n + 1) n (Nat.lt_succ_self _) n0 n1).1 h⟩
  rw [List.length_set] at x1
  have := (key (rk x + 1) x (Nat.lt_succ_self _) x0 x1).2
  have := hbd x x0 x1
  omega
theorem move_eq {rows : List (List Int)} {sh sg : Int → List Int} {rk : Int → Nat} {s a b to : Int} {es : List Int} (hsd : Sound rows) (hrb : ∀ x, rk x ≤ 40) (hdn : ∀ x y, Nxt rows x y → rk y < rk x) (hsh : Shows rows sh) (h0 : 0 ≤ s) (he : rows[s.toNat]? = some es) (a0 : 0 ≤ a) (ab : a ≤ b) (bn : b ≤ (sh s).length) (R : Rest rows sh rk s a b es (rows.set s.toNat (cutRes sh a b es)) sg) (hk : (rows.set s.toNat (cutRes sh a b es))[s.toNat]? = some (cutRes sh a b es)) : putRes sg to (cutRes sh a b es) (takRes sh a b es) = moveRes sh a b to es := by
  unfold moveRes
  by_cases c : a = b
  · have e1 : takRes sh a b es = [] := by unfold takRes; rw [if_pos c]
    have e2 : cutRes sh a b es = es := by unfold cutRes; rw [if_pos c]
    rw [if_pos c, e1, e2]
    rfl
  · rw [if_neg c]
    have e1 : takRes sh a b es = tE sh a b 0 es := by unfold takRes; rw [if_neg c]
    have e2 : cutRes sh a b es = kE sh a b 0 es := by unfold cutRes; rw [if_neg c]
    have ne : tE sh a b 0 es ≠ [] := tE_ne sh (by omega) es 0 a0 (by rw [← hsh s es h0 he]; omega)
    have ag : ∀ e ∈ cutRes sh a b es, entS sg e = entS sh e := fun e hm => by
      unfold entS
      by_cases d : e < 0
      · rw [if_pos d, if_pos d]
        have n : Nxt (rows.set s.toNat (cutRes sh a b es)) s (-1 - e) := ⟨h0, _, hk, mem_winsE.mpr ⟨by omega, by rw [show -1 - (-1 - e) = e by omega]; exact hm⟩⟩
        have n' := R.nx _ _ n
        obtain ⟨p, q⟩ := hsd.nxt n'
        exact R.eq _ (hdn _ _ n') p q
      · rw [if_neg d, if_neg d]
    unfold putRes
    rw [e1, if_neg ne, aE_congr to _ 0 ag, bE_congr to _ 0 ag, e2]
def DueM (H : Hp) (v : V) (rows : List (List Int)) (sh : Int → List Int) (s p q to : Int) : Prop :=
  (Mv p q to (sh s).length → ∃ es, rows[s.toNat]? = some es ∧ ItemsAt H v (itemsOf (moveRes sh p q to es))) ∧ (¬ Mv p q to (sh s).length → v = .non)
theorem DueM.same {H H' : Hp} {v : V} {rows : List (List Int)} {sh : Int → List Int} {s p q to : Int} (s' : Same H H') (h : DueM H v rows sh s p q to) : DueM H' v rows sh s p q to := ⟨fun c => by
  obtain ⟨es, e, i⟩ := h.1 c
  exact ⟨es, e, i.same s'⟩, h.2⟩
theorem DueM.eqv {H : Hp} {u v : V} {rows : List (List Int)} {sh : Int → List Int} {s p q to : Int} (h : DueM H u rows sh s p q to) (g : DueM H v rows sh s p q to) : Eqv H 3 u v := by
  by_cases c : Mv p q to (sh s).length
  · obtain ⟨es, e, i⟩ := h.1 c
    obtain ⟨es', e', i'⟩ := g.1 c
    rw [e] at e'
    cases e'
    exact ItemsAt.eqv 0 i i'
  · rw [h.2 c, g.2 c]
    exact .inl ⟨rfl, rfl⟩
def k21T8 : TS := fun D σ H => ∃ (x0 x3 x4 : Option V) (l c : Addr) (way many p q to : Int), σ = [x0, some (.ref l), some (.int way), x3, x4, some (.int many), some (.int p), some (.int q), some (.int to), none, none, none, none, none, none] ∧ SrcOk H l c ∧ 0 ≤ p ∧ p ≤ q ∧ q ≤ many ∧ many ≤ 10000 ∧ 0 ≤ to ∧ to ≤ many - q + p ∧
  ∀ (p' q' to' : Int) (H' : Hp), (-2 ≤ p' ∧ p' ≤ many + 2) → (-2 ≤ q' ∧ q' ≤ many + 2) → (-2 ≤ to' ∧ to' ≤ many + 2) → SrcOk H' l c → (∀ a, a ≠ l → H' a = H a) → D.nx [x0, some (.ref l), some (.int way), x3, x4, some (.int many), some (.int p'), some (.int q'), some (.int to'), none, none, none, none, none, none] H'
def k21T11 : TS := fun D σ H => ∃ (x0 x1 x2 x9 : Option V) (r : Addr) (s many p q to : Int) (rows : List (List Int)) (sh : Int → List Int) (rk : Int → Nat), σ = [x0, x1, x2, some (.ref r), some (.int s), some (.int many), some (.int p), some (.int q), some (.int to), x9, some .non, none, none, none, none] ∧ EntIn H r rows sh rk ∧ 0 ≤ s ∧ s < rows.length ∧ many = (sh s).length ∧
  ∀ (v : V) (y1 y2 y3 : Option V) (H' : Hp), Same H H' → DueM H' v rows sh s p q to → D.nx [x0, x1, x2, some (.ref r), some (.int s), some (.int many), some (.int p), some (.int q), some (.int to), x9, some v, y1, y2, y3, none] H'
def k21T12 : TS := fun D σ H => ∃ (x0 x1 x2 x3 x5 x10 y1 y2 y3 : Option V) (hd : Addr) (s p q to : Int) (rows : List (List Int)) (sh : Int → List Int), σ = [x0, x1, x2, x3, some (.int s), x5, some (.int p), some (.int q), some (.int to), some (.ref hd), x10, y1, y2, y3, none] ∧ RowsIn H hd rows sh ∧ 0 ≤ s ∧ s < rows.length ∧ (-100000 < p ∧ p < 100000) ∧ (-100000 < q ∧ q < 100000) ∧ (-100000 < to ∧ to < 100000) ∧
  ∀ (v : V) (H' : Hp), Same H H' → DueM H' v rows sh s p q to → (∀ o, v = .ref o → H o = none) → D.nx [x0, x1, x2, x3, some (.int s), x5, some (.int p), some (.int q), some (.int to), some (.ref hd), x10, y1, y2, y3, some v] H'
def k21T14 : TS := fun D σ H => ∃ (x0 x1 x2 x3 x4 x5 x6 x7 x8 x9 x10 y1 y2 y3 : Option V) (v : V), σ = [x0, x1, x2, x3, x4, x5, x6, x7, x8, x9, x10, y1, y2, y3, some v] ∧ (v = .non ∨ ∃ q vs, v = .ref q ∧ H q = some (.lst vs) ∧ vs.length ≤ 100000) ∧
  ∀ H' : Hp, (∀ a o, v ≠ .ref a → H a = some o → H' a = some o) → D.nx [x0, x1, x2, x3, x4, x5, x6, x7, x8, x9, x10, y1, y2, y3, some v] H'
theorem moveRes_len {sh : Int → List Int} {p q to : Int} {es : List Int} (h : es.length ≤ 1000) (g : (showE sh es).length ≤ 10000) (nn : ∀ e ∈ es, ∀ x ∈ entS sh e, 0 ≤ x) (pq : p ≤ q) : (moveRes sh p q to es).length ≤ 100000 := by
  unfold moveRes
  split
  · omega
  · rw [List.length_append, List.length_append]
    have k := kE_len sh p q es 0
    have t := tE_len sh p q es 0
    have a := aE_len sh to (kE sh p q 0 es) 0
    have b := bE_len sh to (kE sh p q 0 es) 0
    have c := kE_show sh pq es 0 nn
    omega
abbrev slaw : Stmt := top 37
theorem sclaw : FnScope ["_law_script", "_law_src_here", "_law_way", "_law_rows", "_law_sheet", "_law_many", "_law_start", "_law_stop", "_law_to", "_law_handed", "_law_due", "_law_kept", "_law_taken", "_law_rest", "_law_told"] ["_law_script"] (defScope slaw) := ⟨rfl, rfl, rfl, by decide +kernel, rfl, by decide +kernel, by decide +kernel⟩
theorem ok_law {C : Addr} {f x0 x1 x2 x3 x4 x5 x6 x7 x8 x9 x10 x11 x12 x13 x14 x15 x16 x17 x18 x19 x20 x21 x22 x23 x24 x25 x26 x27 x28 : Addr} {fd y0 y1 y2 y3 y4 y5 y6 y7 y8 y9 y10 y11 y12 y13 y14 y15 y16 y17 y18 y19 y20 y21 y22 y23 y24 y25 y26 y27 y28 : FuncData} (F : Fun K "law" "law" slaw f fd) (T : Nms mg) (Z : ExcAt K mg C) (d_law_src : DefAt K mg "_law_src" s_law_src ["_law_script"] x0 y0)
    (d_law_next : DefAt K mg "_law_next" s_law_next ["_law_src_here", "_law_base"] x1 y1)
    (d_law_whole : DefAt K mg "_law_whole" s_law_whole ["_law_found"] x2 y2)
    (d_law_same : DefAt K mg "_law_same" s_law_same ["_law_found", "_law_due"] x3 y3)
    (dplain : DefAt K mg "plain" splain ["row"] x4 y4)
    (dsize : DefAt K mg "size" ssize ["row"] x5 y5)
    (dcheck_places : DefAt K mg "check_places" scheck_places ["row", "start", "stop"] x6 y6)
    (dpieces : DefAt K mg "pieces" spieces ["row", "start", "stop"] x7 y7)
    (dwindows : DefAt K mg "windows" swindows ["items"] x8 y8)
    (dbelow : DefAt K mg "below" sbelow ["rows", "sheets"] x9 y9)
    (ditem_row : DefAt K mg "item_row" sitem_row ["item", "views"] x10 y10)
    (dviews_below : DefAt K mg "views_below" sviews_below ["rows", "sheets"] x11 y11)
    (dgoes_on : DefAt K mg "goes_on" sgoes_on ["one", "other"] x12 y12)
    (dplain_items : DefAt K mg "plain_items" splain_items ["items"] x13 y13)
    (d_law_items_of : DefAt K mg "_law_items_of" s_law_items_of ["_law_entries"] x14 y14)
    (d_law_copied : DefAt K mg "_law_copied" s_law_copied ["_law_rows"] x15 y15)
    (d_law_order : DefAt K mg "_law_order" s_law_order ["_law_src_here", "_law_many"] x16 y16)
    (d_law_entries_by : DefAt K mg "_law_entries_by" s_law_entries_by ["_law_src_here", "_law_lower", "_law_most"] x17 y17)
    (d_law_sheets_by : DefAt K mg "_law_sheets_by" s_law_sheets_by ["_law_src_here"] x18 y18)
    (d_law_show : DefAt K mg "_law_show" s_law_show ["_law_rows", "_law_sheet"] x19 y19)
    (dinked : DefAt K mg "inked" sinked ["row"] x20 y20)
    (ddealt : DefAt K mg "dealt" sdealt ["items", "views"] x21 y21)
    (dput_among : DefAt K mg "put_among" sput_among ["items", "views", "place", "others"] x22 y22)
    (dparted : DefAt K mg "parted" sparted ["items", "views", "start", "stop"] x23 y23)
    (dmoved_items : DefAt K mg "moved_items" smoved_items ["rows", "sheet", "start", "stop", "to"] x24 y24)
    (d_law_pieces : DefAt K mg "_law_pieces" s_law_pieces ["_law_rows", "_law_entry"] x25 y25)
    (d_law_put : DefAt K mg "_law_put" s_law_put ["_law_rows", "_law_sheet", "_law_place", "_law_new"] x26 y26)
    (d_law_cut : DefAt K mg "_law_cut" s_law_cut ["_law_rows", "_law_sheet", "_law_start", "_law_stop"] x27 y27)
    (d_law_move_or_none : DefAt K mg "_law_move_or_none" s_law_move_or_none ["_law_rows", "_law_sheet", "_law_start", "_law_stop", "_law_to"] x28 y28) : FnOk P w K mg base CX0 45 f fd ["_law_script"] (spLaw K) := by
  have g_law_src : FnOk P w K mg base CX0 1 _ _ ["_law_script"] (spSrc K) := ok_law_src d_law_src.F T
  have g_law_next : FnOk P w K mg base CX0 1 _ _ ["_law_src_here", "_law_base"] spNext := ok_law_next d_law_next.F T
  have g_law_same : FnOk P w K mg base CX0 4 _ _ ["_law_found", "_law_due"] (spSame 3) := ok_law_same T d_law_whole d_law_same 3
  have g_law_items_of : FnOk P w K mg base CX0 1 _ _ ["_law_entries"] spItems := ok_law_items_of d_law_items_of.F T
  have g_law_copied : FnOk P w K mg base CX0 2 _ _ ["_law_rows"] spCopied := ok_law_copied d_law_copied.F T d_law_items_of
  have g_law_show : FnOk P w K mg base CX0 42 _ _ ["_law_rows", "_law_sheet"] (spShow 41) := ok_law_show T d_law_show 41
  have g_law_sheets_by : FnOk P w K mg base CX0 3 _ _ ["_law_src_here"] spSheetsBy := ok_law_sheets_by d_law_sheets_by.F T d_law_next d_law_order d_law_entries_by
  have g_law_cut : FnOk P w K mg base CX0 43 _ _ ["_law_rows", "_law_sheet", "_law_start", "_law_stop"] (spLCut 40) := ok_law_cut d_law_cut.F T d_law_show d_law_pieces
  have g_law_put : FnOk P w K mg base CX0 43 _ _ ["_law_rows", "_law_sheet", "_law_place", "_law_new"] (spLPut 40) := ok_law_put d_law_put.F T d_law_show d_law_pieces
  have gmoved_items : FnOk P w K mg base (CX1 P w) 4 _ _ ["rows", "sheet", "start", "stop", "to"] (spMovedItems C) := ok_moved_items dmoved_items.F T Z dwindows dbelow ditem_row dplain dviews_below dsize dcheck_places dgoes_on dplain_items ddealt dpieces dinked dparted dput_among
  have g_law_move_or_none : FnOk P w K mg base CX0 5 _ _ ["_law_rows", "_law_sheet", "_law_start", "_law_stop", "_law_to"] spMovItN := ok_law_move_or_none d_law_move_or_none.F Z dmoved_items gmoved_items
  refine F.ok sclaw (fun vs H Q E h => ?_) (fun cdv A outer s H vs Q E hr h => ?_)
  · obtain ⟨a, ns, rfl, _⟩ := h
    rfl
  obtain ⟨a, ns, rfl, hS, h63, k⟩ := h
  have hu := hu_of hr
  have hu4 : (A.deeper (PyProof.Rows.envOfC "law" (defScope slaw) s.heap.objs.size f cdv)).units + 4 < cLine := by have z := hr.units; omega
  refine ⟨_, (pss_cons (ps_set (i := 1) sclaw.nd rfl (Or.inl rfl) (pe_def d_law_src g_law_src hr (pa_cons (pv 0) pa_nil)))
      (pss_cons (ps_set (i := 2) sclaw.nd rfl (Or.inl rfl) (pe_def d_law_next g_law_next hr (pa_cons (pv 1) (pa_cons pe_int pa_nil))))
      (pss_cons (ps_set (i := 3) sclaw.nd rfl (Or.inl rfl) (pe_def d_law_sheets_by g_law_sheets_by hr (pa_cons (pv 1) pa_nil)))
      (pss_cons (ps_set (i := 4) sclaw.nd rfl (Or.inl rfl) (pe_def d_law_next g_law_next hr (pa_cons (pv 1) (pa_cons (pe_callB call_len_seq rfl T.n_len PySem.boot_len (pa_cons (pv 3) pa_nil)) pa_nil))))
      (pss_cons (ps_set (i := 5) sclaw.nd rfl (Or.inl rfl) (pe_callB call_len_seq rfl T.n_len PySem.boot_len (pa_cons (pe_def d_law_show g_law_show hr (pa_cons (pv 3) (pa_cons (pv 4) pa_nil))) pa_nil)))
      (pss_cons (ps_set (i := 6) sclaw.nd rfl (Or.inl rfl) (pe_def d_law_next g_law_next hr (pa_cons (pv 1) (pa_cons (pe_op op_add (pv 5) pe_int) pa_nil))))
      (pss_cons (ps_set (i := 7) sclaw.nd rfl (Or.inl rfl) (pe_op op_add (pv 6) (pe_def d_law_next g_law_next hr (pa_cons (pv 1) (pa_cons (pe_op op_add (pe_op op_sub (pv 5) (pv 6)) pe_int) pa_nil)))))
      (pss_cons (ps_set (i := 8) sclaw.nd rfl (Or.inl rfl) (pe_def d_law_next g_law_next hr (pa_cons (pv 1) (pa_cons (pe_op op_add (pe_op op_add (pe_op op_sub (pv 5) (pv 7)) (pv 6)) pe_int) pa_nil))))
      (pss_cons (ps_imp (t' := k21T8) (ps_if (PW.pt (pw_and (pt_cmpR op_eq (pv 2) pe_int (nomark _)) (pw_and1 (pt_cmpR op_eq (pe_def d_law_next g_law_next hr (pa_cons (pv 1) (pa_cons pe_int pa_nil))) pe_int (nomark _)))))
      (pss_one (ps_set (i := 8) sclaw.nd rfl (Or.inl rfl) (pe_op op_add (pe_op op_add (pe_op op_add (pe_op op_sub (pv 5) (pv 7)) (pv 6)) pe_int) (pe_def d_law_next g_law_next hr (pa_cons (pv 1) (pa_cons pe_int pa_nil))))))
      (pss_one (ps_if (pt_cmpR op_eq (pv 2) pe_int (nomark _))
      (pss_cons (ps_set (i := 6) sclaw.nd rfl (Or.inl rfl) (pe_op op_sub (pe_def d_law_next g_law_next hr (pa_cons (pv 1) (pa_cons (pe_op op_add (pv 5) pe_int) pa_nil))) pe_int))
      (pss_cons (ps_set (i := 7) sclaw.nd rfl (Or.inl rfl) (pe_op op_sub (pe_def d_law_next g_law_next hr (pa_cons (pv 1) (pa_cons (pe_op op_add (pv 5) pe_int) pa_nil))) pe_int))
      (pss_one (ps_set (i := 8) sclaw.nd rfl (Or.inl rfl) (pe_op op_sub (pe_def d_law_next g_law_next hr (pa_cons (pv 1) (pa_cons (pe_op op_add (pv 5) pe_int) pa_nil))) pe_int)))))
      pss_nil))) ?b8)
      (pss_cons (ps_set (i := 9) sclaw.nd rfl (Or.inl rfl) (pe_def d_law_copied g_law_copied hr (pa_cons (pv 3) pa_nil)))
      (pss_cons (ps_set (i := 10) sclaw.nd rfl (Or.inl rfl) pe_non)
      (pss_cons (ps_imp (t' := k21T11) (ps_if (PW.pt (pw_and (pt_cmpR op_le pe_int (pv 6) (nomark _)) (pw_and (pt_cmpR op_le (pv 6) (pv 7) (nomark _)) (pw_and (pt_cmpR op_le (pv 7) (pv 5) (nomark _)) (pw_and (pt_cmpR op_le pe_int (pv 8) (nomark _)) (pw_and1 (pt_cmpR op_le (pv 8) (pe_op op_add (pe_op op_sub (pv 5) (pv 7)) (pv 6)) (nomark _))))))))
      (pss_cons (ps_asg (pe_def d_law_cut g_law_cut hr (pa_cons (pv 3) (pa_cons (pv 4) (pa_cons (pv 6) (pa_cons (pv 7) pa_nil))))) (pg_tup (n := 2) rfl (pgs_cons (pg_name (i := 11) sclaw.nd rfl (Or.inl rfl)) (pgs_cons (pg_name (i := 12) sclaw.nd rfl (Or.inl rfl)) pgs_nil))))
      (pss_cons (ps_setG (N := ["_law_row"]) (i := 13) (compG (sc := defScope slaw) (NX := ["_law_script", "_law_src_here", "_law_way", "_law_rows", "_law_sheet", "_law_many", "_law_start", "_law_stop", "_law_to", "_law_handed", "_law_due", "_law_kept", "_law_taken", "_law_rest", "_law_told"]) (jx := [none]) rfl rfl rfl (by decide +kernel) (by decide +kernel) rfl (by decide +kernel) rfl (by decide +kernel)) rfl sclaw.nd rfl rfl (pi_list (pv 3)) (fun _ _ _ _ _ _ => (pg_name (i := 0) (show List.Nodup (["_law_row"] : List Str) by decide +kernel) rfl (Or.inl rfl))) (fun _ _ _ _ _ _ => pts_nil) (fun _ _ _ _ _ _ => (pe_callTy callF_list rfl T.n_list PyProof.Rows.boot_list (pa_cons (pv 0) pa_nil))))
      (pss_cons (ps_asg (pv 11) (pg_sub (pv 13) (pv 4) set_list))
      (pss_one (ps_set (i := 10) sclaw.nd rfl (Or.inl rfl) (pe_def d_law_items_of g_law_items_of hr (pa_cons (pe_def d_law_put g_law_put hr (pa_cons (pv 13) (pa_cons (pv 4) (pa_cons (pv 8) (pa_cons (pv 12) pa_nil))))) pa_nil)))))))
      pss_nil) ?b11)
      (pss_cons (ps_imp (t' := k21T12) (ps_set (i := 14) sclaw.nd rfl (Or.inl rfl) (pe_def d_law_move_or_none g_law_move_or_none hr (pa_cons (pv 9) (pa_cons (pv 4) (pa_cons (pv 6) (pa_cons (pv 7) (pa_cons (pv 8) pa_nil))))))) ?b12)
      (pss_cons (ps_if (pt_not (pt_val (pe_def d_law_same g_law_same hr (pa_cons (pv 14) (pa_cons (pv 10) pa_nil)))))
      (pss_one (ps_ret pe_bl))
      pss_nil)
      (pss_cons (ps_imp (t' := k21T14) (ps_if (pt_cmp (pc_notN (pv 14)))
      (pss_one (ps_expr (pe_bm PySem.F.plainAttrs_list PySem.F.slot_list_append PySem.F.type_list_append mt_append (pv 14) (pa_cons (pe_tup (pa_cons pe_str (pa_cons pe_int pa_nil))) pa_nil))))
      pss_nil) ?b14)
      (pss_one (ps_ret (pe_cmpR (op_eqE 4 hu4) (pv 9) (pe_def d_law_copied g_law_copied hr (pa_cons (pv 3) pa_nil)) (nomark _))))))))))))))))))), ?_⟩
  case b8 =>
    rintro D σ H ⟨x0, x3, x4, l, c, way, many, p, q, to, rfl, S, p0, pq, qm, ml, t0, t1, k⟩
    have pr : -2 ≤ p ∧ p ≤ many + 2 := ⟨by omega, by omega⟩
    have qr : -2 ≤ q ∧ q ≤ many + 2 := ⟨by omega, by omega⟩
    have rr : ∀ v : Int, 0 ≤ v → v < many + 5 → -2 ≤ v - 2 ∧ v - 2 ≤ many + 2 := fun v a b => ⟨by omega, by omega⟩
    have m5 : 0 < many + 5 := by omega
    have m6 : many + 5 < 10 ^ 70 := by omega
    have no : ∀ H' : Hp, SrcOk H' l c → (∀ a, a ≠ l → H' a = H a) → D.nx [x0, some (.ref l), some (.int way), x3, x4, some (.int many), some (.int p), some (.int q), some (.int to), none, none, none, none, none, none] H' := fun H' S' k' => k p q to H' pr qr ⟨by omega, by omega⟩ S' k'
    have elif : ∀ H0 : Hp, SrcOk H0 l c → (∀ a, a ≠ l → H0 a = H a) → ∀ (v1 v2 v3 : Int) (H3 : Hp), 0 ≤ v1 → v1 < many + 5 → 0 ≤ v2 → v2 < many + 5 → 0 ≤ v3 → v3 < many + 5 → SrcOk H3 l c → (∀ a, a ≠ l → H3 a = H0 a) → D.nx [x0, some (.ref l), some (.int way), x3, x4, some (.int many), some (.int (v1 - 2)), some (.int (v2 - 2)), some (.int (v3 - 2)), none, none, none, none, none, none] H3 := fun H0 S0 k0 v1 v2 v3 H3 a1 a2 b1 b2 c1 c2 S3 k3 => k (v1 - 2) (v2 - 2) (v3 - 2) H3 (rr v1 a1 a2) (rr v2 b1 b2) (rr v3 c1 c2) S3 fun a n => (k3 a n).trans (k0 a n)
    refine ⟨_, rfl, rfl, _, rfl, ite2 (fun c1 => ?_) (fun c1 => iteF ?_)⟩
    · refine ⟨_, rfl, l, c, _, rfl, S, by decide, by decide, fun v H1 v0 v1 S1 k1 => ⟨rfl, _, rfl, ite2 (fun c2 => ?_) (fun c2 => ?_)⟩⟩
      · refine ⟨_, rfl, _, rfl, _, _, rfl, rfl, _, rfl, _, _, rfl, rfl, _, _, rfl, rfl, _, rfl, l, c, _, rfl, S1, by decide, by decide, fun w H2 w0 w1 S2 k2 => ⟨_, _, rfl, rfl, ?_⟩⟩
        exact k p q _ H2 pr qr ⟨by omega, by omega⟩ S2 fun a n => (k2 a n).trans (k1 a n)
      · refine ⟨_, rfl, rfl, _, rfl, ite2 (fun c3 => ?_) (fun c3 => no H1 S1 k1)⟩
        refine ⟨_, rfl, _, rfl, _, _, rfl, rfl, l, c, _, rfl, S1, m5, m6, fun w1 H2 w10 w11 S2 k2 => ⟨_, _, rfl, rfl, ?_⟩⟩
        refine ⟨_, rfl, _, rfl, _, _, rfl, rfl, l, c, _, rfl, S2, m5, m6, fun w2 H3 w20 w21 S3 k3 => ⟨_, _, rfl, rfl, ?_⟩⟩
        refine ⟨_, rfl, _, rfl, _, _, rfl, rfl, l, c, _, rfl, S3, m5, m6, fun w3 H4 w30 w31 S4 k4 => ⟨_, _, rfl, rfl, ?_⟩⟩
        exact elif H1 S1 k1 w1 w2 w3 H4 w10 w11 w20 w21 w30 w31 S4 fun a n => (k4 a n).trans ((k3 a n).trans (k2 a n))
    · refine ⟨_, rfl, rfl, _, rfl, ite2 (fun c3 => ?_) (fun c3 => no H S fun _ _ => rfl)⟩
      exact absurd c3 c1
  case b11 =>
    rintro D σ H ⟨x0, x1, x2, x9, r, s, many, p, q, to, rows, sh, rk, rfl, G, s0, s1, me, k⟩
    obtain ⟨av, R⟩ := G.at_
    have no : ¬ Mv p q to (sh s).length → D.nx [x0, x1, x2, some (.ref r), some (.int s), some (.int many), some (.int p), some (.int q), some (.int to), x9, some .non, none, none, none, none] H := fun c => k .non none none none H (Same.refl H) ⟨fun z => absurd z c, fun _ => rfl⟩
    refine ⟨_, rfl, _, _, rfl, rfl, _, rfl, ite2 (fun c1 => ?_) (fun c1 => iteF (no fun z => c1 (decide_eq_true z.1.1)))⟩
    refine ⟨_, rfl, _, rfl, _, _, rfl, rfl, _, rfl, ite2 (fun c2 => ?_) (fun c2 => iteF (no fun z => c2 (decide_eq_true z.1.2.1)))⟩
    refine ⟨_, rfl, _, rfl, _, _, rfl, rfl, _, rfl, ite2 (fun c3 => ?_) (fun c3 => iteF (no fun z => c3 (decide_eq_true (by rw [me]; exact z.1.2.2))))⟩
    refine ⟨_, rfl, _, _, rfl, rfl, _, rfl, ite2 (fun c4 => ?_) (fun c4 => iteF (no fun z => c4 (decide_eq_true z.2.1)))⟩
    refine ⟨_, rfl, _, rfl, _, rfl, _, _, rfl, rfl, _, rfl, _, _, rfl, rfl, _, _, rfl, rfl, _, rfl, ite2 (fun c5 => ?_) (fun c5 => no fun z => c5 (decide_eq_true (by rw [me]; have := z.2.2; omega)))⟩
    have d5 : to ≤ many - q + p := of_decide_eq_true c5
    have d3 : q ≤ many := of_decide_eq_true c3
    have c : Mv p q to (sh s).length := ⟨⟨of_decide_eq_true c1, of_decide_eq_true c2, by rw [← me]; exact d3⟩, of_decide_eq_true c4, by rw [← me]; omega⟩
    refine ⟨_, rfl, _, rfl, _, rfl, _, rfl, av, r, rows, s, p, q, sh, rk, rfl, R, G.len, G.ents, G.snd, G.shw, G.bd, G.dn, s0, s1, G.rb s, c.1.2.1, fun es t L M H1 he ht hL hM sm1 hL0 hM0 nLM => ?_⟩
    have esl := G.ents es (List.mem_of_getElem? he)
    have shl := G.bd s s0 s1
    rw [G.shw s es s0 he] at shl
    have cl := cutRes_len sh p q es
    have tl := takRes_len sh p q es
    refine ⟨t, _, rfl, SqT.of ht, rfl, _, _, rfl, _, _, rfl, rfl, ?_⟩
    obtain ⟨rvs, hr1, hrall⟩ := R.same sm1
    refine ⟨_, rfl, r, rfl, ⟨_, SqL.of hr1⟩, fun acc hacc => compF_list (K := K) (a := r) (xs := rvs) (fun i σ H2 => ∃ (u : Option V) (vs : List V), σ = [u] ∧ H2 acc = some (.lst vs) ∧ All2 (EntsAt (fun a => a = acc) H2) vs (rows.take i) ∧ Same H1 H2) ⟨none, [], rfl, upd_same, .nil, same_new hacc _⟩ (fun i σ H2 _ ⟨_, _, _, _, _, s2⟩ => SqL.of (s2 _ _ hr1)) ?_ ?_⟩
    · rintro i v σ H2 hi ⟨u, vs, rfl, h2, t2, s2⟩
      obtain ⟨er, eer, b, rfl, _, hb⟩ := hrall.get hi
      have vl := t2.len
      rw [List.length_take] at vl
      have gl := G.len
      unfold gName tYes
      refine iteT ⟨_, rfl, b, _, rfl, .inl (SqL.of (s2 _ _ hb)), fun o ho => ?_⟩
      have h3 := same_new ho (.lst (er.map V.int)) _ _ h2
      refine ⟨vs, h3, million (by omega), _, _, rfl, upd_same, ?_, keep_of hacc (s2.trans (same_new ho _)) (keep_upd acc _ _)⟩
      rw [take_snoc eer]
      have noa : o ≠ acc := (ne_of_none h2 ho).symm
      refine All2.snoc (t2.mono fun v er' h => (h.new _ ho).at _ rfl) ⟨o, rfl, noa, ?_⟩
      rw [upd_ne noa, upd_same]
    · rintro σ H2 ⟨u, vs, rfl, h2, t2, s2⟩
      rw [hrall.len, List.take_length] at t2
      have vl := t2.len
      have nLa : L ≠ acc := ne_of_none hL hacc
      have hL2 := s2 _ _ hL
      have hM2 := s2 _ _ hM
      refine ⟨_, rfl, _, rfl, _, rfl, acc, vs, s, s.toNat, rfl, rfl, h2, (by unfold ixN; rw [if_pos s0, if_pos (by omega)]), ?_⟩
      have R3 : RowsAt (fun a => a = acc) (upd H2 acc (.lst (vs.set s.toNat (.ref L)))) acc (rows.set s.toNat (cutRes sh p q es)) := by
        refine ⟨_, upd_same, All2.set _ (t2.mono fun v er' h => h.at _ rfl) ⟨L, rfl, nLa, ?_⟩⟩
        rw [upd_ne nLa]
        exact hL2
      have nMa : M ≠ acc := ne_of_none hM hacc
      have hM3 : (upd H2 acc (.lst (vs.set s.toNat (.ref L)))) M = some (.lst ((takRes sh p q es).map V.int)) := by rw [upd_ne nMa]; exact hM2
      have sm3 : Same H (upd H2 acc (.lst (vs.set s.toNat (.ref L)))) := fun a o e => by
        rw [upd_ne (ne_of_none (sm1 _ _ e) hacc)]
        exact s2 _ _ (sm1 _ _ e)
      obtain ⟨sg, RR⟩ := cut_rest (a := p) (b := q) G.snd G.rb G.dn G.shw G.bd s0 s1 he c.1.2.1
      have at_s : (rows.set s.toNat (cutRes sh p q es))[s.toNat]? = some (cutRes sh p q es) := by
        rw [List.getElem?_set, if_pos rfl, if_pos (by omega)]
      have entb : ∀ es' ∈ rows.set s.toNat (cutRes sh p q es), es'.length ≤ 25000 := fun es' hm => by
        rcases List.mem_or_eq_of_mem_set hm with z | z
        · exact Nat.le_trans (G.ents es' z) (by decide)
        · rw [z]; omega
      refine ⟨_, rfl, _, rfl, _, rfl, _, rfl, _, acc, M, rows.set s.toNat (cutRes sh p q es), s, to, takRes sh p q es, sg, rk, rfl, R3, (by rw [List.length_set]; exact G.len), entb, RR.snd, RR.shw, RR.bd, (fun x y h => G.dn x y (RR.nx x y h)), s0, (by rw [List.length_set]; exact s1), G.rb s, hM3, by omega, fun es' o H4 he' h4 l4 sm4 ho => ?_⟩
      rw [at_s] at he'
      cases he'
      rw [move_eq G.snd G.rb G.dn G.shw s0 he c.1.1 c.1.2.1 c.1.2.2 RR at_s] at h4 l4
      refine ⟨o, _, rfl, h4, l4, fun o2 H5 I5 sm5 ho2 => ?_⟩
      exact k (.ref o2) _ _ _ H5 (sm3.trans (sm4.trans sm5)) ⟨fun _ => ⟨es, he, I5⟩, fun z => absurd c z⟩
  case b12 =>
    rintro D σ H ⟨x0, x1, x2, x3, x5, x10, y1, y2, y3, hd, s, p, q, to, rows, sh, rfl, R, s0, s1, fp, fq, ft, k⟩
    refine ⟨_, rfl, _, rfl, _, rfl, _, rfl, _, rfl, hd, rows, s, p, q, to, sh, rfl, R, s0, s1, fp, fq, ft, fun c es o H1 he I1 sm1 ho => ?_, fun c H1 sm1 => ?_⟩
    · exact k (.ref o) H1 sm1 ⟨fun _ => ⟨es, he, I1⟩, fun z => absurd c z⟩ fun o' e => by cases e; exact ho
    · exact k .non H1 sm1 ⟨fun z => absurd z c, fun _ => rfl⟩ fun o' e => by cases e
  case b14 =>
    rintro D σ H ⟨x0, x1, x2, x3, x4, x5, x6, x7, x8, x9, x10, y1, y2, y3, v, rfl, hv, k⟩
    rcases hv with rfl | ⟨q, vs, rfl, hq, vl⟩
    · exact ⟨_, rfl, _, rfl, iteF (k H fun _ _ _ e => e)⟩
    · refine ⟨_, rfl, _, rfl, iteT ?_⟩
      refine ⟨_, rfl, .inl ⟨rfl, _, SqL.of hq⟩, (by show 2 ≤ sizeLine; decide), fun t ht => ⟨q, _, _, rfl, rfl, same_new ht _ _ _ hq, million (by omega), k _ fun a o n e => ?_⟩⟩
      rw [upd_ne (fun z => n (by rw [z]))]
      exact same_new ht _ _ _ e
  refine ⟨_, rfl, a, ns, rfl, hS, fun l c H1 S1 s1 _ _ => ?_⟩
  refine ⟨_, rfl, l, c, 4, rfl, S1, by decide, by decide, fun w H2 w0 w1 S2 k2 => ?_⟩
  refine ⟨_, rfl, l, c, rfl, S2, fun r rows H3 R3 nrl hp hlen hes hsd hrk hlm S3 => ?_⟩
  obtain ⟨sh, hsh⟩ := shows_ex hrk
  have hbd := lims_bd hlm hsd hsh
  obtain ⟨rk, hrkb, hrkd⟩ := id hrk
  obtain ⟨vs3, hr3, t3⟩ := id R3
  have tl3 := t3.len
  refine ⟨_, rfl, _, rfl, r, _, rfl, .inl (SqL.of hr3), l, c, _, rfl, S3, by omega, by omega, fun x H4 x0 x1 S4 k4 => ?_⟩
  have R4 := R3.off nrl (off_keep k4)
  have x1' : x < rows.length := by omega
  have shl := hbd x x0 x1'
  refine ⟨_, rfl, _, rfl, _, r, rows, x, sh, rk, rfl, R4, hlen, hsd, x0, x1', hsh, hbd, hrkd, (by have := hrkb x; omega), fun o1 H5 h5 s5 _ => ?_⟩
  refine ⟨o1, _, rfl, .inl (SqL.of h5), ?_⟩
  rw [List.length_map]
  refine ⟨_, rfl, _, rfl, _, _, rfl, rfl, l, c, _, rfl, S4.same s5, by omega, by omega, fun p0 H6 p00 p01 S6 k6 => ?_⟩
  have R6 := (R4.same s5).off nrl (off_keep k6)
  refine ⟨_, rfl, _, rfl, _, rfl, _, rfl, _, _, rfl, rfl, _, _, rfl, rfl, l, c, _, rfl, S6, by omega, by omega, fun q0 H7 q00 q01 S7 k7 => ⟨_, _, rfl, rfl, ?_⟩⟩
  have R7 := R6.off nrl (off_keep k7)
  refine ⟨_, rfl, _, rfl, _, rfl, _, _, rfl, rfl, _, rfl, _, _, rfl, rfl, _, _, rfl, rfl, l, c, _, rfl, S7, by omega, by omega, fun t0 H8 t00 t01 S8 k8 => ?_⟩
  have R8 := R7.off nrl (off_keep k8)
  refine ⟨_, _, _, l, c, _, _, p0, p0 + q0, t0, rfl, S8, p00, by omega, by omega, by omega, t00, by omega, fun p q to H9 pb qb tb S9 k9 => ?_⟩
  have R9 := R8.off nrl (off_keep k9)
  refine ⟨_, rfl, _, r, rows, rfl, R9, hlen, hes, fun hd H10 D10 s10 hd0 => ?_⟩
  have E10 : EntIn H10 r rows sh rk := ⟨⟨_, R9.same s10⟩, hlen, hes, hsd, hsh, hbd, hrkb, hrkd⟩
  refine ⟨_, _, _, _, r, x, _, p, q, to, rows, sh, rk, rfl, E10, x0, x1', rfl, fun dv y1 y2 y3 H11 s11 due => ?_⟩
  have D11 : RowsIn H11 hd rows sh := ⟨D10.same s11, hlen, hes, hsd, hrk, hsh, hbd⟩
  refine ⟨_, _, _, _, _, _, _, _, _, hd, x, p, q, to, rows, sh, rfl, D11, x0, x1', ⟨by omega, by omega⟩, ⟨by omega, by omega⟩, ⟨by omega, by omega⟩, fun tv H12 s12 told fresh => ?_⟩
  refine ⟨_, rfl, _, rfl, _, _, rfl, told.eqv (due.same s12), fun H13 s13 => ⟨_, rfl, iteF ?_⟩⟩
  have told13 := told.same s13
  have tvk : tv = .non ∨ ∃ q vs, tv = .ref q ∧ H13 q = some (.lst vs) ∧ vs.length ≤ 100000 := by
    by_cases cc : Mv p q to (sh x).length
    · obtain ⟨es, he, ⟨q', vs, e, hq, t⟩⟩ := told13.1 cc
      refine .inr ⟨q', vs, e, hq, ?_⟩
      rw [t.len]
      have z := items_len (moveRes sh p q to es) []
      simp only [List.length_nil] at z
      have esl := hes es (List.mem_of_getElem? he)
      have hnn := shows_nn hsd hrk hsh
      have cl := moveRes_len (sh := sh) (p := p) (q := q) (to := to) esl (by rw [← hsh x es x0 he]; exact shl) (fun e hm y hy => by
        unfold entS at hy
        by_cases c : e < 0
        · rw [if_pos c] at hy
          have nx : Nxt rows x (-1 - e) := ⟨x0, es, he, mem_winsE.mpr ⟨by omega, by rw [show -1 - (-1 - e) = e by omega]; exact hm⟩⟩
          obtain ⟨p, q⟩ := hsd.nxt nx
          exact hnn _ p q y hy
        · rw [if_neg c] at hy
          rw [List.mem_singleton.mp hy]
          omega) cc.1.2.1
      show ((moveRes sh p q to es).foldl itemsStep []).length ≤ _
      omega
    · exact .inl (told13.2 cc)
  refine ⟨_, _, _, _, _, _, _, _, _, _, _, _, _, _, tv, rfl, tvk, fun H14 k14 => ?_⟩
  have s1114 : Same H11 H14 := fun a o e => k14 a o (fun z => by rw [fresh a z] at e; cases e) (s13 _ _ (s12 _ _ e))
  have R14 := R9.same (s10.trans (s11.trans s1114))
  refine ⟨_, rfl, _, rfl, _, r, rows, rfl, R14, hlen, hes, fun o H15 D15 s15 _ => ⟨hd, o, rfl, rfl, SheetsAt.eqv 0 (((D10.same s11).same s1114).same s15) D15, k _⟩⟩
end

end Ink
namespace Ink
open PySem L2 InkX InkE InkF InkP
theorem all_mk {l : PySem.W.OpenLaw} {w : World} {K : PySem.W.Frag} {h : Heap} {mg : Str → Option Value} {fa : Addr} (X : K.In h) (G : h.Ns mainGlobals mg) (hfa : mg "law" = some (.ref fa))
    {f0 f1 f2 f3 f4 f5 f6 f7 f8 f9 f10 f11 f12 f13 f14 f15 f16 f17 f18 f19 f20 f21 f22 f23 f24 f25 f26 f27 f28 f29 : Addr} {od0 an0 od1 an1 od2 an2 od3 an3 od4 an4 od5 an5 od6 an6 od7 an7 od8 an8 od9 an9 od10 an10 od11 an11 od12 an12 od13 an13 od14 an14 od15 an15 od16 an16 od17 an17 od18 an18 od19 an19 od20 an20 od21 an21 od22 an22 od23 an23 od24 an24 od25 an25 od26 an26 od27 an27 od28 an28 od29 an29 : Option Addr} {sl0 sl1 sl2 sl3 sl4 sl5 sl6 sl7 sl8 sl9 sl10 sl11 sl12 sl13 sl14 sl15 sl16 sl17 sl18 sl19 sl20 sl21 sl22 sl23 sl24 sl25 sl26 sl27 sl28 sl29 : Array (Option Value)} {oc0 kV0 dc0 pm0 cd0 ct0 oc1 kV1 dc1 pm1 cd1 ct1 oc2 kV2 dc2 pm2 cd2 ct2 oc3 kV3 dc3 pm3 cd3 ct3 oc4 kV4 dc4 pm4 cd4 ct4 oc5 kV5 dc5 pm5 cd5 ct5 oc6 kV6 dc6 pm6 cd6 ct6 oc7 kV7 dc7 pm7 cd7 ct7 oc8 kV8 dc8 pm8 cd8 ct8 oc9 kV9 dc9 pm9 cd9 ct9 oc10 kV10 dc10 pm10 cd10 ct10 oc11 kV11 dc11 pm11 cd11 ct11 oc12 kV12 dc12 pm12 cd12 ct12 oc13 kV13 dc13 pm13 cd13 ct13 oc14 kV14 dc14 pm14 cd14 ct14 oc15 kV15 dc15 pm15 cd15 ct15 oc16 kV16 dc16 pm16 cd16 ct16 oc17 kV17 dc17 pm17 cd17 ct17 oc18 kV18 dc18 pm18 cd18 ct18 oc19 kV19 dc19 pm19 cd19 ct19 oc20 kV20 dc20 pm20 cd20 ct20 oc21 kV21 dc21 pm21 cd21 ct21 oc22 kV22 dc22 pm22 cd22 ct22 oc23 kV23 dc23 pm23 cd23 ct23 oc24 kV24 dc24 pm24 cd24 ct24 oc25 kV25 dc25 pm25 cd25 ct25 oc26 kV26 dc26 pm26 cd26 ct26 oc27 kV27 dc27 pm27 cd27 ct27 oc28 kV28 dc28 pm28 cd28 ct28 oc29 kV29 dc29 pm29 cd29 ct29 : Value} {C0 : Addr}
    (a0 : PySem.W.nsIn K mainGlobals "_law_src" = some (some (.ref f0))) (l0 : K.lookup f0 = some ⟨oc0, od0, .func (PySem.W.fnOf "_law_src" "_law_src" (defArgs s_law_src) (defBody s_law_src) (defScope s_law_src) .none kV0 dc0 pm0 an0 cd0 ct0), sl0⟩) (c0 : PySem.W.codeIn K cd0 "_law_src" = true) (k0 : PySem.W.keepIn K (.ref f0) = true)
    (a1 : PySem.W.nsIn K mainGlobals "_law_next" = some (some (.ref f1))) (l1 : K.lookup f1 = some ⟨oc1, od1, .func (PySem.W.fnOf "_law_next" "_law_next" (defArgs s_law_next) (defBody s_law_next) (defScope s_law_next) .none kV1 dc1 pm1 an1 cd1 ct1), sl1⟩) (c1 : PySem.W.codeIn K cd1 "_law_next" = true) (k1 : PySem.W.keepIn K (.ref f1) = true)
    (a2 : PySem.W.nsIn K mainGlobals "_law_whole" = some (some (.ref f2))) (l2 : K.lookup f2 = some ⟨oc2, od2, .func (PySem.W.fnOf "_law_whole" "_law_whole" (defArgs s_law_whole) (defBody s_law_whole) (defScope s_law_whole) .none kV2 dc2 pm2 an2 cd2 ct2), sl2⟩) (c2 : PySem.W.codeIn K cd2 "_law_whole" = true) (k2 : PySem.W.keepIn K (.ref f2) = true)
    (a3 : PySem.W.nsIn K mainGlobals "_law_same" = some (some (.ref f3))) (l3 : K.lookup f3 = some ⟨oc3, od3, .func (PySem.W.fnOf "_law_same" "_law_same" (defArgs s_law_same) (defBody s_law_same) (defScope s_law_same) .none kV3 dc3 pm3 an3 cd3 ct3), sl3⟩) (c3 : PySem.W.codeIn K cd3 "_law_same" = true) (k3 : PySem.W.keepIn K (.ref f3) = true)
    (a4 : PySem.W.nsIn K mainGlobals "plain" = some (some (.ref f4))) (l4 : K.lookup f4 = some ⟨oc4, od4, .func (PySem.W.fnOf "plain" "plain" (defArgs splain) (defBody splain) (defScope splain) .none kV4 dc4 pm4 an4 cd4 ct4), sl4⟩) (c4 : PySem.W.codeIn K cd4 "plain" = true) (k4 : PySem.W.keepIn K (.ref f4) = true)
    (a5 : PySem.W.nsIn K mainGlobals "size" = some (some (.ref f5))) (l5 : K.lookup f5 = some ⟨oc5, od5, .func (PySem.W.fnOf "size" "size" (defArgs ssize) (defBody ssize) (defScope ssize) .none kV5 dc5 pm5 an5 cd5 ct5), sl5⟩) (c5 : PySem.W.codeIn K cd5 "size" = true) (k5 : PySem.W.keepIn K (.ref f5) = true)
    (a6 : PySem.W.nsIn K mainGlobals "check_places" = some (some (.ref f6))) (l6 : K.lookup f6 = some ⟨oc6, od6, .func (PySem.W.fnOf "check_places" "check_places" (defArgs scheck_places) (defBody scheck_places) (defScope scheck_places) .none kV6 dc6 pm6 an6 cd6 ct6), sl6⟩) (c6 : PySem.W.codeIn K cd6 "check_places" = true) (k6 : PySem.W.keepIn K (.ref f6) = true)
    (a7 : PySem.W.nsIn K mainGlobals "pieces" = some (some (.ref f7))) (l7 : K.lookup f7 = some ⟨oc7, od7, .func (PySem.W.fnOf "pieces" "pieces" (defArgs spieces) (defBody spieces) (defScope spieces) .none kV7 dc7 pm7 an7 cd7 ct7), sl7⟩) (c7 : PySem.W.codeIn K cd7 "pieces" = true) (k7 : PySem.W.keepIn K (.ref f7) = true)
    (a8 : PySem.W.nsIn K mainGlobals "windows" = some (some (.ref f8))) (l8 : K.lookup f8 = some ⟨oc8, od8, .func (PySem.W.fnOf "windows" "windows" (defArgs swindows) (defBody swindows) (defScope swindows) .none kV8 dc8 pm8 an8 cd8 ct8), sl8⟩) (c8 : PySem.W.codeIn K cd8 "windows" = true) (k8 : PySem.W.keepIn K (.ref f8) = true)
    (a9 : PySem.W.nsIn K mainGlobals "below" = some (some (.ref f9))) (l9 : K.lookup f9 = some ⟨oc9, od9, .func (PySem.W.fnOf "below" "below" (defArgs sbelow) (defBody sbelow) (defScope sbelow) .none kV9 dc9 pm9 an9 cd9 ct9), sl9⟩) (c9 : PySem.W.codeIn K cd9 "below" = true) (k9 : PySem.W.keepIn K (.ref f9) = true)
    (a10 : PySem.W.nsIn K mainGlobals "item_row" = some (some (.ref f10))) (l10 : K.lookup f10 = some ⟨oc10, od10, .func (PySem.W.fnOf "item_row" "item_row" (defArgs sitem_row) (defBody sitem_row) (defScope sitem_row) .none kV10 dc10 pm10 an10 cd10 ct10), sl10⟩) (c10 : PySem.W.codeIn K cd10 "item_row" = true) (k10 : PySem.W.keepIn K (.ref f10) = true)
    (a11 : PySem.W.nsIn K mainGlobals "views_below" = some (some (.ref f11))) (l11 : K.lookup f11 = some ⟨oc11, od11, .func (PySem.W.fnOf "views_below" "views_below" (defArgs sviews_below) (defBody sviews_below) (defScope sviews_below) .none kV11 dc11 pm11 an11 cd11 ct11), sl11⟩) (c11 : PySem.W.codeIn K cd11 "views_below" = true) (k11 : PySem.W.keepIn K (.ref f11) = true)
    (a12 : PySem.W.nsIn K mainGlobals "goes_on" = some (some (.ref f12))) (l12 : K.lookup f12 = some ⟨oc12, od12, .func (PySem.W.fnOf "goes_on" "goes_on" (defArgs sgoes_on) (defBody sgoes_on) (defScope sgoes_on) .none kV12 dc12 pm12 an12 cd12 ct12), sl12⟩) (c12 : PySem.W.codeIn K cd12 "goes_on" = true) (k12 : PySem.W.keepIn K (.ref f12) = true)
    (a13 : PySem.W.nsIn K mainGlobals "plain_items" = some (some (.ref f13))) (l13 : K.lookup f13 = some ⟨oc13, od13, .func (PySem.W.fnOf "plain_items" "plain_items" (defArgs splain_items) (defBody splain_items) (defScope splain_items) .none kV13 dc13 pm13 an13 cd13 ct13), sl13⟩) (c13 : PySem.W.codeIn K cd13 "plain_items" = true) (k13 : PySem.W.keepIn K (.ref f13) = true)
    (a14 : PySem.W.nsIn K mainGlobals "_law_items_of" = some (some (.ref f14))) (l14 : K.lookup f14 = some ⟨oc14, od14, .func (PySem.W.fnOf "_law_items_of" "_law_items_of" (defArgs s_law_items_of) (defBody s_law_items_of) (defScope s_law_items_of) .none kV14 dc14 pm14 an14 cd14 ct14), sl14⟩) (c14 : PySem.W.codeIn K cd14 "_law_items_of" = true) (k14 : PySem.W.keepIn K (.ref f14) = true)
    (a15 : PySem.W.nsIn K mainGlobals "_law_copied" = some (some (.ref f15))) (l15 : K.lookup f15 = some ⟨oc15, od15, .func (PySem.W.fnOf "_law_copied" "_law_copied" (defArgs s_law_copied) (defBody s_law_copied) (defScope s_law_copied) .none kV15 dc15 pm15 an15 cd15 ct15), sl15⟩) (c15 : PySem.W.codeIn K cd15 "_law_copied" = true) (k15 : PySem.W.keepIn K (.ref f15) = true)
    (a16 : PySem.W.nsIn K mainGlobals "_law_order" = some (some (.ref f16))) (l16 : K.lookup f16 = some ⟨oc16, od16, .func (PySem.W.fnOf "_law_order" "_law_order" (defArgs s_law_order) (defBody s_law_order) (defScope s_law_order) .none kV16 dc16 pm16 an16 cd16 ct16), sl16⟩) (c16 : PySem.W.codeIn K cd16 "_law_order" = true) (k16 : PySem.W.keepIn K (.ref f16) = true)
    (a17 : PySem.W.nsIn K mainGlobals "_law_entries_by" = some (some (.ref f17))) (l17 : K.lookup f17 = some ⟨oc17, od17, .func (PySem.W.fnOf "_law_entries_by" "_law_entries_by" (defArgs s_law_entries_by) (defBody s_law_entries_by) (defScope s_law_entries_by) .none kV17 dc17 pm17 an17 cd17 ct17), sl17⟩) (c17 : PySem.W.codeIn K cd17 "_law_entries_by" = true) (k17 : PySem.W.keepIn K (.ref f17) = true)
    (a18 : PySem.W.nsIn K mainGlobals "_law_sheets_by" = some (some (.ref f18))) (l18 : K.lookup f18 = some ⟨oc18, od18, .func (PySem.W.fnOf "_law_sheets_by" "_law_sheets_by" (defArgs s_law_sheets_by) (defBody s_law_sheets_by) (defScope s_law_sheets_by) .none kV18 dc18 pm18 an18 cd18 ct18), sl18⟩) (c18 : PySem.W.codeIn K cd18 "_law_sheets_by" = true) (k18 : PySem.W.keepIn K (.ref f18) = true)
    (a19 : PySem.W.nsIn K mainGlobals "_law_show" = some (some (.ref f19))) (l19 : K.lookup f19 = some ⟨oc19, od19, .func (PySem.W.fnOf "_law_show" "_law_show" (defArgs s_law_show) (defBody s_law_show) (defScope s_law_show) .none kV19 dc19 pm19 an19 cd19 ct19), sl19⟩) (c19 : PySem.W.codeIn K cd19 "_law_show" = true) (k19 : PySem.W.keepIn K (.ref f19) = true)
    (a20 : PySem.W.nsIn K mainGlobals "inked" = some (some (.ref f20))) (l20 : K.lookup f20 = some ⟨oc20, od20, .func (PySem.W.fnOf "inked" "inked" (defArgs sinked) (defBody sinked) (defScope sinked) .none kV20 dc20 pm20 an20 cd20 ct20), sl20⟩) (c20 : PySem.W.codeIn K cd20 "inked" = true) (k20 : PySem.W.keepIn K (.ref f20) = true)
    (a21 : PySem.W.nsIn K mainGlobals "dealt" = some (some (.ref f21))) (l21 : K.lookup f21 = some ⟨oc21, od21, .func (PySem.W.fnOf "dealt" "dealt" (defArgs sdealt) (defBody sdealt) (defScope sdealt) .none kV21 dc21 pm21 an21 cd21 ct21), sl21⟩) (c21 : PySem.W.codeIn K cd21 "dealt" = true) (k21 : PySem.W.keepIn K (.ref f21) = true)
    (a22 : PySem.W.nsIn K mainGlobals "put_among" = some (some (.ref f22))) (l22 : K.lookup f22 = some ⟨oc22, od22, .func (PySem.W.fnOf "put_among" "put_among" (defArgs sput_among) (defBody sput_among) (defScope sput_among) .none kV22 dc22 pm22 an22 cd22 ct22), sl22⟩) (c22 : PySem.W.codeIn K cd22 "put_among" = true) (k22 : PySem.W.keepIn K (.ref f22) = true)
    (a23 : PySem.W.nsIn K mainGlobals "parted" = some (some (.ref f23))) (l23 : K.lookup f23 = some ⟨oc23, od23, .func (PySem.W.fnOf "parted" "parted" (defArgs sparted) (defBody sparted) (defScope sparted) .none kV23 dc23 pm23 an23 cd23 ct23), sl23⟩) (c23 : PySem.W.codeIn K cd23 "parted" = true) (k23 : PySem.W.keepIn K (.ref f23) = true)
    (a24 : PySem.W.nsIn K mainGlobals "moved_items" = some (some (.ref f24))) (l24 : K.lookup f24 = some ⟨oc24, od24, .func (PySem.W.fnOf "moved_items" "moved_items" (defArgs smoved_items) (defBody smoved_items) (defScope smoved_items) .none kV24 dc24 pm24 an24 cd24 ct24), sl24⟩) (c24 : PySem.W.codeIn K cd24 "moved_items" = true) (k24 : PySem.W.keepIn K (.ref f24) = true)
    (a25 : PySem.W.nsIn K mainGlobals "_law_pieces" = some (some (.ref f25))) (l25 : K.lookup f25 = some ⟨oc25, od25, .func (PySem.W.fnOf "_law_pieces" "_law_pieces" (defArgs s_law_pieces) (defBody s_law_pieces) (defScope s_law_pieces) .none kV25 dc25 pm25 an25 cd25 ct25), sl25⟩) (c25 : PySem.W.codeIn K cd25 "_law_pieces" = true) (k25 : PySem.W.keepIn K (.ref f25) = true)
    (a26 : PySem.W.nsIn K mainGlobals "_law_put" = some (some (.ref f26))) (l26 : K.lookup f26 = some ⟨oc26, od26, .func (PySem.W.fnOf "_law_put" "_law_put" (defArgs s_law_put) (defBody s_law_put) (defScope s_law_put) .none kV26 dc26 pm26 an26 cd26 ct26), sl26⟩) (c26 : PySem.W.codeIn K cd26 "_law_put" = true) (k26 : PySem.W.keepIn K (.ref f26) = true)
    (a27 : PySem.W.nsIn K mainGlobals "_law_cut" = some (some (.ref f27))) (l27 : K.lookup f27 = some ⟨oc27, od27, .func (PySem.W.fnOf "_law_cut" "_law_cut" (defArgs s_law_cut) (defBody s_law_cut) (defScope s_law_cut) .none kV27 dc27 pm27 an27 cd27 ct27), sl27⟩) (c27 : PySem.W.codeIn K cd27 "_law_cut" = true) (k27 : PySem.W.keepIn K (.ref f27) = true)
    (a28 : PySem.W.nsIn K mainGlobals "_law_move_or_none" = some (some (.ref f28))) (l28 : K.lookup f28 = some ⟨oc28, od28, .func (PySem.W.fnOf "_law_move_or_none" "_law_move_or_none" (defArgs s_law_move_or_none) (defBody s_law_move_or_none) (defScope s_law_move_or_none) .none kV28 dc28 pm28 an28 cd28 ct28), sl28⟩) (c28 : PySem.W.codeIn K cd28 "_law_move_or_none" = true) (k28 : PySem.W.keepIn K (.ref f28) = true)
    (a29 : PySem.W.nsIn K mainGlobals "law" = some (some (.ref f29))) (l29 : K.lookup f29 = some ⟨oc29, od29, .func (PySem.W.fnOf "law" "law" (defArgs slaw) (defBody slaw) (defScope slaw) .none kV29 dc29 pm29 an29 cd29 ct29), sl29⟩) (c29 : PySem.W.codeIn K cd29 "law" = true) (k29 : PySem.W.keepIn K (.ref f29) = true)
    (z0 : PySem.W.nsIn K mainGlobals "len" = some none)
    (z1 : PySem.W.nsIn K mainGlobals "list" = some none)
    (z2 : PySem.W.nsIn K mainGlobals "tuple" = some none)
    (z3 : PySem.W.nsIn K mainGlobals "int" = some none)
    (z4 : PySem.W.nsIn K mainGlobals "bool" = some none)
    (z5 : PySem.W.nsIn K mainGlobals "str" = some none)
    (z6 : PySem.W.nsIn K mainGlobals "range" = some none)
    (z7 : PySem.W.nsIn K mainGlobals "zip" = some none)
    (z8 : PySem.W.nsIn K mainGlobals "isinstance" = some none)
    (z9 : PySem.W.nsIn K mainGlobals "sum" = some none)
    (z10 : PySem.W.nsIn K mainGlobals "min" = some none)
    (z11 : PySem.W.nsIn K mainGlobals "max" = some none)
    (e0 : PySem.W.nsIn K mainGlobals "OutOfPlace" = some (some (.ref C0))) (e1 : PySem.W.excIn K C0 [.type "ValueError", .type "Exception", .type "BaseException", .type "object"] "ValueError.__new__" = true) (e2 : PySem.W.exmOne K (.ref C0) (.ref C0) = some true) :
    ∃ fd : FuncData, (∀ (s : Shared) (v : Value), BindsTo s fd ⟨[v], []⟩ [("_law_script", v)]) ∧ ∀ base : Heap, K.In base → base.Ns mainGlobals mg → FnOk l.prog w K mg base CX0 45 fa fd ["_law_script"] (spLaw K) := by
  have e := hfa.symm.trans (PySem.W.mg_of X G a29)
  cases e
  have T : Nms mg := ⟨PySem.W.mg_none_of X G z0, PySem.W.mg_none_of X G z1, PySem.W.mg_none_of X G z2, PySem.W.mg_none_of X G z3, PySem.W.mg_none_of X G z4, PySem.W.mg_none_of X G z5, PySem.W.mg_none_of X G z6, PySem.W.mg_none_of X G z7, PySem.W.mg_none_of X G z8, PySem.W.mg_none_of X G z9, PySem.W.mg_none_of X G z10, PySem.W.mg_none_of X G z11⟩
  have Z : ExcAt K mg C0 := ⟨PySem.W.mg_of X G e0, e1, e2⟩
  have F0 := fun_mk (st := s_law_src) l0 c0 k0
  have D0 : DefAt K mg "_law_src" s_law_src ["_law_script"] f0 _ := ⟨F0, F0.binds (ps := ["_law_script"]) (fun _ _ _ _ _ _ us hl => match us, hl with | [_], _ => rfl), PySem.W.mg_of X G a0⟩
  have F1 := fun_mk (st := s_law_next) l1 c1 k1
  have D1 : DefAt K mg "_law_next" s_law_next ["_law_src_here", "_law_base"] f1 _ := ⟨F1, F1.binds (ps := ["_law_src_here", "_law_base"]) (fun _ _ _ _ _ _ us hl => match us, hl with | [_, _], _ => rfl), PySem.W.mg_of X G a1⟩
  have F2 := fun_mk (st := s_law_whole) l2 c2 k2
  have D2 : DefAt K mg "_law_whole" s_law_whole ["_law_found"] f2 _ := ⟨F2, F2.binds (ps := ["_law_found"]) (fun _ _ _ _ _ _ us hl => match us, hl with | [_], _ => rfl), PySem.W.mg_of X G a2⟩
  have F3 := fun_mk (st := s_law_same) l3 c3 k3
  have D3 : DefAt K mg "_law_same" s_law_same ["_law_found", "_law_due"] f3 _ := ⟨F3, F3.binds (ps := ["_law_found", "_law_due"]) (fun _ _ _ _ _ _ us hl => match us, hl with | [_, _], _ => rfl), PySem.W.mg_of X G a3⟩
  have F4 := fun_mk (st := splain) l4 c4 k4
  have D4 : DefAt K mg "plain" splain ["row"] f4 _ := ⟨F4, F4.binds (ps := ["row"]) (fun _ _ _ _ _ _ us hl => match us, hl with | [_], _ => rfl), PySem.W.mg_of X G a4⟩
  have F5 := fun_mk (st := ssize) l5 c5 k5
  have D5 : DefAt K mg "size" ssize ["row"] f5 _ := ⟨F5, F5.binds (ps := ["row"]) (fun _ _ _ _ _ _ us hl => match us, hl with | [_], _ => rfl), PySem.W.mg_of X G a5⟩
  have F6 := fun_mk (st := scheck_places) l6 c6 k6
  have D6 : DefAt K mg "check_places" scheck_places ["row", "start", "stop"] f6 _ := ⟨F6, F6.binds (ps := ["row", "start", "stop"]) (fun _ _ _ _ _ _ us hl => match us, hl with | [_, _, _], _ => rfl), PySem.W.mg_of X G a6⟩
  have F7 := fun_mk (st := spieces) l7 c7 k7
  have D7 : DefAt K mg "pieces" spieces ["row", "start", "stop"] f7 _ := ⟨F7, F7.binds (ps := ["row", "start", "stop"]) (fun _ _ _ _ _ _ us hl => match us, hl with | [_, _, _], _ => rfl), PySem.W.mg_of X G a7⟩
  have F8 := fun_mk (st := swindows) l8 c8 k8
  have D8 : DefAt K mg "windows" swindows ["items"] f8 _ := ⟨F8, F8.binds (ps := ["items"]) (fun _ _ _ _ _ _ us hl => match us, hl with | [_], _ => rfl), PySem.W.mg_of X G a8⟩
  have F9 := fun_mk (st := sbelow) l9 c9 k9
  have D9 : DefAt K mg "below" sbelow ["rows", "sheets"] f9 _ := ⟨F9, F9.binds (ps := ["rows", "sheets"]) (fun _ _ _ _ _ _ us hl => match us, hl with | [_, _], _ => rfl), PySem.W.mg_of X G a9⟩
  have F10 := fun_mk (st := sitem_row) l10 c10 k10
  have D10 : DefAt K mg "item_row" sitem_row ["item", "views"] f10 _ := ⟨F10, F10.binds (ps := ["item", "views"]) (fun _ _ _ _ _ _ us hl => match us, hl with | [_, _], _ => rfl), PySem.W.mg_of X G a10⟩
  have F11 := fun_mk (st := sviews_below) l11 c11 k11
  have D11 : DefAt K mg "views_below" sviews_below ["rows", "sheets"] f11 _ := ⟨F11, F11.binds (ps := ["rows", "sheets"]) (fun _ _ _ _ _ _ us hl => match us, hl with | [_, _], _ => rfl), PySem.W.mg_of X G a11⟩
  have F12 := fun_mk (st := sgoes_on) l12 c12 k12
  have D12 : DefAt K mg "goes_on" sgoes_on ["one", "other"] f12 _ := ⟨F12, F12.binds (ps := ["one", "other"]) (fun _ _ _ _ _ _ us hl => match us, hl with | [_, _], _ => rfl), PySem.W.mg_of X G a12⟩
  have F13 := fun_mk (st := splain_items) l13 c13 k13
  have D13 : DefAt K mg "plain_items" splain_items ["items"] f13 _ := ⟨F13, F13.binds (ps := ["items"]) (fun _ _ _ _ _ _ us hl => match us, hl with | [_], _ => rfl), PySem.W.mg_of X G a13⟩
  have F14 := fun_mk (st := s_law_items_of) l14 c14 k14
  have D14 : DefAt K mg "_law_items_of" s_law_items_of ["_law_entries"] f14 _ := ⟨F14, F14.binds (ps := ["_law_entries"]) (fun _ _ _ _ _ _ us hl => match us, hl with | [_], _ => rfl), PySem.W.mg_of X G a14⟩
  have F15 := fun_mk (st := s_law_copied) l15 c15 k15
  have D15 : DefAt K mg "_law_copied" s_law_copied ["_law_rows"] f15 _ := ⟨F15, F15.binds (ps := ["_law_rows"]) (fun _ _ _ _ _ _ us hl => match us, hl with | [_], _ => rfl), PySem.W.mg_of X G a15⟩
  have F16 := fun_mk (st := s_law_order) l16 c16 k16
  have D16 : DefAt K mg "_law_order" s_law_order ["_law_src_here", "_law_many"] f16 _ := ⟨F16, F16.binds (ps := ["_law_src_here", "_law_many"]) (fun _ _ _ _ _ _ us hl => match us, hl with | [_, _], _ => rfl), PySem.W.mg_of X G a16⟩
  have F17 := fun_mk (st := s_law_entries_by) l17 c17 k17
  have D17 : DefAt K mg "_law_entries_by" s_law_entries_by ["_law_src_here", "_law_lower", "_law_most"] f17 _ := ⟨F17, F17.binds (ps := ["_law_src_here", "_law_lower", "_law_most"]) (fun _ _ _ _ _ _ us hl => match us, hl with | [_, _, _], _ => rfl), PySem.W.mg_of X G a17⟩
  have F18 := fun_mk (st := s_law_sheets_by) l18 c18 k18
  have D18 : DefAt K mg "_law_sheets_by" s_law_sheets_by ["_law_src_here"] f18 _ := ⟨F18, F18.binds (ps := ["_law_src_here"]) (fun _ _ _ _ _ _ us hl => match us, hl with | [_], _ => rfl), PySem.W.mg_of X G a18⟩
  have F19 := fun_mk (st := s_law_show) l19 c19 k19
  have D19 : DefAt K mg "_law_show" s_law_show ["_law_rows", "_law_sheet"] f19 _ := ⟨F19, F19.binds (ps := ["_law_rows", "_law_sheet"]) (fun _ _ _ _ _ _ us hl => match us, hl with | [_, _], _ => rfl), PySem.W.mg_of X G a19⟩
  have F20 := fun_mk (st := sinked) l20 c20 k20
  have D20 : DefAt K mg "inked" sinked ["row"] f20 _ := ⟨F20, F20.binds (ps := ["row"]) (fun _ _ _ _ _ _ us hl => match us, hl with | [_], _ => rfl), PySem.W.mg_of X G a20⟩
  have F21 := fun_mk (st := sdealt) l21 c21 k21
  have D21 : DefAt K mg "dealt" sdealt ["items", "views"] f21 _ := ⟨F21, F21.binds (ps := ["items", "views"]) (fun _ _ _ _ _ _ us hl => match us, hl with | [_, _], _ => rfl), PySem.W.mg_of X G a21⟩
  have F22 := fun_mk (st := sput_among) l22 c22 k22
  have D22 : DefAt K mg "put_among" sput_among ["items", "views", "place", "others"] f22 _ := ⟨F22, F22.binds (ps := ["items", "views", "place", "others"]) (fun _ _ _ _ _ _ us hl => match us, hl with | [_, _, _, _], _ => rfl), PySem.W.mg_of X G a22⟩
  have F23 := fun_mk (st := sparted) l23 c23 k23
  have D23 : DefAt K mg "parted" sparted ["items", "views", "start", "stop"] f23 _ := ⟨F23, F23.binds (ps := ["items", "views", "start", "stop"]) (fun _ _ _ _ _ _ us hl => match us, hl with | [_, _, _, _], _ => rfl), PySem.W.mg_of X G a23⟩
  have F24 := fun_mk (st := smoved_items) l24 c24 k24
  have D24 : DefAt K mg "moved_items" smoved_items ["rows", "sheet", "start", "stop", "to"] f24 _ := ⟨F24, F24.binds (ps := ["rows", "sheet", "start", "stop", "to"]) (fun _ _ _ _ _ _ us hl => match us, hl with | [_, _, _, _, _], _ => rfl), PySem.W.mg_of X G a24⟩
  have F25 := fun_mk (st := s_law_pieces) l25 c25 k25
  have D25 : DefAt K mg "_law_pieces" s_law_pieces ["_law_rows", "_law_entry"] f25 _ := ⟨F25, F25.binds (ps := ["_law_rows", "_law_entry"]) (fun _ _ _ _ _ _ us hl => match us, hl with | [_, _], _ => rfl), PySem.W.mg_of X G a25⟩
  have F26 := fun_mk (st := s_law_put) l26 c26 k26
  have D26 : DefAt K mg "_law_put" s_law_put ["_law_rows", "_law_sheet", "_law_place", "_law_new"] f26 _ := ⟨F26, F26.binds (ps := ["_law_rows", "_law_sheet", "_law_place", "_law_new"]) (fun _ _ _ _ _ _ us hl => match us, hl with | [_, _, _, _], _ => rfl), PySem.W.mg_of X G a26⟩
  have F27 := fun_mk (st := s_law_cut) l27 c27 k27
  have D27 : DefAt K mg "_law_cut" s_law_cut ["_law_rows", "_law_sheet", "_law_start", "_law_stop"] f27 _ := ⟨F27, F27.binds (ps := ["_law_rows", "_law_sheet", "_law_start", "_law_stop"]) (fun _ _ _ _ _ _ us hl => match us, hl with | [_, _, _, _], _ => rfl), PySem.W.mg_of X G a27⟩
  have F28 := fun_mk (st := s_law_move_or_none) l28 c28 k28
  have D28 : DefAt K mg "_law_move_or_none" s_law_move_or_none ["_law_rows", "_law_sheet", "_law_start", "_law_stop", "_law_to"] f28 _ := ⟨F28, F28.binds (ps := ["_law_rows", "_law_sheet", "_law_start", "_law_stop", "_law_to"]) (fun _ _ _ _ _ _ us hl => match us, hl with | [_, _, _, _, _], _ => rfl), PySem.W.mg_of X G a28⟩
  have F29 := fun_mk (st := slaw) l29 c29 k29
  exact ⟨PySem.W.fnOf "law" "law" (defArgs slaw) (defBody slaw) (defScope slaw) .none kV29 dc29 pm29 an29 cd29 ct29, fun s v => .of_eq rfl, fun base _ _ => ok_law F29 T Z D0 D1 D2 D3 D4 D5 D6 D7 D8 D9 D10 D11 D12 D13 D14 D15 D16 D17 D18 D19 D20 D21 D22 D23 D24 D25 D26 D27 D28⟩
theorem walk {l : PySem.W.OpenLaw} {q : Program} {loose : List Str} {XP : (Str → Option Value) → Heap → Prop} {YP : World → Heap → Prop} {d : DefRec} {K : Params → PySem.W.Frag} (hn : l.most = some 63) (hdf : d.params.defaults = [])
    (hY : ∀ (w : World) (h : Heap), YP w h → (K w.params).In h)
    (F : ∀ (w : World) (mg : Str → Option Value) (fa : Addr) (h : Heap), (K w.params).In h → h.Ns mainGlobals mg → mg d.name = some (.ref fa) →
      ∃ fd : FuncData, (∀ (s : Shared) (u : Value), BindsTo s fd ⟨[u], []⟩ [("_law_script", u)]) ∧ ∀ base : Heap, (K w.params).In base → base.Ns mainGlobals mg → FnOk l.prog w (K w.params) mg base CX0 45 fa fd ["_law_script"] (spLaw (K w.params))) :
    PySem.W.WalkO q loose XP YP l.row.toRowW d [] (fun f vs => PySem.call f vs) :=
  L2.walk_of (n := 63) (k := 45) (x := "_law_script") (CX := fun _ => CX0) (sp := fun w => spLaw (K w.params)) hn (by decide) hdf ⟨rfl, by decide, by decide⟩ hY F (fun _ _ a ns hl _ hS => ⟨a, ns, rfl, hS, hl, fun _ => rfl⟩) fun _ _ _ _ _ z => z
end Ink
open PySem PySem.W PyProof.Rows
set_option maxRecDepth 100000 in
set_option maxHeartbeats 0 in
theorem PySem.Challenge.cw_inkroot_k21_moved_items_holds : PySem.Challenge.rw_inkroot_k21_moved_items.Holds := by
  w_on; o_law; k_head; (case hw => w_witness2)
  k_fill
  refine Ink.walk (l := PySem.Challenge.rw_inkroot_k21_moved_items) rfl rfl (fun w h Y => PySem.W.kIn_of Y) ?F
  case F =>
    intro w mg fa h KX G hmg
    refine' Ink.all_mk KX G hmg ?a0 ?l0 ?c0 ?k0 ?a1 ?l1 ?c1 ?k1 ?a2 ?l2 ?c2 ?k2 ?a3 ?l3 ?c3 ?k3 ?a4 ?l4 ?c4 ?k4 ?a5 ?l5 ?c5 ?k5 ?a6 ?l6 ?c6 ?k6 ?a7 ?l7 ?c7 ?k7 ?a8 ?l8 ?c8 ?k8 ?a9 ?l9 ?c9 ?k9 ?a10 ?l10 ?c10 ?k10 ?a11 ?l11 ?c11 ?k11 ?a12 ?l12 ?c12 ?k12 ?a13 ?l13 ?c13 ?k13 ?a14 ?l14 ?c14 ?k14 ?a15 ?l15 ?c15 ?k15 ?a16 ?l16 ?c16 ?k16 ?a17 ?l17 ?c17 ?k17 ?a18 ?l18 ?c18 ?k18 ?a19 ?l19 ?c19 ?k19 ?a20 ?l20 ?c20 ?k20 ?a21 ?l21 ?c21 ?k21 ?a22 ?l22 ?c22 ?k22 ?a23 ?l23 ?c23 ?k23 ?a24 ?l24 ?c24 ?k24 ?a25 ?l25 ?c25 ?k25 ?a26 ?l26 ?c26 ?k26 ?a27 ?l27 ?c27 ?k27 ?a28 ?l28 ?c28 ?k28 ?a29 ?l29 ?c29 ?k29 ?z0 ?z1 ?z2 ?z3 ?z4 ?z5 ?z6 ?z7 ?z8 ?z9 ?z10 ?z11 ?e0 ?e1 ?e2
    (case a0 => k_is)
    (case l0 => k_is)
    (case c0 => k_is)
    (case k0 => k_is)
    (case a1 => k_is)
    (case l1 => k_is)
    (case c1 => k_is)
    (case k1 => k_is)
    (case a2 => k_is)
    (case l2 => k_is)
    (case c2 => k_is)
    (case k2 => k_is)
    (case a3 => k_is)
    (case l3 => k_is)
    (case c3 => k_is)
    (case k3 => k_is)
    (case a4 => k_is)
    (case l4 => k_is)
    (case c4 => k_is)
    (case k4 => k_is)
    (case a5 => k_is)
    (case l5 => k_is)
    (case c5 => k_is)
    (case k5 => k_is)
    (case a6 => k_is)
    (case l6 => k_is)
    (case c6 => k_is)
    (case k6 => k_is)
    (case a7 => k_is)
    (case l7 => k_is)
    (case c7 => k_is)
    (case k7 => k_is)
    (case a8 => k_is)
    (case l8 => k_is)
    (case c8 => k_is)
    (case k8 => k_is)
    (case a9 => k_is)
    (case l9 => k_is)
    (case c9 => k_is)
    (case k9 => k_is)
    (case a10 => k_is)
    (case l10 => k_is)
    (case c10 => k_is)
    (case k10 => k_is)
    (case a11 => k_is)
    (case l11 => k_is)
    (case c11 => k_is)
    (case k11 => k_is)
    (case a12 => k_is)
    (case l12 => k_is)
    (case c12 => k_is)
    (case k12 => k_is)
    (case a13 => k_is)
    (case l13 => k_is)
    (case c13 => k_is)
    (case k13 => k_is)
    (case a14 => k_is)
    (case l14 => k_is)
    (case c14 => k_is)
    (case k14 => k_is)
    (case a15 => k_is)
    (case l15 => k_is)
    (case c15 => k_is)
    (case k15 => k_is)
    (case a16 => k_is)
    (case l16 => k_is)
    (case c16 => k_is)
    (case k16 => k_is)
    (case a17 => k_is)
    (case l17 => k_is)
    (case c17 => k_is)
    (case k17 => k_is)
    (case a18 => k_is)
    (case l18 => k_is)
    (case c18 => k_is)
    (case k18 => k_is)
    (case a19 => k_is)
    (case l19 => k_is)
    (case c19 => k_is)
    (case k19 => k_is)
    (case a20 => k_is)
    (case l20 => k_is)
    (case c20 => k_is)
    (case k20 => k_is)
    (case a21 => k_is)
    (case l21 => k_is)
    (case c21 => k_is)
    (case k21 => k_is)
    (case a22 => k_is)
    (case l22 => k_is)
    (case c22 => k_is)
    (case k22 => k_is)
    (case a23 => k_is)
    (case l23 => k_is)
    (case c23 => k_is)
    (case k23 => k_is)
    (case a24 => k_is)
    (case l24 => k_is)
    (case c24 => k_is)
    (case k24 => k_is)
    (case a25 => k_is)
    (case l25 => k_is)
    (case c25 => k_is)
    (case k25 => k_is)
    (case a26 => k_is)
    (case l26 => k_is)
    (case c26 => k_is)
    (case k26 => k_is)
    (case a27 => k_is)
    (case l27 => k_is)
    (case c27 => k_is)
    (case k27 => k_is)
    (case a28 => k_is)
    (case l28 => k_is)
    (case c28 => k_is)
    (case k28 => k_is)
    (case a29 => k_is)
    (case l29 => k_is)
    (case c29 => k_is)
    (case k29 => k_is)
    (case z0 => k_is)
    (case z1 => k_is)
    (case z2 => k_is)
    (case z3 => k_is)
    (case z4 => k_is)
    (case z5 => k_is)
    (case z6 => k_is)
    (case z7 => k_is)
    (case z8 => k_is)
    (case z9 => k_is)
    (case z10 => k_is)
    (case z11 => k_is)
    (case e0 => k_is)
    (case e1 => k_exc)
    (case e2 => kts_exm)
