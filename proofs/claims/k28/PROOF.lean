import PyProof.Rows.All
import Wide.All
import OpenK.AllK
import Wide.FinOn
import Lean
import PyProof.EqAt
import PyProof.EqKinds
import PyProof.TupleCall
import PySem.Challenge.RW_inkroot_k28_common_places_all_told
set_option Elab.async false
set_option linter.all false
set_option maxRecDepth 100000
/-! THE HAND LAYER, for ints, bools, texts, own classes, LISTS and tuples (index, slices, in, append, pop ..), calls, loops. Paste it whole ahead of your own text; what your proof does not reach may be deleted. -/
namespace L2
open PySem PySem.Spec PyProof.Rows

/-- a key: an int or a str -/
abbrev Key := Sum Int Str
def keyIs : Key → Value → Bool
  | .inl k, v => Value.isInt k v
  | .inr x, v => Value.isStrOf x v
def keyH (w : World) : Key → Int
  | .inl k => hashInt k
  | .inr x => hashStr w x
theorem keyIs_shape : ∀ {k : Key} {v : Value}, keyIs k v = true → (∃ i t, k = Sum.inl i ∧ v = Value.int i t) ∨ (∃ x t, k = Sum.inr x ∧ v = Value.str x t)
  | .inl i, v, h => by
    obtain ⟨t, e⟩ := Value.isInt_shape (k := i) (v := v) h
    exact .inl ⟨i, t, rfl, e⟩
  | .inr x, v, h => by
    obtain ⟨t, e⟩ := Value.isStrOf_shape (x := x) (v := v) h
    exact .inr ⟨x, t, rfl, e⟩
theorem keyIs_int (i : Int) (t : Tok) : keyIs (.inl i) (.int i t) = true := by simp [keyIs, Value.isInt]
theorem keyIs_str (x : Str) (t : Tok) : keyIs (.inr x) (.str x t) = true := by simp [keyIs, Value.isStrOf]
theorem key_ll (a b : Int) : decide ((Sum.inl a : Key) = Sum.inl b) = (a == b) := by
  by_cases e : a = b
  · subst e; simp
  · have h : ¬ (Sum.inl a : Key) = Sum.inl b := fun q => e (Sum.inl.inj q)
    rw [decide_eq_false h]
    exact (beq_eq_false_iff_ne.mpr e).symm
theorem key_rr (a b : Str) : decide ((Sum.inr a : Key) = Sum.inr b) = decide (a = b) := by
  by_cases e : a = b
  · subst e; simp
  · have h : ¬ (Sum.inr a : Key) = Sum.inr b := fun q => e (Sum.inr.inj q)
    rw [decide_eq_false h, decide_eq_false e]
theorem key_lr (a : Int) (b : Str) : decide ((Sum.inl a : Key) = Sum.inr b) = false := decide_eq_false (fun q => nomatch q)
theorem key_rl (a : Str) (b : Int) : decide ((Sum.inr a : Key) = Sum.inl b) = false := decide_eq_false (fun q => nomatch q)

def mixKind (prog : Program) (w : World) : PySem.KeyKind prog w Key where
  is := keyIs
  hash := keyH w
  inj := fun v a b ha hb => by
    rcases keyIs_shape ha with ⟨i, t, rfl, rfl⟩ | ⟨x, t, rfl, rfl⟩
    · rcases keyIs_shape hb with ⟨j, u, rfl, e⟩ | ⟨y, u, rfl, e⟩
      · injection e with e1 _; rw [e1]
      · exact nomatch e
    · rcases keyIs_shape hb with ⟨j, u, rfl, e⟩ | ⟨y, u, rfl, e⟩
      · exact nomatch e
      · injection e with e1 _; rw [e1]
  byValue := fun k v h => by
    rcases keyIs_shape h with ⟨i, t, rfl, rfl⟩ | ⟨x, t, rfl, rfl⟩ <;> rfl
  pyHash := fun hv h => by
    rcases keyIs_shape hv with ⟨i, t, rfl, rfl⟩ | ⟨x, t, rfl, rfl⟩
    · exact wpAny_pyHash_int h
    · exact wpAny_pyHash_str h
  eqBool := fun hu hv h => by
    rcases keyIs_shape hu with ⟨i, t, rfl, rfl⟩ | ⟨x, t, rfl, rfl⟩
    · rcases keyIs_shape hv with ⟨j, u, rfl, rfl⟩ | ⟨y, u, rfl, rfl⟩
      · rw [key_ll] at h; exact wpAny_eqBool_int h
      · rw [key_lr] at h; exact SeqAt.EqAt.int_str i t y u _ _ _ _ h
    · rcases keyIs_shape hv with ⟨j, u, rfl, rfl⟩ | ⟨y, u, rfl, rfl⟩
      · rw [key_rl] at h; exact SeqAt.EqAt.str_int x t j u _ _ _ _ h
      · rw [key_rr] at h; exact wpAny_eqBool_str h
  «strs» := fun k x t v h => by
    rcases keyIs_shape h with ⟨i, u, rfl, e⟩ | ⟨y, u, rfl, e⟩
    · exact nomatch e
    · injection e with e1 _
      subst e1
      cases v <;> rfl

theorem mixKind_int (prog : Program) (w : World) (i : Int) (t : Tok) : (mixKind prog w).is (.inl i) (.int i t) = true := keyIs_int i t
theorem mixKind_str (prog : Program) (w : World) (x : Str) (t : Tok) : (mixKind prog w).is (.inr x) (.str x t) = true := keyIs_str x t
end L2

namespace L2
open PySem PySem.Spec PyProof.Rows

/-- a value, without the heap -/
inductive V where
  | non | bl (b : Bool) | int (i : Int) | str (x : Str) | byt (b : Array UInt8) | flt (b : UInt64) | ref (a : Addr) | ty (n : String)
  deriving DecidableEq

def RelV : V → Value → Prop
  | .non, u => u = Value.none
  | .bl b, u => u = Value.bool b
  | .int i, u => ∃ t, u = Value.int i t
  | .str x, u => ∃ t, u = Value.str x t
  | .byt b, u => ∃ t, u = Value.bytes b t
  | .flt b, u => ∃ t, u = Value.float b t
  | .ref a, u => u = Value.ref a
  | .ty n, u => u = Value.type n

abbrev Vals : List V → List Value → Prop := Paired RelV
theorem Vals.length {xs : List V} {us : List Value} (r : Vals xs us) : xs.length = us.length := Paired.length r
theorem Vals.get : ∀ {xs : List V} {us : List Value} {i : Nat} {x : V}, Vals xs us → xs[i]? = some x → ∃ u, us[i]? = some u ∧ RelV x u
  | _, _, _, _, .nil, e => by simp at e
  | _, _, 0, _, .cons r _, e => by simp at e; subst e; exact ⟨_, rfl, r⟩
  | _, _, i + 1, x, .cons _ t, e => by
    obtain ⟨u, h1, h2⟩ := Vals.get (i := i) (x := x) t (by simpa using e)
    exact ⟨u, by simpa using h1, h2⟩
theorem Vals.set {x : V} {u : Value} (r : RelV x u) : ∀ {xs : List V} {us : List Value} (i : Nat), Vals xs us → Vals (xs.set i x) (us.set i u)
  | _, _, _, .nil => .nil
  | _, _, 0, .cons _ t => .cons r t
  | _, _, i + 1, .cons q t => .cons q (Vals.set r i t)
theorem Vals.append : ∀ {xs ys : List V} {us ws : List Value}, Vals xs us → Vals ys ws → Vals (xs ++ ys) (us ++ ws)
  | _, _, _, _, .nil, s => s
  | _, _, _, _, .cons r t, s => .cons r (Vals.append t s)
theorem Vals.take : ∀ {xs : List V} {us : List Value} (n : Nat), Vals xs us → Vals (xs.take n) (us.take n)
  | _, _, 0, _ => .nil
  | _, _, _ + 1, .nil => .nil
  | _, _, n + 1, .cons r t => .cons r (Vals.take n t)
theorem Vals.drop : ∀ {xs : List V} {us : List Value} (n : Nat), Vals xs us → Vals (xs.drop n) (us.drop n)
  | _, _, 0, r => r
  | _, _, _ + 1, .nil => .nil
  | _, _, n + 1, .cons _ t => Vals.drop n t
def RelO : Option V → Option Value → Prop
  | some v, some u => RelV v u
  | none, none => True
  | _, _ => False
def KV {κ : Type} : List (κ × V) → List (κ × Value) → Prop := Paired fun (p : κ × V) (q : κ × Value) => p.1 = q.1 ∧ RelV p.2 q.2

/-- a key of a dict (00_mix): an int or a text -/
def kV : Key → V
  | .inl i => .int i
  | .inr x => .str x

/-- what stands at a tracked address -/
inductive HO where
  /-- a list -/
  | lst (xs : List V)
  /-- a tuple (never changes) -/
  | tup (xs : List V)
  /-- a dict whose keys are ints and texts; one whose keys are tuples of ints and texts (the empty one is both) -/
  | dK (kvs : List (Key × V)) | dT (kvs : List (List Key × V))
  /-- a set of ints: its members, its size -/
  | set (S : Int → Bool) (n : Nat)
  /-- an instance of the class at C, its dict at dx, its attributes -/
  | ins (C dx : Addr) (fs : List (Str × V))
  /-- the dict of the instance at x -/
  | own (x : Addr)
  /-- the dict of an exception -/
  | xd (fs : List (Str × V))
  /-- a bound method, f of x -/
  | met (f x : Addr)
  /-- a range object lo, lo + 1, .. below hi -/
  | rng (lo hi : Int)
  /-- a thing that is known to the object (the script; a dict while a loop walks it): read, never written while it is so -/
  | frz (o : Obj) (u : HO)
  /-- a code object's table -/
  | tbl (ps : Array Value)
  /-- any other thing, by what is true of its one object (a def of one's own: SetO a S n := HO.ext fun h => ..) -/
  | ext (φ : Heap → Prop)

abbrev Hp := Addr → Option HO
def upd (H : Hp) (a : Addr) (o : HO) : Hp := fun b => if b = a then some o else H b
theorem upd_same {H : Hp} {a : Addr} {o : HO} : upd H a o a = some o := by unfold upd; rw [if_pos rfl]
theorem upd_ne {H : Hp} {a b : Addr} {o : HO} (h : b ≠ a) : upd H a o b = H b := by unfold upd; rw [if_neg h]
/-- two objects of different content stand apart -/
theorem ne_of {H : Hp} {a b : Addr} {o u : HO} (h : H a = some o) (h' : H b = some u) (d : o ≠ u) : a ≠ b := by
  intro e; subst e; rw [h] at h'; exact d (Option.some.inj h')
theorem ne_of_none {H : Hp} {a b : Addr} {o : HO} (h : H a = some o) (h' : H b = none) : a ≠ b := by
  intro e; subst e; rw [h] at h'; cases h'

section
variable (P : Program) (w : World)
def ObjOk (H : Hp) (h : Heap) (a : Addr) : HO → Prop
  | .lst xs => xs.length ≤ sizeLine ∧ ∃ (its : List Value) (n : Nat), Vals xs its ∧ h.get? a = some { cls := .type "list", data := .seq its.toArray n }
  | .tup xs => xs.length ≤ sizeLine ∧ ∃ its : List Value, Vals xs its ∧ IsTup h a its.toArray
  | .dK kvs => kvs.length ≤ sizeLine ∧ (a == sysModules) = false ∧ ∃ vs, KV kvs vs ∧ h.DictOf (mixKind P w) a vs
  | .dT kvs => kvs.length ≤ sizeLine ∧ (a == sysModules) = false ∧ ∃ xs : List (List Key × Addr × Value),
      Paired (fun (p : List Key × V) (q : List Key × Addr × Value) => p.1 = q.1 ∧ H q.2.1 = some (.tup (p.1.map kV)) ∧ RelV p.2 q.2.2) kvs xs ∧
      ∃ o es ep, h.get? a = some o ∧ o.ExactDict ∧ o.data = .dict es ep ∧ es.toList = xs.map (entryOfKey (tupleKind (mixKind P w))) ∧ (xs.map (·.1)).Nodup
  | .set S n => h.SetOf (intKind P w) a S n
  | .ins C dx fs => H dx = some (.own a) ∧ fs.length ≤ 1000 ∧ dx ≠ a ∧ h.get? a = some (PySem.W.instObj C dx) ∧
      ∃ mA, h.Ns1 dx mA ∧ (∀ f, RelO (fs.lookup f) (mA f)) ∧ PySem.Within mA (fs.map (·.1))
  | .own _ => ∃ o, h.get? a = some o
  | .xd fs => ∃ mA, h.Ns1 a mA ∧ ∀ f, RelO (fs.lookup f) (mA f)
  | .rng lo hi => ∃ t u v, h.get? a = some { cls := .type "range", data := .fields #[.int lo t, .int hi u, .int 1 v] }
  | .frz o u => h.get? a = some o ∧ ObjOk H h a u
  | .tbl ps => h.get? a = some { cls := .none, data := .fields ps }
  | .met f x => h.get? a = some (PySem.W.methodObj (.ref f) (.ref x))
  | .ext φ => φ h ∧ (∃ o, h.get? a = some o) ∧ ∀ h1 h2 : Heap, φ h1 → (∀ o, h1.get? a = some o → h2.get? a = some o) → φ h2
/-- the abstract heap is held -/
def HOk (H : Hp) (h : Heap) : Prop := ∀ a o, H a = some o → ObjOk P w H h a o
end

section
variable {P : Program} {w : World} {H H' : Hp} {h h' : Heap} {a : Addr} {o : HO}
theorem ObjOk.lt (x : ObjOk P w H h a o) : a < h.objs.size := by
  cases o with
  | lst xs => obtain ⟨_, _, _, _, e⟩ := x; exact Heap.lt_size e
  | tup xs => obtain ⟨_, _, _, p⟩ := x; exact p.lt
  | dK kvs => obtain ⟨_, _, _, _, o, _, _, e, _⟩ := x; exact Heap.lt_size e
  | dT kvs => obtain ⟨_, _, _, _, o, _, _, e, _⟩ := x; exact Heap.lt_size e
  | set S n => obtain ⟨o, _, _, _, e, _⟩ := x; exact Heap.lt_size e
  | ins C dx fs => obtain ⟨_, _, _, e, _⟩ := x; exact Heap.lt_size e
  | own y => obtain ⟨_, e⟩ := x; exact Heap.lt_size e
  | xd fs => obtain ⟨_, ⟨_, _, _, e, _⟩, _⟩ := x; exact Heap.lt_size e
  | rng lo hi => obtain ⟨_, _, _, e⟩ := x; exact Heap.lt_size e
  | frz ob u => obtain ⟨e, _⟩ := x; exact Heap.lt_size e
  | tbl ps => exact Heap.lt_size (show h.get? a = some _ from x)
  | met f y => exact Heap.lt_size (show h.get? a = some _ from x)
  | ext φ => obtain ⟨_, ⟨_, e⟩, _⟩ := x; exact Heap.lt_size e
theorem Paired.mapP {α β : Type} {F G : α → β → Prop} : ∀ {l₁ : List α} {l₂ : List β}, Paired F l₁ l₂ → (∀ a b, F a b → G a b) → Paired G l₁ l₂
  | _, _, .nil, _ => .nil
  | _, _, .cons r t, f => .cons (f _ _ r) (Paired.mapP t f)
/-- what an object's description leans on: its own object, its own dict, the tuples -/
theorem ObjOk.stay (x : ObjOk P w H h a o) (k : ∀ b u, (b = a ∨ H b = some (.own a)) → h.get? b = some u → h'.get? b = some u)
    (ho : ∀ b, H b = some (.own a) → H' b = some (.own a)) (ht : ∀ b xs, H b = some (.tup xs) → H' b = some (.tup xs)) : ObjOk P w H' h' a o := by
  induction o with
  | lst xs => obtain ⟨z, its, n, r, e⟩ := x; exact ⟨z, its, n, r, k _ _ (.inl rfl) e⟩
  | tup xs => obtain ⟨z, its, r, ob, e, c⟩ := x; exact ⟨z, its, r, ob, k _ _ (.inl rfl) e, c⟩
  | dK kvs => obtain ⟨z, y, vs, r, ob, es, ep, e, c⟩ := x; exact ⟨z, y, vs, r, ob, es, ep, k _ _ (.inl rfl) e, c⟩
  | dT kvs =>
    obtain ⟨z, y, xs, r, ob, es, ep, e, c⟩ := x
    exact ⟨z, y, xs, Paired.mapP r fun p q z => ⟨z.1, ht _ _ z.2.1, z.2.2⟩, ob, es, ep, k _ _ (.inl rfl) e, c⟩
  | set S n => obtain ⟨ob, es, ep, t, e, c⟩ := x; exact ⟨ob, es, ep, t, k _ _ (.inl rfl) e, c⟩
  | ins C dx fs =>
    obtain ⟨d, z, ne, e, mA, ⟨od, es, ep, e2, c⟩, r⟩ := x
    exact ⟨ho _ d, z, ne, k _ _ (.inl rfl) e, mA, ⟨od, es, ep, k _ _ (.inr d) e2, c⟩, r⟩
  | own y => obtain ⟨ob, e⟩ := x; exact ⟨ob, k _ _ (.inl rfl) e⟩
  | xd fs => obtain ⟨mA, ⟨od, es, ep, e, c⟩, r⟩ := x; exact ⟨mA, ⟨od, es, ep, k _ _ (.inl rfl) e, c⟩, r⟩
  | rng lo hi => obtain ⟨t, u, v, e⟩ := x; exact ⟨t, u, v, k _ _ (.inl rfl) e⟩
  | frz ob u ih => obtain ⟨e, q⟩ := x; exact ⟨k _ _ (.inl rfl) e, ih q⟩
  | tbl ps =>
    have e : h.get? a = some { cls := .none, data := .fields ps } := x
    show h'.get? a = some { cls := .none, data := .fields ps }
    exact k a _ (.inl rfl) e
  | met f y =>
    have e : h.get? a = some (PySem.W.methodObj (.ref f) (.ref y)) := x
    show h'.get? a = some (PySem.W.methodObj (.ref f) (.ref y))
    exact k a _ (.inl rfl) e
  | ext φ => obtain ⟨p, ⟨o, e⟩, st⟩ := x; exact ⟨st _ _ p fun o q => k _ _ (.inl rfl) q, ⟨o, k _ _ (.inl rfl) e⟩, st⟩
theorem HOk.lt (x : HOk P w H h) (e : H a = some o) : a < h.objs.size := (x a o e).lt
theorem HOk.fresh (x : HOk P w H h) (e : h.objs.size ≤ a) : H a = none := by
  cases q : H a with
  | none => rfl
  | some u => exact absurd (Nat.lt_of_lt_of_le (x.lt q) e) (Nat.lt_irrefl _)
/-- every object of the heap is kept -/
theorem HOk.kept (x : HOk P w H h) (k : ∀ b u, h.get? b = some u → h'.get? b = some u) : HOk P w H h' := fun a o e =>
  (x a o e).stay (fun b u _ q => k b u q) (fun _ q => q) fun _ _ q => q
/-- a new object is laid and tracked -/
theorem HOk.laid (x : HOk P w H h) (k : ∀ b u, h.get? b = some u → h'.get? b = some u) (hp : h.objs.size ≤ a) (new : ObjOk P w (upd H a o) h' a o) : HOk P w (upd H a o) h' := fun b u e => by
  have hn := x.fresh hp
  by_cases hb : b = a
  · subst hb; rw [upd_same] at e; cases e; exact new
  · rw [upd_ne hb] at e
    exact (x b u e).stay (fun c v _ q => k c v q) (fun c q => by rw [upd_ne (ne_of_none q hn)]; exact q) fun c xs q => by rw [upd_ne (ne_of_none q hn)]; exact q
end

/-- what may be read as u: it is u, or a known u -/
def Rd (H : Hp) (a : Addr) (u : HO) : Prop := H a = some u ∨ ∃ o, H a = some (.frz o u)
theorem Rd.of {H : Hp} {a : Addr} {u : HO} (h : H a = some u) : Rd H a u := .inl h
theorem Rd.ok {P : Program} {w : World} {H : Hp} {h : Heap} {a : Addr} {u : HO} (r : Rd H a u) (x : HOk P w H h) : ObjOk P w H h a u := by
  rcases r with r | ⟨o, r⟩
  · exact x a u r
  · obtain ⟨_, q⟩ := x a _ r
    exact q
/-- what may be written -/
def Mut : Option HO → Prop
  | some (.lst _) => True
  | some (.dK _) => True
  | some (.dT _) => True
  | some (.set _ _) => True
  | some (.ins _ _ _) => True
  | some (.ext _) => True
  | _ => False
section
variable {P : Program} {w : World} {H : Hp} {h h' : Heap} {x e : Addr} {o' : HO}
/-- the object at e is changed: x itself, or the dict of the instance x -/
theorem HOk.write (ok : HOk P w H h) (mu : Mut (H x)) (he : e = x ∨ H e = some (.own x)) (k : ∀ b u, b ≠ e → h.get? b = some u → h'.get? b = some u) (heo : ∃ u, h'.get? e = some u)
    (new : ObjOk P w (upd H x o') h' x o') : HOk P w (upd H x o') h' := fun b u q => by
  have nown : ∀ c y, H c = some (.own y) → c ≠ x := fun c y r z => by subst z; rw [r] at mu; exact mu
  have ntup : ∀ c xs, H c = some (.tup xs) → c ≠ x := fun c xs r z => by subst z; rw [r] at mu; exact mu
  by_cases hb : b = x
  · subst hb; rw [upd_same] at q; cases q; exact new
  · rw [upd_ne hb] at q
    by_cases hbe : b = e
    · have q' : H b = some (.own x) := by
        rcases he with z | z
        · exact absurd (hbe.trans z) hb
        · rw [hbe]; exact z
      rw [q] at q'; cases q'
      obtain ⟨v, hv⟩ := heo
      exact ⟨v, by rw [hbe]; exact hv⟩
    · refine (ok b u q).stay (fun c v hc r => k c v ?_ r) (fun c r => by rw [upd_ne (nown c b r)]; exact r) fun c xs r => by rw [upd_ne (ntup c xs r)]; exact r
      rcases hc with rfl | hc
      · exact hbe
      · rintro rfl
        rcases he with z | z
        · exact nown c b hc z
        · rw [hc] at z; cases z; exact hb rfl
end

/-! ### kept unless tracked; of the frames at fs (the callers') the slots may change (an exception that passes writes there); of the records at ex (iterators) nothing is said -/
structure Un (fs ex : List Addr) (H H' : Hp) (h h' : Heap) : Prop where
  keep : ∀ b o, h.get? b = some o → H b = none → b ∉ fs → b ∉ ex → h'.get? b = some o
  slot : ∀ b o, h.get? b = some o → H b = none → b ∈ fs → b ∉ ex → ∃ sl, h'.get? b = some { o with slots := sl }
  free : ∀ b o, h.get? b = some o → H b = none → b ∉ ex → H' b = none
  there : ∀ b o, h.get? b = some o → b ∉ ex → ∃ o', h'.get? b = some o'
  tups : ∀ b xs, H b = some (.tup xs) → H' b = some (.tup xs)
  frzs : ∀ b o u, H b = some (.frz o u) → H' b = some (.frz o u)
  tbls : ∀ b ps, H b = some (.tbl ps) → ∃ more, H' b = some (.tbl (ps ++ more))
section
variable {fs fs' ex ex' : List Addr} {H H1 H2 : Hp} {h h1 h2 h' : Heap} {a x e : Addr} {o : HO}
theorem Un.any (u : Un fs ex H H1 h h1) {b : Addr} {ob : Obj} (q : h.get? b = some ob) (n : H b = none) (hx : b ∉ ex) : ∃ sl, h1.get? b = some { ob with slots := sl } := by
  by_cases hb : b ∈ fs
  · exact u.slot b ob q n hb hx
  · exact ⟨ob.slots, u.keep b ob q n hb hx⟩
theorem Un.trans (a : Un fs ex H H1 h h1) (b : Un fs ex H1 H2 h1 h2) : Un fs ex H H2 h h2 where
  keep := fun c ob q n hc hx => b.keep c ob (a.keep c ob q n hc hx) (a.free c ob q n hx) hc hx
  slot := fun c ob q n hc hx => by
    obtain ⟨sl, e1⟩ := a.slot c ob q n hc hx
    obtain ⟨sl', e2⟩ := b.slot c _ e1 (a.free c ob q n hx) hc hx
    exact ⟨sl', e2⟩
  free := fun c ob q n hx => by
    obtain ⟨o', e1⟩ := a.there c ob q hx
    exact b.free c o' e1 (a.free c ob q n hx) hx
  there := fun c ob q hx => by
    obtain ⟨o', e1⟩ := a.there c ob q hx
    exact b.there c o' e1 hx
  tups := fun c xs q => b.tups c xs (a.tups c xs q)
  frzs := fun c ob xs q => b.frzs c ob xs (a.frzs c ob xs q)
  tbls := fun c ps q => by
    obtain ⟨m1, e1⟩ := a.tbls c ps q
    obtain ⟨m2, e2⟩ := b.tbls c _ e1
    exact ⟨m1 ++ m2, by rw [e2, Array.append_assoc]⟩
theorem Un.kept (k : ∀ b u, h.get? b = some u → h'.get? b = some u) : Un fs ex H H h h' :=
  ⟨fun b ob q _ _ _ => k b ob q, fun b ob q _ _ _ => ⟨ob.slots, k b ob q⟩, fun _ _ _ n _ => n, fun b ob q _ => ⟨ob, k b ob q⟩, fun _ _ q => q, fun _ _ _ q => q, fun _ ps q => ⟨#[], by rw [q]; simp⟩⟩
theorem Un.refl : Un fs ex H H h h := Un.kept fun _ _ q => q
theorem Un.laid (k : ∀ b u, h.get? b = some u → h'.get? b = some u) (hp : h.objs.size ≤ a) (hn : H a = none) : Un fs ex H (upd H a o) h h' where
  keep := fun b u q _ _ _ => k b u q
  slot := fun b u q _ _ _ => ⟨u.slots, k b u q⟩
  free := fun b u q n _ => by rw [upd_ne (Nat.ne_of_lt (Nat.lt_of_lt_of_le (Heap.lt_size q) hp))]; exact n
  there := fun b u q _ => ⟨u, k b u q⟩
  tups := fun b xs q => by rw [upd_ne (ne_of_none q hn)]; exact q
  frzs := fun b u xs q => by rw [upd_ne (ne_of_none q hn)]; exact q
  tbls := fun b ps q => ⟨#[], by rw [upd_ne (ne_of_none q hn), q]; simp⟩
theorem Un.write (mu : Mut (H x)) (he : e = x ∨ H e = some (.own x)) (k : ∀ b u, b ≠ e → h.get? b = some u → h'.get? b = some u) (heo : ∃ u, h'.get? e = some u) : Un fs ex H (upd H x o) h h' := by
  have hx : ∀ b, H b = none → b ≠ x := fun b n z => by subst z; rw [n] at mu; exact mu
  have hb : ∀ b, H b = none → b ≠ e := fun b n z => by
    subst z
    rcases he with r | r
    · exact hx b n r
    · rw [n] at r; cases r
  have hm : ∀ b u, H b = some u → ¬ Mut (some u) → b ≠ x := fun b u q nm z => by subst z; rw [q] at mu; exact nm mu
  refine ⟨fun b u q n _ _ => k b u (hb b n) q, fun b u q n _ _ => ⟨u.slots, k b u (hb b n) q⟩, fun b u q n _ => by rw [upd_ne (hx b n)]; exact n, fun b u q _ => ?_,
    fun b xs q => by rw [upd_ne (hm b _ q fun z => z)]; exact q, fun b u xs q => by rw [upd_ne (hm b _ q fun z => z)]; exact q, fun b ps q => ⟨#[], by rw [upd_ne (hm b _ q fun z => z), q]; simp⟩⟩
  by_cases hbe : b = e
  · subst hbe; exact heo
  · exact ⟨u, k b u hbe q⟩
theorem Un.mono (u : Un fs ex H H1 h h1) (hs : ∀ b ∈ fs, b ∈ fs') (hx : ∀ b ∈ ex, b ∈ ex') : Un fs' ex' H H1 h h1 :=
  ⟨fun b ob q n hb he => u.keep b ob q n (fun z => hb (hs b z)) fun z => he (hx b z), fun _ _ q n _ he => u.any q n fun z => he (hx _ z), fun b ob q n he => u.free b ob q n fun z => he (hx b z), fun b ob q he => u.there b ob q fun z => he (hx b z), u.tups, u.frzs, u.tbls⟩
end

/-! ### the heap without what is tracked -/
def trk (h : Heap) (H : Hp) : List Addr := (List.range h.objs.size).filter fun a => (H a).isSome
def hidT (h : Heap) (H : Hp) : Heap := PySem.W.hideAll h (trk h H)
theorem hidT_size (h : Heap) (H : Hp) : (hidT h H).objs.size = h.objs.size := PySem.W.hideAll_size _ _
theorem hidT_get {h : Heap} {H : Hp} {b : Addr} {o : Obj} (e : h.get? b = some o) (n : H b = none) : (hidT h H).get? b = some o :=
  PySem.W.hideAll_get _ e fun hm => by
    have q : (H b).isSome = true := (List.mem_filter.mp hm).2
    rw [n] at q; simp at q
theorem of_hidT {h : Heap} {H : Hp} {b : Addr} {o : Obj} (e : (hidT h H).get? b = some o) : h.get? b = some o ∧ H b = none := by
  have e' : h.get? b = some o := PySem.W.of_hideAll (trk h H) e
  refine ⟨e', ?_⟩
  cases q : H b with
  | none => rfl
  | some x =>
    have hm : b ∈ trk h H := List.mem_filter.mpr ⟨List.mem_range.mpr (Heap.lt_size e'), by simp [q]⟩
    have z : (hidT h H).get? b = none := PySem.W.hideAll_none (trk h H) hm
    rw [z] at e; cases e

/-! ### OpenK's ledger, filled with every new object but one -/
def allNews (g h : Heap) (L : Addr) : List (Addr × Obj) := (List.range h.objs.size).filterMap fun a => if a = L ∨ (g.get? a).isSome = true then none else (h.get? a).map fun o => (a, o)
def rest (g h : Heap) (L d : Addr) : List (Addr × Obj) := (allNews g h L).filter fun p => decide (p.1 ≠ d)
end L2

namespace L2
open PySem PySem.Spec PyProof.Rows

/-- the module's facts, over the base: the heap at the law's entry without what is tracked there -/
structure Mod (K : PySem.W.Frag) (mg : Str → Option Value) (base : Heap) : Prop where
  kin : K.In base
  glob : base.Ns mainGlobals mg
  blt : ∃ mb, base.Ns builtinsNs mb ∧ ∀ x : Str, x ≠ "__name__" → mb x = bootBuiltins x
  nolimit : base.NoLimit

/-- the context: a def's body (or a comprehension's block) running. base: fixed through the whole law; s₀, H₀: the entry; outer: the frames whose slots others may change (a def's callers); stack: all frames that run;
   ex: iterators that were made ahead of the entry and are walked here (a comprehension's); fn: the names whose cells were made at the entry (a def: all; a comprehension's block: its own); calm: not within an except suite; pn: pins that every state bears; xe: what is wanted of an exception that leaves the code -/
structure Cx where
  prog : Program
  w : World
  K : PySem.W.Frag
  mg : Str → Option Value
  base : Heap
  A : Around
  N : List Str
  s₀ : Shared
  H₀ : Hp
  env : Env
  outer : List Env
  stack : List Env
  ex : List Addr
  fn : Str → Bool
  calm : Bool
  pn : List (Addr × Obj)
  xe : Value → Shared → Prop
/-- the callers' frames -/
def frs (l : List Env) : List Addr := l.filterMap (·.frame)
abbrev Cx.fs (X : Cx) : List Addr := frs X.outer

def Vis (sc : Scope) (x : Str) : Prop := sc.names.lookup x = some .local ∨ sc.names.lookup x = some .cell ∨ sc.names.lookup x = some .free
def Loc (sc : Scope) (x : Str) : Prop := sc.names.lookup x = some .local ∨ sc.names.lookup x = some .cell
def Look (env : Env) (h : Heap) (m : Str → Option Value) (x : Str) (u : Value) : Prop :=
  (env.kindOf x = some .local ∧ m x = some u) ∨ ((env.kindOf x = some .cell ∨ env.kindOf x = some .free) ∧ ∃ c, env.cells.lookup x = some c ∧ h.IsCell c (some u))

structure Cx.Ok (X : Cx) : Prop where
  mod : Mod X.K X.mg X.base
  kind : X.env.scope.kind = .function
  glob : X.env.globals = mainGlobals
  blt : X.env.builtins = builtinsNs
  above : X.s₀.heap.objs.size ≤ X.env.locals
  inj : ∀ x y c, X.env.cells.lookup x = some c → X.env.cells.lookup y = some c → x = y
  has : ∀ x, (X.env.kindOf x = some .cell ∨ X.env.kindOf x = some .free) → ∃ c, X.env.cells.lookup x = some c
  cab : ∀ x c, X.fn x = true → X.env.cells.lookup x = some c → X.s₀.heap.objs.size ≤ c
  hd : X.calm = true → X.A.handled = none
  frames : X.A.frames = some X.stack
  stk : X.stack = X.outer ∨ (X.stack = X.env :: X.outer ∧ X.env.frame = some X.env.locals)
  exf : ∀ b ∈ X.ex, b ≠ X.env.locals ∧ ∀ x c, X.env.cells.lookup x = some c → c ≠ b
  bs : ∀ b o, X.base.get? b = some o → X.s₀.heap.get? b = some o ∧ X.H₀ b = none
  bsz : X.base.objs.size ≤ X.s₀.heap.objs.size
  noex : ∀ b o, X.base.get? b = some o → b ∉ X.ex
  exfs : ∀ b ∈ X.ex, b ∉ X.fs
  funs : X.s₀.heap.FunFrames X.base X.outer
  frf : ∀ b ∈ X.fs, X.H₀ b = none

structure Inv (X : Cx) (pins : List (Addr × Obj)) (σ : List (Option V)) (H : Hp) (s : Shared) : Prop where
  ok : X.Ok
  os : s.os = X.s₀.os
  bare : AllBare s.gens
  base : Un X.fs X.ex X.H₀ H X.s₀.heap s.heap
  loc : ∃ m, s.heap.Ns X.env.locals m ∧ ∀ (i : Nat) (x : Str) (v : V), X.N[i]? = some x → σ[i]? = some (some v) → Vis X.env.scope x → ∃ u, RelV v u ∧ Look X.env s.heap m x u
  cell : ∀ x c, X.env.cells.lookup x = some c → ∃ v, s.heap.IsCell c v
  free : H X.env.locals = none
  freeC : ∀ x c, X.env.cells.lookup x = some c → H c = none
  pin : ∀ p ∈ X.pn ++ pins, s.heap.get? p.1 = some p.2 ∧ H p.1 = none ∧ p.1 ≠ X.env.locals ∧ p.1 ∉ X.fs ∧ ∀ v, p.2.data ≠ .cell v
  hok : HOk X.prog X.w H s.heap
  len : σ.length = X.N.length

section
variable {X : Cx} {pins : List (Addr × Obj)} {σ : List (Option V)} {H H' : Hp} {s : Shared} {h' : Heap}

theorem Cx.Ok.nofr (ok : X.Ok) {b : Addr} {o : Obj} (e : X.base.get? b = some o) : b ∉ X.fs := fun hb => by
  have := (ok.funs.mem hb).1
  rw [e] at this; cases this
theorem Inv.bs (I : Inv X pins σ H s) : ∀ b o, X.base.get? b = some o → s.heap.get? b = some o ∧ H b = none := fun b o e =>
  ⟨I.base.keep b o (I.ok.bs b o e).1 (I.ok.bs b o e).2 (I.ok.nofr e) (I.ok.noex b o e), I.base.free b o (I.ok.bs b o e).1 (I.ok.bs b o e).2 (I.ok.noex b o e)⟩
theorem Inv.bk (I : Inv X pins σ H s) : ∀ b o, X.base.get? b = some o → s.heap.get? b = some o := fun b o e => (I.bs b o e).1
theorem Inv.mod (I : Inv X pins σ H s) : Mod X.K X.mg X.base := I.ok.mod
theorem Inv.kIn (I : Inv X pins σ H s) : X.K.In s.heap := I.ok.mod.kin.keeps I.bk
theorem Inv.nolimit (I : Inv X pins σ H s) : s.heap.NoLimit := I.ok.mod.nolimit.keeps I.bk
/-- the frame over the base: for OpenK's rules (K.In X.base is I.mod.kin) -/
theorem Inv.fr (I : Inv X pins σ H s) : ∃ m, Fr X.base X.env.locals s.heap m :=
  let ⟨m, hn, _⟩ := I.loc
  ⟨m, hn, I.bk, Nat.le_trans I.ok.bsz I.ok.above⟩
theorem Inv.lt (I : Inv X pins σ H s) : X.env.locals < s.heap.objs.size := let ⟨_, hn, _⟩ := I.loc; hn.lt
theorem Inv.sz (I : Inv X pins σ H s) : X.s₀.heap.objs.size ≤ s.heap.objs.size := Nat.le_trans I.ok.above (Nat.le_of_lt I.lt)
theorem Inv.nofs (I : Inv X pins σ H s) {a : Addr} (h : s.heap.objs.size ≤ a) : a ∉ X.fs := fun hb => by
  obtain ⟨_, o, ho, _⟩ := I.ok.funs.mem hb
  exact absurd (Nat.lt_of_lt_of_le (Heap.lt_size ho) (Nat.le_trans I.sz h)) (Nat.lt_irrefl _)
theorem Inv.cne (I : Inv X pins σ H s) : ∀ x c, X.env.cells.lookup x = some c → c ≠ X.env.locals := fun x c e z => by
  obtain ⟨v, o, ho, hd⟩ := I.cell x c e
  obtain ⟨m, ⟨o', es, ep, ho', hd', _⟩, _⟩ := I.loc
  rw [z, ho'] at ho; cases ho; rw [hd'] at hd; cases hd
theorem Inv.funs (I : Inv X pins σ H s) : s.heap.FunFrames X.base X.outer := by
  have all : ∀ (l : List Env), (∀ b ∈ frs l, b ∈ X.fs) → X.s₀.heap.FunFrames X.base l → s.heap.FunFrames X.base l := by
    intro l
    induction l with
    | nil => intro _ _; trivial
    | cons env r ih =>
      intro hs hl
      obtain ⟨hk, ⟨L, o, hf, hn, ho, hd⟩, hr⟩ := hl
      have hL : L ∈ X.fs := hs L (by unfold frs; rw [List.filterMap_cons, hf]; exact List.mem_cons_self)
      obtain ⟨sl, e⟩ := I.base.slot L o ho (I.ok.frf L hL) hL fun z => I.ok.exfs L z hL
      exact ⟨hk, ⟨L, _, hf, hn, e, hd⟩, ih (fun b hb => hs b (by unfold frs; rw [List.filterMap_cons, hf]; exact List.mem_cons_of_mem _ hb)) hr⟩
  exact all X.outer (fun _ hb => hb) I.ok.funs

/-- the frames that run, for a call -/
theorem Inv.stack (I : Inv X pins σ H s) : s.heap.FunFrames X.base X.stack := by
  rcases I.ok.stk with e | ⟨e, hf⟩
  · rw [e]; exact I.funs
  · rw [e]
    obtain ⟨m, hn, _⟩ := I.loc
    refine .cons (by rw [I.ok.kind]; decide) hf hn ?_ I.funs
    exact Heap.get?_none_of_le (Nat.le_trans I.ok.bsz I.ok.above)
theorem Inv.stkSub (I : Inv X pins σ H s) : ∀ b ∈ frs X.stack, b ∈ X.env.locals :: X.fs := fun b hb => by
  rcases I.ok.stk with e | ⟨e, hf⟩
  · rw [e] at hb; exact List.mem_cons_of_mem _ hb
  · rw [e] at hb
    unfold frs at hb
    rw [List.filterMap_cons, hf] at hb
    exact hb
theorem Inv.stkFree (I : Inv X pins σ H s) : ∀ b ∈ frs X.stack, H b = none := fun b hb => by
  rcases List.mem_cons.mp (I.stkSub b hb) with e | hb
  · rw [e]; exact I.free
  · obtain ⟨_, o, ho, _⟩ := I.ok.funs.mem hb
    exact I.base.free b o ho (I.ok.frf b hb) fun z => I.ok.exfs b z hb

/-- THE STEP: the untracked objects but the frame and the records at ch are kept (the callers' frames up to slots), the frame's map is kept, the new abstract heap is held -/
theorem Inv.step {g' : Array GenState} {t' : Nat} {d' : Drawn} {ch : List Addr} (I : Inv X pins σ H s)
    (hch : ∀ b ∈ ch, (b ∈ X.ex ∨ X.s₀.heap.objs.size ≤ b) ∧ b ≠ X.env.locals ∧ (∀ x c, X.env.cells.lookup x = some c → c ≠ b) ∧ ∀ p ∈ X.pn ++ pins, p.1 ≠ b)
    (keep : ∀ b o, b ≠ X.env.locals → b ∉ X.fs → b ∉ ch → s.heap.get? b = some o → H b = none → h'.get? b = some o)
    (slot : ∀ b o, b ≠ X.env.locals → b ∈ X.fs → b ∉ ch → s.heap.get? b = some o → H b = none → ∃ sl, h'.get? b = some { o with slots := sl }) (free : ∀ b o, b ∉ ch → s.heap.get? b = some o → H b = none → H' b = none)
    (there : ∀ b o, b ∉ ch → s.heap.get? b = some o → ∃ o', h'.get? b = some o')
    (tups : ∀ b xs, H b = some (.tup xs) → H' b = some (.tup xs)) (frzs : ∀ b o u, H b = some (.frz o u) → H' b = some (.frz o u)) (tbls : ∀ b ps, H b = some (.tbl ps) → ∃ more, H' b = some (.tbl (ps ++ more)))
    (ns : ∀ m, s.heap.Ns X.env.locals m → h'.Ns X.env.locals m) (hok : HOk X.prog X.w H' h') (hg : AllBare g') :
    Inv X pins σ H' { s with heap := h', gens := g', drawn := d', toks := t' } := by
  have neL : ∀ b o, X.s₀.heap.get? b = some o → b ≠ X.env.locals := fun b o e => Nat.ne_of_lt (Nat.lt_of_lt_of_le (Heap.lt_size e) I.ok.above)
  have neC : ∀ b o, X.s₀.heap.get? b = some o → b ∉ X.ex → b ∉ ch := fun b o e hx hb => by
    rcases (hch b hb).1 with z | z
    · exact hx z
    · exact absurd (Nat.lt_of_lt_of_le (Heap.lt_size e) z) (Nat.lt_irrefl _)
  have cellK : ∀ x c, X.env.cells.lookup x = some c → ∀ v, s.heap.IsCell c v → h'.IsCell c v := fun x c e v ⟨o, ho, hd⟩ => by
    have nch : c ∉ ch := fun z => (hch c z).2.2.1 x c e rfl
    by_cases hc : c ∈ X.fs
    · obtain ⟨sl, q⟩ := slot c o (I.cne x c e) hc nch ho (I.freeC x c e)
      exact ⟨_, q, hd⟩
    · exact ⟨o, keep c o (I.cne x c e) hc nch ho (I.freeC x c e), hd⟩
  refine ⟨I.ok, I.os, hg, ⟨fun b o e n hb hx => ?_, fun b o e n hb hx => ?_, fun b o e n hx => ?_, fun b o e hx => ?_, fun b xs e => tups b xs (I.base.tups b xs e), fun b o xs e => frzs b o xs (I.base.frzs b o xs e), fun b ps e => ?_⟩, ?_, fun x c e => ?_, ?_, fun x c e => ?_, fun p hp => ?_, hok, I.len⟩
  · exact keep b o (neL b o e) hb (neC b o e hx) (I.base.keep b o e n hb hx) (I.base.free b o e n hx)
  · obtain ⟨sl, e1⟩ := I.base.slot b o e n hb hx
    obtain ⟨sl', e2⟩ := slot b _ (neL b o e) hb (neC b o e hx) e1 (I.base.free b o e n hx)
    exact ⟨sl', e2⟩
  · obtain ⟨o', e1⟩ := I.base.there b o e hx
    exact free b o' (neC b o e hx) e1 (I.base.free b o e n hx)
  · obtain ⟨o', e1⟩ := I.base.there b o e hx
    exact there b o' (neC b o e hx) e1
  · obtain ⟨m1, e1⟩ := I.base.tbls b ps e
    obtain ⟨m2, e2⟩ := tbls b _ e1
    exact ⟨m1 ++ m2, by rw [e2, Array.append_assoc]⟩
  · obtain ⟨m, hn, hl⟩ := I.loc
    refine ⟨m, ns m hn, fun i x v e1 e2 e3 => ?_⟩
    obtain ⟨u, r, l⟩ := hl i x v e1 e2 e3
    refine ⟨u, r, ?_⟩
    rcases l with l | ⟨k, c, e, z⟩
    · exact .inl l
    · exact .inr ⟨k, c, e, cellK x c e _ z⟩
  · obtain ⟨v, z⟩ := I.cell x c e
    exact ⟨v, cellK x c e v z⟩
  · obtain ⟨m, ⟨o, _, _, ho, _⟩, _⟩ := I.loc
    exact free _ o (fun z => (hch _ z).2.1 rfl) ho I.free
  · obtain ⟨v, o, ho, hd⟩ := I.cell x c e
    exact free c o (fun z => (hch c z).2.2.1 x c e rfl) ho (I.freeC x c e)
  · obtain ⟨e, n, ne, nf, d⟩ := I.pin p hp
    have nch : p.1 ∉ ch := fun z => (hch p.1 z).2.2.2 p hp rfl
    exact ⟨keep p.1 p.2 ne nf nch e n, free p.1 p.2 nch e n, ne, nf, d⟩
/-- .. where the frame's own object is kept too -/
theorem Inv.un {t' : Nat} (I : Inv X pins σ H s) (u : Un X.fs [] H H' s.heap h') (hok : HOk X.prog X.w H' h') : Inv X pins σ H' { s with heap := h', toks := t' } := by
  obtain ⟨m, ⟨o, es, ep, ho, r⟩, _⟩ := id I.loc
  obtain ⟨sl, hL⟩ := u.any ho I.free (by simp)
  exact I.step (g' := s.gens) (d' := s.drawn) (ch := []) (fun _ z => nomatch z) (fun b o _ hb _ e n => u.keep b o e n hb (by simp)) (fun b o _ hb _ e n => u.slot b o e n hb (by simp)) (fun b o _ e n => u.free b o e n (by simp)) (fun b o _ e => u.there b o e (by simp)) u.tups u.frzs u.tbls (fun m' hm => by
    obtain ⟨o', es', ep', ho', r'⟩ := hm
    rw [ho] at ho'; cases ho'
    exact ⟨_, es', ep', hL, r'⟩) hok I.bare
/-- behind a call (or a comprehension's block): the slots of this frame may have changed too, the records at ch may have turned -/
theorem Inv.call {g' : Array GenState} {t' : Nat} {d' : Drawn} {ch : List Addr} (I : Inv X pins σ H s) (u : Un (frs X.stack) ch H H' s.heap h') (hok : HOk X.prog X.w H' h') (hg : AllBare g')
    (hch : ∀ b ∈ ch, (b ∈ X.ex ∨ X.s₀.heap.objs.size ≤ b) ∧ b ≠ X.env.locals ∧ (∀ x c, X.env.cells.lookup x = some c → c ≠ b) ∧ ∀ p ∈ X.pn ++ pins, p.1 ≠ b) :
    Inv X pins σ H' { s with heap := h', gens := g', drawn := d', toks := t' } := by
  obtain ⟨m, ⟨o, es, ep, ho, r⟩, _⟩ := id I.loc
  obtain ⟨sl, hL⟩ := u.any ho I.free fun z => (hch _ z).2.1 rfl
  exact I.step (ch := ch) hch (fun b o hL hb hc e n => u.keep b o e n (fun z => (List.mem_cons.mp (I.stkSub b z)).elim hL hb) hc) (fun b o _ _ hc e n => u.any e n hc) (fun b o hc e n => u.free b o e n hc) (fun b o hc e => u.there b o e hc) u.tups u.frzs u.tbls (fun m' hm => by
    obtain ⟨o', es', ep', ho', r'⟩ := hm
    rw [ho] at ho'; cases ho'
    exact ⟨_, es', ep', hL, r'⟩) hok hg
/-- an untracked record of ours (an iterator) has turned -/
theorem Inv.turned {t' : Nat} {it : Addr} (I : Inv X pins σ H s) (k : ∀ b o, b ≠ it → s.heap.get? b = some o → h'.get? b = some o) (hn : H it = none) (hL : it ≠ X.env.locals)
    (h1 : it ∈ X.ex ∨ X.s₀.heap.objs.size ≤ it) (h2 : ∀ x c, X.env.cells.lookup x = some c → c ≠ it) (h3 : ∀ p ∈ X.pn ++ pins, p.1 ≠ it) : Inv X pins σ H { s with heap := h', toks := t' } := by
  have nit : ∀ b u, H b = some u → b ≠ it := fun b u e z => by rw [z, hn] at e; cases e
  refine I.step (g' := s.gens) (d' := s.drawn) (ch := [it]) (fun b hb => ?_) (fun b o _ _ hc e _ => k b o (fun z => hc (by simp [z])) e) (fun b o _ _ hc e _ => ⟨o.slots, k b o (fun z => hc (by simp [z])) e⟩) (fun _ _ _ _ n => n)
    (fun b o hc e => ⟨o, k b o (fun z => hc (by simp [z])) e⟩) (fun _ _ e => e) (fun _ _ _ e => e) (fun b ps e => ⟨#[], by rw [e]; simp⟩) (fun m hm => ?_) (fun b u e => ?_) I.bare
  · have e : b = it := by simpa using hb
    subst e
    exact ⟨h1, hL, h2, h3⟩
  · obtain ⟨o, es, ep, ho, r⟩ := hm
    exact ⟨o, es, ep, k _ o (Ne.symm hL) ho, r⟩
  · refine (I.hok b u e).stay (fun c v hc q => k c v ?_ q) (fun _ q => q) fun _ _ q => q
    rcases hc with z | z
    · rw [z]; exact nit b u e
    · exact nit c _ z
theorem Inv.tok (I : Inv X pins σ H s) (t : Nat) : Inv X pins σ H { s with toks := t } := I.un (h' := s.heap) (t' := t) Un.refl I.hok
/-- all objects kept -/
theorem Inv.kept {t' : Nat} (I : Inv X pins σ H s) (k : ∀ b u, s.heap.get? b = some u → h'.get? b = some u) : Inv X pins σ H { s with heap := h', toks := t' } := I.un (Un.kept k) (I.hok.kept k)
/-- a new object laid and tracked -/
theorem Inv.laid {a : Addr} {o : HO} {t' : Nat} (I : Inv X pins σ H s) (k : ∀ b u, s.heap.get? b = some u → h'.get? b = some u) (hp : s.heap.objs.size ≤ a) (new : ObjOk X.prog X.w (upd H a o) h' a o) :
    Inv X pins σ (upd H a o) { s with heap := h', toks := t' } := I.un (Un.laid k hp (I.hok.fresh hp)) (I.hok.laid k hp new)
/-- an object written -/
theorem Inv.write {x e : Addr} {o : HO} {t' : Nat} (I : Inv X pins σ H s) (mu : Mut (H x)) (he : e = x ∨ H e = some (.own x)) (k : ∀ b u, b ≠ e → s.heap.get? b = some u → h'.get? b = some u) (heo : ∃ u, h'.get? e = some u)
    (new : ObjOk X.prog X.w (upd H x o) h' x o) : Inv X pins σ (upd H x o) { s with heap := h', toks := t' } := I.un (Un.write mu he k heo) (I.hok.write mu he k heo new)
theorem Inv.pins_of {pins' : List (Addr × Obj)} (I : Inv X pins σ H s) (h : ∀ p ∈ pins', s.heap.get? p.1 = some p.2 ∧ H p.1 = none ∧ p.1 ≠ X.env.locals ∧ p.1 ∉ X.fs ∧ ∀ v, p.2.data ≠ .cell v) : Inv X pins' σ H s :=
  ⟨I.ok, I.os, I.bare, I.base, I.loc, I.cell, I.free, I.freeC, fun p hp => (List.mem_append.mp hp).elim (fun z => I.pin p (List.mem_append_left _ z)) (h p), I.hok, I.len⟩

theorem nodup_ix {N : List Str} (hN : N.Nodup) {i j : Nat} {x : Str} (a : N[i]? = some x) (b : N[j]? = some x) : i = j := by
  obtain ⟨h1, e1⟩ := List.getElem?_eq_some_iff.mp a
  obtain ⟨h2, e2⟩ := List.getElem?_eq_some_iff.mp b
  exact (List.getElem_inj hN).mp (e1.trans e2.symm)

/-- a name is stored; what changed -/
theorem store_ok2 {M : Model} {A : Around} {E : Value → Shared → Prop} {i : Nat} {x : Str} {v : V} {u : Value} {Q : Unit → Shared → Prop} (I : Inv X pins σ H s) (hN : X.N.Nodup) (hi : X.N[i]? = some x) (hx : Loc X.env.scope x) (r : RelV v u)
    (h : ∀ s', Inv X pins (σ.set i (some v)) H s' → (∃ a, Heap.SameBut a s.heap s'.heap ∧ (a = X.env.locals ∨ X.env.cells.lookup x = some a)) → Q () s') (hf : X.fn x = true ∨ X.env.scope.names.lookup x = some .local := by first | exact .inl rfl | exact .inr rfl | assumption) : wpAny M A (storeName X.env x u) Q E s := by
  obtain ⟨m, hn, hl⟩ := id I.loc
  have hcls : (X.env.scope.kind == .class || (X.env.scope.kind == .module && X.env.locals != X.env.globals)) = false := by rw [I.ok.kind]; rfl
  have hiσ : i < σ.length := by rw [I.len]; exact (List.getElem?_eq_some_iff.mp hi).1
  have cne := I.cne
  have tracked : ∀ {a : Addr} {h' : Heap}, (∃ o, s.heap.get? a = some o ∧ H a = none) → Heap.SameBut a s.heap h' → HOk X.prog X.w H h' := fun {a h'} ha hs b ob e => by
    obtain ⟨_, _, hfree⟩ := ha
    refine (I.hok b ob e).stay (fun c w' hc q => (hs.2 c ?_).trans q) (fun _ q => q) fun _ _ q => q
    rintro rfl
    rcases hc with rfl | hc
    · rw [hfree] at e; cases e
    · rw [hfree] at hc; cases hc
  rcases hx with hk | hk
  · refine wpAny_storeName_local hk hn (fun h' hn' hs => ?_) hcls
    obtain ⟨oL, _, _, hoL, _⟩ := id hn
    refine h _ ⟨I.ok, I.os, I.bare, ⟨fun b o e n hb hx => ?_, fun b o e n hb hx => ?_, I.base.free, fun b o e hx => ?_, I.base.tups, I.base.frzs, I.base.tbls⟩, ⟨_, hn', fun j y v' e1 e2 e3 => ?_⟩, fun y c e => ?_, I.free, I.freeC, fun p hp => ?_, tracked ⟨oL, hoL, I.free⟩ hs, by simpa using I.len⟩ ⟨_, hs, .inl rfl⟩
    · exact (hs.2 b (Nat.ne_of_lt (Nat.lt_of_lt_of_le (Heap.lt_size e) I.ok.above))).trans (I.base.keep b o e n hb hx)
    · obtain ⟨sl, e1⟩ := I.base.slot b o e n hb hx
      exact ⟨sl, (hs.2 b (Nat.ne_of_lt (Nat.lt_of_lt_of_le (Heap.lt_size e) I.ok.above))).trans e1⟩
    · obtain ⟨o', e1⟩ := I.base.there b o e hx
      exact ⟨o', (hs.2 b (Nat.ne_of_lt (Nat.lt_of_lt_of_le (Heap.lt_size e) I.ok.above))).trans e1⟩
    · by_cases hj : j = i
      · subst hj
        rw [hi] at e1; cases e1
        rw [List.getElem?_set_self hiσ] at e2
        cases e2
        exact ⟨u, r, .inl ⟨hk, by simp⟩⟩
      · rw [List.getElem?_set_ne (Ne.symm hj)] at e2
        obtain ⟨u', r', q⟩ := hl j y v' e1 e2 e3
        refine ⟨u', r', ?_⟩
        rcases q with ⟨k, e⟩ | ⟨k, c, e, z⟩
        · refine .inl ⟨k, ?_⟩
          have : y ≠ x := fun e => hj (nodup_ix hN e1 (e ▸ hi))
          simp [this, e]
        · exact .inr ⟨k, c, e, z.sameBut hs (cne y c e)⟩
    · obtain ⟨w', z⟩ := I.cell y c e
      exact ⟨w', z.sameBut hs (cne y c e)⟩
    · obtain ⟨e, n, ne, nf, d⟩ := I.pin p hp
      exact ⟨(hs.2 p.1 ne).trans e, n, ne, nf, d⟩
  · have hfn : X.fn x = true := by
      rcases hf with z | z
      · exact z
      · rw [z] at hk; cases hk
    obtain ⟨c, hc⟩ := I.ok.has x (.inl hk)
    obtain ⟨w', z⟩ := I.cell x c hc
    refine wpAny_storeName_cell I.ok.kind hk hc z (fun h' hc' hs => ?_)
    obtain ⟨oc, hoc, hocd⟩ := id z
    refine h { s with heap := h' } ⟨I.ok, I.os, I.bare, ⟨fun b o e n hb hx => ?_, fun b o e n hb hx => ?_, I.base.free, fun b o e hx => ?_, I.base.tups, I.base.frzs, I.base.tbls⟩, ⟨m, hn.sameBut hs (Ne.symm (cne x c hc)), fun j y v' e1 e2 e3 => ?_⟩, fun y c' e => ?_, I.free, I.freeC, fun p hp => ?_, tracked ⟨oc, hoc, I.freeC x c hc⟩ hs, by simpa using I.len⟩ ⟨c, hs, .inr hc⟩
    · exact (hs.2 b (Nat.ne_of_lt (Nat.lt_of_lt_of_le (Heap.lt_size e) (I.ok.cab x c hfn hc)))).trans (I.base.keep b o e n hb hx)
    · obtain ⟨sl, e1⟩ := I.base.slot b o e n hb hx
      exact ⟨sl, (hs.2 b (Nat.ne_of_lt (Nat.lt_of_lt_of_le (Heap.lt_size e) (I.ok.cab x c hfn hc)))).trans e1⟩
    · obtain ⟨o', e1⟩ := I.base.there b o e hx
      exact ⟨o', (hs.2 b (Nat.ne_of_lt (Nat.lt_of_lt_of_le (Heap.lt_size e) (I.ok.cab x c hfn hc)))).trans e1⟩
    · by_cases hj : j = i
      · subst hj
        rw [hi] at e1; cases e1
        rw [List.getElem?_set_self hiσ] at e2
        cases e2
        exact ⟨u, r, .inr ⟨.inl hk, c, hc, hc'⟩⟩
      · rw [List.getElem?_set_ne (Ne.symm hj)] at e2
        obtain ⟨u', r', q⟩ := hl j y v' e1 e2 e3
        refine ⟨u', r', ?_⟩
        rcases q with q | ⟨k, c', e, z'⟩
        · exact .inl q
        · refine .inr ⟨k, c', e, z'.sameBut hs ?_⟩
          rintro rfl
          exact hj (nodup_ix hN e1 (I.ok.inj _ _ _ e hc ▸ hi))
    · by_cases hcc : c' = c
      · subst hcc; exact ⟨_, hc'⟩
      · obtain ⟨w2, z2⟩ := I.cell y c' e
        exact ⟨w2, z2.sameBut hs hcc⟩
    · obtain ⟨e, n, ne, nf, d⟩ := I.pin p hp
      refine ⟨(hs.2 p.1 ?_).trans e, n, ne, nf, d⟩
      intro q
      rw [q, hoc] at e
      have q' : oc = p.2 := Option.some.inj e
      exact d w' (by rw [← q']; exact hocd)
theorem store_ok {M : Model} {A : Around} {E : Value → Shared → Prop} {i : Nat} {x : Str} {v : V} {u : Value} {Q : Unit → Shared → Prop} (I : Inv X pins σ H s) (hN : X.N.Nodup) (hi : X.N[i]? = some x) (hx : Loc X.env.scope x) (r : RelV v u)
    (h : ∀ s', Inv X pins (σ.set i (some v)) H s' → Q () s') (hf : X.fn x = true ∨ X.env.scope.names.lookup x = some .local := by first | exact .inl rfl | exact .inr rfl | assumption) : wpAny M A (storeName X.env x u) Q E s :=
  store_ok2 I hN hi hx r (fun s' I' _ => h s' I') hf
/-- behind a call or a block, the state as it is -/
theorem Inv.call' {s' : Shared} {ch : List Addr} (I : Inv X pins σ H s) (ho : s'.os = s.os) (u : Un (frs X.stack) ch H H' s.heap s'.heap) (hok : HOk X.prog X.w H' s'.heap) (hg : AllBare s'.gens)
    (hch : ∀ b ∈ ch, (b ∈ X.ex ∨ X.s₀.heap.objs.size ≤ b) ∧ b ≠ X.env.locals ∧ (∀ x c, X.env.cells.lookup x = some c → c ≠ b) ∧ ∀ p ∈ X.pn ++ pins, p.1 ≠ b) : Inv X pins σ H' s' := by
  obtain ⟨h', g', d', t', o'⟩ := s'
  have e : o' = s.os := ho
  subst e
  exact I.call (g' := g') (t' := t') (d' := d') u hok hg hch
end

/-! ### the judgements -/
/-- an exception: its class, its own dict's address (where it has one), the abstract heap behind it -/
abbrev XK := Value → Option Addr → Hp → Prop
abbrev St := List (Option V)
abbrev VK := V → Hp → Prop
/-- an expression's reading; a test's; an argument list's -/
abbrev TE := St → Hp → VK → Prop
abbrev TT := St → Hp → (Bool → Hp → Prop) → Prop
abbrev TA := St → Hp → (List V → Hp → Prop) → Prop
/-- what is wanted behind a statement -/
structure Ends where
  nx : St → Hp → Prop
  rt : VK
  bk : St → Hp → Prop := fun _ _ => False
  ct : St → Hp → Prop := fun _ _ => False
abbrev TS := Ends → St → Hp → Prop

def EP (X : Cx) (pins : List (Addr × Obj)) (σ : St) (Q : VK) (u : Value) (s' : Shared) : Prop := ∃ v H', Inv X pins σ H' s' ∧ RelV v u ∧ Q v H'
def TP (X : Cx) (pins : List (Addr × Obj)) (σ : St) (Q : Bool → Hp → Prop) (b : Bool) (s' : Shared) : Prop := ∃ H', Inv X pins σ H' s' ∧ Q b H'
def AP (X : Cx) (pins : List (Addr × Obj)) (σ : St) (Q : List V → Hp → Prop) (us : List Value) (s' : Shared) : Prop := ∃ vs H', Inv X pins σ H' s' ∧ Vals vs us ∧ Q vs H'
def SP (X : Cx) (pins : List (Addr × Obj)) (D : Ends) (f : Flow) (s' : Shared) : Prop :=
  match f with
  | .next => ∃ σ' H', Inv X pins σ' H' s' ∧ D.nx σ' H'
  | .brk => ∃ σ' H', Inv X pins σ' H' s' ∧ D.bk σ' H'
  | .cont => ∃ σ' H', Inv X pins σ' H' s' ∧ D.ct σ' H'
  | .ret u => ∃ v σ' H', Inv X pins σ' H' s' ∧ RelV v u ∧ D.rt v H'

def PE (X : Cx) (e : Expr) (t : TE) : Prop :=
  ∀ (pins : List (Addr × Obj)) (s : Shared) (σ : St) (H : Hp) (Q : VK), Inv X pins σ H s → t σ H Q → wpAny (model X.prog X.w) X.A (eval e X.env) (EP X pins σ Q) X.xe s
def PT (X : Cx) (e : Expr) (t : TT) : Prop :=
  ∀ (pins : List (Addr × Obj)) (s : Shared) (σ : St) (H : Hp) (Q : Bool → Hp → Prop), Inv X pins σ H s → t σ H Q → wpAny (model X.prog X.w) X.A (isTrue e X.env (eval e X.env)) (TP X pins σ Q) X.xe s
/-- a test whatever its 'whole' is (and, or) -/
def PW (X : Cx) (e : Expr) (t : TT) : Prop :=
  ∀ (whole : Sem Value) (pins : List (Addr × Obj)) (s : Shared) (σ : St) (H : Hp) (Q : Bool → Hp → Prop), Inv X pins σ H s → t σ H Q → wpAny (model X.prog X.w) X.A (isTrue e X.env whole) (TP X pins σ Q) X.xe s
theorem PW.pt {X : Cx} {e : Expr} {t : TT} (h : PW X e t) : PT X e t := h _
/-- an argument list (no star), from the left -/
def PA (X : Cx) (es : List Expr) (t : TA) : Prop :=
  ∀ (pos : Pos) (pins : List (Addr × Obj)) (s : Shared) (σ : St) (H : Hp) (Q : List V → Hp → Prop), Inv X pins σ H s → t σ H Q → wpAny (model X.prog X.w) X.A (spliced (backTo pos (starEach es X.env))) (AP X pins σ Q) X.xe s
def PS (X : Cx) (st : Stmt) (t : TS) : Prop :=
  ∀ (pins : List (Addr × Obj)) (s : Shared) (σ : St) (H : Hp) (D : Ends), Inv X pins σ H s → t D σ H → wpAny (model X.prog X.w) X.A (exec st X.env) (SP X pins D) X.xe s
def PSs (X : Cx) (st : List Stmt) (t : TS) : Prop :=
  ∀ (pins : List (Addr × Obj)) (s : Shared) (σ : St) (H : Hp) (D : Ends), Inv X pins σ H s → t D σ H → wpAny (model X.prog X.w) X.A (execs st X.env) (SP X pins D) X.xe s
/-- weaken the end -/
theorem thn {α : Type} {t : Sem α} {Q Q' : α → Shared → Prop} {M : Model} {A : Around} {E : Value → Shared → Prop} {s : Shared} (h : wpAny M A t Q E s) (hQ : ∀ a s, Q a s → Q' a s) : wpAny M A t Q' E s := wpAny_mono h hQ fun _ _ x => x
end L2

namespace L2
open PySem PySem.Spec PyProof.Rows
section
variable {X : Cx}

/-! ### names and constants -/
def tVar (i : Nat) : TE := fun σ H Q => ∃ v, σ[i]? = some (some v) ∧ Q v H
def tC (v : V) : TE := fun _ H Q => Q v H
theorem pe_var {i : Nat} {x : Str} {pos : Pos} (hN : X.N[i]? = some x) (hv : Vis X.env.scope x) (hd : (x == ("__debug__" : Str)) = false := by decide) (hcd : (x == ("__classdict__" : Str)) = false := by decide) : PE X (.Name x pos) (tVar i) := by
  intro pins s σ H Q I h
  obtain ⟨v, e, h⟩ := h
  obtain ⟨m, hn, hl⟩ := I.loc
  obtain ⟨u, r, l⟩ := hl i x v hN e hv
  have fin : EP X pins σ Q u s := ⟨v, H, I, r, h⟩
  rcases l with ⟨hk, hm⟩ | ⟨hk, c, hc, hcell⟩
  · exact wpAny_Name (wpAny_loadName_local I.ok.kind hk hn hm fin) hd
  · rcases hk with hk | hk
    · exact wpAny_Name (wpAny_loadName_cell I.ok.kind hk hc hcell fin) hd
    · exact wpAny_Name (wpAny_loadName_free I.ok.kind hk hc hcell fin hcd) hd
theorem pe_int {i j pos} : PE X (.Constant (.int i) j pos) (tC (.int i)) := fun _ _ _ H _ I h => wpAny_Constant_int ⟨.int i, H, I.tok _, ⟨_, rfl⟩, h⟩
theorem pe_bl {b j pos} : PE X (.Constant (.bool b) j pos) (tC (.bl b)) := fun _ _ _ H _ I h => Constant_bool ⟨.bl b, H, I, rfl, h⟩
/-- a global name of the def -/
def Gl (X : Cx) (x : Str) : Prop := X.env.kindOf x = some .globalImplicit
theorem ld_glob {E : Value → Shared → Prop} {pins : List (Addr × Obj)} {s : Shared} {σ : St} {H : Hp} {x : Str} {u : Value} {pos : Pos} {Q : Value → Shared → Prop} (I : Inv X pins σ H s) (hg : Gl X x) (hm : X.mg x = some u) (h : Q u s)
    (hd : (x == ("__debug__" : Str)) = false := by decide) : wpAny (model X.prog X.w) X.A (eval (.Name x pos) X.env) Q E s :=
  Calls.Name_function_global I.ok.kind hg (Calls.loadGlobal_global (by rw [I.ok.glob]; exact I.mod.glob.keeps I.bk) hm h) hd
theorem ld_blt {E : Value → Shared → Prop} {pins : List (Addr × Obj)} {s : Shared} {σ : St} {H : Hp} {x : Str} {u : Value} {pos : Pos} {Q : Value → Shared → Prop} (I : Inv X pins σ H s) (hg : Gl X x) (hm : X.mg x = none) (hv : bootBuiltins x = some u) (h : Q u s)
    (hn : x ≠ "__name__" := by decide) (hd : (x == ("__debug__" : Str)) = false := by decide) : wpAny (model X.prog X.w) X.A (eval (.Name x pos) X.env) Q E s := by
  obtain ⟨mb, h1, h2⟩ := I.mod.blt
  exact Calls.Name_function_global I.ok.kind hg (Calls.loadGlobal_builtin (by rw [I.ok.glob]; exact I.mod.glob.keeps I.bk) hm (by rw [I.ok.blt]; exact h1.keeps I.bk) ((h2 x hn).trans hv) h) hd
/-! ### arithmetic -/
variable {a b : Expr} {ta tb : TE} {pos : Pos}
/-! ### comparisons -/
/-- a comparison as a value, as a test -/
def tB (t : TE) : TT := fun σ H Q => t σ H fun x H1 => ∃ c, x = .bl c ∧ Q c H1
/-- an expression whose value is a bool, as a test -/
theorem pt_val {e : Expr} {t : TE} (h : PE X e t) (he : ∀ whole, isTrue e X.env whole = (do let v ← whole; standAt e.pos; holding [v] (truthy v)) := by intro _; rfl) : PT X e (tB t) := by
  intro pins s σ H Q I hw
  refine isTrue_plain (thn (h pins s σ H _ I hw) fun v s1 ⟨x, H1, I1, r1, q1⟩ => ?_) (he _)
  obtain ⟨d, rfl, q⟩ := q1
  cases r1
  exact wpAny_truthy_bool ⟨H1, I1, q⟩

/-! ### and, or, not -/
variable {tA tB' : TT} {rest : List Expr}
def tAnd (t u : TT) : TT := fun σ H Q => t σ H fun c H1 => if c = true then u σ H1 Q else Q false H1
def tNot (t : TT) : TT := fun σ H Q => t σ H fun c H1 => Q (!c) H1
theorem pw_and1 (ha : PT X a tA) : PW X (.BoolOp .And [a] pos) tA := by
  intro wh pins s σ H Q I h
  refine isTrue_and (thn (ha pins s σ H Q I h) fun c s1 e => ?_)
  cases c with
  | true => exact isTrue_and_nil e
  | false => exact e
theorem pw_and (ha : PT X a tA) (hb : PW X (.BoolOp .And (b :: rest) pos) tB') : PW X (.BoolOp .And (a :: b :: rest) pos) (tAnd tA tB') := by
  intro wh pins s σ H Q I h
  refine isTrue_and (thn (ha pins s σ H _ I h) fun c s1 ⟨H1, I1, q1⟩ => ?_)
  cases c with
  | true => exact hb wh pins s1 σ H1 Q I1 q1
  | false => exact ⟨H1, I1, q1⟩
theorem pt_not (ha : PT X a tA) : PT X (.UnaryOp .Not a pos) (tNot tA) := by
  intro pins s σ H Q I h
  exact isTrue_not (ha pins s σ H (fun c H1 => Q (!c) H1) I h)
/-- .. as values (bools) -/
def tAndV (ta tb : TE) : TE := fun σ H Q => ta σ H fun x H1 => ∃ c, x = .bl c ∧ if c = true then tb σ H1 Q else Q (.bl false) H1
theorem pe_one {op} {t : TE} (h : PE X a t) : PE X (.BoolOp op [a] pos) t := fun pins s σ H Q I hw => BoolOp_one (h pins s σ H Q I hw)
theorem pe_and (ha : PE X a ta) (hb : PE X (.BoolOp .And (b :: rest) pos) tb) : PE X (.BoolOp .And (a :: b :: rest) pos) (tAndV ta tb) := by
  intro pins s σ H Q I h
  refine BoolOp_and (thn (ha pins s σ H _ I h) fun v s1 ⟨x, H1, I1, r1, q1⟩ => ?_)
  obtain ⟨c, rfl, q1⟩ := q1
  cases r1
  refine wpAny_truthy_bool ?_
  cases c with
  | true => exact hb pins s1 σ H1 Q I1 q1
  | false => exact ⟨.bl false, H1, I1, rfl, q1⟩
end
end L2

namespace L2
open PySem PySem.Spec PyProof.Rows

/-! ### a list, a tuple that is read: tracked, frozen, or an object of the module -/
def SqL (K : PySem.W.Frag) (H : Hp) (a : Addr) (xs : List V) : Prop :=
  Rd H a (.lst xs) ∨
    ∃ (o : Obj) (its : Array Value) (n : Nat), K.lookup a = some o ∧ o.cls = .type "list" ∧ o.dict = none ∧ o.data = .seq its n ∧ its.size ≤ sizeLine ∧ Vals xs its.toList
def SqT (K : PySem.W.Frag) (H : Hp) (a : Addr) (xs : List V) : Prop :=
  Rd H a (.tup xs) ∨
    ∃ (o : Obj) (its : Array Value) (n : Nat), K.lookup a = some o ∧ o.cls = .type "tuple" ∧ o.data = .seq its n ∧ its.size ≤ sizeLine ∧ Vals xs its.toList
def absV : Value → Option V
  | .none => some .non
  | .bool b => some (.bl b)
  | .int i _ => some (.int i)
  | .str x _ => some (.str x)
  | .bytes b _ => some (.byt b)
  | .float b _ => some (.flt b)
  | .ref a => some (.ref a)
  | .type n => some (.ty n)
  | _ => none
theorem RelV.abs {x : V} {u : Value} (r : RelV x u) : absV u = some x := by
  cases x with
  | non => cases r; rfl
  | bl _ => cases r; rfl
  | int _ => obtain ⟨t, rfl⟩ := r; rfl
  | str _ => obtain ⟨t, rfl⟩ := r; rfl
  | byt _ => obtain ⟨t, rfl⟩ := r; rfl
  | flt _ => obtain ⟨t, rfl⟩ := r; rfl
  | ref _ => cases r; rfl
  | ty _ => cases r; rfl
theorem RelV.inj {x y : V} {u : Value} (r : RelV x u) (q : RelV y u) : x = y := Option.some.inj (r.abs.symm.trans q.abs)
theorem Vals.inj : ∀ {xs ys : List V} {us : List Value}, Vals xs us → Vals ys us → xs = ys
  | _, _, _, .nil, .nil => rfl
  | _, _, _, .cons r t, .cons r' t' => by rw [r.inj r', Vals.inj t t']
section
variable {X : Cx} {pins : List (Addr × Obj)} {σ : St} {H : Hp} {s : Shared} {a : Addr} {xs ys : List V}
theorem SqL.of {K : PySem.W.Frag} (h : H a = some (.lst xs)) : SqL K H a xs := .inl (.inl h)
theorem SqT.of {K : PySem.W.Frag} (h : H a = some (.tup xs)) : SqT K H a xs := .inl (.inl h)
theorem Inv.list (I : Inv X pins σ H s) (h : SqL X.K H a xs) : ∃ its : List Value, Vals xs its ∧ PlainL s.heap a its.toArray ∧ xs.length ≤ sizeLine := by
  rcases h with h | ⟨o, its, n, hk, hc, hd, hs, hz, r⟩
  · obtain ⟨z, its, n, r, e⟩ := h.ok I.hok
    exact ⟨its, r, ⟨_, n, e, rfl, rfl, rfl⟩, z⟩
  · refine ⟨its.toList, r, ⟨o, n, I.kIn a o hk, hc, hd, by simpa using hs⟩, ?_⟩
    have e := r.length
    simp only [Array.length_toList] at e
    omega
theorem Inv.tuple (I : Inv X pins σ H s) (h : SqT X.K H a xs) : ∃ its : List Value, Vals xs its ∧ IsTup s.heap a its.toArray ∧ xs.length ≤ sizeLine := by
  rcases h with h | ⟨o, its, n, hk, hc, hs, hz, r⟩
  · obtain ⟨z, its, r, p⟩ := h.ok I.hok
    exact ⟨its, r, p, z⟩
  · refine ⟨its.toList, r, ⟨o, I.kIn a o hk, hc, n, by simpa using hs⟩, ?_⟩
    have e := r.length
    simp only [Array.length_toList] at e
    omega
theorem Inv.list_inj (I : Inv X pins σ H s) (h : SqL X.K H a xs) (h' : SqL X.K H a ys) : xs = ys := by
  obtain ⟨its, r, ⟨o, n, e, _, _, d⟩, _⟩ := I.list h
  obtain ⟨its', r', ⟨o', n', e', _, _, d'⟩, _⟩ := I.list h'
  rw [e] at e'; cases e'
  rw [d] at d'
  injection d' with d1 _
  have : its = its' := by simpa using congrArg Array.toList d1
  subst this
  exact r.inj r'
end

/-! ### another wish about exceptions -/
abbrev Cx.wish (X : Cx) (E : Value → Shared → Prop) : Cx := { X with xe := E }
/-- no exception leaves -/
abbrev Cx.nox (X : Cx) : Cx := X.wish fun _ _ => False
theorem Cx.Ok.wish {X : Cx} (ok : X.Ok) (E : Value → Shared → Prop) : (X.wish E).Ok :=
  ⟨ok.mod, ok.kind, ok.glob, ok.blt, ok.above, ok.inj, ok.has, ok.cab, ok.hd, ok.frames, ok.stk, ok.exf, ok.bs, ok.bsz, ok.noex, ok.exfs, ok.funs, ok.frf⟩
theorem Cx.Ok.unwish {X : Cx} {E : Value → Shared → Prop} (ok : (X.wish E).Ok) : X.Ok :=
  ⟨ok.mod, ok.kind, ok.glob, ok.blt, ok.above, ok.inj, ok.has, ok.cab, ok.hd, ok.frames, ok.stk, ok.exf, ok.bs, ok.bsz, ok.noex, ok.exfs, ok.funs, ok.frf⟩
section
variable {X : Cx} {pins : List (Addr × Obj)} {σ : St} {H : Hp} {s : Shared} {E : Value → Shared → Prop}
theorem Inv.wish (I : Inv X pins σ H s) (E : Value → Shared → Prop) : Inv (X.wish E) pins σ H s := ⟨I.ok.wish E, I.os, I.bare, I.base, I.loc, I.cell, I.free, I.freeC, I.pin, I.hok, I.len⟩
theorem Inv.unwish (I : Inv (X.wish E) pins σ H s) : Inv X pins σ H s := ⟨I.ok.unwish, I.os, I.bare, I.base, I.loc, I.cell, I.free, I.freeC, I.pin, I.hok, I.len⟩
theorem SP.unwish {D : Ends} {f : Flow} {s' : Shared} (h : SP (X.wish E) pins D f s') : SP X pins D f s' := by
  cases f with
  | next => obtain ⟨σ', H', I, q⟩ := h; exact ⟨σ', H', I.unwish, q⟩
  | brk => obtain ⟨σ', H', I, q⟩ := h; exact ⟨σ', H', I.unwish, q⟩
  | cont => obtain ⟨σ', H', I, q⟩ := h; exact ⟨σ', H', I.unwish, q⟩
  | ret u => obtain ⟨v, σ', H', I, r, q⟩ := h; exact ⟨v, σ', H', I.unwish, r, q⟩
theorem PE.nox {e : Expr} {t : TE} (h : PE X.nox e t) : PE X e t := fun pins s σ H Q I hw =>
  wpAny_mono (h pins s σ H Q (I.wish _) hw) (fun _ _ ⟨v, H', I', r, q⟩ => ⟨v, H', I'.unwish, r, q⟩) fun _ _ z => False.elim z
theorem PT.nox {e : Expr} {t : TT} (h : PT X.nox e t) : PT X e t := fun pins s σ H Q I hw =>
  wpAny_mono (h pins s σ H Q (I.wish _) hw) (fun _ _ ⟨H', I', q⟩ => ⟨H', I'.unwish, q⟩) fun _ _ z => False.elim z
theorem PSs.nox {st : List Stmt} {t : TS} (h : PSs X.nox st t) : PSs X st t := fun pins s σ H D I hw =>
  wpAny_mono (h pins s σ H D (I.wish _) hw) (fun _ _ q => q.unwish) fun _ _ z => False.elim z
end

/-! ### blocks and small statements -/
section
variable {X : Cx} {st : Stmt} {rest : List Stmt} {t u : TS} {e : Expr} {te : TE} {pos : Pos}
def tNext : TS := fun D σ H => D.nx σ H
def tSeq (t u : TS) : TS := fun D σ H => t { D with nx := u D } σ H
theorem pss_nil : PSs X [] tNext := fun _ _ σ H _ I h => wpAny_execs_nil ⟨σ, H, I, h⟩
theorem pss_cons (h1 : PS X st t) (h2 : PSs X rest u) : PSs X (st :: rest) (tSeq t u) := by
  intro pins s σ H D I h
  refine wpAny_execs_cons (thn (h1 pins s σ H { D with nx := u D } I h) fun f s1 q => ?_)
  cases f with
  | next =>
    obtain ⟨σ', H', I', q⟩ := q
    exact h2 pins s1 σ' H' D I' q
  | ret v => exact q
  | brk => exact q
  | cont => exact q
theorem pss_one (h1 : PS X st t) : PSs X [st] t := by
  intro pins s σ H D I h
  refine wpAny_execs_cons (thn (h1 pins s σ H D I h) fun f s1 q => ?_)
  cases f with
  | next => exact wpAny_execs_nil q
  | ret v => exact q
  | brk => exact q
  | cont => exact q
/-- in a def's body nothing is shown -/
theorem Inv.quiet {pins : List (Addr × Obj)} {σ : St} {H : Hp} {s : Shared} (I : Inv X pins σ H s) : interactive X.env = false := by simp [interactive, I.ok.kind]
/-- an expression whose value is dropped -/
def tDrop (te : TE) : TS := fun D σ H => te σ H fun _ H1 => D.nx σ H1
theorem ps_expr (he : PE X e te) (hs : swapsWith e none pos.line X.env = pure false := by rfl) : PS X (.Expr e pos) (tDrop te) := by
  intro pins s σ H D I h
  exact wpAny_Expr_any (thn (he pins s σ H _ I h) fun v s1 ⟨x, H1, I1, r1, q1⟩ => ⟨σ, H1, I1, q1⟩) I.quiet hs
def tRet (te : TE) : TS := fun D σ H => te σ H D.rt
theorem ps_ret (he : PE X e te) : PS X (.Return (some e) pos) (tRet te) := by
  intro pins s σ H D I h
  exact wpAny_Return_some (thn (he pins s σ H _ I h) fun v s1 ⟨x, H1, I1, r1, q1⟩ => ⟨x, σ, H1, I1, r1, q1⟩)
def tIfS (c : TT) (t u : TS) : TS := fun D σ H => c σ H fun b H1 => if b = true then t D σ H1 else u D σ H1
theorem ps_if {c : Expr} {a b : List Stmt} {tc : TT} (hc : PT X c tc) (ha : PSs X a t) (hb : PSs X b u) : PS X (.If c a b pos) (tIfS tc t u) := by
  intro pins s σ H D I h
  refine wpAny_If (thn (hc pins s σ H _ I h) fun d s1 ⟨H1, I1, q1⟩ => ?_)
  cases d with
  | true => exact ha pins s1 σ H1 D I1 q1
  | false => exact hb pins s1 σ H1 D I1 q1
end

/-! ### targets -/
abbrev TG := V → St → Hp → (St → Hp → Prop) → Prop
abbrev TGs := List V → St → Hp → (St → Hp → Prop) → Prop
def PG (X : Cx) (target : Expr) (t : TG) : Prop :=
  ∀ (pins : List (Addr × Obj)) (s : Shared) (σ : St) (H : Hp) (v : V) (u : Value) (Q : St → Hp → Prop), Inv X pins σ H s → RelV v u → t v σ H Q →
    wpAny (model X.prog X.w) X.A (assign target X.env u) (fun _ s' => ∃ σ' H', Inv X pins σ' H' s' ∧ Q σ' H') X.xe s
/-- several targets, one after another -/
def PGs (X : Cx) (ts : List Expr) (t : TGs) : Prop :=
  ∀ (pins : List (Addr × Obj)) (s : Shared) (σ : St) (H : Hp) (vs : List V) (us : List Value) (Q : St → Hp → Prop), Inv X pins σ H s → Vals vs us → t vs σ H Q →
    wpAny (model X.prog X.w) X.A (assignInOrder ((assignEach ts X.env).map (·.2)) us) (fun _ s' => ∃ σ' H', Inv X pins σ' H' s' ∧ Q σ' H') X.xe s
/-- o[i] = v, by values -/
abbrev TSet := V → V → V → Hp → (Hp → Prop) → Prop
def PSet (X : Cx) (t : TSet) : Prop :=
  ∀ (pins : List (Addr × Obj)) (s : Shared) (σ : St) (H : Hp) (o i v : V) (ov iv u : Value) (Q : Hp → Prop), Inv X pins σ H s → RelV o ov → RelV i iv → RelV v u → t o i v H Q →
    wpAny (model X.prog X.w) X.A (setItem ov iv u) (fun _ s' => ∃ H', Inv X pins σ H' s' ∧ Q H') X.xe s
/-- a op= b, by values -/
abbrev TIp := V → V → Hp → VK → Prop
def PIp (X : Cx) (op : Operator) (t : TIp) : Prop :=
  ∀ (pins : List (Addr × Obj)) (s : Shared) (σ : St) (H : Hp) (x y : V) (v u : Value) (Q : VK), Inv X pins σ H s → RelV x v → RelV y u → t x y H Q →
    wpAny (model X.prog X.w) X.A (inplaceOp op v u) (EP X pins σ Q) X.xe s
section
variable {X : Cx} {pos : Pos}
def gName (i : Nat) : TG := fun v σ H Q => Q (σ.set i (some v)) H
theorem pg_name {i : Nat} {x : Str} (hN : X.N.Nodup) (hi : X.N[i]? = some x) (hx : Loc X.env.scope x) (hf : X.fn x = true ∨ X.env.scope.names.lookup x = some .local := by first | exact .inl rfl | exact .inr rfl | assumption) : PG X (.Name x pos) (gName i) := by
  intro pins s σ H v u Q I r h
  exact wpAny_assign_Name (store_ok I hN hi hx r (fun s' I' => ⟨_, H, I', h⟩) hf)
def gNil : TGs := fun vs σ H Q => vs = [] ∧ Q σ H
def gCons (t : TG) (u : TGs) : TGs := fun vs σ H Q => ∃ v r, vs = v :: r ∧ t v σ H fun σ' H' => u r σ' H' Q
theorem pgs_nil : PGs X [] gNil := by
  intro pins s σ H vs us Q I r h
  obtain ⟨e, h⟩ := h
  subst e
  cases r
  exact assignInOrder_nil ⟨σ, H, I, h⟩
theorem pgs_cons {e : Expr} {es : List Expr} {t : TG} {u : TGs} (h1 : PG X e t) (h2 : PGs X es u)
    (hs : (assignEach (e :: es) X.env).map (·.2) = assign e X.env :: (assignEach es X.env).map (·.2) := by rfl) : PGs X (e :: es) (gCons t u) := by
  intro pins s σ H vs us Q I r h
  obtain ⟨v, vr, e1, h⟩ := h
  subst e1
  cases r with
  | cons r rr =>
    rw [hs]
    refine assignInOrder_cons (thn (h1 pins s σ H _ _ _ I r h) fun _ s1 ⟨σ1, H1, I1, q1⟩ => ?_)
    exact h2 pins s1 σ1 H1 _ _ Q I1 rr q1
/-- (a, b, ..) = a tuple of that length -/
def gTup (K : PySem.W.Frag) (n : Nat) (t : TGs) : TG := fun v σ H Q => ∃ a xs, v = .ref a ∧ SqT K H a xs ∧ xs.length = n ∧ t xs σ H Q
theorem pg_tup {es : List Expr} {k : Nat} {t : TGs} {n : Nat} (hc : X.calm = true) (h : PGs X es t)
    (hn : (assignEach es X.env).length = n := by rfl) (hst : (assignEach es X.env).findIdx? (·.1) = none := by rfl) : PG X (.Tuple es k pos) (gTup X.K n t) := by
  intro pins s σ H v u Q I r hw
  obtain ⟨a, xs, e1, hq, hl, hw⟩ := hw
  subst e1
  cases r
  obtain ⟨its, rv, ht, hz⟩ := I.tuple hq
  refine assign_Tuple_tuple (I.ok.hd hc) ht (by simp [hn, ← hl, rv.length]) hst fun h' hx => ?_
  have I1 : Inv X pins σ H { s with heap := h' } := I.kept (t' := s.toks) fun b o e => hx b o (Nat.ne_of_lt (Heap.lt_size e)) e
  exact h pins _ σ H xs _ Q I1 (by simpa using rv) hw
/-- o[i] = .. -/
def gSub (to ti : TE) (t : TSet) : TG := fun v σ H Q => to σ H fun o H1 => ti σ H1 fun i H2 => t o i v H2 fun H3 => Q σ H3
theorem pg_sub {o i : Expr} {to ti : TE} {t : TSet} (ho : PE X o to) (hi : PE X i ti) (hs : PSet X t)
    (ha : ∀ v, assign (.Subscript o i pos) X.env v = (do
      let ov ← holding [v] (eval o X.env)
      let iv ← holding [v, ov] (eval i X.env)
      standAt pos
      holding [v, ov, iv] (setItem ov iv v)
      release [v, ov, iv] []) := by intro _; rfl) : PG X (.Subscript o i pos) (gSub to ti t) := by
  intro pins s σ H v u Q I r h
  rw [ha]
  refine wpAny_bind (wpAny_holding (thn (ho pins s σ H _ I h) fun ov s1 ⟨x, H1, I1, r1, q1⟩ => ?_))
  refine wpAny_bind (wpAny_holding (thn (hi pins s1 σ H1 _ I1 q1) fun iv s2 ⟨y, H2, I2, r2, q2⟩ => ?_))
  refine wpAny_bind (wpAny_standAt (wpAny_bind (wpAny_holding (thn (hs pins s2 σ H2 x y v ov iv u _ I2 r1 r2 r q2) fun _ s3 ⟨H3, I3, q3⟩ => ?_))))
  exact wpAny_release ⟨σ, H3, I3, q3⟩
/-- target = value -/
def tAsg (te : TE) (g : TG) : TS := fun D σ H => te σ H fun x H1 => g x σ H1 D.nx
theorem ps_asg {tg e : Expr} {te : TE} {g : TG} (he : PE X e te) (hg : PG X tg g) (hs : swapsWithSole [tg] e pos.line X.env = pure false := by rfl) (hw : swappedStores [tg] e X.env = pure none := by rfl)
    (h1 : (assignEach [tg] X.env).map (·.2) = [assign tg X.env] := by rfl) : PS X (.Assign [tg] e pos) (tAsg te g) := by
  intro pins s σ H D I h
  refine wpAny_Assign_stores (thn (he pins s σ H _ I h) fun v s1 ⟨x, H1, I1, r1, q1⟩ => ?_) hs hw
  rw [h1]
  exact thn (hg pins s1 σ H1 x v _ I1 r1 q1) fun _ s2 q => q
/-- name = value -/
theorem ps_set {i : Nat} {x : Str} {e : Expr} {te : TE} {pos' : Pos} (hN : X.N.Nodup) (hi : X.N[i]? = some x) (hx : Loc X.env.scope x) (he : PE X e te) (hs : swapsWith e (some (.Name x pos')) pos.line X.env = pure false := by rfl) (hf : X.fn x = true ∨ X.env.scope.names.lookup x = some .local := by first | exact .inl rfl | exact .inr rfl | assumption) :
    PS X (.Assign [.Name x pos'] e pos) (tAsg te (gName i)) := by
  intro pins s σ H D I h
  refine wpAny_Assign_Name (thn (he pins s σ H _ I h) fun v s1 ⟨y, H1, I1, r1, q1⟩ => ?_) hs
  exact store_ok I1 hN hi hx r1 (fun s2 I2 => ⟨_, H1, I2, q1⟩) hf
/-- name op= e -/
def tAug (i : Nat) (te : TE) (ti : TIp) : TS := fun D σ H => ∃ x, σ[i]? = some (some x) ∧ te σ H fun y H1 => ti x y H1 fun z H2 => D.nx (σ.set i (some z)) H2
theorem ps_aug {i : Nat} {x : Str} {e : Expr} {te : TE} {op : Operator} {ti : TIp} {pos' : Pos} (hN : X.N.Nodup) (hi : X.N[i]? = some x) (hx : Loc X.env.scope x) (he : PE X e te) (ho : PIp X op ti) (hf : X.fn x = true ∨ X.env.scope.names.lookup x = some .local := by first | exact .inl rfl | exact .inr rfl | assumption) :
    PS X (.AugAssign (.Name x pos') op e pos) (tAug i te ti) := by
  intro pins s σ H D I h
  obtain ⟨v, e1, h⟩ := h
  obtain ⟨m, hn, hl⟩ := I.loc
  have vis : Vis X.env.scope x := by rcases hx with k | k; exact .inl k; exact .inr (.inl k)
  obtain ⟨u, r, l⟩ := hl i x v hi e1 vis
  refine wpAny_AugAssign_Name ?_
  have go : wpAny (model X.prog X.w) X.A (eval e X.env) (fun w s₂ => wpAny (model X.prog X.w) X.A (inplaceOp op u w) (fun r s₃ => wpAny (model X.prog X.w) X.A (storeName X.env x r) (fun _ => SP X pins D .next) X.xe s₃) X.xe s₂) X.xe s := by
    refine thn (he pins s σ H _ I h) fun w s1 ⟨y, H1, I1, r1, q1⟩ => ?_
    refine thn (ho pins s1 σ H1 v y u w _ I1 r r1 q1) fun z s2 ⟨zv, H2, I2, r2, q2⟩ => ?_
    exact store_ok I2 hN hi hx r2 (fun s3 I3 => ⟨_, H2, I3, q2⟩) hf
  rcases l with ⟨hk, hm⟩ | ⟨hk, c, hc, hcell⟩
  · exact wpAny_loadName_local I.ok.kind hk hn hm go
  · rcases hk with hk | hk
    · exact wpAny_loadName_cell I.ok.kind hk hc hcell go
    · rcases hx with k | k
      · have : X.env.scope.names.lookup x = some .free := hk
        rw [k] at this; cases this
      · have : X.env.scope.names.lookup x = some .free := hk
        rw [k] at this; cases this
/-- ints -/
def ipI (f : Int → Int → Int) : TIp := fun x y H Q => ∃ i j, x = .int i ∧ y = .int j ∧ Q (.int (f i j)) H
theorem ip_add : PIp X .Add (ipI fun i j => i + j) := by
  intro pins s σ H x y v u Q I r1 r2 h
  obtain ⟨i, j, e1, e2, q⟩ := h
  subst e1; subst e2
  obtain ⟨t, rfl⟩ := r1
  obtain ⟨t', rfl⟩ := r2
  exact iadd_int ⟨.int _, H, I.tok _, ⟨_, rfl⟩, q⟩
end

/-! ### while -/
section
variable {X : Cx} {pos : Pos}
/-- the invariant W with its measure -/
def tWhile (c : TT) (tb : TS) : TS := fun D σ H => ∃ W : Nat → St → Hp → Prop, (∃ m, W m σ H) ∧ ∀ m σ H, W m σ H →
  c σ H fun b H1 => if b = true then ∃ N : St → Hp → Prop, (∀ σ' H', N σ' H' → ∃ m', m' < m ∧ W m' σ' H') ∧ tb { D with nx := N, ct := N, bk := D.nx } σ H1 else D.nx σ H1
theorem ps_while {c : Expr} {body : List Stmt} {tc : TT} {tb : TS} (hp : PassesOwn (model X.prog X.w) X.A X.env X.xe) (hc : PT X c tc) (hb : PSs X body tb) : PS X (.While c body [] pos) (tWhile tc tb) := by
  intro pins s σ H D I h
  obtain ⟨W, ⟨m0, w0⟩, turn⟩ := h
  refine wpAny_While (codeAny_whileLoop (fun n s' => ∃ σ' H', Inv X pins σ' H' s' ∧ W n σ' H') ?_ m0 ⟨σ, H, I, w0⟩)
  rintro n s1 ⟨σ1, H1, I1, w1⟩
  refine wpAny_passesOwn hp (thn (hc pins s1 σ1 H1 _ I1 (turn n σ1 H1 w1)) fun b s2 ⟨H2, I2, q2⟩ => ?_)
  cases b with
  | true =>
    obtain ⟨N, hN, q2⟩ := q2
    rw [if_pos rfl]
    refine wpAny_passesOwn hp (thn (hb pins s2 σ1 H2 _ I2 q2) fun f s3 q3 => ?_)
    cases f with
    | next =>
      obtain ⟨σ3, H3, I3, n3⟩ := q3
      obtain ⟨m', hm, w3⟩ := hN σ3 H3 n3
      exact ⟨m', hm, σ3, H3, I3, w3⟩
    | cont =>
      obtain ⟨σ3, H3, I3, n3⟩ := q3
      obtain ⟨m', hm, w3⟩ := hN σ3 H3 n3
      exact ⟨m', hm, σ3, H3, I3, w3⟩
    | brk => exact q3
    | ret v => exact q3
  | false =>
    rw [if_neg Bool.false_ne_true]
    exact wpAny_execs_nil ⟨σ1, H2, I2, q2⟩
end

/-! ### what a loop or a comprehension walks -/
/-- at turn i: it yields x (the heap may grow), or it stops -/
structure It where
  go : Nat → Hp → Prop
  yld : Nat → Hp → V → Hp → Prop
  stop : Nat → Hp → Prop
/-- the iterator's own objects may turn: they are not the frame's, not pinned, younger than the entry (or a comprehension's own) -/
def FpOk (X : Cx) (pins : List (Addr × Obj)) (H : Hp) (b : Addr) : Prop :=
  H b = none ∧ b ≠ X.env.locals ∧ b ∉ X.fs ∧ (b ∈ X.ex ∨ X.s₀.heap.objs.size ≤ b) ∧ (∀ x c, X.env.cells.lookup x = some c → c ≠ b) ∧ ∀ p ∈ X.pn ++ pins, p.1 ≠ b
theorem Inv.fpOk {X : Cx} {pins : List (Addr × Obj)} {σ : St} {H H' : Hp} {s : Shared} {b : Addr} (I : Inv X pins σ H s) (hb : s.heap.objs.size ≤ b) (hn : H' b = none) : FpOk X pins H' b := by
  refine ⟨hn, Nat.ne_of_gt (Nat.lt_of_lt_of_le I.lt hb), I.nofs hb, .inr (Nat.le_trans I.sz hb), fun x c e z => ?_, fun p hp z => ?_⟩
  · obtain ⟨v, q⟩ := I.cell x c e
    exact absurd (Nat.lt_of_lt_of_le q.lt (by rw [z]; exact hb)) (Nat.lt_irrefl _)
  · exact absurd (Nat.lt_of_lt_of_le (Heap.lt_size (I.pin p hp).1) (by rw [z]; exact hb)) (Nat.lt_irrefl _)
structure Turn (P : Program) (w : World) (K : PySem.W.Frag) (tg : Expr) (J : It) (fp : List Addr) (it : Addr) (tn : Nat → Heap → Prop) : Prop where
  mem : it ∈ fp
  obj : ∀ i h, tn i h → ∀ b ∈ fp, ∃ o, h.get? b = some o ∧ ∀ v, o.data ≠ .cell v
  keep : ∀ i h h', tn i h → (∀ b ∈ fp, ∀ o, h.get? b = some o → h'.get? b = some o) → tn i h'
  item : ∀ (X : Cx), X.prog = P → X.w = w → X.K = K → X.calm = true → ∀ (i : Nat) (pins : List (Addr × Obj)) (s : Shared) (σ : St) (H : Hp) (E : Value → Shared → Prop), Inv X pins σ H s → (∀ b ∈ fp, FpOk X pins H b) → tn i s.heap → J.go i H →
    wpAny (model P w) X.A (pyNext (.ref it)) (fun r s1 => ∃ u, r = some u ∧
      wpAny (model P w) X.A (letOwnedTupleGo tg (.ref it) u) (fun _ s2 => ∃ x H', Inv X pins σ H' s2 ∧ RelV x u ∧ J.yld i H x H' ∧ tn (i + 1) s2.heap ∧ ∀ b ∈ fp, H' b = none) E s1) E s
  done : ∀ (X : Cx), X.prog = P → X.w = w → X.K = K → X.calm = true → ∀ (i : Nat) (pins : List (Addr × Obj)) (s : Shared) (σ : St) (H : Hp) (E : Value → Shared → Prop), Inv X pins σ H s → (∀ b ∈ fp, FpOk X pins H b) → tn i s.heap → J.stop i H →
    wpAny (model P w) X.A (pyNext (.ref it)) (fun r s1 => r = none ∧ Inv X pins σ H s1) E s
  self : ∀ (A : Around) (i : Nat) (s : Shared) (Q : Value → Shared → Prop) (E : Value → Shared → Prop), tn i s.heap → Q (.ref it) s → wpAny (model P w) A (pyIter (.ref it)) Q E s
abbrev TI := St → Hp → (It → Hp → Prop) → Prop
/-- an iterator has come -/
def PIE (X : Cx) (pins : List (Addr × Obj)) (σ : St) (tg : Expr) (R : It → Hp → Prop) (itv : Value) (s2 : Shared) : Prop :=
  ∃ (it : Addr) (fp : List Addr) (tn : Nat → Heap → Prop) (J : It) (H' : Hp), itv = .ref it ∧ Inv X pins σ H' s2 ∧ Turn X.prog X.w X.K tg J fp it tn ∧ tn 0 s2.heap ∧ (∀ b ∈ fp, FpOk X pins H' b) ∧ R J H'
def PI (X : Cx) (tg iter : Expr) (wi : TI) : Prop :=
  ∀ (pins : List (Addr × Obj)) (s : Shared) (σ : St) (H : Hp) (R : It → Hp → Prop), Inv X pins σ H s → wi σ H R →
    wpAny (model X.prog X.w) X.A (eval iter X.env) (fun v s1 => wpAny (model X.prog X.w) X.A (pyIter v) (PIE X pins σ tg R) X.xe s1) X.xe s

/-- the step ahead of the store is nothing for an iterator that keeps no tuple -/
theorem go_of {M : Model} {A : Around} {E : Value → Shared → Prop} {s : Shared} {tg : Expr} {it : Addr} {u : Value} {o : Obj} {n : String} {vs : Array Value} {Q : Unit → Shared → Prop} (ho : s.heap.get? it = some o) (hc : o.cls = .type n) (hd : o.data = .fields vs)
    (hn : ["enumerate", "zip", "dict_itemiterator", "dict_reverseitemiterator", "odict_iterator", "itertools.zip_longest", "itertools.pairwise"].contains n = false) (hQ : Q () s) : wpAny M A (letOwnedTupleGo tg (.ref it) u) Q E s := by
  unfold letOwnedTupleGo
  cases tg <;> first
    | exact wpAny_pure hQ
    | (cases u <;> first
        | exact wpAny_pure hQ
        | (refine wpAny_bind (wpAny_load ho ?_)
           rw [hc, hd]
           show wpAny M A (if (["enumerate", "zip", "dict_itemiterator", "dict_reverseitemiterator", "odict_iterator", "itertools.zip_longest", "itertools.pairwise"].contains n && vs[0]? == some (rawInt _)) = true then _ else _) Q E s
           rw [if_neg (by intro h; rw [hn, Bool.false_and] at h; cases h)]
           exact wpAny_pure hQ))

/-- the list at a, as it stands at each turn (a loop may append to it) -/
def Itl (K : PySem.W.Frag) (a : Addr) : It :=
  ⟨fun i H => ∃ xs x, SqL K H a xs ∧ xs[i]? = some x, fun i H x H' => H' = H ∧ ∀ xs, SqL K H a xs → xs[i]? = some x, fun i H => ∃ xs, SqL K H a xs ∧ xs.length ≤ i⟩
/-- lo, lo + 1, .. (n of them) -/
def Itr (lo : Int) (n : Nat) : It := ⟨fun i _ => i < n, fun i H x H' => H' = H ∧ x = .int (lo + i), fun i _ => n ≤ i⟩
theorem turn_list {P : Program} {w : World} {K : PySem.W.Frag} {tg : Expr} (a it : Addr) : Turn P w K tg (Itl K a) [it] it (fun i h => h.IsListIter it a i) where
  mem := by simp
  obj := fun i h st b hb => by
    have e : b = it := by simpa using hb
    subst e
    obtain ⟨o, e, c, d⟩ := st
    exact ⟨o, e, fun v z => by rw [d] at z; cases z⟩
  keep := fun i h h' st k => st.at fun o e => k it (by simp) o e
  item := by
    intro X hP hw hK hc i pins s σ H E I hf st hg
    subst hP hw hK
    obtain ⟨xs, x, hq, hx⟩ := hg
    obtain ⟨its, rv, p, hz⟩ := I.list hq
    obtain ⟨u, hu, ru⟩ := rv.get hx
    obtain ⟨f0, f1, f2, f3, f4, f5⟩ := hf it (by simp)
    refine wpAny_pyNext_list_item st p.isList (x := u) (by simpa using hu) fun h' st' sb => ?_
    have I1 : Inv X pins σ H { s with heap := h' } := I.turned (t' := s.toks) (fun b o hb e => (sb.2 b hb).trans e) f0 f1 f3 f4 f5
    obtain ⟨o, e, c, d⟩ := id st'
    exact ⟨u, rfl, go_of (s := { s with heap := h' }) e c d (by decide) ⟨x, H, I1, ru, ⟨rfl, fun ys hy => by rw [I.list_inj hy hq]; exact hx⟩, st', fun b hb => (hf b hb).1⟩⟩
  done := by
    intro X hP hw hK hc i pins s σ H E I hf st hg
    subst hP hw hK
    obtain ⟨xs, hq, hx⟩ := hg
    obtain ⟨its, rv, p, hz⟩ := I.list hq
    obtain ⟨f0, f1, f2, f3, f4, f5⟩ := hf it (by simp)
    have hl := rv.length
    exact wpAny_pyNext_list_end (I.ok.hd hc) st p.isList (by simp; omega) fun h' eb => ⟨rfl, I.turned (t' := s.toks) (fun b o hb e => eb b o hb e) f0 f1 f3 f4 f5⟩
  self := fun _ _ _ _ _ st h => wpAny_pyIter_listiter st h
theorem turn_range {P : Program} {w : World} {K : PySem.W.Frag} {tg : Expr} (it : Addr) (lo : Int) (n : Nat) : Turn P w K tg (Itr lo n) [it] it (fun i h => IsRangeIter h it (lo + (i : Nat) * 1) ((n : Int) - (i : Nat)) 1) where
  mem := by simp
  obj := fun i h st b hb => by
    have e : b = it := by simpa using hb
    subst e
    exact ⟨_, st, fun v z => by
      have z' : Data.fields _ = Data.cell v := z
      cases z'⟩
  keep := fun i h h' st k => k it (by simp) _ st
  item := by
    intro X hP hw hK hc i pins s σ H E I hf st hg
    subst hP hw hK
    obtain ⟨f0, f1, f2, f3, f4, f5⟩ := hf it (by simp)
    have W := Walks.range (prog := X.prog) (w := X.w) (I.ok.hd hc) it lo 1 n
    refine W.item i s _ _ hg st fun v h' tk hv st' kk => ?_
    obtain ⟨t, rfl⟩ := hv
    have I1 : Inv X pins σ H { s with heap := h', toks := tk } := I.turned (fun b o hb e => kk b o (by simpa using hb) e) f0 f1 f3 f4 f5
    refine ⟨_, rfl, go_of (s := { s with heap := h', toks := tk }) (n := "range_iterator") st' rfl rfl (by decide) ⟨.int (lo + i), H, I1, ⟨t, ?_⟩, ⟨rfl, rfl⟩, st', fun b hb => (hf b hb).1⟩⟩
    rw [Int.mul_one]
  done := by
    intro X hP hw hK hc i pins s σ H E I hf st hg
    subst hP hw hK
    obtain ⟨f0, f1, f2, f3, f4, f5⟩ := hf it (by simp)
    exact wpAny_pyNext_range_end (I.ok.hd hc) st (by have : n ≤ i := hg; omega) fun h' eb => ⟨rfl, I.turned (t' := s.toks) (fun b o hb e => eb b o hb e) f0 f1 f3 f4 f5⟩
  self := fun _ _ _ _ _ st h => wpAny_pyIter_rangeiter st h
end L2

namespace L2
open PySem PySem.Spec PyProof.Rows
section
variable {X : Cx} {tg : Expr}
def iList (K : PySem.W.Frag) (tl : TE) : TI := fun σ H R => tl σ H fun x H1 => ∃ a, x = .ref a ∧ (∃ xs, SqL K H1 a xs) ∧ R (Itl K a) H1
theorem pi_list {l : Expr} {tl : TE} (hl : PE X l tl) : PI X tg l (iList X.K tl) := by
  intro pins s σ H R I h
  refine thn (hl pins s σ H _ I h) fun v s1 ⟨x, H1, I1, r1, q1⟩ => ?_
  obtain ⟨a, e, ⟨xs, hq⟩, q⟩ := q1
  subst e
  cases r1
  obtain ⟨its, rv, p, hz⟩ := I1.list hq
  refine wpAny_pyIter_list p.isList ?_
  refine ⟨s1.heap.objs.size, [s1.heap.objs.size], _, _, H1, rfl, I1.kept (t' := s1.toks) fun b o e => Heap.get?_push_of_some _ e, turn_list a _, ⟨_, Heap.get?_push_size _ rfl, rfl, rfl⟩, fun b hb => ?_, q⟩
  have e : b = s1.heap.objs.size := by simpa using hb
  subst e
  exact I1.fpOk (Nat.le_refl _) (I1.hok.fresh (Nat.le_refl _))
/-- a range object just made, walked -/
theorem range_it {pins : List (Addr × Obj)} {σ : St} {H : Hp} {s : Shared} {R : It → Hp → Prop} {E : Value → Shared → Prop} {lo hi : Int} {t u v : Tok} {tk : Nat} (I : Inv X pins σ H s) (h1 : -(2 ^ 62) ≤ lo) (h2 : lo < 2 ^ 62) (h3 : -(2 ^ 62) ≤ hi) (h4 : hi < 2 ^ 62)
    (q : R (Itr lo (hi - lo).toNat) H) : wpAny (model X.prog X.w) X.A (pyIter (.ref s.heap.objs.size)) (PIE X pins σ tg R) E { s with heap := s.heap.push { cls := .type "range", data := .fields #[.int lo t, .int hi u, .int 1 v] }, toks := tk } := by
  refine wpAny_pyIter_range (IsRange.new ..) (small_one h1 h2 h3 h4) ?_
  have I1 : Inv X pins σ H { s with heap := s.heap.push { cls := .type "range", data := .fields #[.int lo t, .int hi u, .int 1 v] }, toks := tk } := I.kept fun b o e => Heap.get?_push_of_some _ e
  refine ⟨(s.heap.push { cls := .type "range", data := .fields #[.int lo t, .int hi u, .int 1 v] }).objs.size, [(s.heap.push { cls := .type "range", data := .fields #[.int lo t, .int hi u, .int 1 v] }).objs.size], _, _, H, rfl,
    I1.kept (t' := tk) fun b o e => Heap.get?_push_of_some _ e, turn_range _ lo (hi - lo).toNat, ?_, fun b hb => ?_, q⟩
  · have e1 : lo + ((0 : Nat) : Int) * 1 = lo := by simp
    have e2 : (((hi - lo).toNat : Nat) : Int) - ((0 : Nat) : Int) = Builtin.Range.rangeSize lo hi 1 := by rw [rangeSize_one]; split <;> omega
    show IsRangeIter _ _ (lo + ((0 : Nat) : Int) * 1) ((((hi - lo).toNat : Nat) : Int) - ((0 : Nat) : Int)) 1
    rw [e1, e2]
    exact Heap.get?_push_size _ rfl
  · have e : b = (s.heap.push { cls := .type "range", data := .fields #[.int lo t, .int hi u, .int 1 v] }).objs.size := by simpa using hb
    subst e
    exact I1.fpOk (Nat.le_refl _) (I1.hok.fresh (Nat.le_refl _))
def iRng1 (ta : TA) : TI := fun σ H R => ta σ H fun vs H1 => ∃ j : Int, vs = [.int j] ∧ -(2 ^ 62) ≤ j ∧ j < 2 ^ 62 ∧ R (Itr 0 j.toNat) H1
theorem pi_range1 {a : Expr} {ta : TA} {p pos : Pos} (hg : Gl X "range") (hm : X.mg "range" = none) (ha : PA X [a] ta) (hs : starEach [a] X.env = [(false, eval a X.env)] := by rfl) : PI X tg (.Call (.Name "range" p) [a] [] pos) (iRng1 ta) := by
  intro pins s σ H R I h
  refine Call_ (ld_blt I hg hm boot_range (PyProof.Rows.callWith_type1 (thn (ha pos pins s σ H _ I h) fun us s1 ⟨vs, H1, I1, r1, q1⟩ => ?_) hs rfl))
  obtain ⟨j, e, q1, q2, q⟩ := q1
  subst e
  cases r1 with
  | cons r rr =>
    cases rr
    obtain ⟨t, rfl⟩ := r
    exact call_range_1 (range_it I1 (by omega) (by omega) q1 q2 (by simpa using q))
/-! ### for -/
/-- W: the invariant by the turn and a measure; N: what the body is to reach -/
def tFor (wi : TI) (g : TG) (tb : TS) : TS := fun D σ H => wi σ H fun J H1 => ∃ W : Nat → Nat → St → Hp → Prop, (∃ m, W 0 m σ H1) ∧ ∀ i m σ H, W i m σ H →
  (J.stop i H ∧ D.nx σ H) ∨ (J.go i H ∧ ∃ N : St → Hp → Prop, (∀ σ' H', N σ' H' → ∃ m', m' < m ∧ W (i + 1) m' σ' H') ∧ ∀ x H', J.yld i H x H' → g x σ H' fun σ2 H2 => tb { D with nx := N, ct := N, bk := D.nx } σ2 H2)
/-- the records at fp as they stand -/
def pinsAt (fp : List Addr) (h : Heap) : List (Addr × Obj) := fp.filterMap fun b => (h.get? b).map fun o => (b, o)
theorem mem_pinsAt {fp : List Addr} {h : Heap} {b : Addr} {o : Obj} (hb : b ∈ fp) (e : h.get? b = some o) : (b, o) ∈ pinsAt fp h := List.mem_filterMap.mpr ⟨b, hb, by rw [e]; rfl⟩
theorem of_pinsAt {fp : List Addr} {h : Heap} {p : Addr × Obj} (hp : p ∈ pinsAt fp h) : p.1 ∈ fp ∧ h.get? p.1 = some p.2 := by
  obtain ⟨b, hb, e⟩ := List.mem_filterMap.mp hp
  cases q : h.get? b with
  | none => rw [q] at e; cases e
  | some o =>
    rw [q] at e
    have e' : (b, o) = p := Option.some.inj e
    subst e'
    exact ⟨hb, q⟩
theorem Inv.pinned {pins : List (Addr × Obj)} {σ : St} {H : Hp} {s : Shared} {fp : List Addr} (I : Inv X pins σ H s) (hf : ∀ b ∈ fp, FpOk X pins H b) (ho : ∀ b ∈ fp, ∃ o, s.heap.get? b = some o ∧ ∀ v, o.data ≠ .cell v) : Inv X (pins ++ pinsAt fp s.heap) σ H s :=
  I.pins_of fun p hp => (List.mem_append.mp hp).elim (fun z => I.pin p (List.mem_append_right _ z)) fun z => by
    obtain ⟨hb, e⟩ := of_pinsAt z
    obtain ⟨f0, f1, f2, _⟩ := hf p.1 hb
    obtain ⟨o, e', d⟩ := ho p.1 hb
    rw [e] at e'; cases e'
    exact ⟨e, f0, f1, f2, d⟩
theorem Inv.unpinned {pins pl : List (Addr × Obj)} {σ : St} {H : Hp} {s : Shared} (I : Inv X (pins ++ pl) σ H s) : Inv X pins σ H s := I.pins_of fun p hp => I.pin p (List.mem_append_right _ (List.mem_append_left _ hp))
theorem ps_for {iter : Expr} {body : List Stmt} {wi : TI} {g : TG} {tb : TS} {pos : Pos} (hp : PassesOwn (model X.prog X.w) X.A X.env X.xe) (hc : X.calm = true) (hi : PI X tg iter wi) (hg : PG X tg g) (hb : PSs X body tb)
    (hs : ∀ x, foldedSetIterable iter X.env x = pure x := by intro _; rfl) : PS X (.For tg iter body [] pos) (tFor wi g tb) := by
  intro pins s σ H D I h
  refine wpAny_For (thn (hi pins s σ H _ I h) fun v s1 h1 => thn h1 fun itv s2 h2 => ?_) hs
  obtain ⟨it, fp, tn, J, H2, e, I2, T, st2, f2, W, ⟨m0, w0⟩, turn⟩ := h2
  subst e
  -- what stays true of the iterator's objects through the loop
  have stat : ∀ {H' : Hp}, (∀ b ∈ fp, H' b = none) → ∀ b ∈ fp, FpOk X pins H' b := fun hn b hb => ⟨hn b hb, (f2 b hb).2⟩
  refine codeAny_forLoop_any (fun n s' => ∃ i σ' H', Inv X pins σ' H' s' ∧ tn i s'.heap ∧ (∀ b ∈ fp, H' b = none) ∧ W i n σ' H') ?_ m0 ⟨0, σ, H2, I2, st2, fun b hb => (f2 b hb).1, w0⟩
  rintro n s3 ⟨i, σ3, H3, I3, st3, fr3, w3⟩
  rcases turn i n σ3 H3 w3 with ⟨stop, qn⟩ | ⟨go, N, hN, step⟩
  · refine wpAny_passesOwn hp (thn (T.done X rfl rfl rfl hc i pins s3 σ3 H3 X.xe I3 (stat fr3) st3 stop) fun r s4 ⟨hr, I4⟩ => ?_)
    subst hr
    exact wpAny_execs_nil ⟨σ3, H3, I4, qn⟩
  · refine wpAny_passesOwn hp (thn (T.item X rfl rfl rfl hc i pins s3 σ3 H3 X.xe I3 (stat fr3) st3 go) fun r s4 ⟨u, hr, h4⟩ => ?_)
    subst hr
    refine wpAny_passesOwn hp (thn h4 fun _ s5 ⟨x, H5, I5, r5, y5, st5, fr5⟩ => ?_)
    have I5' := I5.pinned (stat fr5) (T.obj _ _ st5)
    refine wpAny_passesOwn hp (thn (hg _ s5 σ3 H5 x u _ I5' r5 (step x H5 y5)) fun _ s6 ⟨σ6, H6, I6, q6⟩ => ?_)
    refine wpAny_passesOwn hp (thn (hb _ s6 σ6 H6 _ I6 q6) fun f s7 q7 => ?_)
    have again : ∀ {σ7 : St} {H7 : Hp}, Inv X (pins ++ pinsAt fp s5.heap) σ7 H7 s7 → N σ7 H7 → ∃ m, m < n ∧ ∃ i σ' H', Inv X pins σ' H' s7 ∧ tn i s7.heap ∧ (∀ b ∈ fp, H' b = none) ∧ W i m σ' H' := fun {σ7 H7} I7 n7 => by
      obtain ⟨m', hm, w7⟩ := hN σ7 H7 n7
      refine ⟨m', hm, i + 1, σ7, H7, I7.unpinned, T.keep _ _ _ st5 fun b hb o e => (I7.pin (b, o) (List.mem_append_right _ (List.mem_append_right _ (mem_pinsAt hb e)))).1, fun b hb => ?_, w7⟩
      obtain ⟨o, e, d⟩ := T.obj _ _ st5 b hb
      exact (I7.pin (b, o) (List.mem_append_right _ (List.mem_append_right _ (mem_pinsAt hb e)))).2.1
    cases f with
    | next => obtain ⟨σ7, H7, I7, n7⟩ := q7; exact again I7 n7
    | cont => obtain ⟨σ7, H7, I7, n7⟩ := q7; exact again I7 n7
    | brk => obtain ⟨σ7, H7, I7, q7⟩ := q7; exact ⟨σ7, H7, I7.unpinned, q7⟩
    | ret v => obtain ⟨x7, σ7, H7, I7, r7, q7⟩ := q7; exact ⟨x7, σ7, H7, I7.unpinned, r7, q7⟩
end

/-! ### the forms one uses -/
/-- over a list that the body leaves as it is -/
theorem for_list {K : PySem.W.Frag} {a : Addr} {xs : List V} {g : TG} {tb : TS} {D : Ends} {σ : St} {H : Hp} (Pv : Nat → St → Hp → Prop) (h0 : Pv 0 σ H) (hl : ∀ i σ H, i ≤ xs.length → Pv i σ H → SqL K H a xs)
    (hs : ∀ i x σ H, xs[i]? = some x → Pv i σ H → g x σ H fun σ2 H2 => tb { D with nx := Pv (i + 1), ct := Pv (i + 1), bk := D.nx } σ2 H2) (hd : ∀ σ H, Pv xs.length σ H → D.nx σ H) :
    ∃ W : Nat → Nat → St → Hp → Prop, (∃ m, W 0 m σ H) ∧ ∀ i m σ H, W i m σ H →
      ((Itl K a).stop i H ∧ D.nx σ H) ∨ ((Itl K a).go i H ∧ ∃ N : St → Hp → Prop, (∀ σ' H', N σ' H' → ∃ m', m' < m ∧ W (i + 1) m' σ' H') ∧ ∀ x H', (Itl K a).yld i H x H' → g x σ H' fun σ2 H2 => tb { D with nx := N, ct := N, bk := D.nx } σ2 H2) := by
  refine ⟨fun i m σ H => m = xs.length - i ∧ i ≤ xs.length ∧ Pv i σ H, ⟨xs.length, by simp, Nat.zero_le _, h0⟩, ?_⟩
  rintro i m σ H ⟨rfl, hi, p⟩
  have q := hl i σ H hi p
  by_cases hlt : i < xs.length
  · refine .inr ⟨⟨xs, xs[i], q, by simp [hlt]⟩, Pv (i + 1), fun σ' H' p' => ⟨xs.length - (i + 1), by omega, rfl, hlt, p'⟩, fun x H' y => ?_⟩
    obtain ⟨e, y⟩ := y
    subst e
    exact hs i x σ _ (y xs q) p
  · have e : i = xs.length := by omega
    subst e
    exact .inl ⟨⟨xs, q, Nat.le_refl _⟩, hd σ H p⟩
theorem for_range {lo : Int} {n : Nat} {g : TG} {tb : TS} {D : Ends} {σ : St} {H : Hp} (Pv : Nat → St → Hp → Prop) (h0 : Pv 0 σ H)
    (hs : ∀ i σ H, i < n → Pv i σ H → g (.int (lo + i)) σ H fun σ2 H2 => tb { D with nx := Pv (i + 1), ct := Pv (i + 1), bk := D.nx } σ2 H2) (hd : ∀ σ H, Pv n σ H → D.nx σ H) :
    ∃ W : Nat → Nat → St → Hp → Prop, (∃ m, W 0 m σ H) ∧ ∀ i m σ H, W i m σ H →
      ((Itr lo n).stop i H ∧ D.nx σ H) ∨ ((Itr lo n).go i H ∧ ∃ N : St → Hp → Prop, (∀ σ' H', N σ' H' → ∃ m', m' < m ∧ W (i + 1) m' σ' H') ∧ ∀ x H', (Itr lo n).yld i H x H' → g x σ H' fun σ2 H2 => tb { D with nx := N, ct := N, bk := D.nx } σ2 H2) := by
  refine ⟨fun i m σ H => m = n - i ∧ i ≤ n ∧ Pv i σ H, ⟨n, by simp, Nat.zero_le _, h0⟩, ?_⟩
  rintro i m σ H ⟨rfl, hi, p⟩
  by_cases hlt : i < n
  · refine .inr ⟨hlt, Pv (i + 1), fun σ' H' p' => ⟨n - (i + 1), by omega, rfl, hlt, p'⟩, fun x H' y => ?_⟩
    obtain ⟨e, y⟩ := y
    subst e y
    exact hs i σ _ hlt p
  · have e : i = n := by omega
    subst e
    exact .inl ⟨Nat.le_refl _, hd σ H p⟩
end L2

namespace L2
open PySem PySem.Spec PyProof.Rows

abbrev R2 := V → V → Hp → VK → Prop
/-- a two-place operation on values: f is binaryOp op, inplaceOp op or compareOp op -/
def OpR (X : Cx) (f : Value → Value → Sem Value) (r : R2) : Prop :=
  ∀ (pins : List (Addr × Obj)) (s : Shared) (σ : St) (H : Hp) (x y : V) (v u : Value) (Q : VK), Inv X pins σ H s → RelV x v → RelV y u → r x y H Q →
    wpAny (model X.prog X.w) X.A (f v u) (EP X pins σ Q) X.xe s
/-- a one-place operation -/
def UnR (X : Cx) (f : Value → Sem Value) (r : V → Hp → VK → Prop) : Prop :=
  ∀ (pins : List (Addr × Obj)) (s : Shared) (σ : St) (H : Hp) (x : V) (v : Value) (Q : VK), Inv X pins σ H s → RelV x v → r x H Q →
    wpAny (model X.prog X.w) X.A (f v) (EP X pins σ Q) X.xe s
/-- a call of a value that is known (a builtin, a type) with values -/
def CallR (X : Cx) (f : Value) (r : List V → Hp → VK → Prop) : Prop :=
  ∀ (pins : List (Addr × Obj)) (s : Shared) (σ : St) (H : Hp) (xs : List V) (us : List Value) (Q : VK), Inv X pins σ H s → Vals xs us → r xs H Q →
    wpAny (model X.prog X.w) X.A (call f us) (EP X pins σ Q) X.xe s
def tOp (r : R2) (ta tb : TE) : TE := fun σ H Q => ta σ H fun x H1 => tb σ H1 fun y H2 => r x y H2 Q
def tUn (r : V → Hp → VK → Prop) (ta : TE) : TE := fun σ H Q => ta σ H fun x H1 => r x H1 Q
/-- ints in, under C, and a value out -/
def rI (C : Int → Int → Prop) (g : Int → Int → V) : R2 := fun x y H Q => ∃ i j, x = .int i ∧ y = .int j ∧ C i j ∧ Q (g i j) H
def rI0 (g : Int → Int → V) : R2 := fun x y H Q => ∃ i j, x = .int i ∧ y = .int j ∧ Q (g i j) H
def rU (g : Int → V) : V → Hp → VK → Prop := fun x H Q => ∃ i, x = .int i ∧ Q (g i) H

section
variable {X : Cx} {a b c : Expr} {ta tb tc : TE} {pos : Pos}

theorem binT (ha : PE X a ta) (hb : PE X b tb) {pins : List (Addr × Obj)} {s : Shared} {σ : St} {H : Hp} {R : V → V → Hp → Prop} (I : Inv X pins σ H s)
    (h : ta σ H fun x H1 => tb σ H1 fun y H2 => R x y H2) {Q : Value → Shared → Prop} {f : Value → Value → Sem Value}
    (hf : ∀ v u s2 x y H2, Inv X pins σ H2 s2 → RelV x v → RelV y u → R x y H2 → wpAny (model X.prog X.w) X.A (f v u) Q X.xe s2) :
    wpAny (model X.prog X.w) X.A (eval a X.env) (fun v s₁ => wpAny (model X.prog X.w) X.A (eval b X.env) (fun u s₂ => wpAny (model X.prog X.w) X.A (f v u) Q X.xe s₂) X.xe s₁) X.xe s := by
  refine thn (ha pins s σ H _ I h) fun v s1 ⟨x, H1, I1, r1, q1⟩ => ?_
  refine thn (hb pins s1 σ H1 _ I1 q1) fun u s2 ⟨y, H2, I2, r2, q2⟩ => ?_
  exact hf v u s2 x y H2 I2 r1 r2 q2

theorem pe_op {op : Operator} {r : R2} (ho : OpR X (binaryOp op) r) (ha : PE X a ta) (hb : PE X b tb) : PE X (.BinOp a op b pos) (tOp r ta tb) := by
  intro pins s σ H Q I h
  exact wpAny_BinOp (binT ha hb I h fun v u s2 x y H2 I2 rx ry q => ho pins s2 σ H2 x y v u Q I2 rx ry q)
theorem pe_un {op : UnaryOp} {r : V → Hp → VK → Prop} (ho : UnR X (unaryOp op) r) (ha : PE X a ta) : PE X (.UnaryOp op a pos) (tUn r ta) := by
  intro pins s σ H Q I h
  exact UnaryOp_ (thn (ha pins s σ H _ I h) fun v s1 ⟨x, H1, I1, r1, q1⟩ => ho pins s1 σ H1 x v Q I1 r1 q1)
/-! ### ints -/
theorem opI {f : Value → Value → Sem Value} {C : Int → Int → Prop} {g : Int → Int → Int}
    (rule : ∀ (i j : Int) (t u : Tok) (s : Shared) (Q : Value → Shared → Prop) (E : Value → Shared → Prop), C i j → Q (.int (g i j) s.toks) { s with toks := s.toks + 1 } → wpAny (model X.prog X.w) X.A (f (.int i t) (.int j u)) Q E s) :
    OpR X f (rI C fun i j => .int (g i j)) := by
  intro pins s σ H x y v u Q I rx ry h
  obtain ⟨i, j, rfl, rfl, hc, q⟩ := h
  obtain ⟨t, rfl⟩ := rx
  obtain ⟨t', rfl⟩ := ry
  exact rule i j t t' s _ _ hc ⟨.int (g i j), H, I.tok _, ⟨_, rfl⟩, q⟩
theorem opI0 {f : Value → Value → Sem Value} {g : Int → Int → Int}
    (rule : ∀ (i j : Int) (t u : Tok) (s : Shared) (Q : Value → Shared → Prop) (E : Value → Shared → Prop), Q (.int (g i j) s.toks) { s with toks := s.toks + 1 } → wpAny (model X.prog X.w) X.A (f (.int i t) (.int j u)) Q E s) :
    OpR X f (rI0 fun i j => .int (g i j)) := by
  intro pins s σ H x y v u Q I rx ry h
  obtain ⟨i, j, rfl, rfl, q⟩ := h
  obtain ⟨t, rfl⟩ := rx
  obtain ⟨t', rfl⟩ := ry
  exact rule i j t t' s _ _ ⟨.int (g i j), H, I.tok _, ⟨_, rfl⟩, q⟩
theorem opB0 {f : Value → Value → Sem Value} {g : Int → Int → Bool}
    (rule : ∀ (i j : Int) (t u : Tok) (s : Shared) (Q : Value → Shared → Prop) (E : Value → Shared → Prop), Q (.bool (g i j)) s → wpAny (model X.prog X.w) X.A (f (.int i t) (.int j u)) Q E s) :
    OpR X f (rI0 fun i j => .bl (g i j)) := by
  intro pins s σ H x y v u Q I rx ry h
  obtain ⟨i, j, rfl, rfl, q⟩ := h
  obtain ⟨t, rfl⟩ := rx
  obtain ⟨t', rfl⟩ := ry
  exact rule i j t t' s _ _ ⟨.bl (g i j), H, I, rfl, q⟩

def CPow (i j : Int) : Prop := 0 ≤ j ∧ j ≤ 1000000 ∧ i.natAbs < 2 ^ 64
def CMul (i j : Int) : Prop := (-(2 ^ 64) < i ∧ i < 2 ^ 64) ∨ (-(2 ^ 64) < j ∧ j < 2 ^ 64)
theorem CMul.ok {i j : Int} (h : CMul i j) : IntMulOk i j := by
  rcases h with ⟨h1, h2⟩ | ⟨h1, h2⟩
  · exact .of_left (intBits_le_64 h1 h2)
  · exact .of_right (intBits_le_64 h1 h2)
theorem op_add : OpR X (binaryOp .Add) (rI0 fun i j => .int (i + j)) := opI0 fun _ _ _ _ _ _ _ q => add_int q
theorem op_sub : OpR X (binaryOp .Sub) (rI0 fun i j => .int (i - j)) := opI0 fun _ _ _ _ _ _ _ q => sub_int q
theorem op_mul : OpR X (binaryOp .Mult) (rI CMul fun i j => .int (i * j)) := opI fun _ _ _ _ _ _ _ hc q => mul_int q hc.ok
/-- % by a positive divisor of any size -/
theorem op_mod : OpR X (binaryOp .Mod) (rI (fun _ j => 0 < j) fun i j => .int (i % j)) := opI fun i j _ _ _ _ _ hc q => by
  have h1 : (0 : Int) < j := hc
  exact mod_int' (by omega) (by rw [Int.fmod_eq_emod_of_nonneg i (by omega)]; exact q)
theorem op_pow : OpR X (binaryOp .Pow) (rI CPow fun i j => .int (i ^ j.toNat)) := opI fun _ _ _ _ _ _ _ hc q => pow_int_small hc.1 hc.2.1 hc.2.2 q
theorem unI {f : Value → Sem Value} {g : Int → Int}
    (rule : ∀ (i : Int) (t : Tok) (s : Shared) (Q : Value → Shared → Prop) (E : Value → Shared → Prop), Q (.int (g i) s.toks) { s with toks := s.toks + 1 } → wpAny (model X.prog X.w) X.A (f (.int i t)) Q E s) :
    UnR X f (rU fun i => .int (g i)) := by
  intro pins s σ H x v Q I rx h
  obtain ⟨i, rfl, q⟩ := h
  obtain ⟨t, rfl⟩ := rx
  exact rule i t s _ _ ⟨.int (g i), H, I.tok _, ⟨_, rfl⟩, q⟩
theorem un_neg : UnR X (unaryOp .USub) (rU fun i => .int (-i)) := unI fun _ _ _ _ _ q => neg_int q
/-! ### bools among ints: n += (a < b) -/
end

/-! ### comparisons -/
/-- the scalars that == tells apart as data does -/
def scal : V → V → Bool
  | .non, .non => true | .non, .int _ => true | .int _, .non => true | .non, .bl _ => true | .bl _, .non => true | .non, .str _ => true | .str _, .non => true
  | .int _, .int _ => true | .bl _, .bl _ => true | .str _, .str _ => true | .byt _, .byt _ => true
  | .int _, .str _ => true | .str _, .int _ => true | .bl _, .str _ => true | .str _, .bl _ => true
  | _, _ => false
def rEq : R2 := fun x y H Q => scal x y = true ∧ Q (.bl (decide (x = y))) H
def rNe : R2 := fun x y H Q => scal x y = true ∧ Q (.bl (!decide (x = y))) H

theorem dec_int {i j : Int} : decide (V.int i = V.int j) = (i == j) := by
  rw [Bool.eq_iff_iff]
  simp
theorem dec_bl {i j : Bool} : decide (V.bl i = V.bl j) = (i == j) := by
  rw [Bool.eq_iff_iff]
  simp
theorem dec_str {i j : Str} : decide (V.str i = V.str j) = (i == j) := by
  rw [Bool.eq_iff_iff]
  simp
theorem dec_byt {i j : Array UInt8} : decide (V.byt i = V.byt j) = (i.toList == j.toList) := by
  rw [Bool.eq_iff_iff]
  cases i
  cases j
  simp

section
variable {X : Cx} {a b c : Expr} {ta tb tc : TE} {pos : Pos}
theorem fin_bl {pins : List (Addr × Obj)} {σ : St} {H : Hp} {s : Shared} {Q : VK} {k k' : Bool} (I : Inv X pins σ H s) (q : Q (.bl k) H) (e : k = k') : EP X pins σ Q (.bool k') s := by
  subst e
  exact ⟨.bl k, H, I, rfl, q⟩
theorem op_eq : OpR X (compareOp .Eq) rEq := by
  intro pins s σ H x y v u Q I rx ry h
  obtain ⟨hs, q⟩ := h
  cases x with
  | non =>
    cases rx
    cases y with
    | non => cases ry; exact PySem.EqNone.eq_none_none (fin_bl I q (by simp))
    | bl j => cases ry; exact PySem.EqNone.eq_none_bool (fin_bl I q (by simp))
    | int j => obtain ⟨t', rfl⟩ := ry; exact PySem.EqNone.eq_none_int (fin_bl I q (by simp))
    | str j => obtain ⟨t', rfl⟩ := ry; exact PySem.EqNone.eq_none_str (fin_bl I q (by simp))
    | _ => exact absurd (show false = true from hs) Bool.false_ne_true
  | bl i =>
    cases rx
    cases y with
    | non => cases ry; exact PySem.EqNone.eq_bool_none (fin_bl I q (by simp))
    | bl j => cases ry; exact eq_bool (fin_bl I q dec_bl)
    | str j => obtain ⟨t', rfl⟩ := ry; exact PySem.EqMixed.eq_bool_str (fin_bl I q (by simp))
    | _ => exact absurd (show false = true from hs) Bool.false_ne_true
  | int i =>
    obtain ⟨t, rfl⟩ := rx
    cases y with
    | non => cases ry; exact PySem.EqNone.eq_int_none (fin_bl I q (by simp))
    | int j => obtain ⟨t', rfl⟩ := ry; exact eq_int (fin_bl I q dec_int)
    | str j => obtain ⟨t', rfl⟩ := ry; exact PySem.EqMixed.eq_int_str (fin_bl I q (by simp))
    | _ => exact absurd (show false = true from hs) Bool.false_ne_true
  | str i =>
    obtain ⟨t, rfl⟩ := rx
    cases y with
    | non => cases ry; exact PySem.EqNone.eq_str_none (fin_bl I q (by simp))
    | bl j => cases ry; exact PySem.EqMixed.eq_str_bool (fin_bl I q (by simp))
    | int j => obtain ⟨t', rfl⟩ := ry; exact PySem.EqMixed.eq_str_int (fin_bl I q (by simp))
    | str j => obtain ⟨t', rfl⟩ := ry; exact eq_str (fin_bl I q dec_str)
    | _ => exact absurd (show false = true from hs) Bool.false_ne_true
  | byt i =>
    obtain ⟨t, rfl⟩ := rx
    cases y with
    | byt j => obtain ⟨t', rfl⟩ := ry; exact PySem.W.eq_bytes (fin_bl I q dec_byt)
    | _ => exact absurd (show false = true from hs) Bool.false_ne_true
  | _ => cases y <;> exact absurd (show false = true from hs) Bool.false_ne_true
theorem op_ne : OpR X (compareOp .NotEq) rNe := by
  intro pins s σ H x y v u Q I rx ry h
  obtain ⟨hs, q⟩ := h
  cases x with
  | non =>
    cases rx
    cases y with
    | non => cases ry; exact PySem.EqNone.ne_none_none (fin_bl I q (by simp))
    | bl j => cases ry; exact PySem.EqNone.ne_none_bool (fin_bl I q (by simp))
    | int j => obtain ⟨t', rfl⟩ := ry; exact PySem.EqNone.ne_none_int (fin_bl I q (by simp))
    | str j => obtain ⟨t', rfl⟩ := ry; exact PySem.EqNone.ne_none_str (fin_bl I q (by simp))
    | _ => exact absurd (show false = true from hs) Bool.false_ne_true
  | bl i =>
    cases rx
    cases y with
    | non => cases ry; exact PySem.EqNone.ne_bool_none (fin_bl I q (by simp))
    | bl j => cases ry; exact ne_bool (fin_bl I q (congrArg not dec_bl))
    | str j => obtain ⟨t', rfl⟩ := ry; exact PySem.EqMixed.ne_bool_str (fin_bl I q (by simp))
    | _ => exact absurd (show false = true from hs) Bool.false_ne_true
  | int i =>
    obtain ⟨t, rfl⟩ := rx
    cases y with
    | non => cases ry; exact PySem.EqNone.ne_int_none (fin_bl I q (by simp))
    | int j => obtain ⟨t', rfl⟩ := ry; exact ne_int (fin_bl I q (congrArg not dec_int))
    | str j => obtain ⟨t', rfl⟩ := ry; exact PySem.EqMixed.ne_int_str (fin_bl I q (by simp))
    | _ => exact absurd (show false = true from hs) Bool.false_ne_true
  | str i =>
    obtain ⟨t, rfl⟩ := rx
    cases y with
    | non => cases ry; exact PySem.EqNone.ne_str_none (fin_bl I q (by simp))
    | bl j => cases ry; exact PySem.EqMixed.ne_str_bool (fin_bl I q (by simp))
    | int j => obtain ⟨t', rfl⟩ := ry; exact PySem.EqMixed.ne_str_int (fin_bl I q (by simp))
    | str j => obtain ⟨t', rfl⟩ := ry; exact ne_str (fin_bl I q (congrArg not dec_str))
    | _ => exact absurd (show false = true from hs) Bool.false_ne_true
  | byt i =>
    obtain ⟨t, rfl⟩ := rx
    cases y with
    | byt j => obtain ⟨t', rfl⟩ := ry; exact PySem.W.ne_bytes (fin_bl I q (congrArg not dec_byt))
    | _ => exact absurd (show false = true from hs) Bool.false_ne_true
  | _ => cases y <;> exact absurd (show false = true from hs) Bool.false_ne_true

theorem op_lt : OpR X (compareOp .Lt) (rI0 fun i j => .bl (decide (i < j))) := opB0 fun _ _ _ _ _ _ _ q => lt_int q
theorem op_le : OpR X (compareOp .LtE) (rI0 fun i j => .bl (decide (i ≤ j))) := opB0 fun _ _ _ _ _ _ _ q => le_int q
theorem op_gt : OpR X (compareOp .Gt) (rI0 fun i j => .bl (decide (j < i))) := opB0 fun _ _ _ _ _ _ _ q => gt_int q
theorem op_ge : OpR X (compareOp .GtE) (rI0 fun i j => .bl (decide (j ≤ i))) := opB0 fun _ _ _ _ _ _ _ q => ge_int q
/-- two rules for one operation: by cases -/
theorem OpR.or {f : Value → Value → Sem Value} {r r' : R2} (h : OpR X f r) (h' : OpR X f r') : OpR X f (fun x y H Q => r x y H Q ∨ r' x y H Q) := by
  intro pins s σ H x y v u Q I rx ry q
  rcases q with q | q
  · exact h pins s σ H x y v u Q I rx ry q
  · exact h' pins s σ H x y v u Q I rx ry q

theorem nomark (b : Expr) {op : CmpOp} (h : op ≠ .In := by decide) (h2 : op ≠ .NotIn := by decide) : behindInMarks op b = false := by
  have e1 : (op == CmpOp.In) = false := by cases op <;> first | rfl | exact absurd rfl h
  have e2 : (op == CmpOp.NotIn) = false := by cases op <;> first | rfl | exact absurd rfl h2
  cases b <;> simp [behindInMarks, e1, e2]
/-- a comparison as a value; hm: nomark b, or (for in, not in) by with_unfolding_all rfl -/
theorem pe_cmpR {op : CmpOp} {r : R2} (ho : OpR X (compareOp op) r) (ha : PE X a ta) (hb : PE X b tb) (hm : behindInMarks op b = false) : PE X (.Compare a [op] [b] pos) (tOp r ta tb) := by
  intro pins s σ H Q I h
  exact wpAny_Compare1 (binT ha hb I h fun v u s2 x y H2 I2 rx ry q => ho pins s2 σ H2 x y v u Q I2 rx ry q) hm
/-- a reading of a value as a test -/
def tTest (t : TE) : TT := fun σ H Q => t σ H fun x H' => ∃ k, x = .bl k ∧ Q k H'
theorem pt_cmpR {op : CmpOp} {r : R2} (ho : OpR X (compareOp op) r) (ha : PE X a ta) (hb : PE X b tb) (hm : behindInMarks op b = false) : PT X (.Compare a [op] [b] pos) (tTest (tOp r ta tb)) := by
  intro pins s σ H Q I h
  refine wpAny_isTrue_Compare1 (thn (ha pins s σ H _ I h) fun v s1 ⟨x, H1, I1, r1, q1⟩ => thn (hb pins s1 σ H1 _ I1 q1) fun u s2 ⟨y, H2, I2, r2, q2⟩ =>
    thn (ho pins s2 σ H2 x y v u _ I2 r1 r2 q2) fun c s3 ⟨z, H3, I3, r3, k, e, q3⟩ => ?_) hm
  subst e
  cases r3
  exact wpAny_truthy_bool ⟨H3, I3, q3⟩
/-! ### truth -/
theorem line63 : (sizeLine : Nat) < 2 ^ 63 := by rw [sizeLine_eq]; decide
/-! ### strs and bytes -/
/-! ### scalar builtins, by CallR -/
theorem vals1 {x : V} {us : List Value} (r : Vals [x] us) : ∃ u, us = [u] ∧ RelV x u := by
  cases r with
  | cons r1 r2 => cases r2; exact ⟨_, rfl, r1⟩
theorem vals2 {x y : V} {us : List Value} (r : Vals [x, y] us) : ∃ u w', us = [u, w'] ∧ RelV x u ∧ RelV y w' := by
  cases r with
  | cons r1 r2 =>
    cases r2 with
    | cons r3 r4 => cases r4; exact ⟨_, _, rfl, r1, r3⟩
theorem call_min2 (hc : X.calm = true) : CallR X (.builtin "min") (fun xs H Q => ∃ i j, xs = [.int i, .int j] ∧ Q (.int (if j < i then j else i)) H) := by
  intro pins s σ H xs us Q I r h
  obtain ⟨i, j, rfl, q⟩ := h
  obtain ⟨u, w', rfl, ⟨t, rfl⟩, ⟨t', rfl⟩⟩ := vals2 r
  refine min_two_ints (I.ok.hd hc) fun h' tk k => ⟨_, H, I.kept k, ?_, q⟩
  by_cases hj : j < i
  · rw [if_pos hj, if_pos hj]; exact ⟨_, rfl⟩
  · rw [if_neg hj, if_neg hj]; exact ⟨_, rfl⟩
end
end L2

namespace L2
open PySem PySem.Spec PyProof.Rows

/-! ### an instance, its attributes a map -/
structure ObjM (h : Heap) (x dx C : Addr) (mA : Str → Option Value) : Prop where
  obj : h.get? x = some (PySem.W.instObj C dx)
  ns : h.Ns1 dx mA
  ne : dx ≠ x

section
variable {prog : Program} {w : World} {A : Around} {E : Value → Shared → Prop} {s : Shared} {K : PySem.W.Frag} {x dx C f : Addr} {mA : Str → Option Value} {name : Str} {v : Value}

end

/-! ### the attributes as a list of pairs -/
section
variable {P : Program} {w : World} {H H' : Hp} {h h' : Heap} {a C dx : Addr} {fs fs' : List (Str × V)}
end

/-! ### what of the text a class must have -/
structure Cls (K : PySem.W.Frag) (C : Addr) : Prop where
  pg : PySem.W.plainGet K C Str.empty = true
  hd : PySem.W.hasDictIn K C = true
  po : PySem.W.plainOver K C = true
  sa : PySem.W.findIn K (.ref C) "__setattr__" = some (some (.builtin "object.__setattr__"))
theorem Cls.get {K : PySem.W.Frag} {C : Addr} (c : Cls K C) (f : Str) : PySem.W.plainGet K C f = true := c.pg
/-- a constant of the class -/
structure Con (K : PySem.W.Frag) (C : Addr) (f : Str) (v : V) (u : Value) : Prop where
  at_ : PySem.W.findIn K (.ref C) f = some (some u)
  rel : RelV v u
  get : PySem.W.specialIn K u "__get__" = some none
  cp : PySem.W.copiedNames.contains f = false
/-- a method: a plain def of the class or of one above it -/
structure Meth (K : PySem.W.Frag) (C : Addr) (m : Str) (f : Addr) : Prop where
  at_ : PySem.W.findIn K (.ref C) m = some (some (.ref f))
  fn : PySem.W.isFn K (.ref f) = true
  kp : PySem.W.keepIn K (.ref f) = true

section
variable {X : Cx} {pins : List (Addr × Obj)} {σ : St} {H : Hp} {s : Shared} {a C dx : Addr} {fs : List (Str × V)} {f : Str} {v : V} {A : Around} {E : Value → Shared → Prop}

/-- a new instance, tracked, without attributes -/
theorem Inv.made (I : Inv X pins σ H s) : Inv X pins σ (upd (upd H s.heap.objs.size (.own (s.heap.objs.size + 1))) (s.heap.objs.size + 1) (.ins C s.heap.objs.size []))
    { s with heap := (s.heap.push PySem.W.emptyDict).push (PySem.W.instObj C s.heap.objs.size) } := by
  have e1 : (s.heap.push PySem.W.emptyDict).get? s.heap.objs.size = some PySem.W.emptyDict := Heap.get?_push_size s.heap rfl
  have e2 : ((s.heap.push PySem.W.emptyDict).push (PySem.W.instObj C s.heap.objs.size)).get? (s.heap.objs.size + 1) = some (PySem.W.instObj C s.heap.objs.size) := by
    have := Heap.get?_push_size (s.heap.push PySem.W.emptyDict) (o := PySem.W.instObj C s.heap.objs.size) rfl
    rwa [Heap.size_push] at this
  have e3 : (s.heap.push PySem.W.emptyDict).Ns s.heap.objs.size (fun _ => none) := ⟨PySem.W.emptyDict, #[], _, e1, rfl, (fun e he => absurd he (by simp)), fun _ => rfl⟩
  have I1 := I.laid (a := s.heap.objs.size) (o := .own (s.heap.objs.size + 1)) (h' := s.heap.push PySem.W.emptyDict) (t' := s.toks) (fun b u q => Heap.get?_push_of_some _ q) (Nat.le_refl _) ⟨_, e1⟩
  refine I1.laid (a := s.heap.objs.size + 1) (o := .ins C s.heap.objs.size []) (t' := s.toks) (fun b u q => Heap.get?_push_of_some _ q) (Nat.le_of_eq (Heap.size_push _ _)) ?_
  have ne : s.heap.objs.size ≠ s.heap.objs.size + 1 := Nat.ne_of_lt (Nat.lt_succ_self _)
  refine ⟨by rw [upd_ne ne, upd_same], Nat.zero_le _, ne, e2, fun _ => none, (Heap.Ns1.of_empty e3).at fun o q => Heap.get?_push_of_some _ q, fun _ => True.intro, fun y hy => absurd rfl hy⟩

end

/-! ### readings and rules -/
section
variable {X : Cx} {o e value : Expr} {f : Str} {pos pos' tpos : Pos} {ta tv : TE}
end

/-! ### isinstance -/
section
variable {X : Cx} {pins : List (Addr × Obj)} {σ : St} {H : Hp} {s : Shared} {A : Around} {E : Value → Shared → Prop} {Q : Value → Shared → Prop} {c : Value} {b : Bool}
/-- the type of a value, as the fragment's deciders take it; for an instance its class -/
inductive TyOf (K : PySem.W.Frag) (H : Hp) : V → Value → Prop where
  | non : TyOf K H .non (.type "NoneType")
  | bl (x : Bool) : TyOf K H (.bl x) (.type "bool")
  | int (i : Int) : TyOf K H (.int i) (.type "int")
  | str (x : Str) : TyOf K H (.str x) (.type "str")
  | flt (x : UInt64) : TyOf K H (.flt x) (.type "float")
  | lst {a : Addr} {xs : List V} (e : H a = some (.lst xs)) : TyOf K H (.ref a) (.type "list")
  | frz {a : Addr} {o : Obj} {xs : List V} (e : H a = some (.frz o (.lst xs))) : TyOf K H (.ref a) (.type "list")
  | tup {a : Addr} {xs : List V} (e : H a = some (.tup xs)) : TyOf K H (.ref a) (.type "tuple")
  | dK {a : Addr} {kvs : List (Key × V)} (e : H a = some (.dK kvs)) : TyOf K H (.ref a) (.type "dict")
  | dT {a : Addr} {kvs : List (List Key × V)} (e : H a = some (.dT kvs)) : TyOf K H (.ref a) (.type "dict")
  | ins {a C dx : Addr} {fs : List (Str × V)} (e : H a = some (.ins C dx fs)) (cl : Cls K C) (ha : PySem.W.findIn K (.ref C) "__class__" = some (some (.builtin "object.__class__")))
      (hn : PySem.W.specialIn K (.builtin "object.__class__") "__get__" = some (some (.builtin "getset_descriptor.__get__"))) (htk : PySem.W.takesIn K (.builtin "object.__class__") = some true)
      (hm : PySem.W.mroIn K C (.type "object") = some true) : TyOf K H (.ref a) (.ref C)
end
end L2

namespace L2
open PySem PySem.Spec PyProof.Rows

/-! ### room -/
structure Room (k : Nat) (A : Around) : Prop where
  hd : A.handled = none
  dp : A.depth + 3 * k + 5 < recursionLimit
  un : A.units + 16 * k + 200 < cLine
theorem Room.mono {j k : Nat} {A : Around} (r : Room k A) (h : j ≤ k) : Room j A := ⟨r.hd, by have := r.dp; omega, by have := r.un; omega⟩
theorem Room.deeper {k : Nat} {A : Around} (r : Room (k + 1) A) (env : Env) : Room k (A.deeper env) :=
  ⟨r.hd, by have := r.dp; show A.depth + 1 + 3 * k + 5 < _; omega, by have := r.un; show A.units + 3 + 16 * k + 200 < _; omega⟩
theorem Room.in1 {k : Nat} {A : Around} (r : Room (k + 1) A) : Room k A.in1 :=
  ⟨r.hd, by have := r.dp; show A.depth + 3 * k + 5 < _; omega, by have := r.un; show A.units + 1 + 16 * k + 200 < _; omega⟩
theorem Room.depth {k : Nat} {A : Around} (r : Room k A) : A.depth < recursionLimit := by have := r.dp; omega
theorem Room.units {k : Nat} {A : Around} (r : Room k A) : A.units + 64 < cLine := by have := r.un; omega
/-! ### argument lists and displays -/
def tNil : TA := fun _ H Q => Q [] H
def tCons (ta : TE) (tr : TA) : TA := fun σ H Q => ta σ H fun x H1 => tr σ H1 fun xs H2 => Q (x :: xs) H2
section
variable {X : Cx} {e : Expr} {es : List Expr} {te : TE} {t : TA} {pos : Pos}
theorem pa_nil : PA X [] tNil := fun _ _ _ _ H Q I h => Calls.spliced_nil ⟨[], H, I, .nil, h⟩
theorem pa_cons (ha : PE X e te) (hr : PA X es t) (hs : starEach (e :: es) X.env = (false, eval e X.env) :: starEach es X.env := by rfl) : PA X (e :: es) (tCons te t) := by
  intro pos pins s σ H Q I h
  rw [hs]
  show wpAny _ _ (spliced ((false, eval e X.env) :: backTo pos (starEach es X.env))) _ _ s
  refine Calls.spliced_cons (thn (ha pins s σ H _ I h) fun u s1 ⟨x, H1, I1, r1, q1⟩ => ?_)
  exact thn (hr pos pins s1 σ H1 _ I1 q1) fun us s2 ⟨xs, H2, I2, r2, q2⟩ => ⟨x :: xs, H2, I2, .cons r1 r2, q2⟩

/-- a tuple, a list of written items -/
def tTup (t : TA) : TE := fun σ H Q => t σ H fun xs H1 => xs.length ≤ sizeLine ∧ ∀ p, H1 p = none → Q (.ref p) (upd H1 p (.tup xs))
def tLst (t : TA) : TE := fun σ H Q => t σ H fun xs H1 => xs.length ≤ sizeLine ∧ ∀ p, H1 p = none → Q (.ref p) (upd H1 p (.lst xs))
theorem pe_tup {x1} (h : PA X es t) : PE X (.Tuple es x1 pos) (tTup t) := by
  intro pins s σ H Q I hq
  refine wpAny_Tuple_spliced (thn (h pos pins s σ H _ I hq) fun us s1 ⟨xs, H1, I1, r, z, q⟩ => ⟨by rw [← r.length]; exact z, ?_⟩)
  have hf : H1 s1.heap.objs.size = none := I1.hok.fresh (Nat.le_refl _)
  refine ⟨.ref s1.heap.objs.size, upd H1 s1.heap.objs.size (.tup xs), I1.laid (t' := s1.toks) (fun b u e => Heap.get?_push_of_some _ e) (Nat.le_refl _) ?_, rfl, q _ hf⟩
  exact ⟨z, us, r, ⟨_, Heap.get?_push_size _ rfl, rfl, _, rfl⟩⟩
theorem pe_lst (h : PA X es t) : PE X (.List es pos) (tLst t) := by
  intro pins s σ H Q I hq
  refine wpAny_List_spliced (thn (h pos pins s σ H _ I hq) fun us s1 ⟨xs, H1, I1, r, z, q⟩ => ⟨by rw [← r.length]; exact z, ?_⟩)
  have hf : H1 s1.heap.objs.size = none := I1.hok.fresh (Nat.le_refl _)
  refine ⟨.ref s1.heap.objs.size, upd H1 s1.heap.objs.size (.lst xs), I1.laid (t' := s1.toks) (fun b u e => Heap.get?_push_of_some _ e) (Nat.le_refl _) ?_, rfl, q _ hf⟩
  exact ⟨z, us, 0, r, Heap.get?_push_size _ rfl⟩
end

/-! ### what a def promises -/
/-- a def's promise: the bound arguments in the parameters' order, the heap, the wanted end, the wanted exception -/
abbrev Sp := List V → Hp → VK → XK → Prop
/-- how an exception lies behind a call (file 08 gives it): the callers' frames, abstract heap and state ahead of the call, the wish, the exception, the state -/
abbrev CXT := List Env → Hp → Shared → XK → Value → Shared → Prop

/-- the state at a call -/
structure Env0 (P : Program) (w : World) (K : PySem.W.Frag) (mg : Str → Option Value) (base : Heap) (A : Around) (outer : List Env) (s : Shared) (H : Hp) : Prop where
  frames : A.frames = some outer
  mod : Mod K mg base
  bs : ∀ b o, base.get? b = some o → s.heap.get? b = some o ∧ H b = none
  bsz : base.objs.size ≤ s.heap.objs.size
  funs : s.heap.FunFrames base outer
  frf : ∀ b ∈ frs outer, H b = none
  hok : HOk P w H s.heap
  bare : AllBare s.gens
/-- a call's end -/
def CE (outer : List Env) (P : Program) (w : World) (H : Hp) (s : Shared) (Q : VK) (u : Value) (s' : Shared) : Prop :=
  ∃ v H', s'.os = s.os ∧ AllBare s'.gens ∧ Un (frs outer) [] H H' s.heap s'.heap ∧ HOk P w H' s'.heap ∧ RelV v u ∧ Q v H'
def CR (CX : CXT) (outer : List Env) (P : Program) (w : World) (H : Hp) (s : Shared) (Q : VK) (E : XK) (r : Result) (s' : Shared) : Prop :=
  match r with
  | .ok (.ret u) => CE outer P w H s Q u s'
  | .ok _ => False
  | .error e => CX outer H s E e s'
structure FnOk (P : Program) (w : World) (K : PySem.W.Frag) (mg : Str → Option Value) (base : Heap) (CX : CXT) (k : Nat) (f : Addr) (fd : FuncData) (ps : List Str) (sp : Sp) : Prop where
  len : ∀ vs H Q E, sp vs H Q E → vs.length = ps.length
  run : ∀ (A : Around) (outer : List Env) (s : Shared) (H : Hp) (args : Args) (us : List Value) (vs : List V) (Q : VK) (E : XK), Room k A → Env0 P w K mg base A outer s H → BindsTo s fd args (ps.zip us) → Vals vs us → sp vs H Q E →
    codeAny (model P w) A (.call (.ref f) args) (CR CX outer P w H s Q E) s
theorem FnOk.mono {P : Program} {w : World} {K : PySem.W.Frag} {mg : Str → Option Value} {base : Heap} {CX : CXT} {j k : Nat} {f : Addr} {fd : FuncData} {ps : List Str} {sp : Sp} (F : FnOk P w K mg base CX j f fd ps sp) (h : j ≤ k) :
    FnOk P w K mg base CX k f fd ps sp := ⟨F.len, fun A outer s H args us vs Q E hr => F.run A outer s H args us vs Q E (hr.mono h)⟩
/-- a weaker promise -/
theorem FnOk.imp {P : Program} {w : World} {K : PySem.W.Frag} {mg : Str → Option Value} {base : Heap} {CX : CXT} {k : Nat} {f : Addr} {fd : FuncData} {ps : List Str} {sp sp' : Sp} (F : FnOk P w K mg base CX k f fd ps sp)
    (h : ∀ vs H Q E, sp' vs H Q E → sp vs H Q E) : FnOk P w K mg base CX k f fd ps sp' :=
  ⟨fun vs H Q E q => F.len vs H Q E (h _ _ _ _ q), fun A outer s H args us vs Q E hr he hb hv hs => F.run A outer s H args us vs Q E hr he hb hv (h _ _ _ _ hs)⟩

theorem Env0.in1 {P : Program} {w : World} {K : PySem.W.Frag} {mg : Str → Option Value} {base : Heap} {A : Around} {outer : List Env} {s : Shared} {H : Hp} (e : Env0 P w K mg base A outer s H) :
    Env0 P w K mg base A.in1 outer s H := ⟨e.frames, e.mod, e.bs, e.bsz, e.funs, e.frf, e.hok, e.bare⟩

section
variable {X : Cx} {pins : List (Addr × Obj)} {σ : St} {H : Hp} {s s' : Shared}
/-- from a body: what a callee wants -/
theorem Inv.env0 (I : Inv X pins σ H s) : Env0 X.prog X.w X.K X.mg X.base X.A X.stack s H :=
  ⟨I.ok.frames, I.ok.mod, I.bs, Nat.le_trans I.ok.bsz I.sz, I.stack, I.stkFree, I.hok, I.bare⟩
/-- behind a call -/
theorem Inv.after {Q : VK} {u : Value} (I : Inv X pins σ H s) (h : CE X.stack X.prog X.w H s Q u s') : EP X pins σ Q u s' := by
  obtain ⟨v, H', os, bare, un, hok, r, q⟩ := h
  obtain ⟨hh, g, d, t, os'⟩ := s'
  obtain rfl : os' = s.os := os
  exact ⟨v, H', I.call (h' := hh) (g' := g) (d' := d) (t' := t) (ch := []) un hok bare (fun b z => absurd z (by simp)), r, q⟩
end

/-! ### calls -/
/-- f(..): the written arguments, then the defaults dvs; E: what is wanted of an exception -/
def tCall (sp : Sp) (dvs : List V) (E : XK) (t : TA) : TE := fun σ H Q => t σ H fun vs H1 => sp (vs ++ dvs) H1 Q E
/-- how the parameters are bound: us the positional arguments, kw the keywords' values by name, ds the defaults that fill up -/
def Binds (K : PySem.W.Frag) (fd : FuncData) (ps : List Str) (ds : List Value) : Prop :=
  ∀ (s : Shared) (us : List Value), K.In s.heap → (us ++ ds).length = ps.length → BindsTo s fd ⟨us, []⟩ (ps.zip (us ++ ds))
/-- every parameter is given -/
theorem Binds.all {K : PySem.W.Frag} {fd : FuncData} {ps : List Str} (h : ∀ us : List Value, us.length = ps.length → bindArgs fd ⟨us, []⟩ = pure (ps.zip us)) : Binds K fd ps [] := fun s us _ hl => by
  rw [List.append_nil] at hl ⊢
  exact .of_eq (h us hl)

/-- an exception of a callee reaches what this body wants of exceptions -/
def Passes (CX : CXT) (X : Cx) (E : XK) : Prop := ∀ (pins : List (Addr × Obj)) (σ : St) (H : Hp) (s : Shared) (e : Value) (s' : Shared), Inv X pins σ H s → CX X.stack H s E e s' → X.xe e s'

section
variable {X : Cx} {CX : CXT} {k : Nat} {f C : Addr} {fd : FuncData} {ps : List Str} {sp : Sp} {dvs : List V} {ds : List Value} {E : XK} {x m : Str} {p pos apos : Pos} {e o : Expr} {es : List Expr} {ta : TE} {t : TA}

/-- the callee runs -/
theorem run_fn {pins : List (Addr × Obj)} {σ : St} {H : Hp} {s : Shared} {Q : VK} {us : List Value} {vs : List V} (F : FnOk X.prog X.w X.K X.mg X.base CX k f fd ps sp) (hr : Room k X.A) (hb : Binds X.K fd ps ds) (hd : Vals dvs ds) (hx : Passes CX X E)
    (I : Inv X pins σ H s) (r : Vals vs us) (h : sp (vs ++ dvs) H Q E) : wpAny (model X.prog X.w) X.A (call (.ref f) us) (EP X pins σ Q) X.xe s := by
  have r2 : Vals (vs ++ dvs) (us ++ ds) := r.append hd
  have hl : (us ++ ds).length = ps.length := by rw [← r2.length]; exact F.len _ _ _ _ h
  refine wpAny_call (codeAny_mono (F.run X.A X.stack s H ⟨us, []⟩ (us ++ ds) (vs ++ dvs) Q E hr I.env0 (hb s us I.kIn hl) r2 h) fun r s' hq => ?_)
  cases r with
  | error e => exact hx pins σ H s e s' I hq
  | ok fl =>
    cases fl with
    | ret u => exact I.after hq
    | next => exact False.elim hq
    | brk => exact False.elim hq
    | cont => exact False.elim hq

theorem pe_call (F : FnOk X.prog X.w X.K X.mg X.base CX k f fd ps sp) (hr : Room k X.A) (hg : Gl X x) (hm : X.mg x = some (.ref f)) (hk : PySem.W.keepIn X.K (.ref f) = true) (hb : Binds X.K fd ps ds) (hd : Vals dvs ds) (hx : Passes CX X E)
    (ha : PA X (e :: es) t) (hdb : (x == ("__debug__" : Str)) = false := by decide) (he : starEach (e :: es) X.env = (false, eval e X.env) :: starEach es X.env := by rfl) (hpl : (backTo pos (starEach es X.env)).any (·.1) = false := by rfl) :
    PE X (.Call (.Name x p) (e :: es) [] pos) (tCall sp dvs E t) := by
  intro pins s σ H Q I h
  refine wpAny_Call_Name_kw (ld_glob I hg hm ?_ hdb)
  refine PySem.W.callWith_K (h₀ := X.base) I.ok.mod.kin hk (thn (ha pos pins s σ H _ I h) fun us s1 ⟨vs, H1, I1, r, q⟩ => ⟨I1.kIn, ?_⟩) he hpl
  exact run_fn F hr hb hd hx I1 r q
/-- what a class must have to be made -/
structure Mk (K : PySem.W.Frag) (C f : Addr) : Prop where
  makes : PySem.W.makesIn K C = true
  init : PySem.W.findIn K (.ref C) "__init__" = some (some (.ref f))
  fn : PySem.W.isFn K (.ref f) = true
  kp : PySem.W.keepIn K (.ref C) = true

end

/-! ### keywords -/
section
variable {X : Cx} {CX : CXT} {k : Nat} {f C : Addr} {fd : FuncData} {ps ks : List Str} {sp : Sp} {E : XK} {x m : Str} {p pos apos kpos : Pos} {e o : Expr} {es : List Expr} {kws : List Keyword} {te ta : TE} {t tk : TA} {nm : Option Str}
/-- how a call with keywords binds: g puts the positional values us and the keywords' values ws (names ks) in the parameters' order, defaults among them -/
structure KBinds (K : PySem.W.Frag) (fd : FuncData) (ps ks : List Str) (g : List Value → List Value → List Value) (gV : List V → List V → List V) : Prop where
  to : ∀ (s : Shared) (us ws : List Value), K.In s.heap → (g us ws).length = ps.length → BindsTo s fd ⟨us, ks.zip ws⟩ (ps.zip (g us ws))
  rel : ∀ {vs : List V} {us : List Value} {zs : List V} {ws : List Value}, Vals vs us → Vals zs ws → Vals (gV vs zs) (g us ws)
variable {g : List Value → List Value → List Value} {gV : List V → List V → List V}
end

/-! ### a def's body keeps its promise -/
/-- names: the parameters first -/
structure FnScope (N P : List Str) (sc : Scope) : Prop where
  kind : sc.kind = .function
  co : sc.isCoroutine = false
  gen : sc.isGenerator = false
  nd : N.Nodup
  pre : N.take P.length = P
  par : ∀ x ∈ P, sc.names.lookup x = some .local ∨ sc.names.lookup x = some .cell
  nofree : ∀ y ∈ sc.names, y.2 ≠ .free

theorem bindL_out {kindOf : Str → Option NameKind} {x : Str} : ∀ {binds : List (Str × Value)} {m : Str → Option Value}, (∀ v, (x, v) ∉ binds) → bindL kindOf binds m x = m x
  | [], _, _ => rfl
  | (n, v) :: r, m, h => by
    unfold bindL
    rw [bindL_out fun w hw => h w (List.mem_cons_of_mem _ hw)]
    split
    · have : x ≠ n := by rintro rfl; exact h v List.mem_cons_self
      simp [this]
    · rfl
theorem bindC_out {kindOf : Str → Option NameKind} {x : Str} : ∀ {binds : List (Str × Value)} {m : Str → Option Value}, (∀ v, (x, v) ∉ binds) → bindC kindOf binds m x = m x
  | [], _, _ => rfl
  | (n, v) :: r, m, h => by
    unfold bindC
    rw [bindC_out fun w hw => h w (List.mem_cons_of_mem _ hw)]
    split
    · rfl
    · have : x ≠ n := by rintro rfl; exact h v List.mem_cons_self
      simp [this]
theorem bindL_get {kindOf : Str → Option NameKind} {x : Str} {v : Value} : ∀ {P : List Str} {vs : List Value} {i : Nat} {m : Str → Option Value}, P.Nodup → P[i]? = some x → vs[i]? = some v → kindOf x = some .local →
    bindL kindOf (P.zip vs) m x = some v
  | [], _, _, _, _, h, _, _ => by simp at h
  | _ :: _, [], _, _, _, _, h, _ => by simp at h
  | p :: P, w :: vs, 0, m, nd, h1, h2, hk => by
    simp at h1 h2; subst h1; subst h2
    show bindL kindOf ((p, w) :: P.zip vs) m p = _
    unfold bindL
    rw [bindL_out fun v hv => (List.nodup_cons.mp nd).1 (List.of_mem_zip hv).1, if_pos hk]
    simp
  | p :: P, w :: vs, i + 1, m, nd, h1, h2, hk => by
    show bindL kindOf ((p, w) :: P.zip vs) m x = _
    unfold bindL
    exact bindL_get (i := i) (List.nodup_cons.mp nd).2 (by simpa using h1) (by simpa using h2) hk
theorem bindC_get {kindOf : Str → Option NameKind} {x : Str} {v : Value} : ∀ {P : List Str} {vs : List Value} {i : Nat} {m : Str → Option Value}, P.Nodup → P[i]? = some x → vs[i]? = some v → kindOf x ≠ some .local →
    bindC kindOf (P.zip vs) m x = some v
  | [], _, _, _, _, h, _, _ => by simp at h
  | _ :: _, [], _, _, _, _, h, _ => by simp at h
  | p :: P, w :: vs, 0, m, nd, h1, h2, hk => by
    simp at h1 h2; subst h1; subst h2
    show bindC kindOf ((p, w) :: P.zip vs) m p = _
    unfold bindC
    rw [bindC_out fun v hv => (List.nodup_cons.mp nd).1 (List.of_mem_zip hv).1, if_neg hk]
    simp
  | p :: P, w :: vs, i + 1, m, nd, h1, h2, hk => by
    show bindC kindOf ((p, w) :: P.zip vs) m x = _
    unfold bindC
    exact bindC_get (i := i) (List.nodup_cons.mp nd).2 (by simpa using h1) (by simpa using h2) hk

/-- the names' values at the entry -/
def start (N : List Str) (vs : List V) : St := vs.map some ++ List.replicate (N.length - vs.length) none

/-- the context of a def's body, at its entry; an exception leaves the frame, then lies as CX says -/
def cxOf (CX : CXT) (P : Program) (w : World) (K : PySem.W.Frag) (mg : Str → Option Value) (base : Heap) (N : List Str) (qual : Str) (scope : Scope) (f : Addr) (cd : Value) (A : Around) (outer : List Env) (s : Shared) (H : Hp) (E : XK) : Cx where
  prog := P
  w := w
  K := K
  mg := mg
  base := base
  A := A.deeper (envOfC qual scope s.heap.objs.size f cd)
  N := N
  s₀ := s
  H₀ := H
  env := envOfC qual scope s.heap.objs.size f cd
  outer := outer
  stack := envOfC qual scope s.heap.objs.size f cd :: outer
  ex := []
  calm := true
  fn := fun _ => true
  pn := []
  xe := fun e s' => wpAny (model P w) (A.deeper (envOfC qual scope s.heap.objs.size f cd)) (leaving (envOfC qual scope s.heap.objs.size f cd) e) (fun _ s'' => CX outer H s E e s'') (fun e' s'' => CX outer H s E e' s'') s'

theorem cell_has {sc : Scope} {n : Nat} {x : Str} (h : sc.names.lookup x = some .cell) : ∃ c, (cellsFrom n sc.names []).lookup x = some c := by
  have q := PySem.W.cellsFrom_some sc.names n [] (.inl h)
  exact Option.isSome_iff_exists.mp q

theorem inv_start {CX : CXT} {P : Program} {w : World} {K : PySem.W.Frag} {mg : Str → Option Value} {base : Heap} {N ps : List Str} {qual : Str} {scope : Scope} {f : Addr} {cd : Value} {A : Around} {outer : List Env} {s s1 : Shared} {H : Hp} {E : XK} {us : List Value} {vs : List V}
    (S : FnScope N ps scope) (hd : A.handled = none) (e0 : Env0 P w K mg base A outer s H) (hl : vs.length = ps.length) (r : Vals vs us)
    (x : InCallC s s.heap.objs.size (bindL (envOfC qual scope s.heap.objs.size f cd).kindOf (ps.zip us) fun _ => none) (cellsFrom (s.heap.objs.size + 1) scope.names []) (bindC (envOfC qual scope s.heap.objs.size f cd).kindOf (ps.zip us) fun _ => none) s1) :
    Inv (cxOf CX P w K mg base N qual scope f cd A outer s H E) [] (start N vs) H s1 := by
  have hpl : ps.length ≤ N.length := by have := congrArg List.length S.pre; rw [List.length_take] at this; omega
  obtain ⟨h1, tk, rfl, hk⟩ := x.done
  have noA : ∀ b : Addr, b ∉ (cxOf CX P w K mg base N qual scope f cd A outer s H E).ex := fun b z => absurd (show b ∈ ([] : List Addr) from z) (by simp)
  refine ⟨⟨e0.mod, S.kind, rfl, rfl, Nat.le_refl _, fun y z c h1 h2 => ?_, fun y hy => ?_, fun y c _ h => ?_, fun _ => hd, Around.frames_deeper e0.frames, .inr ⟨rfl, rfl⟩, fun b z => absurd z (noA b), e0.bs, e0.bsz, fun b _ _ => noA b, fun b z => absurd z (noA b), e0.funs, e0.frf⟩,
    rfl, e0.bare, Un.kept hk, ⟨_, x.toInCall.ns, fun i y v h1 h2 h3 => ?_⟩, fun y c h => ⟨_, x.cell y c h⟩, e0.hok.fresh (Nat.le_refl _), fun y c h => ?_, fun p hp => absurd (show p ∈ ([] : List (Addr × Obj)) from hp) (by simp), e0.hok.kept hk, ?_⟩
  · exact name_of_addr x.apart (PySem.mem_of_lookup h1) (PySem.mem_of_lookup h2)
  · have hy : scope.names.lookup y = some .cell ∨ scope.names.lookup y = some .free := hy
    rcases hy with hy | hy
    · exact cell_has hy
    · exact absurd rfl (S.nofree _ (PySem.mem_of_lookup hy))
  · exact Nat.le_of_lt (x.above y c (PySem.mem_of_lookup h))
  · have hi : i < vs.length := by
      unfold start at h2
      by_cases hi : i < vs.length
      · exact hi
      · rw [List.getElem?_append_right (by simpa using hi)] at h2
        rw [List.getElem?_replicate] at h2
        split at h2 <;> cases h2
    have ha : vs[i]? = some v := by
      unfold start at h2
      rw [List.getElem?_append_left (by simpa using hi), List.getElem?_map] at h2
      cases e : vs[i]? with
      | none => rw [e] at h2; cases h2
      | some a => rw [e] at h2; cases h2; rfl
    obtain ⟨u, hu, rv⟩ := r.get ha
    have hp : ps[i]? = some y := by
      rw [← S.pre, List.getElem?_take_of_lt (by omega)]; exact h1
    have ndP : ps.Nodup := by rw [← S.pre]; exact S.nd.sublist (List.take_sublist _ _)
    refine ⟨u, rv, ?_⟩
    rcases S.par y (List.mem_of_getElem? hp) with k | k
    · exact .inl ⟨k, bindL_get ndP hp hu k⟩
    · obtain ⟨c, e⟩ := cell_has (n := s.heap.objs.size + 1) k
      refine .inr ⟨.inl k, c, e, ?_⟩
      have q := x.cell y c e
      rw [bindC_get ndP hp hu (by show scope.names.lookup y ≠ _; rw [k]; decide)] at q
      exact q
  · exact e0.hok.fresh (Nat.le_of_lt (x.above y c (PySem.mem_of_lookup h)))
  · unfold start
    show _ = N.length
    rw [List.length_append, List.length_map, List.length_replicate]
    omega

/-- THE RULE: a def (or a method) of the text, by its body. The body's reading t is chosen for each entry; it is run at the parameters' values -/
theorem fn_of {CX : CXT} {P : Program} {w : World} {K : PySem.W.Frag} {mg : Str → Option Value} {base : Heap} {k : Nat} {f : Addr} {name qual : Str} {params : Arguments} {body : List Stmt} {scope : Scope} {dV kV doc pm cdv ct oc : Value} {an od : Option Addr}
    {osl : Array (Option Value)} {N ps : List Str} {sp : Sp} (lk : K.lookup f = some ⟨oc, od, .func (PySem.W.fnOf name qual params body scope dV kV doc pm an cdv ct), osl⟩) (hcd : PySem.W.codeIn K cdv qual = true) (S : FnScope N ps scope)
    (len : ∀ vs H Q E, sp vs H Q E → vs.length = ps.length)
    (hbody : ∀ (A : Around) (outer : List Env) (s : Shared) (H : Hp) (vs : List V) (Q : VK) (E : XK), Room k (A.deeper (envOfC qual scope s.heap.objs.size f cdv)) → sp vs H Q E →
      ∃ t, PSs (cxOf CX P w K mg base N qual scope f cdv A outer s H E) body t ∧ t { nx := fun _ H' => Q .non H', rt := Q } (start N vs) H) :
    FnOk P w K mg base CX (k + 1) f (PySem.W.fnOf name qual params body scope dV kV doc pm an cdv ct) ps sp := by
  refine ⟨len, fun A outer s H args us vs Q E hr e0 hb r hsp => ?_⟩
  have hl := len _ _ _ _ hsp
  have KX : K.In s.heap := e0.mod.kin.keeps fun b o e => (e0.bs b o e).1
  have lim : s.heap.NoLimit := e0.mod.nolimit.keeps fun b o e => (e0.bs b o e).1
  have hkind : ∀ y ∈ ps.zip us, scope.names.lookup y.1 = some .local ∨ (scope.names.lookup y.1 = some .cell ∧ ((cellsFrom (s.heap.objs.size + 1) scope.names []).lookup y.1).isSome = true) := fun ⟨n, v⟩ hy => by
    rcases S.par n (List.of_mem_zip hy).1 with q | q
    · exact .inl q
    · exact .inr ⟨q, PySem.W.cellsFrom_some _ _ _ (.inl q)⟩
  refine codeAny_call_function hr.depth (KX _ _ lk) rfl S.co S.gen rfl (PySem.W.codeRec_of KX hcd) (hb _ _ _ _ ?_)
  refine wpAny_newFunctionEnv_cells S.kind hkind fun env he s1 x => ?_
  subst he
  refine ⟨lim.keeps x.toInCall.keep, codeAny_func ?_⟩
  obtain ⟨t, ht, hq⟩ := hbody A outer s H vs Q E (hr.deeper _) hsp
  have I : Inv (cxOf CX P w K mg base N qual scope f cdv A outer s H E) [] (start N vs) H s1 := inv_start S hr.hd e0 hl r x
  refine wpAny_mono (ht [] s1 (start N vs) H _ I hq) (fun fl s' hs => ?_) fun e s' hs => hs
  have fin : ∀ {σ' : St} {H' : Hp} {v : V} {u : Value}, Inv (cxOf CX P w K mg base N qual scope f cdv A outer s H E) [] σ' H' s' → RelV v u → Q v H' → CE outer P w H s Q u s' :=
    fun {σ' H' v u} J rv q => ⟨v, H', J.os, J.bare, J.base, J.hok, rv, q⟩
  cases fl with
  | ret u =>
    obtain ⟨v, σ', H', J, rv, q⟩ := hs
    exact fin J rv q
  | next =>
    obtain ⟨σ', H', J, q⟩ := hs
    exact fin (v := V.non) (u := Value.none) J rfl q
  | brk =>
    obtain ⟨_, _, _, q⟩ := hs
    exact False.elim q
  | cont =>
    obtain ⟨_, _, _, q⟩ := hs
    exact False.elim q
end L2

namespace L2
open PySem PySem.Spec PyProof.Rows
section
variable {X : Cx} {x : Str} {p pos : Pos} {e : Expr} {es : List Expr} {t : TA} {id T : String} {r : List V → Hp → VK → Prop}

def tCB (r : List V → Hp → VK → Prop) (t : TA) : TE := fun σ H Q => t σ H fun vs H1 => r vs H1 Q
/-- f(e, ..), f a built-in function -/
theorem pe_callB (hc : CallR X (.builtin id) r) (hg : Gl X x) (hm : X.mg x = none) (hv : bootBuiltins x = some (.builtin id)) (ha : PA X (e :: es) t) (hn : x ≠ "__name__" := by decide) (hdb : (x == ("__debug__" : Str)) = false := by decide)
    (he : starEach (e :: es) X.env = (false, eval e X.env) :: starEach es X.env := by rfl) (hpl : (backTo pos (starEach es X.env)).any (·.1) = false := by rfl) : PE X (.Call (.Name x p) (e :: es) [] pos) (tCB r t) := by
  intro pins s σ H Q I h
  refine wpAny_Call_Name_kw (ld_blt I hg hm hv ?_ hn hdb)
  exact PyProof.Rows.callWith_builtin1 (thn (ha pos pins s σ H _ I h) fun us s1 ⟨vs, H1, I1, r1, q1⟩ => hc pins s1 σ H1 vs us Q I1 r1 q1) he hpl
/-- T(e, ..), T a built-in type -/
theorem pe_callTy (hc : CallR X (.type T) r) (hg : Gl X x) (hm : X.mg x = none) (hv : bootBuiltins x = some (.type T)) (ha : PA X (e :: es) t) (hn : x ≠ "__name__" := by decide) (hdb : (x == ("__debug__" : Str)) = false := by decide)
    (he : starEach (e :: es) X.env = (false, eval e X.env) :: starEach es X.env := by rfl) (hpl : (backTo pos (starEach es X.env)).any (·.1) = false := by rfl) : PE X (.Call (.Name x p) (e :: es) [] pos) (tCB r t) := by
  intro pins s σ H Q I h
  refine wpAny_Call_Name_kw (ld_blt I hg hm hv ?_ hn hdb)
  exact PyProof.Rows.callWith_type1 (thn (ha pos pins s σ H _ I h) fun us s1 ⟨vs, H1, I1, r1, q1⟩ => hc pins s1 σ H1 vs us Q I1 r1 q1) he hpl
end
end L2

namespace HT
open PySem PyProof.Rows

section
open PySem.SeqAt
open PySem.AutoSeq1 (wpAny_loadPart')
open PySem.MeetsSeq PySem.MeetsSeq2 PySem.MeetsSeq3

end

section
variable {prog : Program} {w : World} {A : Around} {E : Value → Shared → Prop} {s : Shared}

/-! ### t[a:b], not the whole -/
/-- a slice's bound as a place among n (d where it is left out) -/
def sIx (n d : Nat) : Option Int → Nat
  | none => d
  | some v => if v < 0 then (v + (n : Int)).toNat else min v.toNat n
end
end HT

namespace L2
open PySem PySem.Spec PyProof.Rows

/-! ### the parts of a slice -/
abbrev TO := St → Hp → (Option Int → Hp → Prop) → Prop
/-- a slice's part (left out, or an int) -/
def PO (X : Cx) (e : Option Expr) (t : TO) : Prop :=
  ∀ (pins : List (Addr × Obj)) (s : Shared) (σ : St) (H : Hp) (Q : Option Int → Hp → Prop), Inv X pins σ H s → t σ H Q →
    wpAny (model X.prog X.w) X.A (evalPart e X.env) (fun u s' => ∃ o H', Inv X pins σ H' s' ∧ IsPart u o ∧ Q o H') X.xe s
def tNoPart : TO := fun _ H Q => Q none H
def tPart (t : TE) : TO := fun σ H Q => t σ H fun x H1 => ∃ i, x = .int i ∧ Q (some i) H1

section
variable {X : Cx} {e : Expr} {te : TE} {lo hi : Option Expr} {tl th : TO} {pos p2 : Pos}

theorem po_none : PO X none tNoPart := by
  intro pins s σ H Q I h
  rw [evalPart_none]
  exact wpAny_pure ⟨none, H, I, .none, h⟩
theorem po_some (h : PE X e te) : PO X (some e) (tPart te) := by
  intro pins s σ H Q I hw
  rw [evalPart_some]
  refine thn (h pins s σ H _ I hw) fun u s1 ⟨x, H1, I1, r1, q1⟩ => ?_
  obtain ⟨i, rfl, q⟩ := q1
  obtain ⟨t, rfl⟩ := r1
  exact ⟨some i, H1, I1, .int i t, q⟩

/-- what a slice of a value is, by values: the slice object stands at sl -/
def SlR (X : Cx) (r : V → Option Int → Option Int → Hp → VK → Prop) : Prop :=
  ∀ (pins : List (Addr × Obj)) (s : Shared) (σ : St) (H : Hp) (x : V) (v vl vu : Value) (lo hi : Option Int) (sl : Addr) (Q : VK), Inv X pins σ H s → RelV x v → s.heap.IsSliceOf sl vl vu .none → IsPart vl lo → IsPart vu hi → r x lo hi H Q →
    ∃ T id, typeLookup (.type T) "__getitem__" = pure (some (.builtin id)) ∧ s.TypeIs v T ∧ wpAny (model X.prog X.w) X.A (getItem v (.ref sl)) (EP X pins σ Q) X.xe s
theorem SlR.or {r r' : V → Option Int → Option Int → Hp → VK → Prop} (h : SlR X r) (h' : SlR X r') : SlR X (fun x lo hi H Q => r x lo hi H Q ∨ r' x lo hi H Q) := by
  intro pins s σ H x v vl vu lo hi sl Q I rx hs pl pu q
  rcases q with q | q
  · exact h pins s σ H x v vl vu lo hi sl Q I rx hs pl pu q
  · exact h' pins s σ H x v vl vu lo hi sl Q I rx hs pl pu q
def tSl (r : V → Option Int → Option Int → Hp → VK → Prop) (te : TE) (tl th : TO) : TE := fun σ H Q => te σ H fun x H1 => tl σ H1 fun l H2 => th σ H2 fun u H3 => r x l u H3 Q
/-- a[lo:hi], any a -/
theorem pe_slice {r : V → Option Int → Option Int → Hp → VK → Prop} (hr : SlR X r) (he : PE X e te) (hl : PO X lo tl) (hu : PO X hi th) : PE X (.Subscript e (.Slice lo hi none p2) pos) (tSl r te tl th) := by
  intro pins s σ H Q I h
  refine Subscript_ (thn (he pins s σ H _ I h) fun v s1 ⟨x, H1, I1, r1, q1⟩ => ?_)
  refine wpAny_Slice (thn (hl pins s1 σ H1 _ I1 q1) fun vl s2 ⟨l, H2, I2, pl, q2⟩ => thn (hu pins s2 σ H2 _ I2 q2) fun vu s3 ⟨u, H3, I3, pu, q3⟩ => ?_)
  rw [evalPart_none]
  refine wpAny_pure ?_
  have I4 : Inv X pins σ H3 { s3 with heap := s3.heap.push { cls := .type "slice", data := .fields #[vl, vu, .none] } } := I3.kept (t' := s3.toks) fun b ob q => Heap.get?_push_of_some _ q
  obtain ⟨T, id, hT, ht, hg⟩ := hr pins { s3 with heap := s3.heap.push { cls := .type "slice", data := .fields #[vl, vu, .none] } } σ H3 x v vl vu l u s3.heap.objs.size Q I4 r1 (Heap.IsSliceOf.new ..) pl pu q3
  show wpAny (model X.prog X.w) X.A (subscriptTail e (.Slice lo hi none p2) v (.ref s3.heap.objs.size)) (EP X pins σ Q) X.xe { s3 with heap := s3.heap.push { cls := .type "slice", data := .fields #[vl, vu, .none] } }
  exact tail_any (ops := [.ref s3.heap.objs.size, v]) ht hT hg (by with_unfolding_all rfl)

/-- the items of xs[lo:hi] -/
def cutV (xs : List V) (lo hi : Option Int) : List V := (xs.drop (HT.sIx xs.length 0 lo)).take (HT.sIx xs.length xs.length hi - HT.sIx xs.length 0 lo)
theorem cutV_length (xs : List V) (lo hi : Option Int) : (cutV xs lo hi).length ≤ xs.length := by
  unfold cutV
  rw [List.length_take, List.length_drop]
  omega
/-! ### t < u, t + u -/
end
end L2

namespace L2
open PySem PySem.Spec PyProof.Rows

/-! ### places -/
/-- the place that an index of any sign means -/
def ixN (n : Nat) (i : Int) : Option Nat := if 0 ≤ i then (if i < n then some i.toNat else none) else if -(n : Int) ≤ i then some (i + n).toNat else none
def atI {α : Type} (xs : List α) (i : Int) : Option α := (ixN xs.length i).bind fun j => xs[j]?
theorem ixN_seq {n : Nat} {i : Int} {j : Nat} (h : ixN n i = some j) : seqIndex? i n = some j ∧ j < n ∧ -(n : Int) ≤ i ∧ i < n := by
  unfold ixN at h
  by_cases h0 : 0 ≤ i
  · rw [if_pos h0] at h
    by_cases h1 : i < n
    · rw [if_pos h1] at h
      have e : i.toNat = j := Option.some.inj h
      exact ⟨by rw [seqIndex_of h0 h1, e], by omega, by omega, h1⟩
    · rw [if_neg h1] at h; cases h
  · rw [if_neg h0] at h
    by_cases h1 : -(n : Int) ≤ i
    · rw [if_pos h1] at h
      have e : (i + n).toNat = j := Option.some.inj h
      exact ⟨by rw [seqIndex_neg (by omega) h1, e], by omega, h1, by omega⟩
    · rw [if_neg h1] at h; cases h
theorem atI_get {α : Type} {xs : List α} {i : Int} {v : α} (h : atI xs i = some v) : ∃ j, seqIndex? i xs.length = some j ∧ xs[j]? = some v ∧ j < xs.length ∧ -(xs.length : Int) ≤ i ∧ i < xs.length := by
  unfold atI at h
  cases e : ixN xs.length i with
  | none => rw [e] at h; cases h
  | some j =>
    rw [e] at h
    obtain ⟨h1, h2, h3, h4⟩ := ixN_seq e
    exact ⟨j, h1, h, h2, h3, h4⟩
theorem atI_nat {α : Type} {xs : List α} {j : Nat} {v : α} (h : xs[j]? = some v) : atI xs (j : Int) = some v := by
  have hj : j < xs.length := (List.getElem?_eq_some_iff.mp h).1
  have e : ixN xs.length (j : Int) = some j := by
    unfold ixN
    rw [if_pos (by omega), if_pos (by omega)]; simp
  unfold atI; rw [e]; exact h
theorem atI_last {α : Type} (xs : List α) (v : α) : atI (xs ++ [v]) (-1) = some v := by
  have hl : (xs ++ [v]).length = xs.length + 1 := by simp
  have e : ixN (xs ++ [v]).length (-1) = some xs.length := by
    unfold ixN
    rw [hl, if_neg (by decide), if_pos (by omega)]
    congr 1
    omega
  unfold atI
  rw [e]
  show (xs ++ [v])[xs.length]? = some v
  simp

/-! ### what may be subscripted -/
/-- what stands as an index of a plain subscript -/
def PlainIx (b : Expr) : Prop := ∀ o i, subscripted b false o i = operate [o, i] (getItem o i)
/-- a subscript by values -/
def IxR (X : Cx) (r : R2) : Prop :=
  ∀ (value slice : Expr) (pins : List (Addr × Obj)) (s : Shared) (σ : St) (H : Hp) (x y : V) (v u : Value) (Q : VK), Inv X pins σ H s → RelV x v → RelV y u → r x y H Q →
    subscripted slice false v u = operate [v, u] (getItem v u) → wpAny (model X.prog X.w) X.A (subscriptTail value slice v u) (EP X pins σ Q) X.xe s
/-- a call of a builtin's method by values: the receiver, the arguments -/
def MtR (X : Cx) (id : String) (r : V → List V → Hp → VK → Prop) : Prop :=
  ∀ (pins : List (Addr × Obj)) (s : Shared) (σ : St) (H : Hp) (x : V) (xs : List V) (v : Value) (us : List Value) (Q : VK), Inv X pins σ H s → RelV x v → Vals xs us → r x xs H Q →
    wpAny (model X.prog X.w) X.A (call (.builtin id) (v :: us)) (EP X pins σ Q) X.xe s
section
variable {X : Cx} {a b : Expr} {ta tb : TE} {pos : Pos}
theorem IxR.or {r r' : R2} (h : IxR X r) (h' : IxR X r') : IxR X (fun x y H Q => r x y H Q ∨ r' x y H Q) := by
  intro value slice pins s σ H x y v u Q I rx ry q hs
  rcases q with q | q
  · exact h value slice pins s σ H x y v u Q I rx ry q hs
  · exact h' value slice pins s σ H x y v u Q I rx ry q hs
theorem MtR.or {id : String} {r r' : V → List V → Hp → VK → Prop} (h : MtR X id r) (h' : MtR X id r') : MtR X id (fun x xs H Q => r x xs H Q ∨ r' x xs H Q) := by
  intro pins s σ H x xs v us Q I rx rs q
  rcases q with q | q
  · exact h pins s σ H x xs v us Q I rx rs q
  · exact h' pins s σ H x xs v us Q I rx rs q
/-- a[b] -/
theorem pe_ix {r : R2} (hr : IxR X r) (ha : PE X a ta) (hb : PE X b tb) (hs : PlainIx b) : PE X (.Subscript a b pos) (tOp r ta tb) := by
  intro pins s σ H Q I h
  exact Subscript_ (binT ha hb I h fun v u s2 x y H2 I2 rx ry q => hr a b pins s2 σ H2 x y v u Q I2 rx ry q (hs _ _))

def rIxL (K : PySem.W.Frag) : R2 := fun x y H Q => ∃ p xs i v, x = .ref p ∧ y = .int i ∧ SqL K H p xs ∧ atI xs i = some v ∧ Q v H
theorem ix_list : IxR X (rIxL X.K) := by
  intro value slice pins s σ H x y v u Q I rx ry h hs
  obtain ⟨p, xs, i, z, rfl, rfl, hq, he, q⟩ := h
  cases rx
  obtain ⟨t, rfl⟩ := ry
  obtain ⟨its, r, pl, hz⟩ := I.list hq
  obtain ⟨j, h1, h2, h3, h4, h5⟩ := atI_get he
  obtain ⟨w, ew, rw'⟩ := r.get h2
  have hl := r.length
  have hn := line63
  have fin : EP X pins σ Q w s := ⟨z, H, I, rw', q⟩
  by_cases h0 : 0 ≤ i
  · have hj : i.toNat = j := by
      rw [seqIndex_of h0 h5] at h1
      exact Option.some.inj h1
    exact item_listR pl.isList h0 (by omega) (by rw [hj]; simpa using ew) fin hs
  · have hj : (i + (its.toArray.size : Int)).toNat = j := by
      rw [seqIndex_neg (by omega) h4] at h1
      rw [List.size_toArray, ← hl]
      exact Option.some.inj h1
    exact subscriptTail_builtinR (x := w) pl.isList.typeIs slot_list_getitem.lookup
      (wpAny_getItem_list_neg (Q := fun r s' => r = w ∧ EP X pins σ Q r s') pl.isList (by omega) (by rw [List.size_toArray] <;> omega) (by omega) (by rw [hj]; simpa using ew) ⟨rfl, fin⟩) hs
/-! ### xs[i] = v, any sign -/
/-- the list's object behind a store -/
theorem mapSeq_set (its : List Value) (n j : Nat) (u : Value) : Obj.mapSeq (·.setIfInBounds j u) { cls := .type "list", data := .seq its.toArray n } = { cls := .type "list", data := .seq (its.set j u).toArray n } := by
  simp [Obj.mapSeq]
theorem Inv.lst {pins : List (Addr × Obj)} {σ : St} {H : Hp} {s : Shared} {p : Addr} {xs : List V} (I : Inv X pins σ H s) (h : H p = some (.lst xs)) :
    ∃ (its : List Value) (n : Nat), Vals xs its ∧ s.heap.get? p = some { cls := .type "list", data := .seq its.toArray n } ∧ xs.length ≤ sizeLine := by
  obtain ⟨z, its, n, r, e⟩ := I.hok p _ h
  exact ⟨its, n, r, e, z⟩
/-- the list at p is written by an update of its object -/
theorem Inv.lstUpd {pins : List (Addr × Obj)} {σ : St} {H : Hp} {s : Shared} {p : Addr} {xs ys : List V} {its its' : List Value} {n n' : Nat} {f : Obj → Obj} (I : Inv X pins σ H s) (h : H p = some (.lst xs))
    (ho : s.heap.get? p = some { cls := .type "list", data := .seq its.toArray n }) (hf : f { cls := .type "list", data := .seq its.toArray n } = { cls := .type "list", data := .seq its'.toArray n' }) (r : Vals ys its') (hz : ys.length ≤ sizeLine) (t : Nat) :
    Inv X pins σ (upd H p (.lst ys)) { s with heap := s.heap.update p f, toks := t } := by
  have e : (s.heap.update p f).get? p = some { cls := .type "list", data := .seq its'.toArray n' } := by
    rw [Heap.get?_update_self f ho (by rw [hf] <;> rfl), hf]
  refine I.write (x := p) (e := p) (by rw [h]; trivial) (.inl rfl) (fun b u hb q => (Heap.get?_update_other _ _ (Ne.symm hb)).trans q) ⟨_, e⟩ ?_
  exact ⟨hz, its', n', r, e⟩
def rSetL : V → V → V → Hp → (Hp → Prop) → Prop := fun o i v H Q => ∃ p xs k j, o = .ref p ∧ i = .int k ∧ H p = some (.lst xs) ∧ ixN xs.length k = some j ∧ Q (upd H p (.lst (xs.set j v)))
theorem set_list : PSet X rSetL := by
  intro pins s σ H o i v ov iv u Q I ro ri rv h
  obtain ⟨p, xs, k, j, rfl, rfl, hp, hj, q⟩ := h
  cases ro
  obtain ⟨t, rfl⟩ := ri
  obtain ⟨its, n, r, ho, hz⟩ := I.lst hp
  obtain ⟨h1, h2, h3, h4⟩ := ixN_seq hj
  have hl := r.length
  have hn := line63
  have I' : Inv X pins σ (upd H p (.lst (xs.set j v))) { s with heap := s.heap.update p (Obj.mapSeq (·.setIfInBounds j u)) } :=
    I.lstUpd hp ho (mapSeq_set its n j u) (r.set rv j) (by rw [List.length_set]; exact hz) s.toks
  by_cases h0 : 0 ≤ k
  · have hk : k.toNat = j := by
      rw [seqIndex_of h0 h4] at h1
      exact Option.some.inj h1
    exact PySem.W.ki_setAt ho h0 (by omega) (by rw [List.size_toArray, ← hl]; exact h4) (by rw [hk]; exact ⟨_, I', q⟩)
  · have hk : (k + (its.toArray.size : Int)).toNat = j := by
      rw [seqIndex_neg (by omega) h3] at h1
      rw [List.size_toArray, ← hl]
      exact Option.some.inj h1
    exact PySem.W.ki_setBack ho (by omega) (by rw [List.size_toArray, ← hl]; exact h3) (by omega) (by rw [hk]; exact ⟨_, I', q⟩)

/-! ### slices -/
theorem slice_bounds (lo hi : Option Int) (n : Nat) : (sliceBounds lo hi none n).1 = ((HT.sIx n 0 lo : Nat) : Int) ∧ (sliceBounds lo hi none n).2.1 = ((HT.sIx n n hi : Nat) : Int) ∧ (sliceBounds lo hi none n).2.2 = 1 := by
  refine ⟨?_, ?_, rfl⟩
  · cases lo with
    | none => simp [sliceBounds, HT.sIx]
    | some i =>
      simp only [sliceBounds, HT.sIx, Option.getD_none, show (1 : Int) > 0 by decide, if_true]
      by_cases h : i < 0
      · simp only [h, if_true] <;> omega
      · simp only [h, if_false] <;> omega
  · cases hi with
    | none => simp [sliceBounds, HT.sIx]
    | some i =>
      simp only [sliceBounds, HT.sIx, Option.getD_none, show (1 : Int) > 0 by decide, if_true]
      by_cases h : i < 0
      · simp only [h, if_true] <;> omega
      · simp only [h, if_false] <;> omega
theorem slicePick_cut (its : List Value) (lo hi : Option Int) : slicePick its.toArray lo hi none = ((its.drop (HT.sIx its.length 0 lo)).take (HT.sIx its.length its.length hi - HT.sIx its.length 0 lo)).toArray := by
  obtain ⟨h1, h2, h3⟩ := slice_bounds lo hi its.toArray.size
  unfold slicePick
  rw [h1, h2, h3]
  simp only [sliceRange_one, pick_run, List.size_toArray] <;> rfl
/-- xs[lo:hi] of a list: a new list -/
def rSlL (K : PySem.W.Frag) : V → Option Int → Option Int → Hp → VK → Prop := fun x lo hi H Q => ∃ a xs, x = .ref a ∧ SqL K H a xs ∧ ∀ p, H p = none → Q (.ref p) (upd H p (.lst (cutV xs lo hi)))
theorem sl_list : SlR X (rSlL X.K) := by
  intro pins s σ H x v vl vu lo hi sl Q I rx hs pl pu h
  obtain ⟨a, xs, rfl, hx, q⟩ := h
  cases rx
  obtain ⟨its, r, ht, hz⟩ := I.list hx
  have hlen := r.length
  refine ⟨"list", _, slot_list_getitem.lookup, ht.isList.typeIs, ?_⟩
  refine wpAny_getItem_list_slice ht.isList hs pl pu .none (by simp) ?_ (by rw [List.size_toArray] <;> omega)
  rw [slicePick_cut, ← hlen]
  refine ⟨.ref s.heap.objs.size, _, I.laid (t' := s.toks) (o := .lst (cutV xs lo hi)) (fun b ob q => Heap.get?_push_of_some _ q) (Nat.le_refl _) ?_, rfl, q _ (I.hok.fresh (Nat.le_refl _))⟩
  exact ⟨Nat.le_trans (cutV_length xs lo hi) hz, _, 0, (r.drop (HT.sIx xs.length 0 lo)).take (HT.sIx xs.length xs.length hi - HT.sIx xs.length 0 lo), Heap.get?_push_size _ rfl⟩

/-! ### in, not in: flat items -/
/-! ### len, list(x), tuple(x) of any list or tuple that is read -/
theorem call_len_seq : CallR X (.builtin "len") (fun xs H Q => ∃ p ys, xs = [.ref p] ∧ (SqL X.K H p ys ∨ SqT X.K H p ys) ∧ Q (.int ys.length) H) := by
  intro pins s σ H xs us Q I r h
  obtain ⟨p, ys, rfl, hq, q⟩ := h
  obtain ⟨u, rfl, rx⟩ := vals1 r
  cases rx
  have hn := line63
  rcases hq with hq | hq
  · obtain ⟨its, r', pl, hz⟩ := I.list hq
    have hlen := r'.length
    exact Calls.call_len_list pl.isList (by simp only [List.size_toArray] <;> omega) ⟨.int ys.length, H, I.tok _, ⟨s.toks + 1, by rw [List.size_toArray, hlen]⟩, q⟩
  · obtain ⟨its, r', pl, hz⟩ := I.tuple hq
    have hlen := r'.length
    exact len_tuple pl (by simp only [List.size_toArray] <;> omega) ⟨.int ys.length, H, I.tok _, ⟨s.toks + 1, by rw [List.size_toArray, hlen]⟩, q⟩
theorem CallR.or {f : Value} {r r' : List V → Hp → VK → Prop} (h : CallR X f r) (h' : CallR X f r') : CallR X f (fun xs H Q => r xs H Q ∨ r' xs H Q) := by
  intro pins s σ H xs us Q I rs q
  rcases q with q | q
  · exact h pins s σ H xs us Q I rs q
  · exact h' pins s σ H xs us Q I rs q
theorem call_list_of : CallR X (.type "list") (fun xs H Q => ∃ p ys, xs = [.ref p] ∧ (SqL X.K H p ys ∨ SqT X.K H p ys) ∧ ∀ l, H l = none → Q (.ref l) (upd H l (.lst ys))) := by
  intro pins s σ H xs us Q I r h
  obtain ⟨p, ys, rfl, hq, q⟩ := h
  obtain ⟨u, rfl, rx⟩ := vals1 r
  cases rx
  have fin : ∀ (its : List Value), Vals ys its → ys.length ≤ sizeLine → ∀ (h' : Heap) (c' : Nat), (∀ b o', s.heap.get? b = some o' → h'.get? b = some o') →
      h'.get? s.heap.objs.size = some { cls := .type "list", dict := none, data := .seq its.toArray c', slots := #[] } → EP X pins σ Q (.ref s.heap.objs.size) { s with heap := h' } := fun its r' hz h' c' kp e =>
    ⟨.ref s.heap.objs.size, _, I.laid (t' := s.toks) kp (Nat.le_refl _) (show ObjOk X.prog X.w _ h' _ (.lst ys) from ⟨hz, its, c', r', e⟩), rfl, q _ (I.hok.fresh (Nat.le_refl _))⟩
  rcases hq with hq | hq
  · obtain ⟨its, r', pl, hz⟩ := I.list hq
    have hlen := r'.length
    obtain ⟨o, ho, hc, n, hd⟩ := pl.isList
    exact call_list_seq p (.inl rfl) ho hc hd (fun h' c' kp e => fin its r' hz h' c' kp e) (by simp only [List.size_toArray] <;> omega)
  · obtain ⟨its, r', pl, hz⟩ := I.tuple hq
    have hlen := r'.length
    obtain ⟨o, ho, hc, n, hd⟩ := pl
    exact call_list_seq p (.inr rfl) ho hc hd (fun h' c' kp e => fin its r' hz h' c' kp e) (by simp only [List.size_toArray] <;> omega)
/-! ### the call of a builtin's method: o.m(..) -/
/-- the value is of that builtin type -/
def tyV (K : PySem.W.Frag) (T : String) (x : V) (H : Hp) : Prop := match x with
  | .str _ => T = "str"
  | .int _ => T = "int"
  | .ref p => (T = "list" ∧ ∃ xs, SqL K H p xs) ∨ (T = "tuple" ∧ ∃ o, K.lookup p = some o ∧ o.cls = .type "tuple" ∧ o.dict = none) ∨
      (T = "dict" ∧ ((∃ kvs, H p = some (.dK kvs)) ∨ ∃ kvs, H p = some (.dT kvs))) ∨ (T = "set" ∧ ∃ S n, H p = some (.set S n))
  | _ => False
theorem tyV_is {pins : List (Addr × Obj)} {σ : St} {H : Hp} {s : Shared} {T : String} {x : V} {v : Value} (I : Inv X pins σ H s) (r : RelV x v) (ty : tyV X.K T x H) :
    s.TypeIs v T ∧ ∀ a, v = .ref a → ∃ ob, s.heap.get? a = some ob ∧ ob.dict = none := by
  cases x with
  | str z =>
    obtain ⟨t, rfl⟩ := r
    cases (show T = "str" from ty)
    exact ⟨typeIs_str s z t, fun _ e => nomatch e⟩
  | int i =>
    obtain ⟨t, rfl⟩ := r
    cases (show T = "int" from ty)
    exact ⟨typeIs_int s i t, fun _ e => nomatch e⟩
  | ref p =>
    cases r
    rcases ty with ⟨rfl, xs, hq⟩ | ⟨rfl, o, hk, hc, hd⟩ | ⟨rfl, hk⟩ | ⟨rfl, S, n, hk⟩
    · obtain ⟨its, _, pl, _⟩ := I.list hq
      refine ⟨pl.isList.typeIs, fun a e => ?_⟩
      cases e
      obtain ⟨o, n, e, c, hd, _⟩ := pl
      exact ⟨o, e, hd⟩
    · refine ⟨⟨o, I.kIn p o hk, hc⟩, fun a e => ?_⟩
      cases e
      exact ⟨o, I.kIn _ o hk, hd⟩
    · have z : ∃ o, s.heap.get? p = some o ∧ o.ExactDict := by
        rcases hk with ⟨kvs, hk⟩ | ⟨kvs, hk⟩
        · obtain ⟨_, _, _, _, o, _, _, e, ex, _⟩ := I.hok p _ hk
          exact ⟨o, e, ex⟩
        · obtain ⟨_, _, _, _, o, _, _, e, ex, _⟩ := I.hok p _ hk
          exact ⟨o, e, ex⟩
      obtain ⟨o, e, ex⟩ := z
      refine ⟨⟨o, e, ex.1⟩, fun a e2 => ?_⟩
      cases e2
      exact ⟨o, e, ex.2.1⟩
    · obtain ⟨o, _, _, _, e, ex, _⟩ := I.hok p _ hk
      refine ⟨⟨o, e, ex.1⟩, fun a e2 => ?_⟩
      cases e2
      exact ⟨o, e, ex.2.1⟩
  | _ => exact False.elim ty
def tBM (K : PySem.W.Frag) (T : String) (r : V → List V → Hp → VK → Prop) (to : TE) (t : TA) : TE := fun σ H Q => to σ H fun x H1 => tyV K T x H1 ∧ t σ H1 fun xs H2 => r x xs H2 Q
variable {o e : Expr} {es : List Expr} {to : TE} {t : TA} {name : Str} {apos cpos : Pos} {T id : String} {r : V → List V → Hp → VK → Prop}
theorem pe_bm (pa : PlainAttrs T) (slot : Slot T name id) (hty : typeOf (.builtin id) = pure (.type "method_descriptor")) (hm : MtR X id r) (ho : PE X o to) (ha : PA X (e :: es) t)
    (hbase : attributeBase o name X.env (eval o X.env) = eval o X.env := by rfl)
    (hfew : ((backTo cpos (starEach (e :: es) X.env)).all (fun x => !x.1) && (backToKw cpos (keywordEach [] X.env)).all (fun x => x.1.isSome)
      && decide ((e :: es).length + ([] : List Keyword).length + (if ([] : List Keyword).isEmpty then 0 else 1) < 30)) = true := by rfl)
    (hline : (apos.endLine == cpos.line) = true := by rfl) (hs : starEach (e :: es) X.env = (false, eval e X.env) :: starEach es X.env := by rfl) (hplain : (backTo cpos (starEach es X.env)).any (·.1) = false := by rfl) :
    PE X (.Call (.Attribute o name apos) (e :: es) [] cpos) (tBM X.K T r to t) := by
  intro pins s σ H Q I h
  refine wpAny_Call_method_late hbase hfew hline rfl (thn (ho pins s σ H _ I h) fun v s1 ⟨x, H1, I1, r1, ty, q1⟩ => ?_)
  obtain ⟨h1, h2⟩ := tyV_is I1 r1 ty
  refine ⟨T, id, pa, slot, hty, h1, h2, ?_⟩
  have hA := ha cpos pins s1 σ H1 _ I1 q1
  rw [hs] at hA ⊢
  refine Calls.callWith_builtin (by show (false || (backTo cpos (starEach es X.env)).any (·.1)) = false; rw [hplain] <;> rfl) (Calls.evalArgs_plain ?_)
  exact thn hA fun us s2 ⟨vs, H2, I2, r2, q2⟩ => hm pins s2 σ H2 x vs v us Q I2 r1 r2 q2
/- xs.append(e), list.index on a module's tuple .. are MtR facts of 06m -/
end
end L2

namespace L2
open PySem PySem.Spec PyProof.Rows

def MtM (X : Cx) (id : String) (r : V → List V → Hp → VK → Prop) : Prop :=
  ∀ (pins : List (Addr × Obj)) (s : Shared) (σ : St) (H : Hp) (x : V) (xs : List V) (v : Value) (us : List Value) (Q : VK), Inv X pins σ H s → RelV x v → Vals xs us → r x xs H Q →
    wpAny (model X.prog X.w) X.A (call (.builtin id) (v :: us)) (EP X pins σ Q) X.xe s

/-! ### lists of values -/
theorem Vals.one : ∀ {x : V} {us : List Value}, Vals [x] us → ∃ u, us = [u] ∧ RelV x u
  | _, _, .cons r .nil => ⟨_, rfl, r⟩
theorem Vals.two : ∀ {x y : V} {us : List Value}, Vals [x, y] us → ∃ u v, us = [u, v] ∧ RelV x u ∧ RelV y v
  | _, _, _, .cons r (.cons q .nil) => ⟨_, _, rfl, r, q⟩
theorem Vals.zero : ∀ {us : List Value}, Vals [] us → us = []
  | _, .nil => rfl
theorem Vals.dropLast {xs : List V} {us : List Value} (h : Vals xs us) : Vals xs.dropLast us.dropLast := by
  induction h with
  | nil => exact .nil
  | cons r t ih =>
    cases t with
    | nil => exact .nil
    | cons q t' => exact .cons r ih
section
variable {X : Cx} {pins : List (Addr × Obj)} {σ : St} {H : Hp} {s : Shared} {l b : Addr} {xs ys zs : List V}

/-! ### the two steps: a tracked list is rewritten, a new list is laid -/
theorem Inv.lset {its its' : List Value} {n : Nat} {f : Array Value → Array Value} {t' : Nat} (I : Inv X pins σ H s) (hH : H l = some (.lst xs))
    (e : s.heap.get? l = some { cls := .type "list", data := .seq its.toArray n }) (hf : f its.toArray = its'.toArray) (hv : Vals ys its') (hz : ys.length ≤ sizeLine) :
    Inv X pins σ (upd H l (.lst ys)) { s with heap := s.heap.update l (Obj.mapSeq f), toks := t' } := by
  have q := PySem.IsL.update e f
  rw [hf] at q
  refine I.write (x := l) (e := l) (by rw [hH]; exact trivial) (.inl rfl) (fun b' u hb hu => (Heap.get?_update_other s.heap (Obj.mapSeq f) (Ne.symm hb)).trans hu) ⟨_, q⟩ ?_
  exact ⟨hz, its', _, hv, q⟩
theorem Inv.lnew {its : List Value} {t' : Nat} (I : Inv X pins σ H s) (hv : Vals ys its) (hz : ys.length ≤ sizeLine) :
    Inv X pins σ (upd H s.heap.objs.size (.lst ys)) { s with heap := s.heap.push { cls := .type "list", data := .seq its.toArray }, toks := t' } :=
  I.laid (fun _ _ q => Heap.get?_push_of_some _ q) (Nat.le_refl _) ⟨hz, its, 0, hv, Heap.get?_push_size _ rfl⟩
theorem Inv.fresh (I : Inv X pins σ H s) : H s.heap.objs.size = none := I.hok.fresh (Nat.le_refl _)
theorem Inv.lstM (I : Inv X pins σ H s) (hH : H l = some (.lst xs)) : xs.length ≤ sizeLine ∧ ∃ (its : List Value) (n : Nat), Vals xs its ∧ xs.length = its.length ∧ s.heap.get? l = some { cls := .type "list", data := .seq its.toArray n } := by
  obtain ⟨z, its, n, r, e⟩ := I.hok l _ hH
  exact ⟨z, its, n, r, r.length, e⟩

end

section
variable {X : Cx}

/-! ### methods -/
def rAppend : V → List V → Hp → VK → Prop := fun x vs H Q => ∃ l xs y, x = .ref l ∧ vs = [y] ∧ H l = some (.lst xs) ∧ xs.length < sizeLine ∧ Q .non (upd H l (.lst (xs ++ [y])))
theorem mt_append : MtM X "list.append" rAppend := by
  intro pins s σ H x vs v us Q I rx rv h
  obtain ⟨l, xs, y, rfl, rfl, hH, hz, q⟩ := h
  cases rx
  obtain ⟨u, rfl, ru⟩ := rv.one
  obtain ⟨z, its, n, r, hl, e⟩ := I.lstM hH
  refine call_meets F.slot_list_append ⟨_, e, rfl⟩ F.entry_list_append (F.args_list_append_2 _ _) (PySem.list_append l its.toArray n u (by rw [List.size_toArray]; omega)) ⟨e, ?_⟩
  refine ⟨.non, _, I.lset (its' := its ++ [u]) hH e (by simp) (r.append (.cons ru .nil)) ?_, rfl, q⟩
  rw [List.length_append, List.length_singleton]
  omega

/-! ### list + list, list += list, list * int -/
def rCat : R2 := fun x y H Q => ∃ l b xs zs, x = .ref l ∧ y = .ref b ∧ H l = some (.lst xs) ∧ H b = some (.lst zs) ∧ xs.length + zs.length ≤ sizeLine ∧ ∀ p, H p = none → Q (.ref p) (upd H p (.lst (xs ++ zs)))
theorem op_cat : OpR X (binaryOp .Add) rCat := by
  intro pins s σ H x y v u Q I rx ry h
  obtain ⟨l, b, xs, zs, rfl, rfl, hH, hB, hz, q⟩ := h
  cases rx
  cases ry
  obtain ⟨z, its, n, r, hl, e⟩ := I.lstM hH
  obtain ⟨z2, its2, n2, r2, hl2, e2⟩ := I.lstM hB
  refine PySem.P.add_list e e2 ?_ (by rw [List.size_toArray, List.size_toArray]; omega)
  have ea : its.toArray ++ its2.toArray = (its ++ its2).toArray := by simp
  rw [ea]
  exact ⟨.ref _, _, I.lnew (t' := s.toks) (r.append r2) (by rw [List.length_append]; omega), rfl, q _ I.fresh⟩
/-! ### del xs[i] -/
end

/-! ### xs[a:b] = ys -/
section
variable {prog : Program} {w : World} {A : Around} {E : Value → Shared → Prop} {s : Shared}
end

section
variable {X : Cx}
end
end L2

namespace Att
open PySem PySem.W PySem.Calls PyProof.Rows

/-! ### the script -/
theorem ints_of_wellAll {P : Params} {h : Heap} : ∀ (ns : List Int) (vs : List Value), WellAll P h vs (ns.map WData.int) → IntsAre vs ns := by
  intro ns
  induction ns with
  | nil =>
    intro vs w
    rw [List.map_nil] at w
    cases w
    exact .nil
  | cons n ns ih =>
    intro vs w
    rw [List.map_cons] at w
    cases w with
    | cons a b =>
      cases a
      exact .cons _ _ (ih _ b)

theorem script_of {l : OpenLaw} {n : Nat} (hn : l.most = some n) {P : Params} {h : Heap} {args : List WData} {vals : List Value}
    (hpre : l.row.toRowW.claim.pre args = true) (hwl : WellAll P h vals args) :
    ∃ a vs ns, vals = [Value.ref a] ∧ args = [WData.list (ns.map WData.int)] ∧ h.get? a = some { cls := .type "list", data := .seq vs.toArray } ∧ IntsAre vs ns ∧ ns.length ≤ n := by
  have hsh : WShape.hasAll [] args [.list .int] = true := (pre_splitW hpre).1
  have hc : l.pre.holds [] { args := args } = true := (pre_splitW hpre).2
  obtain ⟨d, r, rfl, h1, h2⟩ := hasAllW_cons hsh
  obtain rfl := hasAllW_nil h2
  obtain ⟨xs, rfl, h3⟩ := hasW_list h1
  obtain ⟨ns, rfl⟩ := items_int h3
  have hlen : ns.length ≤ n := by
    unfold OpenLaw.pre at hc
    have h4 : (WTm.not (.lt (.lit (.int (n : Int))) (.len (.arg 0)))).holds [] { args := [.list (ns.map .int)] } = true := by
      have h4 := (holds_andW hc).1
      rw [hn] at h4
      exact h4
    have h5 := condW_of h4 (w_not (w_lt w_lit (w_len_list (w_arg rfl))))
    rw [List.length_map] at h5
    refine Nat.le_of_not_lt fun q => ?_
    have q' : (n : Int) < ((ns.length : Nat) : Int) := by omega
    first
      | (rw [decide_eq_true q'] at h5; exact absurd h5 (by decide))
      | (simp at h5; omega)
  cases hwl with
  | cons w1 w2 =>
    cases w2
    cases w1 with
    | list ho hall => exact ⟨_, _, ns, rfl, rfl, ho, ints_of_wellAll ns _ hall, hlen⟩

theorem post_true (l : OpenLaw) (args : List WData) : l.row.toRowW.claim.post args (.bool true) args = true :=
  postW_of (r := l.row.toRowW) (X := (true == true))
    (show WShape.has [] (.bool true) .bool = true by first | rfl | decide | simp [WShape.has, WShape.arms, WShape.armsAll])
    (show (WTm.eq .res (.lit (.bool true))).value [] { args := args, res := some (.bool true), after := args } = some (.bool (true == true)) from w_eq_bool (w_res rfl) w_lit) rfl

/-! ### the attachment: holds_open's last premise (the goal 'hc' behind k_head) from a wpAny of the law's body -/
/-- the same from a codeAny of the CALL (for a layer whose function contracts speak of calls) -/
theorem attach_call {l : OpenLaw} {n : Nat} {q : Program} {loose : List Str} {XP : (Str → Option Value) → Heap → Prop} {YP : World → Heap → Prop} {d : DefRec}
    (hn : l.most = some n) (hdf : d.params.defaults = [])
    (call : ∀ (w : World) (s₀ s₁ : Shared) (mg mb : Str → Option Value) (fa : Addr) (o : Obj) (pm cd doc : Value) (a : Addr) (vs : List Value) (ns : List Int),
      Ground q loose [] XP w s₀ mg mb s₁.heap → YP w s₁.heap →
      s₁.heap.get? fa = some o → o.data = .func (docDef d.name d.params d.body d.scope pm cd doc) → s₁.heap.CodeRec cd d.name → mg d.name = some (.ref fa) →
      s₁.heap.get? a = some { cls := .type "list", data := .seq vs.toArray } → IntsAre vs ns → ns.length ≤ n → s₁.gens = #[] →
      codeAny (model l.prog w) callerA (.call (.ref fa) ⟨[.ref a], []⟩) (fun r s' => r = .ok (.ret (.bool true)) ∧ OldK s₁.heap s'.heap ∧ s'.os = s₁.os ∧ AllBare s'.gens) s₁) :
    WalkO q loose XP YP l.row.toRowW d [] (fun f vs => PySem.call f vs) := by
  intro w s₀ s₁ mg mb G Y fa o pm cd doc dV kV ho hd hcd hD hmg hg args vals as hpre hlay hrd hwl hlo
  obtain rfl : dV = .none := Dflts.none hD hdf
  obtain rfl : kV = .none := Dflts.noKw hD
  obtain ⟨a, vs, ns, rfl, rfl, hobj, hints, hlen⟩ := script_of hn hpre hwl
  refine enter_call (codeAny_mono (call w s₀ s₁ mg mb fa o pm cd doc a vs ns G Y ho (fd_plain hd) hcd hmg hobj hints hlen hg) fun r s' hq => ?_)
  obtain ⟨rfl, h2, h3, h4⟩ := hq
  exact ⟨.inl ⟨.bool true, .bool true, [], rfl, fun _ => rfl, .bool true, post_true l _, fun _ => ⟨List.Pairwise.nil, fun _ hm => (nomatch hm)⟩⟩, h2, h3, h4⟩

/-! ### rules over ANY heap (no ledger) from facts about the written part K: the library's own take a ledger (News) for what they write -/
section
variable {prog : Program} {w : World} {A : Around} {E : Value → Shared → Prop} {s : Shared} {K : Frag}

/-! the whole heap as the ledger: makes every rule that writes through a ledger a rule over any heap -/
def ledger (h : Heap) (L d : Addr) : List (Addr × Obj) := (List.range h.objs.size).filterMap fun a => if a = L ∨ a = d then none else (h.get? a).map fun o => (a, o)
end
end Att

namespace L2
open PySem PySem.Spec PyProof.Rows

theorem vals_ints : ∀ {vs : List Value} {ns : List Int}, IntsAre vs ns → Vals (ns.map V.int) vs
  | _, _, .nil => .nil
  | _, _, .cons n t h => .cons ⟨t, rfl⟩ (vals_ints h)

/-- nothing is tracked but the script, known to the object (or it is an object of the module) -/
def Only (H : Hp) : Prop := ∀ b, H b = none ∨ ∃ o xs, H b = some (.frz o (.lst xs))

/-- THE HEAD: the law's promise, at the heap behind the top. F, the promise of the law's def, may use that base is part of the heap (so K.In base, base.Ns mainGlobals mg stand in Mod) -/
theorem law_call {P : Program} {w : World} {K : PySem.W.Frag} {mg mb : Str → Option Value} {CX : CXT} {k : Nat} {fa a : Addr} {fd : FuncData} {x : Str} {sp : Sp} {s₁ : Shared} {vs : List Value} {ns : List Int}
    (KX : K.In s₁.heap) (hns : s₁.heap.Ns mainGlobals mg) (hb : s₁.heap.Ns builtinsNs mb) (hbb : ∀ x : Str, x ≠ "__name__" → mb x = bootBuiltins x) (hlim : s₁.heap.NoLimit) (hg : s₁.gens = #[])
    (ha : s₁.heap.get? a = some { cls := .type "list", data := .seq vs.toArray }) (hi : IntsAre vs ns) (hl : ns.length ≤ sizeLine) (hr : Room k callerA)
    (F : ∀ base : Heap, K.In base → base.Ns mainGlobals mg → FnOk P w K mg base CX k fa fd [x] sp) (hbind : ∀ (s : Shared) (u : Value), BindsTo s fd ⟨[u], []⟩ [(x, u)])
    (hsp : ∀ H : Hp, Only H → SqL K H a (ns.map V.int) → sp [.ref a] H (fun v _ => v = .bl true) fun _ _ _ => False)
    (hCX : ∀ H e s', CX [] H s₁ (fun _ _ _ => False) e s' → False) :
    codeAny (model P w) callerA (.call (.ref fa) ⟨[.ref a], []⟩) (fun r s' => r = .ok (.ret (.bool true)) ∧ OldK s₁.heap s'.heap ∧ s'.os = s₁.os ∧ AllBare s'.gens) s₁ := by
  have rv := vals_ints hi
  have lenV := hi.length
  -- from an abstract heap in which nothing but the script may be tracked
  have core : ∀ H : Hp, Only H → SqL K H a (ns.map V.int) → HOk P w H s₁.heap → (∀ b, H b ≠ none → b = a) → (H a ≠ none → K.lookup a = none) →
      codeAny (model P w) callerA (.call (.ref fa) ⟨[.ref a], []⟩) (fun r s' => r = .ok (.ret (.bool true)) ∧ OldK s₁.heap s'.heap ∧ s'.os = s₁.os ∧ AllBare s'.gens) s₁ := by
    intro H hO hS hok hA hK
    have base_of : ∀ {b : Addr} {o : Obj}, s₁.heap.get? b = some o → H b = none → (hidT s₁.heap H).get? b = some o := fun e n => hidT_get e n
    have noA : ∀ {b : Addr} {o : Obj} {es : Array DictEntry} {ep : Nat}, s₁.heap.get? b = some o → o.data = .dict es ep → H b = none := fun {b o es ep} e d => by
      cases q : H b with
      | none => rfl
      | some u =>
        have e' : b = a := hA b (by rw [q]; simp)
        subst e'
        rw [ha] at e; cases e
        have d' : Data.seq vs.toArray _ = Data.dict es ep := d
        cases d'
    have nsK : ∀ {b : Addr} {m : Str → Option Value}, s₁.heap.Ns b m → (hidT s₁.heap H).Ns b m := fun {b m} ⟨o, es, ep, e, d, r⟩ => ⟨o, es, ep, base_of e (noA e d), d, r⟩
    have hKb : K.In (hidT s₁.heap H) := fun b o e => base_of (KX b o e) (by
      cases q : H b with
      | none => rfl
      | some u =>
        have e' : b = a := hA b (by rw [q]; simp)
        subst e'
        rw [hK (by rw [q]; simp)] at e; cases e)
    have hM : Mod K mg (hidT s₁.heap H) := ⟨hKb, nsK hns, ⟨mb, nsK hb, hbb⟩, let ⟨mc, h1, h2⟩ := hlim; ⟨mc, nsK h1, h2⟩⟩
    have e0 : Env0 P w K mg (hidT s₁.heap H) callerA [] s₁ H := ⟨rfl, hM, fun b o e => of_hidT e, Nat.le_of_eq (hidT_size _ _), trivial, fun b hb => absurd (show b ∈ ([] : List Addr) from hb) (by simp), hok, .of_eq hg⟩
    refine codeAny_mono ((F _ hKb (nsK hns)).run callerA [] s₁ H ⟨[.ref a], []⟩ [.ref a] [.ref a] _ _ hr e0 (hbind s₁ (.ref a)) (.cons rfl .nil) (hsp H hO hS)) fun r s' h => ?_
    cases r with
    | error e => exact (hCX H e s' h).elim
    | ok fl =>
      cases fl with
      | next => exact False.elim h
      | brk => exact False.elim h
      | cont => exact False.elim h
      | ret u =>
        obtain ⟨v, H', os, bare, un, hok', r', q⟩ := h
        have q' : v = .bl true := q
        subst q'
        obtain rfl : u = Value.bool true := r'
        refine ⟨rfl, OldK.of_keep fun b o e => ?_, os, bare⟩
        cases q : H b with
        | none => exact un.keep b o e q (by intro z; exact absurd (show b ∈ ([] : List Addr) from z) (by simp)) (by simp)
        | some u =>
          rcases hO b with z | ⟨ob, xs, z⟩
          · rw [q] at z; cases z
          · have z2 := un.frzs b ob _ z
            obtain ⟨e1, _⟩ := hok b _ z
            obtain ⟨e2, _⟩ := hok' b _ z2
            rw [e] at e1; cases e1
            exact e2
  cases hk : K.lookup a with
  | some o =>
    -- the script is one of the module's own objects
    have e := KX a o hk
    rw [ha] at e
    cases e
    refine core (fun _ => none) (fun _ => .inl rfl) (.inr ⟨_, vs.toArray, _, hk, rfl, rfl, rfl, by rw [List.size_toArray, lenV]; exact hl, by simpa using rv⟩) (fun b u z => by have z' : (none : Option HO) = some u := z; cases z') (fun b z => absurd rfl z) fun z => absurd rfl z
  | none =>
    refine core (fun b => if b = a then some (.frz { cls := .type "list", data := .seq vs.toArray } (.lst (ns.map V.int))) else none) (fun b => ?_) (.inl (.inr ⟨{ cls := .type "list", data := .seq vs.toArray }, if_pos rfl⟩)) (fun b u z => ?_) (fun b z => ?_) fun _ => hk
    · by_cases hb : b = a
      · exact .inr ⟨_, _, if_pos hb⟩
      · exact .inl (if_neg hb)
    · by_cases hb : b = a
      · have z' := (if_pos hb).symm.trans z
        cases z'
        subst hb
        exact ⟨ha, by rw [List.length_map]; exact hl, vs, _, rv, ha⟩
      · have z' := (if_neg hb).symm.trans z
        cases z'
    · by_cases hb : b = a
      · exact hb
      · exact absurd (if_neg hb) z
end L2

namespace L2
open PySem PySem.Spec PyProof.Rows

abbrev KOf {K : PySem.W.Frag} {h : Heap} (_ : K.In h) : PySem.W.Frag := K

/-- the goal that k_head leaves (case hc), from the law's promise. F gives the function object fd (K's own) once, then the promise over every base -/
theorem walk_of {l : PySem.W.OpenLaw} {n k : Nat} {q : Program} {loose : List Str} {XP : (Str → Option Value) → Heap → Prop} {YP : World → Heap → Prop} {d : DefRec} {K : Params → PySem.W.Frag} {CX : World → CXT} {sp : World → Sp} {x : Str}
    (hn : l.most = some n) (hn2 : n ≤ sizeLine) (hdf : d.params.defaults = []) (hr : Room k callerA)
    (hY : ∀ (w : World) (h : Heap), YP w h → (K w.params).In h)
    (F : ∀ (w : World) (mg : Str → Option Value) (fa : Addr) (h : Heap), (K w.params).In h → h.Ns mainGlobals mg → mg d.name = some (.ref fa) →
      ∃ fd : FuncData, (∀ (s : Shared) (u : Value), BindsTo s fd ⟨[u], []⟩ [(x, u)]) ∧
        ∀ base : Heap, (K w.params).In base → base.Ns mainGlobals mg → FnOk l.prog w (K w.params) mg base (CX w) k fa fd [x] (sp w))
    (hsp : ∀ (w : World) (H : Hp) (a : Addr) (ns : List Int), ns.length ≤ n → Only H → SqL (K w.params) H a (ns.map V.int) → sp w [.ref a] H (fun v _ => v = .bl true) fun _ _ _ => False)
    (hCX : ∀ (w : World) (H : Hp) (s : Shared) (e : Value) (s' : Shared), CX w [] H s (fun _ _ _ => False) e s' → False) :
    PySem.W.WalkO q loose XP YP l.row.toRowW d [] (fun f vs => PySem.call f vs) := by
  refine Att.attach_call hn hdf fun w s₀ s₁ mg mb fa o pm cd doc a vs ns G Y ho hd hcd hmg hobj hints hlen hg => ?_
  have KX := hY w _ Y
  obtain ⟨fd, hb, hF⟩ := F w mg fa _ KX G.T.g hmg
  exact law_call KX G.T.g G.T.b G.T.builtins G.T.nolimit hg hobj hints (Nat.le_trans hlen hn2) hr hF hb (fun H hO hS => hsp w H a ns hlen hO hS) fun H e s' => hCX w H s₁ e s'
end L2

/- THE LAST THEOREM (shape; LID, My.* are yours):
   My.Adr: a structure of the addresses that your layer names (classes, functions); My.Txt K t: a structure (Prop) of the equations over K;
   My.txt_mk : {K} {implicit addresses ..} (e1 : nsIn K mainGlobals "law" = some (some (.ref f))) (e2 : K.lookup f = some ⟨oc, od, .func (fnOf "law" "law" params body scope dV kV doc pm an cdv ct), sl⟩) (e3 : codeIn K cdv "law" = true) .. : ∃ t, My.Txt K t

set_option maxRecDepth 100000 in
set_option maxHeartbeats 0 in
theorem PySem.Challenge.cw_LID_holds : PySem.Challenge.rw_LID.Holds := by
  w_on; o_law; k_head; (case hw => w_witness2)
  k_fill
  refine L2.walk_of (l := PySem.Challenge.rw_LID) (n := 63) (k := 40) (x := "script") (CX := fun w => ..) (sp := fun _ => My.sp_law) rfl (by decide) rfl ⟨rfl, by decide, by decide⟩ (fun w h Y => PySem.W.kIn_of Y) ?F ?S ?C
  case F =>
    intro w mg fa h KX G hmg
    have T : ∃ t, My.Txt (L2.KOf KX) t := by
      dsimp only [L2.KOf]                          -- K must stand as «<heap const> w.params» for k_is
      refine' My.txt_mk ?e1 ?e2 ?e3 ..
      (case e1 => PySem.W.k_is)                    -- in the order: a name -> its address -> its object -> its parts
      (case e2 => PySem.W.k_is)
      ..
    obtain ⟨t, T⟩ := T
    have e0 := hmg.symm.trans (PySem.W.mg_of KX G T.law)
    cases e0                                       -- fa is the law's own address
    exact ⟨_, fun s u => .of_eq rfl, fun base kb nb => My.law_fn T kb nb⟩     -- if «.of_eq rfl» comes too early: refine' ⟨_, ?b, fun base kb nb => My.law_fn T kb nb⟩; exact fun s u => .of_eq rfl
  case S => exact fun w H a ns hl hO hS => ..
  case C => exact ..
(the tactic k_is has no namespace: write k_is) -/

/-! SHORT WORDS over the layer: a def of the text, its body, what a loop and a test want. -/
namespace L2
open PySem PySem.Spec PyProof.Rows

/-! ### the text by places -/
def defArgs (s : Stmt) : Arguments := match s with
  | .FunctionDef _ a _ _ _ _ _ _ _ _ => a
  | _ => { posonlyargs := [], args := [], vararg := none, kwonlyargs := [], kw_defaults := [], kwarg := none, defaults := [] }
def defBody (s : Stmt) : List Stmt := match s with
  | .FunctionDef _ _ b _ _ _ _ _ _ _ => b
  | _ => []
def defScope (s : Stmt) : Scope := match s with
  | .FunctionDef _ _ _ _ _ _ sc _ _ _ => sc
  | _ => { kind := .function, names := [], isGenerator := false, isCoroutine := false }

/-! ### no exception leaves a def -/
abbrev CX0 : CXT := fun _ _ _ _ _ _ => False
abbrev E0 : XK := fun _ _ _ => False
theorem pass0 {X : Cx} : Passes CX0 X E0 := fun _ _ _ _ _ _ _ h => h.elim

/-! ### a def (or method) of the text as it stands behind the top -/
structure Fun (K : PySem.W.Frag) (x qual : Str) (st : Stmt) (f : Addr) (fd : FuncData) : Prop where
  ex : ∃ (oc : Value) (od : Option Addr) (kV doc pm : Value) (an : Option Addr) (cdv ct : Value) (osl : Array (Option Value)),
    fd = PySem.W.fnOf x qual (defArgs st) (defBody st) (defScope st) .none kV doc pm an cdv ct ∧ K.lookup f = some ⟨oc, od, .func fd, osl⟩ ∧ PySem.W.codeIn K cdv qual = true
  kp : PySem.W.keepIn K (.ref f) = true
section
variable {P : Program} {w : World} {K : PySem.W.Frag} {mg : Str → Option Value} {base : Heap}
/-- THE RULE for a def: its body as a term of rules, and the reading of that term -/
theorem Fun.ok {x qual : Str} {st : Stmt} {f : Addr} {fd : FuncData} {N ps : List Str} {k : Nat} {sp : Sp} (F : Fun K x qual st f fd) (S : FnScope N ps (defScope st)) (len : ∀ vs H Q E, sp vs H Q E → vs.length = ps.length)
    (hbody : ∀ (cdv : Value) (A : Around) (outer : List Env) (s : Shared) (H : Hp) (vs : List V) (Q : VK) (E : XK), Room k (A.deeper (envOfC qual (defScope st) s.heap.objs.size f cdv)) → sp vs H Q E →
      ∃ t, PSs (cxOf CX0 P w K mg base N qual (defScope st) f cdv A outer s H E).nox (defBody st) t ∧ t { nx := fun _ H' => Q .non H', rt := Q } (start N vs) H) : FnOk P w K mg base CX0 (k + 1) f fd ps sp := by
  obtain ⟨oc, od, kV, doc, pm, an, cdv, ct, osl, rfl, lk, hcd⟩ := F.ex
  refine fn_of lk hcd S len fun A outer s H vs Q E hr hsp => ?_
  obtain ⟨t, h, q⟩ := hbody cdv A outer s H vs Q E hr hsp
  exact ⟨t, h.nox, q⟩
/-- how its arguments bind (no defaults): h is «fun _ _ _ _ _ _ us hl => match us, hl with | [_, _], _ => rfl», one _ a parameter -/
theorem Fun.binds {x qual : Str} {st : Stmt} {f : Addr} {fd : FuncData} {ps : List Str} (F : Fun K x qual st f fd)
    (h : ∀ (kV doc pm : Value) (an : Option Addr) (cdv ct : Value) (us : List Value), us.length = ps.length → bindArgs (PySem.W.fnOf x qual (defArgs st) (defBody st) (defScope st) .none kV doc pm an cdv ct) ⟨us, []⟩ = pure (ps.zip us)) : Binds K fd ps [] := by
  obtain ⟨oc, od, kV, doc, pm, an, cdv, ct, osl, rfl, lk, hcd⟩ := F.ex
  exact .all (h kV doc pm an cdv ct)
theorem fun_mk {x qual : Str} {st : Stmt} {f : Addr} {oc : Value} {od an : Option Addr} {osl : Array (Option Value)} {kV doc pm cdv ct : Value} (l : K.lookup f = some ⟨oc, od, .func (PySem.W.fnOf x qual (defArgs st) (defBody st) (defScope st) .none kV doc pm an cdv ct), osl⟩)
    (c : PySem.W.codeIn K cdv qual = true) (k : PySem.W.keepIn K (.ref f) = true) : Fun K x qual st f (PySem.W.fnOf x qual (defArgs st) (defBody st) (defScope st) .none kV doc pm an cdv ct) := ⟨⟨oc, od, kV, doc, pm, an, cdv, ct, osl, rfl, l, c⟩, k⟩
end
theorem hu_of {A : Around} {k : Nat} (hr : Room k A) : A.units + 1 < cLine := Nat.lt_of_le_of_lt (Nat.add_le_add_left (by decide : 1 ≤ 64) _) hr.units
/-! ### expressions in short: the name that stands in the i-th slot -/
section
variable {X : Cx}
theorem pv (i : Nat) {x : Str} {pos : Pos} (hN : X.N[i]? = some x := by rfl) (hv : Vis X.env.scope x := by first | exact Or.inl rfl | exact Or.inr (Or.inl rfl) | exact Or.inr (Or.inr rfl)) (hd : (x == ("__debug__" : Str)) = false := by decide)
    (hcd : (x == ("__classdict__" : Str)) = false := by decide) : PE X (.Name x pos) (tVar i) := pe_var hN hv hd hcd
end

/-! ### tests -/
theorem iteF {A B : Prop} (h : B) : if false = true then A else B := by
  rw [if_neg Bool.false_ne_true]
  exact h
theorem iteT {A B : Prop} (h : A) : if true = true then A else B := by
  rw [if_pos rfl]
  exact h
theorem ite2 {c A B : Prop} [Decidable c] (h1 : c → A) (h2 : ¬ c → B) : if c then A else B := by
  by_cases h : c
  · rw [if_pos h]
    exact h1 h
  · rw [if_neg h]
    exact h2 h
theorem iteNS {c A B : Prop} [Decidable c] (hc : c) (h : B) : if (!decide c) = true then A else B := by
  rw [decide_eq_true hc]
  exact iteF h

/-! ### heaps -/
/-- all that was tracked is as it was -/
def Same (H H' : Hp) : Prop := ∀ b o, H b = some o → H' b = some o
theorem Same.refl (H : Hp) : Same H H := fun _ _ h => h
theorem Same.trans {H H1 H2 : Hp} (a : Same H H1) (b : Same H1 H2) : Same H H2 := fun c o h => b c o (a c o h)
theorem Same.free {H H' : Hp} (e : Same H H') {l : Addr} (h : H' l = Option.none) : H l = Option.none := by
  cases q : H l with
  | none => rfl
  | some o =>
    rw [e l o q] at h
    cases h
theorem Same.seq {K : PySem.W.Frag} {H H' : Hp} {a : Addr} {xs : List V} (e : Same H H') (h : SqL K H a xs) : SqL K H' a xs := by
  rcases h with (h | ⟨o, h⟩) | h
  · exact .inl (.inl (e _ _ h))
  · exact .inl (.inr ⟨o, e _ _ h⟩)
  · exact .inr h

end L2

namespace InkX
open PySem PySem.Spec PyProof.Rows L2

/-! ### isinstance, as a call by values -/
section
variable {X : Cx}
end

/-! ### several untracked records of ours have turned -/
theorem turnedN {X : Cx} {pins : List (Addr × Obj)} {σ : L2.St} {H : Hp} {s : Shared} {h' : Heap} {t' : Nat} {ch : List Addr} (I : Inv X pins σ H s) (k : ∀ b o, b ∉ ch → s.heap.get? b = some o → h'.get? b = some o)
    (hf : ∀ b ∈ ch, FpOk X pins H b) : Inv X pins σ H { s with heap := h', toks := t' } := by
  have nit : ∀ b u, H b = some u → b ∉ ch := fun b u e z => by rw [(hf b z).1] at e; cases e
  refine I.step (g' := s.gens) (d' := s.drawn) (ch := ch) (fun b hb => ?_) (fun b o _ _ hc e _ => k b o hc e) (fun b o _ _ hc e _ => ⟨o.slots, k b o hc e⟩) (fun _ _ _ _ n => n)
    (fun b o hc e => ⟨o, k b o hc e⟩) (fun _ _ e => e) (fun _ _ _ e => e) (fun b ps e => ⟨#[], by rw [e]; simp⟩) (fun m hm => ?_) (fun b u e => ?_) I.bare
  · obtain ⟨_, f1, _, f3, f4, f5⟩ := hf b hb
    exact ⟨f3, f1, f4, f5⟩
  · obtain ⟨o, es, ep, ho, r⟩ := hm
    exact ⟨o, es, ep, k _ o (fun z => (hf _ z).2.1 rfl) ho, r⟩
  · refine (I.hok b u e).stay (fun c v hc q => k c v ?_ q) (fun _ q => q) fun _ _ q => q
    rcases hc with z | z
    · rw [z]; exact nit b u e
    · exact nit c _ z
/-- .. and a tuple that stands there untracked is taken up -/
theorem adopt {X : Cx} {pins : List (Addr × Obj)} {σ : L2.St} {H : Hp} {s : Shared} {h' : Heap} {t' : Nat} {ch : List Addr} {p : Addr} {xs : List V} {us : List Value} (I : Inv X pins σ H s) (k : ∀ b o, b ∉ ch → s.heap.get? b = some o → h'.get? b = some o)
    (hf : ∀ b ∈ ch, FpOk X pins H b) (hp : s.heap.objs.size ≤ p) (hz : xs.length ≤ sizeLine) (rv : Vals xs us) (ht : IsTup h' p us.toArray) : Inv X pins σ (upd H p (.tup xs)) { s with heap := h', toks := t' } := by
  have hn : H p = none := I.hok.fresh hp
  have nit : ∀ b u, H b = some u → b ∉ ch := fun b u e z => by rw [(hf b z).1] at e; cases e
  have nep : ∀ b o, s.heap.get? b = some o → b ≠ p := fun b o e z => by subst z; exact absurd (Nat.lt_of_lt_of_le (Heap.lt_size e) hp) (Nat.lt_irrefl _)
  refine I.step (g' := s.gens) (d' := s.drawn) (ch := ch) (fun b hb => ?_) (fun b o _ _ hc e _ => k b o hc e) (fun b o _ _ hc e _ => ⟨o.slots, k b o hc e⟩) (fun b o _ e n => by rw [upd_ne (nep b o e)]; exact n)
    (fun b o hc e => ⟨o, k b o hc e⟩) (fun b ys e => by rw [upd_ne (ne_of_none e hn)]; exact e) (fun b _ _ e => by rw [upd_ne (ne_of_none e hn)]; exact e) (fun b ps e => ⟨#[], by rw [upd_ne (ne_of_none e hn), e]; simp⟩) (fun m hm => ?_) (fun b u e => ?_) I.bare
  · obtain ⟨_, f1, _, f3, f4, f5⟩ := hf b hb
    exact ⟨f3, f1, f4, f5⟩
  · obtain ⟨o, es, ep, ho, r⟩ := hm
    exact ⟨o, es, ep, k _ o (fun z => (hf _ z).2.1 rfl) ho, r⟩
  · by_cases hb : b = p
    · subst hb
      rw [upd_same] at e
      cases e
      exact ⟨hz, us, rv, ht⟩
    · rw [upd_ne hb] at e
      refine (I.hok b u e).stay (fun c v hc q => k c v ?_ q) (fun c q => by rw [upd_ne (ne_of_none q hn)]; exact q) fun c ys q => by rw [upd_ne (ne_of_none q hn)]; exact q
      rcases hc with z | z
      · rw [z]; exact nit b u e
      · exact nit c _ z

/-! ### zip of two lists, or of two tuples -/
/-- k: a list (true) or a tuple (false) -/
def ItA (k : Bool) (h : Heap) (i a : Addr) (n : Nat) : Prop := match k with
  | true => h.IsListIter i a n
  | false => h.IsTupleIter i a n
def SqA (k : Bool) (h : Heap) (a : Addr) (xs : Array Value) : Prop := match k with
  | true => h.IsList a xs
  | false => h.IsTuple a xs
theorem ItA.at {k : Bool} {h h' : Heap} {i a : Addr} {n : Nat} (x : ItA k h i a n) (e : ∀ o, h.get? i = some o → h'.get? i = some o) : ItA k h' i a n := by
  cases k
  · obtain ⟨o, ho, r⟩ := x; exact ⟨o, e o ho, r⟩
  · obtain ⟨o, ho, r⟩ := x; exact ⟨o, e o ho, r⟩
theorem SqA.at {k : Bool} {h h' : Heap} {a : Addr} {xs : Array Value} (x : SqA k h a xs) (e : ∀ o, h.get? a = some o → h'.get? a = some o) : SqA k h' a xs := by
  cases k
  · obtain ⟨o, ho, r⟩ := x; exact ⟨o, e o ho, r⟩
  · obtain ⟨o, ho, r⟩ := x; exact ⟨o, e o ho, r⟩
theorem ItA.obj {k : Bool} {h : Heap} {i a : Addr} {n : Nat} (x : ItA k h i a n) : ∃ o, h.get? i = some o ∧ ∀ v, o.data ≠ .cell v := by
  cases k
  · obtain ⟨o, ho, _, d⟩ := x; exact ⟨o, ho, fun v z => by rw [d] at z; cases z⟩
  · obtain ⟨o, ho, _, d⟩ := x; exact ⟨o, ho, fun v z => by rw [d] at z; cases z⟩
section
variable {prog : Program} {w : World} {A : Around} {E : Value → Shared → Prop} {s : Shared}
/-- the zip's own records -/
structure ZipSt (k : Bool) (h : Heap) (z TI TO i1 i2 l1 l2 : Addr) (n : Nat) : Prop where
  z : IsZip h z TI TO .none
  ti : IsPair h TI (.ref i1) (.ref i2)
  to : ∃ a b, IsPair h TO a b
  i1 : ItA k h i1 l1 n
  i2 : ItA k h i2 l2 n
end
section
variable {prog : Program} {w : World} {A : Around} {E : Value → Shared → Prop} {s : Shared}
end
/-! ### range(a, b) as a thing, list(range(a, b)) -/
section
variable {X : Cx}
end

/-! ### // by any divisor of some size; sum of a list of ints -/
section
variable {X : Cx}
theorem log2_big {j : Int} (h0 : 0 < j) (h1 : j < 10 ^ 70) : j.natAbs.log2 < 9000 := by
  have h : j.natAbs < 2 ^ 9000 := Nat.lt_trans (show j.natAbs < 10 ^ 70 by omega) (by decide +kernel)
  exact (Nat.log2_lt (by omega)).mpr h
theorem op_fdivB : OpR X (binaryOp .FloorDiv) (rI (fun _ j => 0 < j ∧ j < 10 ^ 70) fun i j => .int (i / j)) := opI fun i j _ _ _ _ _ hc q => by
  have h1 : (0 : Int) < j := hc.1
  exact floordiv_int (by omega) (by rw [Int.fdiv_eq_ediv_of_nonneg i (by omega)]; exact q) (.inl (PyProof.noPylong_of_log2 (log2_big hc.1 hc.2)))
end

/-! ### two lists of the very same values compared -/
section
variable {X : Cx}
end
end InkX

namespace Ink
/-- rows: pairs of ints -/
abbrev Row := List (Int × Int)
/-- the last pair grown, or one more -/
def grow (t : Row) (s e : Int) : Row :=
  match t.getLast? with
  | some p => if p.2 = s then t.dropLast ++ [(p.1, e)] else t ++ [(s, e)]
  | none => t ++ [(s, e)]
/-- s, s+1, .., n of them -/
def run (s : Int) : Nat → List Int
  | 0 => []
  | n + 1 => s :: run (s + 1) n
theorem run_length (s : Int) (n : Nat) : (run s n).length = n := by
  induction n generalizing s with
  | zero => rfl
  | succ n ih => simp [run, ih]
end Ink

namespace Ink
/-! ### sizes and places -/
theorem take_snoc {α : Type} {l : List α} {i : Nat} {x : α} (h : l[i]? = some x) : l.take (i + 1) = l.take i ++ [x] := by rw [List.take_add_one, h]; rfl
end Ink
namespace Ink
end Ink
namespace Ink
end Ink

namespace Ink
open PySem L2 InkX

/-! ### a def of the text, called by its promise -/
structure DefAt (K : PySem.W.Frag) (mg : Str → Option Value) (x : Str) (st : Stmt) (ps : List Str) (a : Addr) (d : FuncData) : Prop where
  F : Fun K x x st a d
  b : Binds K d ps []
  m : mg x = some (.ref a)
section
variable {X : Cx}
theorem pe_def {x : Str} {st : Stmt} {ps : List Str} {f : Addr} {fd : FuncData} {j k : Nat} {sp : Sp} {e : Expr} {es : List Expr} {t : TA} {p pos : Pos} (d : DefAt X.K X.mg x st ps f fd) (G : FnOk X.prog X.w X.K X.mg X.base CX0 k f fd ps sp) (hr : Room j X.A)
    (ha : PA X (e :: es) t) (hjk : k ≤ j := by first | decide | omega) (hg : Gl X x := by rfl) (hdb : (x == ("__debug__" : Str)) = false := by decide) (he : starEach (e :: es) X.env = (false, eval e X.env) :: starEach es X.env := by rfl)
    (hpl : (backTo pos (starEach es X.env)).any (·.1) = false := by rfl) : PE X (.Call (.Name x p) (e :: es) [] pos) (tCall sp [] E0 t) :=
  pe_call G (hr.mono hjk) hg d.m d.F.kp d.b .nil pass0 ha hdb he hpl
theorem ps_imp {st : Stmt} {t t' : TS} (h : PS X st t) (hi : ∀ D σ H, t' D σ H → t D σ H) : PS X st t' := fun pins s σ H D I q => h pins s σ H D I (hi D σ H q)
end

/-! ### heaps -/
/-- all but what stands at l is as it was -/
def Keep (l : Addr) (H H' : Hp) : Prop := ∀ a o, H a = some o → a ≠ l → H' a = some o
theorem Same.keep {l : Addr} {H H' : Hp} (s : Same H H') : Keep l H H' := fun a o e _ => s a o e
theorem Keep.refl (l : Addr) (H : Hp) : Keep l H H := fun _ _ e _ => e
theorem Keep.trans {l : Addr} {H H1 H2 : Hp} (a : Keep l H H1) (b : Keep l H1 H2) : Keep l H H2 := fun c o e n => b c o (a c o e n) n
theorem keep_upd (l : Addr) (H : Hp) (o : HO) : Keep l H (upd H l o) := fun a u e n => by rw [upd_ne n]; exact e
theorem keep_of {l : Addr} {H H1 H2 : Hp} (h : H l = none) (a : Same H H1) (b : Keep l H1 H2) : Same H H2 := fun c o e => b c o (a c o e) (ne_of_none e h)
theorem same_new {H : Hp} {p : Addr} (h : H p = none) (o : HO) : Same H (upd H p o) := fun b u q => by rw [upd_ne (ne_of_none q h)]; exact q
/-! ### the reader of a script: a list of the cells, a place, a rest, a mix -/
def SrcOk (H : Hp) (l c : Addr) : Prop := c ≠ l ∧ ∃ (ns : List Int) (i d r : Int), H l = some (.lst [.ref c, .int i, .int d, .int r]) ∧ H c = some (.lst (ns.map V.int)) ∧ 0 ≤ i ∧ 0 ≤ r ∧ r < 2147483647
theorem SrcOk.same {H H' : Hp} {l c : Addr} (s : SrcOk H l c) (k : Same H H') : SrcOk H' l c := by
  obtain ⟨n, ns, i, d, r, h1, h2, h3⟩ := s
  exact ⟨n, ns, i, d, r, k _ _ h1, k _ _ h2, h3⟩
theorem SrcOk.keep {H H' : Hp} {l c m : Addr} (s : SrcOk H l c) (k : Keep m H H') (h1 : l ≠ m) (h2 : c ≠ m) : SrcOk H' l c := by
  obtain ⟨n, ns, i, d, r, e1, e2, h3⟩ := s
  exact ⟨n, ns, i, d, r, k _ _ e1 h1, k _ _ e2 h2, h3⟩
theorem SrcOk.ne {H : Hp} {l c a : Addr} (s : SrcOk H l c) (h : H a = none) : l ≠ a ∧ c ≠ a := by
  obtain ⟨n, ns, i, d, r, e1, e2, h3⟩ := s
  exact ⟨ne_of_none e1 h, ne_of_none e2 h⟩
theorem SrcOk.has {H : Hp} {l c : Addr} (s : SrcOk H l c) : (∃ o, H l = some o) ∧ ∃ o, H c = some o := by
  obtain ⟨n, ns, i, d, r, e1, e2, h3⟩ := s
  exact ⟨⟨_, e1⟩, ⟨_, e2⟩⟩
theorem at40 {a b c d : V} : atI [a, b, c, d] 0 = some a := rfl
theorem at41 {a b c d : V} : atI [a, b, c, d] 1 = some b := rfl
theorem at42 {a b c d : V} : atI [a, b, c, d] 2 = some c := rfl
theorem at43 {a b c d : V} : atI [a, b, c, d] 3 = some d := rfl
/-- the promise of the reader's step: any number below the base -/
def spNext : Sp := fun vs H Q _ => ∃ (l c : Addr) (b : Int), vs = [.ref l, .int b] ∧ SrcOk H l c ∧ 0 < b ∧ b < 10 ^ 70 ∧
  ∀ (v : Int) (H' : Hp), 0 ≤ v → v < b → SrcOk H' l c → (∀ a, a ≠ l → H' a = H a) → Q (.int v) H'
def spSrc (K : PySem.W.Frag) : Sp := fun vs H Q _ => ∃ (a : Addr) (ns : List Int), vs = [.ref a] ∧ SqL K H a (ns.map V.int) ∧
  ∀ (l c : Addr) (H' : Hp), SrcOk H' l c → Same H H' → H l = none → H c = none → Q (.ref l) H'

/-! ### the same things, to a depth -/
def flat : V → Bool
  | .int _ | .bl _ | .str _ | .non => true
  | _ => false
def AtS (k : Bool) (H : Hp) (a : Addr) (xs : List V) : Prop := match k with
  | true => H a = some (.lst xs)
  | false => H a = some (.tup xs)
theorem AtS.same {k : Bool} {H H' : Hp} {a : Addr} {xs : List V} (h : AtS k H a xs) (s : Same H H') : AtS k H' a xs := by
  cases k
  · exact s _ _ h
  · exact s _ _ h
def Eqv (H : Hp) : Nat → V → V → Prop
  | 0, _, _ => False
  | n + 1, x, y => (flat x = true ∧ x = y) ∨ ∃ (k : Bool) (a b : Addr) (xs ys : List V), x = .ref a ∧ y = .ref b ∧ AtS k H a xs ∧ AtS k H b ys ∧ xs.length = ys.length ∧
      ∀ (i : Nat) (u v : V), xs[i]? = some u → ys[i]? = some v → Eqv H n u v
theorem Eqv.same {H H' : Hp} (s : Same H H') : ∀ {n : Nat} {x y : V}, Eqv H n x y → Eqv H' n x y
  | 0, _, _, h => h
  | n + 1, x, y, h => by
    rcases h with h | ⟨k, a, b, xs, ys, e1, e2, h1, h2, hl, hi⟩
    · exact .inl h
    · exact .inr ⟨k, a, b, xs, ys, e1, e2, h1.same s, h2.same s, hl, fun i u v eu ev => Eqv.same s (hi i u v eu ev)⟩
theorem Eqv.int {H : Hp} {n : Nat} (i : Int) : Eqv H (n + 1) (.int i) (.int i) := .inl ⟨rfl, rfl⟩
section
variable (K : PySem.W.Frag)
end
def tyS (k : Bool) : Value := .type (if k then "list" else "tuple")
theorem AtS.ty {K : PySem.W.Frag} {k : Bool} {H : Hp} {a : Addr} {xs : List V} (h : AtS k H a xs) : TyOf K H (.ref a) (tyS k) := by
  cases k
  · exact TyOf.tup h
  · exact TyOf.lst h
/-! ### rows: lists of pairs -/
def PairAt (H : Hp) (a : Addr) (p : Int × Int) : Prop := H a = some (.tup [.int p.1, .int p.2])
abbrev PairsAt (H : Hp) : List Addr → Row → Prop := Paired (PairAt H)
def RowAt (H : Hp) (r : Addr) (row : Row) : Prop := ∃ as : List Addr, H r = some (.lst (as.map V.ref)) ∧ PairsAt H as row
theorem PairsAt.tups {H H' : Hp} {as : List Addr} {row : Row} (h : PairsAt H as row) (t : ∀ a xs, H a = some (.tup xs) → H' a = some (.tup xs)) : PairsAt H' as row := Paired.mapP h fun a p e => t a _ e
theorem PairsAt.same {H H' : Hp} {as : List Addr} {row : Row} (h : PairsAt H as row) (s : Same H H') : PairsAt H' as row := h.tups fun a xs e => s a _ e
theorem RowAt.same {H H' : Hp} {r : Addr} {row : Row} (h : RowAt H r row) (s : Same H H') : RowAt H' r row := by
  obtain ⟨as, h1, h2⟩ := h
  exact ⟨as, s _ _ h1, h2.same s⟩
/-- what stands at l is no tuple -/
theorem PairsAt.keep {H H' : Hp} {as : List Addr} {row : Row} {l : Addr} {xs : List V} (h : PairsAt H as row) (hl : H l = some (.lst xs)) (s : Keep l H H') : PairsAt H' as row :=
  h.tups fun a ys e => s a _ e (ne_of e hl (by intro z; cases z))
theorem RowAt.keep {H H' : Hp} {r : Addr} {row : Row} {l : Addr} {xs : List V} (h : RowAt H r row) (hl : H l = some (.lst xs)) (n : r ≠ l) (s : Keep l H H') : RowAt H' r row := by
  obtain ⟨as, h1, h2⟩ := h
  exact ⟨as, s _ _ h1 n, h2.keep hl s⟩
theorem PairsAt.get {H : Hp} : ∀ {as : List Addr} {row : Row} {i : Nat} {a : Addr}, PairsAt H as row → as[i]? = some a → ∃ p, row[i]? = some p ∧ PairAt H a p
  | _, _, _, _, .nil, e => by simp at e
  | _, _, 0, _, .cons r _, e => by simp at e; subst e; exact ⟨_, rfl, r⟩
  | _, _, i + 1, a, .cons _ t, e => by
    obtain ⟨p, h1, h2⟩ := PairsAt.get (i := i) (a := a) t (by simpa using e)
    exact ⟨p, by simpa using h1, h2⟩
theorem PairsAt.snoc {H : Hp} : ∀ {as : List Addr} {row : Row} {a : Addr} {p : Int × Int}, PairsAt H as row → PairAt H a p → PairsAt H (as ++ [a]) (row ++ [p])
  | _, _, _, _, .nil, e => .cons e .nil
  | _, _, _, _, .cons r t, e => .cons r (PairsAt.snoc t e)
theorem PairsAt.split {H : Hp} : ∀ {as : List Addr} {row : Row} {p : Int × Int}, PairsAt H as (row ++ [p]) → ∃ bs a, as = bs ++ [a] ∧ PairsAt H bs row ∧ PairAt H a p
  | as, [], p, h => by
    cases h with
    | cons r t => cases t; exact ⟨[], _, rfl, .nil, r⟩
  | as, q :: row, p, h => by
    cases h with
    | cons r t =>
      obtain ⟨bs, a, rfl, h1, h2⟩ := PairsAt.split (row := row) (p := p) t
      exact ⟨_ :: bs, a, rfl, .cons r h1, h2⟩
theorem PairsAt.len {H : Hp} {as : List Addr} {row : Row} (h : PairsAt H as row) : as.length = row.length := Paired.length h
theorem RowAt.eqv {H : Hp} {r q : Addr} {row : Row} (h : RowAt H r row) (g : RowAt H q row) (n : Nat) : Eqv H (n + 3) (.ref r) (.ref q) := by
  obtain ⟨as, h1, h2⟩ := h
  obtain ⟨bs, g1, g2⟩ := g
  refine .inr ⟨true, r, q, _, _, rfl, rfl, h1, g1, by rw [List.length_map, List.length_map, h2.len, g2.len], fun i u v eu ev => ?_⟩
  rw [List.getElem?_map] at eu ev
  obtain ⟨a, ea, rfl⟩ := Option.map_eq_some_iff.mp eu
  obtain ⟨b, eb, rfl⟩ := Option.map_eq_some_iff.mp ev
  obtain ⟨p, e1, k1⟩ := h2.get ea
  obtain ⟨p', e2, k2⟩ := g2.get eb
  rw [e1] at e2
  cases e2
  refine .inr ⟨false, a, b, _, _, rfl, rfl, k1, k2, rfl, fun j u v eu ev => ?_⟩
  rw [eu] at ev
  cases ev
  match j, eu with
  | 0, eu => cases eu; exact Eqv.int _
  | 1, eu => cases eu; exact Eqv.int _
theorem atI_neg1 {α : Type} (xs : List α) (v : α) : atI (xs ++ [v]) (-1) = some v := atI_last xs v
theorem set_last {α : Type} (xs : List α) (a b : α) : (xs ++ [a]).set xs.length b = xs ++ [b] := by
  simp
def spLaw (K : PySem.W.Frag) : Sp := fun vs H Q _ => ∃ (a : Addr) (ns : List Int), vs = [.ref a] ∧ SqL K H a (ns.map V.int) ∧ ns.length ≤ 63 ∧ ∀ H', Q (.bl true) H'
theorem million {n : Nat} (h : n ≤ 1000001) : n < sizeLine := Nat.lt_of_le_of_lt h (by decide)
end Ink

namespace Ink
open PySem L2 InkX
/-! ### defs that all laws share -/
def nextT1 : TS := fun D σ H => ∃ (l c : Addr) (b : Int), σ = [some (.ref l), some (.int b), none, none] ∧ SrcOk H l c ∧
  ∀ (cell : Option V) (H' : Hp), SrcOk H' l c → (∀ a, a ≠ l → H' a = H a) → D.nx [some (.ref l), some (.int b), cell, none] H'
def nextT2 : TS := fun D σ H => ∃ (l c : Addr) (b : Int), σ = [some (.ref l), some (.int b), some (.int 7), none] ∧ SrcOk H l c ∧
  ∀ (cell : Int) (H' : Hp), SrcOk H' l c → (∀ a, a ≠ l → H' a = H a) → D.nx [some (.ref l), some (.int b), some (.int cell), none] H'
theorem at_ints {ns : List Int} {i : Int} (h0 : 0 ≤ i) (h1 : i < (ns.length : Int)) : ∃ v : Int, atI (ns.map V.int) i = some (.int v) := by
  have hk : i.toNat < ns.length := by omega
  refine ⟨ns[i.toNat], ?_⟩
  have q : atI (ns.map V.int) ((i.toNat : Nat) : Int) = some (.int ns[i.toNat]) := atI_nat (by rw [List.getElem?_map, List.getElem?_eq_getElem hk] <;> rfl)
  have ei : ((i.toNat : Nat) : Int) = i := by omega
  rw [ei] at q
  exact q
theorem cut_ints (ns : List Int) (lo hi : Option Int) : ∃ ms : List Int, cutV (ns.map V.int) lo hi = ms.map V.int := by
  unfold cutV
  refine ⟨(ns.drop (HT.sIx (ns.map V.int).length 0 lo)).take (HT.sIx (ns.map V.int).length (ns.map V.int).length hi - HT.sIx (ns.map V.int).length 0 lo), ?_⟩
  rw [List.map_take, List.map_drop]
theorem tt {p : Prop} [Decidable p] {Q : V → Hp → Prop} {H : Hp} (hp : p) (h : Q (.bl true) H) : Q (.bl (decide p)) H := by
  rw [decide_eq_true hp]
  exact h
theorem AtS.or {K : PySem.W.Frag} {k : Bool} {H : Hp} {a : Addr} {xs : List V} (h : AtS k H a xs) : SqL K H a xs ∨ SqT K H a xs := by
  cases k
  · exact .inr (SqT.of h)
  · exact .inl (SqL.of h)
end Ink

namespace Ink
open PySem L2 InkX
theorem SrcOk.lst {H : Hp} {l c : Addr} (s : SrcOk H l c) : ∃ xs, H l = some (.lst xs) := by
  obtain ⟨n, ns, i, d, r, e1, _⟩ := s
  exact ⟨_, e1⟩
end Ink

namespace InkX
open PySem PySem.Spec PyProof.Rows L2
/-! ### a list made by one clause: [elt for tg in iter if ..]; its own names are local, it names none of the def's -/
structure CompScope (scope : Scope) : Prop where
  kind : scope.kind = .function
  free : ∀ x ∈ scope.names, x.2 ≠ .free
  cell : ∀ x ∈ scope.names, x.2 ≠ .cell
  names : ∀ x ∈ scope.names, x.2 = .local → scope.names.lookup x.1 = some .local
section
variable {prog : Program} {w : World} {A : Around} {R : Result → Shared → Prop} {s : Shared}
end
section
variable {X : Cx} {N : List Str} {scope : Scope}
end
end InkX
namespace InkX
open PySem PySem.Spec PyProof.Rows L2
/-! ### ranges of any bounds -/
section
variable {X : Cx} {tg : Expr}
end
end InkX

namespace InkX
open PySem PySem.Spec PyProof.Rows L2
/-! ### two clauses: [elt for tg in iter for tg2 in iter2 if ..] -/
section
variable {prog : Program} {w : World} {A : Around} {R : Result → Shared → Prop} {s : Shared}
end
section
variable {X : Cx} {N : List Str} {scope : Scope}
end

/-! ### rules that name the written part, within a block -/
section
variable {X : Cx} {N : List Str} {scope : Scope} {C : Addr} {s₀ : Shared} {H₀ : Hp} {ex : List Addr} {pn : List (Addr × Obj)}
end
end InkX

namespace Ink
open PySem L2 InkX
theorem last_int {ns : List Int} (h : 0 < ns.length) : ∃ ms m, ns = ms ++ [m] := by
  rcases List.eq_nil_or_concat ns with rfl | ⟨u, q, rfl⟩
  · simp at h
  · exact ⟨u, q, by rw [List.concat_eq_append]⟩
/-- one pair more at the end of a list that is ours alone -/
theorem grown {H0 H2 : Hp} {q t : Addr} {bs : List Addr} {row : Row} {st en : Int} (hq0 : H0 q = none) (s : Same H0 H2) (hq2 : H2 q = some (.lst (bs.map V.ref))) (hb : PairsAt H2 bs row) (ht : H2 t = none) :
    (upd (upd H2 t (.tup [.int st, .int en])) q (.lst (bs.map V.ref ++ [.ref t]))) q = some (.lst ((bs ++ [t]).map V.ref)) ∧
    PairsAt (upd (upd H2 t (.tup [.int st, .int en])) q (.lst (bs.map V.ref ++ [.ref t]))) (bs ++ [t]) (row ++ [(st, en)]) ∧ Same H0 (upd (upd H2 t (.tup [.int st, .int en])) q (.lst (bs.map V.ref ++ [.ref t]))) := by
  have ntq : q ≠ t := ne_of_none hq2 ht
  have s1 : Same H2 (upd H2 t (.tup [.int st, .int en])) := same_new ht _
  refine ⟨by rw [upd_same, List.map_append]; rfl, ?_, keep_of hq0 (s.trans s1) (keep_upd q _ _)⟩
  refine PairsAt.snoc ((hb.same s1).keep (s1 _ _ hq2) (keep_upd q _ _)) ?_
  show upd _ q _ t = _
  rw [upd_ne ntq.symm, upd_same]
/-- the last pair changed -/
theorem turned {H0 H2 : Hp} {q t a : Addr} {bs : List Addr} {row : Row} {st en : Int} (hq0 : H0 q = none) (s : Same H0 H2) (hq2 : H2 q = some (.lst (bs.map V.ref ++ [.ref a]))) (hb : PairsAt H2 bs row) (ht : H2 t = none) :
    (upd (upd H2 t (.tup [.int st, .int en])) q (.lst ((bs.map V.ref ++ [V.ref a]).set bs.length (V.ref t)))) q = some (.lst ((bs ++ [t]).map V.ref)) ∧
    PairsAt (upd (upd H2 t (.tup [.int st, .int en])) q (.lst ((bs.map V.ref ++ [V.ref a]).set bs.length (V.ref t)))) (bs ++ [t]) (row ++ [(st, en)]) ∧ Same H0 (upd (upd H2 t (.tup [.int st, .int en])) q (.lst ((bs.map V.ref ++ [V.ref a]).set bs.length (V.ref t)))) := by
  have ntq : q ≠ t := ne_of_none hq2 ht
  have s1 : Same H2 (upd H2 t (.tup [.int st, .int en])) := same_new ht _
  have e : (bs.map V.ref ++ [V.ref a]).set bs.length (V.ref t) = (bs ++ [t]).map V.ref := by
    have z := set_last (bs.map V.ref) (V.ref a) (V.ref t)
    rw [List.length_map] at z
    rw [z, List.map_append]; rfl
  rw [e]
  refine ⟨upd_same, ?_, keep_of hq0 (s.trans s1) (keep_upd q _ _)⟩
  refine PairsAt.snoc ((hb.same s1).keep (s1 _ _ hq2) (keep_upd q _ _)) ?_
  show upd _ q _ t = _
  rw [upd_ne ntq.symm, upd_same]
end Ink

namespace Ink
open PySem PySem.Spec PyProof.Rows L2 InkX
/-! ### rows compared, whatever they tell -/
def Ends (ns : List Int) (row : Row) : Prop := 0 < ns.length → ∃ (r0 : Row) (p0 : Int × Int), row = r0 ++ [p0] ∧ p0.1 < p0.2
end Ink

namespace InkE
open PySem PySem.Spec PyProof.Rows PySem.W L2

/-! ### an exception in the air -/
section
variable {P : Program} {w : World} {H H' : Hp} {h h0 g : Heap} {a T : Addr} {C a0 : Value} {o : HO}
theorem objHere (x : ObjOk P w H h a o) : ∃ u, h.get? a = some u := by
  cases o with
  | lst xs => obtain ⟨_, _, _, _, e⟩ := x; exact ⟨_, e⟩
  | tup xs => obtain ⟨_, _, _, _, e, _⟩ := x; exact ⟨_, e⟩
  | dK kvs => obtain ⟨_, _, _, _, _, _, _, e, _⟩ := x; exact ⟨_, e⟩
  | dT kvs => obtain ⟨_, _, _, _, _, _, _, e, _⟩ := x; exact ⟨_, e⟩
  | set S n => obtain ⟨_, _, _, _, e, _⟩ := x; exact ⟨_, e⟩
  | ins C dx fs => obtain ⟨_, _, _, e, _⟩ := x; exact ⟨_, e⟩
  | own y => exact x
  | xd fs => obtain ⟨_, ⟨_, _, _, e, _⟩, _⟩ := x; exact ⟨_, e⟩
  | rng lo hi => obtain ⟨_, _, _, e⟩ := x; exact ⟨_, e⟩
  | frz ob u => exact ⟨_, x.1⟩
  | tbl ps => exact ⟨_, x⟩
  | met f y => exact ⟨_, x⟩
  | ext φ => exact x.2.1
theorem hokNone (x : HOk P w H h) {b : Addr} (e : h.get? b = none) : H b = none := by
  cases q : H b with
  | none => rfl
  | some u =>
    obtain ⟨z, hz⟩ := objHere (x b u q)
    rw [e] at hz
    cases hz
theorem hide_none {l : List Addr} {b : Addr} (e : (hideAll h l).get? b = none) : b ∈ l ∨ h.get? b = none := by
  by_cases hb : b ∈ l
  · exact .inl hb
  · right
    cases q : h.get? b with
    | none => rfl
    | some u => rw [hideAll_get l q hb] at e; cases e

/-- the object at a of class C (first field a0), its record at T; neither lay in h0, neither is tracked -/
def Fly (h0 : Heap) (H : Hp) (h : Heap) (a T : Addr) (C a0 : Value) : Prop :=
  (∃ oe vs oT ts, h.get? a = some oe ∧ (oe.cls = C ∧ vs[0]? = some a0) ∧ oe.data = .fields vs ∧ vs[1]? = some (.ref T) ∧ T ≠ a ∧ h.get? T = some oT ∧ oT.data = .fields ts ∧ ts[3]? = some .none) ∧ (H a = none ∧ H T = none) ∧ h0.get? a = none ∧ h0.get? T = none

theorem fly_land {fs hd : List Addr} {l' : List Env} (u : Un fs [] H H' h0 h) (hok : HOk P w H' h) (h1 : ∀ b o, h0.get? b = some o → b ∉ fs → b ∉ hd) (h2 : ∀ b ∈ hd, H' b = none)
    (h3 : ∀ b ∈ fs, ∃ o, h.get? b = some o ∧ ∀ vs, o.data ≠ .fields vs) (h4 : ∀ b ∈ hd, h0.get? b = none ∨ ∃ o, h.get? b = some o ∧ ∀ vs, o.data ≠ .fields vs)
    (ha : h0.get? a = none) (ha' : H' a = none) (f : Heap.FlyingW (hideAll h hd) l' a C a0 g) (k : h.UpToSlots g) :
    Un fs [] H H' h0 g ∧ HOk P w H' g ∧ ∃ T, Fly h0 H' g a T C a0 := by
  have nil : ∀ b : Addr, b ∉ ([] : List Addr) := fun b => List.not_mem_nil
  have kp : ∀ b o, h.get? b = some o → b ∉ hd → g.get? b = some o := fun b o e n => f.1 b o (hideAll_get hd e n)
  refine ⟨⟨fun b o e n hb _ => kp b o (u.keep b o e n hb (nil b)) (h1 b o e hb), fun b o e n hb _ => ?_, fun b o e n _ => u.free b o e n (nil b), fun b o e _ => ?_, u.tups, u.frzs, u.tbls⟩, fun b o e => ?_, ?_⟩
  · obtain ⟨sl, e1⟩ := u.slot b o e n hb (nil b)
    obtain ⟨o', e2, nf⟩ := h3 b hb
    obtain ⟨sl', e3⟩ := k b o' e2 nf
    rw [e1] at e2
    cases e2
    exact ⟨sl', e3⟩
  · by_cases hb : b ∈ fs
    · obtain ⟨o', e2, nf⟩ := h3 b hb
      obtain ⟨sl', e3⟩ := k b o' e2 nf
      exact ⟨_, e3⟩
    · obtain ⟨o', e1⟩ := u.there b o e (nil b)
      exact ⟨o', kp b o' e1 (h1 b o e hb)⟩
  · refine (hok b o e).stay (fun c v hc q => kp c v q fun hm => ?_) (fun _ q => q) fun _ _ q => q
    have hn := h2 c hm
    rcases hc with rfl | hc
    · rw [e] at hn; cases hn
    · rw [hc] at hn; cases hn
  · obtain ⟨_, _, _, oe, vs, T, oT, ts, e1, e2, e3, e4, e5, e6, e7, e8, e9⟩ := f
    refine ⟨T, ⟨oe, vs, oT, ts, e1, e2, e3, e4, e6, e7, e8, e9⟩, ⟨ha', ?_⟩, ha, ?_⟩
    · rcases hide_none e5 with hm | hn
      · exact h2 T hm
      · exact hokNone hok hn
    · rcases hide_none e5 with hm | hn
      · rcases h4 T hm with z | ⟨o, eo, nf⟩
        · exact z
        · obtain ⟨sl, eg⟩ := k T o eo nf
          rw [e7] at eg
          cases eg
          exact absurd e8 (nf ts)
      · cases q : h0.get? T with
        | none => rfl
        | some o =>
          obtain ⟨o', eo⟩ := u.there T o q (nil T)
          rw [hn] at eo
          cases eo
theorem fly_ground {base : Heap} {l : List Env} (F : Fly h0 H h a T C a0) (S : h.FunFrames base l) : Heap.FlyingW (hideAll h (a :: T :: frs l)) l a C a0 h := by
  obtain ⟨⟨oe, vs, oT, ts, e1, e2, e3, e4, e5, e6, e7, e8⟩, _, _⟩ := F
  refine ⟨fun b o e => of_hideAll _ e, hideAll_none _ (List.mem_cons_self), funFrames_hide S fun env he b hb => ?_, oe, vs, T, oT, ts, e1, e2, e3, e4, ?_, e5, e6, e7, e8⟩
  · exact List.mem_cons_of_mem _ (List.mem_cons_of_mem _ (List.mem_filterMap.mpr ⟨env, he, hb⟩))
  · exact hideAll_none _ (List.mem_cons_of_mem _ List.mem_cons_self)
end

/-- behind a call that an exception left -/
def CX1 (P : Program) (w : World) : CXT := fun outer H s E e s' => ∃ a T C a0 H', e = .ref a ∧ (s'.os = s.os ∧ AllBare s'.gens) ∧ Un (frs outer) [] H H' s.heap s'.heap ∧ HOk P w H' s'.heap ∧ Fly s.heap H' s'.heap a T C a0 ∧ E C none H'

section
variable {X : Cx} {pins : List (Addr × Obj)} {σ : L2.St} {H H1 : Hp} {s s' : Shared} {a T : Addr} {C a0 : Value}
/-- what is hidden behind the frames and the two records -/
theorem hid_frame (I : Inv X pins σ H s) : ∀ b ∈ frs X.stack, ∃ o, s.heap.get? b = some o ∧ ∀ vs, o.data ≠ .fields vs := fun b hb => (I.stack.mem hb).2
/-- a call's exception, at the caller: the state goes on as h says -/
theorem fly_here {l' : List Env} {g : Heap} (I : Inv X pins σ H s) (os : s'.os = s.os) (bare : AllBare s'.gens) (u : Un (frs X.stack) [] H H1 s.heap s'.heap) (hok : HOk X.prog X.w H1 s'.heap) (F : Fly s.heap H1 s'.heap a T C a0)
    (f : Heap.FlyingW (hideAll s'.heap (a :: T :: frs X.stack)) l' a C a0 g) (k : s'.heap.UpToSlots g) : Inv X pins σ H1 { s' with heap := g } := by
  have I1 : Inv X pins σ H1 s' := I.call' (ch := []) os u hok bare (fun b z => absurd z (by simp))
  obtain ⟨_, ⟨na, nT⟩, sa, sT⟩ := id F
  have p1 : ∀ b o, s.heap.get? b = some o → b ∉ frs X.stack → b ∉ a :: T :: frs X.stack := fun b o e hb hm => by
    rcases List.mem_cons.mp hm with rfl | hm
    · rw [sa] at e; cases e
    rcases List.mem_cons.mp hm with rfl | hm
    · rw [sT] at e; cases e
    · exact hb hm
  have p2 : ∀ b ∈ a :: T :: frs X.stack, H1 b = none := fun b hm => by
    rcases List.mem_cons.mp hm with rfl | hm
    · exact na
    rcases List.mem_cons.mp hm with rfl | hm
    · exact nT
    · exact I1.stkFree b hm
  have p4 : ∀ b ∈ a :: T :: frs X.stack, s.heap.get? b = none ∨ ∃ o, s'.heap.get? b = some o ∧ ∀ vs, o.data ≠ .fields vs := fun b hm => by
    rcases List.mem_cons.mp hm with rfl | hm
    · exact .inl sa
    rcases List.mem_cons.mp hm with rfl | hm
    · exact .inl sT
    · exact .inr (hid_frame I1 b hm)
  obtain ⟨u', hok', _⟩ := fly_land (hd := a :: T :: frs X.stack) u hok p1 p2 (hid_frame I1) p4 sa na f k
  exact I.call' (s' := { s' with heap := g }) (ch := []) os u' hok' bare (fun b z => absurd z (by simp))
end

/-! ### through a def's frame -/
section
variable {P : Program} {w : World} {K : PySem.W.Frag} {mg : Str → Option Value} {base : Heap} {N : List Str} {qual : Str} {scope : Scope} {f : Addr} {cd : Value} {A : Around} {outer : List Env} {s : Shared} {H : Hp} {E : XK}
end

/-! ### raise -/
section
variable {X : Cx}
end

/-! ### a def that may raise, called -/
section
variable {X : Cx} {x : Str} {st : Stmt} {ps : List Str} {f : Addr} {fd : FuncData} {j k : Nat} {sp : Sp} {e : Expr} {es : List Expr} {t : TA} {p pos : Pos} {E : XK}
end

/-! ### try: one statement with one call, one clause -/
abbrev cxH (X : Cx) (a : Addr) : Cx := { X with A := X.A.mark (some (.ref a)), calm := false, xe := fun _ _ => False }
section
variable {X : Cx} {pins : List (Addr × Obj)} {σ : L2.St} {H : Hp} {s : Shared} {a : Addr}
theorem okH (ok : X.Ok) (a : Addr) : (cxH X a).Ok :=
  { mod := ok.mod, kind := ok.kind, glob := ok.glob, blt := ok.blt, above := ok.above, inj := ok.inj, has := ok.has, cab := ok.cab, hd := fun z => (Bool.false_ne_true z).elim, frames := ok.frames, stk := ok.stk, exf := ok.exf, bs := ok.bs, bsz := ok.bsz, noex := ok.noex, exfs := ok.exfs, funs := ok.funs, frf := ok.frf }
theorem inH (I : Inv X pins σ H s) (a : Addr) : Inv (cxH X a) pins σ H s := { ok := okH I.ok a, os := I.os, bare := I.bare, base := I.base, loc := I.loc, cell := I.cell, free := I.free, freeC := I.freeC, pin := I.pin, hok := I.hok, len := I.len }
theorem outH (ok : X.Ok) (I : Inv (cxH X a) pins σ H s) : Inv X pins σ H s := { ok := ok, os := I.os, bare := I.bare, base := I.base, loc := I.loc, cell := I.cell, free := I.free, freeC := I.freeC, pin := I.pin, hok := I.hok, len := I.len }
theorem spH (ok : X.Ok) {D : Ends} {f : Flow} {s' : Shared} (h : SP (cxH X a) pins D f s') : SP X pins D f s' := by
  cases f with
  | next => obtain ⟨σ', H', I, q⟩ := h; exact ⟨σ', H', outH ok I, q⟩
  | brk => obtain ⟨σ', H', I, q⟩ := h; exact ⟨σ', H', outH ok I, q⟩
  | cont => obtain ⟨σ', H', I, q⟩ := h; exact ⟨σ', H', outH ok I, q⟩
  | ret u => obtain ⟨v, σ', H', I, r, q⟩ := h; exact ⟨v, σ', H', outH ok I, r, q⟩

/-- the clause takes it -/
theorem clause {y : Str} {C Cy : Addr} {b0 : Stmt} {suite : List Stmt} {tb : TS} {np hpos : Pos} {D : Ends} {e : Value} {s' : Shared} (hst : X.stack = X.env :: X.outer) (hf : X.env.frame = some X.env.locals) (hmy : X.mg y = some (.ref Cy)) (hx : exmOne X.K (.ref C) (.ref Cy) = some true)
    (hb : ∀ a, PSs (cxH X a) (b0 :: suite) tb) (hg : Gl X y) (hdb : (y == ("__debug__" : Str)) = false) (I : Inv X pins σ H s) (h : CX1 X.prog X.w X.stack H s (fun c _ H2 => c = .ref C ∧ tb D σ H2) e s') :
    wpAny (model X.prog X.w) X.A (noteFrame e X.env) (fun _ s₂ => wpAny (model X.prog X.w) X.A (setFlight e none) (fun _ s₃ => wpAny (model X.prog X.w) X.A (handleBy e X.env [.ExceptHandler (some (.Name y np)) none (b0 :: suite) hpos]) (SP X pins D) X.xe s₃) X.xe s₂) X.xe s' := by
  obtain ⟨a, T, c, a0, H2, rfl, ⟨os, bare⟩, u, hok, F, rfl, q⟩ := h
  have I1 : Inv X pins σ H2 s' := I.call' (ch := []) os u hok bare (fun b z => absurd z (by simp))
  have G0 := fly_ground F I1.stack
  have G0' : Heap.FlyingW (hideAll s'.heap (a :: T :: frs X.stack)) (X.env :: X.outer) a (.ref C) a0 s'.heap := by
    have z := G0
    rw [hst] at z
    rw [hst]
    exact z
  refine wpAny_looks_onW (I.ok.frames.trans (by rw [hst])) hf G0' fun h4 held k4 => wpAny_landsW held fun h5 fl5 k5 => ?_
  have I5 : Inv X pins σ H2 { s' with heap := h5 } := fly_here I os bare u hok F fl5 (k4.trans k5)
  obtain ⟨ob, hob, hcl⟩ := fl5.there
  have LT : Looks (model X.prog X.w) h5 (typeOf (.ref a)) (.ref C) := hcl ▸ (Looks.ld hob).andThen .now
  refine wpAny_handleBy_cons (codeAny_handlers_test (ld_glob (X := cxH X a) (inH I5 a) hg hmy ?_ hdb)) (by intro z; cases z)
  refine (exm_one (M := model X.prog X.w) I5.kIn LT hx).here ?_
  refine codeAny_handlers_suite (lands_againW fl5 fun h6 fl6 k6 => ?_)
  have I6 : Inv X pins σ H2 { s' with heap := h6 } := fly_here I os bare u hok F fl6 ((k4.trans k5).trans k6)
  exact wpAny_mono (hb a pins _ σ H2 D (inH I6 a) q) (fun fl s2 z => spH I6.ok z) fun _ _ z => False.elim z

variable {x y : Str} {st : Stmt} {ps : List Str} {f : Addr} {fd : FuncData} {j k : Nat} {sp : Sp} {e : Expr} {es : List Expr} {t : TA} {p pos pos1 pos2 pos3 np hpos : Pos} {C Cy : Addr} {b0 : Stmt} {suite : List Stmt} {tb : TS}
end
end InkE

namespace InkE
open PySem PySem.Spec PyProof.Rows L2
/-! ### a text with fields: some text -/
section
variable {X : Cx}
/-! ### a op b op c op d -/
end
end InkE
namespace Ink
open PySem L2 InkX InkE
theorem free_same {H H' : Hp} {a : Addr} (s : Same H H') (h : H' a = none) : H a = none := by
  cases q : H a with
  | none => rfl
  | some o => rw [s a o q] at h; cases h
/-! ### parts of a row -/
/-- the classes of refusals -/
structure ExcAt (K : PySem.W.Frag) (mg : Str → Option Value) (C : Addr) : Prop where
  m : mg "OutOfPlace" = some (.ref C)
  x : PySem.W.excIn K C [.type "ValueError", .type "Exception", .type "BaseException", .type "object"] "ValueError.__new__" = true
  h : PySem.W.exmOne K (.ref C) (.ref C) = some true
structure ExcAt2 (K : PySem.W.Frag) (mg : Str → Option Value) (C D : Addr) : Prop where
  m : mg "InkError" = some (.ref D)
  h : PySem.W.exmOne K (.ref C) (.ref D) = some true
end Ink

namespace Ink
open PySem L2 InkX InkE
end Ink

namespace Ink
open PySem L2 InkX InkE
end Ink

namespace Ink
open PySem PySem.Spec PyProof.Rows L2 InkX InkE
/-! ### pairs of lists of the very same values compared -/
/-! ### rows joined, put in, cut out -/
theorem PairsAt.append {H : Hp} : ∀ {as bs : List Addr} {r q : Row}, PairsAt H as r → PairsAt H bs q → PairsAt H (as ++ bs) (r ++ q)
  | _, _, _, _, .nil, t => t
  | _, _, _, _, .cons e r, t => .cons e (PairsAt.append r t)
end Ink

namespace L2
open PySem PySem.Spec PyProof.Rows

/-! ### lists of pairs as tables -/
section
variable {κ : Type} [DecidableEq κ]
def valV (kvs : List (κ × V)) (k : κ) : Option V := (kvs.find? fun kv => decide (kv.1 = k)).map (·.2)
/-- in its place, or at the end -/
def putK (kvs : List (κ × V)) (k : κ) (v : V) : List (κ × V) :=
  if (kvs.any fun kv => decide (kv.1 = k)) = true then kvs.map (fun kv => if kv.1 = k then (kv.1, v) else kv) else kvs ++ [(k, v)]
def dropK (kvs : List (κ × V)) (k : κ) : List (κ × V) := kvs.filter fun kv => decide (kv.1 ≠ k)

theorem valV_pos {p : κ × V} {r : List (κ × V)} {k : κ} (e : p.1 = k) : valV (p :: r) k = some p.2 := by simp [valV, List.find?_cons, e]
theorem valV_neg {p : κ × V} {r : List (κ × V)} {k : κ} (e : ¬ p.1 = k) : valV (p :: r) k = valV r k := by simp [valV, List.find?_cons, e]
theorem valV_any (k : κ) : ∀ kvs : List (κ × V), (kvs.any fun kv => decide (kv.1 = k)) = (valV kvs k).isSome
  | [] => rfl
  | p :: r => by
    rw [List.any_cons]
    by_cases e : p.1 = k
    · simp only [valV_pos e, decide_eq_true e, Bool.true_or, Option.isSome_some]
    · rw [valV_neg e, decide_eq_false e, Bool.false_or]; exact valV_any k r
theorem valV_map (k j : κ) (y : V) : ∀ kvs : List (κ × V), valV (kvs.map fun kv => if kv.1 = k then (kv.1, y) else kv) j = (valV kvs j).map fun x => if j = k then y else x
  | [] => rfl
  | p :: r => by
    have ih := valV_map k j y r
    rw [List.map_cons]
    by_cases h : p.1 = k
    · rw [if_pos h]
      by_cases e : p.1 = j
      · rw [valV_pos (p := (p.1, y)) e, valV_pos e, Option.map_some, if_pos (e.symm.trans h)]
      · rw [valV_neg (p := (p.1, y)) e, valV_neg e, ih]
    · rw [if_neg h]
      by_cases e : p.1 = j
      · rw [valV_pos (p := p) e, valV_pos e, Option.map_some, if_neg (fun z => h (e.trans z))]
      · rw [valV_neg (p := p) e, valV_neg e, ih]
theorem valV_snoc (k j : κ) (y : V) : ∀ kvs : List (κ × V), valV kvs k = none → valV (kvs ++ [(k, y)]) j = if j = k then some y else valV kvs j
  | [], _ => by
    by_cases e : k = j
    · rw [if_pos e.symm]; exact valV_pos (p := (k, y)) e
    · rw [if_neg (fun z => e z.symm)]; exact valV_neg (p := (k, y)) e
  | p :: r, hn => by
    rw [List.cons_append]
    have hk : ¬ p.1 = k := fun z => by rw [valV_pos z] at hn; cases hn
    rw [valV_neg hk] at hn
    have ih := valV_snoc k j y r hn
    by_cases e : p.1 = j
    · rw [valV_pos e, valV_pos e, if_neg (fun z => hk (e.trans z))]
    · rw [valV_neg e, valV_neg e, ih]
theorem valV_put (kvs : List (κ × V)) (k j : κ) (y : V) : valV (putK kvs k y) j = if j = k then some y else valV kvs j := by
  unfold putK
  by_cases a : (kvs.any fun kv => decide (kv.1 = k)) = true
  · rw [if_pos a, valV_map]
    rw [valV_any] at a
    by_cases e : j = k
    · obtain ⟨x, hx⟩ := Option.isSome_iff_exists.mp a
      rw [if_pos e, e, hx, Option.map_some, if_pos rfl]
    · rw [if_neg e]
      cases valV kvs j with
      | none => rfl
      | some x => rw [Option.map_some, if_neg e]
  · rw [if_neg a]
    refine valV_snoc k j y kvs ?_
    rw [valV_any] at a
    cases q : valV kvs k with
    | none => rfl
    | some x => rw [q] at a; exact (a rfl).elim
theorem length_putK (kvs : List (κ × V)) (k : κ) (v : V) : (putK kvs k v).length ≤ kvs.length + 1 := by
  unfold putK
  split
  · rw [List.length_map]; omega
  · rw [List.length_append, List.length_cons, List.length_nil]; omega
theorem RelO.isSome_eq {o : Option V} {u : Option Value} (r : RelO o u) : o.isSome = u.isSome := by
  cases o with
  | none => cases u with
    | none => rfl
    | some _ => exact (show False from r).elim
  | some _ => cases u with
    | none => exact (show False from r).elim
    | some _ => rfl
theorem RelO.getD {o : Option V} {u : Option Value} {d : V} {d' : Value} (r : RelO o u) (rd : RelV d d') : RelV (o.getD d) (u.getD d') := by
  cases o with
  | none => cases u with
    | none => exact rd
    | some _ => exact (show False from r).elim
  | some _ => cases u with
    | none => exact (show False from r).elim
    | some _ => exact r

/-- raw tables of the same keys -/
theorem KV.val {kvs : List (κ × V)} {vs : List (κ × Value)} (r : KV kvs vs) (k : κ) : RelO (valV kvs k) (valueAt vs k) := by
  unfold KV at r
  induction r with
  | nil => exact True.intro
  | @cons p q ps qs h t ih =>
    obtain ⟨h1, h2⟩ := h
    by_cases e : p.1 = k
    · have e' : q.1 = k := h1.symm.trans e
      have b : valueAt (q :: qs) k = some q.2 := by simp [valueAt, List.find?_cons, e']
      rw [valV_pos e, b]; exact h2
    · have e' : ¬ q.1 = k := fun z => e (h1.trans z)
      have b : valueAt (q :: qs) k = valueAt qs k := by simp [valueAt, List.find?_cons, e']
      rw [valV_neg e, b]; exact ih
theorem KV.any {kvs : List (κ × V)} {vs : List (κ × Value)} (r : KV kvs vs) (k : κ) : (kvs.any fun kv => decide (kv.1 = k)) = vs.any fun kv => decide (kv.1 = k) := by
  unfold KV at r
  induction r with
  | nil => rfl
  | cons h t ih => rw [List.any_cons, List.any_cons, ih, h.1]
theorem KV.repl {kvs : List (κ × V)} {vs : List (κ × Value)} (r : KV kvs vs) (k : κ) {y : V} {u : Value} (ry : RelV y u) :
    KV (kvs.map fun kv => if kv.1 = k then (kv.1, y) else kv) (vs.map fun kv => if kv.1 = k then (kv.1, u) else kv) := by
  unfold KV at r ⊢
  induction r with
  | nil => exact .nil
  | @cons p q ps qs h t ih =>
    rw [List.map_cons, List.map_cons]
    refine .cons ?_ ih
    obtain ⟨h1, h2⟩ := h
    by_cases e : p.1 = k
    · rw [if_pos e, if_pos (h1.symm.trans e)]; exact ⟨h1, ry⟩
    · rw [if_neg e, if_neg (fun z => e (h1.trans z))]; exact ⟨h1, h2⟩
theorem KV.put {kvs : List (κ × V)} {vs : List (κ × Value)} (r : KV kvs vs) (k : κ) {y : V} {u : Value} (ry : RelV y u) : KV (putK kvs k y) (stored vs k u) := by
  unfold putK stored
  rw [r.any k]
  by_cases e : (vs.any fun kv => decide (kv.1 = k)) = true
  · rw [if_pos e, if_pos e]; exact r.repl k ry
  · rw [if_neg e, if_neg e]; exact Paired.snoc r ⟨rfl, ry⟩
theorem KV.drop {kvs : List (κ × V)} {vs : List (κ × Value)} (r : KV kvs vs) (k : κ) : KV (dropK kvs k) (without vs k) := by
  unfold KV at r ⊢
  unfold dropK without
  induction r with
  | nil => exact .nil
  | @cons p q ps qs h t ih =>
    obtain ⟨h1, h2⟩ := h
    rw [List.filter_cons, List.filter_cons]
    by_cases e : p.1 = k
    · have a : ¬ decide (p.1 ≠ k) = true := by simp [e]
      have b : ¬ decide (q.1 ≠ k) = true := by simp [h1.symm.trans e]
      rw [if_neg a, if_neg b]; exact ih
    · have e' : ¬ q.1 = k := fun z => e (h1.trans z)
      have a : decide (p.1 ≠ k) = true := by simp [e]
      have b : decide (q.1 ≠ k) = true := by simp [e']
      rw [if_pos a, if_pos b]; exact .cons ⟨h1, h2⟩ ih
theorem KV.keys {kvs : List (κ × V)} {vs : List (κ × Value)} (r : KV kvs vs) : kvs.map (·.1) = vs.map (·.1) := by
  unfold KV at r
  induction r with
  | nil => rfl
  | cons h t ih => rw [List.map_cons, List.map_cons, ih, h.1]
theorem KV.length {kvs : List (κ × V)} {vs : List (κ × Value)} (r : KV kvs vs) : kvs.length = vs.length := Paired.length r
end


/-! ### a tracked dict, its keys ints and texts or tuples of these -/
theorem kV_is {P : Program} {w : World} {k : Key} {u : Value} (r : RelV (kV k) u) : (mixKind P w).is k u = true := by
  cases k with
  | inl i => obtain ⟨t, e⟩ := (show ∃ t, u = Value.int i t from r); subst e; exact mixKind_int P w i t
  | inr x => obtain ⟨t, e⟩ := (show ∃ t, u = Value.str x t from r); subst e; exact mixKind_str P w x t
theorem items_are {P : Program} {w : World} : ∀ {ks : List Key} {us : List Value}, Vals (ks.map kV) us → ItemsAre (mixKind P w) ks us
  | [], _, r => by rw [List.map_nil] at r; cases r; exact .nil
  | k :: ks, _, r => by
    rw [List.map_cons] at r
    cases r with
    | cons h t => exact .cons (kV_is h) (items_are t)

/-- raw entries of a dict with tuple keys -/
abbrev KT (H : Hp) : List (List Key × V) → List (List Key × Addr × Value) → Prop := Paired fun p q => p.1 = q.1 ∧ H q.2.1 = some (.tup (p.1.map kV)) ∧ RelV p.2 q.2.2
theorem KT.val {H : Hp} {kvs : List (List Key × V)} {xs : List (List Key × Addr × Value)} (r : KT H kvs xs) (k : List Key) : RelO (valV kvs k) ((atKey xs k).map (·.2)) := by
  induction r with
  | nil => exact True.intro
  | @cons p q ps qs h t ih =>
    obtain ⟨h1, _, h2⟩ := h
    by_cases e : p.1 = k
    · have e' : q.1 = k := h1.symm.trans e
      have b : atKey (q :: qs) k = some q.2 := by simp [atKey, List.find?_cons, e']
      rw [valV_pos e, b]; exact h2
    · have e' : ¬ q.1 = k := fun z => e (h1.trans z)
      have b : atKey (q :: qs) k = atKey qs k := by simp [atKey, List.find?_cons, e']
      rw [valV_neg e, b]; exact ih
theorem KT.repl {H : Hp} {kvs : List (List Key × V)} {xs : List (List Key × Addr × Value)} (r : KT H kvs xs) (k : List Key) {y : V} {u : Value} (ry : RelV y u) :
    KT H (kvs.map fun kv => if kv.1 = k then (kv.1, y) else kv) (xs.map (putAt k u)) := by
  induction r with
  | nil => exact .nil
  | @cons p q ps qs h t ih =>
    rw [List.map_cons, List.map_cons]
    refine .cons ?_ ih
    obtain ⟨h1, h2, h3⟩ := h
    unfold putAt
    by_cases e : p.1 = k
    · rw [if_pos e, if_pos (h1.symm.trans e)]; exact ⟨h1, h2, ry⟩
    · rw [if_neg e, if_neg (fun z => e (h1.trans z))]; exact ⟨h1, h2, h3⟩
theorem KT.put {H : Hp} {kvs : List (List Key × V)} {xs : List (List Key × Addr × Value)} (r : KT H kvs xs) (k : List Key) {b : Addr} {y : V} {u : Value} (hb : H b = some (.tup (k.map kV))) (ry : RelV y u) :
    KT H (putK kvs k y) (storedH xs k b u) := by
  have e : (kvs.any fun kv => decide (kv.1 = k)) = (atKey xs k).isSome := by
    rw [valV_any, (r.val k).isSome_eq, Option.isSome_map]
  unfold putK storedH
  rw [e]
  by_cases q : (atKey xs k).isSome = true
  · rw [if_pos q, if_pos q]; exact r.repl k ry
  · rw [if_neg q, if_neg q]; exact Paired.snoc r ⟨rfl, hb, ry⟩
theorem KT.keeps {H H' : Hp} {kvs : List (List Key × V)} {xs : List (List Key × Addr × Value)} (r : KT H kvs xs) (ht : ∀ b ys, H b = some (.tup ys) → H' b = some (.tup ys)) : KT H' kvs xs :=
  Paired.mapP r fun _ _ z => ⟨z.1, ht _ _ z.2.1, z.2.2⟩

section
variable {P : Program} {w : World} {H : Hp} {h : Heap} {a : Addr}
theorem rd_of {u : HO} (ok : HOk P w H h) (e : Rd H a u) : ObjOk P w H h a u := e.ok ok
theorem dk_rd {kvs : List (Key × V)} (ok : HOk P w H h) (e : Rd H a (.dK kvs)) : kvs.length ≤ sizeLine ∧ (a == sysModules) = false ∧ ∃ vs, KV kvs vs ∧ h.DictOf (mixKind P w) a vs :=
  show ObjOk P w H h a (.dK kvs) from rd_of ok e
theorem dk_of {kvs : List (Key × V)} (ok : HOk P w H h) (e : H a = some (.dK kvs)) : kvs.length ≤ sizeLine ∧ (a == sysModules) = false ∧ ∃ vs, KV kvs vs ∧ h.DictOf (mixKind P w) a vs := dk_rd ok (.inl e)
/-- a tracked tuple of ints and texts is a key -/
theorem key_of {ks : List Key} (ok : HOk P w H h) (e : H a = some (.tup (ks.map kV))) : (tupleKind (mixKind P w)).is h ks a := by
  obtain ⟨_, its, r, o, h1, h2, n, h3⟩ := (show ObjOk P w H h a (.tup (ks.map kV)) from ok a _ e)
  exact ⟨o, its.toArray, n, h1, h2, h3, by simpa using items_are r⟩
theorem dt_rd {kvs : List (List Key × V)} (ok : HOk P w H h) (e : Rd H a (.dT kvs)) : kvs.length ≤ sizeLine ∧ (a == sysModules) = false ∧
    ∃ xs, KT H kvs xs ∧ h.DictOfH (tupleKind (mixKind P w)) a xs := by
  obtain ⟨z, y, xs, r, o, es, ep, h1, h2, h3, h4, h5⟩ := (show ObjOk P w H h a (.dT kvs) from rd_of ok e)
  refine ⟨z, y, xs, r, o, es, ep, h1, h2, h3, h4, fun x hx => ?_, h5⟩
  have all : ∀ {l : List (List Key × V)} {m : List (List Key × Addr × Value)}, KT H l m → ∀ x ∈ m, (tupleKind (mixKind P w)).is h x.1 x.2.1 := by
    intro l m q
    induction q with
    | nil => intro x hx; exact nomatch hx
    | @cons p q ps qs hq t ih =>
      intro x hx
      rcases List.mem_cons.mp hx with e | hx
      · subst e
        exact key_of ok (by rw [← hq.1]; exact hq.2.1)
      · exact ih x hx
  exact all r x hx
theorem dt_of {kvs : List (List Key × V)} (ok : HOk P w H h) (e : H a = some (.dT kvs)) : kvs.length ≤ sizeLine ∧ (a == sysModules) = false ∧
    ∃ xs, KT H kvs xs ∧ h.DictOfH (tupleKind (mixKind P w)) a xs := dt_rd ok (.inl e)
end

/-- what the dict at a holds at the key y -/
def DGet (H : Hp) (a : Addr) (y : V) (r : Option V) : Prop :=
  (∃ kvs k, Rd H a (.dK kvs) ∧ y = kV k ∧ r = valV kvs k) ∨ ∃ kvs k b, Rd H a (.dT kvs) ∧ y = .ref b ∧ H b = some (.tup (k.map kV)) ∧ r = valV kvs k
/-- the heap behind a[y] = v -/
def DPut (H : Hp) (a : Addr) (y v : V) (H' : Hp) : Prop :=
  (∃ kvs k, H a = some (.dK kvs) ∧ y = kV k ∧ kvs.length < sizeLine ∧ H' = upd H a (.dK (putK kvs k v))) ∨
  ∃ kvs k b, H a = some (.dT kvs) ∧ y = .ref b ∧ H b = some (.tup (k.map kV)) ∧ kvs.length < sizeLine ∧ H' = upd H a (.dT (putK kvs k v))
theorem DGet.k {H : Hp} {a : Addr} {kvs : List (Key × V)} {k : Key} (e : H a = some (.dK kvs)) : DGet H a (kV k) (valV kvs k) := .inl ⟨kvs, k, .inl e, rfl, rfl⟩
theorem DGet.t {H : Hp} {a b : Addr} {kvs : List (List Key × V)} {k : List Key} (e : H a = some (.dT kvs)) (eb : H b = some (.tup (k.map kV))) : DGet H a (.ref b) (valV kvs k) := .inr ⟨kvs, k, b, .inl e, rfl, eb, rfl⟩
theorem DPut.k {H : Hp} {a : Addr} {kvs : List (Key × V)} {k : Key} {v : V} (e : H a = some (.dK kvs)) (hl : kvs.length < sizeLine) : DPut H a (kV k) v (upd H a (.dK (putK kvs k v))) := .inl ⟨kvs, k, e, rfl, hl, rfl⟩
theorem DPut.t {H : Hp} {a b : Addr} {kvs : List (List Key × V)} {k : List Key} {v : V} (e : H a = some (.dT kvs)) (eb : H b = some (.tup (k.map kV))) (hl : kvs.length < sizeLine) :
    DPut H a (.ref b) v (upd H a (.dT (putK kvs k v))) := .inr ⟨kvs, k, b, e, rfl, eb, hl, rfl⟩


section
variable {X : Cx} {pins : List (Addr × Obj)} {σ : St} {H : Hp} {s : Shared} {a : Addr} {y v : V} {u r : Value} {o : Option V} {A : Around} {E : Value → Shared → Prop}

theorem Inv.big (I : Inv X pins σ H s) : sysModules < s.heap.objs.size := by
  have h : mainGlobals < s.heap.objs.size := (I.mod.glob.keeps I.bk).lt
  exact Nat.lt_trans (by decide) h

/-- a dict's object is replaced -/
theorem d_write {h' : Heap} {t' : Nat} {ob : HO} (I : Inv X pins σ H s) (mu : Mut (H a)) (hs : Heap.SameBut a s.heap h') (he : ∃ q, h'.get? a = some q) (new : ObjOk X.prog X.w (upd H a ob) h' a ob) :
    Inv X pins σ (upd H a ob) { s with heap := h', toks := t' } :=
  I.write (x := a) (e := a) mu (.inl rfl) (fun b q hb z => (hs.2 b hb).trans z) he new
theorem dk_new {P : Program} {w : World} {H' : Hp} {h' : Heap} {kvs : List (Key × V)} {vs : List (Key × Value)} (z : kvs.length ≤ sizeLine) (hd : (a == sysModules) = false) (rel : KV kvs vs) (dd : h'.DictOf (mixKind P w) a vs) :
    ObjOk P w H' h' a (.dK kvs) := ⟨z, hd, vs, rel, dd⟩
/-- d[y] = v -/
theorem d_setItem {H' : Hp} {Q : Unit → Shared → Prop} (hu : A.units + 1 < cLine) (I : Inv X pins σ H s) (g : DPut H a y v H') (ry : RelV y u) (rv : RelV v r) (h : ∀ s', Inv X pins σ H' s' → Q () s') :
    wpAny (model X.prog X.w) A (setItem (.ref a) u r) Q E s := by
  rcases g with ⟨kvs, k, e, ey, l, eH⟩ | ⟨kvs, k, b, e, ey, eb, l, eH⟩
  · subst ey eH
    obtain ⟨z, hd, vs, rel, dd⟩ := dk_of I.hok e
    have hz : vs.length ≤ sizeLine := by rw [← rel.length]; exact z
    have hl : (putK kvs k v).length ≤ sizeLine := by have := length_putK kvs k v; omega
    refine wpAny_setItem_pairs (hsz := hz) (kV_is ry) dd fun h' dd' hs => h _ ?_
    have he : ∃ q, h'.get? a = some q := let ⟨q, _, _, hq, _⟩ := dd'; ⟨q, hq⟩
    exact d_write I (by rw [e]; exact True.intro) hs he (dk_new hl hd (rel.put k rv) dd')
  · subst ey eH
    cases (show u = Value.ref b from ry)
    obtain ⟨z, hd, xs, rel, dd⟩ := dt_of I.hok e
    have hz : xs.length ≤ sizeLine := by rw [← Paired.length rel]; exact z
    have hl : (putK kvs k v).length ≤ sizeLine := by have := length_putK kvs k v; omega
    refine wpAny_setItem_heap (hsz := hz) (tupleKind_room_in1 hu) (key_of I.hok eb) dd fun h' dd' hs => h _ ?_
    obtain ⟨q, es, ep, hq, h2, h3, h4, _, h5⟩ := dd'
    refine d_write I (by rw [e]; exact True.intro) hs ⟨q, hq⟩ ⟨hl, hd, _, (rel.put k eb rv).keeps fun c ys ec => ?_, q, es, ep, hq, h2, h3, h4, h5⟩
    rw [upd_ne (ne_of ec e (fun z => nomatch z))]
    exact ec
end

section
variable {X : Cx} {pins : List (Addr × Obj)} {σ : St} {H : Hp} {s : Shared} {a : Addr} {kvs : List (Key × V)} {k : Key} {u : Value} {A : Around} {E : Value → Shared → Prop}
end


/-! ### readings and rules -/
/-- d[y] = v -/
def sDPut (td ty tv : TE) : TS := fun D σ H => tv σ H fun v H1 => td σ H1 fun x H2 => ty σ H2 fun y H3 => ∃ a H4, x = .ref a ∧ DPut H3 a y v H4 ∧ D.nx σ H4
section
variable {X : Cx} {o i e value : Expr} {pos pos' tpos : Pos} {td ty tv : TE}
theorem ps_dput (hu : X.A.units + 1 < cLine) (ho : PE X o td) (hi : PE X i ty) (hv : PE X value tv) (hs : swapsWith value (some (.Subscript o i pos')) pos.line X.env = pure false) :
    PS X (.Assign [.Subscript o i pos'] value pos) (sDPut td ty tv) := by
  intro pins s σ H D I h
  refine wpAny_Assign_Subscript (thn (hv pins s σ H _ I h) fun r s1 ⟨v, H1, I1, rv, q1⟩ => thn (ho pins s1 σ H1 _ I1 q1) fun u s2 ⟨x, H2, I2, rx, q2⟩ => thn (hi pins s2 σ H2 _ I2 q2) fun iv s3 ⟨y, H3, I3, ry, a, H4, ex, g, q3⟩ => ?_) hs
  subst ex
  obtain rfl : u = Value.ref a := rx
  exact d_setItem hu I3 g ry rv fun s4 I4 => ⟨σ, H4, I4, q3⟩
end


/-! ### displays -/
theorem dk_empty {P : Program} {w : World} {H : Hp} (h : Heap) (hb : sysModules < h.objs.size) : ObjOk P w H (h.push { cls := .type "dict", data := .dict #[] }) h.objs.size (.dK []) :=
  ⟨Nat.zero_le _, beq_eq_false_iff_ne.mpr (Ne.symm (Nat.ne_of_lt hb)), [], .nil, Heap.DictOf.new h⟩
theorem dt_empty {P : Program} {w : World} {H : Hp} (h : Heap) (hb : sysModules < h.objs.size) : ObjOk P w H (h.push { cls := .type "dict", data := .dict #[] }) h.objs.size (.dT []) :=
  ⟨Nat.zero_le _, beq_eq_false_iff_ne.mpr (Ne.symm (Nat.ne_of_lt hb)), [], .nil, _, #[], 0, Heap.get?_push_size _ rfl, ⟨rfl, rfl, rfl⟩, rfl, rfl, List.nodup_nil⟩
/-- {}, to be a dict of the kind that is wanted -/
def tDNewK : TE := fun _ H Q => ∀ p, H p = none → Q (.ref p) (upd H p (.dK []))
def tDNewT : TE := fun _ H Q => ∀ p, H p = none → Q (.ref p) (upd H p (.dT []))
section
variable {X : Cx} {pos : Pos}
theorem pe_dnewK : PE X (.Dict [] [] pos) tDNewK := fun pins s σ H Q I h =>
  wpAny_Dict_empty ⟨.ref s.heap.objs.size, _, I.laid (a := s.heap.objs.size) (o := .dK []) (t' := s.toks) (fun _ _ q => Heap.get?_push_of_some _ q) (Nat.le_refl _) (dk_empty s.heap I.big), rfl, h _ (I.hok.fresh (Nat.le_refl _))⟩
theorem pe_dnewT : PE X (.Dict [] [] pos) tDNewT := fun pins s σ H Q I h =>
  wpAny_Dict_empty ⟨.ref s.heap.objs.size, _, I.laid (a := s.heap.objs.size) (o := .dT []) (t' := s.toks) (fun _ _ q => Heap.get?_push_of_some _ q) (Nat.le_refl _) (dt_empty s.heap I.big), rfl, h _ (I.hok.fresh (Nat.le_refl _))⟩
end

/-! ### methods -/
/-- a method call o.m(e) of a built-in, with one argument: what must be seen of the text -/
structure M1 (X : Cx) (o : Expr) (m : Str) (apos : Pos) (e : Expr) (cpos : Pos) : Prop where
  base : attributeBase o m X.env (eval o X.env) = eval o X.env
  few : ((backTo cpos (starEach [e] X.env)).all (fun x => !x.1) && (backToKw cpos (keywordEach [] X.env)).all (fun x => x.1.isSome)
    && decide (([e] : List Expr).length + ([] : List Keyword).length + (if ([] : List Keyword).isEmpty then 0 else 1) < 30)) = true
  line : (apos.endLine == cpos.line) = true
  trees : backTo cpos (starEach [e] X.env) = [(false, eval e X.env)]
structure M2 (X : Cx) (o : Expr) (m : Str) (apos : Pos) (e f : Expr) (cpos : Pos) : Prop where
  base : attributeBase o m X.env (eval o X.env) = eval o X.env
  few : ((backTo cpos (starEach [e, f] X.env)).all (fun x => !x.1) && (backToKw cpos (keywordEach [] X.env)).all (fun x => x.1.isSome)
    && decide (([e, f] : List Expr).length + ([] : List Keyword).length + (if ([] : List Keyword).isEmpty then 0 else 1) < 30)) = true
  line : (apos.endLine == cpos.line) = true
  trees : backTo cpos (starEach [e, f] X.env) = [(false, eval e X.env), (false, eval f X.env)]

/-- a is a dict, whatever its keys -/
def IsD (H : Hp) (a : Addr) : Prop := (∃ kvs, Rd H a (.dK kvs)) ∨ ∃ kvs, Rd H a (.dT kvs)
theorem isD_at {X : Cx} {pins : List (Addr × Obj)} {σ : St} {H : Hp} {s : Shared} {a : Addr} (I : Inv X pins σ H s) (d : IsD H a) :
    s.TypeIs (.ref a) "dict" ∧ (∀ b, Value.ref a = .ref b → ∃ ob, s.heap.get? b = some ob ∧ ob.dict = none) ∧ (a == sysModules) = false := by
  rcases d with ⟨kvs, e⟩ | ⟨kvs, e⟩
  · obtain ⟨_, hd, vs, _, dd⟩ := dk_rd I.hok e
    refine ⟨dd.typeIs, fun b q => ?_, hd⟩
    cases q
    obtain ⟨ob, _, _, h1, h2, _⟩ := dd
    exact ⟨ob, h1, h2.2.1⟩
  · obtain ⟨_, hd, xs, _, dd⟩ := dt_rd I.hok e
    refine ⟨dd.typeIs, fun b q => ?_, hd⟩
    cases q
    obtain ⟨ob, _, _, h1, h2, _⟩ := dd
    exact ⟨ob, h1, h2.2.1⟩

section
variable {X : Cx} {pins : List (Addr × Obj)} {σ : St} {H : Hp} {s : Shared} {a : Addr} {y d : V} {u r : Value} {o : Option V} {A : Around} {E : Value → Shared → Prop}
/-- d.get(y, x) -/
theorem d_get2 {Q : Value → Shared → Prop} (hu : A.units + 1 < cLine) (I : Inv X pins σ H s) (g : DGet H a y o) (ry : RelV y u) (rd : RelV d r) (h : ∀ w' s', Inv X pins σ H s' → RelV (o.getD d) w' → Q w' s') :
    wpAny (model X.prog X.w) A (call (.builtin "dict.get") [.ref a, u, r]) Q E s := by
  rcases g with ⟨kvs, k, e, ey, l⟩ | ⟨kvs, k, b, e, ey, eb, l⟩
  · subst ey
    obtain ⟨z, hd, vs, rel, dd⟩ := dk_rd I.hok e
    refine call_meetsIn PySem.F.slot_dict_get dd.typeIs PySem.F.entry_dict_get (PySem.F.args_dict_get_3 _ _ _) (meets_dict_get_default (mixKind X.prog X.w) a (kV_is ry) hd r) ⟨_, dd.mapOf, h _ _ (I.tok _) ?_⟩
    rw [l]
    exact (rel.val k).getD rd
  · subst ey
    cases (show u = Value.ref b from ry)
    obtain ⟨z, hd, xs, rel, dd⟩ := dt_rd I.hok e
    refine call_meetsIn PySem.F.slot_dict_get dd.typeIs PySem.F.entry_dict_get (PySem.F.args_dict_get_3 _ _ _) (meetsH_dict_get_default (tupleKind (mixKind X.prog X.w)) a b hd r) ⟨tupleKind_room_in1 hu, k, xs, key_of I.hok eb, dd, h _ _ (I.tok _) ?_⟩
    rw [l]
    exact (rel.val k).getD rd
end

def tDGet2 (td ty tx : TE) : TE := fun σ H Q => td σ H fun x H1 => ∃ a, x = .ref a ∧ IsD H1 a ∧ ty σ H1 fun y H2 => tx σ H2 fun z H3 => ∃ o, DGet H3 a y o ∧ Q (o.getD z) H3
section
variable {X : Cx} {o e f : Expr} {apos cpos : Pos} {td ty tx : TE}
theorem pe_dget2 (hu : X.A.units + 1 < cLine) (ho : PE X o td) (he : PE X e ty) (hf : PE X f tx) (m : M2 X o "get" apos e f cpos) : PE X (.Call (.Attribute o "get" apos) [e, f] [] cpos) (tDGet2 td ty tx) := by
  intro pins s σ H Q I h
  refine wpAny_Call_method m.base m.few m.line PySem.F.plainAttrs_dict PySem.F.slot_dict_get PySem.F.type_dict_get (thn (ho pins s σ H _ I h) fun u s1 ⟨x, H1, I1, rx, a, ex, d, q1⟩ => ?_)
  subst ex
  obtain rfl : u = Value.ref a := rx
  obtain ⟨t1, t2, _⟩ := isD_at I1 d
  refine ⟨t1, t2, ?_⟩
  rw [m.trees]
  refine Calls.callWith_builtin rfl (Calls.evalArgs_plain (Calls.spliced_cons (thn (he pins s1 σ H1 _ I1 q1) fun iv s2 ⟨y, H2, I2, ry, q2⟩ =>
    Calls.spliced_cons (thn (hf pins s2 σ H2 _ I2 q2) fun fv s3 ⟨z, H3, I3, rz, ov, g, q3⟩ => Calls.spliced_nil ?_))))
  exact d_get2 hu I3 g ry rz fun w' s4 I4 rw' => ⟨_, H3, I4, rw', q3⟩
end

/-! ### dict(d): a copy -/
section
variable {X : Cx} {pins : List (Addr × Obj)} {σ : St} {H : Hp} {s : Shared} {a : Addr} {kvs : List (Key × V)} {A : Around} {E : Value → Shared → Prop}
end


section
variable {X : Cx} {pins : List (Addr × Obj)} {σ : St} {H : Hp} {s : Shared} {a : Addr} {y : V} {u : Value} {A : Around} {E : Value → Shared → Prop}
end
end L2


namespace InkX
open PySem PySem.Spec PyProof.Rows L2
/-! ### a list made by one clause whose tests and item may name the def's captured names; kept, or stored under a plain name -/
structure CompF (X : Cx) (N : List Str) (scope : Scope) (cl : List (Str × Addr)) (jx : List (Option Nat)) : Prop where
  kind : scope.kind = .function
  cell : ∀ x ∈ scope.names, x.2 ≠ .cell
  names : ∀ x ∈ scope.names, x.2 = .local → scope.names.lookup x.1 = some .local
  clos : closureFor scope X.env = pure cl
  sub : ∀ x c, cl.lookup x = some c → X.env.cells.lookup x = some c
  has : ∀ x, ((relabel scope X.env).names.lookup x = some .cell ∨ (relabel scope X.env).names.lookup x = some .free) → ∃ c, cl.lookup x = some c
  len : jx.length = N.length
  free : ∀ (i j : Nat) (x : Str), jx[i]? = some (some j) → N[i]? = some x → X.N[j]? = some x ∧ X.env.scope.names.lookup x = some .cell ∧ (relabel scope X.env).names.lookup x = some .cell
section
variable {X : Cx} {N : List Str} {scope : Scope} {cl : List (Str × Addr)} {jx : List (Option Nat)}
/-- no captured names -/
theorem CompF.none (cs : CompScope scope) (N : List Str) : CompF X N scope [] (N.map fun _ => none) where
  kind := cs.kind
  cell := cs.cell
  names := cs.names
  clos := closureFor_none cs.free
  sub := fun x c e => by cases e
  has := fun x hx => by
    have e : relabel scope X.env = scope := by
      unfold relabel
      have z : (scope.names.map fun (n, k) => if (k == NameKind.free && X.env.scope.kind == .function && X.env.kindOf n == some .cell) then (n, NameKind.cell) else (n, k)) = scope.names := by
        have z2 : (scope.names.map fun (n, k) => if (k == NameKind.free && X.env.scope.kind == .function && X.env.kindOf n == some .cell) then (n, NameKind.cell) else (n, k)) = scope.names.map id := List.map_congr_left fun p hp => by
          obtain ⟨n, k⟩ := p
          have q : (k == NameKind.free) = false := by
            have q := cs.free _ hp
            cases k <;> first | rfl | exact absurd rfl q
          simp [q]
        rw [z2, List.map_id]
      rw [z]
    rw [e] at hx
    rcases hx with z | z
    · exact absurd rfl (cs.cell _ (PySem.mem_of_lookup z))
    · exact absurd rfl (cs.free _ (PySem.mem_of_lookup z))
  len := by rw [List.length_map]
  free := fun i j x e _ => by
    rw [List.getElem?_map] at e
    cases h : N[i]? with
    | none => rw [h] at e; cases e
    | some y => rw [h] at e; cases e
end
section
variable {X : Cx} {N : List Str} {scope : Scope} {cl : List (Str × Addr)} {C : Addr} {s₀ : Shared} {H₀ : Hp} {ex : List Addr} {pn : List (Addr × Obj)}
end
/-! ### the closure found by the context itself -/
structure CompG (X : Cx) (N : List Str) (scope : Scope) (jx : List (Option Nat)) : Prop where
  kind : scope.kind = .function
  cell : ∀ x ∈ scope.names, x.2 ≠ .cell
  names : ∀ x ∈ scope.names, x.2 = .local → scope.names.lookup x.1 = some .local
  xk : X.env.scope.kind = .function
  fr : ∀ x ∈ scope.names, x.2 = .free → X.env.scope.names.lookup x.1 = some .cell
  len : jx.length = N.length
  free : ∀ (i j : Nat) (x : Str), jx[i]? = some (some j) → N[i]? = some x → X.N[j]? = some x ∧ scope.names.lookup x = some .free
section
variable {X : Cx} {N : List Str} {scope : Scope} {jx : List (Option Nat)}
end
end InkX

namespace InkX
open PySem PySem.Spec PyProof.Rows L2
/-! ### two clauses, with captured names -/
section
variable {X : Cx} {N : List Str} {scope : Scope} {cl : List (Str × Addr)} {jx : List (Option Nat)}
end
end InkX

namespace InkX
open PySem PySem.Spec PyProof.Rows L2
open AutoSeq1 (wpAny_loadPart')
section
variable {prog : Program} {w : World} {A : Around} {E : Value → Shared → Prop} {s : Shared} {κ : Type} [DecidableEq κ] {knd : KeyKind prog w κ}
end
end InkX

namespace InkF
open PySem PySem.Spec PyProof.Rows L2 InkX Ink
section
variable {X : Cx}
/-! ### list.insert -/
/-! ### deep equality -/
end
end InkF

namespace Ink
open PySem PySem.Spec PyProof.Rows L2 InkX InkE InkF
/-! ### two lists side by side -/
inductive All2 {α β : Type} (R : α → β → Prop) : List α → List β → Prop
  | nil : All2 R [] []
  | cons {a : α} {b : β} {as : List α} {bs : List β} : R a b → All2 R as bs → All2 R (a :: as) (b :: bs)
section
variable {α β : Type} {R R' : α → β → Prop} {as : List α} {bs : List β} {a : α} {b : β}
theorem All2.len : ∀ {as : List α} {bs : List β}, All2 R as bs → as.length = bs.length
  | _, _, .nil => rfl
  | _, _, .cons _ t => by rw [List.length_cons, List.length_cons, t.len]
theorem All2.get : ∀ {as : List α} {bs : List β} {i : Nat}, All2 R as bs → as[i]? = some a → ∃ b, bs[i]? = some b ∧ R a b
  | _, _, _, .nil, h => by simp at h
  | _, _, 0, .cons r _, h => by simp at h; subst h; exact ⟨_, rfl, r⟩
  | _, _, i + 1, .cons _ t, h => by simp at h; simpa using t.get h
theorem All2.get' : ∀ {as : List α} {bs : List β} {i : Nat}, All2 R as bs → bs[i]? = some b → ∃ a, as[i]? = some a ∧ R a b
  | _, _, _, .nil, h => by simp at h
  | _, _, 0, .cons r _, h => by simp at h; subst h; exact ⟨_, rfl, r⟩
  | _, _, i + 1, .cons _ t, h => by simp at h; simpa using t.get' h
theorem All2.snoc : ∀ {as : List α} {bs : List β}, All2 R as bs → R a b → All2 R (as ++ [a]) (bs ++ [b])
  | _, _, .nil, h => .cons h .nil
  | _, _, .cons r t, h => .cons r (t.snoc h)
theorem All2.mono : ∀ {as : List α} {bs : List β}, (∀ a b, R a b → R' a b) → All2 R as bs → All2 R' as bs
  | _, _, _, .nil => .nil
  | _, _, h, .cons r t => .cons (h _ _ r) (t.mono h)
theorem All2.set : ∀ {as : List α} {bs : List β} (i : Nat), All2 R as bs → R a b → All2 R (as.set i a) (bs.set i b)
  | _, _, _, .nil, _ => .nil
  | _, _, 0, .cons _ t, h => .cons h t
  | _, _, i + 1, .cons r t, h => .cons r (t.set i h)
theorem All2.split : ∀ {as : List α} {bs : List β}, All2 R as (bs ++ [b]) → ∃ as' a, as = as' ++ [a] ∧ All2 R as' bs ∧ R a b
  | _, [], .cons r .nil => ⟨[], _, rfl, .nil, r⟩
  | _, c :: bs, .cons r t => by
    obtain ⟨as', a, rfl, t', r'⟩ := t.split
    exact ⟨_ :: as', a, rfl, .cons r t', r'⟩
end
/-! ### items -/
inductive Item where
  | win (n : Int)
  | ink (a b : Int)
def itemVs : Item → List V
  | .win n => [.str "win", .int n]
  | .ink a b => [.str "ink", .int a, .int b]
def ItemAt (H : Hp) (v : V) (it : Item) : Prop := ∃ a, v = .ref a ∧ H a = some (.tup (itemVs it))
theorem ItemAt.same {H H' : Hp} {v : V} {it : Item} (s : Same H H') : ItemAt H v it → ItemAt H' v it := fun ⟨a, e, h⟩ => ⟨a, e, s _ _ h⟩
theorem ItemAt.keep {H H' : Hp} {v : V} {it : Item} {q : Addr} {xs : List V} (hq : H q = some (.lst xs)) (k : Keep q H H') : ItemAt H v it → ItemAt H' v it := fun ⟨a, e, h⟩ => ⟨a, e, k a _ h (by
  intro z
  rw [z, hq] at h
  cases h)⟩
def ItemsAt (H : Hp) (v : V) (its : List Item) : Prop := ∃ a vs, v = .ref a ∧ H a = some (.lst vs) ∧ All2 (ItemAt H) vs its
theorem ItemsAt.same {H H' : Hp} {v : V} {its : List Item} (s : Same H H') : ItemsAt H v its → ItemsAt H' v its := fun ⟨a, vs, e, h, t⟩ => ⟨a, vs, e, s _ _ h, t.mono fun _ _ => ItemAt.same s⟩
def SheetsAt (H : Hp) (r : Addr) (rows : List (List Item)) : Prop := ∃ vs, H r = some (.lst vs) ∧ All2 (ItemsAt H) vs rows
theorem SheetsAt.same {H H' : Hp} {r : Addr} {rows : List (List Item)} (s : Same H H') : SheetsAt H r rows → SheetsAt H' r rows := fun ⟨vs, h, t⟩ => ⟨vs, s _ _ h, t.mono fun _ _ => ItemsAt.same s⟩
theorem ItemAt.eqv {H : Hp} {x y : V} {it : Item} (n : Nat) (h1 : ItemAt H x it) (h2 : ItemAt H y it) : Eqv H (n + 2) x y := by
  obtain ⟨a, rfl, e1⟩ := h1
  obtain ⟨b, rfl, e2⟩ := h2
  refine .inr ⟨false, a, b, _, _, rfl, rfl, e1, e2, rfl, fun i u v eu ev => ?_⟩
  rw [eu] at ev
  cases ev
  cases it with
  | win n =>
    match i, eu with
    | 0, e => cases e; exact .inl ⟨rfl, rfl⟩
    | 1, e => cases e; exact .inl ⟨rfl, rfl⟩
    | k + 2, e => simp [itemVs] at e
  | ink p q =>
    match i, eu with
    | 0, e => cases e; exact .inl ⟨rfl, rfl⟩
    | 1, e => cases e; exact .inl ⟨rfl, rfl⟩
    | 2, e => cases e; exact .inl ⟨rfl, rfl⟩
    | k + 3, e => simp [itemVs] at e
theorem ItemsAt.eqv {H : Hp} {x y : V} {its : List Item} (n : Nat) (h1 : ItemsAt H x its) (h2 : ItemsAt H y its) : Eqv H (n + 3) x y := by
  obtain ⟨a, vs, rfl, e1, t1⟩ := h1
  obtain ⟨b, us, rfl, e2, t2⟩ := h2
  refine .inr ⟨true, a, b, _, _, rfl, rfl, e1, e2, by rw [t1.len, t2.len], fun i u v eu ev => ?_⟩
  obtain ⟨z, ez, r1⟩ := t1.get eu
  obtain ⟨z', ez', r2⟩ := t2.get ev
  rw [ez] at ez'
  cases ez'
  exact r1.eqv n r2
theorem SheetsAt.eqv {H : Hp} {x y : Addr} {rows : List (List Item)} (n : Nat) (h1 : SheetsAt H x rows) (h2 : SheetsAt H y rows) : Eqv H (n + 4) (.ref x) (.ref y) := by
  obtain ⟨vs, e1, t1⟩ := h1
  obtain ⟨us, e2, t2⟩ := h2
  refine .inr ⟨true, x, y, _, _, rfl, rfl, e1, e2, by rw [t1.len, t2.len], fun i u v eu ev => ?_⟩
  obtain ⟨z, ez, r1⟩ := t1.get eu
  obtain ⟨z', ez', r2⟩ := t2.get ev
  rw [ez] at ez'
  cases ez'
  exact r1.eqv n r2
/-! ### the windows of rows of entries, and where they lead -/
inductive Reach (E : Int → Int → Prop) (s : Int) : Int → Prop
  | one {y : Int} : E s y → Reach E s y
  | step {y z : Int} : Reach E s y → E y z → Reach E s z
/-- a walk: from its first sheet on, window by window -/
def Walk (E : Int → Int → Prop) (s : Int) (w : List Int) : Prop := w[0]? = some s ∧ ∀ (i : Nat) (x y : Int), w[i]? = some x → w[i + 1]? = some y → E x y
theorem Walk.one (E : Int → Int → Prop) (s : Int) : Walk E s [s] := ⟨rfl, fun i x y _ h => by simp at h⟩
theorem Walk.snoc {E : Int → Int → Prop} {s e y : Int} {w : List Int} (h : Walk E s w) (hl : w.getLast? = some e) (he : E e y) : Walk E s (w ++ [y]) := by
  obtain ⟨h0, h1⟩ := h
  have hw : w ≠ [] := by intro z; rw [z] at hl; cases hl
  have hpos : 0 < w.length := by cases w with | nil => exact absurd rfl hw | cons _ _ => simp
  refine ⟨by rw [List.getElem?_append_left hpos]; exact h0, fun i x z hx hz => ?_⟩
  by_cases c : i + 1 < w.length
  · rw [List.getElem?_append_left c] at hz
    rw [List.getElem?_append_left (by omega)] at hx
    exact h1 i x z hx hz
  · have c2 : i + 1 = w.length := by
      have : i + 1 < (w ++ [y]).length := by
        rcases Nat.lt_or_ge (i + 1) (w ++ [y]).length with q | q
        · exact q
        · rw [List.getElem?_eq_none q] at hz; cases hz
      rw [List.length_append, List.length_singleton] at this
      omega
    rw [c2, List.getElem?_append_right (Nat.le_refl _), Nat.sub_self] at hz
    rw [List.getElem?_append_left (by omega)] at hx
    rw [List.getLast?_eq_getElem?] at hl
    have : i = w.length - 1 := by omega
    rw [this, hl] at hx
    cases hx
    cases hz
    exact he
theorem Walk.reach {E : Int → Int → Prop} {s : Int} {w : List Int} (h : Walk E s w) : ∀ (i : Nat) (y : Int), w[i + 1]? = some y → Reach E s y := by
  intro i
  induction i with
  | zero => intro y hy; exact .one (h.2 0 s y h.1 hy)
  | succ i ih =>
    intro y hy
    have : ∃ x, w[i + 1]? = some x := by
      rcases Nat.lt_or_ge (i + 1) w.length with q | q
      · exact ⟨w[i + 1], List.getElem?_eq_getElem q⟩
      · rw [List.getElem?_eq_none (by omega)] at hy; cases hy
    obtain ⟨x, hx⟩ := this
    exact .step (ih x hx) (h.2 _ _ _ hx hy)
/-! ### counting what is not seen -/
/-! ### entries -/
def EntsAt (av : Addr → Prop) (H : Hp) (v : V) (es : List Int) : Prop := ∃ a, v = .ref a ∧ ¬ av a ∧ H a = some (.lst (es.map V.int))
def RowsAt (av : Addr → Prop) (H : Hp) (r : Addr) (rows : List (List Int)) : Prop := ∃ vs, H r = some (.lst vs) ∧ All2 (EntsAt av H) vs rows
theorem EntsAt.keep {av : Addr → Prop} {H H' : Hp} {v : V} {es : List Int} (k : ∀ a o, ¬ av a → H a = some o → H' a = some o) : EntsAt av H v es → EntsAt av H' v es := fun ⟨a, e, n, h⟩ => ⟨a, e, n, k a _ n h⟩
theorem RowsAt.same {av : Addr → Prop} {H H' : Hp} {r : Addr} {rows : List (List Int)} (s : Same H H') : RowsAt av H r rows → RowsAt av H' r rows := fun ⟨vs, h, t⟩ => ⟨vs, s _ _ h, t.mono fun _ _ => EntsAt.keep fun a o _ e => s a o e⟩
theorem RowsAt.get {av : Addr → Prop} {H : Hp} {r : Addr} {rows : List (List Int)} {i : Nat} {es : List Int} (h : RowsAt av H r rows) (e : rows[i]? = some es) : ∃ vs a, H r = some (.lst vs) ∧ vs[i]? = some (.ref a) ∧ H a = some (.lst (es.map V.int)) ∧ vs.length = rows.length := by
  obtain ⟨vs, hr, t⟩ := h
  obtain ⟨v, ev, a, rfl, _, ha⟩ := t.get' e
  exact ⟨vs, a, hr, ev, ha, t.len⟩
theorem EntsAt.at {av : Addr → Prop} {H : Hp} {v : V} {es : List Int} {q : Addr} (o : HO) (hq : av q) : EntsAt av H v es → EntsAt av (upd H q o) v es := EntsAt.keep fun a u n e => by
  rw [upd_ne (fun z => n (by rw [z]; exact hq))]
  exact e
theorem EntsAt.new {av : Addr → Prop} {H : Hp} {v : V} {es : List Int} {p : Addr} (o : HO) (hp : H p = none) : EntsAt av H v es → EntsAt av (upd H p o) v es := EntsAt.keep fun a u _ e => same_new hp o a u e
theorem EntsAt.same {av : Addr → Prop} {H H' : Hp} {v : V} {es : List Int} (s : Same H H') : EntsAt av H v es → EntsAt av H' v es := EntsAt.keep fun a u _ e => s a u e
def seen (kvs : List (Key × V)) (x : Int) : Prop := (valV kvs (Sum.inl x)).isSome = true
theorem All2.new {H2 : Hp} {q t : Addr} {vs : List V} {its : List Item} {it : Item} {ys : List V} (hq2 : H2 q = some (.lst ys)) (hb : All2 (ItemAt H2) vs its) (ht : H2 t = none) (zs : List V) :
    All2 (ItemAt (upd (upd H2 t (.tup (itemVs it))) q (.lst zs))) (vs ++ [.ref t]) (its ++ [it]) := by
  have ntq : q ≠ t := ne_of_none hq2 ht
  have s1 : Same H2 (upd H2 t (.tup (itemVs it))) := same_new ht _
  refine All2.snoc (hb.mono fun v i h => (h.same s1).keep (s1 _ _ hq2) (keep_upd q _ _)) ⟨t, rfl, ?_⟩
  rw [upd_ne ntq.symm, upd_same]
end Ink

namespace InkP
open PySem PySem.Spec PyProof.Rows L2 InkX
section
variable {M : Model} {A : Around} {E : Value → Shared → Prop} {s : Shared}
end
section
variable {X : Cx}
section
variable {N : List Str} {scope : Scope} {cl : List (Str × Addr)} {C : Addr} {s₀ : Shared} {H₀ : Hp} {ex : List Addr} {pn : List (Addr × Obj)}
end
end
theorem if_andW {p q A B T : Prop} [Decidable p] [Decidable q] (w : p → (if decide q = true then A else B) → T) (h1 : p ∧ q → A) (h2 : ¬ (p ∧ q) → B) : if decide p = true then T else (if false = true then A else B) := by
  by_cases a : p
  · rw [if_pos (decide_eq_true a)]
    by_cases b : q
    · exact w a (by rw [if_pos (decide_eq_true b)]; exact h1 ⟨a, b⟩)
    · exact w a (by rw [decide_eq_false b, if_neg Bool.false_ne_true]; exact h2 fun z => b z.2)
  · rw [decide_eq_false a, if_neg Bool.false_ne_true, if_neg Bool.false_ne_true]
    exact h2 fun z => a z.1
theorem if_and {p q A B T : Prop} [Decidable p] [Decidable q] (w : (if decide q = true then A else B) → T) (h1 : p ∧ q → A) (h2 : ¬ (p ∧ q) → B) : if decide p = true then T else (if false = true then A else B) := if_andW (fun _ => w) h1 h2
end InkP

namespace Ink
open PySem PySem.Spec PyProof.Rows L2 InkX InkE InkF
end Ink

namespace InkS
open PySem PySem.Spec PyProof.Rows L2 InkX
/-! ### sorted, of a list of pairs of ints: fewer than 64 of them -/
/-- the order of pairs -/
def Le (p q : Int × Int) : Prop := p.1 < q.1 ∨ (p.1 = q.1 ∧ p.2 ≤ q.2)
instance (p q : Int × Int) : Decidable (Le p q) := by unfold Le; infer_instance
def less (p q : Int × Int) : Bool := decide (¬ Le q p)
/-- what a pair in the heap is -/
def PairIn (h : Heap) (v : Value) (p : Int × Int) : Prop := ∃ a t u, v = .ref a ∧ IsTup h a #[.int p.1 t, .int p.2 u]
/-! the array that is sorted, seen by its keys -/
section
variable {prog : Program} {w : World} {A : Around} {E : Value → Shared → Prop} {s : Shared} {z : Array Keyed} {key : Value → Int × Int}
def kp (key : Value → Int × Int) (xs : Array Keyed) (i : Nat) : Int × Int := (xs[i]?.map fun r => key r.1).getD (0, 0)
theorem kp_of {xs ys : Array Keyed} {i j : Nat} (h : xs[i]? = ys[j]?) : kp key xs i = kp key ys j := by unfold kp; rw [h]
def Up (key : Value → Int × Int) (xs : Array Keyed) (n : Nat) : Prop := ∀ i j, i ≤ j → j < n → Le (kp key xs i) (kp key xs j)
def Dn (key : Value → Int × Int) (xs : Array Keyed) (n : Nat) : Prop := ∀ i j, i ≤ j → j < n → Le (kp key xs j) (kp key xs i)
theorem Le.rfl' (p : Int × Int) : Le p p := .inr ⟨rfl, Int.le_refl _⟩
theorem Le.tr {p q r : Int × Int} (h : Le p q) (g : Le q r) : Le p r := by unfold Le at *; omega
theorem Le.anti {p q : Int × Int} (h : Le p q) (g : Le q p) : p = q := by
  unfold Le at *
  exact Prod.ext (by omega) (by omega)
theorem Le.of_not {p q : Int × Int} (h : ¬ Le p q) : Le q p := by unfold Le at *; omega
theorem less_t {p q : Int × Int} (h : less p q = true) : ¬ Le q p := of_decide_eq_true h
theorem less_f {p q : Int × Int} (h : less p q = false) : Le q p := by
  unfold less at h
  exact Classical.byContradiction fun c => by rw [decide_eq_true c] at h; cases h
/-- what stays as the sort goes on -/
structure Bas (z : Array Keyed) (st : SortSt) : Prop where
  pm : (arrOf st).Perm z
  kd : kindOf st = tuples' true
  fl : failedOf st = none
  pd : pendingOf st = #[]
theorem Bas.sz {st : SortSt} (b : Bas z st) : (arrOf st).size = z.size := b.pm.size_eq
theorem Bas.put {st : SortSt} (b : Bas z st) {xs : Array Keyed} (h : xs.Perm (arrOf st)) : Bas z (setArr st xs) := ⟨h.trans b.pm, b.kd, b.fl, b.pd⟩
/-- two keys of the array may be compared -/
def Can (prog : Program) (w : World) (A : Around) (s : Shared) (key : Value → Int × Int) (z : Array Keyed) : Prop :=
  ∀ r ∈ z.toList, ∀ o ∈ z.toList, ∀ (E : Value → Shared → Prop) (Q : Bool → Shared → Prop), Q (less (key r.1) (key o.1)) s → wpAny (model prog w) A (keyLt' (tuples' true) r.1 o.1) Q E s
theorem Bas.get {st : SortSt} (b : Bas z st) {i : Nat} (hi : i < z.size) : ∃ r ∈ z.toList, (arrOf st)[i]? = some r ∧ kp key (arrOf st) i = key r.1 := by
  have hi2 : i < (arrOf st).size := by rw [b.sz]; exact hi
  refine ⟨(arrOf st)[i], (Array.perm_iff_toList_perm.mp b.pm).mem_iff.mp (by simp), getElem?_pos _ i hi2, ?_⟩
  unfold kp
  rw [getElem?_pos _ i hi2]
  rfl
theorem cmp {st : SortSt} {i j : Nat} {Q : Option Bool → SortSt → Prop} (C : Can prog w A s key z) (b : Bas z st) (hi : i < z.size) (hj : j < z.size)
    (h : Q (some (less (kp key (arrOf st) i) (kp key (arrOf st) j))) st) : wpS (model prog w) A E s (ltAt' i j) Q st := by
  obtain ⟨r, hr, e1, k1⟩ := b.get (key := key) hi
  obtain ⟨o, ho, e2, k2⟩ := b.get (key := key) hj
  rw [k1, k2] at h
  rw [ltAt'_eq]
  refine wpS_bind (wpS_get ?_)
  show wpS _ _ _ _ (do let u ← elem' (arrOf st) i; let v ← elem' (arrOf st) j; lt' u v) Q st
  rw [elem'_eq, elem'_eq, e1, e2]
  refine wpS_bind (wpS_pure (wpS_bind (wpS_pure ?_)))
  rw [lt'_eq]
  refine wpS_bind (wpS_get ?_)
  rw [b.kd]
  refine wpS_bind (wpS_lift (wpAny_attempt (C r hr o ho _ _ ?_)))
  exact ⟨rfl, wpS_pure h⟩
theorem kp_turn {xs : Array Keyed} {i j : Nat} (hj : j ≤ xs.size) (k : Nat) : kp key (mirror xs i j ((j - i) / 2)) k = if i ≤ k ∧ k < j then kp key xs (i + j - 1 - k) else kp key xs k := by
  have e := getElem?_mirror_all (i := i) hj k
  split at e
  · rename_i c; rw [if_pos c]; exact kp_of e
  · rename_i c; rw [if_neg c]; exact kp_of e
/-- alike keys turned about stay alike -/
theorem kp_alike {xs : Array Keyed} {i j : Nat} (hj : j ≤ xs.size) (g : ∀ k, i ≤ k → k < j → kp key xs k = kp key xs (j - 1)) (k : Nat) : kp key (mirror xs i j ((j - i) / 2)) k = kp key xs k := by
  rw [kp_turn hj]
  by_cases c : i ≤ k ∧ k < j
  · rw [if_pos c, g _ (by omega) (by omega), g k c.1 c.2]
  · rw [if_neg c]
theorem Up.more {xs : Array Keyed} {n : Nat} (h : Up key xs n) (g : n = 0 ∨ Le (kp key xs (n - 1)) (kp key xs n)) : Up key xs (n + 1) := by
  intro i j ij hj
  by_cases c : j < n
  · exact h i j ij c
  · have e : j = n := by omega
    subst e
    by_cases d : i = j
    · subst d; exact Le.rfl' _
    · exact (h i (j - 1) (by omega) (by omega)).tr (g.resolve_left (by omega))
theorem Dn.more {xs : Array Keyed} {n : Nat} (h : Dn key xs n) (g : n = 0 ∨ Le (kp key xs n) (kp key xs (n - 1))) : Dn key xs (n + 1) := by
  intro i j ij hj
  by_cases c : j < n
  · exact h i j ij c
  · have e : j = n := by omega
    subst e
    by_cases d : i = j
    · subst d; exact Le.rfl' _
    · exact (g.resolve_left (by omega)).tr (h i (j - 1) (by omega) (by omega))
theorem Dn.eqv {xs ys : Array Keyed} {n : Nat} (h : Dn key xs n) (g : ∀ k, kp key ys k = kp key xs k) : Dn key ys n := fun i j ij hj => by rw [g, g]; exact h i j ij hj
theorem Up.one (xs : Array Keyed) : Up key xs 1 := fun i j ij hj => by
  have : i = j := by omega
  subst this
  exact Le.rfl' _
theorem rising {st : SortSt} {a n : Nat} {Q : AscSt → SortSt → Prop} (C : Can prog w A s key z) (hn : n ≤ z.size) (ha : 1 ≤ a) (an : a ≤ n) (b : Bas z st) (u : Up key (arrOf st) a)
    (h : ∀ m, a ≤ m → m ≤ n → Up key (arrOf st) m → (m = n ∨ ¬ Le (kp key (arrOf st) (m - 1)) (kp key (arrOf st) m)) → Q (none, m) st) : wpS (model prog w) A E s (ascLoop a n) Q st := by
  unfold ascLoop
  refine wpS_forRange (I := fun x c t => t = st ∧ c = (none, x) ∧ Up key (arrOf st) x) ?turn ?out ⟨rfl, rfl, u⟩
  case out =>
    rintro c t ⟨rfl, rfl, u'⟩
    have e : max a n = n := by omega
    rw [e] at u' ⊢
    exact h n an (Nat.le_refl _) u' (.inl rfl)
  case turn =>
    rintro x c t ax xn ⟨rfl, rfl, u'⟩
    dsimp only
    refine wpS_bind (cmp C b (by omega) (by omega) ?_)
    cases e : less (kp key (arrOf t) x) (kp key (arrOf t) (x - 1)) with
    | true =>
      simp only [if_true]
      exact wpS_pure (h x ax (by omega) u' (.inr (less_t e)))
    | false =>
      simp only [Bool.false_eq_true, if_false]
      exact wpS_pure ⟨rfl, rfl, u'.more (.inr (less_f e))⟩
theorem turned {st : SortSt} {m n : Nat} {Q : Option Nat → SortSt → Prop} (C : Can prog w A s key z) (hn : n ≤ z.size) (h1 : 1 ≤ m) (mn : m ≤ n) (b : Bas z st) (d : Dn key (arrOf st) m)
    (h : ∀ k t, Bas z t → 1 ≤ k → k ≤ n → Up key (arrOf t) k → Q (some k) t) : wpS (model prog w) A E s (tail3 m n) Q st := by
  unfold tail3
  have hs : m ≤ (arrOf st).size := by rw [b.sz]; omega
  refine wpS_bind (wpS_reverse ?_)
  have b' := b.put (mirror_perm (arrOf st) 0 m ((m - 0) / 2))
  refine wpS_bind (rising C hn h1 mn b' (fun i j ij hj => ?_) fun k k1 k2 u _ => wpS_pure (h k _ b' (by omega) k2 u))
  show Le (kp key (mirror (arrOf st) 0 m ((m - 0) / 2)) i) (kp key (mirror (arrOf st) 0 m ((m - 0) / 2)) j)
  rw [kp_turn hs, kp_turn hs, if_pos ⟨by omega, by omega⟩, if_pos ⟨by omega, by omega⟩]
  exact d _ _ (by omega) (by omega)
/-- the last e + 1 keys below m are alike -/
def Tail (key : Value → Int × Int) (xs : Array Keyed) (m e : Nat) : Prop := e + 1 ≤ m ∧ ∀ k, m - (e + 1) ≤ k → k < m → kp key xs k = kp key xs (m - 1)
theorem Tail.none {xs : Array Keyed} {m : Nat} (h : 1 ≤ m) : Tail key xs m 0 := ⟨h, fun k a b => by congr 1; omega⟩
theorem falling {st : SortSt} {m n : Nat} {Q : DescSt → SortSt → Prop} (C : Can prog w A s key z) (hn : n ≤ z.size) (h1 : 1 ≤ m) (mn : m ≤ n) (b : Bas z st) (d : Dn key (arrOf st) m)
    (h : ∀ k e t, Bas z t → m ≤ k → k ≤ n → Dn key (arrOf t) k → Tail key (arrOf t) k e → Q (none, k, e) t) : wpS (model prog w) A E s (descLoop m n) Q st := by
  unfold descLoop
  refine wpS_forRange (I := fun x c t => ∃ e, c = (none, x, e) ∧ Bas z t ∧ Dn key (arrOf t) x ∧ Tail key (arrOf t) x e) ?turn ?out ⟨0, rfl, b, d, .none h1⟩
  case out =>
    rintro c t ⟨e, rfl, b', d', g⟩
    have q : max m n = n := by omega
    rw [q] at d' g ⊢
    exact h n e t b' mn (Nat.le_refl _) d' g
  case turn =>
    rintro x c t mx xn ⟨e, rfl, b', d', g⟩
    dsimp only
    have hs : x ≤ (arrOf t).size := by rw [b'.sz]; omega
    refine wpS_bind (cmp C b' (by omega) (by omega) ?_)
    cases q : less (kp key (arrOf t) x) (kp key (arrOf t) (x - 1)) with
    | true =>
      simp only [if_true]
      have d2 : Dn key (arrOf t) (x + 1) := d'.more (.inr (Le.of_not (less_t q)))
      by_cases c : e > 0
      · rw [if_pos c]
        exact wpS_bind (wpS_reverse (wpS_pure ⟨0, rfl, b'.put (mirror_perm _ _ _ _), d2.eqv (kp_alike hs g.2), .none (by omega)⟩))
      · rw [if_neg c]
        exact wpS_pure ⟨0, rfl, b', d2, .none (by omega)⟩
    | false =>
      simp only [Bool.false_eq_true, if_false]
      refine wpS_bind (cmp C b' (by omega) (by omega) ?_)
      cases q2 : less (kp key (arrOf t) (x - 1)) (kp key (arrOf t) x) with
      | true =>
        simp only [if_true]
        exact wpS_pure (h x e t b' mx (by omega) d' g)
      | false =>
        simp only [Bool.false_eq_true, if_false]
        have al : kp key (arrOf t) x = kp key (arrOf t) (x - 1) := Le.anti (less_f q2) (less_f q)
        refine wpS_pure ⟨e + 1, rfl, b', d'.more (.inr (less_f q2)), by have := g.1; omega, fun k a c => ?_⟩
        show kp key (arrOf t) k = kp key (arrOf t) x
        by_cases f : k = x
        · rw [f]
        · rw [al]; exact g.2 k (by omega) (by omega)
theorem down_part {st : SortSt} {m n : Nat} {Q : Option Nat → SortSt → Prop} (C : Can prog w A s key z) (hn : n ≤ z.size) (mn : m + 1 ≤ n) (b : Bas z st) (d : Dn key (arrOf st) (m + 1))
    (h : ∀ k t, Bas z t → 1 ≤ k → k ≤ n → Up key (arrOf t) k → Q (some k) t) : wpS (model prog w) A E s (descPart m n) Q st := by
  unfold descPart
  refine wpS_bind (wpS_lift (wpAny_rule ⟨rfl, ?_⟩))
  refine wpS_bind (falling C hn (by omega) mn b d fun k e t b' mk kn d' g => ?_)
  dsimp only
  have hs : k ≤ (arrOf t).size := by rw [b'.sz]; omega
  by_cases c : e > 0
  · rw [if_pos c]
    exact wpS_bind (wpS_reverse (turned C hn (by omega) kn (b'.put (mirror_perm _ _ _ _)) (d'.eqv (kp_alike hs g.2)) h))
  · rw [if_neg c]
    exact turned C hn (by omega) kn b' d' h
theorem first_run {st : SortSt} {n : Nat} {Q : Option Nat → SortSt → Prop} (C : Can prog w A s key z) (hn : n ≤ z.size) (h1 : 1 ≤ n) (b : Bas z st)
    (h : ∀ k t, Bas z t → 1 ≤ k → k ≤ n → Up key (arrOf t) k → Q (some k) t) : wpS (model prog w) A E s (countRun' 0 n) Q st := by
  rw [countRun0_eq]
  refine wpS_bind (rising C hn (Nat.le_refl 1) h1 b (Up.one _) fun m m1 mn u g => ?_)
  dsimp only
  by_cases c : m = n
  · rw [if_pos (by simpa using c)]
    exact wpS_pure (h m st b m1 mn u)
  · rw [if_neg (by simpa using c)]
    have g' := g.resolve_left c
    by_cases c2 : m > 1
    · rw [if_pos c2]
      refine wpS_bind (cmp C b (by omega) (by omega) ?_)
      cases q : less (kp key (arrOf st) 0) (kp key (arrOf st) (m - 1)) with
      | true =>
        simp only [if_true]
        exact wpS_pure (h m st b m1 mn u)
      | false =>
        simp only [Bool.false_eq_true, if_false]
        have hs : m ≤ (arrOf st).size := by rw [b.sz]; omega
        have al : ∀ k, 0 ≤ k → k < m → kp key (arrOf st) k = kp key (arrOf st) (m - 1) := fun k _ km => Le.anti (u k (m - 1) (by omega) (by omega)) ((less_f q).tr (u 0 k (by omega) km))
        have d : Dn key (arrOf st) m := fun i j ij hj => by rw [al i (by omega) (by omega), al j (by omega) hj]; exact Le.rfl' _
        exact wpS_bind (wpS_reverse (down_part C hn (by omega) (b.put (mirror_perm _ _ _ _)) ((d.more (.inr (Le.of_not g'))).eqv (kp_alike hs al)) h))
    · rw [if_neg c2]
      have e : m = 1 := by omega
      subst e
      exact down_part C hn (by omega) b (Dn.more (fun i j ij hj => by
        have : i = j := by omega
        subst this
        exact Le.rfl' _) (.inr (Le.of_not g'))) h
theorem kp_sink {xs : Array Keyed} {k d : Nat} (hk : k < xs.size) (hd : d ≤ k) (i : Nat) : kp key (bubble xs k d) i = if i = k - d then kp key xs k else if k - d < i ∧ i ≤ k then kp key xs (i - 1) else kp key xs i := by
  have e := getElem?_bubble hk d hd i
  split at e
  · rename_i c; rw [if_pos c]; exact kp_of e
  · rename_i c
    rw [if_neg c]
    split at e
    · rename_i c2; rw [if_pos c2]; exact kp_of e
    · rename_i c2; rw [if_neg c2]; exact kp_of e
/-- where the key of k belongs among the keys ahead of it -/
def Gap (key : Value → Int × Int) (xs : Array Keyed) (k l r : Nat) : Prop := l ≤ r ∧ r ≤ k ∧ (∀ i, i < l → Le (kp key xs i) (kp key xs k)) ∧ ∀ i, r ≤ i → i < k → ¬ Le (kp key xs i) (kp key xs k)
theorem Gap.sunk {xs : Array Keyed} {k l : Nat} (hk : k < xs.size) (u : Up key xs k) (g : Gap key xs k l l) : Up key (bubble xs k (k - l)) (k + 1) := by
  obtain ⟨_, lk, lo, hi⟩ := g
  intro i j ij hj
  rw [kp_sink hk (by omega), kp_sink hk (by omega), show k - (k - l) = l by omega]
  by_cases ci : i = l
  · rw [if_pos ci]
    by_cases cj : j = l
    · rw [if_pos cj]; exact Le.rfl' _
    · rw [if_neg cj, if_pos ⟨by omega, by omega⟩]
      exact Le.of_not (hi _ (by omega) (by omega))
  · rw [if_neg ci]
    by_cases ci2 : l < i ∧ i ≤ k
    · rw [if_pos ci2, if_neg (by omega), if_pos ⟨by omega, by omega⟩]
      exact u _ _ (by omega) (by omega)
    · rw [if_neg ci2]
      by_cases cj : j = l
      · rw [if_pos cj]; exact lo i (by omega)
      · rw [if_neg cj]
        by_cases cj2 : l < j ∧ j ≤ k
        · rw [if_pos cj2]; exact u _ _ (by omega) (by omega)
        · rw [if_neg cj2]; exact u _ _ ij (by omega)
theorem placed {st : SortSt} {n a : Nat} {Q : Bool → SortSt → Prop} (C : Can prog w A s key z) (hn : n ≤ z.size) (an : a ≤ n) (b : Bas z st) (u : Up key (arrOf st) a)
    (h : ∀ t, Bas z t → Up key (arrOf t) n → Q true t) : wpS (model prog w) A E s (binarySort' 0 n a) Q st := by
  rw [binarySort'_eq]
  simp only [Nat.zero_add]
  refine wpS_bind (wpS_mono (wpS_forRange (I := fun k c t => c = (none, ()) ∧ Bas z t ∧ Up key (arrOf t) (min k n)) (Q := fun c t => c = (none, ()) ∧ Bas z t ∧ Up key (arrOf t) n) ?turn ?out ?ini) ?aft)
  case aft =>
    rintro c t ⟨rfl, b', u'⟩
    exact wpS_pure (h t b' u')
  case ini =>
    refine ⟨rfl, b, fun i j ij hj => ?_⟩
    by_cases c : a = 0
    · have : i = j := by omega
      subst this
      exact Le.rfl' _
    · exact u i j ij (by omega)
  case out =>
    rintro c t ⟨e, b', u'⟩
    have q : min (max (max a 1) n) n = n := by omega
    rw [q] at u'
    exact ⟨e, b', u'⟩
  case turn =>
    rintro k c t ak kn ⟨rfl, b', u'⟩
    have q : min k n = k := by omega
    rw [q] at u'
    refine wpS_bind (wpS_mono (wpS_forRange (I := fun x c t' => t' = t ∧ ∃ l r, c = (none, l, r) ∧ Gap key (arrOf t) k l r ∧ r - l ≤ k - x) (Q := fun c t' => t' = t ∧ ∃ l, ∃ r : Nat, c = (none, l, r) ∧ Gap key (arrOf t) k l l) ?turn2 ?out2 ⟨rfl, 0, k, rfl, ⟨by omega, by omega, fun i hi => by omega, fun i h1 h2 => by omega⟩, by omega⟩) ?aft2)
    case out2 =>
      rintro c t' ⟨rfl, l, r, rfl, g, f⟩
      have e : r = l := by have := g.1; omega
      subst e
      exact ⟨rfl, r, r, rfl, g⟩
    case turn2 =>
      rintro x c t' _ xk ⟨rfl, l, r, rfl, g, f⟩
      dsimp only
      have g1 := g.1
      have g2 := g.2.1
      by_cases c : l ≥ r
      · rw [if_pos c]
        have e : r = l := by omega
        subst e
        exact wpS_pure ⟨rfl, r, r, rfl, g⟩
      · rw [if_neg c]
        refine wpS_bind (cmp C b' (by omega) (by omega) ?_)
        cases e : less (kp key (arrOf t') k) (kp key (arrOf t') ((l + r) / 2)) with
        | true =>
          simp only [if_true]
          refine wpS_pure ⟨rfl, l, (l + r) / 2, rfl, ⟨by omega, by omega, g.2.2.1, fun i h1 h2 h3 => ?_⟩, by omega⟩
          exact less_t e ((u' ((l + r) / 2) i h1 h2).tr h3)
        | false =>
          simp only [Bool.false_eq_true, if_false]
          refine wpS_pure ⟨rfl, (l + r) / 2 + 1, r, rfl, ⟨by omega, by omega, fun i hi => ?_, g.2.2.2⟩, by omega⟩
          exact (u' i ((l + r) / 2) (by omega) (by omega)).tr (less_f e)
    case aft2 =>
      rintro c t' ⟨rfl, l, r, rfl, g⟩
      show wpS _ _ _ _ (do moveDown' k l; pure (ForInStep.yield (none, ()))) _ _
      rw [moveDown'_eq]
      refine wpS_bind (wpS_modify (wpS_pure ⟨rfl, b'.put (bubble_perm _ _ _), ?_⟩))
      rw [show min (k + 1) n = k + 1 by omega]
      exact g.sunk (by rw [b'.sz]; omega) u'
/-- all is one run -/
def Fin1 (key : Value → Int × Int) (z : Array Keyed) (st : SortSt) : Prop := (arrOf st).Perm z ∧ failedOf st = none ∧ pendingOf st = #[(0, z.size, 0)] ∧ Up key (arrOf st) z.size
theorem Bas.fin {st : SortSt} (b : Bas z st) (u : Up key (arrOf st) z.size) : Fin1 key z (setPending st ((pendingOf st).push (0, z.size, 0))) := by
  refine ⟨b.pm, b.fl, ?_, u⟩
  show (pendingOf st).push _ = _
  rw [b.pd]
  rfl
theorem runs {st : SortSt} {Q : Unit → SortSt → Prop} (C : Can prog w A s key z) (b : Bas z st) (h2 : 2 ≤ z.size) (h64 : z.size < 64)
    (h : ∀ t, (arrOf t).Perm z → failedOf t = none → Up key (arrOf t) z.size → Q () t) : wpS (model prog w) A E s sortRuns' Q st := by
  rw [sortRuns'_eq]
  refine wpS_bind (wpS_get ?_)
  dsimp only
  have mr : minRun' z.size z.size 0 = z.size := by
    cases e : z.size with
    | zero => omega
    | succ f => rw [minRun'_succ, if_pos (by omega)]
  simp only [b.sz, mr]
  refine wpS_bind (wpS_mono (wpS_forRange (I := fun x c t => (x = 0 ∧ c = (none, 0) ∧ Bas z t) ∨ (1 ≤ x ∧ c = (none, z.size) ∧ Fin1 key z t)) (Q := fun c t => c = (none, z.size) ∧ Fin1 key z t) ?turn ?out (.inl ⟨rfl, rfl, b⟩)) ?aft)
  case out =>
    rintro c t (⟨x0, _, _⟩ | ⟨_, e, f⟩)
    · omega
    · exact ⟨e, f⟩
  case turn =>
    rintro x c t _ xn (⟨rfl, rfl, b'⟩ | ⟨x1, rfl, f⟩)
    · dsimp only
      rw [if_neg (by omega)]
      simp only [Nat.sub_zero, Nat.min_self, Nat.zero_add]
      refine wpS_bind (first_run C (Nat.le_refl _) (by omega) b' fun m t2 b2 m1 mn u2 => ?_)
      dsimp only
      have last : ∀ t3 : SortSt, Bas z t3 → Up key (arrOf t3) z.size → (pendingOf t3).back? = none ∧ Fin1 key z (setPending t3 ((pendingOf t3).push (0, z.size, 0))) := fun t3 b3 u3 => ⟨by rw [b3.pd]; rfl, b3.fin u3⟩
      by_cases c : m < z.size
      · rw [if_pos c]
        refine wpS_bind (wpS_lift (wpAny_rule ⟨rfl, ?_⟩))
        refine wpS_bind (placed C (Nat.le_refl _) mn b2 u2 fun t3 b3 u3 => ?_)
        simp only [Bool.not_true, Bool.false_eq_true, if_false]
        refine wpS_bind (wpS_get ?_)
        rw [(last t3 b3 u3).1]
        dsimp only
        exact wpS_bind (wpS_modify (wpS_pure (.inr ⟨by omega, rfl, (last t3 b3 u3).2⟩)))
      · rw [if_neg c]
        have e : m = z.size := by omega
        subst e
        refine wpS_bind (wpS_get ?_)
        rw [(last t2 b2 u2).1]
        dsimp only
        exact wpS_bind (wpS_modify (wpS_pure (.inr ⟨by omega, rfl, (last t2 b2 u2).2⟩)))
    · dsimp only
      rw [if_pos (Nat.le_refl _)]
      exact wpS_pure ⟨rfl, f⟩
  case aft =>
    rintro c t ⟨rfl, f⟩
    dsimp only
    refine wpS_bind (wpS_mono (wpS_forRange (I := fun _ c t' => t' = t ∧ c = (none, ())) (Q := fun c t' => t' = t ∧ c = (none, ())) ?_ (fun _ _ e => e) ⟨rfl, rfl⟩) ?_)
    · rintro x c t' _ _ ⟨rfl, rfl⟩
      refine wpS_bind (wpS_get ?_)
      rw [if_pos (by rw [f.2.2.1]; exact Nat.le_refl 1)]
      exact wpS_pure ⟨rfl, rfl⟩
    · rintro c t' ⟨rfl, rfl⟩
      exact wpS_pure (h _ f.1 f.2.1 f.2.2.2)
/-! list.sort and sorted -/
/-- values side by side with pairs -/
abbrev Prs (h : Heap) : List Value → List (Int × Int) → Prop := Paired (PairIn h)
theorem PairIn.inj {h : Heap} {v : Value} {p q : Int × Int} (a : PairIn h v p) (b : PairIn h v q) : p = q := by
  obtain ⟨x, t1, t2, rfl, o, h1, _, n, h3⟩ := a
  obtain ⟨y, u1, u2, e, o', g1, _, m, g3⟩ := b
  cases e
  rw [h1] at g1
  cases g1
  rw [h3] at g3
  injection g3 with g4 _
  have g5 := congrArg Array.toList g4
  injection g5 with g6 g7
  injection g7 with g8 _
  injection g6 with g9 _
  injection g8 with g10 _
  exact Prod.ext g9 g10
open Classical in
theorem PairIn.keep {h h' : Heap} {v : Value} {p : Int × Int} (a : PairIn h v p) (k : ∀ b o, o.cls = .type "tuple" → h.get? b = some o → h'.get? b = some o) : PairIn h' v p := by
  obtain ⟨x, t1, t2, e, o, h1, h2, r⟩ := a
  exact ⟨x, t1, t2, e, o, k x o h2 h1, h2, r⟩
theorem Prs.mem {h : Heap} : ∀ {vs : List Value} {ps : List (Int × Int)} {v : Value}, Prs h vs ps → v ∈ vs → ∃ p, PairIn h v p
  | _, _, _, .nil, m => by cases m
  | _, _, _, .cons a r, m => by
    rcases List.mem_cons.mp m with e | e
    · exact ⟨_, by rw [e]; exact a⟩
    · exact Prs.mem r e
end
end InkS

namespace Ink
open PySem PySem.Spec PyProof.Rows L2 InkX InkE InkF InkS
/-! ### sorted of a row, as a call -/
end Ink

namespace Ink
open PySem PySem.Spec PyProof.Rows L2 InkX InkE InkF InkS
/-! ### rows as sets of addresses -/
def In (r : Row) (x : Int) : Prop := ∃ p ∈ r, p.1 ≤ x ∧ x < p.2
def Ok (r : Row) : Prop := ∀ p ∈ r, p.1 ≤ p.2
/-- rising, with gaps between -/
def Ris (r : Row) : Prop := r.Pairwise (fun p q => p.2 < q.1) ∧ ∀ p ∈ r, p.1 < p.2
theorem Ris.ok {r : Row} (h : Ris r) : Ok r := fun p hp => Int.le_of_lt (h.2 p hp)
/-! spread -/
end Ink

namespace Ink
open PySem PySem.Spec PyProof.Rows L2 InkX InkE InkF InkS
/-! ### how many addresses two rows have -/
/-! ### a stretch without holes -/
def lo (b : Int) : Int → Row → Row
  | l, [] => [(l, b)]
  | l, p :: r => if p.1 < b then (l, if p.1 > l then p.1 else l) :: lo b (if b < p.2 then b else p.2) r else [(l, b)]
/-- the first hole that stops behind x -/
def Fst (holes : Row) (x : Int) (n : Nat) : Prop := n ≤ holes.length ∧ (∀ i p, holes[i]? = some p → i < n → p.2 ≤ x) ∧ ∀ i p, holes[i]? = some p → n ≤ i → x < p.2
theorem Fst.drop {holes : Row} {x : Int} {n : Nat} (h : Fst holes x n) : (∀ p ∈ holes.drop n, x < p.2) ∧ ∀ y, x ≤ y → (In holes y ↔ In (holes.drop n) y) := by
  refine ⟨fun p hp => ?_, fun y hy => ⟨fun z => ?_, fun z => ?_⟩⟩
  · obtain ⟨i, hi⟩ := List.getElem?_of_mem hp
    rw [List.getElem?_drop] at hi
    exact h.2.2 _ p hi (by omega)
  · obtain ⟨p, hp, a, b⟩ := z
    obtain ⟨i, hi⟩ := List.getElem?_of_mem hp
    by_cases c : i < n
    · have := h.2.1 i p hi c
      omega
    · refine ⟨p, List.mem_of_getElem? (i := i - n) ?_, a, b⟩
      rw [List.getElem?_drop, show n + (i - n) = i by omega]
      exact hi
  · obtain ⟨p, hp, q⟩ := z
    exact ⟨p, List.mem_of_mem_drop hp, q⟩
theorem Ris.drop {r : Row} (h : Ris r) (n : Nat) : Ris (r.drop n) := ⟨h.1.drop, fun p hp => h.2 p (List.mem_of_mem_drop hp)⟩
end Ink

namespace Ink
open PySem PySem.Spec PyProof.Rows L2 InkX InkE InkF InkP
/-! ### the program's classes -/
structure MetAt (K : PySem.W.Frag) (C : Addr) (m qual : Str) (st : Stmt) (ps : List Str) (a : Addr) (d : FuncData) : Prop where
  F : Fun K m qual st a d
  b : Binds K d ps []
  mt : Meth K C m a
structure ClsAt (K : PySem.W.Frag) (mg : Str → Option Value) (x : Str) (C fi : Addr) : Prop where
  cl : Cls K C
  m : mg x = some (.ref C)
  mak : Mk K C fi
theorem RowAt.obj {H H' : Hp} {r x C d : Addr} {row : Row} {fs : List (Str × V)} (h : RowAt H r row) (hx : H x = some (.ins C d fs)) (s : Keep x H H') : RowAt H' r row := by
  obtain ⟨as, h1, h2⟩ := h
  exact ⟨as, s _ _ h1 (ne_of h1 hx (by intro z; cases z)), h2.tups fun a ys e => s a _ e (ne_of e hx (by intro z; cases z))⟩
end Ink

namespace InkX
open PySem PySem.Spec PyProof.Rows L2
/-! ### a dict that is walked: its record is known while it is so -/
theorem paired_get {α β : Type} {F : α → β → Prop} : ∀ {xs : List α} {ys : List β} {i : Nat} {x : α}, Paired F xs ys → xs[i]? = some x → ∃ y, ys[i]? = some y ∧ F x y
  | _, _, _, _, .nil, e => by simp at e
  | _, _, 0, _, .cons r _, e => by simp at e; subst e; exact ⟨_, rfl, r⟩
  | _, _, i + 1, x, .cons _ t, e => by
    obtain ⟨y, h1, h2⟩ := paired_get (i := i) (x := x) t (by simpa using e)
    exact ⟨y, by simpa using h1, h2⟩
theorem paired_get' {α β : Type} {F : α → β → Prop} : ∀ {xs : List α} {ys : List β} {i : Nat} {y : β}, Paired F xs ys → ys[i]? = some y → ∃ x, xs[i]? = some x ∧ F x y
  | _, _, _, _, .nil, e => by simp at e
  | _, _, 0, _, .cons r _, e => by simp at e; subst e; exact ⟨_, rfl, r⟩
  | _, _, i + 1, y, .cons _ t, e => by
    obtain ⟨x, h1, h2⟩ := paired_get' (i := i) (y := y) t (by simpa using e)
    exact ⟨x, by simpa using h1, h2⟩
section
variable {X : Cx} {pins : List (Addr × Obj)} {σ : L2.St} {H : Hp} {s : Shared} {a : Addr} {o : Obj} {kvs : List (Key × V)}
end
section
variable {X : Cx} {tg : Expr}
end
/-! ### sorted of ints -/
/-! ### d.values(), and its sum -/
section
variable {X : Cx} {N : List Str} {scope : Scope} {cl : List (Str × Addr)} {C : Addr} {s₀ : Shared} {H₀ : Hp} {ex : List Addr} {pn : List (Addr × Obj)} {e : Expr} {ta : TE} {f : Str} {pos : Pos}
end
end InkX

namespace InkX
open PySem PySem.Spec PyProof.Rows L2 Ink InkF
/-! ### a list walked with its places -/
def Ite (K : PySem.W.Frag) (a : Addr) : It :=
  ⟨fun i H => ∃ xs x, SqL K H a xs ∧ xs[i]? = some x, fun i H v H' => ∃ p x, H p = none ∧ v = .ref p ∧ H' = upd H p (.tup [.int i, x]) ∧ ∀ xs, SqL K H a xs → xs[i]? = some x, fun i H => ∃ xs, SqL K H a xs ∧ xs.length ≤ i⟩
theorem turn_enum {P : Program} {w : World} {K : PySem.W.Frag} {elts : List Expr} {x1 : Nat} {tpos : Pos} (a e it : Addr) (ne : e ≠ it) : Turn P w K (.Tuple elts x1 tpos) (Ite K a) [e, it] e (fun i h => ∃ old, IsEnum h e it i old ∧ h.IsListIter it a i) where
  mem := by simp
  obj := fun i h st b hb => by
    obtain ⟨old, he, o, ho, c, d⟩ := st
    simp only [List.mem_cons, List.not_mem_nil, or_false] at hb
    rcases hb with rfl | rfl
    · exact ⟨_, he, fun v z => by cases z⟩
    · exact ⟨o, ho, fun v z => by rw [d] at z; cases z⟩
  keep := fun i h h' st k => by
    obtain ⟨old, he, hit⟩ := st
    exact ⟨old, k e (by simp) _ he, hit.at fun o x => k it (by simp) o x⟩
  item := by
    intro X hP hw hK hc i pins s σ H E I hf st hg
    subst hP hw hK
    obtain ⟨xs, x, hq, hx⟩ := hg
    obtain ⟨old, he, hit⟩ := st
    obtain ⟨its, rv, p, hz⟩ := I.list hq
    obtain ⟨u, hu, ru⟩ := rv.get hx
    obtain ⟨oi, hoi, _⟩ := id hit
    refine wpAny_pyNext_enum_item he hit p.isList (x := u) (by simpa using hu) ne fun h' heo hit' ht hz' hk => ?_
    refine ⟨_, rfl, wpAny_letOwnedTupleGo_enum heo fun h2 he2 hs2 => ?_⟩
    have c2 := hs2.extBut
    have nE : s.heap.objs.size ≠ e := Nat.ne_of_gt (Heap.lt_size he)
    have k2 : ∀ b o, b ∉ [e, it] → s.heap.get? b = some o → h2.get? b = some o := fun b o hb ho => by
      simp only [List.mem_cons, List.not_mem_nil, or_false, not_or] at hb
      exact c2 _ _ hb.1 (hk b o hb.1 hb.2 ho)
    have I2 : Inv X pins σ (upd H s.heap.objs.size (.tup [.int i, x])) { s with heap := h2, toks := s.toks + 1 } :=
      adopt I k2 hf (Nat.le_refl _) (by show 2 ≤ sizeLine; decide) (.cons ⟨s.toks, rfl⟩ (.cons ru .nil)) ⟨_, c2 _ _ nE ht, rfl, _, rfl⟩
    refine ⟨.ref s.heap.objs.size, _, I2, rfl, ⟨_, x, I.hok.fresh (Nat.le_refl _), rfl, rfl, fun ys q => by rw [I.list_inj q hq]; exact hx⟩, ⟨u, he2, hit'.at fun o x => c2 _ _ ne.symm x⟩, fun b hb => ?_⟩
    have nb : b ≠ s.heap.objs.size := by
      simp only [List.mem_cons, List.not_mem_nil, or_false] at hb
      rcases hb with rfl | rfl
      · exact nE.symm
      · exact Nat.ne_of_lt (Heap.lt_size hoi)
    rw [upd_ne nb]
    exact (hf b hb).1
  done := by
    intro X hP hw hK hc i pins s σ H E I hf st hg
    subst hP hw hK
    obtain ⟨xs, hq, hx⟩ := hg
    obtain ⟨old, he, hit⟩ := st
    obtain ⟨its, rv, p, hz⟩ := I.list hq
    have hl := rv.length
    refine wpAny_pyNext_enum_end (I.ok.hd hc) he hit p.isList (by simp; omega) fun h' kk => ⟨rfl, turnedN (t' := s.toks) (ch := [e, it]) I (fun b o hb x => ?_) hf⟩
    simp only [List.mem_cons, List.not_mem_nil, or_false, not_or] at hb
    exact kk b o hb.2 x
  self := fun _ _ _ _ _ ⟨_, he, _⟩ h => wpAny_pyIter_enum he h
theorem boot_enum : bootBuiltins "enumerate" = some (.type "enumerate") := by decide +kernel
def iEnum (K : PySem.W.Frag) (ta : TA) : TI := fun σ H R => ta σ H fun vs H1 => ∃ (a : Addr) (xs : List V), vs = [.ref a] ∧ SqL K H1 a xs ∧ R (Ite K a) H1
theorem pi_enum {X : Cx} {elts : List Expr} {x1 : Nat} {tpos : Pos} {a : Expr} {ta : TA} {p pos : Pos} (hg : Gl X "enumerate") (hm : X.mg "enumerate" = none) (ha : PA X [a] ta) (hs : starEach [a] X.env = [(false, eval a X.env)] := by rfl) :
    PI X (.Tuple elts x1 tpos) (.Call (.Name "enumerate" p) [a] [] pos) (iEnum X.K ta) := by
  intro pins s σ H R I h
  refine Call_ (ld_blt I hg hm boot_enum (PyProof.Rows.callWith_type1 (thn (ha pos pins s σ H _ I h) fun us s1 ⟨vs, H1, I1, r1, q1⟩ => ?_) hs rfl))
  obtain ⟨l, xs, e, hq, q⟩ := q1
  subst e
  obtain ⟨u, rfl, rx⟩ := r1.one
  cases (show u = Value.ref l from rx)
  obtain ⟨its, rv, pl, hz⟩ := I1.list hq
  refine call_enumerate_list pl.isList fun h' he hit hsz hk => wpAny_pyIter_enum he ?_
  have I2 : Inv X pins σ H1 { s1 with heap := h', toks := s1.toks } := I1.kept hk
  refine ⟨_, _, _, _, H1, rfl, I2, turn_enum l _ _ (Nat.succ_ne_self _), ⟨_, he, hit⟩, fun b hb => ?_, q⟩
  have hb' : s1.heap.objs.size ≤ b := by
    simp only [List.mem_cons, List.not_mem_nil, or_false] at hb
    rcases hb with rfl | rfl
    · exact Nat.le_succ _
    · exact Nat.le_refl _
  exact I1.fpOk hb' (I1.hok.fresh hb')
theorem for_enum {K : PySem.W.Frag} {a : Addr} {xs : List V} {g : TG} {tb : TS} {D : Ends} {σ : L2.St} {H : Hp} (Pv : Nat → L2.St → Hp → Prop) (h0 : Pv 0 σ H) (hl : ∀ i σ H, i ≤ xs.length → Pv i σ H → SqL K H a xs)
    (hs : ∀ (i : Nat) x p σ H, xs[i]? = some x → H p = none → Pv i σ H → g (.ref p) σ (upd H p (.tup [.int i, x])) fun σ2 H2 => tb { D with nx := Pv (i + 1), ct := Pv (i + 1), bk := D.nx } σ2 H2) (hd : ∀ σ H, Pv xs.length σ H → D.nx σ H) :
    ∃ W : Nat → Nat → L2.St → Hp → Prop, (∃ m, W 0 m σ H) ∧ ∀ i m σ H, W i m σ H →
      ((Ite K a).stop i H ∧ D.nx σ H) ∨ ((Ite K a).go i H ∧ ∃ N : L2.St → Hp → Prop, (∀ σ' H', N σ' H' → ∃ m', m' < m ∧ W (i + 1) m' σ' H') ∧ ∀ x H', (Ite K a).yld i H x H' → g x σ H' fun σ2 H2 => tb { D with nx := N, ct := N, bk := D.nx } σ2 H2) := by
  refine ⟨fun i m σ H => m = xs.length - i ∧ i ≤ xs.length ∧ Pv i σ H, ⟨xs.length, by simp, Nat.zero_le _, h0⟩, ?_⟩
  rintro i m σ H ⟨rfl, hi, p⟩
  have q := hl i σ H hi p
  by_cases hlt : i < xs.length
  · refine .inr ⟨⟨xs, xs[i], q, by simp [hlt]⟩, Pv (i + 1), fun σ' H' p' => ⟨xs.length - (i + 1), by omega, rfl, hlt, p'⟩, fun x H' y => ?_⟩
    obtain ⟨b, x', hn', rfl, rfl, e1⟩ := y
    exact hs i x' b σ _ (e1 xs q) hn' p
  · have e : i = xs.length := by omega
    subst e
    exact .inl ⟨⟨xs, q, Nat.le_refl _⟩, hd σ H p⟩
/-! ### d.setdefault(k, x) -/
def tDSetd (td ty tx : TE) : TE := fun σ H Q => td σ H fun x H1 => ∃ a, x = .ref a ∧ IsD H1 a ∧ ty σ H1 fun y H2 => tx σ H2 fun z H3 => ∃ kvs k, H3 a = some (.dK kvs) ∧ y = kV k ∧ kvs.length < sizeLine ∧
  (∀ v, valV kvs k = some v → Q v H3) ∧ (valV kvs k = none → Q z (upd H3 a (.dK (putK kvs k z))))
theorem pe_dsetd {X : Cx} {o e f : Expr} {apos cpos : Pos} {td ty tx : TE} (ho : PE X o td) (he : PE X e ty) (hf : PE X f tx) (m : M2 X o "setdefault" apos e f cpos) : PE X (.Call (.Attribute o "setdefault" apos) [e, f] [] cpos) (tDSetd td ty tx) := by
  intro pins s σ H Q I h
  refine wpAny_Call_method m.base m.few m.line PySem.F.plainAttrs_dict PySem.F.slot_dict_setdefault PySem.F.type_dict_setdefault (thn (ho pins s σ H _ I h) fun u s1 ⟨x, H1, I1, rx, a, ex, d, q1⟩ => ?_)
  subst ex
  obtain rfl : u = Value.ref a := rx
  obtain ⟨t1, t2, _⟩ := isD_at I1 d
  refine ⟨t1, t2, ?_⟩
  rw [m.trees]
  refine Calls.callWith_builtin rfl (Calls.evalArgs_plain (Calls.spliced_cons (thn (he pins s1 σ H1 _ I1 q1) fun iv s2 ⟨y, H2, I2, ry, q2⟩ =>
    Calls.spliced_cons (thn (hf pins s2 σ H2 _ I2 q2) fun fv s3 ⟨z, H3, I3, rz, kvs, k, ea, ey, hlen, g1, g2⟩ => Calls.spliced_nil ?_))))
  subst ey
  obtain ⟨hz, hd, vs, rel, dd⟩ := dk_of I3.hok ea
  have len := rel.length
  refine call_meetsIn PySem.F.slot_dict_setdefault dd.typeIs PySem.F.entry_dict_setdefault (PySem.F.args_dict_setdefault_3 _ _ _) (kt_meets_setdefault (mixKind X.prog X.w) a (kV_is ry) hd fv) ⟨vs, dd, by omega, fun v hv => ?_, fun hn h' dd' hs => ?_⟩
  · have r := rel.val k
    rw [hv] at r
    cases ev : valV kvs k with
    | none => rw [ev] at r; exact (show False from r).elim
    | some w =>
      rw [ev] at r
      exact ⟨w, H3, I3.tok _, r, g1 w ev⟩
  · have r := rel.val k
    rw [hn] at r
    cases ev : valV kvs k with
    | some w => rw [ev] at r; exact (show False from r).elim
    | none =>
      have hl : (putK kvs k z).length ≤ sizeLine := by have := length_putK kvs k z; omega
      have he' : ∃ q, h'.get? a = some q := let ⟨q, _, _, hq, _⟩ := dd'; ⟨q, hq⟩
      exact ⟨z, _, d_write I3 (by rw [ea]; exact True.intro) hs he' (dk_new hl hd (rel.put k rz) dd'), rz, g2 ev⟩
/-! ### tuples that are equal, asked by != -/
end InkX

namespace InkX
open PySem PySem.Spec PyProof.Rows L2
/-! ### tuples of ints, asked by <= -/
section
open PySem.SeqAt
open PySem.AutoSeq1 (wpAny_loadPart')
open PySem.MeetsSeq PySem.MeetsSeq2 PySem.MeetsSeq3
end
end InkX

namespace InkX
open PySem PySem.Spec PyProof.Rows L2 Ink InkF
/-! ### a tuple of ints that is in a list of such -/
theorem eqAt_ints {X : Cx} {pins : List (Addr × Obj)} {σ : L2.St} {H : Hp} {s : Shared} {A : Around} {a b : Addr} {ns ms : List Int} (hu : A.units < cLine) (I : Inv X pins σ H s) (ha : H a = some (.tup (ns.map V.int))) (hb : H b = some (.tup (ms.map V.int))) :
    SeqAt.EqAt A s (.ref a) (.ref b) (decide (ns = ms)) := by
  by_cases hab : a = b
  · subst hab
    have e : ns = ms := by
      rw [ha] at hb
      injection hb with hb
      injection hb with hb
      exact List.map_inj_right (fun x y z => V.int.inj z) |>.mp hb
    rw [decide_eq_true e]
    exact SeqAt.EqAt.same _
  · obtain ⟨us, r1, p1, _⟩ := I.tuple (SqT.of (K := X.K) ha)
    obtain ⟨vs, r2, p2, _⟩ := I.tuple (SqT.of (K := X.K) hb)
    have l1 := r1.length
    have l2 := r2.length
    rw [List.length_map] at l1 l2
    have key := SeqAt.RcAt.tuples (A := A) (s := s) (e := fun j => decide (ns[j]? = ms[j]?)) p1 p2 hu (fun j g1 g2 => by
      have h1 : j < ns.length := by simpa [l1] using g1
      have h2 : j < ms.length := by simpa [l2] using g2
      have e1 : (ns.map V.int)[j]? = some (.int ns[j]) := by rw [List.getElem?_map, List.getElem?_eq_getElem h1]; rfl
      have e2 : (ms.map V.int)[j]? = some (.int ms[j]) := by rw [List.getElem?_map, List.getElem?_eq_getElem h2]; rfl
      obtain ⟨u, eu, ⟨t, ru⟩⟩ := r1.get e1
      obtain ⟨v, ev, ⟨t', rv⟩⟩ := r2.get e2
      have hu' : us.toArray[j] = Value.int ns[j] t := by
        have : us[j]? = some us.toArray[j] := by simp
        rw [this] at eu; rw [← ru]; exact Option.some.inj eu
      have hv' : vs.toArray[j] = Value.int ms[j] t' := by
        have : vs[j]? = some vs.toArray[j] := by simp
        rw [this] at ev; rw [← rv]; exact Option.some.inj ev
      rw [hu', hv', List.getElem?_eq_getElem h1, List.getElem?_eq_getElem h2]
      have z := SeqAt.EqAt.int_int (A := A.in1) (s := s) ns[j] t ms[j] t'
      have ee : (ns[j] == ms[j]) = decide (some ns[j] = some ms[j]) := by rw [Bool.eq_iff_iff]; simp
      rw [ee] at z
      exact z)
    have e : ((List.range (min us.toArray.size vs.toArray.size)).all (fun j => decide (ns[j]? = ms[j]?)) && us.toArray.size == vs.toArray.size) = decide (ns = ms) := by
      rw [List.size_toArray, List.size_toArray, ← l1, ← l2]
      by_cases h : ns = ms
      · subst h; simp
      · rw [decide_eq_false h]
        cases q : ((List.range (min ns.length ms.length)).all (fun j => decide (ns[j]? = ms[j]?)) && ns.length == ms.length) with
        | false => rfl
        | true =>
          exfalso
          rw [Bool.and_eq_true] at q
          have ll : ns.length = ms.length := by simpa using q.2
          apply h
          apply List.ext_getElem?
          intro i
          by_cases hi : i < ns.length
          · exact of_decide_eq_true (List.all_eq_true.mp q.1 i (List.mem_range.mpr (by omega)))
          · rw [List.getElem?_eq_none (by omega), List.getElem?_eq_none (by omega)]
    rw [e] at key
    exact SeqAt.EqAt.of_refs hab key
theorem vals_mem : ∀ {xs : List V} {us : List Value}, Vals xs us → ∀ w ∈ us, ∃ v ∈ xs, RelV v w
  | _, _, .nil, w, hw => by cases hw
  | _, _, .cons e r, w, hw => by
    rcases List.mem_cons.mp hw with rfl | hw
    · exact ⟨_, by simp, e⟩
    · obtain ⟨v, h1, h2⟩ := vals_mem r w hw
      exact ⟨v, List.mem_cons_of_mem _ h1, h2⟩
def rNotInT : R2 := fun x y H Q => ∃ (t a b0 : Addr) (xs : List V) (ns : List Int), x = .ref t ∧ y = .ref a ∧ H t = some (.tup (ns.map V.int)) ∧ H a = some (.lst xs) ∧ (∀ v ∈ xs, ∃ b ms, v = .ref b ∧ H b = some (.tup (List.map V.int ms))) ∧ V.ref b0 ∈ xs ∧ H b0 = some (.tup (ns.map V.int)) ∧ Q (.bl false) H
open Classical in
theorem op_notInT {X : Cx} (hu : X.A.units + 1 < cLine) : OpR X (compareOp .NotIn) rNotInT := by
  intro pins s σ H x y v u Q I rx ry h
  obtain ⟨t, a, b0, xs, ns, rfl, rfl, ht, ha, hx, hb, hb0, q⟩ := h
  cases (show v = Value.ref t from rx)
  cases (show u = Value.ref a from ry)
  obtain ⟨its, r, pl, hz⟩ := I.list (SqL.of (K := X.K) ha)
  have mem := vals_mem r
  have mem' : Value.ref b0 ∈ its := by
    obtain ⟨i, hi⟩ := List.getElem?_of_mem hb
    obtain ⟨w, ew, rw'⟩ := r.get hi
    cases (show w = Value.ref b0 from rw')
    exact List.mem_of_getElem? ew
  refine SeqAt.notIn_listAt (fun w => decide (∃ b, w = Value.ref b ∧ H b = some (.tup (ns.map V.int)))) pl.isList (fun w hw => ?_) ?_
  · obtain ⟨v, hv, rv⟩ := mem w (by simpa using hw)
    obtain ⟨b, ms, rfl, hbm⟩ := hx v hv
    cases (show w = Value.ref b from rv)
    have z := eqAt_ints (A := X.A.in1) (show X.A.in1.units < cLine from hu) I hbm ht
    have e : decide (ms = ns) = decide (∃ b', Value.ref b = Value.ref b' ∧ H b' = some (.tup (ns.map V.int))) := by
      rw [Bool.eq_iff_iff, decide_eq_true_iff, decide_eq_true_iff]
      constructor
      · intro e; exact ⟨b, rfl, by rw [← e]; exact hbm⟩
      · rintro ⟨b', e1, e2⟩
        cases e1
        rw [hbm] at e2
        injection e2 with e2
        injection e2 with e2
        exact List.map_inj_right (fun x y z => V.int.inj z) |>.mp e2
    rw [e] at z
    exact z
  · have e : its.toArray.any (fun w => decide (∃ b, w = Value.ref b ∧ H b = some (.tup (ns.map V.int)))) = true := by
      rw [List.any_toArray, List.any_eq_true]
      exact ⟨_, mem', decide_eq_true ⟨b0, rfl, hb0⟩⟩
    rw [e]
    exact ⟨.bl false, H, I, rfl, q⟩
end InkX

set_option Elab.async false
set_option linter.all false
set_option maxRecDepth 100000
namespace Ink
open PySem L2 InkX InkE InkF InkP
def top (i : Nat) : Stmt := PySem.Challenge.pw_inkroot_k28_common_places_all_told.main.body.getD i (.Pass ⟨0, 0, 0, 0⟩)
structure Nms (mg : Str → Option Value) : Prop where
  n_len : mg "len" = none
  n_list : mg "list" = none
  n_tuple : mg "tuple" = none
  n_int : mg "int" = none
  n_bool : mg "bool" = none
  n_str : mg "str" = none
  n_range : mg "range" = none
  n_zip : mg "zip" = none
  n_isinstance : mg "isinstance" = none
  n_min : mg "min" = none
  n_enumerate : mg "enumerate" = none
section
variable {P : Program} {w : World} {K : PySem.W.Frag} {mg : Str → Option Value} {base : Heap}

abbrev s_law_src : Stmt := top 6
theorem sc_law_src : FnScope ["_law_script"] ["_law_script"] (defScope s_law_src) := ⟨rfl, rfl, rfl, by decide +kernel, rfl, by decide +kernel, by decide +kernel⟩
theorem ok_law_src {f : Addr} {fd : FuncData} (F : Fun K "_law_src" "_law_src" s_law_src f fd) (T : Nms mg) : FnOk P w K mg base CX0 1 f fd ["_law_script"] (spSrc K) := by
  refine F.ok sc_law_src (fun vs H Q E h => ?_) (fun cdv A outer s H vs Q E hr h => ?_)
  · obtain ⟨a, ns, rfl, _⟩ := h
    rfl
  obtain ⟨a, ns, rfl, hS, k⟩ := h
  refine ⟨_, (pss_one (ps_ret (pe_lst (pa_cons (pe_callTy call_list_of rfl T.n_list PyProof.Rows.boot_list (pa_cons (pe_slice sl_list (pv 0) po_none (po_some pe_int)) pa_nil)) (pa_cons pe_int (pa_cons pe_int (pa_cons pe_int pa_nil))))))), ?_⟩
  refine ⟨_, rfl, _, rfl, a, _, rfl, hS, fun p hp => ?_⟩
  refine ⟨p, _, rfl, .inl (SqL.of upd_same), fun c hc => ?_⟩
  refine ⟨(by show 4 ≤ sizeLine; decide), fun l hl => ?_⟩
  obtain ⟨ms, em⟩ := cut_ints ns none (some 63)
  have ncl : c ≠ l := ne_of_none (H := upd (upd H p _) c _) upd_same hl
  have s1 : Same H (upd H p (.lst (cutV (ns.map V.int) none (some 63)))) := same_new hp _
  have s2 := s1.trans (same_new hc (.lst (cutV (ns.map V.int) none (some 63))))
  refine k l c _ ⟨ncl, ms, 0, 0, 1, upd_same, ?_, by decide, by decide, by decide⟩ (s2.trans (same_new hl _)) (s2.free hl) (s1.free hc)
  rw [upd_ne ncl, upd_same, em]

abbrev s_law_next : Stmt := top 7
theorem sc_law_next : FnScope ["_law_src_here", "_law_base", "_law_cell", "_law_digit"] ["_law_src_here", "_law_base"] (defScope s_law_next) := ⟨rfl, rfl, rfl, by decide +kernel, rfl, by decide +kernel, by decide +kernel⟩
theorem ok_law_next {f : Addr} {fd : FuncData} (F : Fun K "_law_next" "_law_next" s_law_next f fd) (T : Nms mg) : FnOk P w K mg base CX0 1 f fd ["_law_src_here", "_law_base"] spNext := by
  refine F.ok sc_law_next (fun vs H Q E h => ?_) (fun cdv A outer s H vs Q E hr h => ?_)
  · obtain ⟨l, c, b, rfl, _⟩ := h
    rfl
  obtain ⟨l, c, b, rfl, S, hb0, hb1, k⟩ := h
  refine ⟨_, (pss_cons (ps_imp (t' := nextT1) (ps_if (pt_cmpR op_le (pe_ix ix_list (pv 0) pe_int (fun _ _ => rfl)) pe_int (nomark _))
      (pss_cons (ps_set (i := 2) sc_law_next.nd rfl (Or.inl rfl) pe_int)
      (pss_cons (ps_imp (t' := nextT2) (ps_if (pt_cmpR op_lt (pe_ix ix_list (pv 0) pe_int (fun _ _ => rfl)) (pe_callB call_len_seq rfl T.n_len PySem.boot_len (pa_cons (pe_ix ix_list (pv 0) pe_int (fun _ _ => rfl)) pa_nil)) (nomark _))
      (pss_cons (ps_set (i := 2) sc_law_next.nd rfl (Or.inl rfl) (pe_ix ix_list (pe_ix ix_list (pv 0) pe_int (fun _ _ => rfl)) (pe_ix ix_list (pv 0) pe_int (fun _ _ => rfl)) (fun _ _ => rfl)))
      (pss_one (ps_asg (pe_op op_add (pe_ix ix_list (pv 0) pe_int (fun _ _ => rfl)) pe_int) (pg_sub (pv 0) pe_int set_list))))
      pss_nil) ?b2)
      (pss_cons (ps_asg (pe_op op_mod (pe_op op_add (pe_op op_add (pe_op op_mul (pe_ix ix_list (pv 0) pe_int (fun _ _ => rfl)) pe_int) (pe_op op_mod (pv 2) pe_int)) pe_int) pe_int) (pg_sub (pv 0) pe_int set_list))
      (pss_one (ps_if (pt_cmpR op_ge (pv 2) (pe_op op_pow pe_int pe_int) (nomark _))
      (pss_one (ps_asg (pv 2) (pg_sub (pv 0) pe_int set_list)))
      pss_nil)))))
      pss_nil) ?b1)
      (pss_cons (ps_if (pt_cmpR op_gt (pe_ix ix_list (pv 0) pe_int (fun _ _ => rfl)) pe_int (nomark _))
      (pss_cons (ps_set (i := 3) sc_law_next.nd rfl (Or.inl rfl) (pe_op op_mod (pe_ix ix_list (pv 0) pe_int (fun _ _ => rfl)) (pv 1)))
      (pss_cons (ps_asg (pe_op op_fdivB (pe_ix ix_list (pv 0) pe_int (fun _ _ => rfl)) (pv 1)) (pg_sub (pv 0) pe_int set_list))
      (pss_one (ps_ret (pv 3)))))
      pss_nil)
      (pss_one (ps_ret (pe_op op_mod (pe_op op_fdivB (pe_op op_mod (pe_op op_mul (pe_ix ix_list (pv 0) pe_int (fun _ _ => rfl)) pe_int) pe_int) pe_int) (pv 1)))))), ?_⟩
  case b2 =>
    rintro D σ H ⟨l, c, b, rfl, ⟨ncl, ns, i, d, r, hl, hc, hi, hr0, hr1⟩, k⟩
    refine ⟨_, rfl, l, _, _, _, rfl, rfl, SqL.of hl, at41, _, rfl, l, _, _, _, rfl, rfl, SqL.of hl, at40, c, _, rfl, .inl (SqL.of hc), _, _, rfl, rfl, _, rfl, ?_⟩
    refine ite2 (fun c2 => ?_) (fun c2 => ?_)
    · have c3 : i < (ns.length : Int) := by
        have z := of_decide_eq_true c2
        rwa [List.length_map] at z
      obtain ⟨v, hv⟩ := at_ints hi c3
      refine ⟨_, rfl, l, _, _, _, rfl, rfl, SqL.of hl, at40, _, rfl, l, _, _, _, rfl, rfl, SqL.of hl, at41, c, _, _, _, rfl, rfl, SqL.of hc, hv, ?_⟩
      refine ⟨_, rfl, l, _, _, _, rfl, rfl, SqL.of hl, at41, _, _, rfl, rfl, _, rfl, l, _, _, 1, rfl, rfl, hl, rfl, ?_⟩
      exact k v _ ⟨ncl, ns, i + 1, d, r, upd_same, by rw [upd_ne ncl]; exact hc, by omega, hr0, hr1⟩ fun a ha => upd_ne ha
    · exact k 7 H ⟨ncl, ns, i, d, r, hl, hc, hi, hr0, hr1⟩ fun a _ => rfl
  case b1 =>
    rintro D σ H ⟨l, c, b, rfl, S, k⟩
    obtain ⟨ncl, ns, i, d, r, hl, hc, hi, hr0, hr1⟩ := id S
    refine ⟨_, rfl, l, _, _, _, rfl, rfl, SqL.of hl, at42, _, _, rfl, rfl, _, rfl, ?_⟩
    refine ite2 (fun c1 => ?_) (fun c1 => ?_)
    · refine ⟨l, c, b, rfl, S, fun cell H1 S1 k1 => ?_⟩
      obtain ⟨_, ns1, i1, d1, r1, hl1, hc1, hi1, hr2, hr3⟩ := id S1
      refine ⟨_, rfl, l, _, _, _, rfl, rfl, SqL.of hl1, at43, _, _, rfl, rfl, .inl ⟨by omega, by omega⟩, _, rfl, _, _, rfl, rfl, (by show (0 : Int) < 998244353; decide), _, _, rfl, rfl, _, _, rfl, rfl, _, _, rfl, rfl, (by show (0 : Int) < 2147483647; decide), _, rfl, l, _, _, 3, rfl, rfl, hl1, rfl, ?_⟩
      refine ⟨_, rfl, _, _, rfl, rfl, ⟨by decide, by decide, by decide⟩, _, _, rfl, rfl, _, rfl, ?_⟩
      have b0 : 0 ≤ (r1 * 48271 + cell % 998244353 + 1) % 2147483647 := Int.emod_nonneg _ (by decide)
      have b1 : (r1 * 48271 + cell % 998244353 + 1) % 2147483647 < 2147483647 := Int.emod_lt_of_pos _ (by decide)
      refine ite2 (fun c2 => ?_) (fun c2 => ?_)
      · refine ⟨_, rfl, _, rfl, l, _, _, 2, rfl, rfl, upd_same, rfl, ?_⟩
        refine k _ _ ⟨ncl, ns1, i1, cell, _, upd_same, ?_, hi1, b0, b1⟩ fun a ha => ?_
        · rw [upd_ne ncl, upd_ne ncl]; exact hc1
        · rw [upd_ne ha, upd_ne ha]; exact k1 a ha
      · refine k _ _ ⟨ncl, ns1, i1, d1, _, upd_same, ?_, hi1, b0, b1⟩ fun a ha => ?_
        · rw [upd_ne ncl]; exact hc1
        · rw [upd_ne ha]; exact k1 a ha
    · exact k none H S fun a _ => rfl
  refine ⟨l, c, b, rfl, S, fun cell H1 S1 k1 => ?_⟩
  obtain ⟨ncl, ns, i, d, r, hl, hc, hi, hr0, hr1⟩ := S1
  refine ⟨_, rfl, l, _, _, _, rfl, rfl, SqL.of hl, at42, _, _, rfl, rfl, _, rfl, ?_⟩
  refine ite2 (fun c1 => ?_) (fun c1 => ?_)
  · refine ⟨_, rfl, l, _, _, _, rfl, rfl, SqL.of hl, at42, _, rfl, _, _, rfl, rfl, hb0, ?_⟩
    refine ⟨_, rfl, l, _, _, _, rfl, rfl, SqL.of hl, at42, _, rfl, _, _, rfl, rfl, ⟨hb0, hb1⟩, _, rfl, l, _, _, 2, rfl, rfl, hl, rfl, ?_⟩
    refine ⟨_, rfl, ?_⟩
    refine k (d % b) _ (Int.emod_nonneg _ (by omega)) (Int.emod_lt_of_pos _ hb0) ⟨ncl, ns, i, d / b, r, upd_same, ?_, hi, hr0, hr1⟩ fun a ha => ?_
    · rw [upd_ne ncl]; exact hc
    · rw [upd_ne ha]; exact k1 a ha
  · refine ⟨_, rfl, l, _, _, _, rfl, rfl, SqL.of hl, at43, _, _, rfl, rfl, .inl ⟨by omega, by omega⟩, _, _, rfl, rfl, (by show (0 : Int) < 2147483399; decide), _, _, rfl, rfl, ⟨by decide, by decide⟩, _, rfl, _, _, rfl, rfl, hb0, ?_⟩
    exact k _ _ (Int.emod_nonneg _ (by omega)) (Int.emod_lt_of_pos _ hb0) ⟨ncl, ns, i, d, r, hl, hc, hi, hr0, hr1⟩ k1

/-! how far two lists are the same -/
def cp : List Int → List Int → Nat
  | x :: xs, y :: ys => if x = y then cp xs ys + 1 else 0
  | _, _ => 0
theorem cp_lt : ∀ (a b : List Int) (m : Nat), m ≤ cp a b → (m < cp a b ↔ ∃ x, a[m]? = some x ∧ b[m]? = some x)
  | [], b, m, h => by
    have : cp [] b = 0 := by rw [cp]; intro x xs y ys z; cases z
    rw [this] at h ⊢
    constructor
    · intro z; omega
    · rintro ⟨x, z, _⟩; simp at z
  | x :: a, [], m, h => by
    have : cp (x :: a) [] = 0 := by rw [cp]; intro x xs y ys _ z; cases z
    rw [this] at h ⊢
    constructor
    · intro z; omega
    · rintro ⟨x, _, z⟩; simp at z
  | x :: a, y :: b, m, h => by
    rw [cp] at h ⊢
    by_cases e : x = y
    · rw [if_pos e] at h ⊢
      cases m with
      | zero => exact ⟨fun _ => ⟨x, rfl, by rw [e]; rfl⟩, fun _ => Nat.succ_pos _⟩
      | succ m =>
        have ih := cp_lt a b m (by omega)
        rw [List.getElem?_cons_succ, List.getElem?_cons_succ, ← ih]
        omega
    · rw [if_neg e] at h ⊢
      have m0 : m = 0 := by omega
      subst m0
      constructor
      · intro z; omega
      · rintro ⟨z, z1, z2⟩
        simp only [List.getElem?_cons_zero, Option.some.injEq] at z1 z2
        exact absurd (z1.trans z2.symm) e
theorem cp_len : ∀ (a b : List Int), cp a b ≤ a.length ∧ cp a b ≤ b.length
  | [], b => by
    have : cp [] b = 0 := by rw [cp]; intro x xs y ys z; cases z
    rw [this]; exact ⟨Nat.zero_le _, Nat.zero_le _⟩
  | x :: a, [] => by
    have : cp (x :: a) [] = 0 := by rw [cp]; intro x xs y ys _ z; cases z
    rw [this]; exact ⟨Nat.zero_le _, Nat.zero_le _⟩
  | x :: a, y :: b => by
    rw [cp, List.length_cons, List.length_cons]
    have := cp_len a b
    split <;> omega
theorem cp_take : ∀ (a b : List Int), a.take (cp a b) = b.take (cp a b)
  | [], b => by
    have : cp [] b = 0 := by rw [cp]; intro x xs y ys z; cases z
    rw [this]; rfl
  | x :: a, [] => by
    have : cp (x :: a) [] = 0 := by rw [cp]; intro x xs y ys _ z; cases z
    rw [this]; rfl
  | x :: a, y :: b => by
    rw [cp]
    by_cases e : x = y
    · rw [if_pos e, List.take_succ_cons, List.take_succ_cons, cp_take a b, e]
    · rw [if_neg e]; rfl
def ahd (xs ys : List Int) (f s : Nat) : Bool := decide (0 < f) && (decide (0 < s) && decide (xs[f - 1]? = ys[s - 1]?))
def plT (n : Int) (ys : List Int) (i : Nat) : List Nat := (List.range i).filter fun j => decide (ys[j]? = some n)
theorem plT_succ (n : Int) (ys : List Int) (i : Nat) : plT n ys (i + 1) = plT n ys i ++ if ys[i]? = some n then [i] else [] := by
  unfold plT
  rw [List.range_succ, List.filter_append]
  by_cases e : ys[i]? = some n
  · rw [if_pos e, List.filter_cons_of_pos (p := fun j => decide (ys[j]? = some n)) (decide_eq_true e)]; rfl
  · rw [if_neg e, List.filter_cons_of_neg (p := fun j => decide (ys[j]? = some n)) (fun z => e (of_decide_eq_true z))]; rfl
theorem plT_len (n : Int) (ys : List Int) (i : Nat) : (plT n ys i).length ≤ i := by
  have z := List.length_filter_le (fun j => decide (ys[j]? = some n)) (List.range i)
  rw [List.length_range] at z
  exact z
abbrev Trip := Int × Int × Int
def trip (xs ys : List Int) (f s : Nat) : Trip := ((f : Int), (s : Int), (cp (xs.drop f) (ys.drop s) : Int))
def rowJ (xs ys : List Int) (f : Nat) (ss : List Nat) : List Trip := (ss.filter fun s => !ahd xs ys f s).map (trip xs ys f)
def rowF (xs ys : List Int) (f : Nat) : List Trip := rowJ xs ys f (plT (xs.getD f 0) ys ys.length)
def grI (xs ys : List Int) (i : Nat) : List Trip := (List.range i).flatMap (rowF xs ys)
theorem grI_succ (xs ys : List Int) (i : Nat) : grI xs ys (i + 1) = grI xs ys i ++ rowF xs ys i := by
  unfold grI
  rw [List.range_succ, List.flatMap_append, List.flatMap_singleton]
theorem rowJ_len (xs ys : List Int) (f : Nat) (ss : List Nat) : (rowJ xs ys f ss).length ≤ ss.length := by
  unfold rowJ
  rw [List.length_map]
  exact List.length_filter_le _ _
theorem grI_len (xs ys : List Int) : ∀ i, (grI xs ys i).length ≤ i * ys.length
  | 0 => by simp [grI]
  | i + 1 => by
    rw [grI_succ, List.length_append, Nat.succ_mul]
    have a := grI_len xs ys i
    have b := rowJ_len xs ys i (plT (xs.getD i 0) ys ys.length)
    have c := plT_len (xs.getD i 0) ys ys.length
    unfold rowF
    omega
structure Rt (xs ys : List Int) (f s m : Nat) : Prop where
  m1 : 1 ≤ m
  fx : f + m ≤ xs.length
  sy : s + m ≤ ys.length
  eq : (xs.drop f).take m = (ys.drop s).take m
  ah : ahd xs ys f s = false
  en : f + m = xs.length ∨ s + m = ys.length ∨ xs[f + m]? ≠ ys[s + m]?
theorem mem_plT {n : Int} {ys : List Int} {i s : Nat} (h : s ∈ plT n ys i) : s < i ∧ ys[s]? = some n := by
  obtain ⟨a, b⟩ := List.mem_filter.mp h
  exact ⟨List.mem_range.mp a, of_decide_eq_true b⟩
theorem mem_rowF {xs ys : List Int} {f : Nat} {t : Trip} (h : t ∈ rowF xs ys f) : ∃ s, s ∈ plT (xs.getD f 0) ys ys.length ∧ ahd xs ys f s = false ∧ t = trip xs ys f s := by
  unfold rowF rowJ at h
  obtain ⟨s, hs, rfl⟩ := List.mem_map.mp h
  obtain ⟨a, b⟩ := List.mem_filter.mp hs
  exact ⟨s, a, by simpa using b, rfl⟩
theorem gr_right {xs ys : List Int} {t : Trip} (h : t ∈ grI xs ys xs.length) : ∃ f s : Nat, t = trip xs ys f s ∧ Rt xs ys f s (cp (xs.drop f) (ys.drop s)) := by
  unfold grI at h
  obtain ⟨f, hf, ht⟩ := List.mem_flatMap.mp h
  have fl := List.mem_range.mp hf
  obtain ⟨s, hs, ah, rfl⟩ := mem_rowF ht
  obtain ⟨sl, sn⟩ := mem_plT hs
  have e1 : xs.getD f 0 = xs[f] := by rw [List.getD_eq_getElem?_getD, List.getElem?_eq_getElem fl]; rfl
  rw [e1] at sn
  have pos : 0 < cp (xs.drop f) (ys.drop s) := by
    refine (cp_lt _ _ 0 (Nat.zero_le _)).mpr ⟨xs[f], ?_, ?_⟩
    · rw [List.getElem?_drop, Nat.add_zero, List.getElem?_eq_getElem fl]
    · rw [List.getElem?_drop, Nat.add_zero, sn]
  have len := cp_len (xs.drop f) (ys.drop s)
  rw [List.length_drop, List.length_drop] at len
  refine ⟨f, s, rfl, pos, by omega, by omega, cp_take _ _, ah, ?_⟩
  by_cases c1 : f + cp (xs.drop f) (ys.drop s) = xs.length
  · exact .inl c1
  by_cases c2 : s + cp (xs.drop f) (ys.drop s) = ys.length
  · exact .inr (.inl c2)
  refine .inr (.inr fun z => ?_)
  have := (cp_lt (xs.drop f) (ys.drop s) _ (Nat.le_refl _)).mpr
  rw [List.getElem?_drop, List.getElem?_drop] at this
  have l1 : f + cp (xs.drop f) (ys.drop s) < xs.length := by omega
  exact absurd (this ⟨xs[f + cp (xs.drop f) (ys.drop s)], List.getElem?_eq_getElem l1, by rw [← z, List.getElem?_eq_getElem l1]⟩) (Nat.lt_irrefl _)
def TLt (p q : Trip) : Prop := p.1 < q.1 ∨ p.1 = q.1 ∧ p.2.1 < q.2.1
theorem gr_rise (xs ys : List Int) (i : Nat) : (grI xs ys i).Pairwise TLt := by
  unfold grI
  rw [List.pairwise_flatMap]
  refine ⟨fun f _ => ?_, ?_⟩
  · unfold rowF rowJ
    rw [List.pairwise_map]
    have z : (plT (xs.getD f 0) ys ys.length).Pairwise (· < ·) := List.Pairwise.filter _ List.pairwise_lt_range
    refine (z.filter _).imp fun {a b} h => .inr ⟨rfl, ?_⟩
    show (a : Int) < (b : Int)
    omega
  · refine List.pairwise_lt_range.imp fun {a b} h p hp q hq => ?_
    obtain ⟨s, _, _, rfl⟩ := mem_rowF hp
    obtain ⟨r, _, _, rfl⟩ := mem_rowF hq
    refine .inl ?_
    show (a : Int) < (b : Int)
    omega
def TripAt (H : Hp) (a : Addr) (t : Trip) : Prop := H a = some (.tup [.int t.1, .int t.2.1, .int t.2.2])
abbrev TripsAt (H : Hp) : List Addr → List Trip → Prop := Paired (TripAt H)
theorem TripsAt.tups {H H' : Hp} {as : List Addr} {T : List Trip} (h : TripsAt H as T) (t : ∀ a xs, H a = some (.tup xs) → H' a = some (.tup xs)) : TripsAt H' as T := Paired.mapP h fun a p e => t a _ e
theorem TripsAt.same {H H' : Hp} {as : List Addr} {T : List Trip} (h : TripsAt H as T) (s : Same H H') : TripsAt H' as T := h.tups fun a xs e => s a _ e
theorem paired_snoc {α β : Type} {F : α → β → Prop} : ∀ {xs : List α} {ys : List β} {x : α} {y : β}, Paired F xs ys → F x y → Paired F (xs ++ [x]) (ys ++ [y])
  | _, _, _, _, .nil, e => .cons e .nil
  | _, _, _, _, .cons r t, e => .cons r (paired_snoc t e)
def natV (l : List Nat) : List V := l.map fun j : Nat => V.int j
/-- the places of each number among the first i -/
structure Spots (B : Hp) (H : Hp) (kvs : List (Key × V)) (ys : List Int) (i : Nat) : Prop where
  at_ : ∀ n, (valV kvs (Sum.inl n) = none ∧ plT n ys i = []) ∨ ∃ a, valV kvs (Sum.inl n) = some (.ref a) ∧ H a = some (.lst (natV (plT n ys i))) ∧ B a = none
  inj : ∀ n m a, valV kvs (Sum.inl n) = some (.ref a) → valV kvs (Sum.inl m) = some (.ref a) → n = m
  len : kvs.length ≤ i
def spSpots : Sp := fun vs H Q _ => ∃ (a : Addr) (ys : List Int), vs = [.ref a] ∧ H a = some (.lst (ys.map V.int)) ∧ ys.length ≤ 1000 ∧
  ∀ (d : Addr) (kvs : List (Key × V)) (H' : Hp), H' d = some (.dK kvs) → Spots H H' kvs ys ys.length → Same H H' → H d = none → Q (.ref d) H'
def spAhead : Sp := fun vs H Q _ => ∃ (a b : Addr) (xs ys : List Int) (f s : Nat), vs = [.ref a, .ref b, .int f, .int s] ∧ H a = some (.lst (xs.map V.int)) ∧ H b = some (.lst (ys.map V.int)) ∧ f < xs.length ∧ s < ys.length ∧ Q (.bl (ahd xs ys f s)) H
def spRun : Sp := fun vs H Q _ => ∃ (a b : Addr) (xs ys : List Int) (f s : Nat), vs = [.ref a, .ref b, .int f, .int s] ∧ H a = some (.lst (xs.map V.int)) ∧ H b = some (.lst (ys.map V.int)) ∧ f < xs.length ∧ s < ys.length ∧ Q (.int (cp (xs.drop f) (ys.drop s) : Nat)) H
def spGreatest : Sp := fun vs H Q _ => ∃ (a b : Addr) (xs ys : List Int), vs = [.ref a, .ref b] ∧ H a = some (.lst (xs.map V.int)) ∧ H b = some (.lst (ys.map V.int)) ∧ xs.length ≤ 100 ∧ ys.length ≤ 100 ∧
  ∀ (q : Addr) (ts : List Addr) (H' : Hp), H' q = some (.lst (ts.map V.ref)) → TripsAt H' ts (grI xs ys xs.length) → Same H H' → H q = none → Q (.ref q) H'
abbrev sspots : Stmt := top 1
abbrev sgoes_ahead : Stmt := top 2
abbrev srun_length : Stmt := top 3
abbrev sgreatest : Stmt := top 4
theorem scspots : FnScope ["numbers", "told", "place", "number"] ["numbers"] (defScope sspots) := ⟨rfl, rfl, rfl, by decide +kernel, rfl, by decide +kernel, by decide +kernel⟩
theorem scgoes_ahead : FnScope ["ones", "others", "first", "second"] ["ones", "others", "first", "second"] (defScope sgoes_ahead) := ⟨rfl, rfl, rfl, by decide +kernel, rfl, by decide +kernel, by decide +kernel⟩
theorem scrun_length : FnScope ["ones", "others", "first", "second", "many", "most"] ["ones", "others", "first", "second"] (defScope srun_length) := ⟨rfl, rfl, rfl, by decide +kernel, rfl, by decide +kernel, by decide +kernel⟩
theorem scgreatest : FnScope ["ones", "others", "told", "seconds", "first", "number", "second"] ["ones", "others"] (defScope sgreatest) := ⟨rfl, rfl, rfl, by decide +kernel, rfl, by decide +kernel, by decide +kernel⟩
theorem at_int {xs : List Int} {i : Nat} (h : i < xs.length) : atI (xs.map V.int) (i : Int) = some (.int xs[i]) := atI_nat (by rw [List.getElem?_map, List.getElem?_eq_getElem h]; rfl)
theorem ok_goes_ahead {f : Addr} {fd : FuncData} (F : Fun K "goes_ahead" "goes_ahead" sgoes_ahead f fd) : FnOk P w K mg base CX0 1 f fd ["ones", "others", "first", "second"] spAhead := by
  refine F.ok scgoes_ahead (fun vs H Q E h => ?_) (fun cdv A outer s H vs Q E hr h => ?_)
  · obtain ⟨a, b, xs, ys, f, s, rfl, _⟩ := h
    rfl
  obtain ⟨a, b, xs, ys, i, j, rfl, ha, hb, hi, hj, k⟩ := h
  refine ⟨_, (pss_one (ps_ret (pe_and (pe_cmpR op_gt (pv 2) pe_int (nomark _)) (pe_and (pe_cmpR op_gt (pv 3) pe_int (nomark _)) (pe_one (pe_cmpR op_eq (pe_ix ix_list (pv 0) (pe_op op_sub (pv 2) pe_int) (fun _ _ => rfl)) (pe_ix ix_list (pv 1) (pe_op op_sub (pv 3) pe_int) (fun _ _ => rfl)) (nomark _))))))), ?_⟩
  unfold ahd at k
  have e1 : decide ((0 : Int) < i) = decide (0 < i) := by rw [Bool.eq_iff_iff]; simp
  have e2 : decide ((0 : Int) < j) = decide (0 < j) := by rw [Bool.eq_iff_iff]; simp
  refine ⟨_, rfl, _, _, rfl, rfl, _, rfl, ?_⟩
  rw [e1]
  by_cases c1 : 0 < i
  · rw [decide_eq_true c1, Bool.true_and] at k
    rw [decide_eq_true c1]
    refine iteT ⟨_, rfl, _, _, rfl, rfl, _, rfl, ?_⟩
    rw [e2]
    by_cases c2 : 0 < j
    · rw [decide_eq_true c2, Bool.true_and] at k
      rw [decide_eq_true c2]
      have z1 : ((i : Int) - 1) = ((i - 1 : Nat) : Int) := by omega
      have z2 : ((j : Int) - 1) = ((j - 1 : Nat) : Int) := by omega
      refine iteT ⟨_, rfl, _, rfl, _, _, rfl, rfl, a, _, _, _, rfl, rfl, SqL.of ha, (by rw [z1]; exact at_int (by omega)), _, rfl, _, rfl, _, _, rfl, rfl, b, _, _, _, rfl, rfl, SqL.of hb, (by rw [z2]; exact at_int (by omega)), rfl, ?_⟩
      rw [List.getElem?_eq_getElem (show i - 1 < xs.length by omega), List.getElem?_eq_getElem (show j - 1 < ys.length by omega)] at k
      have e3 : decide (V.int (xs[i - 1]'(by omega)) = V.int (ys[j - 1]'(by omega))) = decide (some (xs[i - 1]'(by omega)) = some (ys[j - 1]'(by omega))) := by rw [Bool.eq_iff_iff]; simp
      rw [← e3] at k
      exact k
    · rw [decide_eq_false c2, Bool.false_and] at k
      rw [decide_eq_false c2]
      exact iteF k
  · rw [decide_eq_false c1, Bool.false_and] at k
    rw [decide_eq_false c1]
    exact iteF k
theorem ok_run_length {f : Addr} {fd : FuncData} (F : Fun K "run_length" "run_length" srun_length f fd) (T : Nms mg) : FnOk P w K mg base CX0 1 f fd ["ones", "others", "first", "second"] spRun := by
  refine F.ok scrun_length (fun vs H Q E h => ?_) (fun cdv A outer s H vs Q E hr h => ?_)
  · obtain ⟨a, b, xs, ys, f, s, rfl, _⟩ := h
    rfl
  obtain ⟨a, b, xs, ys, i, j, rfl, ha, hb, hi, hj, k⟩ := h
  refine ⟨_, (pss_cons (ps_set (i := 4) scrun_length.nd rfl (Or.inl rfl) pe_int)
      (pss_cons (ps_set (i := 5) scrun_length.nd rfl (Or.inl rfl) (pe_callB (call_min2 rfl) rfl T.n_min PyProof.Rows.boot_min (pa_cons (pe_op op_sub (pe_callB call_len_seq rfl T.n_len PySem.boot_len (pa_cons (pv 0) pa_nil)) (pv 2)) (pa_cons (pe_op op_sub (pe_callB call_len_seq rfl T.n_len PySem.boot_len (pa_cons (pv 1) pa_nil)) (pv 3)) pa_nil))))
      (pss_cons (ps_while PassesOwn.never (PW.pt (pw_and (pt_cmpR op_lt (pv 4) (pv 5) (nomark _)) (pw_and1 (pt_cmpR op_eq (pe_ix ix_list (pv 0) (pe_op op_add (pv 2) (pv 4)) (fun _ _ => rfl)) (pe_ix ix_list (pv 1) (pe_op op_add (pv 3) (pv 4)) (fun _ _ => rfl)) (nomark _))))) (pss_one (ps_aug (i := 4) scrun_length.nd rfl (Or.inl rfl) pe_int ip_add)))
      (pss_one (ps_ret (pv 4)))))), ?_⟩
  obtain ⟨M, hM⟩ : ∃ M : Int, M = if ((ys.map V.int).length : Int) - (j : Int) < ((xs.map V.int).length : Int) - (i : Int) then ((ys.map V.int).length : Int) - (j : Int) else ((xs.map V.int).length : Int) - (i : Int) := ⟨_, rfl⟩
  refine ⟨_, rfl, a, _, rfl, .inl (SqL.of ha), _, rfl, _, _, rfl, rfl, _, rfl, b, _, rfl, .inl (SqL.of hb), _, rfl, _, _, rfl, rfl, _, _, rfl, ?_⟩
  rw [← hM]
  rw [List.length_map, List.length_map] at hM
  obtain ⟨c, hc⟩ : ∃ c, c = cp (xs.drop i) (ys.drop j) := ⟨_, rfl⟩
  rw [← hc] at k
  have cl := cp_len (xs.drop i) (ys.drop j)
  rw [← hc, List.length_drop, List.length_drop] at cl
  have dx : ∀ n, (xs.drop i)[n]? = xs[i + n]? := fun n => by rw [List.getElem?_drop]
  have dy : ∀ n, (ys.drop j)[n]? = ys[j + n]? := fun n => by rw [List.getElem?_drop]
  have ML : ∀ n : Nat, (n : Int) < M ↔ i + n < xs.length ∧ j + n < ys.length := fun n => by
    rw [hM]
    split <;> omega
  clear hM
  refine ⟨fun m σ H2 => ∃ n : Nat, σ = [some (.ref a), some (.ref b), some (.int i), some (.int j), some (.int n), some (.int M)] ∧ H2 = H ∧ n ≤ c ∧ m = c - n, ⟨_, 0, rfl, rfl, Nat.zero_le _, rfl⟩, ?_⟩
  rintro m σ H2 ⟨n, rfl, rfl, nc, rfl⟩
  have key := cp_lt (xs.drop i) (ys.drop j) n (by rw [← hc]; exact nc)
  rw [← hc, dx, dy] at key
  refine ⟨_, rfl, _, rfl, _, _, rfl, rfl, _, rfl, ?_⟩
  have e1 : (i : Int) + n = ((i + n : Nat) : Int) := by omega
  have e2 : (j : Int) + n = ((j + n : Nat) : Int) := by omega
  refine if_andW (p := (n : Int) < M) (q := xs.getD (i + n) 0 = ys.getD (j + n) 0) (fun pi z => ?_) (fun cc => ?_) (fun cc => ?_)
  · obtain ⟨l1, l2⟩ := (ML n).mp pi
    rw [List.getD_eq_getElem?_getD, List.getD_eq_getElem?_getD, List.getElem?_eq_getElem l1, List.getElem?_eq_getElem l2] at z
    have e3 : decide (V.int xs[i + n] = V.int ys[j + n]) = decide ((some xs[i + n]).getD 0 = (some ys[j + n]).getD 0) := by rw [Bool.eq_iff_iff]; simp
    refine ⟨_, rfl, _, rfl, _, rfl, _, _, rfl, rfl, a, _, _, _, rfl, rfl, SqL.of ha, (by rw [e1]; exact at_int l1), _, rfl, _, rfl, _, rfl, _, _, rfl, rfl, b, _, _, _, rfl, rfl, SqL.of hb, (by rw [e2]; exact at_int l2), rfl, _, rfl, ?_⟩
    rw [e3]
    exact z
  · obtain ⟨l1, l2⟩ := (ML n).mp cc.1
    have z := cc.2
    rw [List.getD_eq_getElem?_getD, List.getD_eq_getElem?_getD, List.getElem?_eq_getElem l1, List.getElem?_eq_getElem l2] at z
    have lt : n < c := key.mpr ⟨xs[i + n], List.getElem?_eq_getElem l1, by rw [List.getElem?_eq_getElem l2]; exact congrArg some z.symm⟩
    refine ⟨fun σ' H' => ∃ m', m' < c - n ∧ ∃ n : Nat, σ' = [some (.ref a), some (.ref b), some (.int i), some (.int j), some (.int n), some (.int M)] ∧ H' = H2 ∧ n ≤ c ∧ m' = c - n, fun σ' H' z => z, ?_⟩
    exact ⟨_, rfl, _, _, rfl, rfl, c - (n + 1), by omega, n + 1, rfl, rfl, by omega, rfl⟩
  · have e : n = c := by
      refine Nat.le_antisymm nc (Nat.not_lt.mp fun lt => cc ?_)
      obtain ⟨x, x1, x2⟩ := key.mp lt
      refine ⟨(ML n).mpr ⟨(List.getElem?_eq_some_iff.mp x1).1, (List.getElem?_eq_some_iff.mp x2).1⟩, ?_⟩
      rw [List.getD_eq_getElem?_getD, List.getD_eq_getElem?_getD, x1, x2]
    subst e
    exact ⟨_, rfl, k⟩
theorem ok_spots {f : Addr} {fd : FuncData} (F : Fun K "spots" "spots" sspots f fd) (T : Nms mg) : FnOk P w K mg base CX0 1 f fd ["numbers"] spSpots := by
  refine F.ok scspots (fun vs H Q E h => ?_) (fun cdv A outer s H vs Q E hr h => ?_)
  · obtain ⟨a, ys, rfl, _⟩ := h
    rfl
  obtain ⟨a, ys, rfl, ha, hl, k⟩ := h
  refine ⟨_, (pss_cons (ps_set (i := 1) scspots.nd rfl (Or.inl rfl) pe_dnewK)
      (pss_cons (ps_for PassesOwn.never rfl (pi_enum rfl T.n_enumerate (pa_cons (pv 0) pa_nil)) (pg_tup (n := 2) rfl (pgs_cons (pg_name (i := 2) scspots.nd rfl (Or.inl rfl)) (pgs_cons (pg_name (i := 3) scspots.nd rfl (Or.inl rfl)) pgs_nil)))
      (pss_one (ps_expr (pe_bm PySem.F.plainAttrs_list PySem.F.slot_list_append PySem.F.type_list_append mt_append (pe_dsetd (pv 1) (pv 3) (pe_lst pa_nil) ⟨rfl, rfl, rfl, rfl⟩) (pa_cons (pv 2) pa_nil)))))
      (pss_one (ps_ret (pv 1))))), ?_⟩
  intro d hd
  have s0 : Same H (upd H d (.dK [])) := same_new hd _
  refine ⟨_, rfl, a, _, rfl, SqL.of (s0 _ _ ha), for_enum (K := K) (a := a) (xs := ys.map V.int) (fun i σ H2 => ∃ (kvs : List (Key × V)) (u2 u3 : Option V), σ = [some (.ref a), some (.ref d), u2, u3] ∧ H2 d = some (.dK kvs) ∧ Spots H H2 kvs ys i ∧ Same H H2) ⟨[], none, none, rfl, upd_same, ⟨fun n => .inl ⟨rfl, rfl⟩, (fun n m b e => by cases e), Nat.le_refl _⟩, s0⟩ (fun i σ H2 _ ⟨_, _, _, _, _, _, s2⟩ => SqL.of (s2 _ _ ha)) ?_ ?_⟩
  · rintro i x p σ H2 hi hp ⟨kvs, u2, u3, rfl, hd2, sp, s2⟩
    rw [List.getElem?_map] at hi
    obtain ⟨y, ey, rfl⟩ := Option.map_eq_some_iff.mp hi
    have il : i < ys.length := (List.getElem?_eq_some_iff.mp ey).1
    have s3 : Same H2 (upd H2 p (.tup [.int i, .int y])) := same_new hp _
    refine ⟨p, _, rfl, SqT.of upd_same, rfl, _, _, rfl, _, _, rfl, rfl, ?_⟩
    generalize upd H2 p (.tup [.int i, .int y]) = H3 at s3
    have hd3 := s3 _ _ hd2
    refine ⟨_, rfl, d, rfl, .inl ⟨_, .inl hd3⟩, _, rfl, (by show 0 ≤ sizeLine; decide), fun z hz => ⟨kvs, Sum.inl y, same_new hz _ _ _ hd3, rfl, million (by have := sp.len; omega), fun v hv => ?_, fun hn => ?_⟩⟩
    all_goals
      have s4 : Same H3 (upd H3 z (.lst [])) := same_new hz _
      have hz4 : (upd H3 z (.lst [])) z = some (.lst []) := upd_same
      generalize upd H3 z (.lst []) = H4 at s4 hz4
      have s24 := s3.trans s4
      have hd4 := s4 _ _ hd3
      have other : ∀ n, n ≠ y → plT n ys (i + 1) = plT n ys i := fun n hn => by
        rw [plT_succ, ey, if_neg (fun z => hn (Option.some.inj z).symm), List.append_nil]
      have this_ : plT y ys (i + 1) = plT y ys i ++ [i] := by rw [plT_succ, if_pos ey]
    · rcases sp.at_ y with ⟨e, _⟩ | ⟨b, e, hb, fb⟩
      · rw [e] at hv; cases hv
      · rw [e] at hv
        cases hv
        have hb4 := s24 _ _ hb
        have bd : b ≠ d := ne_of hb4 hd4 (by intro z; cases z)
        have pl := plT_len y ys i
        refine ⟨.inl ⟨rfl, _, SqL.of hb4⟩, _, rfl, b, _, _, rfl, rfl, hb4, (by unfold natV; rw [List.length_map]; exact million (by omega)), ?_⟩
        refine ⟨kvs, _, _, rfl, by rw [upd_ne bd.symm]; exact hd4, ⟨fun n => ?_, sp.inj, Nat.le_succ_of_le sp.len⟩, keep_of fb (s2.trans s24) (keep_upd b _ _)⟩
        by_cases c : n = y
        · subst c
          refine .inr ⟨b, e, ?_, fb⟩
          rw [upd_same, this_]
          unfold natV
          rw [List.map_append]
          rfl
        · rw [other n c]
          rcases sp.at_ n with z | ⟨b2, e2, hb2, fb2⟩
          · exact .inl z
          · refine .inr ⟨b2, e2, ?_, fb2⟩
            rw [upd_ne (fun z => c (sp.inj n y b (by rw [← z]; exact e2) e))]
            exact s24 _ _ hb2
    · have pe : plT y ys i = [] := by
        rcases sp.at_ y with ⟨_, e⟩ | ⟨b, e, _⟩
        · exact e
        · rw [e] at hn; cases hn
      have zd : z ≠ d := ne_of hz4 hd4 (by intro z; cases z)
      have hz5 : (upd H4 d (.dK (putK kvs (Sum.inl y) (.ref z)))) z = some (.lst []) := by rw [upd_ne zd]; exact hz4
      have fz : H z = none := free_same (s2.trans s3) hz
      refine ⟨.inl ⟨rfl, _, SqL.of hz5⟩, _, rfl, z, _, _, rfl, rfl, hz5, (by decide), ?_⟩
      refine ⟨putK kvs (Sum.inl y) (.ref z), _, _, rfl, by rw [upd_ne zd.symm, upd_same], ⟨fun n => ?_, fun n m b e1 e2 => ?_, ?_⟩, ?_⟩
      · by_cases c : n = y
        · subst c
          refine .inr ⟨z, by rw [valV_put, if_pos rfl], ?_, fz⟩
          rw [upd_same, this_, pe]
          rfl
        · rw [other n c, valV_put, if_neg (fun z => c (Sum.inl.inj z))]
          rcases sp.at_ n with q | ⟨b2, e2, hb2, fb2⟩
          · exact .inl q
          · refine .inr ⟨b2, e2, ?_, fb2⟩
            have hb4 := s24 _ _ hb2
            rw [upd_ne (fun q => by rw [q] at hb2; have := s3 _ _ hb2; rw [hz] at this; cases this), upd_ne (ne_of hb4 hd4 (by intro z; cases z))]
            exact hb4
      · have old : ∀ n b, valV kvs (Sum.inl n) = some (.ref b) → b ≠ z := fun n b e q => by
          rcases sp.at_ n with ⟨e', _⟩ | ⟨b2, e2, hb2, _⟩
          · rw [e'] at e; cases e
          · rw [e2] at e
            cases e
            rw [q] at hb2
            have := s3 _ _ hb2
            rw [hz] at this
            cases this
        rw [valV_put] at e1 e2
        by_cases c1 : n = y
        · by_cases c2 : m = y
          · rw [c1, c2]
          · rw [if_pos (by rw [c1])] at e1
            rw [if_neg (fun z => c2 (Sum.inl.inj z))] at e2
            cases e1
            exact absurd rfl (old m _ e2)
        · rw [if_neg (fun z => c1 (Sum.inl.inj z))] at e1
          by_cases c2 : m = y
          · rw [if_pos (by rw [c2])] at e2
            cases e2
            exact absurd rfl (old n _ e1)
          · rw [if_neg (fun z => c2 (Sum.inl.inj z))] at e2
            exact sp.inj n m b e1 e2
      · have := length_putK kvs (Sum.inl y) (V.ref z)
        have := sp.len
        omega
      · exact keep_of fz (keep_of hd (s2.trans s24) (keep_upd d _ _)) (keep_upd z _ _)
  · rintro σ H2 ⟨kvs, u2, u3, rfl, hd2, sp, s2⟩
    rw [List.length_map] at sp
    exact ⟨_, rfl, k d kvs H2 hd2 sp s2 hd⟩
theorem ok_greatest {f fS fA fR : Addr} {fd gS gA gR : FuncData} (F : Fun K "greatest" "greatest" sgreatest f fd) (T : Nms mg) (dspots : DefAt K mg "spots" sspots ["numbers"] fS gS) (dgoes_ahead : DefAt K mg "goes_ahead" sgoes_ahead ["ones", "others", "first", "second"] fA gA) (drun_length : DefAt K mg "run_length" srun_length ["ones", "others", "first", "second"] fR gR) : FnOk P w K mg base CX0 2 f fd ["ones", "others"] spGreatest := by
  have gspots : FnOk P w K mg base CX0 1 fS gS ["numbers"] spSpots := ok_spots dspots.F T
  have ggoes_ahead : FnOk P w K mg base CX0 1 fA gA ["ones", "others", "first", "second"] spAhead := ok_goes_ahead dgoes_ahead.F
  have grun_length : FnOk P w K mg base CX0 1 fR gR ["ones", "others", "first", "second"] spRun := ok_run_length drun_length.F T
  refine F.ok scgreatest (fun vs H Q E h => ?_) (fun cdv A outer s H vs Q E hr h => ?_)
  · obtain ⟨a, b, xs, ys, rfl, _⟩ := h
    rfl
  obtain ⟨a, b, xs, ys, rfl, ha, hb, la, lb, k⟩ := h
  have hu := hu_of hr
  refine ⟨_, (pss_cons (ps_set (i := 2) scgreatest.nd rfl (Or.inl rfl) (pe_lst pa_nil))
      (pss_cons (ps_set (i := 3) scgreatest.nd rfl (Or.inl rfl) (pe_def dspots gspots hr (pa_cons (pv 1) pa_nil)))
      (pss_cons (ps_for PassesOwn.never rfl (pi_enum rfl T.n_enumerate (pa_cons (pv 0) pa_nil)) (pg_tup (n := 2) rfl (pgs_cons (pg_name (i := 4) scgreatest.nd rfl (Or.inl rfl)) (pgs_cons (pg_name (i := 5) scgreatest.nd rfl (Or.inl rfl)) pgs_nil)))
      (pss_one (ps_for PassesOwn.never rfl (pi_list (pe_dget2 hu (pv 3) (pv 5) (pe_lst pa_nil) ⟨rfl, rfl, rfl, rfl⟩)) (pg_name (i := 6) scgreatest.nd rfl (Or.inl rfl))
      (pss_one (ps_if (pt_not (pt_val (pe_def dgoes_ahead ggoes_ahead hr (pa_cons (pv 0) (pa_cons (pv 1) (pa_cons (pv 4) (pa_cons (pv 6) pa_nil)))))))
      (pss_one (ps_expr (pe_bm PySem.F.plainAttrs_list PySem.F.slot_list_append PySem.F.type_list_append mt_append (pv 2) (pa_cons (pe_tup (pa_cons (pv 4) (pa_cons (pv 6) (pa_cons (pe_def drun_length grun_length hr (pa_cons (pv 0) (pa_cons (pv 1) (pa_cons (pv 4) (pa_cons (pv 6) pa_nil))))) pa_nil)))) pa_nil))))
      pss_nil)))))
      (pss_one (ps_ret (pv 2)))))), ?_⟩
  refine ⟨(by show 0 ≤ sizeLine; decide), fun q hq => ?_⟩
  have s0 : Same H (upd H q (.lst [])) := same_new hq _
  have hq0 : (upd H q (.lst [])) q = some (.lst []) := upd_same
  generalize upd H q (.lst []) = H1 at s0 hq0
  refine ⟨_, rfl, b, ys, rfl, s0 _ _ hb, by omega, fun d kvs H2 hd sp s2 fd => ?_⟩
  have ha2 := s2 _ _ (s0 _ _ ha)
  have hb2 := s2 _ _ (s0 _ _ hb)
  have hq2 := s2 _ _ hq0
  have aq : a ≠ q := (ne_of_none ha hq)
  have bq : b ≠ q := (ne_of_none hb hq)
  have dq : d ≠ q := ne_of hd hq2 (by intro z; cases z)
  refine ⟨_, rfl, a, _, rfl, SqL.of ha2, for_enum (K := K) (a := a) (xs := xs.map V.int) (fun i σ H3 => ∃ (ts : List Addr) (u4 u5 u6 : Option V), σ = [some (.ref a), some (.ref b), some (.ref q), some (.ref d), u4, u5, u6] ∧ H3 q = some (.lst (ts.map V.ref)) ∧ TripsAt H3 ts (grI xs ys i) ∧ Keep q H2 H3) ⟨[], none, none, none, rfl, hq2, .nil, Keep.refl _ _⟩ (fun i σ H3 _ ⟨_, _, _, _, _, _, _, k3⟩ => SqL.of (k3 _ _ ha2 aq)) ?_ ?_⟩
  · rintro i x p σ H3 hi hp ⟨ts, u4, u5, u6, rfl, hq3, tr, k3⟩
    rw [List.getElem?_map] at hi
    obtain ⟨n, en, rfl⟩ := Option.map_eq_some_iff.mp hi
    obtain ⟨il, eil⟩ := List.getElem?_eq_some_iff.mp en
    have gn : xs.getD i 0 = n := by rw [List.getD_eq_getElem?_getD, en]; rfl
    have s4 : Same H3 (upd H3 p (.tup [.int i, .int n])) := same_new hp _
    refine ⟨p, _, rfl, SqT.of upd_same, rfl, _, _, rfl, _, _, rfl, rfl, ?_⟩
    generalize upd H3 p (.tup [.int i, .int n]) = H4 at s4
    have hd4 := s4 _ _ (k3 _ _ hd dq)
    refine ⟨_, rfl, d, rfl, .inl ⟨_, .inl hd4⟩, _, rfl, (by show 0 ≤ sizeLine; decide), fun z hz => ⟨_, DGet.k (k := Sum.inl n) (same_new hz _ _ _ hd4), ?_⟩⟩
    have s5 : Same H4 (upd H4 z (.lst [])) := same_new hz _
    have hz5 : (upd H4 z (.lst [])) z = some (.lst []) := upd_same
    generalize upd H4 z (.lst []) = H5 at s5 hz5
    have s35 := s4.trans s5
    have hq5 := s35 _ _ hq3
    obtain ⟨v, ev, hv, vq⟩ : ∃ v, (valV kvs (Sum.inl n)).getD (.ref z) = .ref v ∧ H5 v = some (.lst (natV (plT n ys ys.length))) ∧ v ≠ q := by
      rcases sp.at_ n with ⟨e1, e2⟩ | ⟨v, e1, e2, e3⟩
      · exact ⟨z, by rw [e1]; rfl, by rw [e2]; exact hz5, fun q' => by rw [q'] at hz; rw [s4 _ _ hq3] at hz; cases hz⟩
      · have vq : v ≠ q := fun q' => by rw [q', hq0] at e3; cases e3
        exact ⟨v, by rw [e1]; rfl, s35 _ _ (k3 _ _ e2 vq), vq⟩
    rw [ev]
    have ha5 := s35 _ _ (k3 _ _ ha2 aq)
    have hb5 := s35 _ _ (k3 _ _ hb2 bq)
    refine ⟨v, rfl, ⟨_, SqL.of hv⟩, for_list (K := K) (a := v) (xs := natV (plT n ys ys.length)) (fun j σ H6 => ∃ (ts : List Addr) (u6 : Option V), σ = [some (.ref a), some (.ref b), some (.ref q), some (.ref d), some (.int i), some (.int n), u6] ∧ H6 q = some (.lst (ts.map V.ref)) ∧ TripsAt H6 ts (grI xs ys i ++ rowJ xs ys i ((plT n ys ys.length).take j)) ∧ Keep q H5 H6) ⟨ts, u6, rfl, hq5, by simpa [rowJ] using tr.same s35, Keep.refl _ _⟩ (fun j σ H6 _ ⟨_, _, _, _, _, k6⟩ => SqL.of (k6 _ _ hv vq)) ?_ ?_⟩
    · rintro j x σ H6 hj ⟨ts, u6, rfl, hq6, tr6, k6⟩
      unfold natV at hj
      rw [List.getElem?_map] at hj
      obtain ⟨s, es, rfl⟩ := Option.map_eq_some_iff.mp hj
      obtain ⟨sr, sn⟩ := List.mem_filter.mp (List.mem_of_getElem? es)
      have sl := List.mem_range.mp sr
      have st := take_snoc es
      have ha6 := k6 _ _ ha5 aq
      have hb6 := k6 _ _ hb5 bq
      refine ⟨_, rfl, _, rfl, _, rfl, _, rfl, a, b, xs, ys, i, s, rfl, ha6, hb6, il, sl, _, rfl, ?_⟩
      cases e : ahd xs ys i s with
      | true =>
        refine iteF ⟨ts, _, rfl, hq6, ?_, k6⟩
        have z : rowJ xs ys i ((plT n ys ys.length).take (j + 1)) = rowJ xs ys i ((plT n ys ys.length).take j) := by
          unfold rowJ
          rw [st, List.filter_append, List.filter_cons_of_neg (p := fun s => !ahd xs ys i s) (by rw [e]; exact Bool.false_ne_true), List.filter_nil, List.append_nil]
        rw [z]
        exact tr6
      | false =>
        have z : rowJ xs ys i ((plT n ys ys.length).take (j + 1)) = rowJ xs ys i ((plT n ys ys.length).take j) ++ [trip xs ys i s] := by
          unfold rowJ
          rw [st, List.filter_append, List.filter_cons_of_pos (p := fun s => !ahd xs ys i s) (by rw [e]; rfl), List.map_append]
          rfl
        have len : ts.length ≤ 20000 := by
          have l1 := Paired.length tr6
          have l2 := grI_len xs ys i
          have l3 := rowJ_len xs ys i ((plT n ys ys.length).take j)
          have l4 := plT_len n ys ys.length
          rw [List.length_take] at l3
          rw [List.length_append] at l1
          have l5 := Nat.mul_le_mul (show i ≤ 100 by omega) lb
          omega
        refine iteT ⟨_, rfl, .inl ⟨rfl, _, SqL.of hq6⟩, _, rfl, _, rfl, _, rfl, _, rfl, _, rfl, _, rfl, a, b, xs, ys, i, s, rfl, ha6, hb6, il, sl, (by show 3 ≤ sizeLine; decide), fun t ht => ⟨q, _, _, rfl, rfl, same_new ht _ _ _ hq6, (by rw [List.length_map]; exact million (by omega)), ?_⟩⟩
        have k7 : Keep q H6 (upd (upd H6 t (.tup [.int i, .int s, .int (cp (xs.drop i) (ys.drop s) : Nat)])) q (.lst (ts.map V.ref ++ [.ref t]))) := fun b o e n => keep_upd q _ _ b o (same_new ht _ b o e) n
        have tq : t ≠ q := (ne_of_none hq6 ht).symm
        refine ⟨ts ++ [t], _, rfl, by rw [upd_same, List.map_append]; rfl, ?_, fun b o e n => k7 b o (k6 b o e n) n⟩
        rw [z, ← List.append_assoc]
        refine paired_snoc (tr6.tups fun b zs e => k7 b _ e (ne_of e hq6 (by intro z; cases z))) ?_
        show upd _ q _ t = _
        rw [upd_ne tq, upd_same]
        rfl
    · rintro σ H6 ⟨ts, u6, rfl, hq6, tr6, k6⟩
      unfold natV at tr6
      rw [List.length_map, List.take_length] at tr6
      refine ⟨ts, _, _, _, rfl, hq6, ?_, fun b o e n => k6 _ _ (s35 _ _ (k3 b o e n)) n⟩
      rw [grI_succ, rowF, gn]
      exact tr6
  · rintro σ H3 ⟨ts, u4, u5, u6, rfl, hq3, tr, k3⟩
    rw [List.length_map] at tr
    exact ⟨_, rfl, k q ts H3 hq3 tr (keep_of hq (s0.trans s2) k3) hq⟩




theorem at3v {a b c v : Int} (h0 : 0 ≤ v) (h1 : v < 3) : ∃ x, atI [V.int a, V.int b, V.int c] v = some (.int x) ∧ (x = a ∨ x = b ∨ x = c) := by
  have : v = 0 ∨ v = 1 ∨ v = 2 := by omega
  rcases this with rfl | rfl | rfl
  · exact ⟨a, rfl, .inl rfl⟩
  · exact ⟨b, rfl, .inr (.inl rfl)⟩
  · exact ⟨c, rfl, .inr (.inr rfl)⟩
def lbT : TS := fun D σ H => ∃ (l c q : Addr) (few : Int) (u : Option V) (ns : List Int), σ = [some (.ref l), some (.int few), some (.ref q), u] ∧ SrcOk H l c ∧ 0 ≤ few ∧ few < 3 ∧ H q = some (.lst (ns.map V.int)) ∧ ns.length ≤ 100 ∧ q ≠ l ∧ q ≠ c ∧
  ∀ (v : Int) (H' : Hp), SrcOk H' l c → (∀ a o, H a = some o → a ≠ l → a ≠ q → H' a = some o) → H' q = some (.lst ((ns ++ [v]).map V.int)) → D.nx [some (.ref l), some (.int few), some (.ref q), u] H'
def spListBy : Sp := fun vs H Q _ => ∃ (l c : Addr), vs = [.ref l] ∧ SrcOk H l c ∧ ∀ (q : Addr) (ns : List Int) (H' : Hp), H' q = some (.lst (ns.map V.int)) → ns.length ≤ 16 → SrcOk H' l c → Keep l H H' → H q = none → Q (.ref q) H'
abbrev s_law_list_by : Stmt := top 10
theorem sc_law_list_by : FnScope ["_law_src_here", "_law_few", "_law_numbers", "_law_k"] ["_law_src_here"] (defScope s_law_list_by) := ⟨rfl, rfl, rfl, by decide +kernel, rfl, by decide +kernel, by decide +kernel⟩
theorem ok_law_list_by {f fN : Addr} {fd fdN : FuncData} (F : Fun K "_law_list_by" "_law_list_by" s_law_list_by f fd) (T : Nms mg) (d_law_next : DefAt K mg "_law_next" s_law_next ["_law_src_here", "_law_base"] fN fdN) : FnOk P w K mg base CX0 2 f fd ["_law_src_here"] spListBy := by
  have g_law_next : FnOk P w K mg base CX0 1 fN fdN ["_law_src_here", "_law_base"] spNext := ok_law_next d_law_next.F T
  refine F.ok sc_law_list_by (fun vs H Q E h => ?_) (fun cdv A outer s H vs Q E hr h => ?_)
  · obtain ⟨l, c, rfl, _⟩ := h
    rfl
  obtain ⟨l, c, rfl, S, k⟩ := h
  refine ⟨_, (pss_cons (ps_set (i := 1) sc_law_list_by.nd rfl (Or.inl rfl) (pe_def d_law_next g_law_next hr (pa_cons (pv 0) (pa_cons pe_int pa_nil))))
      (pss_cons (ps_set (i := 2) sc_law_list_by.nd rfl (Or.inl rfl) (pe_lst pa_nil))
      (pss_cons (ps_for PassesOwn.never rfl (pi_range1 rfl T.n_range (pa_cons (pe_def d_law_next g_law_next hr (pa_cons (pv 0) (pa_cons (pe_ix ix_list (pe_lst (pa_cons pe_int (pa_cons pe_int (pa_cons pe_int pa_nil)))) (pv 1) (fun _ _ => rfl)) pa_nil))) pa_nil)) (pg_name (i := 3) sc_law_list_by.nd rfl (Or.inl rfl))
      (pss_one (ps_if (PW.pt (pw_and (pt_cmpR op_gt (pv 3) pe_int (nomark _)) (pw_and1 (pt_cmpR op_eq (pe_def d_law_next g_law_next hr (pa_cons (pv 0) (pa_cons pe_int pa_nil))) pe_int (nomark _)))))
      (pss_one (ps_expr (pe_bm PySem.F.plainAttrs_list PySem.F.slot_list_append PySem.F.type_list_append mt_append (pv 2) (pa_cons (pe_op op_add (pe_ix ix_list (pv 2) (pe_un un_neg pe_int) (fun _ _ => rfl)) pe_int) pa_nil))))
      (pss_one (ps_imp (t' := lbT) (ps_expr (pe_bm PySem.F.plainAttrs_list PySem.F.slot_list_append PySem.F.type_list_append mt_append (pv 2) (pa_cons (pe_def d_law_next g_law_next hr (pa_cons (pv 0) (pa_cons (pe_ix ix_list (pe_lst (pa_cons (pe_op op_pow pe_int pe_int) (pa_cons pe_int (pa_cons pe_int pa_nil)))) (pv 1) (fun _ _ => rfl)) pa_nil))) pa_nil))) ?b1)))))
      (pss_one (ps_ret (pv 2)))))), ?_⟩
  case b1 =>
    rintro D σ H ⟨l, c, q, few, u, ns, rfl, S, f0, f1, hq, nl, ql, qc, k⟩
    obtain ⟨x, hx, hor⟩ := at3v (a := 10 ^ (20 : Int).toNat) (b := 2) (c := 12) f0 f1
    refine ⟨_, rfl, .inl ⟨rfl, _, SqL.of hq⟩, _, rfl, _, _, rfl, rfl, ⟨by decide, by decide, by decide⟩, (by show 3 ≤ sizeLine; decide), fun z hz => ?_⟩
    have s1 : Same H (upd H z (.lst [.int (10 ^ (20 : Int).toNat), .int 2, .int 12])) := same_new hz _
    have bd : 0 < x ∧ x < 10 ^ 70 := by
      rcases hor with rfl | rfl | rfl
      · exact ⟨by decide, by decide⟩
      · exact ⟨by decide, by decide⟩
      · exact ⟨by decide, by decide⟩
    refine ⟨_, rfl, z, _, _, _, rfl, rfl, SqL.of upd_same, hx, l, c, x, rfl, S.same s1, bd.1, bd.2, fun v H2 _ _ S2 k2 => ?_⟩
    have hq2 : H2 q = some (.lst (ns.map V.int)) := (k2 q ql).trans (s1 _ _ hq)
    refine ⟨q, _, _, rfl, rfl, hq2, (by rw [List.length_map]; exact million (by omega)), ?_⟩
    refine k v _ (S2.keep (keep_upd q _ _) ql.symm qc.symm) (fun a o e n m => keep_upd q _ _ a o ?_ m) (by rw [upd_same, List.map_append]; rfl)
    rw [k2 a n]
    exact s1 a o e
  refine ⟨_, rfl, l, c, 3, rfl, S, by decide, by decide, fun few H1 f0 f1 S1 k1 => ⟨(by show 0 ≤ sizeLine; decide), fun q hq => ?_⟩⟩
  have s2 : Same H1 (upd H1 q (.lst [])) := same_new hq _
  have hq2 : (upd H1 q (.lst [])) q = some (.lst (([] : List Int).map V.int)) := upd_same
  generalize upd H1 q (.lst []) = H2 at s2 hq2
  have S2 := S1.same s2
  have ql : q ≠ l := (S1.ne hq).1.symm
  have qc : q ≠ c := (S1.ne hq).2.symm
  have fq : H q = none := (k1 q ql).symm.trans hq
  obtain ⟨x, hx, hor⟩ := at3v (a := 9) (b := 17) (c := 17) f0 f1
  refine ⟨_, rfl, (by show 3 ≤ sizeLine; decide), fun z hz => ?_⟩
  have s3 : Same H2 (upd H2 z (.lst [.int 9, .int 17, .int 17])) := same_new hz _
  refine ⟨_, rfl, z, _, _, _, rfl, rfl, SqL.of upd_same, hx, l, c, x, rfl, S2.same s3, by omega, by omega, fun n H4 n0 n1 S4 k4 => ⟨n, rfl, by omega, by omega, ?_⟩⟩
  refine for_range (lo := 0) (n := n.toNat) (fun i σ H5 => ∃ (u : Option V) (ns : List Int), σ = [some (.ref l), some (.int few), some (.ref q), u] ∧ H5 q = some (.lst (ns.map V.int)) ∧ ns.length = i ∧ SrcOk H5 l c ∧ Keep l H H5) ⟨none, [], rfl, (k4 q ql).trans (s3 _ _ hq2), rfl, S4, fun a o e m => ?_⟩ ?_ ?_
  · rw [k4 a m]
    refine s3 _ _ (s2 _ _ ?_)
    rw [k1 a m]
    exact e
  · rintro i σ H5 hi ⟨u, ns, rfl, hq5, nl, S5, K5⟩
    have bl : (ns.map V.int).length < sizeLine := by rw [List.length_map]; exact million (by omega)
    refine ⟨_, rfl, _, _, rfl, rfl, _, rfl, ite2 (fun c1 => ?_) (fun c1 => iteF ?_)⟩
    · have c1' : (0 : Int) < 0 + (i : Int) := of_decide_eq_true c1
      refine ⟨_, rfl, l, c, 2, rfl, S5, by decide, by decide, fun v2 H6 w0 w1 S6 k6 => ⟨rfl, _, rfl, ite2 (fun c2 => ?_) (fun c2 => ?_)⟩⟩
      · obtain ⟨ms, m, em⟩ := last_int (ns := ns) (by omega)
        have hq6 : H6 q = some (.lst (ns.map V.int)) := (k6 q ql).trans hq5
        have hq7 : H6 q = some (.lst (ms.map V.int ++ [.int m])) := by rw [hq6, em, List.map_append]; rfl
        refine ⟨_, rfl, .inl ⟨rfl, _, SqL.of hq6⟩, _, rfl, _, rfl, q, _, _, _, rfl, rfl, SqL.of hq7, atI_neg1 _ _, _, _, rfl, rfl, q, _, _, rfl, rfl, hq6, bl, ?_⟩
        refine ⟨_, ns ++ [m + 1], rfl, by rw [upd_same, List.map_append]; rfl, by rw [List.length_append, nl]; rfl, S6.keep (keep_upd q _ _) ql.symm qc.symm, fun a o e n => keep_upd q _ _ a o ?_ (ne_of_none e fq)⟩
        rw [k6 a n]
        exact K5 a o e n
      · refine ⟨l, c, q, few, _, ns, rfl, S6, f0, f1, (k6 q ql).trans hq5, by omega, ql, qc, fun v H7 S7 k7 h7 => ?_⟩
        refine ⟨_, ns ++ [v], rfl, h7, by rw [List.length_append, nl]; rfl, S7, fun a o e n => k7 a o ?_ n (ne_of_none e fq)⟩
        rw [k6 a n]
        exact K5 a o e n
    · refine ⟨l, c, q, few, _, ns, rfl, S5, f0, f1, hq5, by omega, ql, qc, fun v H7 S7 k7 h7 => ?_⟩
      exact ⟨_, ns ++ [v], rfl, h7, by rw [List.length_append, nl]; rfl, S7, fun a o e n => k7 a o (K5 a o e n) n (ne_of_none e fq)⟩
  · rintro σ H5 ⟨u, ns, rfl, hq5, nl, S5, K5⟩
    exact ⟨_, rfl, k q ns H5 hq5 (by omega) S5 K5 fq⟩

def spPairBy : Sp := fun vs H Q _ => ∃ (l c : Addr), vs = [.ref l] ∧ SrcOk H l c ∧ ∀ (p a b : Addr) (xs ys : List Int) (H' : Hp), H' p = some (.tup [.ref a, .ref b]) → H' a = some (.lst (xs.map V.int)) → H' b = some (.lst (ys.map V.int)) → xs.length ≤ 16 → ys.length ≤ 48 → SrcOk H' l c → Keep l H H' → a ≠ l → b ≠ l → Q (.ref p) H'
abbrev s_law_pair_by : Stmt := top 11
theorem sc_law_pair_by : FnScope ["_law_src_here", "_law_ones", "_law_others", "_law_start", "_law_spot"] ["_law_src_here"] (defScope s_law_pair_by) := ⟨rfl, rfl, rfl, by decide +kernel, rfl, by decide +kernel, by decide +kernel⟩
theorem ok_law_pair_by {f fN fL : Addr} {fd fdN fdL : FuncData} (F : Fun K "_law_pair_by" "_law_pair_by" s_law_pair_by f fd) (T : Nms mg) (d_law_next : DefAt K mg "_law_next" s_law_next ["_law_src_here", "_law_base"] fN fdN) (d_law_list_by : DefAt K mg "_law_list_by" s_law_list_by ["_law_src_here"] fL fdL) : FnOk P w K mg base CX0 3 f fd ["_law_src_here"] spPairBy := by
  have g_law_next : FnOk P w K mg base CX0 1 fN fdN ["_law_src_here", "_law_base"] spNext := ok_law_next d_law_next.F T
  have g_law_list_by : FnOk P w K mg base CX0 2 fL fdL ["_law_src_here"] spListBy := ok_law_list_by d_law_list_by.F T d_law_next
  refine F.ok sc_law_pair_by (fun vs H Q E h => ?_) (fun cdv A outer s H vs Q E hr h => ?_)
  · obtain ⟨l, c, rfl, _⟩ := h
    rfl
  obtain ⟨l, c, rfl, S, k⟩ := h
  refine ⟨_, (pss_cons (ps_set (i := 1) sc_law_pair_by.nd rfl (Or.inl rfl) (pe_def d_law_list_by g_law_list_by hr (pa_cons (pv 0) pa_nil)))
      (pss_cons (ps_set (i := 2) sc_law_pair_by.nd rfl (Or.inl rfl) (pe_def d_law_list_by g_law_list_by hr (pa_cons (pv 0) pa_nil)))
      (pss_cons (ps_if (PW.pt (pw_and (pt_cmpR op_eq (pe_def d_law_next g_law_next hr (pa_cons (pv 0) (pa_cons pe_int pa_nil))) pe_int (nomark _)) (pw_and1 (pt_cmpR op_gt (pe_callB call_len_seq rfl T.n_len PySem.boot_len (pa_cons (pv 1) pa_nil)) pe_int (nomark _)))))
      (pss_cons (ps_set (i := 3) sc_law_pair_by.nd rfl (Or.inl rfl) (pe_def d_law_next g_law_next hr (pa_cons (pv 0) (pa_cons (pe_callB call_len_seq rfl T.n_len PySem.boot_len (pa_cons (pv 1) pa_nil)) pa_nil))))
      (pss_cons (ps_set (i := 4) sc_law_pair_by.nd rfl (Or.inl rfl) (pe_def d_law_next g_law_next hr (pa_cons (pv 0) (pa_cons (pe_op op_add (pe_callB call_len_seq rfl T.n_len PySem.boot_len (pa_cons (pv 2) pa_nil)) pe_int) pa_nil))))
      (pss_one (ps_set (i := 2) sc_law_pair_by.nd rfl (Or.inl rfl) (pe_op op_cat (pe_op op_cat (pe_slice sl_list (pv 2) po_none (po_some (pv 4))) (pe_slice sl_list (pv 1) (po_some (pv 3)) (po_some (pe_op op_add (pe_op op_add (pv 3) pe_int) (pe_def d_law_next g_law_next hr (pa_cons (pv 0) (pa_cons pe_int pa_nil))))))) (pe_slice sl_list (pv 2) (po_some (pv 4)) po_none))))))
      pss_nil)
      (pss_one (ps_ret (pe_tup (pa_cons (pv 1) (pa_cons (pv 2) pa_nil)))))))), ?_⟩
  refine ⟨_, rfl, l, c, rfl, S, fun a xs H1 ha1 la S1 K1 fa => ?_⟩
  have al : a ≠ l := (S.ne fa).1.symm
  refine ⟨_, rfl, l, c, rfl, S1, fun b ys H2 hb2 lb S2 K2 fb => ?_⟩
  have bl : b ≠ l := (S1.ne fb).1.symm
  have ha2 := K2 _ _ ha1 al
  refine ⟨_, rfl, l, c, 2, rfl, S2, by decide, by decide, fun v H3 v0 v1 S3 k3 => ⟨rfl, _, rfl, ?_⟩⟩
  have K3 : Keep l H H3 := fun x o e n => (k3 x n).trans (K2 _ _ (K1 x o e n) n)
  have ha3 := (k3 a al).trans ha2
  have hb3 := (k3 b bl).trans hb2
  refine if_and (p := V.int v = V.int 0) (q := (0 : Int) < xs.length) (fun z => ⟨_, rfl, a, _, rfl, .inl (SqL.of ha3), _, _, rfl, rfl, _, rfl, (by rw [List.length_map]; exact z)⟩) (fun cc => ?_) (fun _ => ?_)
  · have xl : 0 < xs.length := by omega
    refine ⟨_, rfl, _, rfl, a, _, rfl, .inl (SqL.of ha3), l, c, _, rfl, S3, (by rw [List.length_map]; omega), (by rw [List.length_map]; omega), fun st H4 st0 st1 S4 k4 => ?_⟩
    have ha4 := (k4 a al).trans ha3
    have hb4 := (k4 b bl).trans hb3
    refine ⟨_, rfl, _, rfl, b, _, rfl, .inl (SqL.of hb4), _, _, rfl, rfl, l, c, _, rfl, S4, (by rw [List.length_map]; omega), (by rw [List.length_map]; omega), fun sp H5 sp0 sp1 S5 k5 => ?_⟩
    have ha5 := (k5 a al).trans ha4
    have hb5 := (k5 b bl).trans hb4
    obtain ⟨m1, em1⟩ := cut_ints ys none (some sp)
    have l1 := cutV_length (ys.map V.int) none (some sp)
    rw [em1, List.length_map, List.length_map] at l1
    refine ⟨_, rfl, _, rfl, _, rfl, b, _, rfl, SqL.of hb5, fun c1 hc1 => ?_⟩
    rw [em1]
    have s6 : Same H5 (upd H5 c1 (.lst (m1.map V.int))) := same_new hc1 _
    have h6 : (upd H5 c1 (.lst (m1.map V.int))) c1 = some (.lst (m1.map V.int)) := upd_same
    have c1l : c1 ≠ l := (S5.ne hc1).1.symm
    generalize upd H5 c1 (.lst (m1.map V.int)) = H6 at s6 h6
    refine ⟨_, rfl, _, rfl, _, rfl, _, rfl, _, _, rfl, rfl, _, rfl, l, c, 8, rfl, S5.same s6, by decide, by decide, fun e8 H7 e80 e81 S7 k7 => ⟨_, _, rfl, rfl, _, rfl, ?_⟩⟩
    have ha7 := (k7 a al).trans (s6 _ _ ha5)
    have hb7 := (k7 b bl).trans (s6 _ _ hb5)
    have h7 := (k7 c1 c1l).trans h6
    obtain ⟨m2, em2⟩ := cut_ints xs (some st) (some (st + 1 + e8))
    have l2 := cutV_length (xs.map V.int) (some st) (some (st + 1 + e8))
    rw [em2, List.length_map, List.length_map] at l2
    refine ⟨a, _, rfl, SqL.of ha7, fun c2 hc2 => ?_⟩
    rw [em2]
    have s8 : Same H7 (upd H7 c2 (.lst (m2.map V.int))) := same_new hc2 _
    have h8 : (upd H7 c2 (.lst (m2.map V.int))) c2 = some (.lst (m2.map V.int)) := upd_same
    generalize upd H7 c2 (.lst (m2.map V.int)) = H8 at s8 h8
    refine ⟨c1, c2, _, _, rfl, rfl, s8 _ _ h7, h8, (by rw [List.length_map, List.length_map]; exact Nat.le_of_lt (million (by omega))), fun c3 hc3 => ?_⟩
    have s9 : Same H8 (upd H8 c3 (.lst (m1.map V.int ++ m2.map V.int))) := same_new hc3 _
    have h9 : (upd H8 c3 (.lst (m1.map V.int ++ m2.map V.int))) c3 = some (.lst ((m1 ++ m2).map V.int)) := by rw [upd_same, List.map_append]
    generalize upd H8 c3 (.lst (m1.map V.int ++ m2.map V.int)) = H9 at s9 h9
    obtain ⟨m3, em3⟩ := cut_ints ys (some sp) none
    have l3 := cutV_length (ys.map V.int) (some sp) none
    rw [em3, List.length_map, List.length_map] at l3
    refine ⟨_, rfl, _, rfl, _, rfl, b, _, rfl, SqL.of (s9 _ _ (s8 _ _ hb7)), fun c4 hc4 => ?_⟩
    rw [em3]
    have s10 : Same H9 (upd H9 c4 (.lst (m3.map V.int))) := same_new hc4 _
    have h10 : (upd H9 c4 (.lst (m3.map V.int))) c4 = some (.lst (m3.map V.int)) := upd_same
    generalize upd H9 c4 (.lst (m3.map V.int)) = H10 at s10 h10
    refine ⟨c3, c4, _, _, rfl, rfl, s10 _ _ h9, h10, (by rw [List.length_map, List.length_map, List.length_append]; exact Nat.le_of_lt (million (by omega))), fun c5 hc5 => ?_⟩
    have s11 : Same H10 (upd H10 c5 (.lst ((m1 ++ m2).map V.int ++ m3.map V.int))) := same_new hc5 _
    have h11 : (upd H10 c5 (.lst ((m1 ++ m2).map V.int ++ m3.map V.int))) c5 = some (.lst ((m1 ++ m2 ++ m3).map V.int)) := by rw [upd_same, List.map_append (l₁ := m1 ++ m2)]
    have s710 := s8.trans (s9.trans s10)
    have c5l : c5 ≠ l := ((S7.same s710).ne hc5).1.symm
    generalize upd H10 c5 (.lst ((m1 ++ m2).map V.int ++ m3.map V.int)) = H11 at s11 h11
    have s711 := s710.trans s11
    refine ⟨_, rfl, _, rfl, (by show 2 ≤ sizeLine; decide), fun p hp => ?_⟩
    have s12 : Same H11 (upd H11 p (.tup [.ref a, .ref c5])) := same_new hp _
    have s712 := s711.trans s12
    refine k p a c5 xs (m1 ++ m2 ++ m3) _ upd_same (s712 _ _ ha7) (s12 _ _ h11) la (by rw [List.length_append, List.length_append]; omega) (S7.same s712) (fun x o e n => s712 _ _ ((k7 x n).trans (s6 _ _ ?_))) al c5l
    rw [k5 x n, k4 x n]
    exact K3 x o e n
  · refine ⟨_, rfl, _, rfl, (by show 2 ≤ sizeLine; decide), fun p hp => ?_⟩
    have s4 : Same H3 (upd H3 p (.tup [.ref a, .ref b])) := same_new hp _
    exact k p a b xs ys _ upd_same (s4 _ _ ha3) (s4 _ _ hb3) la (by omega) (S3.same s4) (fun x o e n => s4 _ _ (K3 x o e n)) al bl

def ptsN (t : Trip) (n : Nat) : List (Int × Int) := (List.range n).map fun k : Nat => (t.1 + k, t.2.1 + k)
def allP (T : List Trip) : List (Int × Int) := T.flatMap fun t => ptsN t t.2.2.toNat
structure Cov (kvs : List (List Key × V)) (P : List (Int × Int)) : Prop where
  val : ∀ a b : Int, (valV kvs [Sum.inl a, Sum.inl b]).getD (.int 0) = V.int (P.count (a, b) : Nat)
  len : kvs.length ≤ P.length
theorem Cov.nil : Cov [] [] := ⟨fun a b => rfl, Nat.le_refl _⟩
theorem Cov.put {kvs : List (List Key × V)} {P : List (Int × Int)} (h : Cov kvs P) (a b : Int) : Cov (putK kvs [Sum.inl a, Sum.inl b] (.int ((P.count (a, b) : Nat) + 1))) (P ++ [(a, b)]) := by
  refine ⟨fun x y => ?_, ?_⟩
  · rw [valV_put, List.count_append, List.count_singleton]
    by_cases e : x = a ∧ y = b
    · obtain ⟨rfl, rfl⟩ := e
      rw [if_pos rfl]
      simp
    · have n1 : ¬ ([Sum.inl x, Sum.inl y] : List Key) = [Sum.inl a, Sum.inl b] := fun z => by
        injection z with z1 z2
        injection z2 with z2 _
        exact e ⟨Sum.inl.inj z1, Sum.inl.inj z2⟩
      have n2 : ((a, b) == (x, y)) = false := by
        rw [beq_eq_false_iff_ne]
        intro z
        injection z with z1 z2
        exact e ⟨z1.symm, z2.symm⟩
      rw [if_neg n1, h.val, n2]
      simp
  · have := length_putK kvs [Sum.inl a, Sum.inl b] (V.int ((P.count (a, b) : Nat) + 1))
    have := h.len
    rw [List.length_append]
    simp only [List.length_singleton]
    omega
theorem mem_pts {t : Trip} {n : Nat} {p : Int × Int} (h : p ∈ ptsN t n) : ∃ k : Nat, k < n ∧ p = (t.1 + k, t.2.1 + k) := by
  obtain ⟨k, hk, rfl⟩ := List.mem_map.mp h
  exact ⟨k, List.mem_range.mp hk, rfl⟩
theorem Rt.at_ {xs ys : List Int} {f s m : Nat} (h : Rt xs ys f s m) {k : Nat} (hk : k < m) : xs[f + k]? = ys[s + k]? := by
  have e := congrArg (fun l => l[k]?) h.eq
  simp only [List.getElem?_take_of_lt hk, List.getElem?_drop] at e
  exact e
theorem pts_nodup (t : Trip) (n : Nat) : (ptsN t n).Nodup := by
  unfold ptsN
  rw [List.Nodup, List.pairwise_map]
  refine List.pairwise_lt_range.imp fun {a b} h z => ?_
  injection z with z1 _
  omega
theorem all_nodup (xs ys : List Int) : (allP (grI xs ys xs.length)).Nodup := by
  unfold allP
  rw [List.Nodup, List.pairwise_flatMap]
  refine ⟨fun t _ => pts_nodup _ _, ?_⟩
  have mem : (grI xs ys xs.length).Pairwise fun t u => t ∈ grI xs ys xs.length ∧ u ∈ grI xs ys xs.length ∧ TLt t u := by
    have z := List.pairwise_iff_getElem.mp (gr_rise xs ys xs.length)
    rw [List.pairwise_iff_getElem]
    intro i j hi hj ij
    exact ⟨List.getElem_mem hi, List.getElem_mem hj, z i j hi hj ij⟩
  refine mem.imp fun {t u} ⟨h1, h2, lt⟩ p hp q hq e => ?_
  obtain ⟨f, s, rfl, rt⟩ := gr_right h1
  obtain ⟨g, r, rfl, rg⟩ := gr_right h2
  obtain ⟨k, hk, rfl⟩ := mem_pts hp
  obtain ⟨j, hj, rfl⟩ := mem_pts hq
  have hk' : k < cp (xs.drop f) (ys.drop s) := by simpa [trip] using hk
  have hj' : j < cp (xs.drop g) (ys.drop r) := by simpa [trip] using hj
  injection e with e1 e2
  have e1' : (f : Int) + k = g + j := e1
  have e2' : (s : Int) + k = r + j := e2
  have lt' : (f : Int) < g ∨ (f : Int) = g ∧ (s : Int) < r := lt
  rcases lt' with lt' | ⟨_, lt'⟩
  · -- the later one begins within the earlier
    have ge : g = f + (g - f) := by omega
    have z := rt.at_ (k := g - f - 1) (by omega)
    have a1 : f + (g - f - 1) = g - 1 := by omega
    have a2 : s + (g - f - 1) = r - 1 := by omega
    rw [a1, a2] at z
    have ah := rg.ah
    unfold ahd at ah
    rw [decide_eq_true (show 0 < g by omega), decide_eq_true (show 0 < r by omega), decide_eq_true z] at ah
    cases ah
  · omega
theorem back_walk (xs ys : List Int) : ∀ (i j : Nat) (x : Int), xs[i]? = some x → ys[j]? = some x → ∃ f s k : Nat, i = f + k ∧ j = s + k ∧ ahd xs ys f s = false ∧ k < cp (xs.drop f) (ys.drop s) := by
  intro i
  induction i with
  | zero =>
    intro j x hi hj
    refine ⟨0, j, 0, rfl, rfl, by simp [ahd], (cp_lt _ _ 0 (Nat.zero_le _)).mpr ⟨x, ?_, ?_⟩⟩
    · simpa using hi
    · rw [List.getElem?_drop]; simpa using hj
  | succ i ih =>
    intro j x hi hj
    cases e : ahd xs ys (i + 1) j with
    | false =>
      refine ⟨i + 1, j, 0, rfl, rfl, e, (cp_lt _ _ 0 (Nat.zero_le _)).mpr ⟨x, ?_, ?_⟩⟩
      · rw [List.getElem?_drop]; simpa using hi
      · rw [List.getElem?_drop]; simpa using hj
    | true =>
      unfold ahd at e
      rw [Bool.and_eq_true, Bool.and_eq_true] at e
      obtain ⟨_, e2, e3⟩ := e
      have j0 : 0 < j := of_decide_eq_true e2
      have z := of_decide_eq_true e3
      have il : i < xs.length := by have := (List.getElem?_eq_some_iff.mp hi).1; omega
      have z1 : xs[i]? = some xs[i] := List.getElem?_eq_getElem il
      have z2 : ys[j - 1]? = some xs[i] := by rw [← z]; exact z1
      obtain ⟨f, s, k, h1, h2, h3, h4⟩ := ih (j - 1) xs[i] z1 z2
      refine ⟨f, s, k + 1, by omega, by omega, h3, (cp_lt _ _ (k + 1) h4).mpr ⟨x, ?_, ?_⟩⟩
      · rw [List.getElem?_drop, show f + (k + 1) = i + 1 by omega]; exact hi
      · rw [List.getElem?_drop, show s + (k + 1) = j by omega]; exact hj
theorem in_gr {xs ys : List Int} {f s : Nat} (ah : ahd xs ys f s = false) (pos : 0 < cp (xs.drop f) (ys.drop s)) : trip xs ys f s ∈ grI xs ys xs.length := by
  obtain ⟨x, h1, h2⟩ := (cp_lt _ _ 0 (Nat.zero_le _)).mp pos
  rw [List.getElem?_drop, Nat.add_zero] at h1 h2
  have fl := (List.getElem?_eq_some_iff.mp h1).1
  unfold grI
  refine List.mem_flatMap.mpr ⟨f, List.mem_range.mpr fl, ?_⟩
  unfold rowF rowJ
  refine List.mem_map.mpr ⟨s, List.mem_filter.mpr ⟨List.mem_filter.mpr ⟨List.mem_range.mpr (List.getElem?_eq_some_iff.mp h2).1, decide_eq_true ?_⟩, by rw [ah]; rfl⟩, rfl⟩
  rw [List.getD_eq_getElem?_getD, h1, h2]
  rfl
theorem all_mem (xs ys : List Int) (i j : Nat) (hi : i < xs.length) (hj : j < ys.length) : ((i : Int), (j : Int)) ∈ allP (grI xs ys xs.length) ↔ xs[i]? = ys[j]? := by
  unfold allP
  rw [List.mem_flatMap]
  constructor
  · rintro ⟨t, ht, hp⟩
    obtain ⟨f, s, rfl, rt⟩ := gr_right ht
    obtain ⟨k, hk, e⟩ := mem_pts hp
    have hk' : k < cp (xs.drop f) (ys.drop s) := by simpa [trip] using hk
    injection e with e1 e2
    have e1' : (i : Int) = f + k := e1
    have e2' : (j : Int) = s + k := e2
    have z := rt.at_ hk'
    rw [show f + k = i by omega, show s + k = j by omega] at z
    exact z
  · intro e
    have h1 : xs[i]? = some xs[i] := List.getElem?_eq_getElem hi
    obtain ⟨f, s, k, a1, a2, a3, a4⟩ := back_walk xs ys i j xs[i] h1 (by rw [← e]; exact h1)
    refine ⟨_, in_gr a3 (by omega), ?_⟩
    unfold ptsN
    refine List.mem_map.mpr ⟨k, List.mem_range.mpr (by simpa [trip] using a4), ?_⟩
    show ((f : Int) + k, (s : Int) + k) = _
    rw [a1, a2]
    simp
theorem all_count (xs ys : List Int) (i j : Nat) (hi : i < xs.length) (hj : j < ys.length) : (allP (grI xs ys xs.length)).count ((i : Int), (j : Int)) = if xs[i]? = ys[j]? then 1 else 0 := by
  by_cases e : xs[i]? = ys[j]?
  · rw [if_pos e]
    exact (all_nodup xs ys).count.trans (if_pos ((all_mem xs ys i j hi hj).mpr e))
  · rw [if_neg e, List.count_eq_zero]
    exact fun z => e ((all_mem xs ys i j hi hj).mp z)
theorem pts_succ (t : Trip) (n : Nat) : ptsN t (n + 1) = ptsN t n ++ [(t.1 + n, t.2.1 + n)] := by
  unfold ptsN
  rw [List.range_succ, List.map_append]
  rfl
theorem allP_snoc {T : List Trip} {i : Nat} {t : Trip} (e : T[i]? = some t) : allP (T.take (i + 1)) = allP (T.take i) ++ ptsN t t.2.2.toNat := by
  unfold allP
  rw [take_snoc e, List.flatMap_append, List.flatMap_singleton]
def cvT1 : TS := fun D σ H => ∃ (a b : Addr) (xs ys : List Int) (i j : Nat) (s2 s3 s6 s7 : Option V), σ = [some (.ref a), some (.ref b), s2, s3, some (.int i), some (.int j), s6, s7, some (.int 0)] ∧ H a = some (.lst (xs.map V.int)) ∧ H b = some (.lst (ys.map V.int)) ∧ i < xs.length ∧ j < ys.length ∧
  D.nx [some (.ref a), some (.ref b), s2, s3, some (.int i), some (.int j), s6, s7, some (.int (if xs[i]? = ys[j]? then 1 else 0))] H
def spCovered : Sp := fun vs H Q _ => ∃ (a b q : Addr) (xs ys : List Int) (ts : List Addr), vs = [.ref a, .ref b, .ref q] ∧ H a = some (.lst (xs.map V.int)) ∧ H b = some (.lst (ys.map V.int)) ∧ H q = some (.lst (ts.map V.ref)) ∧ TripsAt H ts (grI xs ys xs.length) ∧ xs.length ≤ 50 ∧ ys.length ≤ 50 ∧ ∀ H', Same H H' → Q (.bl true) H'
abbrev s_law_covered : Stmt := top 12
theorem sc_law_covered : FnScope ["_law_ones", "_law_others", "_law_told", "_law_cover", "_law_here", "_law_there", "_law_many", "_law_k", "_law_due"] ["_law_ones", "_law_others", "_law_told"] (defScope s_law_covered) := ⟨rfl, rfl, rfl, by decide +kernel, rfl, by decide +kernel, by decide +kernel⟩
theorem ok_law_covered {f : Addr} {fd : FuncData} (F : Fun K "_law_covered" "_law_covered" s_law_covered f fd) (T : Nms mg) : FnOk P w K mg base CX0 1 f fd ["_law_ones", "_law_others", "_law_told"] spCovered := by
  refine F.ok sc_law_covered (fun vs H Q E h => ?_) (fun cdv A outer s H vs Q E hr h => ?_)
  · obtain ⟨a, b, q, xs, ys, ts, rfl, _⟩ := h
    rfl
  obtain ⟨a, b, q, xs, ys, ts, rfl, ha, hb, hq, tr, la, lb, k⟩ := h
  have hu := hu_of hr
  refine ⟨_, (pss_cons (ps_set (i := 3) sc_law_covered.nd rfl (Or.inl rfl) pe_dnewT)
      (pss_cons (ps_for PassesOwn.never rfl (pi_list (pv 2)) (pg_tup (n := 3) rfl (pgs_cons (pg_name (i := 4) sc_law_covered.nd rfl (Or.inl rfl)) (pgs_cons (pg_name (i := 5) sc_law_covered.nd rfl (Or.inl rfl)) (pgs_cons (pg_name (i := 6) sc_law_covered.nd rfl (Or.inl rfl)) pgs_nil))))
      (pss_one (ps_for PassesOwn.never rfl (pi_range1 rfl T.n_range (pa_cons (pe_callB (call_min2 rfl) rfl T.n_min PyProof.Rows.boot_min (pa_cons (pv 6) (pa_cons (pe_callB call_len_seq rfl T.n_len PySem.boot_len (pa_cons (pv 0) pa_nil)) pa_nil))) pa_nil)) (pg_name (i := 7) sc_law_covered.nd rfl (Or.inl rfl))
      (pss_one (ps_dput hu (pv 3) (pe_tup (pa_cons (pe_op op_add (pv 4) (pv 7)) (pa_cons (pe_op op_add (pv 5) (pv 7)) pa_nil))) (pe_op op_add (pe_dget2 hu (pv 3) (pe_tup (pa_cons (pe_op op_add (pv 4) (pv 7)) (pa_cons (pe_op op_add (pv 5) (pv 7)) pa_nil))) pe_int ⟨rfl, rfl, rfl, rfl⟩) pe_int) rfl)))))
      (pss_cons (ps_for PassesOwn.never rfl (pi_range1 rfl T.n_range (pa_cons (pe_callB call_len_seq rfl T.n_len PySem.boot_len (pa_cons (pv 0) pa_nil)) pa_nil)) (pg_name (i := 4) sc_law_covered.nd rfl (Or.inl rfl))
      (pss_one (ps_for PassesOwn.never rfl (pi_range1 rfl T.n_range (pa_cons (pe_callB call_len_seq rfl T.n_len PySem.boot_len (pa_cons (pv 1) pa_nil)) pa_nil)) (pg_name (i := 5) sc_law_covered.nd rfl (Or.inl rfl))
      (pss_cons (ps_set (i := 8) sc_law_covered.nd rfl (Or.inl rfl) pe_int)
      (pss_cons (ps_imp (t' := cvT1) (ps_if (pt_cmpR op_eq (pe_ix ix_list (pv 0) (pv 4) (fun _ _ => rfl)) (pe_ix ix_list (pv 1) (pv 5) (fun _ _ => rfl)) (nomark _))
      (pss_one (ps_set (i := 8) sc_law_covered.nd rfl (Or.inl rfl) pe_int))
      pss_nil) ?b1)
      (pss_one (ps_if (pt_cmpR op_ne (pe_dget2 hu (pv 3) (pe_tup (pa_cons (pv 4) (pa_cons (pv 5) pa_nil))) pe_int ⟨rfl, rfl, rfl, rfl⟩) (pv 8) (nomark _))
      (pss_one (ps_ret pe_bl))
      pss_nil)))))))
      (pss_one (ps_ret pe_bl))))), ?_⟩
  case b1 =>
    rintro D σ H ⟨a, b, xs, ys, i, j, s2, s3, s6, s7, rfl, ha, hb, il, jl, k⟩
    refine ⟨_, rfl, _, rfl, a, _, _, _, rfl, rfl, SqL.of ha, at_int il, _, rfl, _, rfl, b, _, _, _, rfl, rfl, SqL.of hb, at_int jl, rfl, _, rfl, ite2 (fun c => ?_) (fun c => ?_)⟩
    · have e := V.int.inj (of_decide_eq_true c)
      rw [List.getElem?_eq_getElem il, List.getElem?_eq_getElem jl, e, if_pos rfl] at k
      exact k
    · have e : ¬ xs[i]? = ys[j]? := fun z => c (decide_eq_true (by rw [List.getElem?_eq_getElem il, List.getElem?_eq_getElem jl] at z; rw [Option.some.inj z]))
      rw [if_neg e] at k
      exact k
  intro d hd
  have s0 : Same H (upd H d (.dT [])) := same_new hd _
  have hd0 : (upd H d (.dT [])) d = some (.dT []) := upd_same
  generalize upd H d (.dT []) = H0 at s0 hd0
  have glen := grI_len xs ys xs.length
  have tl := Paired.length tr
  have prod := Nat.mul_le_mul la lb
  refine ⟨_, rfl, q, rfl, ⟨_, SqL.of (s0 _ _ hq)⟩, for_list (K := K) (a := q) (xs := ts.map V.ref) (fun i σ H1 => ∃ (u4 u5 u6 u7 : Option V) (kvs : List (List Key × V)), σ = [some (.ref a), some (.ref b), some (.ref q), some (.ref d), u4, u5, u6, u7, none] ∧ H1 d = some (.dT kvs) ∧ Cov kvs (allP ((grI xs ys xs.length).take i)) ∧ (allP ((grI xs ys xs.length).take i)).length ≤ 100 * i ∧ Same H H1) ⟨none, none, none, none, [], rfl, hd0, Cov.nil, by simp [allP], s0⟩ (fun i σ H1 _ ⟨_, _, _, _, _, _, _, _, _, s1⟩ => SqL.of (s1 _ _ hq)) ?_ ?_⟩
  · rintro i x σ H1 hi ⟨u4, u5, u6, u7, kvs, rfl, hd1, cv, pl, s1⟩
    rw [List.getElem?_map] at hi
    obtain ⟨ta, et, rfl⟩ := Option.map_eq_some_iff.mp hi
    obtain ⟨t, eg, ht⟩ := paired_get (tr.same s1) et
    have il : i < ts.length := (List.getElem?_eq_some_iff.mp et).1
    obtain ⟨f', s', rfl, rt⟩ := gr_right (List.mem_of_getElem? eg)
    obtain ⟨m, hm⟩ : ∃ m, m = cp (xs.drop f') (ys.drop s') := ⟨_, rfl⟩
    have etr : trip xs ys f' s' = ((f' : Int), (s' : Int), (m : Int)) := by unfold trip; rw [hm]
    rw [etr] at eg ht
    rw [← hm] at rt
    have ht' : H1 ta = some (.tup [.int f', .int s', .int m]) := ht
    have rfx := rt.fx
    refine ⟨ta, _, rfl, SqT.of ht', rfl, _, _, rfl, _, _, rfl, _, _, rfl, rfl, ?_⟩
    refine ⟨_, rfl, _, rfl, a, _, rfl, .inl (SqL.of (s1 _ _ ha)), _, _, rfl, ?_⟩
    have emin : (if ((xs.map V.int).length : Int) < (m : Int) then ((xs.map V.int).length : Int) else (m : Int)) = m := by rw [List.length_map, if_neg (by omega)]
    rw [emin]
    refine ⟨(m : Int), rfl, by omega, by omega, ?_⟩
    refine for_range (lo := 0) (n := (m : Int).toNat) (fun n σ H2 => ∃ (u7 : Option V) (kvs : List (List Key × V)), σ = [some (.ref a), some (.ref b), some (.ref q), some (.ref d), some (.int f'), some (.int s'), some (.int m), u7, none] ∧ H2 d = some (.dT kvs) ∧ Cov kvs (allP ((grI xs ys xs.length).take i) ++ ptsN ((f' : Int), (s' : Int), (m : Int)) n) ∧ Same H H2) ⟨u7, kvs, rfl, hd1, by simpa [ptsN] using cv, s1⟩ ?_ ?_
    · rintro n σ H2 hn ⟨u7, kvs, rfl, hd2, cv2, s2⟩
      have nm : n < m := by omega
      obtain ⟨px, hpx⟩ : ∃ px : Int, px = (f' : Int) + (0 + (n : Int)) := ⟨_, rfl⟩
      obtain ⟨py, hpy⟩ : ∃ py : Int, py = (s' : Int) + (0 + (n : Int)) := ⟨_, rfl⟩
      have exx : (fun i j : Int => V.int (i + j)) (f' : Int) (0 + (n : Int)) = V.int px := by rw [hpx]
      have exy : (fun i j : Int => V.int (i + j)) (s' : Int) (0 + (n : Int)) = V.int py := by rw [hpy]
      refine ⟨_, rfl, d, rfl, .inr ⟨_, .inl hd2⟩, _, rfl, _, rfl, _, _, rfl, rfl, _, rfl, _, rfl, _, _, rfl, rfl, (by show 2 ≤ sizeLine; decide), fun t1 ht1 => ?_⟩
      rw [exx, exy]
      have s3 : Same H2 (upd H2 t1 (.tup [.int px, .int py])) := same_new ht1 _
      have h3 : (upd H2 t1 (.tup [.int px, .int py])) t1 = some (.tup ([Sum.inl px, Sum.inl py].map kV)) := upd_same
      generalize upd H2 t1 (.tup [.int px, .int py]) = H3 at s3 h3
      have hd3 := s3 _ _ hd2
      refine ⟨_, DGet.t (k := [Sum.inl px, Sum.inl py]) hd3 h3, ?_⟩
      rw [cv2.val]
      refine ⟨_, _, rfl, rfl, _, rfl, _, rfl, _, rfl, _, _, rfl, rfl, _, rfl, _, rfl, _, _, rfl, rfl, (by show 2 ≤ sizeLine; decide), fun t2 ht2 => ?_⟩
      rw [exx, exy]
      have s4 : Same H3 (upd H3 t2 (.tup [.int px, .int py])) := same_new ht2 _
      have h4 : (upd H3 t2 (.tup [.int px, .int py])) t2 = some (.tup ([Sum.inl px, Sum.inl py].map kV)) := upd_same
      generalize upd H3 t2 (.tup [.int px, .int py]) = H4 at s4 h4
      have hd4 := s4 _ _ hd3
      have len : kvs.length ≤ 900000 := by
        have z := cv2.len
        rw [List.length_append] at z
        unfold ptsN at z
        rw [List.length_map, List.length_range] at z
        omega
      refine ⟨d, _, rfl, DPut.t (k := [Sum.inl px, Sum.inl py]) hd4 h4 (million (by omega)), ?_⟩
      refine ⟨_, _, rfl, upd_same, ?_, keep_of hd (s2.trans (s3.trans s4)) (keep_upd d _ _)⟩
      have e : ptsN ((f' : Int), (s' : Int), (m : Int)) (n + 1) = ptsN ((f' : Int), (s' : Int), (m : Int)) n ++ [(px, py)] := by
        rw [pts_succ]
        congr 3
        · show (f' : Int) + n = px
          omega
        · show (s' : Int) + n = py
          omega
      rw [e, ← List.append_assoc]
      exact cv2.put px py
    · rintro σ H2 ⟨u7, kvs, rfl, hd2, cv2, s2⟩
      refine ⟨_, _, _, _, kvs, rfl, hd2, ?_, ?_, s2⟩
      · rw [allP_snoc eg]
        exact cv2
      · rw [allP_snoc eg, List.length_append]
        unfold ptsN
        rw [List.length_map, List.length_range]
        have : (((f' : Int), (s' : Int), (m : Int)) : Trip).2.2.toNat = m := by simp
        rw [this]
        omega
  rintro σ H1 ⟨u4, u5, u6, u7, kvs, rfl, hd1, cv, pl, s1⟩
  rw [List.length_map, tl, List.take_length] at cv pl
  have ha1 := s1 _ _ ha
  have hb1 := s1 _ _ hb
  refine ⟨_, rfl, a, _, rfl, .inl (SqL.of ha1), _, rfl, (by rw [List.length_map]; omega), (by rw [List.length_map]; omega), ?_⟩
  rw [List.length_map]
  refine for_range (lo := 0) (n := (xs.length : Int).toNat) (fun i σ H2 => ∃ (u4 u5 u8 : Option V), σ = [some (.ref a), some (.ref b), some (.ref q), some (.ref d), u4, u5, u6, u7, u8] ∧ Same H1 H2) ⟨u4, u5, none, rfl, Same.refl _⟩ ?_ ?_
  · rintro i σ H2 hi ⟨u4, u5, u8, rfl, s2⟩
    have il : i < xs.length := by omega
    have s12 := s1.trans s2
    refine ⟨_, rfl, b, _, rfl, .inl (SqL.of (s2 _ _ hb1)), _, rfl, (by rw [List.length_map]; omega), (by rw [List.length_map]; omega), ?_⟩
    rw [List.length_map]
    refine for_range (lo := 0) (n := (ys.length : Int).toNat) (fun j σ H3 => ∃ (u5 u8 : Option V), σ = [some (.ref a), some (.ref b), some (.ref q), some (.ref d), some (.int (0 + (i : Int))), u5, u6, u7, u8] ∧ Same H1 H3) ⟨u5, u8, rfl, s2⟩ ?_ ?_
    · rintro j σ H3 hj ⟨u5, u8, rfl, s3⟩
      have jl : j < ys.length := by omega
      have ei : (0 + (i : Int)) = (i : Int) := by omega
      have ej : (0 + (j : Int)) = (j : Int) := by omega
      rw [ei, ej]
      refine ⟨a, b, xs, ys, i, j, _, _, _, _, rfl, s3 _ _ ha1, s3 _ _ hb1, il, jl, ?_⟩
      refine ⟨_, rfl, d, rfl, .inr ⟨_, .inl (s3 _ _ hd1)⟩, _, rfl, _, rfl, (by show 2 ≤ sizeLine; decide), fun t1 ht1 => ?_⟩
      have s4 : Same H3 (upd H3 t1 (.tup [.int i, .int j])) := same_new ht1 _
      have h4 : (upd H3 t1 (.tup [.int i, .int j])) t1 = some (.tup ([Sum.inl (i : Int), Sum.inl (j : Int)].map kV)) := upd_same
      generalize upd H3 t1 (.tup [.int i, .int j]) = H4 at s4 h4
      refine ⟨_, DGet.t (k := [Sum.inl (i : Int), Sum.inl (j : Int)]) (s4 _ _ (s3 _ _ hd1)) h4, ?_⟩
      rw [cv.val, all_count xs ys i j il jl]
      refine ⟨_, rfl, rfl, _, rfl, iteNS ?_ ?_⟩
      · split <;> rfl
      · exact ⟨_, _, rfl, s3.trans s4⟩
    · rintro σ H3 ⟨u5, u8, rfl, s3⟩
      exact ⟨_, _, _, rfl, s3⟩
  · rintro σ H2 ⟨u4, u5, u8, rfl, s2⟩
    exact k H2 (s1.trans s2)

theorem cp_self : ∀ xs : List Int, cp xs xs = xs.length
  | [] => rfl
  | x :: xs => by rw [cp, if_pos rfl, cp_self xs, List.length_cons]
abbrev slaw : Stmt := top 13
theorem sclaw : FnScope ["_law_script", "_law_src_here", "_law_ones", "_law_others", "_law_told"] ["_law_script"] (defScope slaw) := ⟨rfl, rfl, rfl, by decide +kernel, rfl, by decide +kernel, by decide +kernel⟩
set_option maxHeartbeats 4000000 in
theorem ok_law {f x0 x1 x2 x3 x4 x5 x6 x7 x8 : Addr} {fd y0 y1 y2 y3 y4 y5 y6 y7 y8 : FuncData} (F : Fun K "law" "law" slaw f fd) (T : Nms mg) (d_law_src : DefAt K mg "_law_src" s_law_src ["_law_script"] x0 y0)
    (d_law_next : DefAt K mg "_law_next" s_law_next ["_law_src_here", "_law_base"] x1 y1)
    (dspots : DefAt K mg "spots" sspots ["numbers"] x2 y2)
    (dgoes_ahead : DefAt K mg "goes_ahead" sgoes_ahead ["ones", "others", "first", "second"] x3 y3)
    (drun_length : DefAt K mg "run_length" srun_length ["ones", "others", "first", "second"] x4 y4)
    (dgreatest : DefAt K mg "greatest" sgreatest ["ones", "others"] x5 y5)
    (d_law_list_by : DefAt K mg "_law_list_by" s_law_list_by ["_law_src_here"] x6 y6)
    (d_law_pair_by : DefAt K mg "_law_pair_by" s_law_pair_by ["_law_src_here"] x7 y7)
    (d_law_covered : DefAt K mg "_law_covered" s_law_covered ["_law_ones", "_law_others", "_law_told"] x8 y8) : FnOk P w K mg base CX0 6 f fd ["_law_script"] (spLaw K) := by
  have g_law_src : FnOk P w K mg base CX0 1 _ _ ["_law_script"] (spSrc K) := ok_law_src d_law_src.F T
  have g_law_pair_by : FnOk P w K mg base CX0 3 _ _ ["_law_src_here"] spPairBy := ok_law_pair_by d_law_pair_by.F T d_law_next d_law_list_by
  have g_law_covered : FnOk P w K mg base CX0 1 _ _ ["_law_ones", "_law_others", "_law_told"] spCovered := ok_law_covered d_law_covered.F T
  have ggreatest : FnOk P w K mg base CX0 2 _ _ ["ones", "others"] spGreatest := ok_greatest dgreatest.F T dspots dgoes_ahead drun_length
  refine F.ok sclaw (fun vs H Q E h => ?_) (fun cdv A outer s H vs Q E hr h => ?_)
  · obtain ⟨a, ns, rfl, _⟩ := h
    rfl
  obtain ⟨a, ns, rfl, hS, h63, k⟩ := h
  have hu := hu_of hr
  refine ⟨_, (pss_cons (ps_set (i := 1) sclaw.nd rfl (Or.inl rfl) (pe_def d_law_src g_law_src hr (pa_cons (pv 0) pa_nil)))
      (pss_cons (ps_asg (pe_def d_law_pair_by g_law_pair_by hr (pa_cons (pv 1) pa_nil)) (pg_tup (n := 2) rfl (pgs_cons (pg_name (i := 2) sclaw.nd rfl (Or.inl rfl)) (pgs_cons (pg_name (i := 3) sclaw.nd rfl (Or.inl rfl)) pgs_nil))))
      (pss_cons (ps_if (pt_not (pt_val (pe_def d_law_covered g_law_covered hr (pa_cons (pv 2) (pa_cons (pv 3) (pa_cons (pe_def dgreatest ggreatest hr (pa_cons (pe_callTy call_list_of rfl T.n_list PyProof.Rows.boot_list (pa_cons (pv 2) pa_nil)) (pa_cons (pe_callTy call_list_of rfl T.n_list PyProof.Rows.boot_list (pa_cons (pv 3) pa_nil)) pa_nil))) pa_nil))))))
      (pss_one (ps_ret pe_bl))
      pss_nil)
      (pss_cons (ps_set (i := 4) sclaw.nd rfl (Or.inl rfl) (pe_def dgreatest ggreatest hr (pa_cons (pe_callTy call_list_of rfl T.n_list PyProof.Rows.boot_list (pa_cons (pv 2) pa_nil)) (pa_cons (pe_callTy call_list_of rfl T.n_list PyProof.Rows.boot_list (pa_cons (pv 2) pa_nil)) pa_nil))))
      (pss_cons (ps_if (PW.pt (pw_and (pt_cmpR op_gt (pe_callB call_len_seq rfl T.n_len PySem.boot_len (pa_cons (pv 2) pa_nil)) pe_int (nomark _)) (pw_and1 (pt_cmpR (op_notInT hu) (pe_tup (pa_cons pe_int (pa_cons pe_int (pa_cons (pe_callB call_len_seq rfl T.n_len PySem.boot_len (pa_cons (pv 2) pa_nil)) pa_nil)))) (pv 4) rfl))))
      (pss_one (ps_ret pe_bl))
      pss_nil)
      (pss_one (ps_ret (pe_def d_law_covered g_law_covered hr (pa_cons (pv 2) (pa_cons (pv 2) (pa_cons (pv 4) pa_nil))))))))))), ?_⟩
  refine ⟨_, rfl, a, ns, rfl, hS, fun l c H1 S1 s1 _ _ => ?_⟩
  refine ⟨_, rfl, l, c, rfl, S1, fun p oa ob xs ys H2 hp ha hb la lb S2 K2 al bl => ?_⟩
  refine ⟨p, _, rfl, SqT.of hp, rfl, _, _, rfl, _, _, rfl, rfl, ?_⟩
  refine ⟨_, rfl, _, rfl, _, rfl, oa, _, rfl, .inl (SqL.of ha), fun c1 hc1 => ?_⟩
  have s3 : Same H2 (upd H2 c1 (.lst (xs.map V.int))) := same_new hc1 _
  have h3 : (upd H2 c1 (.lst (xs.map V.int))) c1 = some (.lst (xs.map V.int)) := upd_same
  generalize upd H2 c1 (.lst (xs.map V.int)) = H3 at s3 h3
  refine ⟨_, rfl, ob, _, rfl, .inl (SqL.of (s3 _ _ hb)), fun c2 hc2 => ?_⟩
  have s4 : Same H3 (upd H3 c2 (.lst (ys.map V.int))) := same_new hc2 _
  have h4 : (upd H3 c2 (.lst (ys.map V.int))) c2 = some (.lst (ys.map V.int)) := upd_same
  generalize upd H3 c2 (.lst (ys.map V.int)) = H4 at s4 h4
  have s24 := s3.trans s4
  refine ⟨c1, c2, xs, ys, rfl, s4 _ _ h3, h4, by omega, by omega, fun q ts H5 hq tr s5 _ => ?_⟩
  have s25 := s24.trans s5
  refine ⟨oa, ob, q, xs, ys, ts, rfl, s25 _ _ ha, s25 _ _ hb, hq, tr, by omega, by omega, fun H6 s6 => ⟨_, rfl, iteF ?_⟩⟩
  have s26 := s25.trans s6
  refine ⟨_, rfl, oa, _, rfl, .inl (SqL.of (s26 _ _ ha)), fun c3 hc3 => ?_⟩
  have s7 : Same H6 (upd H6 c3 (.lst (xs.map V.int))) := same_new hc3 _
  have h7 : (upd H6 c3 (.lst (xs.map V.int))) c3 = some (.lst (xs.map V.int)) := upd_same
  generalize upd H6 c3 (.lst (xs.map V.int)) = H7 at s7 h7
  refine ⟨_, rfl, oa, _, rfl, .inl (SqL.of (s7 _ _ (s26 _ _ ha))), fun c4 hc4 => ?_⟩
  have s8 : Same H7 (upd H7 c4 (.lst (xs.map V.int))) := same_new hc4 _
  have h8 : (upd H7 c4 (.lst (xs.map V.int))) c4 = some (.lst (xs.map V.int)) := upd_same
  generalize upd H7 c4 (.lst (xs.map V.int)) = H8 at s8 h8
  refine ⟨c3, c4, xs, xs, rfl, s8 _ _ h7, h8, by omega, by omega, fun q2 ts2 H9 hq2 tr2 s9 _ => ?_⟩
  have s29 := s26.trans (s7.trans (s8.trans s9))
  have ha9 := s29 _ _ ha
  refine ⟨_, rfl, oa, _, rfl, .inl (SqL.of ha9), _, _, rfl, rfl, _, rfl, ite2 (fun cc => ?_) (fun cc => iteF ?_)⟩
  · have xl : 0 < xs.length := by
      have : (0 : Int) < (xs.map V.int).length := of_decide_eq_true cc
      rw [List.length_map] at this
      omega
    refine ⟨_, rfl, oa, _, rfl, .inl (SqL.of ha9), (by show 3 ≤ sizeLine; decide), fun t ht => ?_⟩
    rw [List.length_map]
    have s10 : Same H9 (upd H9 t (.tup [.int 0, .int 0, .int (xs.length : Nat)])) := same_new ht _
    have h10 : (upd H9 t (.tup [.int 0, .int 0, .int (xs.length : Nat)])) t = some (.tup (([0, 0, (xs.length : Int)] : List Int).map V.int)) := upd_same
    generalize upd H9 t (.tup [.int 0, .int 0, .int (xs.length : Nat)]) = H10 at s10 h10
    have inT : trip xs xs 0 0 ∈ grI xs xs xs.length := in_gr (by simp [ahd]) (by rw [List.drop_zero, cp_self]; exact xl)
    obtain ⟨i, ei⟩ := List.getElem?_of_mem inT
    obtain ⟨b0, eb, hb0⟩ := paired_get' tr2 ei
    have hb0' : H9 b0 = some (.tup (([0, 0, (xs.length : Int)] : List Int).map V.int)) := by
      have z : H9 b0 = some (.tup [.int 0, .int 0, .int (cp (xs.drop 0) (xs.drop 0) : Nat)]) := hb0
      rw [List.drop_zero, cp_self] at z
      exact z
    refine ⟨_, rfl, t, q2, b0, _, _, rfl, rfl, h10, s10 _ _ hq2, fun v hv => ?_, List.mem_map.mpr ⟨b0, List.mem_of_getElem? eb, rfl⟩, s10 _ _ hb0', _, rfl, iteF ?_⟩
    · obtain ⟨x, hx, rfl⟩ := List.mem_map.mp hv
      obtain ⟨j, ej⟩ := List.getElem?_of_mem hx
      obtain ⟨tt, et, htt⟩ := paired_get tr2 ej
      exact ⟨x, [tt.1, tt.2.1, tt.2.2], rfl, s10 _ _ htt⟩
    · exact ⟨_, rfl, _, rfl, _, rfl, oa, oa, q2, xs, xs, ts2, rfl, s10 _ _ ha9, s10 _ _ ha9, s10 _ _ hq2, tr2.same s10, by omega, by omega, fun H' _ => k H'⟩
  · exact ⟨_, rfl, _, rfl, _, rfl, oa, oa, q2, xs, xs, ts2, rfl, ha9, ha9, hq2, tr2, by omega, by omega, fun H' _ => k H'⟩
end

end Ink
namespace Ink
open PySem L2 InkX InkE InkF InkP
theorem all_mk {l : PySem.W.OpenLaw} {w : World} {K : PySem.W.Frag} {h : Heap} {mg : Str → Option Value} {fa : Addr} (X : K.In h) (G : h.Ns mainGlobals mg) (hfa : mg "law" = some (.ref fa))
    {f0 f1 f2 f3 f4 f5 f6 f7 f8 f9 : Addr} {od0 an0 od1 an1 od2 an2 od3 an3 od4 an4 od5 an5 od6 an6 od7 an7 od8 an8 od9 an9 : Option Addr} {sl0 sl1 sl2 sl3 sl4 sl5 sl6 sl7 sl8 sl9 : Array (Option Value)} {oc0 kV0 dc0 pm0 cd0 ct0 oc1 kV1 dc1 pm1 cd1 ct1 oc2 kV2 dc2 pm2 cd2 ct2 oc3 kV3 dc3 pm3 cd3 ct3 oc4 kV4 dc4 pm4 cd4 ct4 oc5 kV5 dc5 pm5 cd5 ct5 oc6 kV6 dc6 pm6 cd6 ct6 oc7 kV7 dc7 pm7 cd7 ct7 oc8 kV8 dc8 pm8 cd8 ct8 oc9 kV9 dc9 pm9 cd9 ct9 : Value}
    (a0 : PySem.W.nsIn K mainGlobals "_law_src" = some (some (.ref f0))) (l0 : K.lookup f0 = some ⟨oc0, od0, .func (PySem.W.fnOf "_law_src" "_law_src" (defArgs s_law_src) (defBody s_law_src) (defScope s_law_src) .none kV0 dc0 pm0 an0 cd0 ct0), sl0⟩) (c0 : PySem.W.codeIn K cd0 "_law_src" = true) (k0 : PySem.W.keepIn K (.ref f0) = true)
    (a1 : PySem.W.nsIn K mainGlobals "_law_next" = some (some (.ref f1))) (l1 : K.lookup f1 = some ⟨oc1, od1, .func (PySem.W.fnOf "_law_next" "_law_next" (defArgs s_law_next) (defBody s_law_next) (defScope s_law_next) .none kV1 dc1 pm1 an1 cd1 ct1), sl1⟩) (c1 : PySem.W.codeIn K cd1 "_law_next" = true) (k1 : PySem.W.keepIn K (.ref f1) = true)
    (a2 : PySem.W.nsIn K mainGlobals "spots" = some (some (.ref f2))) (l2 : K.lookup f2 = some ⟨oc2, od2, .func (PySem.W.fnOf "spots" "spots" (defArgs sspots) (defBody sspots) (defScope sspots) .none kV2 dc2 pm2 an2 cd2 ct2), sl2⟩) (c2 : PySem.W.codeIn K cd2 "spots" = true) (k2 : PySem.W.keepIn K (.ref f2) = true)
    (a3 : PySem.W.nsIn K mainGlobals "goes_ahead" = some (some (.ref f3))) (l3 : K.lookup f3 = some ⟨oc3, od3, .func (PySem.W.fnOf "goes_ahead" "goes_ahead" (defArgs sgoes_ahead) (defBody sgoes_ahead) (defScope sgoes_ahead) .none kV3 dc3 pm3 an3 cd3 ct3), sl3⟩) (c3 : PySem.W.codeIn K cd3 "goes_ahead" = true) (k3 : PySem.W.keepIn K (.ref f3) = true)
    (a4 : PySem.W.nsIn K mainGlobals "run_length" = some (some (.ref f4))) (l4 : K.lookup f4 = some ⟨oc4, od4, .func (PySem.W.fnOf "run_length" "run_length" (defArgs srun_length) (defBody srun_length) (defScope srun_length) .none kV4 dc4 pm4 an4 cd4 ct4), sl4⟩) (c4 : PySem.W.codeIn K cd4 "run_length" = true) (k4 : PySem.W.keepIn K (.ref f4) = true)
    (a5 : PySem.W.nsIn K mainGlobals "greatest" = some (some (.ref f5))) (l5 : K.lookup f5 = some ⟨oc5, od5, .func (PySem.W.fnOf "greatest" "greatest" (defArgs sgreatest) (defBody sgreatest) (defScope sgreatest) .none kV5 dc5 pm5 an5 cd5 ct5), sl5⟩) (c5 : PySem.W.codeIn K cd5 "greatest" = true) (k5 : PySem.W.keepIn K (.ref f5) = true)
    (a6 : PySem.W.nsIn K mainGlobals "_law_list_by" = some (some (.ref f6))) (l6 : K.lookup f6 = some ⟨oc6, od6, .func (PySem.W.fnOf "_law_list_by" "_law_list_by" (defArgs s_law_list_by) (defBody s_law_list_by) (defScope s_law_list_by) .none kV6 dc6 pm6 an6 cd6 ct6), sl6⟩) (c6 : PySem.W.codeIn K cd6 "_law_list_by" = true) (k6 : PySem.W.keepIn K (.ref f6) = true)
    (a7 : PySem.W.nsIn K mainGlobals "_law_pair_by" = some (some (.ref f7))) (l7 : K.lookup f7 = some ⟨oc7, od7, .func (PySem.W.fnOf "_law_pair_by" "_law_pair_by" (defArgs s_law_pair_by) (defBody s_law_pair_by) (defScope s_law_pair_by) .none kV7 dc7 pm7 an7 cd7 ct7), sl7⟩) (c7 : PySem.W.codeIn K cd7 "_law_pair_by" = true) (k7 : PySem.W.keepIn K (.ref f7) = true)
    (a8 : PySem.W.nsIn K mainGlobals "_law_covered" = some (some (.ref f8))) (l8 : K.lookup f8 = some ⟨oc8, od8, .func (PySem.W.fnOf "_law_covered" "_law_covered" (defArgs s_law_covered) (defBody s_law_covered) (defScope s_law_covered) .none kV8 dc8 pm8 an8 cd8 ct8), sl8⟩) (c8 : PySem.W.codeIn K cd8 "_law_covered" = true) (k8 : PySem.W.keepIn K (.ref f8) = true)
    (a9 : PySem.W.nsIn K mainGlobals "law" = some (some (.ref f9))) (l9 : K.lookup f9 = some ⟨oc9, od9, .func (PySem.W.fnOf "law" "law" (defArgs slaw) (defBody slaw) (defScope slaw) .none kV9 dc9 pm9 an9 cd9 ct9), sl9⟩) (c9 : PySem.W.codeIn K cd9 "law" = true) (k9 : PySem.W.keepIn K (.ref f9) = true)
    (z0 : PySem.W.nsIn K mainGlobals "len" = some none)
    (z1 : PySem.W.nsIn K mainGlobals "list" = some none)
    (z2 : PySem.W.nsIn K mainGlobals "tuple" = some none)
    (z3 : PySem.W.nsIn K mainGlobals "int" = some none)
    (z4 : PySem.W.nsIn K mainGlobals "bool" = some none)
    (z5 : PySem.W.nsIn K mainGlobals "str" = some none)
    (z6 : PySem.W.nsIn K mainGlobals "range" = some none)
    (z7 : PySem.W.nsIn K mainGlobals "zip" = some none)
    (z8 : PySem.W.nsIn K mainGlobals "isinstance" = some none)
    (z9 : PySem.W.nsIn K mainGlobals "min" = some none)
    (z10 : PySem.W.nsIn K mainGlobals "enumerate" = some none) :
    ∃ fd : FuncData, (∀ (s : Shared) (v : Value), BindsTo s fd ⟨[v], []⟩ [("_law_script", v)]) ∧ ∀ base : Heap, K.In base → base.Ns mainGlobals mg → FnOk l.prog w K mg base CX0 6 fa fd ["_law_script"] (spLaw K) := by
  have e := hfa.symm.trans (PySem.W.mg_of X G a9)
  cases e
  have T : Nms mg := ⟨PySem.W.mg_none_of X G z0, PySem.W.mg_none_of X G z1, PySem.W.mg_none_of X G z2, PySem.W.mg_none_of X G z3, PySem.W.mg_none_of X G z4, PySem.W.mg_none_of X G z5, PySem.W.mg_none_of X G z6, PySem.W.mg_none_of X G z7, PySem.W.mg_none_of X G z8, PySem.W.mg_none_of X G z9, PySem.W.mg_none_of X G z10⟩
  have F0 := fun_mk (st := s_law_src) l0 c0 k0
  have D0 : DefAt K mg "_law_src" s_law_src ["_law_script"] f0 _ := ⟨F0, F0.binds (ps := ["_law_script"]) (fun _ _ _ _ _ _ us hl => match us, hl with | [_], _ => rfl), PySem.W.mg_of X G a0⟩
  have F1 := fun_mk (st := s_law_next) l1 c1 k1
  have D1 : DefAt K mg "_law_next" s_law_next ["_law_src_here", "_law_base"] f1 _ := ⟨F1, F1.binds (ps := ["_law_src_here", "_law_base"]) (fun _ _ _ _ _ _ us hl => match us, hl with | [_, _], _ => rfl), PySem.W.mg_of X G a1⟩
  have F2 := fun_mk (st := sspots) l2 c2 k2
  have D2 : DefAt K mg "spots" sspots ["numbers"] f2 _ := ⟨F2, F2.binds (ps := ["numbers"]) (fun _ _ _ _ _ _ us hl => match us, hl with | [_], _ => rfl), PySem.W.mg_of X G a2⟩
  have F3 := fun_mk (st := sgoes_ahead) l3 c3 k3
  have D3 : DefAt K mg "goes_ahead" sgoes_ahead ["ones", "others", "first", "second"] f3 _ := ⟨F3, F3.binds (ps := ["ones", "others", "first", "second"]) (fun _ _ _ _ _ _ us hl => match us, hl with | [_, _, _, _], _ => rfl), PySem.W.mg_of X G a3⟩
  have F4 := fun_mk (st := srun_length) l4 c4 k4
  have D4 : DefAt K mg "run_length" srun_length ["ones", "others", "first", "second"] f4 _ := ⟨F4, F4.binds (ps := ["ones", "others", "first", "second"]) (fun _ _ _ _ _ _ us hl => match us, hl with | [_, _, _, _], _ => rfl), PySem.W.mg_of X G a4⟩
  have F5 := fun_mk (st := sgreatest) l5 c5 k5
  have D5 : DefAt K mg "greatest" sgreatest ["ones", "others"] f5 _ := ⟨F5, F5.binds (ps := ["ones", "others"]) (fun _ _ _ _ _ _ us hl => match us, hl with | [_, _], _ => rfl), PySem.W.mg_of X G a5⟩
  have F6 := fun_mk (st := s_law_list_by) l6 c6 k6
  have D6 : DefAt K mg "_law_list_by" s_law_list_by ["_law_src_here"] f6 _ := ⟨F6, F6.binds (ps := ["_law_src_here"]) (fun _ _ _ _ _ _ us hl => match us, hl with | [_], _ => rfl), PySem.W.mg_of X G a6⟩
  have F7 := fun_mk (st := s_law_pair_by) l7 c7 k7
  have D7 : DefAt K mg "_law_pair_by" s_law_pair_by ["_law_src_here"] f7 _ := ⟨F7, F7.binds (ps := ["_law_src_here"]) (fun _ _ _ _ _ _ us hl => match us, hl with | [_], _ => rfl), PySem.W.mg_of X G a7⟩
  have F8 := fun_mk (st := s_law_covered) l8 c8 k8
  have D8 : DefAt K mg "_law_covered" s_law_covered ["_law_ones", "_law_others", "_law_told"] f8 _ := ⟨F8, F8.binds (ps := ["_law_ones", "_law_others", "_law_told"]) (fun _ _ _ _ _ _ us hl => match us, hl with | [_, _, _], _ => rfl), PySem.W.mg_of X G a8⟩
  have F9 := fun_mk (st := slaw) l9 c9 k9
  exact ⟨PySem.W.fnOf "law" "law" (defArgs slaw) (defBody slaw) (defScope slaw) .none kV9 dc9 pm9 an9 cd9 ct9, fun s v => .of_eq rfl, fun base _ _ => ok_law F9 T D0 D1 D2 D3 D4 D5 D6 D7 D8⟩
theorem walk {l : PySem.W.OpenLaw} {q : Program} {loose : List Str} {XP : (Str → Option Value) → Heap → Prop} {YP : World → Heap → Prop} {d : DefRec} {K : Params → PySem.W.Frag} (hn : l.most = some 63) (hdf : d.params.defaults = [])
    (hY : ∀ (w : World) (h : Heap), YP w h → (K w.params).In h)
    (F : ∀ (w : World) (mg : Str → Option Value) (fa : Addr) (h : Heap), (K w.params).In h → h.Ns mainGlobals mg → mg d.name = some (.ref fa) →
      ∃ fd : FuncData, (∀ (s : Shared) (u : Value), BindsTo s fd ⟨[u], []⟩ [("_law_script", u)]) ∧ ∀ base : Heap, (K w.params).In base → base.Ns mainGlobals mg → FnOk l.prog w (K w.params) mg base CX0 6 fa fd ["_law_script"] (spLaw (K w.params))) :
    PySem.W.WalkO q loose XP YP l.row.toRowW d [] (fun f vs => PySem.call f vs) :=
  L2.walk_of (n := 63) (k := 6) (x := "_law_script") (CX := fun _ => CX0) (sp := fun w => spLaw (K w.params)) hn (by decide) hdf ⟨rfl, by decide, by decide⟩ hY F (fun _ _ a ns hl _ hS => ⟨a, ns, rfl, hS, hl, fun _ => rfl⟩) fun _ _ _ _ _ z => z
end Ink
open PySem PySem.W PyProof.Rows
set_option maxRecDepth 100000 in
set_option maxHeartbeats 0 in
theorem PySem.Challenge.cw_inkroot_k28_common_places_all_told_holds : PySem.Challenge.rw_inkroot_k28_common_places_all_told.Holds := by
  w_on; o_law; k_head; (case hw => w_witness2)
  k_fill
  refine Ink.walk (l := PySem.Challenge.rw_inkroot_k28_common_places_all_told) rfl rfl (fun w h Y => PySem.W.kIn_of Y) ?F
  case F =>
    intro w mg fa h KX G hmg
    refine' Ink.all_mk KX G hmg ?a0 ?l0 ?c0 ?k0 ?a1 ?l1 ?c1 ?k1 ?a2 ?l2 ?c2 ?k2 ?a3 ?l3 ?c3 ?k3 ?a4 ?l4 ?c4 ?k4 ?a5 ?l5 ?c5 ?k5 ?a6 ?l6 ?c6 ?k6 ?a7 ?l7 ?c7 ?k7 ?a8 ?l8 ?c8 ?k8 ?a9 ?l9 ?c9 ?k9 ?z0 ?z1 ?z2 ?z3 ?z4 ?z5 ?z6 ?z7 ?z8 ?z9 ?z10
    (case a0 => k_is)
    (case l0 => k_is)
    (case c0 => k_is)
    (case k0 => k_is)
    (case a1 => k_is)
    (case l1 => k_is)
    (case c1 => k_is)
    (case k1 => k_is)
    (case a2 => k_is)
    (case l2 => k_is)
    (case c2 => k_is)
    (case k2 => k_is)
    (case a3 => k_is)
    (case l3 => k_is)
    (case c3 => k_is)
    (case k3 => k_is)
    (case a4 => k_is)
    (case l4 => k_is)
    (case c4 => k_is)
    (case k4 => k_is)
    (case a5 => k_is)
    (case l5 => k_is)
    (case c5 => k_is)
    (case k5 => k_is)
    (case a6 => k_is)
    (case l6 => k_is)
    (case c6 => k_is)
    (case k6 => k_is)
    (case a7 => k_is)
    (case l7 => k_is)
    (case c7 => k_is)
    (case k7 => k_is)
    (case a8 => k_is)
    (case l8 => k_is)
    (case c8 => k_is)
    (case k8 => k_is)
    (case a9 => k_is)
    (case l9 => k_is)
    (case c9 => k_is)
    (case k9 => k_is)
    (case z0 => k_is)
    (case z1 => k_is)
    (case z2 => k_is)
    (case z3 => k_is)
    (case z4 => k_is)
    (case z5 => k_is)
    (case z6 => k_is)
    (case z7 => k_is)
    (case z8 => k_is)
    (case z9 => k_is)
    (case z10 => k_is)
