import PyProof.Rows.All
import Wide.All
import OpenK.AllK
import Wide.FinOn
import Lean
import PyProof.EqAt
import PyProof.EqKinds
import PyProof.TupleCall
import PySem.Challenge.RW_inkroot_k33_lines_read
set_option Elab.async false
set_option linter.all false
set_option maxRecDepth 100000
/-! THE HAND LAYER, for ints, bools, texts, own classes, LISTS and tuples (index, slices, in, append, pop ..), calls, loops. Paste it whole ahead of your own text; what your proof does not reach may be deleted. -/
namespace L2
open PySem PySem.Spec PyProof.Rows

/-- a key: an int or a str -/
abbrev Key := Sum Int Str
def keyIs : Key → Value → Bool
  | .inl k, v => Value.isInt k v
  | .inr x, v => Value.isStrOf x v
def keyH (w : World) : Key → Int
  | .inl k => hashInt k
  | .inr x => hashStr w x
theorem keyIs_shape : ∀ {k : Key} {v : Value}, keyIs k v = true → (∃ i t, k = Sum.inl i ∧ v = Value.int i t) ∨ (∃ x t, k = Sum.inr x ∧ v = Value.str x t)
  | .inl i, v, h => by
    obtain ⟨t, e⟩ := Value.isInt_shape (k := i) (v := v) h
    exact .inl ⟨i, t, rfl, e⟩
  | .inr x, v, h => by
    obtain ⟨t, e⟩ := Value.isStrOf_shape (x := x) (v := v) h
    exact .inr ⟨x, t, rfl, e⟩
theorem keyIs_int (i : Int) (t : Tok) : keyIs (.inl i) (.int i t) = true := by simp [keyIs, Value.isInt]
theorem keyIs_str (x : Str) (t : Tok) : keyIs (.inr x) (.str x t) = true := by simp [keyIs, Value.isStrOf]
theorem key_ll (a b : Int) : decide ((Sum.inl a : Key) = Sum.inl b) = (a == b) := by
  by_cases e : a = b
  · subst e; simp
  · have h : ¬ (Sum.inl a : Key) = Sum.inl b := fun q => e (Sum.inl.inj q)
    rw [decide_eq_false h]
    exact (beq_eq_false_iff_ne.mpr e).symm
theorem key_rr (a b : Str) : decide ((Sum.inr a : Key) = Sum.inr b) = decide (a = b) := by
  by_cases e : a = b
  · subst e; simp
  · have h : ¬ (Sum.inr a : Key) = Sum.inr b := fun q => e (Sum.inr.inj q)
    rw [decide_eq_false h, decide_eq_false e]
theorem key_lr (a : Int) (b : Str) : decide ((Sum.inl a : Key) = Sum.inr b) = false := decide_eq_false (fun q => nomatch q)
theorem key_rl (a : Str) (b : Int) : decide ((Sum.inr a : Key) = Sum.inl b) = false := decide_eq_false (fun q => nomatch q)

def mixKind (prog : Program) (w : World) : PySem.KeyKind prog w Key where
  is := keyIs
  hash := keyH w
  inj := fun v a b ha hb => by
    rcases keyIs_shape ha with ⟨i, t, rfl, rfl⟩ | ⟨x, t, rfl, rfl⟩
    · rcases keyIs_shape hb with ⟨j, u, rfl, e⟩ | ⟨y, u, rfl, e⟩
      · injection e with e1 _; rw [e1]
      · exact nomatch e
    · rcases keyIs_shape hb with ⟨j, u, rfl, e⟩ | ⟨y, u, rfl, e⟩
      · exact nomatch e
      · injection e with e1 _; rw [e1]
  byValue := fun k v h => by
    rcases keyIs_shape h with ⟨i, t, rfl, rfl⟩ | ⟨x, t, rfl, rfl⟩ <;> rfl
  pyHash := fun hv h => by
    rcases keyIs_shape hv with ⟨i, t, rfl, rfl⟩ | ⟨x, t, rfl, rfl⟩
    · exact wpAny_pyHash_int h
    · exact wpAny_pyHash_str h
  eqBool := fun hu hv h => by
    rcases keyIs_shape hu with ⟨i, t, rfl, rfl⟩ | ⟨x, t, rfl, rfl⟩
    · rcases keyIs_shape hv with ⟨j, u, rfl, rfl⟩ | ⟨y, u, rfl, rfl⟩
      · rw [key_ll] at h; exact wpAny_eqBool_int h
      · rw [key_lr] at h; exact SeqAt.EqAt.int_str i t y u _ _ _ _ h
    · rcases keyIs_shape hv with ⟨j, u, rfl, rfl⟩ | ⟨y, u, rfl, rfl⟩
      · rw [key_rl] at h; exact SeqAt.EqAt.str_int x t j u _ _ _ _ h
      · rw [key_rr] at h; exact wpAny_eqBool_str h
  «strs» := fun k x t v h => by
    rcases keyIs_shape h with ⟨i, u, rfl, e⟩ | ⟨y, u, rfl, e⟩
    · exact nomatch e
    · injection e with e1 _
      subst e1
      cases v <;> rfl

theorem mixKind_int (prog : Program) (w : World) (i : Int) (t : Tok) : (mixKind prog w).is (.inl i) (.int i t) = true := keyIs_int i t
theorem mixKind_str (prog : Program) (w : World) (x : Str) (t : Tok) : (mixKind prog w).is (.inr x) (.str x t) = true := keyIs_str x t
end L2

namespace L2
open PySem PySem.Spec PyProof.Rows

/-- a value, without the heap -/
inductive V where
  | non | bl (b : Bool) | int (i : Int) | str (x : Str) | byt (b : Array UInt8) | flt (b : UInt64) | ref (a : Addr) | ty (n : String)
  deriving DecidableEq

def RelV : V → Value → Prop
  | .non, u => u = Value.none
  | .bl b, u => u = Value.bool b
  | .int i, u => ∃ t, u = Value.int i t
  | .str x, u => ∃ t, u = Value.str x t
  | .byt b, u => ∃ t, u = Value.bytes b t
  | .flt b, u => ∃ t, u = Value.float b t
  | .ref a, u => u = Value.ref a
  | .ty n, u => u = Value.type n

abbrev Vals : List V → List Value → Prop := Paired RelV
theorem Vals.length {xs : List V} {us : List Value} (r : Vals xs us) : xs.length = us.length := Paired.length r
theorem Vals.get : ∀ {xs : List V} {us : List Value} {i : Nat} {x : V}, Vals xs us → xs[i]? = some x → ∃ u, us[i]? = some u ∧ RelV x u
  | _, _, _, _, .nil, e => by simp at e
  | _, _, 0, _, .cons r _, e => by simp at e; subst e; exact ⟨_, rfl, r⟩
  | _, _, i + 1, x, .cons _ t, e => by
    obtain ⟨u, h1, h2⟩ := Vals.get (i := i) (x := x) t (by simpa using e)
    exact ⟨u, by simpa using h1, h2⟩
theorem Vals.set {x : V} {u : Value} (r : RelV x u) : ∀ {xs : List V} {us : List Value} (i : Nat), Vals xs us → Vals (xs.set i x) (us.set i u)
  | _, _, _, .nil => .nil
  | _, _, 0, .cons _ t => .cons r t
  | _, _, i + 1, .cons q t => .cons q (Vals.set r i t)
theorem Vals.append : ∀ {xs ys : List V} {us ws : List Value}, Vals xs us → Vals ys ws → Vals (xs ++ ys) (us ++ ws)
  | _, _, _, _, .nil, s => s
  | _, _, _, _, .cons r t, s => .cons r (Vals.append t s)
theorem Vals.take : ∀ {xs : List V} {us : List Value} (n : Nat), Vals xs us → Vals (xs.take n) (us.take n)
  | _, _, 0, _ => .nil
  | _, _, _ + 1, .nil => .nil
  | _, _, n + 1, .cons r t => .cons r (Vals.take n t)
theorem Vals.drop : ∀ {xs : List V} {us : List Value} (n : Nat), Vals xs us → Vals (xs.drop n) (us.drop n)
  | _, _, 0, r => r
  | _, _, _ + 1, .nil => .nil
  | _, _, n + 1, .cons _ t => Vals.drop n t
def RelO : Option V → Option Value → Prop
  | some v, some u => RelV v u
  | none, none => True
  | _, _ => False
def KV {κ : Type} : List (κ × V) → List (κ × Value) → Prop := Paired fun (p : κ × V) (q : κ × Value) => p.1 = q.1 ∧ RelV p.2 q.2

/-- a key of a dict (00_mix): an int or a text -/
def kV : Key → V
  | .inl i => .int i
  | .inr x => .str x

/-- what stands at a tracked address -/
inductive HO where
  /-- a list -/
  | lst (xs : List V)
  /-- a tuple (never changes) -/
  | tup (xs : List V)
  /-- a dict whose keys are ints and texts; one whose keys are tuples of ints and texts (the empty one is both) -/
  | dK (kvs : List (Key × V)) | dT (kvs : List (List Key × V))
  /-- a set of ints: its members, its size -/
  | set (S : Int → Bool) (n : Nat)
  /-- an instance of the class at C, its dict at dx, its attributes -/
  | ins (C dx : Addr) (fs : List (Str × V))
  /-- the dict of the instance at x -/
  | own (x : Addr)
  /-- the dict of an exception -/
  | xd (fs : List (Str × V))
  /-- a bound method, f of x -/
  | met (f x : Addr)
  /-- a range object lo, lo + 1, .. below hi -/
  | rng (lo hi : Int)
  /-- a thing that is known to the object (the script; a dict while a loop walks it): read, never written while it is so -/
  | frz (o : Obj) (u : HO)
  /-- a code object's table -/
  | tbl (ps : Array Value)
  /-- any other thing, by what is true of its one object (a def of one's own: SetO a S n := HO.ext fun h => ..) -/
  | ext (φ : Heap → Prop)

abbrev Hp := Addr → Option HO
def upd (H : Hp) (a : Addr) (o : HO) : Hp := fun b => if b = a then some o else H b
theorem upd_same {H : Hp} {a : Addr} {o : HO} : upd H a o a = some o := by unfold upd; rw [if_pos rfl]
theorem upd_ne {H : Hp} {a b : Addr} {o : HO} (h : b ≠ a) : upd H a o b = H b := by unfold upd; rw [if_neg h]
theorem upd_upd {H : Hp} {a : Addr} {o u : HO} : upd (upd H a o) a u = upd H a u := by
  funext b; unfold upd; split <;> rfl
/-- two objects of different content stand apart -/
theorem ne_of {H : Hp} {a b : Addr} {o u : HO} (h : H a = some o) (h' : H b = some u) (d : o ≠ u) : a ≠ b := by
  intro e; subst e; rw [h] at h'; exact d (Option.some.inj h')
theorem ne_of_none {H : Hp} {a b : Addr} {o : HO} (h : H a = some o) (h' : H b = none) : a ≠ b := by
  intro e; subst e; rw [h] at h'; cases h'

section
variable (P : Program) (w : World)
def ObjOk (H : Hp) (h : Heap) (a : Addr) : HO → Prop
  | .lst xs => xs.length ≤ sizeLine ∧ ∃ (its : List Value) (n : Nat), Vals xs its ∧ h.get? a = some { cls := .type "list", data := .seq its.toArray n }
  | .tup xs => xs.length ≤ sizeLine ∧ ∃ its : List Value, Vals xs its ∧ IsTup h a its.toArray
  | .dK kvs => kvs.length ≤ sizeLine ∧ (a == sysModules) = false ∧ ∃ vs, KV kvs vs ∧ h.DictOf (mixKind P w) a vs
  | .dT kvs => kvs.length ≤ sizeLine ∧ (a == sysModules) = false ∧ ∃ xs : List (List Key × Addr × Value),
      Paired (fun (p : List Key × V) (q : List Key × Addr × Value) => p.1 = q.1 ∧ H q.2.1 = some (.tup (p.1.map kV)) ∧ RelV p.2 q.2.2) kvs xs ∧
      ∃ o es ep, h.get? a = some o ∧ o.ExactDict ∧ o.data = .dict es ep ∧ es.toList = xs.map (entryOfKey (tupleKind (mixKind P w))) ∧ (xs.map (·.1)).Nodup
  | .set S n => h.SetOf (intKind P w) a S n
  | .ins C dx fs => H dx = some (.own a) ∧ fs.length ≤ 1000 ∧ dx ≠ a ∧ h.get? a = some (PySem.W.instObj C dx) ∧
      ∃ mA, h.Ns1 dx mA ∧ (∀ f, RelO (fs.lookup f) (mA f)) ∧ PySem.Within mA (fs.map (·.1))
  | .own _ => ∃ o, h.get? a = some o
  | .xd fs => ∃ mA, h.Ns1 a mA ∧ ∀ f, RelO (fs.lookup f) (mA f)
  | .rng lo hi => ∃ t u v, h.get? a = some { cls := .type "range", data := .fields #[.int lo t, .int hi u, .int 1 v] }
  | .frz o u => h.get? a = some o ∧ ObjOk H h a u
  | .tbl ps => h.get? a = some { cls := .none, data := .fields ps }
  | .met f x => h.get? a = some (PySem.W.methodObj (.ref f) (.ref x))
  | .ext φ => φ h ∧ (∃ o, h.get? a = some o) ∧ ∀ h1 h2 : Heap, φ h1 → (∀ o, h1.get? a = some o → h2.get? a = some o) → φ h2
/-- the abstract heap is held -/
def HOk (H : Hp) (h : Heap) : Prop := ∀ a o, H a = some o → ObjOk P w H h a o
end

section
variable {P : Program} {w : World} {H H' : Hp} {h h' : Heap} {a : Addr} {o : HO}
theorem ObjOk.lt (x : ObjOk P w H h a o) : a < h.objs.size := by
  cases o with
  | lst xs => obtain ⟨_, _, _, _, e⟩ := x; exact Heap.lt_size e
  | tup xs => obtain ⟨_, _, _, p⟩ := x; exact p.lt
  | dK kvs => obtain ⟨_, _, _, _, o, _, _, e, _⟩ := x; exact Heap.lt_size e
  | dT kvs => obtain ⟨_, _, _, _, o, _, _, e, _⟩ := x; exact Heap.lt_size e
  | set S n => obtain ⟨o, _, _, _, e, _⟩ := x; exact Heap.lt_size e
  | ins C dx fs => obtain ⟨_, _, _, e, _⟩ := x; exact Heap.lt_size e
  | own y => obtain ⟨_, e⟩ := x; exact Heap.lt_size e
  | xd fs => obtain ⟨_, ⟨_, _, _, e, _⟩, _⟩ := x; exact Heap.lt_size e
  | rng lo hi => obtain ⟨_, _, _, e⟩ := x; exact Heap.lt_size e
  | frz ob u => obtain ⟨e, _⟩ := x; exact Heap.lt_size e
  | tbl ps => exact Heap.lt_size (show h.get? a = some _ from x)
  | met f y => exact Heap.lt_size (show h.get? a = some _ from x)
  | ext φ => obtain ⟨_, ⟨_, e⟩, _⟩ := x; exact Heap.lt_size e
theorem Paired.mapP {α β : Type} {F G : α → β → Prop} : ∀ {l₁ : List α} {l₂ : List β}, Paired F l₁ l₂ → (∀ a b, F a b → G a b) → Paired G l₁ l₂
  | _, _, .nil, _ => .nil
  | _, _, .cons r t, f => .cons (f _ _ r) (Paired.mapP t f)
/-- what an object's description leans on: its own object, its own dict, the tuples -/
theorem ObjOk.stay (x : ObjOk P w H h a o) (k : ∀ b u, (b = a ∨ H b = some (.own a)) → h.get? b = some u → h'.get? b = some u)
    (ho : ∀ b, H b = some (.own a) → H' b = some (.own a)) (ht : ∀ b xs, H b = some (.tup xs) → H' b = some (.tup xs)) : ObjOk P w H' h' a o := by
  induction o with
  | lst xs => obtain ⟨z, its, n, r, e⟩ := x; exact ⟨z, its, n, r, k _ _ (.inl rfl) e⟩
  | tup xs => obtain ⟨z, its, r, ob, e, c⟩ := x; exact ⟨z, its, r, ob, k _ _ (.inl rfl) e, c⟩
  | dK kvs => obtain ⟨z, y, vs, r, ob, es, ep, e, c⟩ := x; exact ⟨z, y, vs, r, ob, es, ep, k _ _ (.inl rfl) e, c⟩
  | dT kvs =>
    obtain ⟨z, y, xs, r, ob, es, ep, e, c⟩ := x
    exact ⟨z, y, xs, Paired.mapP r fun p q z => ⟨z.1, ht _ _ z.2.1, z.2.2⟩, ob, es, ep, k _ _ (.inl rfl) e, c⟩
  | set S n => obtain ⟨ob, es, ep, t, e, c⟩ := x; exact ⟨ob, es, ep, t, k _ _ (.inl rfl) e, c⟩
  | ins C dx fs =>
    obtain ⟨d, z, ne, e, mA, ⟨od, es, ep, e2, c⟩, r⟩ := x
    exact ⟨ho _ d, z, ne, k _ _ (.inl rfl) e, mA, ⟨od, es, ep, k _ _ (.inr d) e2, c⟩, r⟩
  | own y => obtain ⟨ob, e⟩ := x; exact ⟨ob, k _ _ (.inl rfl) e⟩
  | xd fs => obtain ⟨mA, ⟨od, es, ep, e, c⟩, r⟩ := x; exact ⟨mA, ⟨od, es, ep, k _ _ (.inl rfl) e, c⟩, r⟩
  | rng lo hi => obtain ⟨t, u, v, e⟩ := x; exact ⟨t, u, v, k _ _ (.inl rfl) e⟩
  | frz ob u ih => obtain ⟨e, q⟩ := x; exact ⟨k _ _ (.inl rfl) e, ih q⟩
  | tbl ps =>
    have e : h.get? a = some { cls := .none, data := .fields ps } := x
    show h'.get? a = some { cls := .none, data := .fields ps }
    exact k a _ (.inl rfl) e
  | met f y =>
    have e : h.get? a = some (PySem.W.methodObj (.ref f) (.ref y)) := x
    show h'.get? a = some (PySem.W.methodObj (.ref f) (.ref y))
    exact k a _ (.inl rfl) e
  | ext φ => obtain ⟨p, ⟨o, e⟩, st⟩ := x; exact ⟨st _ _ p fun o q => k _ _ (.inl rfl) q, ⟨o, k _ _ (.inl rfl) e⟩, st⟩
theorem HOk.lt (x : HOk P w H h) (e : H a = some o) : a < h.objs.size := (x a o e).lt
theorem HOk.fresh (x : HOk P w H h) (e : h.objs.size ≤ a) : H a = none := by
  cases q : H a with
  | none => rfl
  | some u => exact absurd (Nat.lt_of_lt_of_le (x.lt q) e) (Nat.lt_irrefl _)
/-- every object of the heap is kept -/
theorem HOk.kept (x : HOk P w H h) (k : ∀ b u, h.get? b = some u → h'.get? b = some u) : HOk P w H h' := fun a o e =>
  (x a o e).stay (fun b u _ q => k b u q) (fun _ q => q) fun _ _ q => q
/-- a new object is laid and tracked -/
theorem HOk.laid (x : HOk P w H h) (k : ∀ b u, h.get? b = some u → h'.get? b = some u) (hp : h.objs.size ≤ a) (new : ObjOk P w (upd H a o) h' a o) : HOk P w (upd H a o) h' := fun b u e => by
  have hn := x.fresh hp
  by_cases hb : b = a
  · subst hb; rw [upd_same] at e; cases e; exact new
  · rw [upd_ne hb] at e
    exact (x b u e).stay (fun c v _ q => k c v q) (fun c q => by rw [upd_ne (ne_of_none q hn)]; exact q) fun c xs q => by rw [upd_ne (ne_of_none q hn)]; exact q
end

/-- what may be read as u: it is u, or a known u -/
def Rd (H : Hp) (a : Addr) (u : HO) : Prop := H a = some u ∨ ∃ o, H a = some (.frz o u)
theorem Rd.of {H : Hp} {a : Addr} {u : HO} (h : H a = some u) : Rd H a u := .inl h
theorem Rd.ok {P : Program} {w : World} {H : Hp} {h : Heap} {a : Addr} {u : HO} (r : Rd H a u) (x : HOk P w H h) : ObjOk P w H h a u := by
  rcases r with r | ⟨o, r⟩
  · exact x a u r
  · obtain ⟨_, q⟩ := x a _ r
    exact q
/-- what may be written -/
def Mut : Option HO → Prop
  | some (.lst _) => True
  | some (.dK _) => True
  | some (.dT _) => True
  | some (.set _ _) => True
  | some (.ins _ _ _) => True
  | some (.ext _) => True
  | _ => False
section
variable {P : Program} {w : World} {H : Hp} {h h' : Heap} {x e : Addr} {o' : HO}
/-- the object at e is changed: x itself, or the dict of the instance x -/
theorem HOk.write (ok : HOk P w H h) (mu : Mut (H x)) (he : e = x ∨ H e = some (.own x)) (k : ∀ b u, b ≠ e → h.get? b = some u → h'.get? b = some u) (heo : ∃ u, h'.get? e = some u)
    (new : ObjOk P w (upd H x o') h' x o') : HOk P w (upd H x o') h' := fun b u q => by
  have nown : ∀ c y, H c = some (.own y) → c ≠ x := fun c y r z => by subst z; rw [r] at mu; exact mu
  have ntup : ∀ c xs, H c = some (.tup xs) → c ≠ x := fun c xs r z => by subst z; rw [r] at mu; exact mu
  by_cases hb : b = x
  · subst hb; rw [upd_same] at q; cases q; exact new
  · rw [upd_ne hb] at q
    by_cases hbe : b = e
    · have q' : H b = some (.own x) := by
        rcases he with z | z
        · exact absurd (hbe.trans z) hb
        · rw [hbe]; exact z
      rw [q] at q'; cases q'
      obtain ⟨v, hv⟩ := heo
      exact ⟨v, by rw [hbe]; exact hv⟩
    · refine (ok b u q).stay (fun c v hc r => k c v ?_ r) (fun c r => by rw [upd_ne (nown c b r)]; exact r) fun c xs r => by rw [upd_ne (ntup c xs r)]; exact r
      rcases hc with rfl | hc
      · exact hbe
      · rintro rfl
        rcases he with z | z
        · exact nown c b hc z
        · rw [hc] at z; cases z; exact hb rfl
end

/-! ### kept unless tracked; of the frames at fs (the callers') the slots may change (an exception that passes writes there); of the records at ex (iterators) nothing is said -/
structure Un (fs ex : List Addr) (H H' : Hp) (h h' : Heap) : Prop where
  keep : ∀ b o, h.get? b = some o → H b = none → b ∉ fs → b ∉ ex → h'.get? b = some o
  slot : ∀ b o, h.get? b = some o → H b = none → b ∈ fs → b ∉ ex → ∃ sl, h'.get? b = some { o with slots := sl }
  free : ∀ b o, h.get? b = some o → H b = none → b ∉ ex → H' b = none
  there : ∀ b o, h.get? b = some o → b ∉ ex → ∃ o', h'.get? b = some o'
  tups : ∀ b xs, H b = some (.tup xs) → H' b = some (.tup xs)
  frzs : ∀ b o u, H b = some (.frz o u) → H' b = some (.frz o u)
  tbls : ∀ b ps, H b = some (.tbl ps) → ∃ more, H' b = some (.tbl (ps ++ more))
section
variable {fs fs' ex ex' : List Addr} {H H1 H2 : Hp} {h h1 h2 h' : Heap} {a x e : Addr} {o : HO}
theorem Un.any (u : Un fs ex H H1 h h1) {b : Addr} {ob : Obj} (q : h.get? b = some ob) (n : H b = none) (hx : b ∉ ex) : ∃ sl, h1.get? b = some { ob with slots := sl } := by
  by_cases hb : b ∈ fs
  · exact u.slot b ob q n hb hx
  · exact ⟨ob.slots, u.keep b ob q n hb hx⟩
theorem Un.trans (a : Un fs ex H H1 h h1) (b : Un fs ex H1 H2 h1 h2) : Un fs ex H H2 h h2 where
  keep := fun c ob q n hc hx => b.keep c ob (a.keep c ob q n hc hx) (a.free c ob q n hx) hc hx
  slot := fun c ob q n hc hx => by
    obtain ⟨sl, e1⟩ := a.slot c ob q n hc hx
    obtain ⟨sl', e2⟩ := b.slot c _ e1 (a.free c ob q n hx) hc hx
    exact ⟨sl', e2⟩
  free := fun c ob q n hx => by
    obtain ⟨o', e1⟩ := a.there c ob q hx
    exact b.free c o' e1 (a.free c ob q n hx) hx
  there := fun c ob q hx => by
    obtain ⟨o', e1⟩ := a.there c ob q hx
    exact b.there c o' e1 hx
  tups := fun c xs q => b.tups c xs (a.tups c xs q)
  frzs := fun c ob xs q => b.frzs c ob xs (a.frzs c ob xs q)
  tbls := fun c ps q => by
    obtain ⟨m1, e1⟩ := a.tbls c ps q
    obtain ⟨m2, e2⟩ := b.tbls c _ e1
    exact ⟨m1 ++ m2, by rw [e2, Array.append_assoc]⟩
theorem Un.kept (k : ∀ b u, h.get? b = some u → h'.get? b = some u) : Un fs ex H H h h' :=
  ⟨fun b ob q _ _ _ => k b ob q, fun b ob q _ _ _ => ⟨ob.slots, k b ob q⟩, fun _ _ _ n _ => n, fun b ob q _ => ⟨ob, k b ob q⟩, fun _ _ q => q, fun _ _ _ q => q, fun _ ps q => ⟨#[], by rw [q]; simp⟩⟩
theorem Un.refl : Un fs ex H H h h := Un.kept fun _ _ q => q
theorem Un.laid (k : ∀ b u, h.get? b = some u → h'.get? b = some u) (hp : h.objs.size ≤ a) (hn : H a = none) : Un fs ex H (upd H a o) h h' where
  keep := fun b u q _ _ _ => k b u q
  slot := fun b u q _ _ _ => ⟨u.slots, k b u q⟩
  free := fun b u q n _ => by rw [upd_ne (Nat.ne_of_lt (Nat.lt_of_lt_of_le (Heap.lt_size q) hp))]; exact n
  there := fun b u q _ => ⟨u, k b u q⟩
  tups := fun b xs q => by rw [upd_ne (ne_of_none q hn)]; exact q
  frzs := fun b u xs q => by rw [upd_ne (ne_of_none q hn)]; exact q
  tbls := fun b ps q => ⟨#[], by rw [upd_ne (ne_of_none q hn), q]; simp⟩
theorem Un.write (mu : Mut (H x)) (he : e = x ∨ H e = some (.own x)) (k : ∀ b u, b ≠ e → h.get? b = some u → h'.get? b = some u) (heo : ∃ u, h'.get? e = some u) : Un fs ex H (upd H x o) h h' := by
  have hx : ∀ b, H b = none → b ≠ x := fun b n z => by subst z; rw [n] at mu; exact mu
  have hb : ∀ b, H b = none → b ≠ e := fun b n z => by
    subst z
    rcases he with r | r
    · exact hx b n r
    · rw [n] at r; cases r
  have hm : ∀ b u, H b = some u → ¬ Mut (some u) → b ≠ x := fun b u q nm z => by subst z; rw [q] at mu; exact nm mu
  refine ⟨fun b u q n _ _ => k b u (hb b n) q, fun b u q n _ _ => ⟨u.slots, k b u (hb b n) q⟩, fun b u q n _ => by rw [upd_ne (hx b n)]; exact n, fun b u q _ => ?_,
    fun b xs q => by rw [upd_ne (hm b _ q fun z => z)]; exact q, fun b u xs q => by rw [upd_ne (hm b _ q fun z => z)]; exact q, fun b ps q => ⟨#[], by rw [upd_ne (hm b _ q fun z => z), q]; simp⟩⟩
  by_cases hbe : b = e
  · subst hbe; exact heo
  · exact ⟨u, k b u hbe q⟩
theorem Un.mono (u : Un fs ex H H1 h h1) (hs : ∀ b ∈ fs, b ∈ fs') (hx : ∀ b ∈ ex, b ∈ ex') : Un fs' ex' H H1 h h1 :=
  ⟨fun b ob q n hb he => u.keep b ob q n (fun z => hb (hs b z)) fun z => he (hx b z), fun _ _ q n _ he => u.any q n fun z => he (hx _ z), fun b ob q n he => u.free b ob q n fun z => he (hx b z), fun b ob q he => u.there b ob q fun z => he (hx b z), u.tups, u.frzs, u.tbls⟩
end

/-! ### the heap without what is tracked -/
def trk (h : Heap) (H : Hp) : List Addr := (List.range h.objs.size).filter fun a => (H a).isSome
def hidT (h : Heap) (H : Hp) : Heap := PySem.W.hideAll h (trk h H)
theorem hidT_size (h : Heap) (H : Hp) : (hidT h H).objs.size = h.objs.size := PySem.W.hideAll_size _ _
theorem hidT_get {h : Heap} {H : Hp} {b : Addr} {o : Obj} (e : h.get? b = some o) (n : H b = none) : (hidT h H).get? b = some o :=
  PySem.W.hideAll_get _ e fun hm => by
    have q : (H b).isSome = true := (List.mem_filter.mp hm).2
    rw [n] at q; simp at q
theorem of_hidT {h : Heap} {H : Hp} {b : Addr} {o : Obj} (e : (hidT h H).get? b = some o) : h.get? b = some o ∧ H b = none := by
  have e' : h.get? b = some o := PySem.W.of_hideAll (trk h H) e
  refine ⟨e', ?_⟩
  cases q : H b with
  | none => rfl
  | some x =>
    have hm : b ∈ trk h H := List.mem_filter.mpr ⟨List.mem_range.mpr (Heap.lt_size e'), by simp [q]⟩
    have z : (hidT h H).get? b = none := PySem.W.hideAll_none (trk h H) hm
    rw [z] at e; cases e

/-! ### OpenK's ledger, filled with every new object but one -/
def allNews (g h : Heap) (L : Addr) : List (Addr × Obj) := (List.range h.objs.size).filterMap fun a => if a = L ∨ (g.get? a).isSome = true then none else (h.get? a).map fun o => (a, o)
def rest (g h : Heap) (L d : Addr) : List (Addr × Obj) := (allNews g h L).filter fun p => decide (p.1 ≠ d)
end L2

namespace L2
open PySem PySem.Spec PyProof.Rows

/-- the module's facts, over the base: the heap at the law's entry without what is tracked there -/
structure Mod (K : PySem.W.Frag) (mg : Str → Option Value) (base : Heap) : Prop where
  kin : K.In base
  glob : base.Ns mainGlobals mg
  blt : ∃ mb, base.Ns builtinsNs mb ∧ ∀ x : Str, x ≠ "__name__" → mb x = bootBuiltins x
  nolimit : base.NoLimit

/-- the context: a def's body (or a comprehension's block) running. base: fixed through the whole law; s₀, H₀: the entry; outer: the frames whose slots others may change (a def's callers); stack: all frames that run;
   ex: iterators that were made ahead of the entry and are walked here (a comprehension's); fn: the names whose cells were made at the entry (a def: all; a comprehension's block: its own); calm: not within an except suite; pn: pins that every state bears; xe: what is wanted of an exception that leaves the code -/
structure Cx where
  prog : Program
  w : World
  K : PySem.W.Frag
  mg : Str → Option Value
  base : Heap
  A : Around
  N : List Str
  s₀ : Shared
  H₀ : Hp
  env : Env
  outer : List Env
  stack : List Env
  ex : List Addr
  fn : Str → Bool
  calm : Bool
  pn : List (Addr × Obj)
  xe : Value → Shared → Prop
/-- the callers' frames -/
def frs (l : List Env) : List Addr := l.filterMap (·.frame)
abbrev Cx.fs (X : Cx) : List Addr := frs X.outer

def Vis (sc : Scope) (x : Str) : Prop := sc.names.lookup x = some .local ∨ sc.names.lookup x = some .cell ∨ sc.names.lookup x = some .free
def Loc (sc : Scope) (x : Str) : Prop := sc.names.lookup x = some .local ∨ sc.names.lookup x = some .cell
def Look (env : Env) (h : Heap) (m : Str → Option Value) (x : Str) (u : Value) : Prop :=
  (env.kindOf x = some .local ∧ m x = some u) ∨ ((env.kindOf x = some .cell ∨ env.kindOf x = some .free) ∧ ∃ c, env.cells.lookup x = some c ∧ h.IsCell c (some u))

structure Cx.Ok (X : Cx) : Prop where
  mod : Mod X.K X.mg X.base
  kind : X.env.scope.kind = .function
  glob : X.env.globals = mainGlobals
  blt : X.env.builtins = builtinsNs
  above : X.s₀.heap.objs.size ≤ X.env.locals
  inj : ∀ x y c, X.env.cells.lookup x = some c → X.env.cells.lookup y = some c → x = y
  has : ∀ x, (X.env.kindOf x = some .cell ∨ X.env.kindOf x = some .free) → ∃ c, X.env.cells.lookup x = some c
  cab : ∀ x c, X.fn x = true → X.env.cells.lookup x = some c → X.s₀.heap.objs.size ≤ c
  hd : X.calm = true → X.A.handled = none
  frames : X.A.frames = some X.stack
  stk : X.stack = X.outer ∨ (X.stack = X.env :: X.outer ∧ X.env.frame = some X.env.locals)
  exf : ∀ b ∈ X.ex, b ≠ X.env.locals ∧ ∀ x c, X.env.cells.lookup x = some c → c ≠ b
  bs : ∀ b o, X.base.get? b = some o → X.s₀.heap.get? b = some o ∧ X.H₀ b = none
  bsz : X.base.objs.size ≤ X.s₀.heap.objs.size
  noex : ∀ b o, X.base.get? b = some o → b ∉ X.ex
  exfs : ∀ b ∈ X.ex, b ∉ X.fs
  funs : X.s₀.heap.FunFrames X.base X.outer
  frf : ∀ b ∈ X.fs, X.H₀ b = none

structure Inv (X : Cx) (pins : List (Addr × Obj)) (σ : List (Option V)) (H : Hp) (s : Shared) : Prop where
  ok : X.Ok
  os : s.os = X.s₀.os
  bare : AllBare s.gens
  base : Un X.fs X.ex X.H₀ H X.s₀.heap s.heap
  loc : ∃ m, s.heap.Ns X.env.locals m ∧ ∀ (i : Nat) (x : Str) (v : V), X.N[i]? = some x → σ[i]? = some (some v) → Vis X.env.scope x → ∃ u, RelV v u ∧ Look X.env s.heap m x u
  cell : ∀ x c, X.env.cells.lookup x = some c → ∃ v, s.heap.IsCell c v
  free : H X.env.locals = none
  freeC : ∀ x c, X.env.cells.lookup x = some c → H c = none
  pin : ∀ p ∈ X.pn ++ pins, s.heap.get? p.1 = some p.2 ∧ H p.1 = none ∧ p.1 ≠ X.env.locals ∧ p.1 ∉ X.fs ∧ ∀ v, p.2.data ≠ .cell v
  hok : HOk X.prog X.w H s.heap
  len : σ.length = X.N.length

section
variable {X : Cx} {pins : List (Addr × Obj)} {σ : List (Option V)} {H H' : Hp} {s : Shared} {h' : Heap}

theorem Cx.Ok.nofr (ok : X.Ok) {b : Addr} {o : Obj} (e : X.base.get? b = some o) : b ∉ X.fs := fun hb => by
  have := (ok.funs.mem hb).1
  rw [e] at this; cases this
theorem Inv.bs (I : Inv X pins σ H s) : ∀ b o, X.base.get? b = some o → s.heap.get? b = some o ∧ H b = none := fun b o e =>
  ⟨I.base.keep b o (I.ok.bs b o e).1 (I.ok.bs b o e).2 (I.ok.nofr e) (I.ok.noex b o e), I.base.free b o (I.ok.bs b o e).1 (I.ok.bs b o e).2 (I.ok.noex b o e)⟩
theorem Inv.bk (I : Inv X pins σ H s) : ∀ b o, X.base.get? b = some o → s.heap.get? b = some o := fun b o e => (I.bs b o e).1
theorem Inv.mod (I : Inv X pins σ H s) : Mod X.K X.mg X.base := I.ok.mod
theorem Inv.kIn (I : Inv X pins σ H s) : X.K.In s.heap := I.ok.mod.kin.keeps I.bk
theorem Inv.nolimit (I : Inv X pins σ H s) : s.heap.NoLimit := I.ok.mod.nolimit.keeps I.bk
/-- the frame over the base: for OpenK's rules (K.In X.base is I.mod.kin) -/
theorem Inv.fr (I : Inv X pins σ H s) : ∃ m, Fr X.base X.env.locals s.heap m :=
  let ⟨m, hn, _⟩ := I.loc
  ⟨m, hn, I.bk, Nat.le_trans I.ok.bsz I.ok.above⟩
theorem Inv.lt (I : Inv X pins σ H s) : X.env.locals < s.heap.objs.size := let ⟨_, hn, _⟩ := I.loc; hn.lt
theorem Inv.sz (I : Inv X pins σ H s) : X.s₀.heap.objs.size ≤ s.heap.objs.size := Nat.le_trans I.ok.above (Nat.le_of_lt I.lt)
theorem Inv.nofs (I : Inv X pins σ H s) {a : Addr} (h : s.heap.objs.size ≤ a) : a ∉ X.fs := fun hb => by
  obtain ⟨_, o, ho, _⟩ := I.ok.funs.mem hb
  exact absurd (Nat.lt_of_lt_of_le (Heap.lt_size ho) (Nat.le_trans I.sz h)) (Nat.lt_irrefl _)
theorem Inv.cne (I : Inv X pins σ H s) : ∀ x c, X.env.cells.lookup x = some c → c ≠ X.env.locals := fun x c e z => by
  obtain ⟨v, o, ho, hd⟩ := I.cell x c e
  obtain ⟨m, ⟨o', es, ep, ho', hd', _⟩, _⟩ := I.loc
  rw [z, ho'] at ho; cases ho; rw [hd'] at hd; cases hd
theorem Inv.funs (I : Inv X pins σ H s) : s.heap.FunFrames X.base X.outer := by
  have all : ∀ (l : List Env), (∀ b ∈ frs l, b ∈ X.fs) → X.s₀.heap.FunFrames X.base l → s.heap.FunFrames X.base l := by
    intro l
    induction l with
    | nil => intro _ _; trivial
    | cons env r ih =>
      intro hs hl
      obtain ⟨hk, ⟨L, o, hf, hn, ho, hd⟩, hr⟩ := hl
      have hL : L ∈ X.fs := hs L (by unfold frs; rw [List.filterMap_cons, hf]; exact List.mem_cons_self)
      obtain ⟨sl, e⟩ := I.base.slot L o ho (I.ok.frf L hL) hL fun z => I.ok.exfs L z hL
      exact ⟨hk, ⟨L, _, hf, hn, e, hd⟩, ih (fun b hb => hs b (by unfold frs; rw [List.filterMap_cons, hf]; exact List.mem_cons_of_mem _ hb)) hr⟩
  exact all X.outer (fun _ hb => hb) I.ok.funs

/-- the frames that run, for a call -/
theorem Inv.stack (I : Inv X pins σ H s) : s.heap.FunFrames X.base X.stack := by
  rcases I.ok.stk with e | ⟨e, hf⟩
  · rw [e]; exact I.funs
  · rw [e]
    obtain ⟨m, hn, _⟩ := I.loc
    refine .cons (by rw [I.ok.kind]; decide) hf hn ?_ I.funs
    exact Heap.get?_none_of_le (Nat.le_trans I.ok.bsz I.ok.above)
theorem Inv.stkSub (I : Inv X pins σ H s) : ∀ b ∈ frs X.stack, b ∈ X.env.locals :: X.fs := fun b hb => by
  rcases I.ok.stk with e | ⟨e, hf⟩
  · rw [e] at hb; exact List.mem_cons_of_mem _ hb
  · rw [e] at hb
    unfold frs at hb
    rw [List.filterMap_cons, hf] at hb
    exact hb
theorem Inv.stkFree (I : Inv X pins σ H s) : ∀ b ∈ frs X.stack, H b = none := fun b hb => by
  rcases List.mem_cons.mp (I.stkSub b hb) with e | hb
  · rw [e]; exact I.free
  · obtain ⟨_, o, ho, _⟩ := I.ok.funs.mem hb
    exact I.base.free b o ho (I.ok.frf b hb) fun z => I.ok.exfs b z hb

/-- THE STEP: the untracked objects but the frame and the records at ch are kept (the callers' frames up to slots), the frame's map is kept, the new abstract heap is held -/
theorem Inv.step {g' : Array GenState} {t' : Nat} {d' : Drawn} {ch : List Addr} (I : Inv X pins σ H s)
    (hch : ∀ b ∈ ch, (b ∈ X.ex ∨ X.s₀.heap.objs.size ≤ b) ∧ b ≠ X.env.locals ∧ (∀ x c, X.env.cells.lookup x = some c → c ≠ b) ∧ ∀ p ∈ X.pn ++ pins, p.1 ≠ b)
    (keep : ∀ b o, b ≠ X.env.locals → b ∉ X.fs → b ∉ ch → s.heap.get? b = some o → H b = none → h'.get? b = some o)
    (slot : ∀ b o, b ≠ X.env.locals → b ∈ X.fs → b ∉ ch → s.heap.get? b = some o → H b = none → ∃ sl, h'.get? b = some { o with slots := sl }) (free : ∀ b o, b ∉ ch → s.heap.get? b = some o → H b = none → H' b = none)
    (there : ∀ b o, b ∉ ch → s.heap.get? b = some o → ∃ o', h'.get? b = some o')
    (tups : ∀ b xs, H b = some (.tup xs) → H' b = some (.tup xs)) (frzs : ∀ b o u, H b = some (.frz o u) → H' b = some (.frz o u)) (tbls : ∀ b ps, H b = some (.tbl ps) → ∃ more, H' b = some (.tbl (ps ++ more)))
    (ns : ∀ m, s.heap.Ns X.env.locals m → h'.Ns X.env.locals m) (hok : HOk X.prog X.w H' h') (hg : AllBare g') :
    Inv X pins σ H' { s with heap := h', gens := g', drawn := d', toks := t' } := by
  have neL : ∀ b o, X.s₀.heap.get? b = some o → b ≠ X.env.locals := fun b o e => Nat.ne_of_lt (Nat.lt_of_lt_of_le (Heap.lt_size e) I.ok.above)
  have neC : ∀ b o, X.s₀.heap.get? b = some o → b ∉ X.ex → b ∉ ch := fun b o e hx hb => by
    rcases (hch b hb).1 with z | z
    · exact hx z
    · exact absurd (Nat.lt_of_lt_of_le (Heap.lt_size e) z) (Nat.lt_irrefl _)
  have cellK : ∀ x c, X.env.cells.lookup x = some c → ∀ v, s.heap.IsCell c v → h'.IsCell c v := fun x c e v ⟨o, ho, hd⟩ => by
    have nch : c ∉ ch := fun z => (hch c z).2.2.1 x c e rfl
    by_cases hc : c ∈ X.fs
    · obtain ⟨sl, q⟩ := slot c o (I.cne x c e) hc nch ho (I.freeC x c e)
      exact ⟨_, q, hd⟩
    · exact ⟨o, keep c o (I.cne x c e) hc nch ho (I.freeC x c e), hd⟩
  refine ⟨I.ok, I.os, hg, ⟨fun b o e n hb hx => ?_, fun b o e n hb hx => ?_, fun b o e n hx => ?_, fun b o e hx => ?_, fun b xs e => tups b xs (I.base.tups b xs e), fun b o xs e => frzs b o xs (I.base.frzs b o xs e), fun b ps e => ?_⟩, ?_, fun x c e => ?_, ?_, fun x c e => ?_, fun p hp => ?_, hok, I.len⟩
  · exact keep b o (neL b o e) hb (neC b o e hx) (I.base.keep b o e n hb hx) (I.base.free b o e n hx)
  · obtain ⟨sl, e1⟩ := I.base.slot b o e n hb hx
    obtain ⟨sl', e2⟩ := slot b _ (neL b o e) hb (neC b o e hx) e1 (I.base.free b o e n hx)
    exact ⟨sl', e2⟩
  · obtain ⟨o', e1⟩ := I.base.there b o e hx
    exact free b o' (neC b o e hx) e1 (I.base.free b o e n hx)
  · obtain ⟨o', e1⟩ := I.base.there b o e hx
    exact there b o' (neC b o e hx) e1
  · obtain ⟨m1, e1⟩ := I.base.tbls b ps e
    obtain ⟨m2, e2⟩ := tbls b _ e1
    exact ⟨m1 ++ m2, by rw [e2, Array.append_assoc]⟩
  · obtain ⟨m, hn, hl⟩ := I.loc
    refine ⟨m, ns m hn, fun i x v e1 e2 e3 => ?_⟩
    obtain ⟨u, r, l⟩ := hl i x v e1 e2 e3
    refine ⟨u, r, ?_⟩
    rcases l with l | ⟨k, c, e, z⟩
    · exact .inl l
    · exact .inr ⟨k, c, e, cellK x c e _ z⟩
  · obtain ⟨v, z⟩ := I.cell x c e
    exact ⟨v, cellK x c e v z⟩
  · obtain ⟨m, ⟨o, _, _, ho, _⟩, _⟩ := I.loc
    exact free _ o (fun z => (hch _ z).2.1 rfl) ho I.free
  · obtain ⟨v, o, ho, hd⟩ := I.cell x c e
    exact free c o (fun z => (hch c z).2.2.1 x c e rfl) ho (I.freeC x c e)
  · obtain ⟨e, n, ne, nf, d⟩ := I.pin p hp
    have nch : p.1 ∉ ch := fun z => (hch p.1 z).2.2.2 p hp rfl
    exact ⟨keep p.1 p.2 ne nf nch e n, free p.1 p.2 nch e n, ne, nf, d⟩
/-- .. where the frame's own object is kept too -/
theorem Inv.un {t' : Nat} (I : Inv X pins σ H s) (u : Un X.fs [] H H' s.heap h') (hok : HOk X.prog X.w H' h') : Inv X pins σ H' { s with heap := h', toks := t' } := by
  obtain ⟨m, ⟨o, es, ep, ho, r⟩, _⟩ := id I.loc
  obtain ⟨sl, hL⟩ := u.any ho I.free (by simp)
  exact I.step (g' := s.gens) (d' := s.drawn) (ch := []) (fun _ z => nomatch z) (fun b o _ hb _ e n => u.keep b o e n hb (by simp)) (fun b o _ hb _ e n => u.slot b o e n hb (by simp)) (fun b o _ e n => u.free b o e n (by simp)) (fun b o _ e => u.there b o e (by simp)) u.tups u.frzs u.tbls (fun m' hm => by
    obtain ⟨o', es', ep', ho', r'⟩ := hm
    rw [ho] at ho'; cases ho'
    exact ⟨_, es', ep', hL, r'⟩) hok I.bare
/-- behind a call (or a comprehension's block): the slots of this frame may have changed too, the records at ch may have turned -/
theorem Inv.call {g' : Array GenState} {t' : Nat} {d' : Drawn} {ch : List Addr} (I : Inv X pins σ H s) (u : Un (frs X.stack) ch H H' s.heap h') (hok : HOk X.prog X.w H' h') (hg : AllBare g')
    (hch : ∀ b ∈ ch, (b ∈ X.ex ∨ X.s₀.heap.objs.size ≤ b) ∧ b ≠ X.env.locals ∧ (∀ x c, X.env.cells.lookup x = some c → c ≠ b) ∧ ∀ p ∈ X.pn ++ pins, p.1 ≠ b) :
    Inv X pins σ H' { s with heap := h', gens := g', drawn := d', toks := t' } := by
  obtain ⟨m, ⟨o, es, ep, ho, r⟩, _⟩ := id I.loc
  obtain ⟨sl, hL⟩ := u.any ho I.free fun z => (hch _ z).2.1 rfl
  exact I.step (ch := ch) hch (fun b o hL hb hc e n => u.keep b o e n (fun z => (List.mem_cons.mp (I.stkSub b z)).elim hL hb) hc) (fun b o _ _ hc e n => u.any e n hc) (fun b o hc e n => u.free b o e n hc) (fun b o hc e => u.there b o e hc) u.tups u.frzs u.tbls (fun m' hm => by
    obtain ⟨o', es', ep', ho', r'⟩ := hm
    rw [ho] at ho'; cases ho'
    exact ⟨_, es', ep', hL, r'⟩) hok hg
/-- an untracked record of ours (an iterator) has turned -/
theorem Inv.turned {t' : Nat} {it : Addr} (I : Inv X pins σ H s) (k : ∀ b o, b ≠ it → s.heap.get? b = some o → h'.get? b = some o) (hn : H it = none) (hL : it ≠ X.env.locals)
    (h1 : it ∈ X.ex ∨ X.s₀.heap.objs.size ≤ it) (h2 : ∀ x c, X.env.cells.lookup x = some c → c ≠ it) (h3 : ∀ p ∈ X.pn ++ pins, p.1 ≠ it) : Inv X pins σ H { s with heap := h', toks := t' } := by
  have nit : ∀ b u, H b = some u → b ≠ it := fun b u e z => by rw [z, hn] at e; cases e
  refine I.step (g' := s.gens) (d' := s.drawn) (ch := [it]) (fun b hb => ?_) (fun b o _ _ hc e _ => k b o (fun z => hc (by simp [z])) e) (fun b o _ _ hc e _ => ⟨o.slots, k b o (fun z => hc (by simp [z])) e⟩) (fun _ _ _ _ n => n)
    (fun b o hc e => ⟨o, k b o (fun z => hc (by simp [z])) e⟩) (fun _ _ e => e) (fun _ _ _ e => e) (fun b ps e => ⟨#[], by rw [e]; simp⟩) (fun m hm => ?_) (fun b u e => ?_) I.bare
  · have e : b = it := by simpa using hb
    subst e
    exact ⟨h1, hL, h2, h3⟩
  · obtain ⟨o, es, ep, ho, r⟩ := hm
    exact ⟨o, es, ep, k _ o (Ne.symm hL) ho, r⟩
  · refine (I.hok b u e).stay (fun c v hc q => k c v ?_ q) (fun _ q => q) fun _ _ q => q
    rcases hc with z | z
    · rw [z]; exact nit b u e
    · exact nit c _ z
theorem Inv.tok (I : Inv X pins σ H s) (t : Nat) : Inv X pins σ H { s with toks := t } := I.un (h' := s.heap) (t' := t) Un.refl I.hok
/-- all objects kept -/
theorem Inv.kept {t' : Nat} (I : Inv X pins σ H s) (k : ∀ b u, s.heap.get? b = some u → h'.get? b = some u) : Inv X pins σ H { s with heap := h', toks := t' } := I.un (Un.kept k) (I.hok.kept k)
/-- a new object laid and tracked -/
theorem Inv.laid {a : Addr} {o : HO} {t' : Nat} (I : Inv X pins σ H s) (k : ∀ b u, s.heap.get? b = some u → h'.get? b = some u) (hp : s.heap.objs.size ≤ a) (new : ObjOk X.prog X.w (upd H a o) h' a o) :
    Inv X pins σ (upd H a o) { s with heap := h', toks := t' } := I.un (Un.laid k hp (I.hok.fresh hp)) (I.hok.laid k hp new)
/-- an object written -/
theorem Inv.write {x e : Addr} {o : HO} {t' : Nat} (I : Inv X pins σ H s) (mu : Mut (H x)) (he : e = x ∨ H e = some (.own x)) (k : ∀ b u, b ≠ e → s.heap.get? b = some u → h'.get? b = some u) (heo : ∃ u, h'.get? e = some u)
    (new : ObjOk X.prog X.w (upd H x o) h' x o) : Inv X pins σ (upd H x o) { s with heap := h', toks := t' } := I.un (Un.write mu he k heo) (I.hok.write mu he k heo new)
theorem Inv.pins_of {pins' : List (Addr × Obj)} (I : Inv X pins σ H s) (h : ∀ p ∈ pins', s.heap.get? p.1 = some p.2 ∧ H p.1 = none ∧ p.1 ≠ X.env.locals ∧ p.1 ∉ X.fs ∧ ∀ v, p.2.data ≠ .cell v) : Inv X pins' σ H s :=
  ⟨I.ok, I.os, I.bare, I.base, I.loc, I.cell, I.free, I.freeC, fun p hp => (List.mem_append.mp hp).elim (fun z => I.pin p (List.mem_append_left _ z)) (h p), I.hok, I.len⟩

theorem nodup_ix {N : List Str} (hN : N.Nodup) {i j : Nat} {x : Str} (a : N[i]? = some x) (b : N[j]? = some x) : i = j := by
  obtain ⟨h1, e1⟩ := List.getElem?_eq_some_iff.mp a
  obtain ⟨h2, e2⟩ := List.getElem?_eq_some_iff.mp b
  exact (List.getElem_inj hN).mp (e1.trans e2.symm)

/-- a name is stored; what changed -/
theorem store_ok2 {M : Model} {A : Around} {E : Value → Shared → Prop} {i : Nat} {x : Str} {v : V} {u : Value} {Q : Unit → Shared → Prop} (I : Inv X pins σ H s) (hN : X.N.Nodup) (hi : X.N[i]? = some x) (hx : Loc X.env.scope x) (r : RelV v u)
    (h : ∀ s', Inv X pins (σ.set i (some v)) H s' → (∃ a, Heap.SameBut a s.heap s'.heap ∧ (a = X.env.locals ∨ X.env.cells.lookup x = some a)) → Q () s') (hf : X.fn x = true ∨ X.env.scope.names.lookup x = some .local := by first | exact .inl rfl | exact .inr rfl | assumption) : wpAny M A (storeName X.env x u) Q E s := by
  obtain ⟨m, hn, hl⟩ := id I.loc
  have hcls : (X.env.scope.kind == .class || (X.env.scope.kind == .module && X.env.locals != X.env.globals)) = false := by rw [I.ok.kind]; rfl
  have hiσ : i < σ.length := by rw [I.len]; exact (List.getElem?_eq_some_iff.mp hi).1
  have cne := I.cne
  have tracked : ∀ {a : Addr} {h' : Heap}, (∃ o, s.heap.get? a = some o ∧ H a = none) → Heap.SameBut a s.heap h' → HOk X.prog X.w H h' := fun {a h'} ha hs b ob e => by
    obtain ⟨_, _, hfree⟩ := ha
    refine (I.hok b ob e).stay (fun c w' hc q => (hs.2 c ?_).trans q) (fun _ q => q) fun _ _ q => q
    rintro rfl
    rcases hc with rfl | hc
    · rw [hfree] at e; cases e
    · rw [hfree] at hc; cases hc
  rcases hx with hk | hk
  · refine wpAny_storeName_local hk hn (fun h' hn' hs => ?_) hcls
    obtain ⟨oL, _, _, hoL, _⟩ := id hn
    refine h _ ⟨I.ok, I.os, I.bare, ⟨fun b o e n hb hx => ?_, fun b o e n hb hx => ?_, I.base.free, fun b o e hx => ?_, I.base.tups, I.base.frzs, I.base.tbls⟩, ⟨_, hn', fun j y v' e1 e2 e3 => ?_⟩, fun y c e => ?_, I.free, I.freeC, fun p hp => ?_, tracked ⟨oL, hoL, I.free⟩ hs, by simpa using I.len⟩ ⟨_, hs, .inl rfl⟩
    · exact (hs.2 b (Nat.ne_of_lt (Nat.lt_of_lt_of_le (Heap.lt_size e) I.ok.above))).trans (I.base.keep b o e n hb hx)
    · obtain ⟨sl, e1⟩ := I.base.slot b o e n hb hx
      exact ⟨sl, (hs.2 b (Nat.ne_of_lt (Nat.lt_of_lt_of_le (Heap.lt_size e) I.ok.above))).trans e1⟩
    · obtain ⟨o', e1⟩ := I.base.there b o e hx
      exact ⟨o', (hs.2 b (Nat.ne_of_lt (Nat.lt_of_lt_of_le (Heap.lt_size e) I.ok.above))).trans e1⟩
    · by_cases hj : j = i
      · subst hj
        rw [hi] at e1; cases e1
        rw [List.getElem?_set_self hiσ] at e2
        cases e2
        exact ⟨u, r, .inl ⟨hk, by simp⟩⟩
      · rw [List.getElem?_set_ne (Ne.symm hj)] at e2
        obtain ⟨u', r', q⟩ := hl j y v' e1 e2 e3
        refine ⟨u', r', ?_⟩
        rcases q with ⟨k, e⟩ | ⟨k, c, e, z⟩
        · refine .inl ⟨k, ?_⟩
          have : y ≠ x := fun e => hj (nodup_ix hN e1 (e ▸ hi))
          simp [this, e]
        · exact .inr ⟨k, c, e, z.sameBut hs (cne y c e)⟩
    · obtain ⟨w', z⟩ := I.cell y c e
      exact ⟨w', z.sameBut hs (cne y c e)⟩
    · obtain ⟨e, n, ne, nf, d⟩ := I.pin p hp
      exact ⟨(hs.2 p.1 ne).trans e, n, ne, nf, d⟩
  · have hfn : X.fn x = true := by
      rcases hf with z | z
      · exact z
      · rw [z] at hk; cases hk
    obtain ⟨c, hc⟩ := I.ok.has x (.inl hk)
    obtain ⟨w', z⟩ := I.cell x c hc
    refine wpAny_storeName_cell I.ok.kind hk hc z (fun h' hc' hs => ?_)
    obtain ⟨oc, hoc, hocd⟩ := id z
    refine h { s with heap := h' } ⟨I.ok, I.os, I.bare, ⟨fun b o e n hb hx => ?_, fun b o e n hb hx => ?_, I.base.free, fun b o e hx => ?_, I.base.tups, I.base.frzs, I.base.tbls⟩, ⟨m, hn.sameBut hs (Ne.symm (cne x c hc)), fun j y v' e1 e2 e3 => ?_⟩, fun y c' e => ?_, I.free, I.freeC, fun p hp => ?_, tracked ⟨oc, hoc, I.freeC x c hc⟩ hs, by simpa using I.len⟩ ⟨c, hs, .inr hc⟩
    · exact (hs.2 b (Nat.ne_of_lt (Nat.lt_of_lt_of_le (Heap.lt_size e) (I.ok.cab x c hfn hc)))).trans (I.base.keep b o e n hb hx)
    · obtain ⟨sl, e1⟩ := I.base.slot b o e n hb hx
      exact ⟨sl, (hs.2 b (Nat.ne_of_lt (Nat.lt_of_lt_of_le (Heap.lt_size e) (I.ok.cab x c hfn hc)))).trans e1⟩
    · obtain ⟨o', e1⟩ := I.base.there b o e hx
      exact ⟨o', (hs.2 b (Nat.ne_of_lt (Nat.lt_of_lt_of_le (Heap.lt_size e) (I.ok.cab x c hfn hc)))).trans e1⟩
    · by_cases hj : j = i
      · subst hj
        rw [hi] at e1; cases e1
        rw [List.getElem?_set_self hiσ] at e2
        cases e2
        exact ⟨u, r, .inr ⟨.inl hk, c, hc, hc'⟩⟩
      · rw [List.getElem?_set_ne (Ne.symm hj)] at e2
        obtain ⟨u', r', q⟩ := hl j y v' e1 e2 e3
        refine ⟨u', r', ?_⟩
        rcases q with q | ⟨k, c', e, z'⟩
        · exact .inl q
        · refine .inr ⟨k, c', e, z'.sameBut hs ?_⟩
          rintro rfl
          exact hj (nodup_ix hN e1 (I.ok.inj _ _ _ e hc ▸ hi))
    · by_cases hcc : c' = c
      · subst hcc; exact ⟨_, hc'⟩
      · obtain ⟨w2, z2⟩ := I.cell y c' e
        exact ⟨w2, z2.sameBut hs hcc⟩
    · obtain ⟨e, n, ne, nf, d⟩ := I.pin p hp
      refine ⟨(hs.2 p.1 ?_).trans e, n, ne, nf, d⟩
      intro q
      rw [q, hoc] at e
      have q' : oc = p.2 := Option.some.inj e
      exact d w' (by rw [← q']; exact hocd)
theorem store_ok {M : Model} {A : Around} {E : Value → Shared → Prop} {i : Nat} {x : Str} {v : V} {u : Value} {Q : Unit → Shared → Prop} (I : Inv X pins σ H s) (hN : X.N.Nodup) (hi : X.N[i]? = some x) (hx : Loc X.env.scope x) (r : RelV v u)
    (h : ∀ s', Inv X pins (σ.set i (some v)) H s' → Q () s') (hf : X.fn x = true ∨ X.env.scope.names.lookup x = some .local := by first | exact .inl rfl | exact .inr rfl | assumption) : wpAny M A (storeName X.env x u) Q E s :=
  store_ok2 I hN hi hx r (fun s' I' _ => h s' I') hf
/-- behind a call or a block, the state as it is -/
theorem Inv.call' {s' : Shared} {ch : List Addr} (I : Inv X pins σ H s) (ho : s'.os = s.os) (u : Un (frs X.stack) ch H H' s.heap s'.heap) (hok : HOk X.prog X.w H' s'.heap) (hg : AllBare s'.gens)
    (hch : ∀ b ∈ ch, (b ∈ X.ex ∨ X.s₀.heap.objs.size ≤ b) ∧ b ≠ X.env.locals ∧ (∀ x c, X.env.cells.lookup x = some c → c ≠ b) ∧ ∀ p ∈ X.pn ++ pins, p.1 ≠ b) : Inv X pins σ H' s' := by
  obtain ⟨h', g', d', t', o'⟩ := s'
  have e : o' = s.os := ho
  subst e
  exact I.call (g' := g') (t' := t') (d' := d') u hok hg hch
end

/-! ### the judgements -/
/-- an exception: its class, its own dict's address (where it has one), the abstract heap behind it -/
abbrev XK := Value → Option Addr → Hp → Prop
abbrev St := List (Option V)
abbrev VK := V → Hp → Prop
/-- an expression's reading; a test's; an argument list's -/
abbrev TE := St → Hp → VK → Prop
abbrev TT := St → Hp → (Bool → Hp → Prop) → Prop
abbrev TA := St → Hp → (List V → Hp → Prop) → Prop
/-- what is wanted behind a statement -/
structure Ends where
  nx : St → Hp → Prop
  rt : VK
  bk : St → Hp → Prop := fun _ _ => False
  ct : St → Hp → Prop := fun _ _ => False
abbrev TS := Ends → St → Hp → Prop

def EP (X : Cx) (pins : List (Addr × Obj)) (σ : St) (Q : VK) (u : Value) (s' : Shared) : Prop := ∃ v H', Inv X pins σ H' s' ∧ RelV v u ∧ Q v H'
def TP (X : Cx) (pins : List (Addr × Obj)) (σ : St) (Q : Bool → Hp → Prop) (b : Bool) (s' : Shared) : Prop := ∃ H', Inv X pins σ H' s' ∧ Q b H'
def AP (X : Cx) (pins : List (Addr × Obj)) (σ : St) (Q : List V → Hp → Prop) (us : List Value) (s' : Shared) : Prop := ∃ vs H', Inv X pins σ H' s' ∧ Vals vs us ∧ Q vs H'
def SP (X : Cx) (pins : List (Addr × Obj)) (D : Ends) (f : Flow) (s' : Shared) : Prop :=
  match f with
  | .next => ∃ σ' H', Inv X pins σ' H' s' ∧ D.nx σ' H'
  | .brk => ∃ σ' H', Inv X pins σ' H' s' ∧ D.bk σ' H'
  | .cont => ∃ σ' H', Inv X pins σ' H' s' ∧ D.ct σ' H'
  | .ret u => ∃ v σ' H', Inv X pins σ' H' s' ∧ RelV v u ∧ D.rt v H'

def PE (X : Cx) (e : Expr) (t : TE) : Prop :=
  ∀ (pins : List (Addr × Obj)) (s : Shared) (σ : St) (H : Hp) (Q : VK), Inv X pins σ H s → t σ H Q → wpAny (model X.prog X.w) X.A (eval e X.env) (EP X pins σ Q) X.xe s
def PT (X : Cx) (e : Expr) (t : TT) : Prop :=
  ∀ (pins : List (Addr × Obj)) (s : Shared) (σ : St) (H : Hp) (Q : Bool → Hp → Prop), Inv X pins σ H s → t σ H Q → wpAny (model X.prog X.w) X.A (isTrue e X.env (eval e X.env)) (TP X pins σ Q) X.xe s
/-- a test whatever its 'whole' is (and, or) -/
def PW (X : Cx) (e : Expr) (t : TT) : Prop :=
  ∀ (whole : Sem Value) (pins : List (Addr × Obj)) (s : Shared) (σ : St) (H : Hp) (Q : Bool → Hp → Prop), Inv X pins σ H s → t σ H Q → wpAny (model X.prog X.w) X.A (isTrue e X.env whole) (TP X pins σ Q) X.xe s
theorem PW.pt {X : Cx} {e : Expr} {t : TT} (h : PW X e t) : PT X e t := h _
/-- an argument list (no star), from the left -/
def PA (X : Cx) (es : List Expr) (t : TA) : Prop :=
  ∀ (pos : Pos) (pins : List (Addr × Obj)) (s : Shared) (σ : St) (H : Hp) (Q : List V → Hp → Prop), Inv X pins σ H s → t σ H Q → wpAny (model X.prog X.w) X.A (spliced (backTo pos (starEach es X.env))) (AP X pins σ Q) X.xe s
def PS (X : Cx) (st : Stmt) (t : TS) : Prop :=
  ∀ (pins : List (Addr × Obj)) (s : Shared) (σ : St) (H : Hp) (D : Ends), Inv X pins σ H s → t D σ H → wpAny (model X.prog X.w) X.A (exec st X.env) (SP X pins D) X.xe s
def PSs (X : Cx) (st : List Stmt) (t : TS) : Prop :=
  ∀ (pins : List (Addr × Obj)) (s : Shared) (σ : St) (H : Hp) (D : Ends), Inv X pins σ H s → t D σ H → wpAny (model X.prog X.w) X.A (execs st X.env) (SP X pins D) X.xe s
/-- weaken the end -/
theorem thn {α : Type} {t : Sem α} {Q Q' : α → Shared → Prop} {M : Model} {A : Around} {E : Value → Shared → Prop} {s : Shared} (h : wpAny M A t Q E s) (hQ : ∀ a s, Q a s → Q' a s) : wpAny M A t Q' E s := wpAny_mono h hQ fun _ _ x => x
end L2

namespace L2
open PySem PySem.Spec PyProof.Rows
section
variable {X : Cx}

/-! ### names and constants -/
def tVar (i : Nat) : TE := fun σ H Q => ∃ v, σ[i]? = some (some v) ∧ Q v H
def tC (v : V) : TE := fun _ H Q => Q v H
theorem pe_var {i : Nat} {x : Str} {pos : Pos} (hN : X.N[i]? = some x) (hv : Vis X.env.scope x) (hd : (x == ("__debug__" : Str)) = false := by decide) (hcd : (x == ("__classdict__" : Str)) = false := by decide) : PE X (.Name x pos) (tVar i) := by
  intro pins s σ H Q I h
  obtain ⟨v, e, h⟩ := h
  obtain ⟨m, hn, hl⟩ := I.loc
  obtain ⟨u, r, l⟩ := hl i x v hN e hv
  have fin : EP X pins σ Q u s := ⟨v, H, I, r, h⟩
  rcases l with ⟨hk, hm⟩ | ⟨hk, c, hc, hcell⟩
  · exact wpAny_Name (wpAny_loadName_local I.ok.kind hk hn hm fin) hd
  · rcases hk with hk | hk
    · exact wpAny_Name (wpAny_loadName_cell I.ok.kind hk hc hcell fin) hd
    · exact wpAny_Name (wpAny_loadName_free I.ok.kind hk hc hcell fin hcd) hd
theorem pe_int {i j pos} : PE X (.Constant (.int i) j pos) (tC (.int i)) := fun _ _ _ H _ I h => wpAny_Constant_int ⟨.int i, H, I.tok _, ⟨_, rfl⟩, h⟩
theorem pe_bl {b j pos} : PE X (.Constant (.bool b) j pos) (tC (.bl b)) := fun _ _ _ H _ I h => Constant_bool ⟨.bl b, H, I, rfl, h⟩
theorem pe_non {j pos} : PE X (.Constant .none j pos) (tC .non) := fun _ _ _ H _ I h => Constant_none ⟨.non, H, I, rfl, h⟩
theorem pe_str {x j pos} : PE X (.Constant (.str x) j pos) (tC (.str x)) := fun _ _ _ H _ I h => Calls.Constant_str ⟨.str x, H, I.tok _, ⟨_, rfl⟩, h⟩

/-- a global name of the def -/
def Gl (X : Cx) (x : Str) : Prop := X.env.kindOf x = some .globalImplicit
theorem ld_glob {E : Value → Shared → Prop} {pins : List (Addr × Obj)} {s : Shared} {σ : St} {H : Hp} {x : Str} {u : Value} {pos : Pos} {Q : Value → Shared → Prop} (I : Inv X pins σ H s) (hg : Gl X x) (hm : X.mg x = some u) (h : Q u s)
    (hd : (x == ("__debug__" : Str)) = false := by decide) : wpAny (model X.prog X.w) X.A (eval (.Name x pos) X.env) Q E s :=
  Calls.Name_function_global I.ok.kind hg (Calls.loadGlobal_global (by rw [I.ok.glob]; exact I.mod.glob.keeps I.bk) hm h) hd
theorem ld_blt {E : Value → Shared → Prop} {pins : List (Addr × Obj)} {s : Shared} {σ : St} {H : Hp} {x : Str} {u : Value} {pos : Pos} {Q : Value → Shared → Prop} (I : Inv X pins σ H s) (hg : Gl X x) (hm : X.mg x = none) (hv : bootBuiltins x = some u) (h : Q u s)
    (hn : x ≠ "__name__" := by decide) (hd : (x == ("__debug__" : Str)) = false := by decide) : wpAny (model X.prog X.w) X.A (eval (.Name x pos) X.env) Q E s := by
  obtain ⟨mb, h1, h2⟩ := I.mod.blt
  exact Calls.Name_function_global I.ok.kind hg (Calls.loadGlobal_builtin (by rw [I.ok.glob]; exact I.mod.glob.keeps I.bk) hm (by rw [I.ok.blt]; exact h1.keeps I.bk) ((h2 x hn).trans hv) h) hd
/-- a module's constant, a class, a function, as a value -/
theorem pe_glob {x : Str} {v : V} {u : Value} {pos : Pos} (hg : Gl X x) (hm : X.mg x = some u) (r : RelV v u) (hd : (x == ("__debug__" : Str)) = false := by decide) : PE X (.Name x pos) (tC v) :=
  fun _ _ _ H _ I h => ld_glob I hg hm ⟨v, H, I, r, h⟩ hd
theorem pe_bltn {x : Str} {v : V} {u : Value} {pos : Pos} (hg : Gl X x) (hm : X.mg x = none) (hv : bootBuiltins x = some u) (r : RelV v u) (hn : x ≠ "__name__" := by decide) (hd : (x == ("__debug__" : Str)) = false := by decide) : PE X (.Name x pos) (tC v) :=
  fun _ _ _ H _ I h => ld_blt I hg hm hv ⟨v, H, I, r, h⟩ hn hd

/-! ### arithmetic -/
variable {a b : Expr} {ta tb : TE} {pos : Pos}
/-! ### comparisons -/
def PC (X : Cx) (op : CmpOp) (a b : Expr) (t : TE) : Prop :=
  ∀ (pins : List (Addr × Obj)) (s : Shared) (σ : St) (H : Hp) (Q : VK), Inv X pins σ H s → t σ H Q →
    wpAny (model X.prog X.w) X.A (eval a X.env) (fun v s₁ => wpAny (model X.prog X.w) X.A (eval b X.env) (fun u s₂ => wpAny (model X.prog X.w) X.A (compareOp op v u) (EP X pins σ Q) X.xe s₂) X.xe s₁) X.xe s
theorem nobehind (b : Expr) {op : CmpOp} (h : op ≠ .In) (h2 : op ≠ .NotIn) : behindInMarks op b = false := by
  have e1 : (op == CmpOp.In) = false := by cases op <;> first | rfl | exact absurd rfl h
  have e2 : (op == CmpOp.NotIn) = false := by cases op <;> first | rfl | exact absurd rfl h2
  cases b <;> simp [behindInMarks, e1, e2]
/-- is None -/
def tIsN (ta : TE) : TE := fun σ H Q => ta σ H fun x H1 => Q (.bl (decide (x = .non))) H1
theorem RelV.none_iff {x : V} {v : Value} (r : RelV x v) : (v == Value.none) = decide (x = .non) := by
  cases x with
  | non => cases r; rfl
  | bl _ => cases r; rfl
  | int _ => obtain ⟨t, rfl⟩ := r; rfl
  | str _ => obtain ⟨t, rfl⟩ := r; rfl
  | byt _ => obtain ⟨t, rfl⟩ := r; rfl
  | flt _ => obtain ⟨t, rfl⟩ := r; rfl
  | ref _ => cases r; rfl
  | ty _ => cases r; rfl
theorem pc_isN {j pos'} (ha : PE X a ta) : PC X .Is a (.Constant .none j pos') (tIsN ta) := by
  intro pins s σ H Q I h
  refine thn (ha pins s σ H _ I h) fun v s1 ⟨x, H1, I1, r1, q1⟩ => ?_
  exact Constant_none (is_none_gen ⟨.bl _, H1, I1, by rw [r1.none_iff]; rfl, q1⟩)
/-- a comparison as a value, as a test -/
def tB (t : TE) : TT := fun σ H Q => t σ H fun x H1 => ∃ c, x = .bl c ∧ Q c H1
theorem pe_cmp {op : CmpOp} {t : TE} (h : PC X op a b t) (h1 : behindInMarks op b = false := by first | exact nobehind _ (by decide) (by decide) | rfl) : PE X (.Compare a [op] [b] pos) t := fun pins s σ H Q I hw => wpAny_Compare1 (h pins s σ H Q I hw) h1
theorem pt_cmp {op : CmpOp} {t : TE} (h : PC X op a b t) (h1 : behindInMarks op b = false := by first | exact nobehind _ (by decide) (by decide) | rfl) : PT X (.Compare a [op] [b] pos) (tB t) := by
  intro pins s σ H Q I hw
  refine wpAny_isTrue_Compare1 (thn (h pins s σ H _ I hw) fun v s1 h1 => thn h1 fun u s2 h2 => thn h2 fun c s3 ⟨x, H1, I1, r1, q1⟩ => ?_) h1
  obtain ⟨d, rfl, q⟩ := q1
  cases r1
  exact wpAny_truthy_bool ⟨H1, I1, q⟩
/-- an expression whose value is a bool, as a test -/
theorem pt_val {e : Expr} {t : TE} (h : PE X e t) (he : ∀ whole, isTrue e X.env whole = (do let v ← whole; standAt e.pos; holding [v] (truthy v)) := by intro _; rfl) : PT X e (tB t) := by
  intro pins s σ H Q I hw
  refine isTrue_plain (thn (h pins s σ H _ I hw) fun v s1 ⟨x, H1, I1, r1, q1⟩ => ?_) (he _)
  obtain ⟨d, rfl, q⟩ := q1
  cases r1
  exact wpAny_truthy_bool ⟨H1, I1, q⟩

/-! ### and, or, not -/
variable {tA tB' : TT} {rest : List Expr}
def tAnd (t u : TT) : TT := fun σ H Q => t σ H fun c H1 => if c = true then u σ H1 Q else Q false H1
def tOr (t u : TT) : TT := fun σ H Q => t σ H fun c H1 => if c = true then Q true H1 else u σ H1 Q
def tNot (t : TT) : TT := fun σ H Q => t σ H fun c H1 => Q (!c) H1
theorem pw_and1 (ha : PT X a tA) : PW X (.BoolOp .And [a] pos) tA := by
  intro wh pins s σ H Q I h
  refine isTrue_and (thn (ha pins s σ H Q I h) fun c s1 e => ?_)
  cases c with
  | true => exact isTrue_and_nil e
  | false => exact e
theorem pw_or1 (ha : PT X a tA) : PW X (.BoolOp .Or [a] pos) tA := by
  intro wh pins s σ H Q I h
  refine isTrue_or (thn (ha pins s σ H Q I h) fun c s1 e => ?_)
  cases c with
  | false => exact isTrue_or_nil e
  | true => exact e
theorem pw_and (ha : PT X a tA) (hb : PW X (.BoolOp .And (b :: rest) pos) tB') : PW X (.BoolOp .And (a :: b :: rest) pos) (tAnd tA tB') := by
  intro wh pins s σ H Q I h
  refine isTrue_and (thn (ha pins s σ H _ I h) fun c s1 ⟨H1, I1, q1⟩ => ?_)
  cases c with
  | true => exact hb wh pins s1 σ H1 Q I1 q1
  | false => exact ⟨H1, I1, q1⟩
theorem pw_or (ha : PT X a tA) (hb : PW X (.BoolOp .Or (b :: rest) pos) tB') : PW X (.BoolOp .Or (a :: b :: rest) pos) (tOr tA tB') := by
  intro wh pins s σ H Q I h
  refine isTrue_or (thn (ha pins s σ H _ I h) fun c s1 ⟨H1, I1, q1⟩ => ?_)
  cases c with
  | true => exact ⟨H1, I1, q1⟩
  | false => exact hb wh pins s1 σ H1 Q I1 q1
theorem pt_not (ha : PT X a tA) : PT X (.UnaryOp .Not a pos) (tNot tA) := by
  intro pins s σ H Q I h
  exact isTrue_not (ha pins s σ H (fun c H1 => Q (!c) H1) I h)
/-- .. as values (bools) -/
def tAndV (ta tb : TE) : TE := fun σ H Q => ta σ H fun x H1 => ∃ c, x = .bl c ∧ if c = true then tb σ H1 Q else Q (.bl false) H1
def tNotV (ta : TE) : TE := fun σ H Q => ta σ H fun x H1 => ∃ c, x = .bl c ∧ Q (.bl (!c)) H1
theorem pe_one {op} {t : TE} (h : PE X a t) : PE X (.BoolOp op [a] pos) t := fun pins s σ H Q I hw => BoolOp_one (h pins s σ H Q I hw)
theorem pe_and (ha : PE X a ta) (hb : PE X (.BoolOp .And (b :: rest) pos) tb) : PE X (.BoolOp .And (a :: b :: rest) pos) (tAndV ta tb) := by
  intro pins s σ H Q I h
  refine BoolOp_and (thn (ha pins s σ H _ I h) fun v s1 ⟨x, H1, I1, r1, q1⟩ => ?_)
  obtain ⟨c, rfl, q1⟩ := q1
  cases r1
  refine wpAny_truthy_bool ?_
  cases c with
  | true => exact hb pins s1 σ H1 Q I1 q1
  | false => exact ⟨.bl false, H1, I1, rfl, q1⟩
theorem pe_not (ha : PE X a ta) : PE X (.UnaryOp .Not a pos) (tNotV ta) := by
  intro pins s σ H Q I h
  refine UnaryOp_ (thn (ha pins s σ H _ I h) fun v s1 ⟨x, H1, I1, r1, q1⟩ => ?_)
  obtain ⟨c, rfl, q1⟩ := q1
  cases r1
  exact not_of (wpAny_truthy_bool ⟨.bl (!c), H1, I1, rfl, q1⟩)
end
end L2

namespace L2
open PySem PySem.Spec PyProof.Rows

/-! ### a list, a tuple that is read: tracked, frozen, or an object of the module -/
def SqL (K : PySem.W.Frag) (H : Hp) (a : Addr) (xs : List V) : Prop :=
  Rd H a (.lst xs) ∨
    ∃ (o : Obj) (its : Array Value) (n : Nat), K.lookup a = some o ∧ o.cls = .type "list" ∧ o.dict = none ∧ o.data = .seq its n ∧ its.size ≤ sizeLine ∧ Vals xs its.toList
def SqT (K : PySem.W.Frag) (H : Hp) (a : Addr) (xs : List V) : Prop :=
  Rd H a (.tup xs) ∨
    ∃ (o : Obj) (its : Array Value) (n : Nat), K.lookup a = some o ∧ o.cls = .type "tuple" ∧ o.data = .seq its n ∧ its.size ≤ sizeLine ∧ Vals xs its.toList
def absV : Value → Option V
  | .none => some .non
  | .bool b => some (.bl b)
  | .int i _ => some (.int i)
  | .str x _ => some (.str x)
  | .bytes b _ => some (.byt b)
  | .float b _ => some (.flt b)
  | .ref a => some (.ref a)
  | .type n => some (.ty n)
  | _ => none
theorem RelV.abs {x : V} {u : Value} (r : RelV x u) : absV u = some x := by
  cases x with
  | non => cases r; rfl
  | bl _ => cases r; rfl
  | int _ => obtain ⟨t, rfl⟩ := r; rfl
  | str _ => obtain ⟨t, rfl⟩ := r; rfl
  | byt _ => obtain ⟨t, rfl⟩ := r; rfl
  | flt _ => obtain ⟨t, rfl⟩ := r; rfl
  | ref _ => cases r; rfl
  | ty _ => cases r; rfl
theorem RelV.inj {x y : V} {u : Value} (r : RelV x u) (q : RelV y u) : x = y := Option.some.inj (r.abs.symm.trans q.abs)
theorem Vals.inj : ∀ {xs ys : List V} {us : List Value}, Vals xs us → Vals ys us → xs = ys
  | _, _, _, .nil, .nil => rfl
  | _, _, _, .cons r t, .cons r' t' => by rw [r.inj r', Vals.inj t t']
section
variable {X : Cx} {pins : List (Addr × Obj)} {σ : St} {H : Hp} {s : Shared} {a : Addr} {xs ys : List V}
theorem SqL.of {K : PySem.W.Frag} (h : H a = some (.lst xs)) : SqL K H a xs := .inl (.inl h)
theorem SqT.of {K : PySem.W.Frag} (h : H a = some (.tup xs)) : SqT K H a xs := .inl (.inl h)
theorem Inv.list (I : Inv X pins σ H s) (h : SqL X.K H a xs) : ∃ its : List Value, Vals xs its ∧ PlainL s.heap a its.toArray ∧ xs.length ≤ sizeLine := by
  rcases h with h | ⟨o, its, n, hk, hc, hd, hs, hz, r⟩
  · obtain ⟨z, its, n, r, e⟩ := h.ok I.hok
    exact ⟨its, r, ⟨_, n, e, rfl, rfl, rfl⟩, z⟩
  · refine ⟨its.toList, r, ⟨o, n, I.kIn a o hk, hc, hd, by simpa using hs⟩, ?_⟩
    have e := r.length
    simp only [Array.length_toList] at e
    omega
theorem Inv.tuple (I : Inv X pins σ H s) (h : SqT X.K H a xs) : ∃ its : List Value, Vals xs its ∧ IsTup s.heap a its.toArray ∧ xs.length ≤ sizeLine := by
  rcases h with h | ⟨o, its, n, hk, hc, hs, hz, r⟩
  · obtain ⟨z, its, r, p⟩ := h.ok I.hok
    exact ⟨its, r, p, z⟩
  · refine ⟨its.toList, r, ⟨o, I.kIn a o hk, hc, n, by simpa using hs⟩, ?_⟩
    have e := r.length
    simp only [Array.length_toList] at e
    omega
theorem Inv.list_inj (I : Inv X pins σ H s) (h : SqL X.K H a xs) (h' : SqL X.K H a ys) : xs = ys := by
  obtain ⟨its, r, ⟨o, n, e, _, _, d⟩, _⟩ := I.list h
  obtain ⟨its', r', ⟨o', n', e', _, _, d'⟩, _⟩ := I.list h'
  rw [e] at e'; cases e'
  rw [d] at d'
  injection d' with d1 _
  have : its = its' := by simpa using congrArg Array.toList d1
  subst this
  exact r.inj r'
theorem Inv.tuple_inj (I : Inv X pins σ H s) (h : SqT X.K H a xs) (h' : SqT X.K H a ys) : xs = ys := by
  obtain ⟨its, r, ⟨o, e, _, n, d⟩, _⟩ := I.tuple h
  obtain ⟨its', r', ⟨o', e', _, n', d'⟩, _⟩ := I.tuple h'
  rw [e] at e'; cases e'
  rw [d] at d'
  injection d' with d1 _
  have : its = its' := by simpa using congrArg Array.toList d1
  subst this
  exact r.inj r'
end

/-! ### another wish about exceptions -/
abbrev Cx.wish (X : Cx) (E : Value → Shared → Prop) : Cx := { X with xe := E }
/-- no exception leaves -/
abbrev Cx.nox (X : Cx) : Cx := X.wish fun _ _ => False
theorem Cx.Ok.wish {X : Cx} (ok : X.Ok) (E : Value → Shared → Prop) : (X.wish E).Ok :=
  ⟨ok.mod, ok.kind, ok.glob, ok.blt, ok.above, ok.inj, ok.has, ok.cab, ok.hd, ok.frames, ok.stk, ok.exf, ok.bs, ok.bsz, ok.noex, ok.exfs, ok.funs, ok.frf⟩
theorem Cx.Ok.unwish {X : Cx} {E : Value → Shared → Prop} (ok : (X.wish E).Ok) : X.Ok :=
  ⟨ok.mod, ok.kind, ok.glob, ok.blt, ok.above, ok.inj, ok.has, ok.cab, ok.hd, ok.frames, ok.stk, ok.exf, ok.bs, ok.bsz, ok.noex, ok.exfs, ok.funs, ok.frf⟩
section
variable {X : Cx} {pins : List (Addr × Obj)} {σ : St} {H : Hp} {s : Shared} {E : Value → Shared → Prop}
theorem Inv.wish (I : Inv X pins σ H s) (E : Value → Shared → Prop) : Inv (X.wish E) pins σ H s := ⟨I.ok.wish E, I.os, I.bare, I.base, I.loc, I.cell, I.free, I.freeC, I.pin, I.hok, I.len⟩
theorem Inv.unwish (I : Inv (X.wish E) pins σ H s) : Inv X pins σ H s := ⟨I.ok.unwish, I.os, I.bare, I.base, I.loc, I.cell, I.free, I.freeC, I.pin, I.hok, I.len⟩
theorem SP.unwish {D : Ends} {f : Flow} {s' : Shared} (h : SP (X.wish E) pins D f s') : SP X pins D f s' := by
  cases f with
  | next => obtain ⟨σ', H', I, q⟩ := h; exact ⟨σ', H', I.unwish, q⟩
  | brk => obtain ⟨σ', H', I, q⟩ := h; exact ⟨σ', H', I.unwish, q⟩
  | cont => obtain ⟨σ', H', I, q⟩ := h; exact ⟨σ', H', I.unwish, q⟩
  | ret u => obtain ⟨v, σ', H', I, r, q⟩ := h; exact ⟨v, σ', H', I.unwish, r, q⟩
theorem PE.nox {e : Expr} {t : TE} (h : PE X.nox e t) : PE X e t := fun pins s σ H Q I hw =>
  wpAny_mono (h pins s σ H Q (I.wish _) hw) (fun _ _ ⟨v, H', I', r, q⟩ => ⟨v, H', I'.unwish, r, q⟩) fun _ _ z => False.elim z
theorem PT.nox {e : Expr} {t : TT} (h : PT X.nox e t) : PT X e t := fun pins s σ H Q I hw =>
  wpAny_mono (h pins s σ H Q (I.wish _) hw) (fun _ _ ⟨H', I', q⟩ => ⟨H', I'.unwish, q⟩) fun _ _ z => False.elim z
theorem PSs.nox {st : List Stmt} {t : TS} (h : PSs X.nox st t) : PSs X st t := fun pins s σ H D I hw =>
  wpAny_mono (h pins s σ H D (I.wish _) hw) (fun _ _ q => q.unwish) fun _ _ z => False.elim z
end

/-! ### blocks and small statements -/
section
variable {X : Cx} {st : Stmt} {rest : List Stmt} {t u : TS} {e : Expr} {te : TE} {pos : Pos}
def tNext : TS := fun D σ H => D.nx σ H
def tSeq (t u : TS) : TS := fun D σ H => t { D with nx := u D } σ H
theorem pss_nil : PSs X [] tNext := fun _ _ σ H _ I h => wpAny_execs_nil ⟨σ, H, I, h⟩
theorem pss_cons (h1 : PS X st t) (h2 : PSs X rest u) : PSs X (st :: rest) (tSeq t u) := by
  intro pins s σ H D I h
  refine wpAny_execs_cons (thn (h1 pins s σ H { D with nx := u D } I h) fun f s1 q => ?_)
  cases f with
  | next =>
    obtain ⟨σ', H', I', q⟩ := q
    exact h2 pins s1 σ' H' D I' q
  | ret v => exact q
  | brk => exact q
  | cont => exact q
theorem pss_one (h1 : PS X st t) : PSs X [st] t := by
  intro pins s σ H D I h
  refine wpAny_execs_cons (thn (h1 pins s σ H D I h) fun f s1 q => ?_)
  cases f with
  | next => exact wpAny_execs_nil q
  | ret v => exact q
  | brk => exact q
  | cont => exact q
/-- in a def's body nothing is shown -/
theorem Inv.quiet {pins : List (Addr × Obj)} {σ : St} {H : Hp} {s : Shared} (I : Inv X pins σ H s) : interactive X.env = false := by simp [interactive, I.ok.kind]
/-- an expression whose value is dropped -/
def tDrop (te : TE) : TS := fun D σ H => te σ H fun _ H1 => D.nx σ H1
theorem ps_expr (he : PE X e te) (hs : swapsWith e none pos.line X.env = pure false := by rfl) : PS X (.Expr e pos) (tDrop te) := by
  intro pins s σ H D I h
  exact wpAny_Expr_any (thn (he pins s σ H _ I h) fun v s1 ⟨x, H1, I1, r1, q1⟩ => ⟨σ, H1, I1, q1⟩) I.quiet hs
def tRet (te : TE) : TS := fun D σ H => te σ H D.rt
theorem ps_ret (he : PE X e te) : PS X (.Return (some e) pos) (tRet te) := by
  intro pins s σ H D I h
  exact wpAny_Return_some (thn (he pins s σ H _ I h) fun v s1 ⟨x, H1, I1, r1, q1⟩ => ⟨x, σ, H1, I1, r1, q1⟩)
def tIfS (c : TT) (t u : TS) : TS := fun D σ H => c σ H fun b H1 => if b = true then t D σ H1 else u D σ H1
theorem ps_if {c : Expr} {a b : List Stmt} {tc : TT} (hc : PT X c tc) (ha : PSs X a t) (hb : PSs X b u) : PS X (.If c a b pos) (tIfS tc t u) := by
  intro pins s σ H D I h
  refine wpAny_If (thn (hc pins s σ H _ I h) fun d s1 ⟨H1, I1, q1⟩ => ?_)
  cases d with
  | true => exact ha pins s1 σ H1 D I1 q1
  | false => exact hb pins s1 σ H1 D I1 q1
end

/-! ### targets -/
abbrev TG := V → St → Hp → (St → Hp → Prop) → Prop
abbrev TGs := List V → St → Hp → (St → Hp → Prop) → Prop
def PG (X : Cx) (target : Expr) (t : TG) : Prop :=
  ∀ (pins : List (Addr × Obj)) (s : Shared) (σ : St) (H : Hp) (v : V) (u : Value) (Q : St → Hp → Prop), Inv X pins σ H s → RelV v u → t v σ H Q →
    wpAny (model X.prog X.w) X.A (assign target X.env u) (fun _ s' => ∃ σ' H', Inv X pins σ' H' s' ∧ Q σ' H') X.xe s
/-- several targets, one after another -/
def PGs (X : Cx) (ts : List Expr) (t : TGs) : Prop :=
  ∀ (pins : List (Addr × Obj)) (s : Shared) (σ : St) (H : Hp) (vs : List V) (us : List Value) (Q : St → Hp → Prop), Inv X pins σ H s → Vals vs us → t vs σ H Q →
    wpAny (model X.prog X.w) X.A (assignInOrder ((assignEach ts X.env).map (·.2)) us) (fun _ s' => ∃ σ' H', Inv X pins σ' H' s' ∧ Q σ' H') X.xe s
/-- o[i] = v, by values -/
abbrev TSet := V → V → V → Hp → (Hp → Prop) → Prop
def PSet (X : Cx) (t : TSet) : Prop :=
  ∀ (pins : List (Addr × Obj)) (s : Shared) (σ : St) (H : Hp) (o i v : V) (ov iv u : Value) (Q : Hp → Prop), Inv X pins σ H s → RelV o ov → RelV i iv → RelV v u → t o i v H Q →
    wpAny (model X.prog X.w) X.A (setItem ov iv u) (fun _ s' => ∃ H', Inv X pins σ H' s' ∧ Q H') X.xe s
section
variable {X : Cx} {pos : Pos}
def gName (i : Nat) : TG := fun v σ H Q => Q (σ.set i (some v)) H
theorem pg_name {i : Nat} {x : Str} (hN : X.N.Nodup) (hi : X.N[i]? = some x) (hx : Loc X.env.scope x) (hf : X.fn x = true ∨ X.env.scope.names.lookup x = some .local := by first | exact .inl rfl | exact .inr rfl | assumption) : PG X (.Name x pos) (gName i) := by
  intro pins s σ H v u Q I r h
  exact wpAny_assign_Name (store_ok I hN hi hx r (fun s' I' => ⟨_, H, I', h⟩) hf)
def gNil : TGs := fun vs σ H Q => vs = [] ∧ Q σ H
def gCons (t : TG) (u : TGs) : TGs := fun vs σ H Q => ∃ v r, vs = v :: r ∧ t v σ H fun σ' H' => u r σ' H' Q
theorem pgs_nil : PGs X [] gNil := by
  intro pins s σ H vs us Q I r h
  obtain ⟨e, h⟩ := h
  subst e
  cases r
  exact assignInOrder_nil ⟨σ, H, I, h⟩
theorem pgs_cons {e : Expr} {es : List Expr} {t : TG} {u : TGs} (h1 : PG X e t) (h2 : PGs X es u)
    (hs : (assignEach (e :: es) X.env).map (·.2) = assign e X.env :: (assignEach es X.env).map (·.2) := by rfl) : PGs X (e :: es) (gCons t u) := by
  intro pins s σ H vs us Q I r h
  obtain ⟨v, vr, e1, h⟩ := h
  subst e1
  cases r with
  | cons r rr =>
    rw [hs]
    refine assignInOrder_cons (thn (h1 pins s σ H _ _ _ I r h) fun _ s1 ⟨σ1, H1, I1, q1⟩ => ?_)
    exact h2 pins s1 σ1 H1 _ _ Q I1 rr q1
/-- (a, b, ..) = a tuple of that length -/
def gTup (K : PySem.W.Frag) (n : Nat) (t : TGs) : TG := fun v σ H Q => ∃ a xs, v = .ref a ∧ SqT K H a xs ∧ xs.length = n ∧ t xs σ H Q
theorem pg_tup {es : List Expr} {k : Nat} {t : TGs} {n : Nat} (hc : X.calm = true) (h : PGs X es t)
    (hn : (assignEach es X.env).length = n := by rfl) (hst : (assignEach es X.env).findIdx? (·.1) = none := by rfl) : PG X (.Tuple es k pos) (gTup X.K n t) := by
  intro pins s σ H v u Q I r hw
  obtain ⟨a, xs, e1, hq, hl, hw⟩ := hw
  subst e1
  cases r
  obtain ⟨its, rv, ht, hz⟩ := I.tuple hq
  refine assign_Tuple_tuple (I.ok.hd hc) ht (by simp [hn, ← hl, rv.length]) hst fun h' hx => ?_
  have I1 : Inv X pins σ H { s with heap := h' } := I.kept (t' := s.toks) fun b o e => hx b o (Nat.ne_of_lt (Heap.lt_size e)) e
  exact h pins _ σ H xs _ Q I1 (by simpa using rv) hw
/-- o[i] = .. -/
def gSub (to ti : TE) (t : TSet) : TG := fun v σ H Q => to σ H fun o H1 => ti σ H1 fun i H2 => t o i v H2 fun H3 => Q σ H3
theorem pg_sub {o i : Expr} {to ti : TE} {t : TSet} (ho : PE X o to) (hi : PE X i ti) (hs : PSet X t)
    (ha : ∀ v, assign (.Subscript o i pos) X.env v = (do
      let ov ← holding [v] (eval o X.env)
      let iv ← holding [v, ov] (eval i X.env)
      standAt pos
      holding [v, ov, iv] (setItem ov iv v)
      release [v, ov, iv] []) := by intro _; rfl) : PG X (.Subscript o i pos) (gSub to ti t) := by
  intro pins s σ H v u Q I r h
  rw [ha]
  refine wpAny_bind (wpAny_holding (thn (ho pins s σ H _ I h) fun ov s1 ⟨x, H1, I1, r1, q1⟩ => ?_))
  refine wpAny_bind (wpAny_holding (thn (hi pins s1 σ H1 _ I1 q1) fun iv s2 ⟨y, H2, I2, r2, q2⟩ => ?_))
  refine wpAny_bind (wpAny_standAt (wpAny_bind (wpAny_holding (thn (hs pins s2 σ H2 x y v ov iv u _ I2 r1 r2 r q2) fun _ s3 ⟨H3, I3, q3⟩ => ?_))))
  exact wpAny_release ⟨σ, H3, I3, q3⟩
/-- target = value -/
def tAsg (te : TE) (g : TG) : TS := fun D σ H => te σ H fun x H1 => g x σ H1 D.nx
theorem ps_asg {tg e : Expr} {te : TE} {g : TG} (he : PE X e te) (hg : PG X tg g) (hs : swapsWithSole [tg] e pos.line X.env = pure false := by rfl) (hw : swappedStores [tg] e X.env = pure none := by rfl)
    (h1 : (assignEach [tg] X.env).map (·.2) = [assign tg X.env] := by rfl) : PS X (.Assign [tg] e pos) (tAsg te g) := by
  intro pins s σ H D I h
  refine wpAny_Assign_stores (thn (he pins s σ H _ I h) fun v s1 ⟨x, H1, I1, r1, q1⟩ => ?_) hs hw
  rw [h1]
  exact thn (hg pins s1 σ H1 x v _ I1 r1 q1) fun _ s2 q => q
/-- name = value -/
theorem ps_set {i : Nat} {x : Str} {e : Expr} {te : TE} {pos' : Pos} (hN : X.N.Nodup) (hi : X.N[i]? = some x) (hx : Loc X.env.scope x) (he : PE X e te) (hs : swapsWith e (some (.Name x pos')) pos.line X.env = pure false := by rfl) (hf : X.fn x = true ∨ X.env.scope.names.lookup x = some .local := by first | exact .inl rfl | exact .inr rfl | assumption) :
    PS X (.Assign [.Name x pos'] e pos) (tAsg te (gName i)) := by
  intro pins s σ H D I h
  refine wpAny_Assign_Name (thn (he pins s σ H _ I h) fun v s1 ⟨y, H1, I1, r1, q1⟩ => ?_) hs
  exact store_ok I1 hN hi hx r1 (fun s2 I2 => ⟨_, H1, I2, q1⟩) hf
end

/-! ### while -/
section
variable {X : Cx} {pos : Pos}
end

/-! ### what a loop or a comprehension walks -/
/-- at turn i: it yields x (the heap may grow), or it stops -/
structure It where
  go : Nat → Hp → Prop
  yld : Nat → Hp → V → Hp → Prop
  stop : Nat → Hp → Prop
/-- the iterator's own objects may turn: they are not the frame's, not pinned, younger than the entry (or a comprehension's own) -/
def FpOk (X : Cx) (pins : List (Addr × Obj)) (H : Hp) (b : Addr) : Prop :=
  H b = none ∧ b ≠ X.env.locals ∧ b ∉ X.fs ∧ (b ∈ X.ex ∨ X.s₀.heap.objs.size ≤ b) ∧ (∀ x c, X.env.cells.lookup x = some c → c ≠ b) ∧ ∀ p ∈ X.pn ++ pins, p.1 ≠ b
theorem Inv.fpOk {X : Cx} {pins : List (Addr × Obj)} {σ : St} {H H' : Hp} {s : Shared} {b : Addr} (I : Inv X pins σ H s) (hb : s.heap.objs.size ≤ b) (hn : H' b = none) : FpOk X pins H' b := by
  refine ⟨hn, Nat.ne_of_gt (Nat.lt_of_lt_of_le I.lt hb), I.nofs hb, .inr (Nat.le_trans I.sz hb), fun x c e z => ?_, fun p hp z => ?_⟩
  · obtain ⟨v, q⟩ := I.cell x c e
    exact absurd (Nat.lt_of_lt_of_le q.lt (by rw [z]; exact hb)) (Nat.lt_irrefl _)
  · exact absurd (Nat.lt_of_lt_of_le (Heap.lt_size (I.pin p hp).1) (by rw [z]; exact hb)) (Nat.lt_irrefl _)
structure Turn (P : Program) (w : World) (K : PySem.W.Frag) (tg : Expr) (J : It) (fp : List Addr) (it : Addr) (tn : Nat → Heap → Prop) : Prop where
  mem : it ∈ fp
  obj : ∀ i h, tn i h → ∀ b ∈ fp, ∃ o, h.get? b = some o ∧ ∀ v, o.data ≠ .cell v
  keep : ∀ i h h', tn i h → (∀ b ∈ fp, ∀ o, h.get? b = some o → h'.get? b = some o) → tn i h'
  item : ∀ (X : Cx), X.prog = P → X.w = w → X.K = K → X.calm = true → ∀ (i : Nat) (pins : List (Addr × Obj)) (s : Shared) (σ : St) (H : Hp) (E : Value → Shared → Prop), Inv X pins σ H s → (∀ b ∈ fp, FpOk X pins H b) → tn i s.heap → J.go i H →
    wpAny (model P w) X.A (pyNext (.ref it)) (fun r s1 => ∃ u, r = some u ∧
      wpAny (model P w) X.A (letOwnedTupleGo tg (.ref it) u) (fun _ s2 => ∃ x H', Inv X pins σ H' s2 ∧ RelV x u ∧ J.yld i H x H' ∧ tn (i + 1) s2.heap ∧ ∀ b ∈ fp, H' b = none) E s1) E s
  done : ∀ (X : Cx), X.prog = P → X.w = w → X.K = K → X.calm = true → ∀ (i : Nat) (pins : List (Addr × Obj)) (s : Shared) (σ : St) (H : Hp) (E : Value → Shared → Prop), Inv X pins σ H s → (∀ b ∈ fp, FpOk X pins H b) → tn i s.heap → J.stop i H →
    wpAny (model P w) X.A (pyNext (.ref it)) (fun r s1 => r = none ∧ Inv X pins σ H s1) E s
  self : ∀ (A : Around) (i : Nat) (s : Shared) (Q : Value → Shared → Prop) (E : Value → Shared → Prop), tn i s.heap → Q (.ref it) s → wpAny (model P w) A (pyIter (.ref it)) Q E s
abbrev TI := St → Hp → (It → Hp → Prop) → Prop
/-- an iterator has come -/
def PIE (X : Cx) (pins : List (Addr × Obj)) (σ : St) (tg : Expr) (R : It → Hp → Prop) (itv : Value) (s2 : Shared) : Prop :=
  ∃ (it : Addr) (fp : List Addr) (tn : Nat → Heap → Prop) (J : It) (H' : Hp), itv = .ref it ∧ Inv X pins σ H' s2 ∧ Turn X.prog X.w X.K tg J fp it tn ∧ tn 0 s2.heap ∧ (∀ b ∈ fp, FpOk X pins H' b) ∧ R J H'
def PI (X : Cx) (tg iter : Expr) (wi : TI) : Prop :=
  ∀ (pins : List (Addr × Obj)) (s : Shared) (σ : St) (H : Hp) (R : It → Hp → Prop), Inv X pins σ H s → wi σ H R →
    wpAny (model X.prog X.w) X.A (eval iter X.env) (fun v s1 => wpAny (model X.prog X.w) X.A (pyIter v) (PIE X pins σ tg R) X.xe s1) X.xe s

/-- the step ahead of the store is nothing for an iterator that keeps no tuple -/
theorem go_of {M : Model} {A : Around} {E : Value → Shared → Prop} {s : Shared} {tg : Expr} {it : Addr} {u : Value} {o : Obj} {n : String} {vs : Array Value} {Q : Unit → Shared → Prop} (ho : s.heap.get? it = some o) (hc : o.cls = .type n) (hd : o.data = .fields vs)
    (hn : ["enumerate", "zip", "dict_itemiterator", "dict_reverseitemiterator", "odict_iterator", "itertools.zip_longest", "itertools.pairwise"].contains n = false) (hQ : Q () s) : wpAny M A (letOwnedTupleGo tg (.ref it) u) Q E s := by
  unfold letOwnedTupleGo
  cases tg <;> first
    | exact wpAny_pure hQ
    | (cases u <;> first
        | exact wpAny_pure hQ
        | (refine wpAny_bind (wpAny_load ho ?_)
           rw [hc, hd]
           show wpAny M A (if (["enumerate", "zip", "dict_itemiterator", "dict_reverseitemiterator", "odict_iterator", "itertools.zip_longest", "itertools.pairwise"].contains n && vs[0]? == some (rawInt _)) = true then _ else _) Q E s
           rw [if_neg (by intro h; rw [hn, Bool.false_and] at h; cases h)]
           exact wpAny_pure hQ))

/-- the list at a, as it stands at each turn (a loop may append to it) -/
def Itl (K : PySem.W.Frag) (a : Addr) : It :=
  ⟨fun i H => ∃ xs x, SqL K H a xs ∧ xs[i]? = some x, fun i H x H' => H' = H ∧ ∀ xs, SqL K H a xs → xs[i]? = some x, fun i H => ∃ xs, SqL K H a xs ∧ xs.length ≤ i⟩
def Itt (K : PySem.W.Frag) (a : Addr) : It :=
  ⟨fun i H => ∃ xs x, SqT K H a xs ∧ xs[i]? = some x, fun i H x H' => H' = H ∧ ∀ xs, SqT K H a xs → xs[i]? = some x, fun i H => ∃ xs, SqT K H a xs ∧ xs.length ≤ i⟩
/-- lo, lo + 1, .. (n of them) -/
def Itr (lo : Int) (n : Nat) : It := ⟨fun i _ => i < n, fun i H x H' => H' = H ∧ x = .int (lo + i), fun i _ => n ≤ i⟩
theorem turn_list {P : Program} {w : World} {K : PySem.W.Frag} {tg : Expr} (a it : Addr) : Turn P w K tg (Itl K a) [it] it (fun i h => h.IsListIter it a i) where
  mem := by simp
  obj := fun i h st b hb => by
    have e : b = it := by simpa using hb
    subst e
    obtain ⟨o, e, c, d⟩ := st
    exact ⟨o, e, fun v z => by rw [d] at z; cases z⟩
  keep := fun i h h' st k => st.at fun o e => k it (by simp) o e
  item := by
    intro X hP hw hK hc i pins s σ H E I hf st hg
    subst hP hw hK
    obtain ⟨xs, x, hq, hx⟩ := hg
    obtain ⟨its, rv, p, hz⟩ := I.list hq
    obtain ⟨u, hu, ru⟩ := rv.get hx
    obtain ⟨f0, f1, f2, f3, f4, f5⟩ := hf it (by simp)
    refine wpAny_pyNext_list_item st p.isList (x := u) (by simpa using hu) fun h' st' sb => ?_
    have I1 : Inv X pins σ H { s with heap := h' } := I.turned (t' := s.toks) (fun b o hb e => (sb.2 b hb).trans e) f0 f1 f3 f4 f5
    obtain ⟨o, e, c, d⟩ := id st'
    exact ⟨u, rfl, go_of (s := { s with heap := h' }) e c d (by decide) ⟨x, H, I1, ru, ⟨rfl, fun ys hy => by rw [I.list_inj hy hq]; exact hx⟩, st', fun b hb => (hf b hb).1⟩⟩
  done := by
    intro X hP hw hK hc i pins s σ H E I hf st hg
    subst hP hw hK
    obtain ⟨xs, hq, hx⟩ := hg
    obtain ⟨its, rv, p, hz⟩ := I.list hq
    obtain ⟨f0, f1, f2, f3, f4, f5⟩ := hf it (by simp)
    have hl := rv.length
    exact wpAny_pyNext_list_end (I.ok.hd hc) st p.isList (by simp; omega) fun h' eb => ⟨rfl, I.turned (t' := s.toks) (fun b o hb e => eb b o hb e) f0 f1 f3 f4 f5⟩
  self := fun _ _ _ _ _ st h => wpAny_pyIter_listiter st h
theorem turn_tuple {P : Program} {w : World} {K : PySem.W.Frag} {tg : Expr} (a it : Addr) : Turn P w K tg (Itt K a) [it] it (fun i h => h.IsTupleIter it a i) where
  mem := by simp
  obj := fun i h st b hb => by
    have e : b = it := by simpa using hb
    subst e
    obtain ⟨o, e, c, d⟩ := st
    exact ⟨o, e, fun v z => by rw [d] at z; cases z⟩
  keep := fun i h h' st k => st.at fun o e => k it (by simp) o e
  item := by
    intro X hP hw hK hc i pins s σ H E I hf st hg
    subst hP hw hK
    obtain ⟨xs, x, hq, hx⟩ := hg
    obtain ⟨its, rv, p, hz⟩ := I.tuple hq
    obtain ⟨u, hu, ru⟩ := rv.get hx
    obtain ⟨f0, f1, f2, f3, f4, f5⟩ := hf it (by simp)
    refine wpAny_pyNext_tuple_item st (show s.heap.IsTuple a its.toArray from p) (x := u) (by simpa using hu) fun h' st' sb => ?_
    have I1 : Inv X pins σ H { s with heap := h' } := I.turned (t' := s.toks) (fun b o hb e => (sb.2 b hb).trans e) f0 f1 f3 f4 f5
    obtain ⟨o, e, c, d⟩ := id st'
    exact ⟨u, rfl, go_of (s := { s with heap := h' }) e c d (by decide) ⟨x, H, I1, ru, ⟨rfl, fun ys hy => by rw [I.tuple_inj hy hq]; exact hx⟩, st', fun b hb => (hf b hb).1⟩⟩
  done := by
    intro X hP hw hK hc i pins s σ H E I hf st hg
    subst hP hw hK
    obtain ⟨xs, hq, hx⟩ := hg
    obtain ⟨its, rv, p, hz⟩ := I.tuple hq
    obtain ⟨f0, f1, f2, f3, f4, f5⟩ := hf it (by simp)
    have hl := rv.length
    exact wpAny_pyNext_tuple_end (I.ok.hd hc) st (show s.heap.IsTuple a its.toArray from p) (by simp; omega) fun h' eb => ⟨rfl, I.turned (t' := s.toks) (fun b o hb e => eb b o hb e) f0 f1 f3 f4 f5⟩
  self := fun _ _ _ _ _ st h => wpAny_pyIter_tupleiter st h
theorem turn_range {P : Program} {w : World} {K : PySem.W.Frag} {tg : Expr} (it : Addr) (lo : Int) (n : Nat) : Turn P w K tg (Itr lo n) [it] it (fun i h => IsRangeIter h it (lo + (i : Nat) * 1) ((n : Int) - (i : Nat)) 1) where
  mem := by simp
  obj := fun i h st b hb => by
    have e : b = it := by simpa using hb
    subst e
    exact ⟨_, st, fun v z => by
      have z' : Data.fields _ = Data.cell v := z
      cases z'⟩
  keep := fun i h h' st k => k it (by simp) _ st
  item := by
    intro X hP hw hK hc i pins s σ H E I hf st hg
    subst hP hw hK
    obtain ⟨f0, f1, f2, f3, f4, f5⟩ := hf it (by simp)
    have W := Walks.range (prog := X.prog) (w := X.w) (I.ok.hd hc) it lo 1 n
    refine W.item i s _ _ hg st fun v h' tk hv st' kk => ?_
    obtain ⟨t, rfl⟩ := hv
    have I1 : Inv X pins σ H { s with heap := h', toks := tk } := I.turned (fun b o hb e => kk b o (by simpa using hb) e) f0 f1 f3 f4 f5
    refine ⟨_, rfl, go_of (s := { s with heap := h', toks := tk }) (n := "range_iterator") st' rfl rfl (by decide) ⟨.int (lo + i), H, I1, ⟨t, ?_⟩, ⟨rfl, rfl⟩, st', fun b hb => (hf b hb).1⟩⟩
    rw [Int.mul_one]
  done := by
    intro X hP hw hK hc i pins s σ H E I hf st hg
    subst hP hw hK
    obtain ⟨f0, f1, f2, f3, f4, f5⟩ := hf it (by simp)
    exact wpAny_pyNext_range_end (I.ok.hd hc) st (by have : n ≤ i := hg; omega) fun h' eb => ⟨rfl, I.turned (t' := s.toks) (fun b o hb e => eb b o hb e) f0 f1 f3 f4 f5⟩
  self := fun _ _ _ _ _ st h => wpAny_pyIter_rangeiter st h
end L2

namespace L2
open PySem PySem.Spec PyProof.Rows
section
variable {X : Cx} {tg : Expr}
def iList (K : PySem.W.Frag) (tl : TE) : TI := fun σ H R => tl σ H fun x H1 => ∃ a, x = .ref a ∧ (∃ xs, SqL K H1 a xs) ∧ R (Itl K a) H1
def iTup (K : PySem.W.Frag) (tl : TE) : TI := fun σ H R => tl σ H fun x H1 => ∃ a, x = .ref a ∧ (∃ xs, SqT K H1 a xs) ∧ R (Itt K a) H1
theorem pi_list {l : Expr} {tl : TE} (hl : PE X l tl) : PI X tg l (iList X.K tl) := by
  intro pins s σ H R I h
  refine thn (hl pins s σ H _ I h) fun v s1 ⟨x, H1, I1, r1, q1⟩ => ?_
  obtain ⟨a, e, ⟨xs, hq⟩, q⟩ := q1
  subst e
  cases r1
  obtain ⟨its, rv, p, hz⟩ := I1.list hq
  refine wpAny_pyIter_list p.isList ?_
  refine ⟨s1.heap.objs.size, [s1.heap.objs.size], _, _, H1, rfl, I1.kept (t' := s1.toks) fun b o e => Heap.get?_push_of_some _ e, turn_list a _, ⟨_, Heap.get?_push_size _ rfl, rfl, rfl⟩, fun b hb => ?_, q⟩
  have e : b = s1.heap.objs.size := by simpa using hb
  subst e
  exact I1.fpOk (Nat.le_refl _) (I1.hok.fresh (Nat.le_refl _))
theorem pi_tup {l : Expr} {tl : TE} (hl : PE X l tl) : PI X tg l (iTup X.K tl) := by
  intro pins s σ H R I h
  refine thn (hl pins s σ H _ I h) fun v s1 ⟨x, H1, I1, r1, q1⟩ => ?_
  obtain ⟨a, e, ⟨xs, hq⟩, q⟩ := q1
  subst e
  cases r1
  obtain ⟨its, rv, p, hz⟩ := I1.tuple hq
  refine wpAny_pyIter_tuple (show s1.heap.IsTuple a its.toArray from p) ?_
  refine ⟨s1.heap.objs.size, [s1.heap.objs.size], _, _, H1, rfl, I1.kept (t' := s1.toks) fun b o e => Heap.get?_push_of_some _ e, turn_tuple a _, ⟨_, Heap.get?_push_size _ rfl, rfl, rfl⟩, fun b hb => ?_, q⟩
  have e : b = s1.heap.objs.size := by simpa using hb
  subst e
  exact I1.fpOk (Nat.le_refl _) (I1.hok.fresh (Nat.le_refl _))
/-- a range object just made, walked -/
theorem range_it {pins : List (Addr × Obj)} {σ : St} {H : Hp} {s : Shared} {R : It → Hp → Prop} {E : Value → Shared → Prop} {lo hi : Int} {t u v : Tok} {tk : Nat} (I : Inv X pins σ H s) (h1 : -(2 ^ 62) ≤ lo) (h2 : lo < 2 ^ 62) (h3 : -(2 ^ 62) ≤ hi) (h4 : hi < 2 ^ 62)
    (q : R (Itr lo (hi - lo).toNat) H) : wpAny (model X.prog X.w) X.A (pyIter (.ref s.heap.objs.size)) (PIE X pins σ tg R) E { s with heap := s.heap.push { cls := .type "range", data := .fields #[.int lo t, .int hi u, .int 1 v] }, toks := tk } := by
  refine wpAny_pyIter_range (IsRange.new ..) (small_one h1 h2 h3 h4) ?_
  have I1 : Inv X pins σ H { s with heap := s.heap.push { cls := .type "range", data := .fields #[.int lo t, .int hi u, .int 1 v] }, toks := tk } := I.kept fun b o e => Heap.get?_push_of_some _ e
  refine ⟨(s.heap.push { cls := .type "range", data := .fields #[.int lo t, .int hi u, .int 1 v] }).objs.size, [(s.heap.push { cls := .type "range", data := .fields #[.int lo t, .int hi u, .int 1 v] }).objs.size], _, _, H, rfl,
    I1.kept (t' := tk) fun b o e => Heap.get?_push_of_some _ e, turn_range _ lo (hi - lo).toNat, ?_, fun b hb => ?_, q⟩
  · have e1 : lo + ((0 : Nat) : Int) * 1 = lo := by simp
    have e2 : (((hi - lo).toNat : Nat) : Int) - ((0 : Nat) : Int) = Builtin.Range.rangeSize lo hi 1 := by rw [rangeSize_one]; split <;> omega
    show IsRangeIter _ _ (lo + ((0 : Nat) : Int) * 1) ((((hi - lo).toNat : Nat) : Int) - ((0 : Nat) : Int)) 1
    rw [e1, e2]
    exact Heap.get?_push_size _ rfl
  · have e : b = (s.heap.push { cls := .type "range", data := .fields #[.int lo t, .int hi u, .int 1 v] }).objs.size := by simpa using hb
    subst e
    exact I1.fpOk (Nat.le_refl _) (I1.hok.fresh (Nat.le_refl _))
def iRng1 (ta : TA) : TI := fun σ H R => ta σ H fun vs H1 => ∃ j : Int, vs = [.int j] ∧ -(2 ^ 62) ≤ j ∧ j < 2 ^ 62 ∧ R (Itr 0 j.toNat) H1
theorem pi_range1 {a : Expr} {ta : TA} {p pos : Pos} (hg : Gl X "range") (hm : X.mg "range" = none) (ha : PA X [a] ta) (hs : starEach [a] X.env = [(false, eval a X.env)] := by rfl) : PI X tg (.Call (.Name "range" p) [a] [] pos) (iRng1 ta) := by
  intro pins s σ H R I h
  refine Call_ (ld_blt I hg hm boot_range (PyProof.Rows.callWith_type1 (thn (ha pos pins s σ H _ I h) fun us s1 ⟨vs, H1, I1, r1, q1⟩ => ?_) hs rfl))
  obtain ⟨j, e, q1, q2, q⟩ := q1
  subst e
  cases r1 with
  | cons r rr =>
    cases rr
    obtain ⟨t, rfl⟩ := r
    exact call_range_1 (range_it I1 (by omega) (by omega) q1 q2 (by simpa using q))
/-! ### for -/
/-- W: the invariant by the turn and a measure; N: what the body is to reach -/
def tFor (wi : TI) (g : TG) (tb : TS) : TS := fun D σ H => wi σ H fun J H1 => ∃ W : Nat → Nat → St → Hp → Prop, (∃ m, W 0 m σ H1) ∧ ∀ i m σ H, W i m σ H →
  (J.stop i H ∧ D.nx σ H) ∨ (J.go i H ∧ ∃ N : St → Hp → Prop, (∀ σ' H', N σ' H' → ∃ m', m' < m ∧ W (i + 1) m' σ' H') ∧ ∀ x H', J.yld i H x H' → g x σ H' fun σ2 H2 => tb { D with nx := N, ct := N, bk := D.nx } σ2 H2)
/-- the records at fp as they stand -/
def pinsAt (fp : List Addr) (h : Heap) : List (Addr × Obj) := fp.filterMap fun b => (h.get? b).map fun o => (b, o)
theorem mem_pinsAt {fp : List Addr} {h : Heap} {b : Addr} {o : Obj} (hb : b ∈ fp) (e : h.get? b = some o) : (b, o) ∈ pinsAt fp h := List.mem_filterMap.mpr ⟨b, hb, by rw [e]; rfl⟩
theorem of_pinsAt {fp : List Addr} {h : Heap} {p : Addr × Obj} (hp : p ∈ pinsAt fp h) : p.1 ∈ fp ∧ h.get? p.1 = some p.2 := by
  obtain ⟨b, hb, e⟩ := List.mem_filterMap.mp hp
  cases q : h.get? b with
  | none => rw [q] at e; cases e
  | some o =>
    rw [q] at e
    have e' : (b, o) = p := Option.some.inj e
    subst e'
    exact ⟨hb, q⟩
theorem Inv.pinned {pins : List (Addr × Obj)} {σ : St} {H : Hp} {s : Shared} {fp : List Addr} (I : Inv X pins σ H s) (hf : ∀ b ∈ fp, FpOk X pins H b) (ho : ∀ b ∈ fp, ∃ o, s.heap.get? b = some o ∧ ∀ v, o.data ≠ .cell v) : Inv X (pins ++ pinsAt fp s.heap) σ H s :=
  I.pins_of fun p hp => (List.mem_append.mp hp).elim (fun z => I.pin p (List.mem_append_right _ z)) fun z => by
    obtain ⟨hb, e⟩ := of_pinsAt z
    obtain ⟨f0, f1, f2, _⟩ := hf p.1 hb
    obtain ⟨o, e', d⟩ := ho p.1 hb
    rw [e] at e'; cases e'
    exact ⟨e, f0, f1, f2, d⟩
theorem Inv.unpinned {pins pl : List (Addr × Obj)} {σ : St} {H : Hp} {s : Shared} (I : Inv X (pins ++ pl) σ H s) : Inv X pins σ H s := I.pins_of fun p hp => I.pin p (List.mem_append_right _ (List.mem_append_left _ hp))
theorem ps_for {iter : Expr} {body : List Stmt} {wi : TI} {g : TG} {tb : TS} {pos : Pos} (hp : PassesOwn (model X.prog X.w) X.A X.env X.xe) (hc : X.calm = true) (hi : PI X tg iter wi) (hg : PG X tg g) (hb : PSs X body tb)
    (hs : ∀ x, foldedSetIterable iter X.env x = pure x := by intro _; rfl) : PS X (.For tg iter body [] pos) (tFor wi g tb) := by
  intro pins s σ H D I h
  refine wpAny_For (thn (hi pins s σ H _ I h) fun v s1 h1 => thn h1 fun itv s2 h2 => ?_) hs
  obtain ⟨it, fp, tn, J, H2, e, I2, T, st2, f2, W, ⟨m0, w0⟩, turn⟩ := h2
  subst e
  -- what stays true of the iterator's objects through the loop
  have stat : ∀ {H' : Hp}, (∀ b ∈ fp, H' b = none) → ∀ b ∈ fp, FpOk X pins H' b := fun hn b hb => ⟨hn b hb, (f2 b hb).2⟩
  refine codeAny_forLoop_any (fun n s' => ∃ i σ' H', Inv X pins σ' H' s' ∧ tn i s'.heap ∧ (∀ b ∈ fp, H' b = none) ∧ W i n σ' H') ?_ m0 ⟨0, σ, H2, I2, st2, fun b hb => (f2 b hb).1, w0⟩
  rintro n s3 ⟨i, σ3, H3, I3, st3, fr3, w3⟩
  rcases turn i n σ3 H3 w3 with ⟨stop, qn⟩ | ⟨go, N, hN, step⟩
  · refine wpAny_passesOwn hp (thn (T.done X rfl rfl rfl hc i pins s3 σ3 H3 X.xe I3 (stat fr3) st3 stop) fun r s4 ⟨hr, I4⟩ => ?_)
    subst hr
    exact wpAny_execs_nil ⟨σ3, H3, I4, qn⟩
  · refine wpAny_passesOwn hp (thn (T.item X rfl rfl rfl hc i pins s3 σ3 H3 X.xe I3 (stat fr3) st3 go) fun r s4 ⟨u, hr, h4⟩ => ?_)
    subst hr
    refine wpAny_passesOwn hp (thn h4 fun _ s5 ⟨x, H5, I5, r5, y5, st5, fr5⟩ => ?_)
    have I5' := I5.pinned (stat fr5) (T.obj _ _ st5)
    refine wpAny_passesOwn hp (thn (hg _ s5 σ3 H5 x u _ I5' r5 (step x H5 y5)) fun _ s6 ⟨σ6, H6, I6, q6⟩ => ?_)
    refine wpAny_passesOwn hp (thn (hb _ s6 σ6 H6 _ I6 q6) fun f s7 q7 => ?_)
    have again : ∀ {σ7 : St} {H7 : Hp}, Inv X (pins ++ pinsAt fp s5.heap) σ7 H7 s7 → N σ7 H7 → ∃ m, m < n ∧ ∃ i σ' H', Inv X pins σ' H' s7 ∧ tn i s7.heap ∧ (∀ b ∈ fp, H' b = none) ∧ W i m σ' H' := fun {σ7 H7} I7 n7 => by
      obtain ⟨m', hm, w7⟩ := hN σ7 H7 n7
      refine ⟨m', hm, i + 1, σ7, H7, I7.unpinned, T.keep _ _ _ st5 fun b hb o e => (I7.pin (b, o) (List.mem_append_right _ (List.mem_append_right _ (mem_pinsAt hb e)))).1, fun b hb => ?_, w7⟩
      obtain ⟨o, e, d⟩ := T.obj _ _ st5 b hb
      exact (I7.pin (b, o) (List.mem_append_right _ (List.mem_append_right _ (mem_pinsAt hb e)))).2.1
    cases f with
    | next => obtain ⟨σ7, H7, I7, n7⟩ := q7; exact again I7 n7
    | cont => obtain ⟨σ7, H7, I7, n7⟩ := q7; exact again I7 n7
    | brk => obtain ⟨σ7, H7, I7, q7⟩ := q7; exact ⟨σ7, H7, I7.unpinned, q7⟩
    | ret v => obtain ⟨x7, σ7, H7, I7, r7, q7⟩ := q7; exact ⟨x7, σ7, H7, I7.unpinned, r7, q7⟩
end

/-! ### the forms one uses -/
/-- over a list that the body leaves as it is -/
theorem for_list {K : PySem.W.Frag} {a : Addr} {xs : List V} {g : TG} {tb : TS} {D : Ends} {σ : St} {H : Hp} (Pv : Nat → St → Hp → Prop) (h0 : Pv 0 σ H) (hl : ∀ i σ H, i ≤ xs.length → Pv i σ H → SqL K H a xs)
    (hs : ∀ i x σ H, xs[i]? = some x → Pv i σ H → g x σ H fun σ2 H2 => tb { D with nx := Pv (i + 1), ct := Pv (i + 1), bk := D.nx } σ2 H2) (hd : ∀ σ H, Pv xs.length σ H → D.nx σ H) :
    ∃ W : Nat → Nat → St → Hp → Prop, (∃ m, W 0 m σ H) ∧ ∀ i m σ H, W i m σ H →
      ((Itl K a).stop i H ∧ D.nx σ H) ∨ ((Itl K a).go i H ∧ ∃ N : St → Hp → Prop, (∀ σ' H', N σ' H' → ∃ m', m' < m ∧ W (i + 1) m' σ' H') ∧ ∀ x H', (Itl K a).yld i H x H' → g x σ H' fun σ2 H2 => tb { D with nx := N, ct := N, bk := D.nx } σ2 H2) := by
  refine ⟨fun i m σ H => m = xs.length - i ∧ i ≤ xs.length ∧ Pv i σ H, ⟨xs.length, by simp, Nat.zero_le _, h0⟩, ?_⟩
  rintro i m σ H ⟨rfl, hi, p⟩
  have q := hl i σ H hi p
  by_cases hlt : i < xs.length
  · refine .inr ⟨⟨xs, xs[i], q, by simp [hlt]⟩, Pv (i + 1), fun σ' H' p' => ⟨xs.length - (i + 1), by omega, rfl, hlt, p'⟩, fun x H' y => ?_⟩
    obtain ⟨e, y⟩ := y
    subst e
    exact hs i x σ _ (y xs q) p
  · have e : i = xs.length := by omega
    subst e
    exact .inl ⟨⟨xs, q, Nat.le_refl _⟩, hd σ H p⟩
theorem for_tup {K : PySem.W.Frag} {a : Addr} {xs : List V} {g : TG} {tb : TS} {D : Ends} {σ : St} {H : Hp} (Pv : Nat → St → Hp → Prop) (h0 : Pv 0 σ H) (hl : ∀ i σ H, i ≤ xs.length → Pv i σ H → SqT K H a xs)
    (hs : ∀ i x σ H, xs[i]? = some x → Pv i σ H → g x σ H fun σ2 H2 => tb { D with nx := Pv (i + 1), ct := Pv (i + 1), bk := D.nx } σ2 H2) (hd : ∀ σ H, Pv xs.length σ H → D.nx σ H) :
    ∃ W : Nat → Nat → St → Hp → Prop, (∃ m, W 0 m σ H) ∧ ∀ i m σ H, W i m σ H →
      ((Itt K a).stop i H ∧ D.nx σ H) ∨ ((Itt K a).go i H ∧ ∃ N : St → Hp → Prop, (∀ σ' H', N σ' H' → ∃ m', m' < m ∧ W (i + 1) m' σ' H') ∧ ∀ x H', (Itt K a).yld i H x H' → g x σ H' fun σ2 H2 => tb { D with nx := N, ct := N, bk := D.nx } σ2 H2) := by
  refine ⟨fun i m σ H => m = xs.length - i ∧ i ≤ xs.length ∧ Pv i σ H, ⟨xs.length, by simp, Nat.zero_le _, h0⟩, ?_⟩
  rintro i m σ H ⟨rfl, hi, p⟩
  have q := hl i σ H hi p
  by_cases hlt : i < xs.length
  · refine .inr ⟨⟨xs, xs[i], q, by simp [hlt]⟩, Pv (i + 1), fun σ' H' p' => ⟨xs.length - (i + 1), by omega, rfl, hlt, p'⟩, fun x H' y => ?_⟩
    obtain ⟨e, y⟩ := y
    subst e
    exact hs i x σ _ (y xs q) p
  · have e : i = xs.length := by omega
    subst e
    exact .inl ⟨⟨xs, q, Nat.le_refl _⟩, hd σ H p⟩
end L2

namespace L2
open PySem PySem.Spec PyProof.Rows

abbrev R2 := V → V → Hp → VK → Prop
/-- a two-place operation on values: f is binaryOp op, inplaceOp op or compareOp op -/
def OpR (X : Cx) (f : Value → Value → Sem Value) (r : R2) : Prop :=
  ∀ (pins : List (Addr × Obj)) (s : Shared) (σ : St) (H : Hp) (x y : V) (v u : Value) (Q : VK), Inv X pins σ H s → RelV x v → RelV y u → r x y H Q →
    wpAny (model X.prog X.w) X.A (f v u) (EP X pins σ Q) X.xe s
/-- a one-place operation -/
def UnR (X : Cx) (f : Value → Sem Value) (r : V → Hp → VK → Prop) : Prop :=
  ∀ (pins : List (Addr × Obj)) (s : Shared) (σ : St) (H : Hp) (x : V) (v : Value) (Q : VK), Inv X pins σ H s → RelV x v → r x H Q →
    wpAny (model X.prog X.w) X.A (f v) (EP X pins σ Q) X.xe s
/-- a call of a value that is known (a builtin, a type) with values -/
def CallR (X : Cx) (f : Value) (r : List V → Hp → VK → Prop) : Prop :=
  ∀ (pins : List (Addr × Obj)) (s : Shared) (σ : St) (H : Hp) (xs : List V) (us : List Value) (Q : VK), Inv X pins σ H s → Vals xs us → r xs H Q →
    wpAny (model X.prog X.w) X.A (call f us) (EP X pins σ Q) X.xe s
/-- a value's truth -/
def TruR (X : Cx) (r : V → Hp → (Bool → Hp → Prop) → Prop) : Prop :=
  ∀ (pins : List (Addr × Obj)) (s : Shared) (σ : St) (H : Hp) (x : V) (v : Value) (Q : Bool → Hp → Prop), Inv X pins σ H s → RelV x v → r x H Q →
    wpAny (model X.prog X.w) X.A (truthy v) (TP X pins σ Q) X.xe s

def tOp (r : R2) (ta tb : TE) : TE := fun σ H Q => ta σ H fun x H1 => tb σ H1 fun y H2 => r x y H2 Q
def tUn (r : V → Hp → VK → Prop) (ta : TE) : TE := fun σ H Q => ta σ H fun x H1 => r x H1 Q
/-- ints in, under C, and a value out -/
def rI (C : Int → Int → Prop) (g : Int → Int → V) : R2 := fun x y H Q => ∃ i j, x = .int i ∧ y = .int j ∧ C i j ∧ Q (g i j) H
def rI0 (g : Int → Int → V) : R2 := fun x y H Q => ∃ i j, x = .int i ∧ y = .int j ∧ Q (g i j) H
def rU (g : Int → V) : V → Hp → VK → Prop := fun x H Q => ∃ i, x = .int i ∧ Q (g i) H

section
variable {X : Cx} {a b c : Expr} {ta tb tc : TE} {pos : Pos}

theorem binT (ha : PE X a ta) (hb : PE X b tb) {pins : List (Addr × Obj)} {s : Shared} {σ : St} {H : Hp} {R : V → V → Hp → Prop} (I : Inv X pins σ H s)
    (h : ta σ H fun x H1 => tb σ H1 fun y H2 => R x y H2) {Q : Value → Shared → Prop} {f : Value → Value → Sem Value}
    (hf : ∀ v u s2 x y H2, Inv X pins σ H2 s2 → RelV x v → RelV y u → R x y H2 → wpAny (model X.prog X.w) X.A (f v u) Q X.xe s2) :
    wpAny (model X.prog X.w) X.A (eval a X.env) (fun v s₁ => wpAny (model X.prog X.w) X.A (eval b X.env) (fun u s₂ => wpAny (model X.prog X.w) X.A (f v u) Q X.xe s₂) X.xe s₁) X.xe s := by
  refine thn (ha pins s σ H _ I h) fun v s1 ⟨x, H1, I1, r1, q1⟩ => ?_
  refine thn (hb pins s1 σ H1 _ I1 q1) fun u s2 ⟨y, H2, I2, r2, q2⟩ => ?_
  exact hf v u s2 x y H2 I2 r1 r2 q2

theorem pe_op {op : Operator} {r : R2} (ho : OpR X (binaryOp op) r) (ha : PE X a ta) (hb : PE X b tb) : PE X (.BinOp a op b pos) (tOp r ta tb) := by
  intro pins s σ H Q I h
  exact wpAny_BinOp (binT ha hb I h fun v u s2 x y H2 I2 rx ry q => ho pins s2 σ H2 x y v u Q I2 rx ry q)
theorem pe_un {op : UnaryOp} {r : V → Hp → VK → Prop} (ho : UnR X (unaryOp op) r) (ha : PE X a ta) : PE X (.UnaryOp op a pos) (tUn r ta) := by
  intro pins s σ H Q I h
  exact UnaryOp_ (thn (ha pins s σ H _ I h) fun v s1 ⟨x, H1, I1, r1, q1⟩ => ho pins s1 σ H1 x v Q I1 r1 q1)
/-! ### ints -/
theorem opI {f : Value → Value → Sem Value} {C : Int → Int → Prop} {g : Int → Int → Int}
    (rule : ∀ (i j : Int) (t u : Tok) (s : Shared) (Q : Value → Shared → Prop) (E : Value → Shared → Prop), C i j → Q (.int (g i j) s.toks) { s with toks := s.toks + 1 } → wpAny (model X.prog X.w) X.A (f (.int i t) (.int j u)) Q E s) :
    OpR X f (rI C fun i j => .int (g i j)) := by
  intro pins s σ H x y v u Q I rx ry h
  obtain ⟨i, j, rfl, rfl, hc, q⟩ := h
  obtain ⟨t, rfl⟩ := rx
  obtain ⟨t', rfl⟩ := ry
  exact rule i j t t' s _ _ hc ⟨.int (g i j), H, I.tok _, ⟨_, rfl⟩, q⟩
theorem opI0 {f : Value → Value → Sem Value} {g : Int → Int → Int}
    (rule : ∀ (i j : Int) (t u : Tok) (s : Shared) (Q : Value → Shared → Prop) (E : Value → Shared → Prop), Q (.int (g i j) s.toks) { s with toks := s.toks + 1 } → wpAny (model X.prog X.w) X.A (f (.int i t) (.int j u)) Q E s) :
    OpR X f (rI0 fun i j => .int (g i j)) := by
  intro pins s σ H x y v u Q I rx ry h
  obtain ⟨i, j, rfl, rfl, q⟩ := h
  obtain ⟨t, rfl⟩ := rx
  obtain ⟨t', rfl⟩ := ry
  exact rule i j t t' s _ _ ⟨.int (g i j), H, I.tok _, ⟨_, rfl⟩, q⟩
theorem opB0 {f : Value → Value → Sem Value} {g : Int → Int → Bool}
    (rule : ∀ (i j : Int) (t u : Tok) (s : Shared) (Q : Value → Shared → Prop) (E : Value → Shared → Prop), Q (.bool (g i j)) s → wpAny (model X.prog X.w) X.A (f (.int i t) (.int j u)) Q E s) :
    OpR X f (rI0 fun i j => .bl (g i j)) := by
  intro pins s σ H x y v u Q I rx ry h
  obtain ⟨i, j, rfl, rfl, q⟩ := h
  obtain ⟨t, rfl⟩ := rx
  obtain ⟨t', rfl⟩ := ry
  exact rule i j t t' s _ _ ⟨.bl (g i j), H, I, rfl, q⟩

def CPow (i j : Int) : Prop := 0 ≤ j ∧ j ≤ 1000000 ∧ i.natAbs < 2 ^ 64
def CMul (i j : Int) : Prop := (-(2 ^ 64) < i ∧ i < 2 ^ 64) ∨ (-(2 ^ 64) < j ∧ j < 2 ^ 64)
theorem CMul.ok {i j : Int} (h : CMul i j) : IntMulOk i j := by
  rcases h with ⟨h1, h2⟩ | ⟨h1, h2⟩
  · exact .of_left (intBits_le_64 h1 h2)
  · exact .of_right (intBits_le_64 h1 h2)
theorem op_add : OpR X (binaryOp .Add) (rI0 fun i j => .int (i + j)) := opI0 fun _ _ _ _ _ _ _ q => add_int q
theorem op_sub : OpR X (binaryOp .Sub) (rI0 fun i j => .int (i - j)) := opI0 fun _ _ _ _ _ _ _ q => sub_int q
theorem op_mul : OpR X (binaryOp .Mult) (rI CMul fun i j => .int (i * j)) := opI fun _ _ _ _ _ _ _ hc q => mul_int q hc.ok
/-- % by a positive divisor of any size -/
theorem op_mod : OpR X (binaryOp .Mod) (rI (fun _ j => 0 < j) fun i j => .int (i % j)) := opI fun i j _ _ _ _ _ hc q => by
  have h1 : (0 : Int) < j := hc
  exact mod_int' (by omega) (by rw [Int.fmod_eq_emod_of_nonneg i (by omega)]; exact q)
theorem op_pow : OpR X (binaryOp .Pow) (rI CPow fun i j => .int (i ^ j.toNat)) := opI fun _ _ _ _ _ _ _ hc q => pow_int_small hc.1 hc.2.1 hc.2.2 q
theorem unI {f : Value → Sem Value} {g : Int → Int}
    (rule : ∀ (i : Int) (t : Tok) (s : Shared) (Q : Value → Shared → Prop) (E : Value → Shared → Prop), Q (.int (g i) s.toks) { s with toks := s.toks + 1 } → wpAny (model X.prog X.w) X.A (f (.int i t)) Q E s) :
    UnR X f (rU fun i => .int (g i)) := by
  intro pins s σ H x v Q I rx h
  obtain ⟨i, rfl, q⟩ := h
  obtain ⟨t, rfl⟩ := rx
  exact rule i t s _ _ ⟨.int (g i), H, I.tok _, ⟨_, rfl⟩, q⟩
theorem un_neg : UnR X (unaryOp .USub) (rU fun i => .int (-i)) := unI fun _ _ _ _ _ q => neg_int q
/-! ### bools among ints: n += (a < b) -/
end

/-! ### comparisons -/
/-- the scalars that == tells apart as data does -/
def scal : V → V → Bool
  | .non, .non => true | .non, .int _ => true | .int _, .non => true | .non, .bl _ => true | .bl _, .non => true | .non, .str _ => true | .str _, .non => true
  | .int _, .int _ => true | .bl _, .bl _ => true | .str _, .str _ => true | .byt _, .byt _ => true
  | .int _, .str _ => true | .str _, .int _ => true | .bl _, .str _ => true | .str _, .bl _ => true
  | _, _ => false
def rEq : R2 := fun x y H Q => scal x y = true ∧ Q (.bl (decide (x = y))) H
def rNe : R2 := fun x y H Q => scal x y = true ∧ Q (.bl (!decide (x = y))) H

theorem dec_int {i j : Int} : decide (V.int i = V.int j) = (i == j) := by
  rw [Bool.eq_iff_iff]
  simp
theorem dec_bl {i j : Bool} : decide (V.bl i = V.bl j) = (i == j) := by
  rw [Bool.eq_iff_iff]
  simp
theorem dec_str {i j : Str} : decide (V.str i = V.str j) = (i == j) := by
  rw [Bool.eq_iff_iff]
  simp
theorem dec_byt {i j : Array UInt8} : decide (V.byt i = V.byt j) = (i.toList == j.toList) := by
  rw [Bool.eq_iff_iff]
  cases i
  cases j
  simp

section
variable {X : Cx} {a b c : Expr} {ta tb tc : TE} {pos : Pos}
theorem fin_bl {pins : List (Addr × Obj)} {σ : St} {H : Hp} {s : Shared} {Q : VK} {k k' : Bool} (I : Inv X pins σ H s) (q : Q (.bl k) H) (e : k = k') : EP X pins σ Q (.bool k') s := by
  subst e
  exact ⟨.bl k, H, I, rfl, q⟩
theorem op_eq : OpR X (compareOp .Eq) rEq := by
  intro pins s σ H x y v u Q I rx ry h
  obtain ⟨hs, q⟩ := h
  cases x with
  | non =>
    cases rx
    cases y with
    | non => cases ry; exact PySem.EqNone.eq_none_none (fin_bl I q (by simp))
    | bl j => cases ry; exact PySem.EqNone.eq_none_bool (fin_bl I q (by simp))
    | int j => obtain ⟨t', rfl⟩ := ry; exact PySem.EqNone.eq_none_int (fin_bl I q (by simp))
    | str j => obtain ⟨t', rfl⟩ := ry; exact PySem.EqNone.eq_none_str (fin_bl I q (by simp))
    | _ => exact absurd (show false = true from hs) Bool.false_ne_true
  | bl i =>
    cases rx
    cases y with
    | non => cases ry; exact PySem.EqNone.eq_bool_none (fin_bl I q (by simp))
    | bl j => cases ry; exact eq_bool (fin_bl I q dec_bl)
    | str j => obtain ⟨t', rfl⟩ := ry; exact PySem.EqMixed.eq_bool_str (fin_bl I q (by simp))
    | _ => exact absurd (show false = true from hs) Bool.false_ne_true
  | int i =>
    obtain ⟨t, rfl⟩ := rx
    cases y with
    | non => cases ry; exact PySem.EqNone.eq_int_none (fin_bl I q (by simp))
    | int j => obtain ⟨t', rfl⟩ := ry; exact eq_int (fin_bl I q dec_int)
    | str j => obtain ⟨t', rfl⟩ := ry; exact PySem.EqMixed.eq_int_str (fin_bl I q (by simp))
    | _ => exact absurd (show false = true from hs) Bool.false_ne_true
  | str i =>
    obtain ⟨t, rfl⟩ := rx
    cases y with
    | non => cases ry; exact PySem.EqNone.eq_str_none (fin_bl I q (by simp))
    | bl j => cases ry; exact PySem.EqMixed.eq_str_bool (fin_bl I q (by simp))
    | int j => obtain ⟨t', rfl⟩ := ry; exact PySem.EqMixed.eq_str_int (fin_bl I q (by simp))
    | str j => obtain ⟨t', rfl⟩ := ry; exact eq_str (fin_bl I q dec_str)
    | _ => exact absurd (show false = true from hs) Bool.false_ne_true
  | byt i =>
    obtain ⟨t, rfl⟩ := rx
    cases y with
    | byt j => obtain ⟨t', rfl⟩ := ry; exact PySem.W.eq_bytes (fin_bl I q dec_byt)
    | _ => exact absurd (show false = true from hs) Bool.false_ne_true
  | _ => cases y <;> exact absurd (show false = true from hs) Bool.false_ne_true
theorem op_ne : OpR X (compareOp .NotEq) rNe := by
  intro pins s σ H x y v u Q I rx ry h
  obtain ⟨hs, q⟩ := h
  cases x with
  | non =>
    cases rx
    cases y with
    | non => cases ry; exact PySem.EqNone.ne_none_none (fin_bl I q (by simp))
    | bl j => cases ry; exact PySem.EqNone.ne_none_bool (fin_bl I q (by simp))
    | int j => obtain ⟨t', rfl⟩ := ry; exact PySem.EqNone.ne_none_int (fin_bl I q (by simp))
    | str j => obtain ⟨t', rfl⟩ := ry; exact PySem.EqNone.ne_none_str (fin_bl I q (by simp))
    | _ => exact absurd (show false = true from hs) Bool.false_ne_true
  | bl i =>
    cases rx
    cases y with
    | non => cases ry; exact PySem.EqNone.ne_bool_none (fin_bl I q (by simp))
    | bl j => cases ry; exact ne_bool (fin_bl I q (congrArg not dec_bl))
    | str j => obtain ⟨t', rfl⟩ := ry; exact PySem.EqMixed.ne_bool_str (fin_bl I q (by simp))
    | _ => exact absurd (show false = true from hs) Bool.false_ne_true
  | int i =>
    obtain ⟨t, rfl⟩ := rx
    cases y with
    | non => cases ry; exact PySem.EqNone.ne_int_none (fin_bl I q (by simp))
    | int j => obtain ⟨t', rfl⟩ := ry; exact ne_int (fin_bl I q (congrArg not dec_int))
    | str j => obtain ⟨t', rfl⟩ := ry; exact PySem.EqMixed.ne_int_str (fin_bl I q (by simp))
    | _ => exact absurd (show false = true from hs) Bool.false_ne_true
  | str i =>
    obtain ⟨t, rfl⟩ := rx
    cases y with
    | non => cases ry; exact PySem.EqNone.ne_str_none (fin_bl I q (by simp))
    | bl j => cases ry; exact PySem.EqMixed.ne_str_bool (fin_bl I q (by simp))
    | int j => obtain ⟨t', rfl⟩ := ry; exact PySem.EqMixed.ne_str_int (fin_bl I q (by simp))
    | str j => obtain ⟨t', rfl⟩ := ry; exact ne_str (fin_bl I q (congrArg not dec_str))
    | _ => exact absurd (show false = true from hs) Bool.false_ne_true
  | byt i =>
    obtain ⟨t, rfl⟩ := rx
    cases y with
    | byt j => obtain ⟨t', rfl⟩ := ry; exact PySem.W.ne_bytes (fin_bl I q (congrArg not dec_byt))
    | _ => exact absurd (show false = true from hs) Bool.false_ne_true
  | _ => cases y <;> exact absurd (show false = true from hs) Bool.false_ne_true

theorem op_lt : OpR X (compareOp .Lt) (rI0 fun i j => .bl (decide (i < j))) := opB0 fun _ _ _ _ _ _ _ q => lt_int q
theorem op_le : OpR X (compareOp .LtE) (rI0 fun i j => .bl (decide (i ≤ j))) := opB0 fun _ _ _ _ _ _ _ q => le_int q
theorem op_gt : OpR X (compareOp .Gt) (rI0 fun i j => .bl (decide (j < i))) := opB0 fun _ _ _ _ _ _ _ q => gt_int q
theorem op_ge : OpR X (compareOp .GtE) (rI0 fun i j => .bl (decide (j ≤ i))) := opB0 fun _ _ _ _ _ _ _ q => ge_int q
/-- the one string within the other -/
theorem op_in_str : OpR X (compareOp .In) (fun x y H Q => ∃ i j, x = .str i ∧ y = .str j ∧ Q (.bl (!(Builtin.Str.occurrences j i 0 j.length 1).isEmpty)) H) := by
  intro pins s σ H x y v u Q I rx ry h
  obtain ⟨i, j, rfl, rfl, q⟩ := h
  obtain ⟨t, rfl⟩ := rx
  obtain ⟨t', rfl⟩ := ry
  exact in_str (fin_bl I q rfl)

/-- two rules for one operation: by cases -/
theorem OpR.or {f : Value → Value → Sem Value} {r r' : R2} (h : OpR X f r) (h' : OpR X f r') : OpR X f (fun x y H Q => r x y H Q ∨ r' x y H Q) := by
  intro pins s σ H x y v u Q I rx ry q
  rcases q with q | q
  · exact h pins s σ H x y v u Q I rx ry q
  · exact h' pins s σ H x y v u Q I rx ry q

theorem nomark (b : Expr) {op : CmpOp} (h : op ≠ .In := by decide) (h2 : op ≠ .NotIn := by decide) : behindInMarks op b = false := by
  have e1 : (op == CmpOp.In) = false := by cases op <;> first | rfl | exact absurd rfl h
  have e2 : (op == CmpOp.NotIn) = false := by cases op <;> first | rfl | exact absurd rfl h2
  cases b <;> simp [behindInMarks, e1, e2]
/-- a comparison as a value; hm: nomark b, or (for in, not in) by with_unfolding_all rfl -/
theorem pe_cmpR {op : CmpOp} {r : R2} (ho : OpR X (compareOp op) r) (ha : PE X a ta) (hb : PE X b tb) (hm : behindInMarks op b = false) : PE X (.Compare a [op] [b] pos) (tOp r ta tb) := by
  intro pins s σ H Q I h
  exact wpAny_Compare1 (binT ha hb I h fun v u s2 x y H2 I2 rx ry q => ho pins s2 σ H2 x y v u Q I2 rx ry q) hm
/-- a reading of a value as a test -/
def tTest (t : TE) : TT := fun σ H Q => t σ H fun x H' => ∃ k, x = .bl k ∧ Q k H'
theorem pt_cmpR {op : CmpOp} {r : R2} (ho : OpR X (compareOp op) r) (ha : PE X a ta) (hb : PE X b tb) (hm : behindInMarks op b = false) : PT X (.Compare a [op] [b] pos) (tTest (tOp r ta tb)) := by
  intro pins s σ H Q I h
  refine wpAny_isTrue_Compare1 (thn (ha pins s σ H _ I h) fun v s1 ⟨x, H1, I1, r1, q1⟩ => thn (hb pins s1 σ H1 _ I1 q1) fun u s2 ⟨y, H2, I2, r2, q2⟩ =>
    thn (ho pins s2 σ H2 x y v u _ I2 r1 r2 q2) fun c s3 ⟨z, H3, I3, r3, k, e, q3⟩ => ?_) hm
  subst e
  cases r3
  exact wpAny_truthy_bool ⟨H3, I3, q3⟩
/-- a op1 b op2 c -/
def tChain (r r' : R2) (ta tb tc : TE) : TE := fun σ H Q => ta σ H fun x H1 => tb σ H1 fun y H2 => r x y H2 fun z H3 => ∃ k, z = .bl k ∧
  (if k = true then tc σ H3 fun w' H4 => r' y w' H4 Q else Q (.bl false) H3)
theorem pt_chain {op op' : CmpOp} {r r' : R2} (ho : OpR X (compareOp op) r) (ho' : OpR X (compareOp op') r') (ha : PE X a ta) (hb : PE X b tb) (hc : PE X c tc)
    (hm : lastMarks [op, op'] [b, c] = false := by with_unfolding_all rfl) : PT X (.Compare a [op, op'] [b, c] pos) (tTest (tChain r r' ta tb tc)) := by
  intro pins s σ H Q I h
  refine isTrue_chain (thn (ha pins s σ H _ I h) fun v s1 ⟨x, H1, I1, r1, q1⟩ => test_link (thn (hb pins s1 σ H1 _ I1 q1) fun u s2 ⟨y, H2, I2, r2, q2⟩ =>
    thn (ho pins s2 σ H2 x y v u _ I2 r1 r2 q2) fun d s3 ⟨z, H3, I3, r3, k, e, q3⟩ => ?_)) hm
  subst e
  cases r3
  refine wpAny_truthy_bool ?_
  cases k with
  | false =>
    obtain ⟨k', e', q'⟩ := q3
    cases e'
    exact ite_ff ⟨H3, I3, q'⟩
  | true =>
    refine ite_tt (test_last (thn (hc pins s3 σ H3 _ I3 q3) fun w' s4 ⟨z', H4, I4, r4, q4⟩ => thn (ho' pins s4 σ H4 y z' u w' _ I4 r2 r4 q4) fun d' s5 ⟨z2, H5, I5, r5, k2, e2, q5⟩ => ?_))
    subst e2
    cases r5
    exact wpAny_truthy_bool ⟨H5, I5, q5⟩

/-! ### truth -/
/-- a value's truth by the abstract heap -/
def TruV (K : PySem.W.Frag) (x : V) (H : Hp) (k : Bool) : Prop :=
  match x with
  | .non => k = false
  | .bl b => k = b
  | .int i => k = (i != 0)
  | .str y => y.length ≤ sizeLine ∧ k = ((y.length : Int) != 0)
  | .byt y => y.size ≤ sizeLine ∧ k = ((y.size : Int) != 0)
  | .ref p => (∃ xs, SqL K H p xs ∧ k = !xs.isEmpty) ∨ (∃ xs, SqT K H p xs ∧ k = !xs.isEmpty) ∨ ∃ kvs, H p = some (.dK kvs) ∧ k = !kvs.isEmpty
  | _ => False
theorem isEmpty_kv {κ : Type} {kvs : List (κ × V)} {vs : List (κ × Value)} (r : KV kvs vs) : (!vs.isEmpty) = !kvs.isEmpty := by
  cases r <;> rfl
theorem isEmpty_of {xs : List V} {its : List Value} (r : Vals xs its) : (!its.toArray.isEmpty) = !xs.isEmpty := by
  cases r <;> simp
theorem line63 : (sizeLine : Nat) < 2 ^ 63 := by rw [sizeLine_eq]; decide
theorem tru_ok : TruR X (fun x H Q => ∃ k, TruV X.K x H k ∧ Q k H) := by
  intro pins s σ H x v Q I rx h
  obtain ⟨k, e, q⟩ := h
  have hl := line63
  have hs : sizeLine = 16777216 := sizeLine_eq
  cases x with
  | non =>
    cases rx
    have e' : k = false := e
    subst e'
    exact truthy_none ⟨H, I, q⟩
  | bl b =>
    cases rx
    have e' : k = b := e
    subst e'
    exact wpAny_truthy_bool ⟨H, I, q⟩
  | int i =>
    obtain ⟨t, rfl⟩ := rx
    have e' : k = (i != 0) := e
    subst e'
    exact PySem.P.truthy_int ⟨H, I, q⟩
  | str y =>
    obtain ⟨t, rfl⟩ := rx
    obtain ⟨hy, e'⟩ : y.length ≤ sizeLine ∧ k = ((y.length : Int) != 0) := e
    subst e'
    exact PySem.P.truthy_str (by omega) ⟨H, I.tok _, q⟩
  | byt y =>
    obtain ⟨t, rfl⟩ := rx
    obtain ⟨hy, e'⟩ : y.size ≤ sizeLine ∧ k = ((y.size : Int) != 0) := e
    subst e'
    exact PySem.W.truthy_bytes (by omega) ⟨H, I.tok _, q⟩
  | ref p =>
    cases rx
    have e' : (∃ xs, SqL X.K H p xs ∧ k = !xs.isEmpty) ∨ (∃ xs, SqT X.K H p xs ∧ k = !xs.isEmpty) ∨ ∃ kvs, H p = some (.dK kvs) ∧ k = !kvs.isEmpty := e
    rcases e' with ⟨xs, hx, e'⟩ | ⟨xs, hx, e'⟩ | ⟨kvs, hx, e'⟩
    · subst e'
      obtain ⟨its, r, pl, hz⟩ := I.list hx
      have hlen := r.length
      exact wpAny_truthy_list pl.isList (by simp only [List.size_toArray]; omega) ⟨H, I.tok _, by rw [isEmpty_of r]; exact q⟩
    · subst e'
      obtain ⟨its, r, pl, hz⟩ := I.tuple hx
      have hlen := r.length
      exact truthy_tuple pl (by simp only [List.size_toArray]; omega) ⟨H, I.tok _, by rw [isEmpty_of r]; exact q⟩
    · subst e'
      obtain ⟨hz, hS, vs, r, m⟩ : kvs.length ≤ sizeLine ∧ (p == sysModules) = false ∧ ∃ vs, KV kvs vs ∧ s.heap.DictOf (mixKind X.prog X.w) p vs := I.hok p _ hx
      have hlen : kvs.length = vs.length := Paired.length r
      exact wpAny_truthy_dict hS m (by omega) ⟨H, I.tok _, by rw [isEmpty_kv r]; exact q⟩
  | _ => exact (show False from e).elim
/-- any expression whose test is its value's truth (a name, a call, a subscript, a field ..: he by fun _ => rfl) -/
theorem pt_truth (ha : PE X a ta) (he : ∀ whole, isTrue a X.env whole = (do let v ← whole; standAt a.pos; holding [v] (truthy v))) :
    PT X a (fun σ H Q => ta σ H fun x H' => ∃ k, TruV X.K x H' k ∧ Q k H') := by
  intro pins s σ H Q I h
  exact isTrue_plain (thn (ha pins s σ H _ I h) fun v s1 ⟨x, H1, I1, r1, q1⟩ => tru_ok pins s1 σ H1 x v Q I1 r1 q1) (he _)

/-! ### strs and bytes -/
/-! ### scalar builtins, by CallR -/
theorem vals1 {x : V} {us : List Value} (r : Vals [x] us) : ∃ u, us = [u] ∧ RelV x u := by
  cases r with
  | cons r1 r2 => cases r2; exact ⟨_, rfl, r1⟩
theorem call_str_int : CallR X (.type "str") (fun xs H Q => ∃ i, xs = [.int i] ∧ i.natAbs.log2 < 1920 ∧ Q (.str (toString i)) H) := by
  intro pins s σ H xs us Q I r h
  obtain ⟨i, rfl, hz, q⟩ := h
  obtain ⟨u, rfl, t, rfl⟩ := vals1 r
  exact PySem.P.str_of_int hz ⟨.str _, H, I.tok _, ⟨_, rfl⟩, q⟩
end
end L2

namespace L2
open PySem PySem.Spec PyProof.Rows

/-! ### an instance, its attributes a map -/
structure ObjM (h : Heap) (x dx C : Addr) (mA : Str → Option Value) : Prop where
  obj : h.get? x = some (PySem.W.instObj C dx)
  ns : h.Ns1 dx mA
  ne : dx ≠ x

theorem lookIn_ns {h : Heap} {dx : Addr} {mA : Str → Option Value} (n : h.Ns1 dx mA) : ∃ od, h.get? dx = some od ∧ ∀ name, PySem.W.lookIn name od = some (mA name) := by
  obtain ⟨o, es, ep, ho, hd, hk, _, hm⟩ := n
  refine ⟨o, ho, fun name => ?_⟩
  have e := hm name
  unfold nsFind findBy at e
  rw [← Array.find?_toList] at e
  unfold PySem.W.lookIn
  rw [hd]
  dsimp only
  split
  · rename_i y q
    rw [q] at e
    exact congrArg some e
  · rename_i q
    rw [q] at e
    have a : es.toList.any (·.refKey) = false := by
      rw [List.any_eq_false]
      intro y hy
      obtain ⟨z, t, hkey⟩ := hk y (Array.mem_toList_iff.mp hy)
      simp [DictEntry.refKey, hkey]
    have a' : ¬ es.toList.any (·.refKey) = true := by rw [a]; exact Bool.false_ne_true
    rw [if_neg a']
    exact congrArg some e

theorem ObjM.look {h : Heap} {x dx C : Addr} {mA : Str → Option Value} (I : ObjM h x dx C mA) : ∃ od, PySem.W.InstAt h x (PySem.W.instObj C dx) C (some od) ∧ ∀ name, PySem.W.lookIn name od = some (mA name) :=
  let ⟨od, ho, hl⟩ := lookIn_ns I.ns
  ⟨od, ⟨I.obj, rfl, rfl, ho⟩, hl⟩

section
variable {prog : Program} {w : World} {A : Around} {E : Value → Shared → Prop} {s : Shared} {K : PySem.W.Frag} {x dx C f : Addr} {mA : Str → Option Value} {name : Str} {v : Value}

end

/-! ### the attributes as a list of pairs -/
section
variable {P : Program} {w : World} {H H' : Hp} {h h' : Heap} {a C dx : Addr} {fs fs' : List (Str × V)}
theorem ins_get (hok : HOk P w H h) (e : H a = some (.ins C dx fs)) : ∃ mA, ObjM h a dx C mA ∧ (∀ f, RelO (fs.lookup f) (mA f)) ∧ PySem.Within mA (fs.map (·.1)) ∧ fs.length ≤ 1000 ∧ H dx = some (.own a) := by
  obtain ⟨d, z, ne, ob, mA, n, r, q⟩ := (show ObjOk P w H h a (.ins C dx fs) from hok a _ e)
  exact ⟨mA, ⟨ob, n, ne⟩, r, q, z, d⟩
end

/-! ### what of the text a class must have -/
structure Cls (K : PySem.W.Frag) (C : Addr) : Prop where
  pg : PySem.W.plainGet K C Str.empty = true
  hd : PySem.W.hasDictIn K C = true
  po : PySem.W.plainOver K C = true
  sa : PySem.W.findIn K (.ref C) "__setattr__" = some (some (.builtin "object.__setattr__"))
theorem Cls.get {K : PySem.W.Frag} {C : Addr} (c : Cls K C) (f : Str) : PySem.W.plainGet K C f = true := c.pg
/-- a constant of the class -/
structure Con (K : PySem.W.Frag) (C : Addr) (f : Str) (v : V) (u : Value) : Prop where
  at_ : PySem.W.findIn K (.ref C) f = some (some u)
  rel : RelV v u
  get : PySem.W.specialIn K u "__get__" = some none
  cp : PySem.W.copiedNames.contains f = false
/-- a method: a plain def of the class or of one above it -/
structure Meth (K : PySem.W.Frag) (C : Addr) (m : Str) (f : Addr) : Prop where
  at_ : PySem.W.findIn K (.ref C) m = some (some (.ref f))
  fn : PySem.W.isFn K (.ref f) = true
  kp : PySem.W.keepIn K (.ref f) = true

section
variable {X : Cx} {pins : List (Addr × Obj)} {σ : St} {H : Hp} {s : Shared} {a C dx : Addr} {fs : List (Str × V)} {f : Str} {v : V} {A : Around} {E : Value → Shared → Prop}

/-- a new instance, tracked, without attributes -/
theorem Inv.made (I : Inv X pins σ H s) : Inv X pins σ (upd (upd H s.heap.objs.size (.own (s.heap.objs.size + 1))) (s.heap.objs.size + 1) (.ins C s.heap.objs.size []))
    { s with heap := (s.heap.push PySem.W.emptyDict).push (PySem.W.instObj C s.heap.objs.size) } := by
  have e1 : (s.heap.push PySem.W.emptyDict).get? s.heap.objs.size = some PySem.W.emptyDict := Heap.get?_push_size s.heap rfl
  have e2 : ((s.heap.push PySem.W.emptyDict).push (PySem.W.instObj C s.heap.objs.size)).get? (s.heap.objs.size + 1) = some (PySem.W.instObj C s.heap.objs.size) := by
    have := Heap.get?_push_size (s.heap.push PySem.W.emptyDict) (o := PySem.W.instObj C s.heap.objs.size) rfl
    rwa [Heap.size_push] at this
  have e3 : (s.heap.push PySem.W.emptyDict).Ns s.heap.objs.size (fun _ => none) := ⟨PySem.W.emptyDict, #[], _, e1, rfl, (fun e he => absurd he (by simp)), fun _ => rfl⟩
  have I1 := I.laid (a := s.heap.objs.size) (o := .own (s.heap.objs.size + 1)) (h' := s.heap.push PySem.W.emptyDict) (t' := s.toks) (fun b u q => Heap.get?_push_of_some _ q) (Nat.le_refl _) ⟨_, e1⟩
  refine I1.laid (a := s.heap.objs.size + 1) (o := .ins C s.heap.objs.size []) (t' := s.toks) (fun b u q => Heap.get?_push_of_some _ q) (Nat.le_of_eq (Heap.size_push _ _)) ?_
  have ne : s.heap.objs.size ≠ s.heap.objs.size + 1 := Nat.ne_of_lt (Nat.lt_succ_self _)
  refine ⟨by rw [upd_ne ne, upd_same], Nat.zero_le _, ne, e2, fun _ => none, (Heap.Ns1.of_empty e3).at fun o q => Heap.get?_push_of_some _ q, fun _ => True.intro, fun y hy => absurd rfl hy⟩

end

/-! ### readings and rules -/
section
variable {X : Cx} {o e value : Expr} {f : Str} {pos pos' tpos : Pos} {ta tv : TE}
end

/-! ### isinstance -/
section
variable {X : Cx} {pins : List (Addr × Obj)} {σ : St} {H : Hp} {s : Shared} {A : Around} {E : Value → Shared → Prop} {Q : Value → Shared → Prop} {c : Value} {b : Bool}
/-- the type of a value, as the fragment's deciders take it; for an instance its class -/
inductive TyOf (K : PySem.W.Frag) (H : Hp) : V → Value → Prop where
  | non : TyOf K H .non (.type "NoneType")
  | bl (x : Bool) : TyOf K H (.bl x) (.type "bool")
  | int (i : Int) : TyOf K H (.int i) (.type "int")
  | str (x : Str) : TyOf K H (.str x) (.type "str")
  | flt (x : UInt64) : TyOf K H (.flt x) (.type "float")
  | lst {a : Addr} {xs : List V} (e : H a = some (.lst xs)) : TyOf K H (.ref a) (.type "list")
  | frz {a : Addr} {o : Obj} {xs : List V} (e : H a = some (.frz o (.lst xs))) : TyOf K H (.ref a) (.type "list")
  | tup {a : Addr} {xs : List V} (e : H a = some (.tup xs)) : TyOf K H (.ref a) (.type "tuple")
  | dK {a : Addr} {kvs : List (Key × V)} (e : H a = some (.dK kvs)) : TyOf K H (.ref a) (.type "dict")
  | dT {a : Addr} {kvs : List (List Key × V)} (e : H a = some (.dT kvs)) : TyOf K H (.ref a) (.type "dict")
  | ins {a C dx : Addr} {fs : List (Str × V)} (e : H a = some (.ins C dx fs)) (cl : Cls K C) (ha : PySem.W.findIn K (.ref C) "__class__" = some (some (.builtin "object.__class__")))
      (hn : PySem.W.specialIn K (.builtin "object.__class__") "__get__" = some (some (.builtin "getset_descriptor.__get__"))) (htk : PySem.W.takesIn K (.builtin "object.__class__") = some true)
      (hm : PySem.W.mroIn K C (.type "object") = some true) : TyOf K H (.ref a) (.ref C)
/-- isinstance(x, c) for one class c, a built-in or an own one: kitOne's answer -/
theorem isinst_ok {x : V} {u t : Value} (I : Inv X pins σ H s) (rx : RelV x u) (ty : TyOf X.K H x t) (e : PySem.W.kitOne X.K t c = some b) (h : ∀ tk, Q (.bool b) { s with toks := tk }) :
    wpAny (model X.prog X.w) A (call (.builtin "isinstance") [u, c]) Q E s := by
  cases ty with
  | non => cases (show u = Value.none from rx); exact PySem.W.kia_one PySem.W.kitx_none I.kIn True.intro e (fun z => nomatch z) h
  | bl y => cases (show u = Value.bool y from rx); exact PySem.W.kia_one PySem.W.kitx_bool I.kIn True.intro e (fun z => nomatch z) h
  | int i => obtain ⟨t, q⟩ := (show ∃ t, u = Value.int i t from rx); cases q; exact PySem.W.kia_one PySem.W.kitx_int I.kIn True.intro e (fun z => nomatch z) h
  | str y => obtain ⟨t, q⟩ := (show ∃ t, u = Value.str y t from rx); cases q; exact PySem.W.kia_one PySem.W.kitx_str I.kIn True.intro e (fun z => nomatch z) h
  | flt y => obtain ⟨t, q⟩ := (show ∃ t, u = Value.float y t from rx); cases q; exact PySem.W.kia_one PySem.W.kitx_float I.kIn True.intro e (fun z => nomatch z) h
  | @lst a xs ea =>
    cases (show u = Value.ref a from rx)
    obtain ⟨_, _, n, _, h1⟩ := (show ObjOk X.prog X.w H s.heap a (.lst xs) from I.hok a _ ea)
    exact PySem.W.kia_one PySem.W.kitx_list I.kIn ⟨_, h1, rfl⟩ e (fun z => nomatch z) h
  | @frz a ob xs ea =>
    cases (show u = Value.ref a from rx)
    obtain ⟨_, _, _, n, _, h1⟩ := (show ObjOk X.prog X.w H s.heap a (.frz ob (.lst xs)) from I.hok a _ ea)
    exact PySem.W.kia_one PySem.W.kitx_list I.kIn ⟨_, h1, rfl⟩ e (fun z => nomatch z) h
  | @tup a xs ea =>
    cases (show u = Value.ref a from rx)
    obtain ⟨_, _, _, p⟩ := (show ObjOk X.prog X.w H s.heap a (.tup xs) from I.hok a _ ea)
    obtain ⟨o, h1, h2, _⟩ := p
    exact PySem.W.kia_one PySem.W.kitx_tuple I.kIn ⟨o, h1, h2⟩ e (fun z => nomatch z) h
  | @dK a kvs ea =>
    cases (show u = Value.ref a from rx)
    obtain ⟨_, _, vs, _, p⟩ := (show ObjOk X.prog X.w H s.heap a (.dK kvs) from I.hok a _ ea)
    obtain ⟨o, es, ep, h1, h2, _⟩ := p
    exact PySem.W.kia_one PySem.W.kitx_dict I.kIn ⟨o, h1, h2.1⟩ e (fun z => nomatch z) h
  | @dT a kvs ea =>
    cases (show u = Value.ref a from rx)
    obtain ⟨_, _, xs, _, o, es, ep, h1, h2, _⟩ := (show ObjOk X.prog X.w H s.heap a (.dT kvs) from I.hok a _ ea)
    exact PySem.W.kia_one PySem.W.kitx_dict I.kIn ⟨o, h1, h2.1⟩ e (fun z => nomatch z) h
  | @ins a C dx fs ea cl ha hn htk hm =>
    cases (show u = Value.ref a from rx)
    obtain ⟨mA, O, _⟩ := ins_get I.hok ea
    obtain ⟨od, J, _⟩ := O.look
    exact PySem.W.kia_one (PySem.W.kitx_own (cl.get _) cl.hd ha hn htk hm) I.kIn J e (fun z => nomatch z) h
end
end L2

namespace L2
open PySem PySem.Spec PyProof.Rows

/-! ### room -/
structure Room (k : Nat) (A : Around) : Prop where
  hd : A.handled = none
  dp : A.depth + 3 * k + 5 < recursionLimit
  un : A.units + 16 * k + 200 < cLine
theorem Room.mono {j k : Nat} {A : Around} (r : Room k A) (h : j ≤ k) : Room j A := ⟨r.hd, by have := r.dp; omega, by have := r.un; omega⟩
theorem Room.deeper {k : Nat} {A : Around} (r : Room (k + 1) A) (env : Env) : Room k (A.deeper env) :=
  ⟨r.hd, by have := r.dp; show A.depth + 1 + 3 * k + 5 < _; omega, by have := r.un; show A.units + 3 + 16 * k + 200 < _; omega⟩
theorem Room.in1 {k : Nat} {A : Around} (r : Room (k + 1) A) : Room k A.in1 :=
  ⟨r.hd, by have := r.dp; show A.depth + 3 * k + 5 < _; omega, by have := r.un; show A.units + 1 + 16 * k + 200 < _; omega⟩
theorem Room.depth {k : Nat} {A : Around} (r : Room k A) : A.depth < recursionLimit := by have := r.dp; omega
theorem Room.units {k : Nat} {A : Around} (r : Room k A) : A.units + 64 < cLine := by have := r.un; omega
/-! ### argument lists and displays -/
def tNil : TA := fun _ H Q => Q [] H
def tCons (ta : TE) (tr : TA) : TA := fun σ H Q => ta σ H fun x H1 => tr σ H1 fun xs H2 => Q (x :: xs) H2
section
variable {X : Cx} {e : Expr} {es : List Expr} {te : TE} {t : TA} {pos : Pos}
theorem pa_nil : PA X [] tNil := fun _ _ _ _ H Q I h => Calls.spliced_nil ⟨[], H, I, .nil, h⟩
theorem pa_cons (ha : PE X e te) (hr : PA X es t) (hs : starEach (e :: es) X.env = (false, eval e X.env) :: starEach es X.env := by rfl) : PA X (e :: es) (tCons te t) := by
  intro pos pins s σ H Q I h
  rw [hs]
  show wpAny _ _ (spliced ((false, eval e X.env) :: backTo pos (starEach es X.env))) _ _ s
  refine Calls.spliced_cons (thn (ha pins s σ H _ I h) fun u s1 ⟨x, H1, I1, r1, q1⟩ => ?_)
  exact thn (hr pos pins s1 σ H1 _ I1 q1) fun us s2 ⟨xs, H2, I2, r2, q2⟩ => ⟨x :: xs, H2, I2, .cons r1 r2, q2⟩

/-- a tuple, a list of written items -/
def tTup (t : TA) : TE := fun σ H Q => t σ H fun xs H1 => xs.length ≤ sizeLine ∧ ∀ p, H1 p = none → Q (.ref p) (upd H1 p (.tup xs))
def tLst (t : TA) : TE := fun σ H Q => t σ H fun xs H1 => xs.length ≤ sizeLine ∧ ∀ p, H1 p = none → Q (.ref p) (upd H1 p (.lst xs))
theorem pe_tup {x1} (h : PA X es t) : PE X (.Tuple es x1 pos) (tTup t) := by
  intro pins s σ H Q I hq
  refine wpAny_Tuple_spliced (thn (h pos pins s σ H _ I hq) fun us s1 ⟨xs, H1, I1, r, z, q⟩ => ⟨by rw [← r.length]; exact z, ?_⟩)
  have hf : H1 s1.heap.objs.size = none := I1.hok.fresh (Nat.le_refl _)
  refine ⟨.ref s1.heap.objs.size, upd H1 s1.heap.objs.size (.tup xs), I1.laid (t' := s1.toks) (fun b u e => Heap.get?_push_of_some _ e) (Nat.le_refl _) ?_, rfl, q _ hf⟩
  exact ⟨z, us, r, ⟨_, Heap.get?_push_size _ rfl, rfl, _, rfl⟩⟩
theorem pe_lst (h : PA X es t) : PE X (.List es pos) (tLst t) := by
  intro pins s σ H Q I hq
  refine wpAny_List_spliced (thn (h pos pins s σ H _ I hq) fun us s1 ⟨xs, H1, I1, r, z, q⟩ => ⟨by rw [← r.length]; exact z, ?_⟩)
  have hf : H1 s1.heap.objs.size = none := I1.hok.fresh (Nat.le_refl _)
  refine ⟨.ref s1.heap.objs.size, upd H1 s1.heap.objs.size (.lst xs), I1.laid (t' := s1.toks) (fun b u e => Heap.get?_push_of_some _ e) (Nat.le_refl _) ?_, rfl, q _ hf⟩
  exact ⟨z, us, 0, r, Heap.get?_push_size _ rfl⟩
end

/-! ### what a def promises -/
/-- a def's promise: the bound arguments in the parameters' order, the heap, the wanted end, the wanted exception -/
abbrev Sp := List V → Hp → VK → XK → Prop
/-- how an exception lies behind a call (file 08 gives it): the callers' frames, abstract heap and state ahead of the call, the wish, the exception, the state -/
abbrev CXT := List Env → Hp → Shared → XK → Value → Shared → Prop

/-- the state at a call -/
structure Env0 (P : Program) (w : World) (K : PySem.W.Frag) (mg : Str → Option Value) (base : Heap) (A : Around) (outer : List Env) (s : Shared) (H : Hp) : Prop where
  frames : A.frames = some outer
  mod : Mod K mg base
  bs : ∀ b o, base.get? b = some o → s.heap.get? b = some o ∧ H b = none
  bsz : base.objs.size ≤ s.heap.objs.size
  funs : s.heap.FunFrames base outer
  frf : ∀ b ∈ frs outer, H b = none
  hok : HOk P w H s.heap
  bare : AllBare s.gens
/-- a call's end -/
def CE (outer : List Env) (P : Program) (w : World) (H : Hp) (s : Shared) (Q : VK) (u : Value) (s' : Shared) : Prop :=
  ∃ v H', s'.os = s.os ∧ AllBare s'.gens ∧ Un (frs outer) [] H H' s.heap s'.heap ∧ HOk P w H' s'.heap ∧ RelV v u ∧ Q v H'
def CR (CX : CXT) (outer : List Env) (P : Program) (w : World) (H : Hp) (s : Shared) (Q : VK) (E : XK) (r : Result) (s' : Shared) : Prop :=
  match r with
  | .ok (.ret u) => CE outer P w H s Q u s'
  | .ok _ => False
  | .error e => CX outer H s E e s'
structure FnOk (P : Program) (w : World) (K : PySem.W.Frag) (mg : Str → Option Value) (base : Heap) (CX : CXT) (k : Nat) (f : Addr) (fd : FuncData) (ps : List Str) (sp : Sp) : Prop where
  len : ∀ vs H Q E, sp vs H Q E → vs.length = ps.length
  run : ∀ (A : Around) (outer : List Env) (s : Shared) (H : Hp) (args : Args) (us : List Value) (vs : List V) (Q : VK) (E : XK), Room k A → Env0 P w K mg base A outer s H → BindsTo s fd args (ps.zip us) → Vals vs us → sp vs H Q E →
    codeAny (model P w) A (.call (.ref f) args) (CR CX outer P w H s Q E) s
theorem FnOk.mono {P : Program} {w : World} {K : PySem.W.Frag} {mg : Str → Option Value} {base : Heap} {CX : CXT} {j k : Nat} {f : Addr} {fd : FuncData} {ps : List Str} {sp : Sp} (F : FnOk P w K mg base CX j f fd ps sp) (h : j ≤ k) :
    FnOk P w K mg base CX k f fd ps sp := ⟨F.len, fun A outer s H args us vs Q E hr => F.run A outer s H args us vs Q E (hr.mono h)⟩
/-- a weaker promise -/
theorem FnOk.imp {P : Program} {w : World} {K : PySem.W.Frag} {mg : Str → Option Value} {base : Heap} {CX : CXT} {k : Nat} {f : Addr} {fd : FuncData} {ps : List Str} {sp sp' : Sp} (F : FnOk P w K mg base CX k f fd ps sp)
    (h : ∀ vs H Q E, sp' vs H Q E → sp vs H Q E) : FnOk P w K mg base CX k f fd ps sp' :=
  ⟨fun vs H Q E q => F.len vs H Q E (h _ _ _ _ q), fun A outer s H args us vs Q E hr he hb hv hs => F.run A outer s H args us vs Q E hr he hb hv (h _ _ _ _ hs)⟩

theorem Env0.in1 {P : Program} {w : World} {K : PySem.W.Frag} {mg : Str → Option Value} {base : Heap} {A : Around} {outer : List Env} {s : Shared} {H : Hp} (e : Env0 P w K mg base A outer s H) :
    Env0 P w K mg base A.in1 outer s H := ⟨e.frames, e.mod, e.bs, e.bsz, e.funs, e.frf, e.hok, e.bare⟩

section
variable {X : Cx} {pins : List (Addr × Obj)} {σ : St} {H : Hp} {s s' : Shared}
/-- from a body: what a callee wants -/
theorem Inv.env0 (I : Inv X pins σ H s) : Env0 X.prog X.w X.K X.mg X.base X.A X.stack s H :=
  ⟨I.ok.frames, I.ok.mod, I.bs, Nat.le_trans I.ok.bsz I.sz, I.stack, I.stkFree, I.hok, I.bare⟩
/-- behind a call -/
theorem Inv.after {Q : VK} {u : Value} (I : Inv X pins σ H s) (h : CE X.stack X.prog X.w H s Q u s') : EP X pins σ Q u s' := by
  obtain ⟨v, H', os, bare, un, hok, r, q⟩ := h
  obtain ⟨hh, g, d, t, os'⟩ := s'
  obtain rfl : os' = s.os := os
  exact ⟨v, H', I.call (h' := hh) (g' := g) (d' := d) (t' := t) (ch := []) un hok bare (fun b z => absurd z (by simp)), r, q⟩
end

/-! ### calls -/
/-- f(..): the written arguments, then the defaults dvs; E: what is wanted of an exception -/
def tCall (sp : Sp) (dvs : List V) (E : XK) (t : TA) : TE := fun σ H Q => t σ H fun vs H1 => sp (vs ++ dvs) H1 Q E
/-- how the parameters are bound: us the positional arguments, kw the keywords' values by name, ds the defaults that fill up -/
def Binds (K : PySem.W.Frag) (fd : FuncData) (ps : List Str) (ds : List Value) : Prop :=
  ∀ (s : Shared) (us : List Value), K.In s.heap → (us ++ ds).length = ps.length → BindsTo s fd ⟨us, []⟩ (ps.zip (us ++ ds))
/-- every parameter is given -/
theorem Binds.all {K : PySem.W.Frag} {fd : FuncData} {ps : List Str} (h : ∀ us : List Value, us.length = ps.length → bindArgs fd ⟨us, []⟩ = pure (ps.zip us)) : Binds K fd ps [] := fun s us _ hl => by
  rw [List.append_nil] at hl ⊢
  exact .of_eq (h us hl)

/-- an exception of a callee reaches what this body wants of exceptions -/
def Passes (CX : CXT) (X : Cx) (E : XK) : Prop := ∀ (pins : List (Addr × Obj)) (σ : St) (H : Hp) (s : Shared) (e : Value) (s' : Shared), Inv X pins σ H s → CX X.stack H s E e s' → X.xe e s'

section
variable {X : Cx} {CX : CXT} {k : Nat} {f C : Addr} {fd : FuncData} {ps : List Str} {sp : Sp} {dvs : List V} {ds : List Value} {E : XK} {x m : Str} {p pos apos : Pos} {e o : Expr} {es : List Expr} {ta : TE} {t : TA}

/-- the callee runs -/
theorem run_fn {pins : List (Addr × Obj)} {σ : St} {H : Hp} {s : Shared} {Q : VK} {us : List Value} {vs : List V} (F : FnOk X.prog X.w X.K X.mg X.base CX k f fd ps sp) (hr : Room k X.A) (hb : Binds X.K fd ps ds) (hd : Vals dvs ds) (hx : Passes CX X E)
    (I : Inv X pins σ H s) (r : Vals vs us) (h : sp (vs ++ dvs) H Q E) : wpAny (model X.prog X.w) X.A (call (.ref f) us) (EP X pins σ Q) X.xe s := by
  have r2 : Vals (vs ++ dvs) (us ++ ds) := r.append hd
  have hl : (us ++ ds).length = ps.length := by rw [← r2.length]; exact F.len _ _ _ _ h
  refine wpAny_call (codeAny_mono (F.run X.A X.stack s H ⟨us, []⟩ (us ++ ds) (vs ++ dvs) Q E hr I.env0 (hb s us I.kIn hl) r2 h) fun r s' hq => ?_)
  cases r with
  | error e => exact hx pins σ H s e s' I hq
  | ok fl =>
    cases fl with
    | ret u => exact I.after hq
    | next => exact False.elim hq
    | brk => exact False.elim hq
    | cont => exact False.elim hq

theorem pe_call (F : FnOk X.prog X.w X.K X.mg X.base CX k f fd ps sp) (hr : Room k X.A) (hg : Gl X x) (hm : X.mg x = some (.ref f)) (hk : PySem.W.keepIn X.K (.ref f) = true) (hb : Binds X.K fd ps ds) (hd : Vals dvs ds) (hx : Passes CX X E)
    (ha : PA X (e :: es) t) (hdb : (x == ("__debug__" : Str)) = false := by decide) (he : starEach (e :: es) X.env = (false, eval e X.env) :: starEach es X.env := by rfl) (hpl : (backTo pos (starEach es X.env)).any (·.1) = false := by rfl) :
    PE X (.Call (.Name x p) (e :: es) [] pos) (tCall sp dvs E t) := by
  intro pins s σ H Q I h
  refine wpAny_Call_Name_kw (ld_glob I hg hm ?_ hdb)
  refine PySem.W.callWith_K (h₀ := X.base) I.ok.mod.kin hk (thn (ha pos pins s σ H _ I h) fun us s1 ⟨vs, H1, I1, r, q⟩ => ⟨I1.kIn, ?_⟩) he hpl
  exact run_fn F hr hb hd hx I1 r q
/-- what a class must have to be made -/
structure Mk (K : PySem.W.Frag) (C f : Addr) : Prop where
  makes : PySem.W.makesIn K C = true
  init : PySem.W.findIn K (.ref C) "__init__" = some (some (.ref f))
  fn : PySem.W.isFn K (.ref f) = true
  kp : PySem.W.keepIn K (.ref C) = true

end

/-! ### keywords -/
section
variable {X : Cx} {CX : CXT} {k : Nat} {f C : Addr} {fd : FuncData} {ps ks : List Str} {sp : Sp} {E : XK} {x m : Str} {p pos apos kpos : Pos} {e o : Expr} {es : List Expr} {kws : List Keyword} {te ta : TE} {t tk : TA} {nm : Option Str}
/-- how a call with keywords binds: g puts the positional values us and the keywords' values ws (names ks) in the parameters' order, defaults among them -/
structure KBinds (K : PySem.W.Frag) (fd : FuncData) (ps ks : List Str) (g : List Value → List Value → List Value) (gV : List V → List V → List V) : Prop where
  to : ∀ (s : Shared) (us ws : List Value), K.In s.heap → (g us ws).length = ps.length → BindsTo s fd ⟨us, ks.zip ws⟩ (ps.zip (g us ws))
  rel : ∀ {vs : List V} {us : List Value} {zs : List V} {ws : List Value}, Vals vs us → Vals zs ws → Vals (gV vs zs) (g us ws)
variable {g : List Value → List Value → List Value} {gV : List V → List V → List V}
end

/-! ### a def's body keeps its promise -/
/-- names: the parameters first -/
structure FnScope (N P : List Str) (sc : Scope) : Prop where
  kind : sc.kind = .function
  co : sc.isCoroutine = false
  gen : sc.isGenerator = false
  nd : N.Nodup
  pre : N.take P.length = P
  par : ∀ x ∈ P, sc.names.lookup x = some .local ∨ sc.names.lookup x = some .cell
  nofree : ∀ y ∈ sc.names, y.2 ≠ .free

theorem bindL_out {kindOf : Str → Option NameKind} {x : Str} : ∀ {binds : List (Str × Value)} {m : Str → Option Value}, (∀ v, (x, v) ∉ binds) → bindL kindOf binds m x = m x
  | [], _, _ => rfl
  | (n, v) :: r, m, h => by
    unfold bindL
    rw [bindL_out fun w hw => h w (List.mem_cons_of_mem _ hw)]
    split
    · have : x ≠ n := by rintro rfl; exact h v List.mem_cons_self
      simp [this]
    · rfl
theorem bindC_out {kindOf : Str → Option NameKind} {x : Str} : ∀ {binds : List (Str × Value)} {m : Str → Option Value}, (∀ v, (x, v) ∉ binds) → bindC kindOf binds m x = m x
  | [], _, _ => rfl
  | (n, v) :: r, m, h => by
    unfold bindC
    rw [bindC_out fun w hw => h w (List.mem_cons_of_mem _ hw)]
    split
    · rfl
    · have : x ≠ n := by rintro rfl; exact h v List.mem_cons_self
      simp [this]
theorem bindL_get {kindOf : Str → Option NameKind} {x : Str} {v : Value} : ∀ {P : List Str} {vs : List Value} {i : Nat} {m : Str → Option Value}, P.Nodup → P[i]? = some x → vs[i]? = some v → kindOf x = some .local →
    bindL kindOf (P.zip vs) m x = some v
  | [], _, _, _, _, h, _, _ => by simp at h
  | _ :: _, [], _, _, _, _, h, _ => by simp at h
  | p :: P, w :: vs, 0, m, nd, h1, h2, hk => by
    simp at h1 h2; subst h1; subst h2
    show bindL kindOf ((p, w) :: P.zip vs) m p = _
    unfold bindL
    rw [bindL_out fun v hv => (List.nodup_cons.mp nd).1 (List.of_mem_zip hv).1, if_pos hk]
    simp
  | p :: P, w :: vs, i + 1, m, nd, h1, h2, hk => by
    show bindL kindOf ((p, w) :: P.zip vs) m x = _
    unfold bindL
    exact bindL_get (i := i) (List.nodup_cons.mp nd).2 (by simpa using h1) (by simpa using h2) hk
theorem bindC_get {kindOf : Str → Option NameKind} {x : Str} {v : Value} : ∀ {P : List Str} {vs : List Value} {i : Nat} {m : Str → Option Value}, P.Nodup → P[i]? = some x → vs[i]? = some v → kindOf x ≠ some .local →
    bindC kindOf (P.zip vs) m x = some v
  | [], _, _, _, _, h, _, _ => by simp at h
  | _ :: _, [], _, _, _, _, h, _ => by simp at h
  | p :: P, w :: vs, 0, m, nd, h1, h2, hk => by
    simp at h1 h2; subst h1; subst h2
    show bindC kindOf ((p, w) :: P.zip vs) m p = _
    unfold bindC
    rw [bindC_out fun v hv => (List.nodup_cons.mp nd).1 (List.of_mem_zip hv).1, if_neg hk]
    simp
  | p :: P, w :: vs, i + 1, m, nd, h1, h2, hk => by
    show bindC kindOf ((p, w) :: P.zip vs) m x = _
    unfold bindC
    exact bindC_get (i := i) (List.nodup_cons.mp nd).2 (by simpa using h1) (by simpa using h2) hk

/-- the names' values at the entry -/
def start (N : List Str) (vs : List V) : St := vs.map some ++ List.replicate (N.length - vs.length) none

/-- the context of a def's body, at its entry; an exception leaves the frame, then lies as CX says -/
def cxOf (CX : CXT) (P : Program) (w : World) (K : PySem.W.Frag) (mg : Str → Option Value) (base : Heap) (N : List Str) (qual : Str) (scope : Scope) (f : Addr) (cd : Value) (A : Around) (outer : List Env) (s : Shared) (H : Hp) (E : XK) : Cx where
  prog := P
  w := w
  K := K
  mg := mg
  base := base
  A := A.deeper (envOfC qual scope s.heap.objs.size f cd)
  N := N
  s₀ := s
  H₀ := H
  env := envOfC qual scope s.heap.objs.size f cd
  outer := outer
  stack := envOfC qual scope s.heap.objs.size f cd :: outer
  ex := []
  calm := true
  fn := fun _ => true
  pn := []
  xe := fun e s' => wpAny (model P w) (A.deeper (envOfC qual scope s.heap.objs.size f cd)) (leaving (envOfC qual scope s.heap.objs.size f cd) e) (fun _ s'' => CX outer H s E e s'') (fun e' s'' => CX outer H s E e' s'') s'

theorem cell_has {sc : Scope} {n : Nat} {x : Str} (h : sc.names.lookup x = some .cell) : ∃ c, (cellsFrom n sc.names []).lookup x = some c := by
  have q := PySem.W.cellsFrom_some sc.names n [] (.inl h)
  exact Option.isSome_iff_exists.mp q

theorem inv_start {CX : CXT} {P : Program} {w : World} {K : PySem.W.Frag} {mg : Str → Option Value} {base : Heap} {N ps : List Str} {qual : Str} {scope : Scope} {f : Addr} {cd : Value} {A : Around} {outer : List Env} {s s1 : Shared} {H : Hp} {E : XK} {us : List Value} {vs : List V}
    (S : FnScope N ps scope) (hd : A.handled = none) (e0 : Env0 P w K mg base A outer s H) (hl : vs.length = ps.length) (r : Vals vs us)
    (x : InCallC s s.heap.objs.size (bindL (envOfC qual scope s.heap.objs.size f cd).kindOf (ps.zip us) fun _ => none) (cellsFrom (s.heap.objs.size + 1) scope.names []) (bindC (envOfC qual scope s.heap.objs.size f cd).kindOf (ps.zip us) fun _ => none) s1) :
    Inv (cxOf CX P w K mg base N qual scope f cd A outer s H E) [] (start N vs) H s1 := by
  have hpl : ps.length ≤ N.length := by have := congrArg List.length S.pre; rw [List.length_take] at this; omega
  obtain ⟨h1, tk, rfl, hk⟩ := x.done
  have noA : ∀ b : Addr, b ∉ (cxOf CX P w K mg base N qual scope f cd A outer s H E).ex := fun b z => absurd (show b ∈ ([] : List Addr) from z) (by simp)
  refine ⟨⟨e0.mod, S.kind, rfl, rfl, Nat.le_refl _, fun y z c h1 h2 => ?_, fun y hy => ?_, fun y c _ h => ?_, fun _ => hd, Around.frames_deeper e0.frames, .inr ⟨rfl, rfl⟩, fun b z => absurd z (noA b), e0.bs, e0.bsz, fun b _ _ => noA b, fun b z => absurd z (noA b), e0.funs, e0.frf⟩,
    rfl, e0.bare, Un.kept hk, ⟨_, x.toInCall.ns, fun i y v h1 h2 h3 => ?_⟩, fun y c h => ⟨_, x.cell y c h⟩, e0.hok.fresh (Nat.le_refl _), fun y c h => ?_, fun p hp => absurd (show p ∈ ([] : List (Addr × Obj)) from hp) (by simp), e0.hok.kept hk, ?_⟩
  · exact name_of_addr x.apart (PySem.mem_of_lookup h1) (PySem.mem_of_lookup h2)
  · have hy : scope.names.lookup y = some .cell ∨ scope.names.lookup y = some .free := hy
    rcases hy with hy | hy
    · exact cell_has hy
    · exact absurd rfl (S.nofree _ (PySem.mem_of_lookup hy))
  · exact Nat.le_of_lt (x.above y c (PySem.mem_of_lookup h))
  · have hi : i < vs.length := by
      unfold start at h2
      by_cases hi : i < vs.length
      · exact hi
      · rw [List.getElem?_append_right (by simpa using hi)] at h2
        rw [List.getElem?_replicate] at h2
        split at h2 <;> cases h2
    have ha : vs[i]? = some v := by
      unfold start at h2
      rw [List.getElem?_append_left (by simpa using hi), List.getElem?_map] at h2
      cases e : vs[i]? with
      | none => rw [e] at h2; cases h2
      | some a => rw [e] at h2; cases h2; rfl
    obtain ⟨u, hu, rv⟩ := r.get ha
    have hp : ps[i]? = some y := by
      rw [← S.pre, List.getElem?_take_of_lt (by omega)]; exact h1
    have ndP : ps.Nodup := by rw [← S.pre]; exact S.nd.sublist (List.take_sublist _ _)
    refine ⟨u, rv, ?_⟩
    rcases S.par y (List.mem_of_getElem? hp) with k | k
    · exact .inl ⟨k, bindL_get ndP hp hu k⟩
    · obtain ⟨c, e⟩ := cell_has (n := s.heap.objs.size + 1) k
      refine .inr ⟨.inl k, c, e, ?_⟩
      have q := x.cell y c e
      rw [bindC_get ndP hp hu (by show scope.names.lookup y ≠ _; rw [k]; decide)] at q
      exact q
  · exact e0.hok.fresh (Nat.le_of_lt (x.above y c (PySem.mem_of_lookup h)))
  · unfold start
    show _ = N.length
    rw [List.length_append, List.length_map, List.length_replicate]
    omega

/-- THE RULE: a def (or a method) of the text, by its body. The body's reading t is chosen for each entry; it is run at the parameters' values -/
theorem fn_of {CX : CXT} {P : Program} {w : World} {K : PySem.W.Frag} {mg : Str → Option Value} {base : Heap} {k : Nat} {f : Addr} {name qual : Str} {params : Arguments} {body : List Stmt} {scope : Scope} {dV kV doc pm cdv ct oc : Value} {an od : Option Addr}
    {osl : Array (Option Value)} {N ps : List Str} {sp : Sp} (lk : K.lookup f = some ⟨oc, od, .func (PySem.W.fnOf name qual params body scope dV kV doc pm an cdv ct), osl⟩) (hcd : PySem.W.codeIn K cdv qual = true) (S : FnScope N ps scope)
    (len : ∀ vs H Q E, sp vs H Q E → vs.length = ps.length)
    (hbody : ∀ (A : Around) (outer : List Env) (s : Shared) (H : Hp) (vs : List V) (Q : VK) (E : XK), Room k (A.deeper (envOfC qual scope s.heap.objs.size f cdv)) → sp vs H Q E →
      ∃ t, PSs (cxOf CX P w K mg base N qual scope f cdv A outer s H E) body t ∧ t { nx := fun _ H' => Q .non H', rt := Q } (start N vs) H) :
    FnOk P w K mg base CX (k + 1) f (PySem.W.fnOf name qual params body scope dV kV doc pm an cdv ct) ps sp := by
  refine ⟨len, fun A outer s H args us vs Q E hr e0 hb r hsp => ?_⟩
  have hl := len _ _ _ _ hsp
  have KX : K.In s.heap := e0.mod.kin.keeps fun b o e => (e0.bs b o e).1
  have lim : s.heap.NoLimit := e0.mod.nolimit.keeps fun b o e => (e0.bs b o e).1
  have hkind : ∀ y ∈ ps.zip us, scope.names.lookup y.1 = some .local ∨ (scope.names.lookup y.1 = some .cell ∧ ((cellsFrom (s.heap.objs.size + 1) scope.names []).lookup y.1).isSome = true) := fun ⟨n, v⟩ hy => by
    rcases S.par n (List.of_mem_zip hy).1 with q | q
    · exact .inl q
    · exact .inr ⟨q, PySem.W.cellsFrom_some _ _ _ (.inl q)⟩
  refine codeAny_call_function hr.depth (KX _ _ lk) rfl S.co S.gen rfl (PySem.W.codeRec_of KX hcd) (hb _ _ _ _ ?_)
  refine wpAny_newFunctionEnv_cells S.kind hkind fun env he s1 x => ?_
  subst he
  refine ⟨lim.keeps x.toInCall.keep, codeAny_func ?_⟩
  obtain ⟨t, ht, hq⟩ := hbody A outer s H vs Q E (hr.deeper _) hsp
  have I : Inv (cxOf CX P w K mg base N qual scope f cdv A outer s H E) [] (start N vs) H s1 := inv_start S hr.hd e0 hl r x
  refine wpAny_mono (ht [] s1 (start N vs) H _ I hq) (fun fl s' hs => ?_) fun e s' hs => hs
  have fin : ∀ {σ' : St} {H' : Hp} {v : V} {u : Value}, Inv (cxOf CX P w K mg base N qual scope f cdv A outer s H E) [] σ' H' s' → RelV v u → Q v H' → CE outer P w H s Q u s' :=
    fun {σ' H' v u} J rv q => ⟨v, H', J.os, J.bare, J.base, J.hok, rv, q⟩
  cases fl with
  | ret u =>
    obtain ⟨v, σ', H', J, rv, q⟩ := hs
    exact fin J rv q
  | next =>
    obtain ⟨σ', H', J, q⟩ := hs
    exact fin (v := V.non) (u := Value.none) J rfl q
  | brk =>
    obtain ⟨_, _, _, q⟩ := hs
    exact False.elim q
  | cont =>
    obtain ⟨_, _, _, q⟩ := hs
    exact False.elim q
end L2

namespace L2
open PySem PySem.Spec PyProof.Rows
section
variable {X : Cx} {x : Str} {p pos : Pos} {e : Expr} {es : List Expr} {t : TA} {id T : String} {r : List V → Hp → VK → Prop}

def tCB (r : List V → Hp → VK → Prop) (t : TA) : TE := fun σ H Q => t σ H fun vs H1 => r vs H1 Q
/-- f(e, ..), f a built-in function -/
theorem pe_callB (hc : CallR X (.builtin id) r) (hg : Gl X x) (hm : X.mg x = none) (hv : bootBuiltins x = some (.builtin id)) (ha : PA X (e :: es) t) (hn : x ≠ "__name__" := by decide) (hdb : (x == ("__debug__" : Str)) = false := by decide)
    (he : starEach (e :: es) X.env = (false, eval e X.env) :: starEach es X.env := by rfl) (hpl : (backTo pos (starEach es X.env)).any (·.1) = false := by rfl) : PE X (.Call (.Name x p) (e :: es) [] pos) (tCB r t) := by
  intro pins s σ H Q I h
  refine wpAny_Call_Name_kw (ld_blt I hg hm hv ?_ hn hdb)
  exact PyProof.Rows.callWith_builtin1 (thn (ha pos pins s σ H _ I h) fun us s1 ⟨vs, H1, I1, r1, q1⟩ => hc pins s1 σ H1 vs us Q I1 r1 q1) he hpl
/-- T(e, ..), T a built-in type -/
theorem pe_callTy (hc : CallR X (.type T) r) (hg : Gl X x) (hm : X.mg x = none) (hv : bootBuiltins x = some (.type T)) (ha : PA X (e :: es) t) (hn : x ≠ "__name__" := by decide) (hdb : (x == ("__debug__" : Str)) = false := by decide)
    (he : starEach (e :: es) X.env = (false, eval e X.env) :: starEach es X.env := by rfl) (hpl : (backTo pos (starEach es X.env)).any (·.1) = false := by rfl) : PE X (.Call (.Name x p) (e :: es) [] pos) (tCB r t) := by
  intro pins s σ H Q I h
  refine wpAny_Call_Name_kw (ld_blt I hg hm hv ?_ hn hdb)
  exact PyProof.Rows.callWith_type1 (thn (ha pos pins s σ H _ I h) fun us s1 ⟨vs, H1, I1, r1, q1⟩ => hc pins s1 σ H1 vs us Q I1 r1 q1) he hpl
end
end L2

namespace HT
open PySem PyProof.Rows

section
open PySem.SeqAt
open PySem.AutoSeq1 (wpAny_loadPart')
open PySem.MeetsSeq PySem.MeetsSeq2 PySem.MeetsSeq3

end

section
variable {prog : Program} {w : World} {A : Around} {E : Value → Shared → Prop} {s : Shared}

/-- t + u, t not empty -/
theorem cat_tup {t b : Addr} {vs ws : List Value} {Q : Value → Shared → Prop} (ht : IsTup s.heap t vs.toArray) (hb : IsTup s.heap b ws.toArray) (hv : vs ≠ [])
    (h1 : ws = [] → Q (.ref t) s) (h2 : ws ≠ [] → Q (.ref s.heap.objs.size) { s with heap := s.heap.push { cls := .type "tuple", data := .seq (vs ++ ws).toArray } })
    (hsz : vs.length + ws.length ≤ sizeLine) : wpAny (model prog w) A (binaryOp .Add (.ref t) (.ref b)) Q E s := by
  obtain ⟨⟨cls, dd, data, sl⟩, ho, hc, n, hd⟩ := id ht
  obtain ⟨⟨cls2, dd2, data2, sl2⟩, ho2, hc2, n2, hd2⟩ := id hb
  simp only at hc hd hc2 hd2
  subst hc hd hc2 hd2
  have e : vs.toArray ++ ws.toArray = (vs ++ ws).toArray := by simp
  by_cases hw : ws = []
  · exact concat_meets ⟨_, ho, rfl⟩ ⟨_, ho2, rfl⟩ noFill_tuple_add seq_tuple_add PySem.F.slot_tuple_add PySem.F.entry_tuple_add (PySem.F.args_tuple_add_2 _ _)
      (tuple_addW1 t b vs.toArray ws.toArray n n2 dd dd2 sl sl2 (by simpa using hv) (by simp [hw])) ⟨ho, ho2, h1 hw⟩
  · refine concat_meets ⟨_, ho, rfl⟩ ⟨_, ho2, rfl⟩ noFill_tuple_add seq_tuple_add PySem.F.slot_tuple_add PySem.F.entry_tuple_add (PySem.F.args_tuple_add_2 _ _)
      (tuple_addW2 t b vs.toArray ws.toArray n n2 dd dd2 sl sl2 (by simpa using hv) (by simpa using hw) (by rw [List.size_toArray, List.size_toArray]; exact hsz)) ⟨ho, ho2, ?_⟩
    rw [e]
    exact h2 hw

/-! ### t[a:b], not the whole -/
/-- a slice's bound as a place among n (d where it is left out) -/
def sIx (n d : Nat) : Option Int → Nat
  | none => d
  | some v => if v < 0 then (v + (n : Int)).toNat else min v.toNat n
theorem sIx_nat (n d k : Nat) : sIx n d (some (k : Int)) = min k n := by
  show (if (k : Int) < 0 then ((k : Int) + (n : Int)).toNat else min (k : Int).toNat n) = min k n
  rw [if_neg (by omega), Int.toNat_natCast]
theorem sIx_le (n d : Nat) (hd : d ≤ n) (o : Option Int) : sIx n d o ≤ n := by
  cases o with
  | none => exact hd
  | some v =>
    show (if v < 0 then (v + (n : Int)).toNat else min v.toNat n) ≤ n
    by_cases hv : v < 0
    · rw [if_pos hv]; omega
    · rw [if_neg hv]; exact Nat.min_le_right _ _
theorem clip_eq (v : Int) (n d : Nat) : (if v < 0 then max (v + (n : Int)) 0 else min v (n : Int)) = ((sIx n d (some v) : Nat) : Int) := by
  show (if v < 0 then max (v + (n : Int)) 0 else min v (n : Int)) = (((if v < 0 then (v + (n : Int)).toNat else min v.toNat n) : Nat) : Int)
  by_cases hv : v < 0
  · simp only [if_pos hv]; omega
  · simp only [if_neg hv]; omega
theorem adjust_gen (lo hi : Option Int) (n : Nat) : Builtin.Slice.sliceAdjust lo hi 1 (n : Int) = (((sIx n 0 lo : Nat) : Int), ((sIx n n hi : Nat) : Int)) := by
  have h1 : ¬ ((1 : Int) < 0) := by omega
  unfold Builtin.Slice.sliceAdjust
  simp only [h1, if_false]
  refine Prod.ext ?_ ?_
  · cases lo with
    | none => rfl
    | some v => exact clip_eq v n 0
  · cases hi with
    | none => rfl
    | some v => exact clip_eq v n n
theorem places_gen (i j : Nat) : Builtin.Slice.slicePlaces (i : Int) (j : Int) 1 = j - i := by
  unfold Builtin.Slice.slicePlaces
  have h1 : (1 : Int) > 0 := by omega
  simp only [h1, if_true, Int.ediv_one]
  split <;> omega
theorem slicePart_ {v : Value} {o : Option Int} {Q : Option Int → Shared → Prop} (p : IsPart v o) (h : Q o s) : wpAny (model prog w) A (Builtin.Slice.slicePartIndex v) Q E s := by
  cases p with
  | none => exact slicePart_none h
  | int i t => exact slicePart_int h
theorem sliceApplied_gen {sl : Addr} {vl vu : Value} {lo hi : Option Int} {n : Nat} {Q : Int × Int × Nat → Shared → Prop} (hs : s.heap.IsSliceOf sl vl vu .none) (pl : IsPart vl lo) (pu : IsPart vu hi)
    (h : Q (((sIx n 0 lo : Nat) : Int), 1, sIx n n hi - sIx n 0 lo) s) : wpAny (model prog w) A (Builtin.Slice.sliceApplied (.ref sl) (pure (n : Int))) Q E s := by
  obtain ⟨os, hos, hcs, hds⟩ := id hs
  unfold Builtin.Slice.sliceApplied Builtin.Slice.sliceFields
  refine wpAny_bind (wpAny_bind (wpAny_field hos hds (x := vl) rfl (wpAny_bind (wpAny_field hos hds (x := vu) rfl (wpAny_bind (wpAny_field hos hds (x := .none) rfl (wpAny_pure ?_)))))))
  refine wpAny_bind (slicePart_none ?_)
  show wpAny _ _ (if ((1 : Int) == 0) = true then _ else _) _ _ s
  rw [if_neg (by decide)]
  refine wpAny_bind (slicePart_ pl (wpAny_bind (slicePart_ pu (wpAny_bind (wpAny_pure ?_)))))
  show wpAny _ _ (match Builtin.Slice.sliceAdjust lo hi 1 (n : Int) with | (lo, hi) => pure (lo, (1 : Int), Builtin.Slice.slicePlaces lo hi 1)) _ _ s
  rw [adjust_gen lo hi n]
  show wpAny _ _ (pure (((sIx n 0 lo : Nat) : Int), (1 : Int), Builtin.Slice.slicePlaces ((sIx n 0 lo : Nat) : Int) ((sIx n n hi : Nat) : Int) 1)) _ _ s
  rw [places_gen]
  exact wpAny_pure h
theorem pick_gen (xs : Array Value) (i k : Nat) : ((List.range k).filterMap fun (m : Nat) => xs[((i : Int) + (m : Int) * 1).toNat]?).toArray = ((xs.toList.drop i).take k).toArray := by
  have e : (fun (m : Nat) => xs[((i : Int) + (m : Int) * 1).toNat]?) = fun m => xs[i + m]? := by
    funext m
    have : ((i : Int) + (m : Int) * 1).toNat = i + m := by omega
    rw [this]
  rw [e]
  have := pick_run xs i k
  rw [List.filterMap_map] at this
  have e2 : ((fun x => xs[x]?) ∘ fun x => i + x) = fun m => xs[i + m]? := rfl
  rw [e2] at this
  rw [this]

theorem getItem_tuple_cut {t sl : Addr} {items : Array Value} {vl vu : Value} {lo hi : Option Int} {Q : Value → Shared → Prop} (ht : IsTup s.heap t items) (hs : s.heap.IsSliceOf sl vl vu .none) (pl : IsPart vl lo) (pu : IsPart vu hi)
    (hw : ¬ (sIx items.size 0 lo = 0 ∧ sIx items.size items.size hi = items.size))
    (h : Q (.ref s.heap.objs.size) { s with heap := s.heap.push { cls := .type "tuple", data := .seq ((items.toList.drop (sIx items.size 0 lo)).take (sIx items.size items.size hi - sIx items.size 0 lo)).toArray } })
    (hsz : items.size ≤ sizeLine) : wpAny (model prog w) A (getItem (.ref t) (.ref sl)) Q E s := by
  have htake : sizeOk (.seq ((items.toList.drop (sIx items.size 0 lo)).take (sIx items.size items.size hi - sIx items.size 0 lo)).toArray) := by
    show ((items.toList.drop (sIx items.size 0 lo)).take (sIx items.size items.size hi - sIx items.size 0 lo)).toArray.size ≤ sizeLine
    rw [List.size_toArray, List.length_take, List.length_drop, Array.length_toList]
    omega
  have hj : sIx items.size items.size hi ≤ items.size := sIx_le _ _ (Nat.le_refl _) hi
  obtain ⟨os, hos, hcs, hds⟩ := id hs
  have hTs : s.TypeIs (.ref sl) "slice" := ⟨os, hos, hcs⟩
  unfold getItem
  try with_reducible refine wpAny_holding ?_
  first | refine wpAny_bind (wpAny_pure ?_) | skip
  refine wpAny_bind (wpAny_sequenceKey ht.typeIs (by decide) ?_)
  refine wpAny_bind (wpAny_callSpecial?_slot (name := Str.ofString "__getitem__") ht.typeIs PyProof.Rows.slot_tuple_getitem
    (wpAny_call_entry PyProof.Rows.slot_tuple_getitem ht.typeIs entry_tuple_getitem ?_ (args_tuple_getitem _ _)))
  show wpAny _ _ (Builtin.Tuple.tupleItemsOf (.ref t) >>= _) _ _ s
  refine wpAny_bind (tupleItemsOf_ ht ?_)
  refine wpAny_bind (wpAny_typeOf hTs ?_)
  rw [if_pos (by decide)]
  refine wpAny_bind (sliceApplied_gen hs pl pu ?_)
  have hno : ¬ ((((sIx items.size 0 lo : Nat) : Int) == 0 && (1 : Int) == 1 && (sIx items.size items.size hi - sIx items.size 0 lo) == items.size) = true) := by
    intro q
    rw [Bool.and_eq_true, Bool.and_eq_true] at q
    have q1 : ((sIx items.size 0 lo : Nat) : Int) = 0 := eq_of_beq q.1.1
    have q2 : sIx items.size items.size hi - sIx items.size 0 lo = items.size := eq_of_beq q.2
    exact hw ⟨by omega, by omega⟩
  show wpAny _ _ (if (((sIx items.size 0 lo : Nat) : Int) == 0 && (1 : Int) == 1 && (sIx items.size items.size hi - sIx items.size 0 lo) == items.size) = true then _ else _) _ _ s
  rw [if_neg hno, pick_gen]
  first
    | exact wpAny_bind (m := Builtin.Tuple.tupleExact _) (wpAny_newObj_type (wpAny_pure ⟨_, rfl, wpAny_pure h⟩) htake)
    | exact wpAny_bind (m := Builtin.Tuple.tupleExact _) (wpAny_newObj_type (wpAny_bind (wpAny_pure (wpAny_pure ⟨_, rfl, wpAny_pure h⟩))) htake)
    | exact wpAny_bind (wpAny_bind (m := Builtin.Tuple.tupleExact _) (wpAny_newObj_type (wpAny_pure (wpAny_pure ⟨_, rfl, wpAny_pure h⟩)) htake))
    | exact wpAny_bind (wpAny_bind (m := Builtin.Tuple.tupleExact _) (wpAny_newObj_type (wpAny_pure ⟨_, rfl, wpAny_pure h⟩) htake))
end
end HT

namespace L2
open PySem PySem.Spec PyProof.Rows

/-! ### the parts of a slice -/
abbrev TO := St → Hp → (Option Int → Hp → Prop) → Prop
/-- a slice's part (left out, or an int) -/
def PO (X : Cx) (e : Option Expr) (t : TO) : Prop :=
  ∀ (pins : List (Addr × Obj)) (s : Shared) (σ : St) (H : Hp) (Q : Option Int → Hp → Prop), Inv X pins σ H s → t σ H Q →
    wpAny (model X.prog X.w) X.A (evalPart e X.env) (fun u s' => ∃ o H', Inv X pins σ H' s' ∧ IsPart u o ∧ Q o H') X.xe s
def tNoPart : TO := fun _ H Q => Q none H
def tPart (t : TE) : TO := fun σ H Q => t σ H fun x H1 => ∃ i, x = .int i ∧ Q (some i) H1

section
variable {X : Cx} {e : Expr} {te : TE} {lo hi : Option Expr} {tl th : TO} {pos p2 : Pos}

theorem po_none : PO X none tNoPart := by
  intro pins s σ H Q I h
  rw [evalPart_none]
  exact wpAny_pure ⟨none, H, I, .none, h⟩
theorem po_some (h : PE X e te) : PO X (some e) (tPart te) := by
  intro pins s σ H Q I hw
  rw [evalPart_some]
  refine thn (h pins s σ H _ I hw) fun u s1 ⟨x, H1, I1, r1, q1⟩ => ?_
  obtain ⟨i, rfl, q⟩ := q1
  obtain ⟨t, rfl⟩ := r1
  exact ⟨some i, H1, I1, .int i t, q⟩

/-- what a slice of a value is, by values: the slice object stands at sl -/
def SlR (X : Cx) (r : V → Option Int → Option Int → Hp → VK → Prop) : Prop :=
  ∀ (pins : List (Addr × Obj)) (s : Shared) (σ : St) (H : Hp) (x : V) (v vl vu : Value) (lo hi : Option Int) (sl : Addr) (Q : VK), Inv X pins σ H s → RelV x v → s.heap.IsSliceOf sl vl vu .none → IsPart vl lo → IsPart vu hi → r x lo hi H Q →
    ∃ T id, typeLookup (.type T) "__getitem__" = pure (some (.builtin id)) ∧ s.TypeIs v T ∧ wpAny (model X.prog X.w) X.A (getItem v (.ref sl)) (EP X pins σ Q) X.xe s
theorem SlR.or {r r' : V → Option Int → Option Int → Hp → VK → Prop} (h : SlR X r) (h' : SlR X r') : SlR X (fun x lo hi H Q => r x lo hi H Q ∨ r' x lo hi H Q) := by
  intro pins s σ H x v vl vu lo hi sl Q I rx hs pl pu q
  rcases q with q | q
  · exact h pins s σ H x v vl vu lo hi sl Q I rx hs pl pu q
  · exact h' pins s σ H x v vl vu lo hi sl Q I rx hs pl pu q
def tSl (r : V → Option Int → Option Int → Hp → VK → Prop) (te : TE) (tl th : TO) : TE := fun σ H Q => te σ H fun x H1 => tl σ H1 fun l H2 => th σ H2 fun u H3 => r x l u H3 Q
/-- a[lo:hi], any a -/
theorem pe_slice {r : V → Option Int → Option Int → Hp → VK → Prop} (hr : SlR X r) (he : PE X e te) (hl : PO X lo tl) (hu : PO X hi th) : PE X (.Subscript e (.Slice lo hi none p2) pos) (tSl r te tl th) := by
  intro pins s σ H Q I h
  refine Subscript_ (thn (he pins s σ H _ I h) fun v s1 ⟨x, H1, I1, r1, q1⟩ => ?_)
  refine wpAny_Slice (thn (hl pins s1 σ H1 _ I1 q1) fun vl s2 ⟨l, H2, I2, pl, q2⟩ => thn (hu pins s2 σ H2 _ I2 q2) fun vu s3 ⟨u, H3, I3, pu, q3⟩ => ?_)
  rw [evalPart_none]
  refine wpAny_pure ?_
  have I4 : Inv X pins σ H3 { s3 with heap := s3.heap.push { cls := .type "slice", data := .fields #[vl, vu, .none] } } := I3.kept (t' := s3.toks) fun b ob q => Heap.get?_push_of_some _ q
  obtain ⟨T, id, hT, ht, hg⟩ := hr pins { s3 with heap := s3.heap.push { cls := .type "slice", data := .fields #[vl, vu, .none] } } σ H3 x v vl vu l u s3.heap.objs.size Q I4 r1 (Heap.IsSliceOf.new ..) pl pu q3
  show wpAny (model X.prog X.w) X.A (subscriptTail e (.Slice lo hi none p2) v (.ref s3.heap.objs.size)) (EP X pins σ Q) X.xe { s3 with heap := s3.heap.push { cls := .type "slice", data := .fields #[vl, vu, .none] } }
  exact tail_any (ops := [.ref s3.heap.objs.size, v]) ht hT hg (by with_unfolding_all rfl)

/-- the items of xs[lo:hi] -/
def cutV (xs : List V) (lo hi : Option Int) : List V := (xs.drop (HT.sIx xs.length 0 lo)).take (HT.sIx xs.length xs.length hi - HT.sIx xs.length 0 lo)
theorem cutV_length (xs : List V) (lo hi : Option Int) : (cutV xs lo hi).length ≤ xs.length := by
  unfold cutV
  rw [List.length_take, List.length_drop]
  omega
/-- t[lo:hi], not the whole of it (the whole would be t itself) -/
def rSlT (K : PySem.W.Frag) : V → Option Int → Option Int → Hp → VK → Prop := fun x lo hi H Q => ∃ a xs, x = .ref a ∧ SqT K H a xs ∧
  ¬ (HT.sIx xs.length 0 lo = 0 ∧ HT.sIx xs.length xs.length hi = xs.length) ∧ ∀ p, H p = none → Q (.ref p) (upd H p (.tup (cutV xs lo hi)))
theorem sl_tup : SlR X (rSlT X.K) := by
  intro pins s σ H x v vl vu lo hi sl Q I rx hs pl pu h
  obtain ⟨a, xs, rfl, hx, hw, q⟩ := h
  cases rx
  obtain ⟨its, r, ht, hz⟩ := I.tuple hx
  have hlen : its.toArray.size = xs.length := by rw [List.size_toArray]; exact r.length.symm
  refine ⟨"tuple", _, PyProof.Rows.slot_tuple_getitem.lookup, ht.typeIs, ?_⟩
  refine HT.getItem_tuple_cut ht hs pl pu (by rw [hlen]; exact hw) ?_ (by rw [hlen]; exact hz)
  rw [hlen]
  refine ⟨.ref s.heap.objs.size, _, I.laid (t' := s.toks) (o := .tup (cutV xs lo hi)) (fun b ob q => Heap.get?_push_of_some _ q) (Nat.le_refl _) ?_, rfl, q _ (I.hok.fresh (Nat.le_refl _))⟩
  exact ⟨Nat.le_trans (cutV_length xs lo hi) hz, _, (r.drop (HT.sIx xs.length 0 lo)).take (HT.sIx xs.length xs.length hi - HT.sIx xs.length 0 lo), IsTup.new _ _⟩

/-! ### t < u, t + u -/
/-- t + u, t not empty: u empty gives t itself -/
def rCatT (K : PySem.W.Frag) : R2 := fun x y H Q => ∃ a b xs ys, x = .ref a ∧ y = .ref b ∧ SqT K H a xs ∧ SqT K H b ys ∧ xs ≠ [] ∧ xs.length + ys.length ≤ sizeLine ∧
  (ys = [] → Q (.ref a) H) ∧ (ys ≠ [] → ∀ p, H p = none → Q (.ref p) (upd H p (.tup (xs ++ ys))))
theorem Vals.nil_iff {xs : List V} {us : List Value} (r : Vals xs us) : us = [] ↔ xs = [] := by
  cases r with
  | nil => simp
  | cons _ _ => simp
theorem op_catT : OpR X (binaryOp .Add) (rCatT X.K) := by
  intro pins s σ H x y v u Q I rx ry h
  obtain ⟨a, b, xs, ys, rfl, rfl, ha, hb, hx, hz, q1, q2⟩ := h
  cases rx
  cases ry
  obtain ⟨its, r1, p1, _⟩ := I.tuple ha
  obtain ⟨its2, r2, p2, _⟩ := I.tuple hb
  refine HT.cat_tup p1 p2 (fun z => hx (r1.nil_iff.mp z)) (fun z => ⟨.ref a, H, I, rfl, q1 (r2.nil_iff.mp z)⟩) (fun z => ?_) (by rw [← r1.length, ← r2.length]; exact hz)
  refine ⟨.ref s.heap.objs.size, _, I.laid (t' := s.toks) (o := .tup (xs ++ ys)) (fun b ob q => Heap.get?_push_of_some _ q) (Nat.le_refl _) ?_, rfl, q2 (fun w => z (r2.nil_iff.mpr w)) _ (I.hok.fresh (Nat.le_refl _))⟩
  exact ⟨by rw [List.length_append]; exact hz, _, r1.append r2, IsTup.new _ _⟩
end
end L2

namespace L2
open PySem PySem.Spec PyProof.Rows

/-! ### places -/
/-- the place that an index of any sign means -/
def ixN (n : Nat) (i : Int) : Option Nat := if 0 ≤ i then (if i < n then some i.toNat else none) else if -(n : Int) ≤ i then some (i + n).toNat else none
def atI {α : Type} (xs : List α) (i : Int) : Option α := (ixN xs.length i).bind fun j => xs[j]?
theorem ixN_seq {n : Nat} {i : Int} {j : Nat} (h : ixN n i = some j) : seqIndex? i n = some j ∧ j < n ∧ -(n : Int) ≤ i ∧ i < n := by
  unfold ixN at h
  by_cases h0 : 0 ≤ i
  · rw [if_pos h0] at h
    by_cases h1 : i < n
    · rw [if_pos h1] at h
      have e : i.toNat = j := Option.some.inj h
      exact ⟨by rw [seqIndex_of h0 h1, e], by omega, by omega, h1⟩
    · rw [if_neg h1] at h; cases h
  · rw [if_neg h0] at h
    by_cases h1 : -(n : Int) ≤ i
    · rw [if_pos h1] at h
      have e : (i + n).toNat = j := Option.some.inj h
      exact ⟨by rw [seqIndex_neg (by omega) h1, e], by omega, h1, by omega⟩
    · rw [if_neg h1] at h; cases h
theorem atI_get {α : Type} {xs : List α} {i : Int} {v : α} (h : atI xs i = some v) : ∃ j, seqIndex? i xs.length = some j ∧ xs[j]? = some v ∧ j < xs.length ∧ -(xs.length : Int) ≤ i ∧ i < xs.length := by
  unfold atI at h
  cases e : ixN xs.length i with
  | none => rw [e] at h; cases h
  | some j =>
    rw [e] at h
    obtain ⟨h1, h2, h3, h4⟩ := ixN_seq e
    exact ⟨j, h1, h, h2, h3, h4⟩
theorem atI_nat {α : Type} {xs : List α} {j : Nat} {v : α} (h : xs[j]? = some v) : atI xs (j : Int) = some v := by
  have hj : j < xs.length := (List.getElem?_eq_some_iff.mp h).1
  have e : ixN xs.length (j : Int) = some j := by
    unfold ixN
    rw [if_pos (by omega), if_pos (by omega)]; simp
  unfold atI; rw [e]; exact h
/-! ### what may be subscripted -/
/-- what stands as an index of a plain subscript -/
def PlainIx (b : Expr) : Prop := ∀ o i, subscripted b false o i = operate [o, i] (getItem o i)
/-- a subscript by values -/
def IxR (X : Cx) (r : R2) : Prop :=
  ∀ (value slice : Expr) (pins : List (Addr × Obj)) (s : Shared) (σ : St) (H : Hp) (x y : V) (v u : Value) (Q : VK), Inv X pins σ H s → RelV x v → RelV y u → r x y H Q →
    subscripted slice false v u = operate [v, u] (getItem v u) → wpAny (model X.prog X.w) X.A (subscriptTail value slice v u) (EP X pins σ Q) X.xe s
/-- a call of a builtin's method by values: the receiver, the arguments -/
def MtR (X : Cx) (id : String) (r : V → List V → Hp → VK → Prop) : Prop :=
  ∀ (pins : List (Addr × Obj)) (s : Shared) (σ : St) (H : Hp) (x : V) (xs : List V) (v : Value) (us : List Value) (Q : VK), Inv X pins σ H s → RelV x v → Vals xs us → r x xs H Q →
    wpAny (model X.prog X.w) X.A (call (.builtin id) (v :: us)) (EP X pins σ Q) X.xe s
section
variable {X : Cx} {a b : Expr} {ta tb : TE} {pos : Pos}
theorem IxR.or {r r' : R2} (h : IxR X r) (h' : IxR X r') : IxR X (fun x y H Q => r x y H Q ∨ r' x y H Q) := by
  intro value slice pins s σ H x y v u Q I rx ry q hs
  rcases q with q | q
  · exact h value slice pins s σ H x y v u Q I rx ry q hs
  · exact h' value slice pins s σ H x y v u Q I rx ry q hs
theorem MtR.or {id : String} {r r' : V → List V → Hp → VK → Prop} (h : MtR X id r) (h' : MtR X id r') : MtR X id (fun x xs H Q => r x xs H Q ∨ r' x xs H Q) := by
  intro pins s σ H x xs v us Q I rx rs q
  rcases q with q | q
  · exact h pins s σ H x xs v us Q I rx rs q
  · exact h' pins s σ H x xs v us Q I rx rs q
/-- a[b] -/
theorem pe_ix {r : R2} (hr : IxR X r) (ha : PE X a ta) (hb : PE X b tb) (hs : PlainIx b) : PE X (.Subscript a b pos) (tOp r ta tb) := by
  intro pins s σ H Q I h
  exact Subscript_ (binT ha hb I h fun v u s2 x y H2 I2 rx ry q => hr a b pins s2 σ H2 x y v u Q I2 rx ry q (hs _ _))

def rIxL (K : PySem.W.Frag) : R2 := fun x y H Q => ∃ p xs i v, x = .ref p ∧ y = .int i ∧ SqL K H p xs ∧ atI xs i = some v ∧ Q v H
def rIxT (K : PySem.W.Frag) : R2 := fun x y H Q => ∃ p xs i v, x = .ref p ∧ y = .int i ∧ SqT K H p xs ∧ atI xs i = some v ∧ Q v H
def rIxS : R2 := fun x y H Q => ∃ z i c, x = .str z ∧ y = .int i ∧ z.length ≤ sizeLine ∧ atI z.cps.toList i = some c ∧ Q (.str ⟨#[c]⟩) H
theorem ix_list : IxR X (rIxL X.K) := by
  intro value slice pins s σ H x y v u Q I rx ry h hs
  obtain ⟨p, xs, i, z, rfl, rfl, hq, he, q⟩ := h
  cases rx
  obtain ⟨t, rfl⟩ := ry
  obtain ⟨its, r, pl, hz⟩ := I.list hq
  obtain ⟨j, h1, h2, h3, h4, h5⟩ := atI_get he
  obtain ⟨w, ew, rw'⟩ := r.get h2
  have hl := r.length
  have hn := line63
  have fin : EP X pins σ Q w s := ⟨z, H, I, rw', q⟩
  by_cases h0 : 0 ≤ i
  · have hj : i.toNat = j := by
      rw [seqIndex_of h0 h5] at h1
      exact Option.some.inj h1
    exact item_listR pl.isList h0 (by omega) (by rw [hj]; simpa using ew) fin hs
  · have hj : (i + (its.toArray.size : Int)).toNat = j := by
      rw [seqIndex_neg (by omega) h4] at h1
      rw [List.size_toArray, ← hl]
      exact Option.some.inj h1
    exact subscriptTail_builtinR (x := w) pl.isList.typeIs slot_list_getitem.lookup
      (wpAny_getItem_list_neg (Q := fun r s' => r = w ∧ EP X pins σ Q r s') pl.isList (by omega) (by rw [List.size_toArray] <;> omega) (by omega) (by rw [hj]; simpa using ew) ⟨rfl, fin⟩) hs
theorem ix_tup : IxR X (rIxT X.K) := by
  intro value slice pins s σ H x y v u Q I rx ry h hs
  obtain ⟨p, xs, i, z, rfl, rfl, hq, he, q⟩ := h
  cases rx
  obtain ⟨t, rfl⟩ := ry
  obtain ⟨its, r, pl, hz⟩ := I.tuple hq
  obtain ⟨j, h1, h2, h3, h4, h5⟩ := atI_get he
  obtain ⟨w, ew, rw'⟩ := r.get h2
  have hl := r.length
  have hn := line63
  have fin : EP X pins σ Q w s := ⟨z, H, I, rw', q⟩
  exact subscriptTail_builtinR (x := w) pl.typeIs slot_tuple_getitem.lookup
    (getItem_tuple (j := j) (Q := fun r s' => r = w ∧ EP X pins σ Q r s') pl (by omega) (by omega) (by rw [List.size_toArray, ← hl]; exact h1) (by simpa using ew) ⟨rfl, fin⟩) hs
theorem ix_str : IxR X rIxS := by
  intro value slice pins s σ H x y v u Q I rx ry h hs
  obtain ⟨z, i, c, rfl, rfl, hz, he, q⟩ := h
  obtain ⟨t, rfl⟩ := rx
  obtain ⟨t', rfl⟩ := ry
  obtain ⟨j, h1, h2, h3, h4, h5⟩ := atI_get he
  have hl : z.cps.toList.length = z.length := by simp [Str.length]
  rw [hl] at h1 h4 h5
  have hn := line63
  exact tail_any (typeIs_str s z t) slot_str_getitem.lookup (getItem_str (c := c) (by
    have e1 : decide (i < -(2 ^ 63 : Int)) = false := decide_eq_false (by omega)
    have e2 : decide (i ≥ 2 ^ 63) = false := decide_eq_false (by omega)
    rw [e1, e2, Bool.or_false]) (by rw [h1]; simpa using h2) ⟨.str ⟨#[c]⟩, H, I.tok _, ⟨_, rfl⟩, q⟩) hs
/-! ### xs[i] = v, any sign -/
/-- the list's object behind a store -/
theorem mapSeq_set (its : List Value) (n j : Nat) (u : Value) : Obj.mapSeq (·.setIfInBounds j u) { cls := .type "list", data := .seq its.toArray n } = { cls := .type "list", data := .seq (its.set j u).toArray n } := by
  simp [Obj.mapSeq]
theorem Inv.lst {pins : List (Addr × Obj)} {σ : St} {H : Hp} {s : Shared} {p : Addr} {xs : List V} (I : Inv X pins σ H s) (h : H p = some (.lst xs)) :
    ∃ (its : List Value) (n : Nat), Vals xs its ∧ s.heap.get? p = some { cls := .type "list", data := .seq its.toArray n } ∧ xs.length ≤ sizeLine := by
  obtain ⟨z, its, n, r, e⟩ := I.hok p _ h
  exact ⟨its, n, r, e, z⟩
/-- the list at p is written by an update of its object -/
theorem Inv.lstUpd {pins : List (Addr × Obj)} {σ : St} {H : Hp} {s : Shared} {p : Addr} {xs ys : List V} {its its' : List Value} {n n' : Nat} {f : Obj → Obj} (I : Inv X pins σ H s) (h : H p = some (.lst xs))
    (ho : s.heap.get? p = some { cls := .type "list", data := .seq its.toArray n }) (hf : f { cls := .type "list", data := .seq its.toArray n } = { cls := .type "list", data := .seq its'.toArray n' }) (r : Vals ys its') (hz : ys.length ≤ sizeLine) (t : Nat) :
    Inv X pins σ (upd H p (.lst ys)) { s with heap := s.heap.update p f, toks := t } := by
  have e : (s.heap.update p f).get? p = some { cls := .type "list", data := .seq its'.toArray n' } := by
    rw [Heap.get?_update_self f ho (by rw [hf] <;> rfl), hf]
  refine I.write (x := p) (e := p) (by rw [h]; trivial) (.inl rfl) (fun b u hb q => (Heap.get?_update_other _ _ (Ne.symm hb)).trans q) ⟨_, e⟩ ?_
  exact ⟨hz, its', n', r, e⟩
def rSetL : V → V → V → Hp → (Hp → Prop) → Prop := fun o i v H Q => ∃ p xs k j, o = .ref p ∧ i = .int k ∧ H p = some (.lst xs) ∧ ixN xs.length k = some j ∧ Q (upd H p (.lst (xs.set j v)))
theorem set_list : PSet X rSetL := by
  intro pins s σ H o i v ov iv u Q I ro ri rv h
  obtain ⟨p, xs, k, j, rfl, rfl, hp, hj, q⟩ := h
  cases ro
  obtain ⟨t, rfl⟩ := ri
  obtain ⟨its, n, r, ho, hz⟩ := I.lst hp
  obtain ⟨h1, h2, h3, h4⟩ := ixN_seq hj
  have hl := r.length
  have hn := line63
  have I' : Inv X pins σ (upd H p (.lst (xs.set j v))) { s with heap := s.heap.update p (Obj.mapSeq (·.setIfInBounds j u)) } :=
    I.lstUpd hp ho (mapSeq_set its n j u) (r.set rv j) (by rw [List.length_set]; exact hz) s.toks
  by_cases h0 : 0 ≤ k
  · have hk : k.toNat = j := by
      rw [seqIndex_of h0 h4] at h1
      exact Option.some.inj h1
    exact PySem.W.ki_setAt ho h0 (by omega) (by rw [List.size_toArray, ← hl]; exact h4) (by rw [hk]; exact ⟨_, I', q⟩)
  · have hk : (k + (its.toArray.size : Int)).toNat = j := by
      rw [seqIndex_neg (by omega) h3] at h1
      rw [List.size_toArray, ← hl]
      exact Option.some.inj h1
    exact PySem.W.ki_setBack ho (by omega) (by rw [List.size_toArray, ← hl]; exact h3) (by omega) (by rw [hk]; exact ⟨_, I', q⟩)

/-! ### slices -/
theorem slice_bounds (lo hi : Option Int) (n : Nat) : (sliceBounds lo hi none n).1 = ((HT.sIx n 0 lo : Nat) : Int) ∧ (sliceBounds lo hi none n).2.1 = ((HT.sIx n n hi : Nat) : Int) ∧ (sliceBounds lo hi none n).2.2 = 1 := by
  refine ⟨?_, ?_, rfl⟩
  · cases lo with
    | none => simp [sliceBounds, HT.sIx]
    | some i =>
      simp only [sliceBounds, HT.sIx, Option.getD_none, show (1 : Int) > 0 by decide, if_true]
      by_cases h : i < 0
      · simp only [h, if_true] <;> omega
      · simp only [h, if_false] <;> omega
  · cases hi with
    | none => simp [sliceBounds, HT.sIx]
    | some i =>
      simp only [sliceBounds, HT.sIx, Option.getD_none, show (1 : Int) > 0 by decide, if_true]
      by_cases h : i < 0
      · simp only [h, if_true] <;> omega
      · simp only [h, if_false] <;> omega
theorem slicePick_cut (its : List Value) (lo hi : Option Int) : slicePick its.toArray lo hi none = ((its.drop (HT.sIx its.length 0 lo)).take (HT.sIx its.length its.length hi - HT.sIx its.length 0 lo)).toArray := by
  obtain ⟨h1, h2, h3⟩ := slice_bounds lo hi its.toArray.size
  unfold slicePick
  rw [h1, h2, h3]
  simp only [sliceRange_one, pick_run, List.size_toArray] <;> rfl
/-- xs[lo:hi] of a list: a new list -/
def rSlL (K : PySem.W.Frag) : V → Option Int → Option Int → Hp → VK → Prop := fun x lo hi H Q => ∃ a xs, x = .ref a ∧ SqL K H a xs ∧ ∀ p, H p = none → Q (.ref p) (upd H p (.lst (cutV xs lo hi)))
theorem sl_list : SlR X (rSlL X.K) := by
  intro pins s σ H x v vl vu lo hi sl Q I rx hs pl pu h
  obtain ⟨a, xs, rfl, hx, q⟩ := h
  cases rx
  obtain ⟨its, r, ht, hz⟩ := I.list hx
  have hlen := r.length
  refine ⟨"list", _, slot_list_getitem.lookup, ht.isList.typeIs, ?_⟩
  refine wpAny_getItem_list_slice ht.isList hs pl pu .none (by simp) ?_ (by rw [List.size_toArray] <;> omega)
  rw [slicePick_cut, ← hlen]
  refine ⟨.ref s.heap.objs.size, _, I.laid (t' := s.toks) (o := .lst (cutV xs lo hi)) (fun b ob q => Heap.get?_push_of_some _ q) (Nat.le_refl _) ?_, rfl, q _ (I.hok.fresh (Nat.le_refl _))⟩
  exact ⟨Nat.le_trans (cutV_length xs lo hi) hz, _, 0, (r.drop (HT.sIx xs.length 0 lo)).take (HT.sIx xs.length xs.length hi - HT.sIx xs.length 0 lo), Heap.get?_push_size _ rfl⟩

/-! ### in, not in: flat items -/
def flatV : V → Bool
  | .non => true
  | .bl _ => true
  | .int _ => true
  | .str _ => true
  | _ => false
/-- == of flat values -/
def eqV : V → V → Bool
  | .non, .non => true
  | .bl a, .bl b => a == b
  | .bl a, .int b => (if a then 1 else 0) == b
  | .int a, .bl b => a == (if b then 1 else 0)
  | .int a, .int b => a == b
  | .str a, .str b => a == b
  | _, _ => false
theorem eqAt_V {A : Around} {s : Shared} {y x : V} {u v : Value} (ry : RelV y u) (rx : RelV x v) (fy : flatV y = true) (fx : flatV x = true) : SeqAt.EqAt A s u v (eqV y x) := by
  cases y with
  | non =>
    cases ry
    cases x with
    | non => cases rx; exact SeqAt.EqAt.same _
    | bl b => cases rx; exact SeqAt.EqAt.none_bool b
    | int b => obtain ⟨t, rfl⟩ := rx; exact SeqAt.EqAt.none_int b t
    | str b => obtain ⟨t, rfl⟩ := rx; exact SeqAt.EqAt.none_str b t
    | _ => exact absurd (show false = true from fx) Bool.false_ne_true
  | bl a =>
    cases ry
    cases x with
    | non => cases rx; exact SeqAt.EqAt.bool_none a
    | bl b => cases rx; exact SeqAt.EqAt.bool_bool a b
    | int b => obtain ⟨t, rfl⟩ := rx; exact SeqAt.EqAt.bool_int a b t
    | str b => obtain ⟨t, rfl⟩ := rx; exact SeqAt.EqAt.bool_str a b t
    | _ => exact absurd (show false = true from fx) Bool.false_ne_true
  | int a =>
    obtain ⟨t', rfl⟩ := ry
    cases x with
    | non => cases rx; exact SeqAt.EqAt.int_none a t'
    | bl b => cases rx; exact SeqAt.EqAt.int_bool a t' b
    | int b => obtain ⟨t, rfl⟩ := rx; exact SeqAt.EqAt.int_int a t' b t
    | str b => obtain ⟨t, rfl⟩ := rx; exact SeqAt.EqAt.int_str a t' b t
    | _ => exact absurd (show false = true from fx) Bool.false_ne_true
  | str a =>
    obtain ⟨t', rfl⟩ := ry
    cases x with
    | non => cases rx; exact SeqAt.EqAt.str_none a t'
    | bl b => cases rx; exact SeqAt.EqAt.str_bool a t' b
    | int b => obtain ⟨t, rfl⟩ := rx; exact SeqAt.EqAt.str_int a t' b t
    | str b => obtain ⟨t, rfl⟩ := rx; exact SeqAt.EqAt.str_str a t' b t
    | _ => exact absurd (show false = true from fx) Bool.false_ne_true
  | _ => exact absurd (show false = true from fy) Bool.false_ne_true
/-- the items' answers, read off the values (a value's own answer does not lean on its token) -/
def eqU (x : V) (u : Value) : Bool := match u with
  | .none => eqV .non x
  | .bool b => eqV (.bl b) x
  | .int i _ => eqV (.int i) x
  | .str z _ => eqV (.str z) x
  | _ => false
theorem eqU_of {x y : V} {u : Value} (r : RelV y u) (f : flatV y = true) : eqU x u = eqV y x := by
  cases y with
  | non => cases r; rfl
  | bl b => cases r; rfl
  | int i => obtain ⟨t, rfl⟩ := r; rfl
  | str z => obtain ⟨t, rfl⟩ := r; rfl
  | _ => exact absurd (show false = true from f) Bool.false_ne_true
theorem mem_eqAt {A : Around} {s : Shared} {x : V} {v : Value} (rx : RelV x v) (fx : flatV x = true) : ∀ {xs : List V} {us : List Value}, Vals xs us → xs.all flatV = true → ∀ u ∈ us, SeqAt.EqAt A s u v (eqU x u)
  | _, _, .nil, _ => fun u hu => by cases hu
  | y :: xs, u :: us, .cons r t, f => fun u' hu => by
    rw [List.all_cons, Bool.and_eq_true] at f
    rcases List.mem_cons.mp hu with rfl | hu
    · rw [eqU_of r f.1]; exact eqAt_V r rx f.1 fx
    · exact mem_eqAt rx fx t f.2 u' hu
theorem op_notIn_str : OpR X (compareOp .NotIn) (fun x y H Q => ∃ i j, x = .str i ∧ y = .str j ∧ Q (.bl (!(!(Builtin.Str.occurrences j i 0 j.length 1).isEmpty))) H) := by
  intro pins s σ H x y v u Q I rx ry h
  obtain ⟨i, j, rfl, rfl, q⟩ := h
  obtain ⟨t, rfl⟩ := rx
  obtain ⟨t', rfl⟩ := ry
  exact notIn_str ⟨.bl _, H, I, rfl, q⟩

/-! ### len, list(x), tuple(x) of any list or tuple that is read -/
theorem call_len_seq : CallR X (.builtin "len") (fun xs H Q => ∃ p ys, xs = [.ref p] ∧ (SqL X.K H p ys ∨ SqT X.K H p ys) ∧ Q (.int ys.length) H) := by
  intro pins s σ H xs us Q I r h
  obtain ⟨p, ys, rfl, hq, q⟩ := h
  obtain ⟨u, rfl, rx⟩ := vals1 r
  cases rx
  have hn := line63
  rcases hq with hq | hq
  · obtain ⟨its, r', pl, hz⟩ := I.list hq
    have hlen := r'.length
    exact Calls.call_len_list pl.isList (by simp only [List.size_toArray] <;> omega) ⟨.int ys.length, H, I.tok _, ⟨s.toks + 1, by rw [List.size_toArray, hlen]⟩, q⟩
  · obtain ⟨its, r', pl, hz⟩ := I.tuple hq
    have hlen := r'.length
    exact len_tuple pl (by simp only [List.size_toArray] <;> omega) ⟨.int ys.length, H, I.tok _, ⟨s.toks + 1, by rw [List.size_toArray, hlen]⟩, q⟩
theorem call_len_str : CallR X (.builtin "len") (fun xs H Q => ∃ z, xs = [.str z] ∧ z.length ≤ sizeLine ∧ Q (.int z.length) H) := by
  intro pins s σ H xs us Q I r h
  obtain ⟨z, rfl, hz, q⟩ := h
  obtain ⟨u, rfl, t, rfl⟩ := vals1 r
  have hn := line63
  exact len_str (by omega) ⟨.int z.length, H, I.tok _, ⟨_, rfl⟩, q⟩
theorem CallR.or {f : Value} {r r' : List V → Hp → VK → Prop} (h : CallR X f r) (h' : CallR X f r') : CallR X f (fun xs H Q => r xs H Q ∨ r' xs H Q) := by
  intro pins s σ H xs us Q I rs q
  rcases q with q | q
  · exact h pins s σ H xs us Q I rs q
  · exact h' pins s σ H xs us Q I rs q
theorem call_list_of : CallR X (.type "list") (fun xs H Q => ∃ p ys, xs = [.ref p] ∧ (SqL X.K H p ys ∨ SqT X.K H p ys) ∧ ∀ l, H l = none → Q (.ref l) (upd H l (.lst ys))) := by
  intro pins s σ H xs us Q I r h
  obtain ⟨p, ys, rfl, hq, q⟩ := h
  obtain ⟨u, rfl, rx⟩ := vals1 r
  cases rx
  have fin : ∀ (its : List Value), Vals ys its → ys.length ≤ sizeLine → ∀ (h' : Heap) (c' : Nat), (∀ b o', s.heap.get? b = some o' → h'.get? b = some o') →
      h'.get? s.heap.objs.size = some { cls := .type "list", dict := none, data := .seq its.toArray c', slots := #[] } → EP X pins σ Q (.ref s.heap.objs.size) { s with heap := h' } := fun its r' hz h' c' kp e =>
    ⟨.ref s.heap.objs.size, _, I.laid (t' := s.toks) kp (Nat.le_refl _) (show ObjOk X.prog X.w _ h' _ (.lst ys) from ⟨hz, its, c', r', e⟩), rfl, q _ (I.hok.fresh (Nat.le_refl _))⟩
  rcases hq with hq | hq
  · obtain ⟨its, r', pl, hz⟩ := I.list hq
    have hlen := r'.length
    obtain ⟨o, ho, hc, n, hd⟩ := pl.isList
    exact call_list_seq p (.inl rfl) ho hc hd (fun h' c' kp e => fin its r' hz h' c' kp e) (by simp only [List.size_toArray] <;> omega)
  · obtain ⟨its, r', pl, hz⟩ := I.tuple hq
    have hlen := r'.length
    obtain ⟨o, ho, hc, n, hd⟩ := pl
    exact call_list_seq p (.inr rfl) ho hc hd (fun h' c' kp e => fin its r' hz h' c' kp e) (by simp only [List.size_toArray] <;> omega)
theorem call_tuple_of : CallR X (.type "tuple") (fun xs H Q => ∃ p ys, xs = [.ref p] ∧ ((SqL X.K H p ys ∧ ∀ l, H l = none → Q (.ref l) (upd H l (.tup ys))) ∨ (SqT X.K H p ys ∧ Q (.ref p) H))) := by
  intro pins s σ H xs us Q I r h
  obtain ⟨p, ys, rfl, h⟩ := h
  obtain ⟨u, rfl, rx⟩ := vals1 r
  cases rx
  rcases h with ⟨hq, q⟩ | ⟨hq, q⟩
  · obtain ⟨its, r', pl, hz⟩ := I.list hq
    have hlen := r'.length
    refine call_tuple_list pl.isList (fun h' kp => ?_) (by simp only [List.size_toArray] <;> omega)
    have I1 : Inv X pins σ H { s with heap := h' } := I.kept (t' := s.toks) kp
    have I2 : Inv X pins σ (upd H h'.objs.size (.tup ys)) { s with heap := h'.push { cls := .type "tuple", data := .seq its.toArray } } :=
      I1.laid (t' := s.toks) (fun b o e => Heap.get?_push_of_some _ e) (Nat.le_refl _) (show ObjOk X.prog X.w _ _ _ (.tup ys) from ⟨hz, its, r', IsTup.new _ _⟩)
    exact ⟨.ref h'.objs.size, _, I2, rfl, q _ (I1.hok.fresh (Nat.le_refl _))⟩
  · obtain ⟨its, r', pl, hz⟩ := I.tuple hq
    exact call_tuple_same pl ⟨.ref p, H, I, rfl, q⟩

/-! ### the call of a builtin's method: o.m(..) -/
/-- the value is of that builtin type -/
def tyV (K : PySem.W.Frag) (T : String) (x : V) (H : Hp) : Prop := match x with
  | .str _ => T = "str"
  | .int _ => T = "int"
  | .ref p => (T = "list" ∧ ∃ xs, SqL K H p xs) ∨ (T = "tuple" ∧ ∃ o, K.lookup p = some o ∧ o.cls = .type "tuple" ∧ o.dict = none) ∨
      (T = "dict" ∧ ((∃ kvs, H p = some (.dK kvs)) ∨ ∃ kvs, H p = some (.dT kvs))) ∨ (T = "set" ∧ ∃ S n, H p = some (.set S n))
  | _ => False
theorem tyV_is {pins : List (Addr × Obj)} {σ : St} {H : Hp} {s : Shared} {T : String} {x : V} {v : Value} (I : Inv X pins σ H s) (r : RelV x v) (ty : tyV X.K T x H) :
    s.TypeIs v T ∧ ∀ a, v = .ref a → ∃ ob, s.heap.get? a = some ob ∧ ob.dict = none := by
  cases x with
  | str z =>
    obtain ⟨t, rfl⟩ := r
    cases (show T = "str" from ty)
    exact ⟨typeIs_str s z t, fun _ e => nomatch e⟩
  | int i =>
    obtain ⟨t, rfl⟩ := r
    cases (show T = "int" from ty)
    exact ⟨typeIs_int s i t, fun _ e => nomatch e⟩
  | ref p =>
    cases r
    rcases ty with ⟨rfl, xs, hq⟩ | ⟨rfl, o, hk, hc, hd⟩ | ⟨rfl, hk⟩ | ⟨rfl, S, n, hk⟩
    · obtain ⟨its, _, pl, _⟩ := I.list hq
      refine ⟨pl.isList.typeIs, fun a e => ?_⟩
      cases e
      obtain ⟨o, n, e, c, hd, _⟩ := pl
      exact ⟨o, e, hd⟩
    · refine ⟨⟨o, I.kIn p o hk, hc⟩, fun a e => ?_⟩
      cases e
      exact ⟨o, I.kIn _ o hk, hd⟩
    · have z : ∃ o, s.heap.get? p = some o ∧ o.ExactDict := by
        rcases hk with ⟨kvs, hk⟩ | ⟨kvs, hk⟩
        · obtain ⟨_, _, _, _, o, _, _, e, ex, _⟩ := I.hok p _ hk
          exact ⟨o, e, ex⟩
        · obtain ⟨_, _, _, _, o, _, _, e, ex, _⟩ := I.hok p _ hk
          exact ⟨o, e, ex⟩
      obtain ⟨o, e, ex⟩ := z
      refine ⟨⟨o, e, ex.1⟩, fun a e2 => ?_⟩
      cases e2
      exact ⟨o, e, ex.2.1⟩
    · obtain ⟨o, _, _, _, e, ex, _⟩ := I.hok p _ hk
      refine ⟨⟨o, e, ex.1⟩, fun a e2 => ?_⟩
      cases e2
      exact ⟨o, e, ex.2.1⟩
  | _ => exact False.elim ty
def tBM (K : PySem.W.Frag) (T : String) (r : V → List V → Hp → VK → Prop) (to : TE) (t : TA) : TE := fun σ H Q => to σ H fun x H1 => tyV K T x H1 ∧ t σ H1 fun xs H2 => r x xs H2 Q
variable {o e : Expr} {es : List Expr} {to : TE} {t : TA} {name : Str} {apos cpos : Pos} {T id : String} {r : V → List V → Hp → VK → Prop}
theorem pe_bm (pa : PlainAttrs T) (slot : Slot T name id) (hty : typeOf (.builtin id) = pure (.type "method_descriptor")) (hm : MtR X id r) (ho : PE X o to) (ha : PA X (e :: es) t)
    (hbase : attributeBase o name X.env (eval o X.env) = eval o X.env := by rfl)
    (hfew : ((backTo cpos (starEach (e :: es) X.env)).all (fun x => !x.1) && (backToKw cpos (keywordEach [] X.env)).all (fun x => x.1.isSome)
      && decide ((e :: es).length + ([] : List Keyword).length + (if ([] : List Keyword).isEmpty then 0 else 1) < 30)) = true := by rfl)
    (hline : (apos.endLine == cpos.line) = true := by rfl) (hs : starEach (e :: es) X.env = (false, eval e X.env) :: starEach es X.env := by rfl) (hplain : (backTo cpos (starEach es X.env)).any (·.1) = false := by rfl) :
    PE X (.Call (.Attribute o name apos) (e :: es) [] cpos) (tBM X.K T r to t) := by
  intro pins s σ H Q I h
  refine wpAny_Call_method_late hbase hfew hline rfl (thn (ho pins s σ H _ I h) fun v s1 ⟨x, H1, I1, r1, ty, q1⟩ => ?_)
  obtain ⟨h1, h2⟩ := tyV_is I1 r1 ty
  refine ⟨T, id, pa, slot, hty, h1, h2, ?_⟩
  have hA := ha cpos pins s1 σ H1 _ I1 q1
  rw [hs] at hA ⊢
  refine Calls.callWith_builtin (by show (false || (backTo cpos (starEach es X.env)).any (·.1)) = false; rw [hplain] <;> rfl) (Calls.evalArgs_plain ?_)
  exact thn hA fun us s2 ⟨vs, H2, I2, r2, q2⟩ => hm pins s2 σ H2 x vs v us Q I2 r1 r2 q2
/- xs.append(e), list.index on a module's tuple .. are MtR facts of 06m -/
end
end L2

namespace L2
open PySem PySem.Spec PyProof.Rows

def MtM (X : Cx) (id : String) (r : V → List V → Hp → VK → Prop) : Prop :=
  ∀ (pins : List (Addr × Obj)) (s : Shared) (σ : St) (H : Hp) (x : V) (xs : List V) (v : Value) (us : List Value) (Q : VK), Inv X pins σ H s → RelV x v → Vals xs us → r x xs H Q →
    wpAny (model X.prog X.w) X.A (call (.builtin id) (v :: us)) (EP X pins σ Q) X.xe s

/-! ### lists of values -/
theorem Vals.one : ∀ {x : V} {us : List Value}, Vals [x] us → ∃ u, us = [u] ∧ RelV x u
  | _, _, .cons r .nil => ⟨_, rfl, r⟩
theorem Vals.two : ∀ {x y : V} {us : List Value}, Vals [x, y] us → ∃ u v, us = [u, v] ∧ RelV x u ∧ RelV y v
  | _, _, _, .cons r (.cons q .nil) => ⟨_, _, rfl, r, q⟩
theorem Vals.zero : ∀ {us : List Value}, Vals [] us → us = []
  | _, .nil => rfl
theorem Vals.dropLast {xs : List V} {us : List Value} (h : Vals xs us) : Vals xs.dropLast us.dropLast := by
  induction h with
  | nil => exact .nil
  | cons r t ih =>
    cases t with
    | nil => exact .nil
    | cons q t' => exact .cons r ih
section
variable {X : Cx} {pins : List (Addr × Obj)} {σ : St} {H : Hp} {s : Shared} {l b : Addr} {xs ys zs : List V}

/-! ### the two steps: a tracked list is rewritten, a new list is laid -/
theorem Inv.lset {its its' : List Value} {n : Nat} {f : Array Value → Array Value} {t' : Nat} (I : Inv X pins σ H s) (hH : H l = some (.lst xs))
    (e : s.heap.get? l = some { cls := .type "list", data := .seq its.toArray n }) (hf : f its.toArray = its'.toArray) (hv : Vals ys its') (hz : ys.length ≤ sizeLine) :
    Inv X pins σ (upd H l (.lst ys)) { s with heap := s.heap.update l (Obj.mapSeq f), toks := t' } := by
  have q := PySem.IsL.update e f
  rw [hf] at q
  refine I.write (x := l) (e := l) (by rw [hH]; exact trivial) (.inl rfl) (fun b' u hb hu => (Heap.get?_update_other s.heap (Obj.mapSeq f) (Ne.symm hb)).trans hu) ⟨_, q⟩ ?_
  exact ⟨hz, its', _, hv, q⟩
theorem Inv.lnew {its : List Value} {t' : Nat} (I : Inv X pins σ H s) (hv : Vals ys its) (hz : ys.length ≤ sizeLine) :
    Inv X pins σ (upd H s.heap.objs.size (.lst ys)) { s with heap := s.heap.push { cls := .type "list", data := .seq its.toArray }, toks := t' } :=
  I.laid (fun _ _ q => Heap.get?_push_of_some _ q) (Nat.le_refl _) ⟨hz, its, 0, hv, Heap.get?_push_size _ rfl⟩
theorem Inv.fresh (I : Inv X pins σ H s) : H s.heap.objs.size = none := I.hok.fresh (Nat.le_refl _)
theorem Inv.lstM (I : Inv X pins σ H s) (hH : H l = some (.lst xs)) : xs.length ≤ sizeLine ∧ ∃ (its : List Value) (n : Nat), Vals xs its ∧ xs.length = its.length ∧ s.heap.get? l = some { cls := .type "list", data := .seq its.toArray n } := by
  obtain ⟨z, its, n, r, e⟩ := I.hok l _ hH
  exact ⟨z, its, n, r, r.length, e⟩

end

section
variable {X : Cx}

/-! ### methods -/
def rAppend : V → List V → Hp → VK → Prop := fun x vs H Q => ∃ l xs y, x = .ref l ∧ vs = [y] ∧ H l = some (.lst xs) ∧ xs.length < sizeLine ∧ Q .non (upd H l (.lst (xs ++ [y])))
theorem mt_append : MtM X "list.append" rAppend := by
  intro pins s σ H x vs v us Q I rx rv h
  obtain ⟨l, xs, y, rfl, rfl, hH, hz, q⟩ := h
  cases rx
  obtain ⟨u, rfl, ru⟩ := rv.one
  obtain ⟨z, its, n, r, hl, e⟩ := I.lstM hH
  refine call_meets F.slot_list_append ⟨_, e, rfl⟩ F.entry_list_append (F.args_list_append_2 _ _) (PySem.list_append l its.toArray n u (by rw [List.size_toArray]; omega)) ⟨e, ?_⟩
  refine ⟨.non, _, I.lset (its' := its ++ [u]) hH e (by simp) (r.append (.cons ru .nil)) ?_, rfl, q⟩
  rw [List.length_append, List.length_singleton]
  omega

/-! ### list + list, list += list, list * int -/
def rCat : R2 := fun x y H Q => ∃ l b xs zs, x = .ref l ∧ y = .ref b ∧ H l = some (.lst xs) ∧ H b = some (.lst zs) ∧ xs.length + zs.length ≤ sizeLine ∧ ∀ p, H p = none → Q (.ref p) (upd H p (.lst (xs ++ zs)))
theorem op_cat : OpR X (binaryOp .Add) rCat := by
  intro pins s σ H x y v u Q I rx ry h
  obtain ⟨l, b, xs, zs, rfl, rfl, hH, hB, hz, q⟩ := h
  cases rx
  cases ry
  obtain ⟨z, its, n, r, hl, e⟩ := I.lstM hH
  obtain ⟨z2, its2, n2, r2, hl2, e2⟩ := I.lstM hB
  refine PySem.P.add_list e e2 ?_ (by rw [List.size_toArray, List.size_toArray]; omega)
  have ea : its.toArray ++ its2.toArray = (its ++ its2).toArray := by simp
  rw [ea]
  exact ⟨.ref _, _, I.lnew (t' := s.toks) (r.append r2) (by rw [List.length_append]; omega), rfl, q _ I.fresh⟩
/-! ### del xs[i] -/
end

/-! ### xs[a:b] = ys -/
section
variable {prog : Program} {w : World} {A : Around} {E : Value → Shared → Prop} {s : Shared}
end

section
variable {X : Cx}
end
end L2

namespace Att
open PySem PySem.W PySem.Calls PyProof.Rows

/-! ### the script -/
theorem ints_of_wellAll {P : Params} {h : Heap} : ∀ (ns : List Int) (vs : List Value), WellAll P h vs (ns.map WData.int) → IntsAre vs ns := by
  intro ns
  induction ns with
  | nil =>
    intro vs w
    rw [List.map_nil] at w
    cases w
    exact .nil
  | cons n ns ih =>
    intro vs w
    rw [List.map_cons] at w
    cases w with
    | cons a b =>
      cases a
      exact .cons _ _ (ih _ b)

theorem script_of {l : OpenLaw} {n : Nat} (hn : l.most = some n) {P : Params} {h : Heap} {args : List WData} {vals : List Value}
    (hpre : l.row.toRowW.claim.pre args = true) (hwl : WellAll P h vals args) :
    ∃ a vs ns, vals = [Value.ref a] ∧ args = [WData.list (ns.map WData.int)] ∧ h.get? a = some { cls := .type "list", data := .seq vs.toArray } ∧ IntsAre vs ns ∧ ns.length ≤ n := by
  have hsh : WShape.hasAll [] args [.list .int] = true := (pre_splitW hpre).1
  have hc : l.pre.holds [] { args := args } = true := (pre_splitW hpre).2
  obtain ⟨d, r, rfl, h1, h2⟩ := hasAllW_cons hsh
  obtain rfl := hasAllW_nil h2
  obtain ⟨xs, rfl, h3⟩ := hasW_list h1
  obtain ⟨ns, rfl⟩ := items_int h3
  have hlen : ns.length ≤ n := by
    unfold OpenLaw.pre at hc
    have h4 : (WTm.not (.lt (.lit (.int (n : Int))) (.len (.arg 0)))).holds [] { args := [.list (ns.map .int)] } = true := by
      have h4 := (holds_andW hc).1
      rw [hn] at h4
      exact h4
    have h5 := condW_of h4 (w_not (w_lt w_lit (w_len_list (w_arg rfl))))
    rw [List.length_map] at h5
    refine Nat.le_of_not_lt fun q => ?_
    have q' : (n : Int) < ((ns.length : Nat) : Int) := by omega
    first
      | (rw [decide_eq_true q'] at h5; exact absurd h5 (by decide))
      | (simp at h5; omega)
  cases hwl with
  | cons w1 w2 =>
    cases w2
    cases w1 with
    | list ho hall => exact ⟨_, _, ns, rfl, rfl, ho, ints_of_wellAll ns _ hall, hlen⟩

theorem post_true (l : OpenLaw) (args : List WData) : l.row.toRowW.claim.post args (.bool true) args = true :=
  postW_of (r := l.row.toRowW) (X := (true == true))
    (show WShape.has [] (.bool true) .bool = true by first | rfl | decide | simp [WShape.has, WShape.arms, WShape.armsAll])
    (show (WTm.eq .res (.lit (.bool true))).value [] { args := args, res := some (.bool true), after := args } = some (.bool (true == true)) from w_eq_bool (w_res rfl) w_lit) rfl

/-! ### the attachment: holds_open's last premise (the goal 'hc' behind k_head) from a wpAny of the law's body -/
/-- the same from a codeAny of the CALL (for a layer whose function contracts speak of calls) -/
theorem attach_call {l : OpenLaw} {n : Nat} {q : Program} {loose : List Str} {XP : (Str → Option Value) → Heap → Prop} {YP : World → Heap → Prop} {d : DefRec}
    (hn : l.most = some n) (hdf : d.params.defaults = [])
    (call : ∀ (w : World) (s₀ s₁ : Shared) (mg mb : Str → Option Value) (fa : Addr) (o : Obj) (pm cd doc : Value) (a : Addr) (vs : List Value) (ns : List Int),
      Ground q loose [] XP w s₀ mg mb s₁.heap → YP w s₁.heap →
      s₁.heap.get? fa = some o → o.data = .func (docDef d.name d.params d.body d.scope pm cd doc) → s₁.heap.CodeRec cd d.name → mg d.name = some (.ref fa) →
      s₁.heap.get? a = some { cls := .type "list", data := .seq vs.toArray } → IntsAre vs ns → ns.length ≤ n → s₁.gens = #[] →
      codeAny (model l.prog w) callerA (.call (.ref fa) ⟨[.ref a], []⟩) (fun r s' => r = .ok (.ret (.bool true)) ∧ OldK s₁.heap s'.heap ∧ s'.os = s₁.os ∧ AllBare s'.gens) s₁) :
    WalkO q loose XP YP l.row.toRowW d [] (fun f vs => PySem.call f vs) := by
  intro w s₀ s₁ mg mb G Y fa o pm cd doc dV kV ho hd hcd hD hmg hg args vals as hpre hlay hrd hwl hlo
  obtain rfl : dV = .none := Dflts.none hD hdf
  obtain rfl : kV = .none := Dflts.noKw hD
  obtain ⟨a, vs, ns, rfl, rfl, hobj, hints, hlen⟩ := script_of hn hpre hwl
  refine enter_call (codeAny_mono (call w s₀ s₁ mg mb fa o pm cd doc a vs ns G Y ho (fd_plain hd) hcd hmg hobj hints hlen hg) fun r s' hq => ?_)
  obtain ⟨rfl, h2, h3, h4⟩ := hq
  exact ⟨.inl ⟨.bool true, .bool true, [], rfl, fun _ => rfl, .bool true, post_true l _, fun _ => ⟨List.Pairwise.nil, fun _ hm => (nomatch hm)⟩⟩, h2, h3, h4⟩

/-! ### rules over ANY heap (no ledger) from facts about the written part K: the library's own take a ledger (News) for what they write -/
section
variable {prog : Program} {w : World} {A : Around} {E : Value → Shared → Prop} {s : Shared} {K : Frag}

/-! the whole heap as the ledger: makes every rule that writes through a ledger a rule over any heap -/
def ledger (h : Heap) (L d : Addr) : List (Addr × Obj) := (List.range h.objs.size).filterMap fun a => if a = L ∨ a = d then none else (h.get? a).map fun o => (a, o)
end
end Att

namespace L2
open PySem PySem.Spec PyProof.Rows

theorem vals_ints : ∀ {vs : List Value} {ns : List Int}, IntsAre vs ns → Vals (ns.map V.int) vs
  | _, _, .nil => .nil
  | _, _, .cons n t h => .cons ⟨t, rfl⟩ (vals_ints h)

/-- nothing is tracked but the script, known to the object (or it is an object of the module) -/
def Only (H : Hp) : Prop := ∀ b, H b = none ∨ ∃ o xs, H b = some (.frz o (.lst xs))

/-- THE HEAD: the law's promise, at the heap behind the top. F, the promise of the law's def, may use that base is part of the heap (so K.In base, base.Ns mainGlobals mg stand in Mod) -/
theorem law_call {P : Program} {w : World} {K : PySem.W.Frag} {mg mb : Str → Option Value} {CX : CXT} {k : Nat} {fa a : Addr} {fd : FuncData} {x : Str} {sp : Sp} {s₁ : Shared} {vs : List Value} {ns : List Int}
    (KX : K.In s₁.heap) (hns : s₁.heap.Ns mainGlobals mg) (hb : s₁.heap.Ns builtinsNs mb) (hbb : ∀ x : Str, x ≠ "__name__" → mb x = bootBuiltins x) (hlim : s₁.heap.NoLimit) (hg : s₁.gens = #[])
    (ha : s₁.heap.get? a = some { cls := .type "list", data := .seq vs.toArray }) (hi : IntsAre vs ns) (hl : ns.length ≤ sizeLine) (hr : Room k callerA)
    (F : ∀ base : Heap, K.In base → base.Ns mainGlobals mg → FnOk P w K mg base CX k fa fd [x] sp) (hbind : ∀ (s : Shared) (u : Value), BindsTo s fd ⟨[u], []⟩ [(x, u)])
    (hsp : ∀ H : Hp, Only H → SqL K H a (ns.map V.int) → sp [.ref a] H (fun v _ => v = .bl true) fun _ _ _ => False)
    (hCX : ∀ H e s', CX [] H s₁ (fun _ _ _ => False) e s' → False) :
    codeAny (model P w) callerA (.call (.ref fa) ⟨[.ref a], []⟩) (fun r s' => r = .ok (.ret (.bool true)) ∧ OldK s₁.heap s'.heap ∧ s'.os = s₁.os ∧ AllBare s'.gens) s₁ := by
  have rv := vals_ints hi
  have lenV := hi.length
  -- from an abstract heap in which nothing but the script may be tracked
  have core : ∀ H : Hp, Only H → SqL K H a (ns.map V.int) → HOk P w H s₁.heap → (∀ b, H b ≠ none → b = a) → (H a ≠ none → K.lookup a = none) →
      codeAny (model P w) callerA (.call (.ref fa) ⟨[.ref a], []⟩) (fun r s' => r = .ok (.ret (.bool true)) ∧ OldK s₁.heap s'.heap ∧ s'.os = s₁.os ∧ AllBare s'.gens) s₁ := by
    intro H hO hS hok hA hK
    have base_of : ∀ {b : Addr} {o : Obj}, s₁.heap.get? b = some o → H b = none → (hidT s₁.heap H).get? b = some o := fun e n => hidT_get e n
    have noA : ∀ {b : Addr} {o : Obj} {es : Array DictEntry} {ep : Nat}, s₁.heap.get? b = some o → o.data = .dict es ep → H b = none := fun {b o es ep} e d => by
      cases q : H b with
      | none => rfl
      | some u =>
        have e' : b = a := hA b (by rw [q]; simp)
        subst e'
        rw [ha] at e; cases e
        have d' : Data.seq vs.toArray _ = Data.dict es ep := d
        cases d'
    have nsK : ∀ {b : Addr} {m : Str → Option Value}, s₁.heap.Ns b m → (hidT s₁.heap H).Ns b m := fun {b m} ⟨o, es, ep, e, d, r⟩ => ⟨o, es, ep, base_of e (noA e d), d, r⟩
    have hKb : K.In (hidT s₁.heap H) := fun b o e => base_of (KX b o e) (by
      cases q : H b with
      | none => rfl
      | some u =>
        have e' : b = a := hA b (by rw [q]; simp)
        subst e'
        rw [hK (by rw [q]; simp)] at e; cases e)
    have hM : Mod K mg (hidT s₁.heap H) := ⟨hKb, nsK hns, ⟨mb, nsK hb, hbb⟩, let ⟨mc, h1, h2⟩ := hlim; ⟨mc, nsK h1, h2⟩⟩
    have e0 : Env0 P w K mg (hidT s₁.heap H) callerA [] s₁ H := ⟨rfl, hM, fun b o e => of_hidT e, Nat.le_of_eq (hidT_size _ _), trivial, fun b hb => absurd (show b ∈ ([] : List Addr) from hb) (by simp), hok, .of_eq hg⟩
    refine codeAny_mono ((F _ hKb (nsK hns)).run callerA [] s₁ H ⟨[.ref a], []⟩ [.ref a] [.ref a] _ _ hr e0 (hbind s₁ (.ref a)) (.cons rfl .nil) (hsp H hO hS)) fun r s' h => ?_
    cases r with
    | error e => exact (hCX H e s' h).elim
    | ok fl =>
      cases fl with
      | next => exact False.elim h
      | brk => exact False.elim h
      | cont => exact False.elim h
      | ret u =>
        obtain ⟨v, H', os, bare, un, hok', r', q⟩ := h
        have q' : v = .bl true := q
        subst q'
        obtain rfl : u = Value.bool true := r'
        refine ⟨rfl, OldK.of_keep fun b o e => ?_, os, bare⟩
        cases q : H b with
        | none => exact un.keep b o e q (by intro z; exact absurd (show b ∈ ([] : List Addr) from z) (by simp)) (by simp)
        | some u =>
          rcases hO b with z | ⟨ob, xs, z⟩
          · rw [q] at z; cases z
          · have z2 := un.frzs b ob _ z
            obtain ⟨e1, _⟩ := hok b _ z
            obtain ⟨e2, _⟩ := hok' b _ z2
            rw [e] at e1; cases e1
            exact e2
  cases hk : K.lookup a with
  | some o =>
    -- the script is one of the module's own objects
    have e := KX a o hk
    rw [ha] at e
    cases e
    refine core (fun _ => none) (fun _ => .inl rfl) (.inr ⟨_, vs.toArray, _, hk, rfl, rfl, rfl, by rw [List.size_toArray, lenV]; exact hl, by simpa using rv⟩) (fun b u z => by have z' : (none : Option HO) = some u := z; cases z') (fun b z => absurd rfl z) fun z => absurd rfl z
  | none =>
    refine core (fun b => if b = a then some (.frz { cls := .type "list", data := .seq vs.toArray } (.lst (ns.map V.int))) else none) (fun b => ?_) (.inl (.inr ⟨{ cls := .type "list", data := .seq vs.toArray }, if_pos rfl⟩)) (fun b u z => ?_) (fun b z => ?_) fun _ => hk
    · by_cases hb : b = a
      · exact .inr ⟨_, _, if_pos hb⟩
      · exact .inl (if_neg hb)
    · by_cases hb : b = a
      · have z' := (if_pos hb).symm.trans z
        cases z'
        subst hb
        exact ⟨ha, by rw [List.length_map]; exact hl, vs, _, rv, ha⟩
      · have z' := (if_neg hb).symm.trans z
        cases z'
    · by_cases hb : b = a
      · exact hb
      · exact absurd (if_neg hb) z
end L2

namespace L2
open PySem PySem.Spec PyProof.Rows

abbrev KOf {K : PySem.W.Frag} {h : Heap} (_ : K.In h) : PySem.W.Frag := K

/-- the goal that k_head leaves (case hc), from the law's promise. F gives the function object fd (K's own) once, then the promise over every base -/
theorem walk_of {l : PySem.W.OpenLaw} {n k : Nat} {q : Program} {loose : List Str} {XP : (Str → Option Value) → Heap → Prop} {YP : World → Heap → Prop} {d : DefRec} {K : Params → PySem.W.Frag} {CX : World → CXT} {sp : World → Sp} {x : Str}
    (hn : l.most = some n) (hn2 : n ≤ sizeLine) (hdf : d.params.defaults = []) (hr : Room k callerA)
    (hY : ∀ (w : World) (h : Heap), YP w h → (K w.params).In h)
    (F : ∀ (w : World) (mg : Str → Option Value) (fa : Addr) (h : Heap), (K w.params).In h → h.Ns mainGlobals mg → mg d.name = some (.ref fa) →
      ∃ fd : FuncData, (∀ (s : Shared) (u : Value), BindsTo s fd ⟨[u], []⟩ [(x, u)]) ∧
        ∀ base : Heap, (K w.params).In base → base.Ns mainGlobals mg → FnOk l.prog w (K w.params) mg base (CX w) k fa fd [x] (sp w))
    (hsp : ∀ (w : World) (H : Hp) (a : Addr) (ns : List Int), ns.length ≤ n → Only H → SqL (K w.params) H a (ns.map V.int) → sp w [.ref a] H (fun v _ => v = .bl true) fun _ _ _ => False)
    (hCX : ∀ (w : World) (H : Hp) (s : Shared) (e : Value) (s' : Shared), CX w [] H s (fun _ _ _ => False) e s' → False) :
    PySem.W.WalkO q loose XP YP l.row.toRowW d [] (fun f vs => PySem.call f vs) := by
  refine Att.attach_call hn hdf fun w s₀ s₁ mg mb fa o pm cd doc a vs ns G Y ho hd hcd hmg hobj hints hlen hg => ?_
  have KX := hY w _ Y
  obtain ⟨fd, hb, hF⟩ := F w mg fa _ KX G.T.g hmg
  exact law_call KX G.T.g G.T.b G.T.builtins G.T.nolimit hg hobj hints (Nat.le_trans hlen hn2) hr hF hb (fun H hO hS => hsp w H a ns hlen hO hS) fun H e s' => hCX w H s₁ e s'
end L2

/- THE LAST THEOREM (shape; LID, My.* are yours):
   My.Adr: a structure of the addresses that your layer names (classes, functions); My.Txt K t: a structure (Prop) of the equations over K;
   My.txt_mk : {K} {implicit addresses ..} (e1 : nsIn K mainGlobals "law" = some (some (.ref f))) (e2 : K.lookup f = some ⟨oc, od, .func (fnOf "law" "law" params body scope dV kV doc pm an cdv ct), sl⟩) (e3 : codeIn K cdv "law" = true) .. : ∃ t, My.Txt K t

set_option maxRecDepth 100000 in
set_option maxHeartbeats 0 in
theorem PySem.Challenge.cw_LID_holds : PySem.Challenge.rw_LID.Holds := by
  w_on; o_law; k_head; (case hw => w_witness2)
  k_fill
  refine L2.walk_of (l := PySem.Challenge.rw_LID) (n := 63) (k := 40) (x := "script") (CX := fun w => ..) (sp := fun _ => My.sp_law) rfl (by decide) rfl ⟨rfl, by decide, by decide⟩ (fun w h Y => PySem.W.kIn_of Y) ?F ?S ?C
  case F =>
    intro w mg fa h KX G hmg
    have T : ∃ t, My.Txt (L2.KOf KX) t := by
      dsimp only [L2.KOf]                          -- K must stand as «<heap const> w.params» for k_is
      refine' My.txt_mk ?e1 ?e2 ?e3 ..
      (case e1 => PySem.W.k_is)                    -- in the order: a name -> its address -> its object -> its parts
      (case e2 => PySem.W.k_is)
      ..
    obtain ⟨t, T⟩ := T
    have e0 := hmg.symm.trans (PySem.W.mg_of KX G T.law)
    cases e0                                       -- fa is the law's own address
    exact ⟨_, fun s u => .of_eq rfl, fun base kb nb => My.law_fn T kb nb⟩     -- if «.of_eq rfl» comes too early: refine' ⟨_, ?b, fun base kb nb => My.law_fn T kb nb⟩; exact fun s u => .of_eq rfl
  case S => exact fun w H a ns hl hO hS => ..
  case C => exact ..
(the tactic k_is has no namespace: write k_is) -/

/-! SHORT WORDS over the layer: a def of the text, its body, what a loop and a test want. -/
namespace L2
open PySem PySem.Spec PyProof.Rows

/-! ### the text by places -/
def defArgs (s : Stmt) : Arguments := match s with
  | .FunctionDef _ a _ _ _ _ _ _ _ _ => a
  | _ => { posonlyargs := [], args := [], vararg := none, kwonlyargs := [], kw_defaults := [], kwarg := none, defaults := [] }
def defBody (s : Stmt) : List Stmt := match s with
  | .FunctionDef _ _ b _ _ _ _ _ _ _ => b
  | _ => []
def defScope (s : Stmt) : Scope := match s with
  | .FunctionDef _ _ _ _ _ _ sc _ _ _ => sc
  | _ => { kind := .function, names := [], isGenerator := false, isCoroutine := false }

/-! ### no exception leaves a def -/
abbrev CX0 : CXT := fun _ _ _ _ _ _ => False
abbrev E0 : XK := fun _ _ _ => False
theorem pass0 {X : Cx} : Passes CX0 X E0 := fun _ _ _ _ _ _ _ h => h.elim

/-! ### a def (or method) of the text as it stands behind the top -/
structure Fun (K : PySem.W.Frag) (x qual : Str) (st : Stmt) (f : Addr) (fd : FuncData) : Prop where
  ex : ∃ (oc : Value) (od : Option Addr) (kV doc pm : Value) (an : Option Addr) (cdv ct : Value) (osl : Array (Option Value)),
    fd = PySem.W.fnOf x qual (defArgs st) (defBody st) (defScope st) .none kV doc pm an cdv ct ∧ K.lookup f = some ⟨oc, od, .func fd, osl⟩ ∧ PySem.W.codeIn K cdv qual = true
  kp : PySem.W.keepIn K (.ref f) = true
section
variable {P : Program} {w : World} {K : PySem.W.Frag} {mg : Str → Option Value} {base : Heap}
/-- THE RULE for a def: its body as a term of rules, and the reading of that term -/
theorem Fun.ok {x qual : Str} {st : Stmt} {f : Addr} {fd : FuncData} {N ps : List Str} {k : Nat} {sp : Sp} (F : Fun K x qual st f fd) (S : FnScope N ps (defScope st)) (len : ∀ vs H Q E, sp vs H Q E → vs.length = ps.length)
    (hbody : ∀ (cdv : Value) (A : Around) (outer : List Env) (s : Shared) (H : Hp) (vs : List V) (Q : VK) (E : XK), Room k (A.deeper (envOfC qual (defScope st) s.heap.objs.size f cdv)) → sp vs H Q E →
      ∃ t, PSs (cxOf CX0 P w K mg base N qual (defScope st) f cdv A outer s H E).nox (defBody st) t ∧ t { nx := fun _ H' => Q .non H', rt := Q } (start N vs) H) : FnOk P w K mg base CX0 (k + 1) f fd ps sp := by
  obtain ⟨oc, od, kV, doc, pm, an, cdv, ct, osl, rfl, lk, hcd⟩ := F.ex
  refine fn_of lk hcd S len fun A outer s H vs Q E hr hsp => ?_
  obtain ⟨t, h, q⟩ := hbody cdv A outer s H vs Q E hr hsp
  exact ⟨t, h.nox, q⟩
/-- how its arguments bind (no defaults): h is «fun _ _ _ _ _ _ us hl => match us, hl with | [_, _], _ => rfl», one _ a parameter -/
theorem Fun.binds {x qual : Str} {st : Stmt} {f : Addr} {fd : FuncData} {ps : List Str} (F : Fun K x qual st f fd)
    (h : ∀ (kV doc pm : Value) (an : Option Addr) (cdv ct : Value) (us : List Value), us.length = ps.length → bindArgs (PySem.W.fnOf x qual (defArgs st) (defBody st) (defScope st) .none kV doc pm an cdv ct) ⟨us, []⟩ = pure (ps.zip us)) : Binds K fd ps [] := by
  obtain ⟨oc, od, kV, doc, pm, an, cdv, ct, osl, rfl, lk, hcd⟩ := F.ex
  exact .all (h kV doc pm an cdv ct)
theorem fun_mk {x qual : Str} {st : Stmt} {f : Addr} {oc : Value} {od an : Option Addr} {osl : Array (Option Value)} {kV doc pm cdv ct : Value} (l : K.lookup f = some ⟨oc, od, .func (PySem.W.fnOf x qual (defArgs st) (defBody st) (defScope st) .none kV doc pm an cdv ct), osl⟩)
    (c : PySem.W.codeIn K cdv qual = true) (k : PySem.W.keepIn K (.ref f) = true) : Fun K x qual st f (PySem.W.fnOf x qual (defArgs st) (defBody st) (defScope st) .none kV doc pm an cdv ct) := ⟨⟨oc, od, kV, doc, pm, an, cdv, ct, osl, rfl, l, c⟩, k⟩
end
theorem hu_of {A : Around} {k : Nat} (hr : Room k A) : A.units + 1 < cLine := Nat.lt_of_le_of_lt (Nat.add_le_add_left (by decide : 1 ≤ 64) _) hr.units
/-! ### expressions in short: the name that stands in the i-th slot -/
section
variable {X : Cx}
theorem pv (i : Nat) {x : Str} {pos : Pos} (hN : X.N[i]? = some x := by rfl) (hv : Vis X.env.scope x := by first | exact Or.inl rfl | exact Or.inr (Or.inl rfl) | exact Or.inr (Or.inr rfl)) (hd : (x == ("__debug__" : Str)) = false := by decide)
    (hcd : (x == ("__classdict__" : Str)) = false := by decide) : PE X (.Name x pos) (tVar i) := pe_var hN hv hd hcd
end

/-! ### tests -/
theorem iteF {A B : Prop} (h : B) : if false = true then A else B := by
  rw [if_neg Bool.false_ne_true]
  exact h
theorem iteT {A B : Prop} (h : A) : if true = true then A else B := by
  rw [if_pos rfl]
  exact h
theorem ite2 {c A B : Prop} [Decidable c] (h1 : c → A) (h2 : ¬ c → B) : if c then A else B := by
  by_cases h : c
  · rw [if_pos h]
    exact h1 h
  · rw [if_neg h]
    exact h2 h
theorem iteNS {c A B : Prop} [Decidable c] (hc : c) (h : B) : if (!decide c) = true then A else B := by
  rw [decide_eq_true hc]
  exact iteF h

/-! ### heaps -/
/-- all that was tracked is as it was -/
def Same (H H' : Hp) : Prop := ∀ b o, H b = some o → H' b = some o
theorem Same.refl (H : Hp) : Same H H := fun _ _ h => h
theorem Same.trans {H H1 H2 : Hp} (a : Same H H1) (b : Same H1 H2) : Same H H2 := fun c o h => b c o (a c o h)
theorem Same.free {H H' : Hp} (e : Same H H') {l : Addr} (h : H' l = Option.none) : H l = Option.none := by
  cases q : H l with
  | none => rfl
  | some o =>
    rw [e l o q] at h
    cases h
theorem Same.seq {K : PySem.W.Frag} {H H' : Hp} {a : Addr} {xs : List V} (e : Same H H') (h : SqL K H a xs) : SqL K H' a xs := by
  rcases h with (h | ⟨o, h⟩) | h
  · exact .inl (.inl (e _ _ h))
  · exact .inl (.inr ⟨o, e _ _ h⟩)
  · exact .inr h

end L2

namespace InkX
open PySem PySem.Spec PyProof.Rows L2

/-! ### isinstance, as a call by values -/
section
variable {X : Cx}
theorem call_isinst : CallR X (.builtin "isinstance") (fun xs H Q => ∃ x T t b, xs = [x, .ty T] ∧ TyOf X.K H x t ∧ PySem.W.kitOne X.K t (.type T) = some b ∧ Q (.bl b) H) := by
  intro pins s σ H xs us Q I r h
  obtain ⟨x, T, t, b, rfl, ty, e, q⟩ := h
  obtain ⟨u, v, rfl, rx, rv⟩ := r.two
  cases (show v = Value.type T from rv)
  exact isinst_ok I rx ty e fun tk => ⟨.bl b, H, I.tok tk, rfl, q⟩
/-- a built-in type as a value -/
theorem pe_ty {x : Str} {T : String} {pos : Pos} (hg : Gl X x) (hm : X.mg x = none) (hv : bootBuiltins x = some (.type T)) (hn : x ≠ "__name__" := by decide) (hd : (x == ("__debug__" : Str)) = false := by decide) : PE X (.Name x pos) (tC (.ty T)) :=
  pe_bltn hg hm hv rfl hn hd
end

/-! ### several untracked records of ours have turned -/
theorem turnedN {X : Cx} {pins : List (Addr × Obj)} {σ : L2.St} {H : Hp} {s : Shared} {h' : Heap} {t' : Nat} {ch : List Addr} (I : Inv X pins σ H s) (k : ∀ b o, b ∉ ch → s.heap.get? b = some o → h'.get? b = some o)
    (hf : ∀ b ∈ ch, FpOk X pins H b) : Inv X pins σ H { s with heap := h', toks := t' } := by
  have nit : ∀ b u, H b = some u → b ∉ ch := fun b u e z => by rw [(hf b z).1] at e; cases e
  refine I.step (g' := s.gens) (d' := s.drawn) (ch := ch) (fun b hb => ?_) (fun b o _ _ hc e _ => k b o hc e) (fun b o _ _ hc e _ => ⟨o.slots, k b o hc e⟩) (fun _ _ _ _ n => n)
    (fun b o hc e => ⟨o, k b o hc e⟩) (fun _ _ e => e) (fun _ _ _ e => e) (fun b ps e => ⟨#[], by rw [e]; simp⟩) (fun m hm => ?_) (fun b u e => ?_) I.bare
  · obtain ⟨_, f1, _, f3, f4, f5⟩ := hf b hb
    exact ⟨f3, f1, f4, f5⟩
  · obtain ⟨o, es, ep, ho, r⟩ := hm
    exact ⟨o, es, ep, k _ o (fun z => (hf _ z).2.1 rfl) ho, r⟩
  · refine (I.hok b u e).stay (fun c v hc q => k c v ?_ q) (fun _ q => q) fun _ _ q => q
    rcases hc with z | z
    · rw [z]; exact nit b u e
    · exact nit c _ z
/-- .. and a tuple that stands there untracked is taken up -/
theorem adopt {X : Cx} {pins : List (Addr × Obj)} {σ : L2.St} {H : Hp} {s : Shared} {h' : Heap} {t' : Nat} {ch : List Addr} {p : Addr} {xs : List V} {us : List Value} (I : Inv X pins σ H s) (k : ∀ b o, b ∉ ch → s.heap.get? b = some o → h'.get? b = some o)
    (hf : ∀ b ∈ ch, FpOk X pins H b) (hp : s.heap.objs.size ≤ p) (hz : xs.length ≤ sizeLine) (rv : Vals xs us) (ht : IsTup h' p us.toArray) : Inv X pins σ (upd H p (.tup xs)) { s with heap := h', toks := t' } := by
  have hn : H p = none := I.hok.fresh hp
  have nit : ∀ b u, H b = some u → b ∉ ch := fun b u e z => by rw [(hf b z).1] at e; cases e
  have nep : ∀ b o, s.heap.get? b = some o → b ≠ p := fun b o e z => by subst z; exact absurd (Nat.lt_of_lt_of_le (Heap.lt_size e) hp) (Nat.lt_irrefl _)
  refine I.step (g' := s.gens) (d' := s.drawn) (ch := ch) (fun b hb => ?_) (fun b o _ _ hc e _ => k b o hc e) (fun b o _ _ hc e _ => ⟨o.slots, k b o hc e⟩) (fun b o _ e n => by rw [upd_ne (nep b o e)]; exact n)
    (fun b o hc e => ⟨o, k b o hc e⟩) (fun b ys e => by rw [upd_ne (ne_of_none e hn)]; exact e) (fun b _ _ e => by rw [upd_ne (ne_of_none e hn)]; exact e) (fun b ps e => ⟨#[], by rw [upd_ne (ne_of_none e hn), e]; simp⟩) (fun m hm => ?_) (fun b u e => ?_) I.bare
  · obtain ⟨_, f1, _, f3, f4, f5⟩ := hf b hb
    exact ⟨f3, f1, f4, f5⟩
  · obtain ⟨o, es, ep, ho, r⟩ := hm
    exact ⟨o, es, ep, k _ o (fun z => (hf _ z).2.1 rfl) ho, r⟩
  · by_cases hb : b = p
    · subst hb
      rw [upd_same] at e
      cases e
      exact ⟨hz, us, rv, ht⟩
    · rw [upd_ne hb] at e
      refine (I.hok b u e).stay (fun c v hc q => k c v ?_ q) (fun c q => by rw [upd_ne (ne_of_none q hn)]; exact q) fun c ys q => by rw [upd_ne (ne_of_none q hn)]; exact q
      rcases hc with z | z
      · rw [z]; exact nit b u e
      · exact nit c _ z

/-! ### zip of two lists, or of two tuples -/
/-- k: a list (true) or a tuple (false) -/
def ItA (k : Bool) (h : Heap) (i a : Addr) (n : Nat) : Prop := match k with
  | true => h.IsListIter i a n
  | false => h.IsTupleIter i a n
def SqA (k : Bool) (h : Heap) (a : Addr) (xs : Array Value) : Prop := match k with
  | true => h.IsList a xs
  | false => h.IsTuple a xs
theorem ItA.at {k : Bool} {h h' : Heap} {i a : Addr} {n : Nat} (x : ItA k h i a n) (e : ∀ o, h.get? i = some o → h'.get? i = some o) : ItA k h' i a n := by
  cases k
  · obtain ⟨o, ho, r⟩ := x; exact ⟨o, e o ho, r⟩
  · obtain ⟨o, ho, r⟩ := x; exact ⟨o, e o ho, r⟩
theorem SqA.at {k : Bool} {h h' : Heap} {a : Addr} {xs : Array Value} (x : SqA k h a xs) (e : ∀ o, h.get? a = some o → h'.get? a = some o) : SqA k h' a xs := by
  cases k
  · obtain ⟨o, ho, r⟩ := x; exact ⟨o, e o ho, r⟩
  · obtain ⟨o, ho, r⟩ := x; exact ⟨o, e o ho, r⟩
theorem ItA.obj {k : Bool} {h : Heap} {i a : Addr} {n : Nat} (x : ItA k h i a n) : ∃ o, h.get? i = some o ∧ ∀ v, o.data ≠ .cell v := by
  cases k
  · obtain ⟨o, ho, _, d⟩ := x; exact ⟨o, ho, fun v z => by rw [d] at z; cases z⟩
  · obtain ⟨o, ho, _, d⟩ := x; exact ⟨o, ho, fun v z => by rw [d] at z; cases z⟩
section
variable {prog : Program} {w : World} {A : Around} {E : Value → Shared → Prop} {s : Shared}
theorem drawT_item {it t : Addr} {i : Nat} {items : Array Value} {x : Value} {Q : Value → Shared → Prop} (hit : s.heap.IsTupleIter it t i) (ht : s.heap.IsTuple t items) (hx : items[i]? = some x)
    (hQ : ∀ h', h'.IsTupleIter it t (i + 1) → Heap.SameBut it s.heap h' → Q x { s with heap := h' }) : wpAny (model prog w) A (Builtin.SmallTypes.nextOf (.ref it)) Q E s := by
  obtain ⟨o, ho, hc, hd⟩ := id hit
  obtain ⟨ol, hol, _, nl, hdl⟩ := ht
  unfold Builtin.SmallTypes.nextOf
  refine wpAny_bind (wpAny_callSpecial?_slot (name := Str.ofString "__next__") hit.typeIs F.slot_tuple_iterator_next (wpAny_call_entry F.slot_tuple_iterator_next hit.typeIs F.entry_tuple_iterator_next ?_ (F.args_tuple_iterator_next_1 _)))
  show wpAny _ _ (field (.ref it) 0 >>= _) _ _ s
  refine wpAny_bind (wpAny_field ho hd (x := .ref t) rfl ?_)
  show wpAny _ _ (if (Value.ref t == Value.none) = true then _ else _) _ _ s
  rw [if_neg (show ¬ ((Value.ref t == Value.none) = true) from Bool.false_ne_true)]
  show wpAny _ _ (field (.ref it) 1 >>= _) _ _ s
  refine wpAny_bind (wpAny_field ho hd (x := .int i 0) rfl ?_)
  show wpAny _ _ (seqItems? (.ref t) >>= _) _ _ s
  refine wpAny_bind (wpAny_seqItems hol hdl ?_)
  simp only [Int.toNat_natCast, hx]
  refine wpAny_bind (wpAny_setField ho hd (by simp) (wpAny_pure ⟨x, rfl, wpAny_pure (hQ _ ?_ (Heap.SameBut.update ..))⟩))
  refine ⟨_, Heap.get?_update_self _ ho (Obj.isFreed_of_fields (Obj.data_mapFields hd _)), (Obj.cls_mapFields ..).trans hc, ?_⟩
  rw [Obj.data_mapFields hd]; simp [rawInt]
theorem drawT_end {it t : Addr} {i : Nat} {items : Array Value} {Q : Value → Shared → Prop} (hh : A.handled = none) (hit : s.heap.IsTupleIter it t i) (ht : s.heap.IsTuple t items) (hx : items[i]? = none)
    (hE : ∀ h' e, Heap.ExtBut it s.heap h' → (∃ o, h'.get? e = some o ∧ o.cls = .type "StopIteration") → E (.ref e) { s with heap := h' }) : wpAny (model prog w) A (Builtin.SmallTypes.nextOf (.ref it)) Q E s := by
  obtain ⟨o, ho, hc, hd⟩ := id hit
  obtain ⟨ol, hol, _, nl, hdl⟩ := ht
  unfold Builtin.SmallTypes.nextOf
  refine wpAny_bind (wpAny_callSpecial?_slot (name := Str.ofString "__next__") hit.typeIs F.slot_tuple_iterator_next (wpAny_call_entry F.slot_tuple_iterator_next hit.typeIs F.entry_tuple_iterator_next ?_ (F.args_tuple_iterator_next_1 _)))
  show wpAny _ _ (field (.ref it) 0 >>= _) _ _ s
  refine wpAny_bind (wpAny_field ho hd (x := .ref t) rfl ?_)
  show wpAny _ _ (if (Value.ref t == Value.none) = true then _ else _) _ _ s
  rw [if_neg (show ¬ ((Value.ref t == Value.none) = true) from Bool.false_ne_true)]
  show wpAny _ _ (field (.ref it) 1 >>= _) _ _ s
  refine wpAny_bind (wpAny_field ho hd (x := .int i 0) rfl ?_)
  show wpAny _ _ (seqItems? (.ref t) >>= _) _ _ s
  refine wpAny_bind (wpAny_seqItems hol hdl ?_)
  simp only [Int.toNat_natCast, hx]
  refine wpAny_bind (wpAny_rule (wpAny_bind (wpAny_setField ho hd (by simp) ?_)))
  show wpAny _ _ (newExc (.type "StopIteration") [] >>= _) _ _ _
  refine wpAny_bind ?_
  simp only [newExc, newTuple]
  refine wpAny_bind (wpAny_newObj_type ?_ (by size_fits))
  refine wpAny_bind (m := firstArgMember _ _) (wpAny_of_eq (a := Value.none) (by first | rfl | (simp only [firstArgMember]; rfl)) ?_)
  refine wpAny_newObj_type ?_ (by size_fits)
  simp only [raiseNew]
  refine wpAny_bind (wpAny_handled ?_)
  first | rw [show A.in1.handled = none from hh] | rw [hh]
  refine wpAny_bind (wpAny_pure (wpAny_throw ?_))
  exact hE _ _ (((Heap.SameBut.update ..).extBut.push _).push _) ⟨_, Heap.get?_push_size _ rfl, rfl⟩
theorem drawA_item {k : Bool} {it t : Addr} {i : Nat} {items : Array Value} {x : Value} {Q : Value → Shared → Prop} (hit : ItA k s.heap it t i) (ht : SqA k s.heap t items) (hx : items[i]? = some x)
    (hQ : ∀ h', ItA k h' it t (i + 1) → Heap.SameBut it s.heap h' → Q x { s with heap := h' }) : wpAny (model prog w) A (Builtin.SmallTypes.nextOf (.ref it)) Q E s := by
  cases k
  · exact drawT_item hit ht hx hQ
  · exact wpAny_nextOf_list_item hit ht hx hQ
theorem drawA_end {k : Bool} {it t : Addr} {i : Nat} {items : Array Value} {Q : Value → Shared → Prop} (hh : A.handled = none) (hit : ItA k s.heap it t i) (ht : SqA k s.heap t items) (hx : items[i]? = none)
    (hE : ∀ h' e, Heap.ExtBut it s.heap h' → (∃ o, h'.get? e = some o ∧ o.cls = .type "StopIteration") → E (.ref e) { s with heap := h' }) : wpAny (model prog w) A (Builtin.SmallTypes.nextOf (.ref it)) Q E s := by
  cases k
  · exact drawT_end hh hit ht hx hE
  · exact wpAny_nextOf_list_end hh hit ht hx hE
abbrev itObj (k : Bool) (l : Addr) : Obj := { cls := .type (if k then "list_iterator" else "tuple_iterator"), data := .fields #[.ref l, .int 0 0] }
theorem iterA {k : Bool} {l : Addr} {xs : Array Value} {Q : Value → Shared → Prop} (h : SqA k s.heap l xs) (hQ : Q (.ref s.heap.objs.size) { s with heap := s.heap.push (itObj k l) }) : wpAny (model prog w) A (pyIter (.ref l)) Q E s := by
  cases k
  · exact wpAny_pyIter_tuple h hQ
  · exact wpAny_pyIter_list h hQ

/-- the zip's own records -/
structure ZipSt (k : Bool) (h : Heap) (z TI TO i1 i2 l1 l2 : Addr) (n : Nat) : Prop where
  z : IsZip h z TI TO .none
  ti : IsPair h TI (.ref i1) (.ref i2)
  to : ∃ a b, IsPair h TO a b
  i1 : ItA k h i1 l1 n
  i2 : ItA k h i2 l2 n
theorem zipA_item {k : Bool} {z TI TO i1 i2 l1 l2 : Addr} {n : Nat} {xs ys : Array Value} {x y : Value} {Q : Value → Shared → Prop} (D : ZipApart z TI TO i1 i2 l1 l2) (st : ZipSt k s.heap z TI TO i1 i2 l1 l2 n)
    (hl1 : SqA k s.heap l1 xs) (hl2 : SqA k s.heap l2 ys) (hx : xs[n]? = some x) (hy : ys[n]? = some y)
    (hQ : ∀ h', IsZip h' z TI TO (rawInt s.heap.objs.size) → IsPair h' TO x y → ItA k h' i1 l1 (n + 1) → ItA k h' i2 l2 (n + 1) → IsPair h' s.heap.objs.size x y →
      (∀ c o, c ≠ z → c ≠ TO → c ≠ i1 → c ≠ i2 → s.heap.get? c = some o → h'.get? c = some o) → Q (.ref s.heap.objs.size) { s with heap := h' }) :
    wpAny (model prog w) A (Builtin.«zip.__next__» ⟨[.ref z], []⟩) (fun fin s' => ∃ v, fin = .done (.ret v) ∧ Q v s') E s := by
  obtain ⟨hz, hTI, ⟨a, b, hTO⟩, h1, h2⟩ := st
  show wpAny _ _ (field (.ref z) 2 >>= _) _ _ _
  refine wpAny_bind (wpAny_field hz rfl (x := .bool false) rfl ?_)
  show wpAny _ _ (field (.ref z) 3 >>= _) _ _ _
  refine wpAny_bind (wpAny_field hz rfl (x := .ref TI) rfl (wpAny_bind (wpAny_seqItems hTI rfl ?_)))
  show wpAny _ _ (Builtin.SmallTypes.ownedTupleIsFree (.ref z) >>= _) _ _ _
  refine wpAny_bind ?_
  unfold Builtin.SmallTypes.ownedTupleIsFree
  refine wpAny_bind (wpAny_field hz rfl (x := .none) rfl (wpAny_pure ?_))
  simp only [if_true]
  refine wpAny_bind (wpAny_rule (wpAny_bind (wpAny_field hz rfl (x := .ref TO) rfl (wpAny_bind (wpAny_setField_rec hz (by simp) fun g1 z1 c1 => ?_)))))
  replace z1 : IsZip g1 z TI TO .ellipsis := z1
  refine wpAny_bind ?_
  simp only [List.zipIdx_cons, List.zipIdx_nil, List.forIn_cons, List.forIn_nil]
  refine wpAny_bind (wpAny_bind (wpAny_onRaise ?_))
  show wpAny _ _ (Builtin.SmallTypes.nextOf (.ref i1) >>= _) _ _ _
  refine wpAny_bind (drawA_item (h1.at fun o e => c1.extBut _ _ D.i1z e) (hl1.at fun o e => c1.extBut _ _ D.l1z e) hx fun g2 h12 c2 => wpAny_pure ?_)
  have o2 : IsPair g2 TO a b := c2.extBut _ _ D.TOi1 (c1.extBut _ _ D.TOz hTO)
  refine wpAny_bind (wpAny_seqItems o2 rfl (wpAny_bind (wpAny_updateSeq_pair o2 fun g3 o3 c3 => ?_)))
  replace o3 : IsPair g3 TO x b := o3
  refine wpAny_bind (wpAny_letGo (wpAny_pure (wpAny_bind (wpAny_bind (wpAny_onRaise ?_)))))
  show wpAny _ _ (Builtin.SmallTypes.nextOf (.ref i2) >>= _) _ _ _
  refine wpAny_bind (drawA_item (((h2.at fun o e => c1.extBut _ _ D.i2z e).at fun o e => c2.extBut _ _ D.i12.symm e).at fun o e => c3.extBut _ _ D.TOi2.symm e)
    (((hl2.at fun o e => c1.extBut _ _ D.l2z e).at fun o e => c2.extBut _ _ D.l2i1 e).at fun o e => c3.extBut _ _ D.l2TO e) hy fun g4 h24 c4 => wpAny_pure ?_)
  have o4 : IsPair g4 TO x b := c4.extBut _ _ D.TOi2 o3
  refine wpAny_bind (wpAny_seqItems o4 rfl (wpAny_bind (wpAny_updateSeq_pair o4 fun g5 o5 c5 => ?_)))
  replace o5 : IsPair g5 TO x y := o5
  refine wpAny_bind (wpAny_letGo (wpAny_pure (wpAny_pure (wpAny_bind (wpAny_seqItems o5 rfl (wpAny_bind (wpAny_newTuple ?_)))))))
  have sz : g5.objs.size = s.heap.objs.size := by rw [c5.1, c4.1, c3.1, c2.1, c1.1]
  have z5 : IsZip g5 z TI TO .ellipsis := c5.extBut _ _ D.TOz.symm (c4.extBut _ _ D.i2z.symm (c3.extBut _ _ D.TOz.symm (c2.extBut _ _ D.i1z.symm z1)))
  have k5 : ∀ c o, c ≠ z → c ≠ TO → c ≠ i1 → c ≠ i2 → s.heap.get? c = some o → g5.get? c = some o := fun c o n1 n2 n3 n4 e => c5.extBut _ _ n2 (c4.extBut _ _ n4 (c3.extBut _ _ n2 (c2.extBut _ _ n3 (c1.extBut _ _ n1 e))))
  have h15 : ItA k g5 i1 l1 (n + 1) := ((h12.at fun o e => c3.extBut _ _ D.TOi1.symm e).at fun o e => c4.extBut _ _ D.i12 e).at fun o e => c5.extBut _ _ D.TOi1.symm e
  have h25 : ItA k g5 i2 l2 (n + 1) := h24.at fun o e => c5.extBut _ _ D.TOi2.symm e
  have zlt : z < g5.objs.size := Heap.lt_size z5
  show wpAny _ _ (Builtin.SmallTypes.ownedTupleHandOut (.ref z) (.ref g5.objs.size) >>= _) _ _ _
  refine wpAny_bind ?_
  unfold Builtin.SmallTypes.ownedTupleHandOut
  have z6 : IsZip (g5.push { cls := .type "tuple", data := .seq #[x, y] }) z TI TO .ellipsis := Heap.get?_push_of_some _ z5
  refine wpAny_bind (wpAny_setField_rec z6 (by simp) fun g7 z7 c7 => ?_)
  replace z7 : IsZip g7 z TI TO (rawInt g5.objs.size) := z7
  refine wpAny_setField_rec z7 (by simp) fun g8 z8 c8 => ?_
  replace z8 : IsZip g8 z TI TO (rawInt g5.objs.size) := z8
  have up : ∀ c o, c ≠ z → g5.get? c = some o → g8.get? c = some o := fun c o n1 e => c8.extBut _ _ n1 (c7.extBut _ _ n1 (Heap.get?_push_of_some _ e))
  have t8 : IsPair g8 g5.objs.size x y := c8.extBut _ _ (Nat.ne_of_gt zlt) (c7.extBut _ _ (Nat.ne_of_gt zlt) (Heap.get?_push_size _ rfl))
  rw [sz] at z8 t8
  refine wpAny_pure ⟨_, rfl, ?_⟩
  show Q (.ref g5.objs.size) _
  rw [sz]
  exact hQ g8 z8 (up _ _ D.TOz o5) (h15.at fun o e => up _ o D.i1z e) (h25.at fun o e => up _ o D.i2z e) t8 fun c o n1 n2 n3 n4 e => up c o n1 (k5 c o n1 n2 n3 n4 e)
theorem zipA_end {k : Bool} {z TI TO i1 i2 l1 l2 : Addr} {n : Nat} {xs ys : Array Value} {Q : Fin → Shared → Prop} (hh : A.handled = none) (D : ZipApart z TI TO i1 i2 l1 l2) (st : ZipSt k s.heap z TI TO i1 i2 l1 l2 n)
    (hl1 : SqA k s.heap l1 xs) (hl2 : SqA k s.heap l2 ys) (hend : xs[n]? = none ∨ ys[n]? = none)
    (hE : ∀ h' e, (∀ c o, c ≠ z → c ≠ TO → c ≠ i1 → c ≠ i2 → s.heap.get? c = some o → h'.get? c = some o) → (∃ o, h'.get? e = some o ∧ o.cls = .type "StopIteration") → E (.ref e) { s with heap := h' }) :
    wpAny (model prog w) A (Builtin.«zip.__next__» ⟨[.ref z], []⟩) Q E s := by
  obtain ⟨hz, hTI, ⟨a, b, hTO⟩, h1, h2⟩ := st
  show wpAny _ _ (field (.ref z) 2 >>= _) _ _ _
  refine wpAny_bind (wpAny_field hz rfl (x := .bool false) rfl ?_)
  show wpAny _ _ (field (.ref z) 3 >>= _) _ _ _
  refine wpAny_bind (wpAny_field hz rfl (x := .ref TI) rfl (wpAny_bind (wpAny_seqItems hTI rfl ?_)))
  show wpAny _ _ (Builtin.SmallTypes.ownedTupleIsFree (.ref z) >>= _) _ _ _
  refine wpAny_bind ?_
  unfold Builtin.SmallTypes.ownedTupleIsFree
  refine wpAny_bind (wpAny_field hz rfl (x := .none) rfl (wpAny_pure ?_))
  simp only [if_true]
  refine wpAny_bind (wpAny_rule (wpAny_bind (wpAny_field hz rfl (x := .ref TO) rfl (wpAny_bind (wpAny_setField_rec hz (by simp) fun g1 z1 c1 => ?_)))))
  replace z1 : IsZip g1 z TI TO .ellipsis := z1
  refine wpAny_bind ?_
  simp only [List.zipIdx_cons, List.zipIdx_nil, List.forIn_cons, List.forIn_nil]
  refine wpAny_bind (wpAny_bind (wpAny_onRaise ?_))
  show wpAny _ _ (Builtin.SmallTypes.nextOf (.ref i1) >>= _) _ _ _
  cases hx : xs[n]? with
  | none =>
    refine wpAny_bind (drawA_end hh (h1.at fun o e => c1.extBut _ _ D.i1z e) (hl1.at fun o e => c1.extBut _ _ D.l1z e) hx fun g2 e c2 he => ?_)
    obtain ⟨oe, hoe, hce⟩ := he
    have z2 : IsZip g2 z TI TO .ellipsis := c2 _ _ D.i1z.symm z1
    have hez : e ≠ z := fun x => by subst x; rw [z2] at hoe; cases hoe; simp at hce
    exact wpAny_setField_rec z2 (by simp) fun g3 _ c3 => hE g3 e (fun c o n1 _ n3 _ x => c3.extBut _ _ n1 (c2 _ _ n3 (c1.extBut _ _ n1 x))) ⟨oe, c3.extBut _ _ hez hoe, hce⟩
  | some x =>
    have hy : ys[n]? = none := by rcases hend with h | h; (rw [hx] at h; cases h); exact h
    refine wpAny_bind (drawA_item (h1.at fun o e => c1.extBut _ _ D.i1z e) (hl1.at fun o e => c1.extBut _ _ D.l1z e) hx fun g2 h12 c2 => wpAny_pure ?_)
    have o2 : IsPair g2 TO a b := c2.extBut _ _ D.TOi1 (c1.extBut _ _ D.TOz hTO)
    refine wpAny_bind (wpAny_seqItems o2 rfl (wpAny_bind (wpAny_updateSeq_pair o2 fun g3 o3 c3 => ?_)))
    refine wpAny_bind (wpAny_letGo (wpAny_pure (wpAny_bind (wpAny_bind (wpAny_onRaise ?_)))))
    show wpAny _ _ (Builtin.SmallTypes.nextOf (.ref i2) >>= _) _ _ _
    refine wpAny_bind (drawA_end hh (((h2.at fun o e => c1.extBut _ _ D.i2z e).at fun o e => c2.extBut _ _ D.i12.symm e).at fun o e => c3.extBut _ _ D.TOi2.symm e)
      (((hl2.at fun o e => c1.extBut _ _ D.l2z e).at fun o e => c2.extBut _ _ D.l2i1 e).at fun o e => c3.extBut _ _ D.l2TO e) hy fun g4 e c4 he => ?_)
    obtain ⟨oe, hoe, hce⟩ := he
    have z4 : IsZip g4 z TI TO .ellipsis := c4 _ _ D.i2z.symm (c3.extBut _ _ D.TOz.symm (c2.extBut _ _ D.i1z.symm z1))
    have hez : e ≠ z := fun x => by subst x; rw [z4] at hoe; cases hoe; simp at hce
    exact wpAny_setField_rec z4 (by simp) fun g5 _ c5 => hE g5 e (fun c o n1 n2 n3 n4 x => c5.extBut _ _ n1 (c4 _ _ n4 (c3.extBut _ _ n2 (c2.extBut _ _ n3 (c1.extBut _ _ n1 x))))) ⟨oe, c5.extBut _ _ hez hoe, hce⟩
theorem nextA_item {k : Bool} {z TI TO i1 i2 l1 l2 : Addr} {n : Nat} {xs ys : Array Value} {x y : Value} {Q : Option Value → Shared → Prop} (D : ZipApart z TI TO i1 i2 l1 l2) (st : ZipSt k s.heap z TI TO i1 i2 l1 l2 n)
    (hl1 : SqA k s.heap l1 xs) (hl2 : SqA k s.heap l2 ys) (hx : xs[n]? = some x) (hy : ys[n]? = some y)
    (hQ : ∀ h', IsZip h' z TI TO (rawInt s.heap.objs.size) → IsPair h' TO x y → ItA k h' i1 l1 (n + 1) → ItA k h' i2 l2 (n + 1) → IsPair h' s.heap.objs.size x y →
      (∀ c o, c ≠ z → c ≠ TO → c ≠ i1 → c ≠ i2 → s.heap.get? c = some o → h'.get? c = some o) → Q (some (.ref s.heap.objs.size)) { s with heap := h' }) : wpAny (model prog w) A (pyNext (.ref z)) Q E s := by
  have hT : s.TypeIs (.ref z) "zip" := ⟨_, st.z, rfl⟩
  unfold pyNext
  exact wpAny_bind (wpAny_attempt (wpAny_callSpecial?_slot (name := Str.ofString "__next__") hT F.slot_zip_next (wpAny_call_entry F.slot_zip_next hT F.entry_zip_next
    (zipA_item D st hl1 hl2 hx hy fun h' a1 a2 a3 a4 a5 a7 => wpAny_pure (hQ h' a1 a2 a3 a4 a5 a7)) (F.args_zip_next_1 _))))
theorem nextA_end {k : Bool} {z TI TO i1 i2 l1 l2 : Addr} {n : Nat} {xs ys : Array Value} {Q : Option Value → Shared → Prop} (hh : A.handled = none) (D : ZipApart z TI TO i1 i2 l1 l2) (st : ZipSt k s.heap z TI TO i1 i2 l1 l2 n)
    (hl1 : SqA k s.heap l1 xs) (hl2 : SqA k s.heap l2 ys) (hend : xs[n]? = none ∨ ys[n]? = none)
    (hQ : ∀ h', (∀ c o, c ≠ z → c ≠ TO → c ≠ i1 → c ≠ i2 → s.heap.get? c = some o → h'.get? c = some o) → Q none { s with heap := h' }) : wpAny (model prog w) A (pyNext (.ref z)) Q E s := by
  have hT : s.TypeIs (.ref z) "zip" := ⟨_, st.z, rfl⟩
  unfold pyNext
  refine wpAny_bind (wpAny_attempt (wpAny_callSpecial?_slot (name := Str.ofString "__next__") hT F.slot_zip_next (wpAny_call_entry F.slot_zip_next hT F.entry_zip_next
    (zipA_end hh D st hl1 hl2 hend fun h' e hk he => ?_) (F.args_zip_next_1 _))))
  obtain ⟨o, ho, hc⟩ := he
  exact wpAny_bind (wpAny_isInstance (T := "StopIteration") (b := true) ⟨o, ho, hc⟩ isSubtype_stop (wpAny_pure (hQ _ hk)))
end
abbrev zH1 (k : Bool) (h : Heap) (l1 : Addr) : Heap := h.push (itObj k l1)
abbrev zH2 (k : Bool) (h : Heap) (l1 l2 : Addr) : Heap := (zH1 k h l1).push (itObj k l2)
abbrev zH3 (k : Bool) (h : Heap) (l1 l2 : Addr) : Heap := (zH2 k h l1 l2).push { cls := .type "tuple", data := .seq #[.ref h.objs.size, .ref (zH1 k h l1).objs.size] }
abbrev zH4 (k : Bool) (h : Heap) (l1 l2 : Addr) : Heap := (zH3 k h l1 l2).push { cls := .type "tuple", data := .seq #[.none, .none] }
abbrev zH5 (k : Bool) (h : Heap) (l1 l2 : Addr) : Heap := (zH4 k h l1 l2).push { cls := .type "zip", data := .fields #[.none, .bool false, .bool false, .ref (zH2 k h l1 l2).objs.size, .ref (zH3 k h l1 l2).objs.size] }
theorem meets_zipA (k : Bool) (l1 l2 : Addr) (xs ys : Array Value) :
    Meets (Builtin.«zip.__new__» ⟨[.type "zip", .ref l1, .ref l2], []⟩) (fun _ R s => SqA k s.heap l1 xs ∧ SqA k s.heap l2 ys ∧ R (.ok (.ret (.ref (zH4 k s.heap l1 l2).objs.size))) { s with heap := zH5 k s.heap l1 l2 }) :=
  .of_wp fun prog w A R s h => by
    obtain ⟨hp, g, d, tk, os⟩ := s; obtain ⟨hl1, hl2, h⟩ := h
    have hsub := sub_zip
    have hL1 : SqA k (Shared.heap ⟨hp, g, d, tk, os⟩) l1 xs := hl1
    have hL2 : SqA k (Shared.heap ⟨hp.push (itObj k l1), g, d, tk, os⟩) l2 ys := hl2.at fun o e => Heap.get?_push_of_some _ e
    wp_walk using iterA hL1, iterA hL2
    exact ⟨_, rfl, h⟩
section
variable {prog : Program} {w : World} {A : Around} {E : Value → Shared → Prop} {s : Shared}
theorem call_zipA {k : Bool} {l1 l2 : Addr} {xs ys : Array Value} {Q : Value → Shared → Prop} (hl1 : SqA k s.heap l1 xs) (hl2 : SqA k s.heap l2 ys)
    (h : ∀ h', ZipSt k h' (s.heap.objs.size + 4) (s.heap.objs.size + 2) (s.heap.objs.size + 3) s.heap.objs.size (s.heap.objs.size + 1) l1 l2 0 → (∀ c o, s.heap.get? c = some o → h'.get? c = some o) → Q (.ref (s.heap.objs.size + 4)) { s with heap := h' }) :
    wpAny (model prog w) A (call (.type "zip") [.ref l1, .ref l2]) Q E s := by
  refine callType_new F.called_zip (by decide) (F.typeCall_zip_2 _ _) (F.newCall_zip_2 _ _) (fun obj => F.args_object_init_3 obj _ _) F.entry_zip_new (meets_zipA k l1 l2 xs ys) ⟨hl1, hl2, ?_⟩
  have z1 : (zH1 k s.heap l1).objs.size = s.heap.objs.size + 1 := Heap.size_push ..
  have z2 : (zH2 k s.heap l1 l2).objs.size = s.heap.objs.size + 2 := by rw [Heap.size_push, z1]
  have z3 : (zH3 k s.heap l1 l2).objs.size = s.heap.objs.size + 3 := by rw [Heap.size_push, z2]
  have z4 : (zH4 k s.heap l1 l2).objs.size = s.heap.objs.size + 4 := by rw [Heap.size_push, z3]
  have g5 : (zH5 k s.heap l1 l2).get? (zH4 k s.heap l1 l2).objs.size = some _ := Heap.get?_push_size _ rfl
  have g4 : (zH5 k s.heap l1 l2).get? (zH3 k s.heap l1 l2).objs.size = some _ := Heap.get?_push_of_some _ (Heap.get?_push_size _ rfl)
  have g3 : (zH5 k s.heap l1 l2).get? (zH2 k s.heap l1 l2).objs.size = some _ := Heap.get?_push_of_some _ (Heap.get?_push_of_some _ (Heap.get?_push_size _ rfl))
  have g2 : (zH5 k s.heap l1 l2).get? (zH1 k s.heap l1).objs.size = some (itObj k l2) := Heap.get?_push_of_some _ (Heap.get?_push_of_some _ (Heap.get?_push_of_some _ (Heap.get?_push_size _ rfl)))
  have g1 : (zH5 k s.heap l1 l2).get? s.heap.objs.size = some (itObj k l1) := Heap.get?_push_of_some _ (Heap.get?_push_of_some _ (Heap.get?_push_of_some _ (Heap.get?_push_of_some _ (Heap.get?_push_size _ rfl))))
  show _ ∧ _
  rw [z2, z3, z4] at g5
  rw [z1, z2] at g3
  rw [z3] at g4
  rw [z1] at g2
  rw [z4]
  refine ⟨⟨_, g5, rfl⟩, h _ ⟨g5, g3, ⟨_, _, g4⟩, ?_, ?_⟩ fun c o x => Heap.get?_push_of_some _ (Heap.get?_push_of_some _ (Heap.get?_push_of_some _ (Heap.get?_push_of_some _ (Heap.get?_push_of_some _ x))))⟩
  · cases k
    · exact ⟨_, g1, rfl, rfl⟩
    · exact ⟨_, g1, rfl, rfl⟩
  · cases k
    · exact ⟨_, g2, rfl, rfl⟩
    · exact ⟨_, g2, rfl, rfl⟩
end
/-- a list or a tuple that is read -/
def SqB (K : PySem.W.Frag) (k : Bool) (H : Hp) (a : Addr) (xs : List V) : Prop := match k with
  | true => SqL K H a xs
  | false => SqT K H a xs
theorem sqB_at {X : Cx} {pins : List (Addr × Obj)} {σ : L2.St} {H : Hp} {s : Shared} {k : Bool} {a : Addr} {xs : List V} (I : Inv X pins σ H s) (h : SqB X.K k H a xs) : ∃ its : List Value, Vals xs its ∧ SqA k s.heap a its.toArray ∧ xs.length ≤ sizeLine := by
  cases k
  · obtain ⟨its, r, p, z⟩ := I.tuple h
    exact ⟨its, r, p, z⟩
  · obtain ⟨its, r, p, z⟩ := I.list h
    exact ⟨its, r, p.isList, z⟩
theorem sqB_inj {X : Cx} {pins : List (Addr × Obj)} {σ : L2.St} {H : Hp} {s : Shared} {k : Bool} {a : Addr} {xs ys : List V} (I : Inv X pins σ H s) (h : SqB X.K k H a xs) (h' : SqB X.K k H a ys) : xs = ys := by
  cases k
  · exact I.tuple_inj h h'
  · exact I.list_inj h h'
theorem sqA_lt {k : Bool} {h : Heap} {a : Addr} {xs : Array Value} (x : SqA k h a xs) : a < h.objs.size := by
  cases k
  · obtain ⟨o, ho, _⟩ := x; exact Heap.lt_size ho
  · obtain ⟨o, ho, _⟩ := x; exact Heap.lt_size ho
def Itz (K : PySem.W.Frag) (k : Bool) (a1 a2 : Addr) : It :=
  ⟨fun i H => ∃ xs ys x y, SqB K k H a1 xs ∧ SqB K k H a2 ys ∧ xs[i]? = some x ∧ ys[i]? = some y,
   fun i H v H' => ∃ p x y, H p = none ∧ v = .ref p ∧ H' = upd H p (.tup [x, y]) ∧ (∀ xs, SqB K k H a1 xs → xs[i]? = some x) ∧ ∀ ys, SqB K k H a2 ys → ys[i]? = some y,
   fun i H => ∃ xs ys, SqB K k H a1 xs ∧ SqB K k H a2 ys ∧ (xs.length ≤ i ∨ ys.length ≤ i)⟩
theorem turn_zip {P : Program} {w : World} {K : PySem.W.Frag} {elts : List Expr} {x1 : Nat} {tpos : Pos} {k : Bool} {z TI TO i1 i2 l1 l2 : Addr} (D : ZipApart z TI TO i1 i2 l1 l2) :
    Turn P w K (.Tuple elts x1 tpos) (Itz K k l1 l2) [z, TI, TO, i1, i2] z (fun i h => ZipSt k h z TI TO i1 i2 l1 l2 i) where
  mem := by simp
  obj := fun i h st b hb => by
    obtain ⟨hz, hTI, ⟨a, c, hTO⟩, h1, h2⟩ := st
    simp only [List.mem_cons, List.not_mem_nil, or_false] at hb
    rcases hb with rfl | rfl | rfl | rfl | rfl
    · exact ⟨_, hz, fun v e => by cases e⟩
    · exact ⟨_, hTI, fun v e => by cases e⟩
    · exact ⟨_, hTO, fun v e => by cases e⟩
    · exact h1.obj
    · exact h2.obj
  keep := fun i h h' st kk => by
    obtain ⟨hz, hTI, ⟨a, c, hTO⟩, h1, h2⟩ := st
    exact ⟨kk z (by simp) _ hz, kk TI (by simp) _ hTI, ⟨a, c, kk TO (by simp) _ hTO⟩, h1.at fun o e => kk i1 (by simp) o e, h2.at fun o e => kk i2 (by simp) o e⟩
  item := by
    intro X hP hw hK hc i pins s σ H E I hf st hg
    subst hP hw hK
    obtain ⟨xs, ys, x, y, q1, q2, e1, e2⟩ := hg
    obtain ⟨us, r1, p1, _⟩ := sqB_at I q1
    obtain ⟨vs, r2, p2, _⟩ := sqB_at I q2
    obtain ⟨u, eu, ru⟩ := r1.get e1
    obtain ⟨v, ev, rv⟩ := r2.get e2
    refine nextA_item (x := u) (y := v) D st p1 p2 (by simpa using eu) (by simpa using ev) fun h' g1 g2 g3 g4 g5 g7 => ?_
    refine ⟨_, rfl, wpAny_letOwnedTupleGo_zip g1 fun h2 hz2 c2 => ?_⟩
    have ne : ∀ {b o}, s.heap.get? b = some o → s.heap.objs.size ≠ b := fun e => Nat.ne_of_gt (Heap.lt_size e)
    have k2 : ∀ b o, b ∉ [z, TI, TO, i1, i2] → s.heap.get? b = some o → h2.get? b = some o := fun b o hb e => by
      simp only [List.mem_cons, List.not_mem_nil, or_false, not_or] at hb
      exact c2.extBut _ _ hb.1 (g7 b o hb.1 hb.2.2.1 hb.2.2.2.1 hb.2.2.2.2 e)
    have I2 : Inv X pins σ (upd H s.heap.objs.size (.tup [x, y])) { s with heap := h2, toks := s.toks } :=
      adopt I k2 hf (Nat.le_refl _) (by show 2 ≤ sizeLine; decide) (.cons ru (.cons rv .nil)) ⟨_, c2.extBut _ _ (ne st.z) g5, rfl, _, rfl⟩
    refine ⟨.ref s.heap.objs.size, _, I2, rfl, ⟨_, x, y, I.hok.fresh (Nat.le_refl _), rfl, rfl, fun xs' q => ?_, fun ys' q => ?_⟩, ?_, fun b hb => ?_⟩
    · rw [sqB_inj I q q1]; exact e1
    · rw [sqB_inj I q q2]; exact e2
    · exact ⟨hz2, c2.extBut _ _ D.TIz (g7 _ _ D.TIz D.TITO D.TIi1 D.TIi2 st.ti), ⟨u, v, c2.extBut _ _ D.TOz g2⟩, g3.at fun o e => c2.extBut _ _ D.i1z e, g4.at fun o e => c2.extBut _ _ D.i2z e⟩
    · have hlt : ∃ o, s.heap.get? b = some o := by
        obtain ⟨hz, hTI, ⟨a, c, hTO⟩, h1, h2⟩ := st
        simp only [List.mem_cons, List.not_mem_nil, or_false] at hb
        rcases hb with rfl | rfl | rfl | rfl | rfl
        · exact ⟨_, hz⟩
        · exact ⟨_, hTI⟩
        · exact ⟨_, hTO⟩
        · exact h1.obj.imp fun _ e => e.1
        · exact h2.obj.imp fun _ e => e.1
      obtain ⟨o, e⟩ := hlt
      rw [upd_ne (ne e).symm]
      exact (hf b hb).1
  done := by
    intro X hP hw hK hc i pins s σ H E I hf st hg
    subst hP hw hK
    obtain ⟨xs, ys, q1, q2, e⟩ := hg
    obtain ⟨us, r1, p1, _⟩ := sqB_at I q1
    obtain ⟨vs, r2, p2, _⟩ := sqB_at I q2
    have l1 := r1.length
    have l2 := r2.length
    refine nextA_end (I.ok.hd hc) D st p1 p2 (e.imp (fun e => by simp; omega) (fun e => by simp; omega)) fun h' kk => ⟨rfl, turnedN (t' := s.toks) (ch := [z, TI, TO, i1, i2]) I (fun b o hb e => ?_) hf⟩
    simp only [List.mem_cons, List.not_mem_nil, or_false, not_or] at hb
    exact kk b o hb.1 hb.2.2.1 hb.2.2.2.1 hb.2.2.2.2 e
  self := fun _ _ _ _ _ st h => wpAny_pyIter_zip st.z h
def iZip (K : PySem.W.Frag) (ta : TA) : TI := fun σ H R => ta σ H fun vs H1 => ∃ k a1 a2 xs ys, vs = [.ref a1, .ref a2] ∧ SqB K k H1 a1 xs ∧ SqB K k H1 a2 ys ∧ R (Itz K k a1 a2) H1
theorem pi_zip {X : Cx} {elts : List Expr} {x1 : Nat} {tpos : Pos} {a b : Expr} {ta : TA} {p pos : Pos} (hg : Gl X "zip") (hm : X.mg "zip" = none) (ha : PA X [a, b] ta)
    (hs : starEach [a, b] X.env = [(false, eval a X.env), (false, eval b X.env)] := by rfl) (hs2 : starEach [b] X.env = [(false, eval b X.env)] := by rfl) : PI X (.Tuple elts x1 tpos) (.Call (.Name "zip" p) [a, b] [] pos) (iZip X.K ta) := by
  intro pins s σ H R I h
  refine Call_ (ld_blt I hg hm boot_zip (PyProof.Rows.callWith_type1 (thn (ha pos pins s σ H _ I h) fun us s1 ⟨vs, H1, I1, r1, q1⟩ => ?_) (by rw [hs, hs2]) (by rw [hs2]; rfl)))
  obtain ⟨k, a1, a2, xs, ys, e, q1, q2, q⟩ := q1
  subst e
  obtain ⟨u1, u2, rfl, e1, e2⟩ := r1.two
  cases (show u1 = Value.ref a1 from e1)
  cases (show u2 = Value.ref a2 from e2)
  obtain ⟨us, rr1, p1, _⟩ := sqB_at I1 q1
  obtain ⟨ws, rr2, p2, _⟩ := sqB_at I1 q2
  have b1 := sqA_lt p1
  have b2 := sqA_lt p2
  refine call_zipA p1 p2 fun h' st kk => wpAny_pyIter_zip st.z ?_
  have I2 : Inv X pins σ H1 { s1 with heap := h', toks := s1.toks } := I1.kept kk
  refine ⟨_, _, _, _, H1, rfl, I2, turn_zip (zipApart_new b1 b2), st, fun b hb => ?_, q⟩
  have hb' : s1.heap.objs.size ≤ b := by
    simp only [List.mem_cons, List.not_mem_nil, or_false] at hb
    rcases hb with rfl | rfl | rfl | rfl | rfl
    · exact Nat.le_add_right _ _
    · exact Nat.le_add_right _ _
    · exact Nat.le_add_right _ _
    · exact Nat.le_refl _
    · exact Nat.le_add_right _ _
  exact I1.fpOk hb' (I1.hok.fresh hb')
theorem for_zip {K : PySem.W.Frag} {k : Bool} {a1 a2 : Addr} {xs ys : List V} {g : TG} {tb : TS} {D : Ends} {σ : L2.St} {H : Hp} (Pv : Nat → L2.St → Hp → Prop) (hn : xs.length = ys.length) (h0 : Pv 0 σ H)
    (hl : ∀ i σ H, i ≤ xs.length → Pv i σ H → SqB K k H a1 xs ∧ SqB K k H a2 ys)
    (hs : ∀ i x y p σ H, xs[i]? = some x → ys[i]? = some y → H p = none → Pv i σ H → g (.ref p) σ (upd H p (.tup [x, y])) fun σ2 H2 => tb { D with nx := Pv (i + 1), ct := Pv (i + 1), bk := D.nx } σ2 H2) (hd : ∀ σ H, Pv xs.length σ H → D.nx σ H) :
    ∃ W : Nat → Nat → L2.St → Hp → Prop, (∃ m, W 0 m σ H) ∧ ∀ i m σ H, W i m σ H →
      ((Itz K k a1 a2).stop i H ∧ D.nx σ H) ∨ ((Itz K k a1 a2).go i H ∧ ∃ N : L2.St → Hp → Prop, (∀ σ' H', N σ' H' → ∃ m', m' < m ∧ W (i + 1) m' σ' H') ∧ ∀ x H', (Itz K k a1 a2).yld i H x H' → g x σ H' fun σ2 H2 => tb { D with nx := N, ct := N, bk := D.nx } σ2 H2) := by
  refine ⟨fun i m σ H => m = xs.length - i ∧ i ≤ xs.length ∧ Pv i σ H, ⟨xs.length, by simp, Nat.zero_le _, h0⟩, ?_⟩
  rintro i m σ H ⟨rfl, hi, p⟩
  obtain ⟨q1, q2⟩ := hl i σ H hi p
  by_cases hlt : i < xs.length
  · have hlt2 : i < ys.length := by omega
    refine .inr ⟨⟨xs, ys, xs[i], ys[i], q1, q2, by simp [hlt], by simp [hlt2]⟩, Pv (i + 1), fun σ' H' p' => ⟨xs.length - (i + 1), by omega, rfl, hlt, p'⟩, fun x H' y => ?_⟩
    obtain ⟨a, x', y', hn', rfl, rfl, e1, e2⟩ := y
    exact hs i x' y' a σ _ (e1 xs q1) (e2 ys q2) hn' p
  · have e : i = xs.length := by omega
    subst e
    exact .inl ⟨⟨xs, ys, q1, q2, .inl (Nat.le_refl _)⟩, hd σ H p⟩

/-! ### range(a, b) as a thing, list(range(a, b)) -/
section
variable {X : Cx}
end

/-! ### // by any divisor of some size; sum of a list of ints -/
section
variable {X : Cx}
theorem log2_big {j : Int} (h0 : 0 < j) (h1 : j < 10 ^ 70) : j.natAbs.log2 < 9000 := by
  have h : j.natAbs < 2 ^ 9000 := Nat.lt_trans (show j.natAbs < 10 ^ 70 by omega) (by decide +kernel)
  exact (Nat.log2_lt (by omega)).mpr h
theorem op_fdivB : OpR X (binaryOp .FloorDiv) (rI (fun _ j => 0 < j ∧ j < 10 ^ 70) fun i j => .int (i / j)) := opI fun i j _ _ _ _ _ hc q => by
  have h1 : (0 : Int) < j := hc.1
  exact floordiv_int (by omega) (by rw [Int.fdiv_eq_ediv_of_nonneg i (by omega)]; exact q) (.inl (PyProof.noPylong_of_log2 (log2_big hc.1 hc.2)))
end

/-! ### two lists of the very same values compared -/
section
variable {X : Cx}
end
end InkX

namespace Ink
/-- rows: pairs of ints -/
abbrev Row := List (Int × Int)
/-- the last pair grown, or one more -/
def grow (t : Row) (s e : Int) : Row :=
  match t.getLast? with
  | some p => if p.2 = s then t.dropLast ++ [(p.1, e)] else t ++ [(s, e)]
  | none => t ++ [(s, e)]
/-- s, s+1, .., n of them -/
def run (s : Int) : Nat → List Int
  | 0 => []
  | n + 1 => s :: run (s + 1) n
def span (p : Int × Int) : List Int := run p.1 (p.2 - p.1).toNat
def spell (r : Row) : List Int := r.flatMap span
end Ink

namespace Ink
/-! ### sizes and places -/
theorem take_snoc {α : Type} {l : List α} {i : Nat} {x : α} (h : l[i]? = some x) : l.take (i + 1) = l.take i ++ [x] := by rw [List.take_add_one, h]; rfl
end Ink
namespace Ink
end Ink
namespace Ink
end Ink

namespace Ink
open PySem L2 InkX

/-! ### a def of the text, called by its promise -/
structure DefAt (K : PySem.W.Frag) (mg : Str → Option Value) (x : Str) (st : Stmt) (ps : List Str) (a : Addr) (d : FuncData) : Prop where
  F : Fun K x x st a d
  b : Binds K d ps []
  m : mg x = some (.ref a)
section
variable {X : Cx}
theorem pe_def {x : Str} {st : Stmt} {ps : List Str} {f : Addr} {fd : FuncData} {j k : Nat} {sp : Sp} {e : Expr} {es : List Expr} {t : TA} {p pos : Pos} (d : DefAt X.K X.mg x st ps f fd) (G : FnOk X.prog X.w X.K X.mg X.base CX0 k f fd ps sp) (hr : Room j X.A)
    (ha : PA X (e :: es) t) (hjk : k ≤ j := by first | decide | omega) (hg : Gl X x := by rfl) (hdb : (x == ("__debug__" : Str)) = false := by decide) (he : starEach (e :: es) X.env = (false, eval e X.env) :: starEach es X.env := by rfl)
    (hpl : (backTo pos (starEach es X.env)).any (·.1) = false := by rfl) : PE X (.Call (.Name x p) (e :: es) [] pos) (tCall sp [] E0 t) :=
  pe_call G (hr.mono hjk) hg d.m d.F.kp d.b .nil pass0 ha hdb he hpl
theorem ps_imp {st : Stmt} {t t' : TS} (h : PS X st t) (hi : ∀ D σ H, t' D σ H → t D σ H) : PS X st t' := fun pins s σ H D I q => h pins s σ H D I (hi D σ H q)
end

/-! ### heaps -/
/-- all but what stands at l is as it was -/
def Keep (l : Addr) (H H' : Hp) : Prop := ∀ a o, H a = some o → a ≠ l → H' a = some o
theorem Same.keep {l : Addr} {H H' : Hp} (s : Same H H') : Keep l H H' := fun a o e _ => s a o e
theorem Keep.refl (l : Addr) (H : Hp) : Keep l H H := fun _ _ e _ => e
theorem Keep.trans {l : Addr} {H H1 H2 : Hp} (a : Keep l H H1) (b : Keep l H1 H2) : Keep l H H2 := fun c o e n => b c o (a c o e n) n
theorem keep_upd (l : Addr) (H : Hp) (o : HO) : Keep l H (upd H l o) := fun a u e n => by rw [upd_ne n]; exact e
theorem keep_of {l : Addr} {H H1 H2 : Hp} (h : H l = none) (a : Same H H1) (b : Keep l H1 H2) : Same H H2 := fun c o e => b c o (a c o e) (ne_of_none e h)
theorem same_new {H : Hp} {p : Addr} (h : H p = none) (o : HO) : Same H (upd H p o) := fun b u q => by rw [upd_ne (ne_of_none q h)]; exact q
theorem free_keep {l a : Addr} {H H' : Hp} (k : Keep l H H') (n : a ≠ l) (h : H' a = none) : H a = none := by
  cases q : H a with
  | none => rfl
  | some o => rw [k a o q n] at h; cases h
/-! ### the reader of a script: a list of the cells, a place, a rest, a mix -/
def SrcOk (H : Hp) (l c : Addr) : Prop := c ≠ l ∧ ∃ (ns : List Int) (i d r : Int), H l = some (.lst [.ref c, .int i, .int d, .int r]) ∧ H c = some (.lst (ns.map V.int)) ∧ 0 ≤ i ∧ 0 ≤ r ∧ r < 2147483647
theorem SrcOk.same {H H' : Hp} {l c : Addr} (s : SrcOk H l c) (k : Same H H') : SrcOk H' l c := by
  obtain ⟨n, ns, i, d, r, h1, h2, h3⟩ := s
  exact ⟨n, ns, i, d, r, k _ _ h1, k _ _ h2, h3⟩
theorem SrcOk.keep {H H' : Hp} {l c m : Addr} (s : SrcOk H l c) (k : Keep m H H') (h1 : l ≠ m) (h2 : c ≠ m) : SrcOk H' l c := by
  obtain ⟨n, ns, i, d, r, e1, e2, h3⟩ := s
  exact ⟨n, ns, i, d, r, k _ _ e1 h1, k _ _ e2 h2, h3⟩
theorem SrcOk.ne {H : Hp} {l c a : Addr} (s : SrcOk H l c) (h : H a = none) : l ≠ a ∧ c ≠ a := by
  obtain ⟨n, ns, i, d, r, e1, e2, h3⟩ := s
  exact ⟨ne_of_none e1 h, ne_of_none e2 h⟩
theorem SrcOk.has {H : Hp} {l c : Addr} (s : SrcOk H l c) : (∃ o, H l = some o) ∧ ∃ o, H c = some o := by
  obtain ⟨n, ns, i, d, r, e1, e2, h3⟩ := s
  exact ⟨⟨_, e1⟩, ⟨_, e2⟩⟩
theorem at40 {a b c d : V} : atI [a, b, c, d] 0 = some a := rfl
theorem at41 {a b c d : V} : atI [a, b, c, d] 1 = some b := rfl
theorem at42 {a b c d : V} : atI [a, b, c, d] 2 = some c := rfl
theorem at43 {a b c d : V} : atI [a, b, c, d] 3 = some d := rfl
theorem at20 {a b : V} : atI [a, b] 0 = some a := rfl
theorem at21 {a b : V} : atI [a, b] 1 = some b := rfl
/-- the promise of the reader's step: any number below the base -/
def spNext : Sp := fun vs H Q _ => ∃ (l c : Addr) (b : Int), vs = [.ref l, .int b] ∧ SrcOk H l c ∧ 0 < b ∧ b < 10 ^ 70 ∧
  ∀ (v : Int) (H' : Hp), 0 ≤ v → v < b → SrcOk H' l c → (∀ a, a ≠ l → H' a = H a) → Q (.int v) H'
def spSrc (K : PySem.W.Frag) : Sp := fun vs H Q _ => ∃ (a : Addr) (ns : List Int), vs = [.ref a] ∧ SqL K H a (ns.map V.int) ∧
  ∀ (l c : Addr) (H' : Hp), SrcOk H' l c → Same H H' → H l = none → H c = none → Q (.ref l) H'

/-! ### the same things, to a depth -/
def flat : V → Bool
  | .int _ | .bl _ | .str _ | .non => true
  | _ => false
def AtS (k : Bool) (H : Hp) (a : Addr) (xs : List V) : Prop := match k with
  | true => H a = some (.lst xs)
  | false => H a = some (.tup xs)
theorem AtS.same {k : Bool} {H H' : Hp} {a : Addr} {xs : List V} (h : AtS k H a xs) (s : Same H H') : AtS k H' a xs := by
  cases k
  · exact s _ _ h
  · exact s _ _ h
theorem AtS.sq {K : PySem.W.Frag} {k : Bool} {H : Hp} {a : Addr} {xs : List V} (h : AtS k H a xs) : SqB K k H a xs := by
  cases k
  · exact SqT.of h
  · exact SqL.of h
def Eqv (H : Hp) : Nat → V → V → Prop
  | 0, _, _ => False
  | n + 1, x, y => (flat x = true ∧ x = y) ∨ ∃ (k : Bool) (a b : Addr) (xs ys : List V), x = .ref a ∧ y = .ref b ∧ AtS k H a xs ∧ AtS k H b ys ∧ xs.length = ys.length ∧
      ∀ (i : Nat) (u v : V), xs[i]? = some u → ys[i]? = some v → Eqv H n u v
theorem Eqv.same {H H' : Hp} (s : Same H H') : ∀ {n : Nat} {x y : V}, Eqv H n x y → Eqv H' n x y
  | 0, _, _, h => h
  | n + 1, x, y, h => by
    rcases h with h | ⟨k, a, b, xs, ys, e1, e2, h1, h2, hl, hi⟩
    · exact .inl h
    · exact .inr ⟨k, a, b, xs, ys, e1, e2, h1.same s, h2.same s, hl, fun i u v eu ev => Eqv.same s (hi i u v eu ev)⟩
theorem Eqv.int {H : Hp} {n : Nat} (i : Int) : Eqv H (n + 1) (.int i) (.int i) := .inl ⟨rfl, rfl⟩
def spSame (n : Nat) : Sp := fun vs H Q _ => ∃ x y, vs = [x, y] ∧ Eqv H n x y ∧ ∀ H', Same H H' → Q (.bl true) H'
def spWhole : Sp := fun vs H Q _ => ∃ i : Int, vs = [.int i] ∧ Q (.bl true) H
section
variable (K : PySem.W.Frag)
theorem k_bb : PySem.W.kitOne K (.type "bool") (.type "bool") = some true := by rfl
theorem k_ib : PySem.W.kitOne K (.type "int") (.type "bool") = some false := by kernel_rfl
theorem k_ii : PySem.W.kitOne K (.type "int") (.type "int") = some true := by rfl
theorem k_sb : PySem.W.kitOne K (.type "str") (.type "bool") = some false := by kernel_rfl
theorem k_si : PySem.W.kitOne K (.type "str") (.type "int") = some false := by kernel_rfl
theorem k_ss : PySem.W.kitOne K (.type "str") (.type "str") = some true := by rfl
theorem k_lb : PySem.W.kitOne K (.type "list") (.type "bool") = some false := by kernel_rfl
theorem k_li : PySem.W.kitOne K (.type "list") (.type "int") = some false := by kernel_rfl
theorem k_ls : PySem.W.kitOne K (.type "list") (.type "str") = some false := by kernel_rfl
theorem k_ll : PySem.W.kitOne K (.type "list") (.type "list") = some true := by rfl
theorem k_lt : PySem.W.kitOne K (.type "list") (.type "tuple") = some false := by kernel_rfl
theorem k_tb : PySem.W.kitOne K (.type "tuple") (.type "bool") = some false := by kernel_rfl
theorem k_ti : PySem.W.kitOne K (.type "tuple") (.type "int") = some false := by kernel_rfl
theorem k_ts : PySem.W.kitOne K (.type "tuple") (.type "str") = some false := by kernel_rfl
theorem k_tl : PySem.W.kitOne K (.type "tuple") (.type "list") = some false := by kernel_rfl
theorem k_tt : PySem.W.kitOne K (.type "tuple") (.type "tuple") = some true := by rfl
end
def tyS (k : Bool) : Value := .type (if k then "list" else "tuple")
theorem AtS.ty {K : PySem.W.Frag} {k : Bool} {H : Hp} {a : Addr} {xs : List V} (h : AtS k H a xs) : TyOf K H (.ref a) (tyS k) := by
  cases k
  · exact TyOf.tup h
  · exact TyOf.lst h
theorem k_qb (K : PySem.W.Frag) (k : Bool) : PySem.W.kitOne K (tyS k) (.type "bool") = some false := by cases k; exact k_tb K; exact k_lb K
theorem k_qi (K : PySem.W.Frag) (k : Bool) : PySem.W.kitOne K (tyS k) (.type "int") = some false := by cases k; exact k_ti K; exact k_li K
theorem k_qs (K : PySem.W.Frag) (k : Bool) : PySem.W.kitOne K (tyS k) (.type "str") = some false := by cases k; exact k_ts K; exact k_ls K
theorem k_ql (K : PySem.W.Frag) (k : Bool) : PySem.W.kitOne K (tyS k) (.type "list") = some k := by cases k; exact k_tl K; exact k_ll K
theorem k_qt (K : PySem.W.Frag) (k : Bool) : PySem.W.kitOne K (tyS k) (.type "tuple") = some (!k) := by cases k; exact k_tt K; exact k_lt K

/-! ### rows: lists of pairs -/
def PairAt (H : Hp) (a : Addr) (p : Int × Int) : Prop := H a = some (.tup [.int p.1, .int p.2])
abbrev PairsAt (H : Hp) : List Addr → Row → Prop := Paired (PairAt H)
def RowAt (H : Hp) (r : Addr) (row : Row) : Prop := ∃ as : List Addr, H r = some (.lst (as.map V.ref)) ∧ PairsAt H as row
theorem PairsAt.tups {H H' : Hp} {as : List Addr} {row : Row} (h : PairsAt H as row) (t : ∀ a xs, H a = some (.tup xs) → H' a = some (.tup xs)) : PairsAt H' as row := Paired.mapP h fun a p e => t a _ e
theorem PairsAt.same {H H' : Hp} {as : List Addr} {row : Row} (h : PairsAt H as row) (s : Same H H') : PairsAt H' as row := h.tups fun a xs e => s a _ e
theorem RowAt.same {H H' : Hp} {r : Addr} {row : Row} (h : RowAt H r row) (s : Same H H') : RowAt H' r row := by
  obtain ⟨as, h1, h2⟩ := h
  exact ⟨as, s _ _ h1, h2.same s⟩
/-- what stands at l is no tuple -/
theorem PairsAt.keep {H H' : Hp} {as : List Addr} {row : Row} {l : Addr} {xs : List V} (h : PairsAt H as row) (hl : H l = some (.lst xs)) (s : Keep l H H') : PairsAt H' as row :=
  h.tups fun a ys e => s a _ e (ne_of e hl (by intro z; cases z))
theorem RowAt.keep {H H' : Hp} {r : Addr} {row : Row} {l : Addr} {xs : List V} (h : RowAt H r row) (hl : H l = some (.lst xs)) (n : r ≠ l) (s : Keep l H H') : RowAt H' r row := by
  obtain ⟨as, h1, h2⟩ := h
  exact ⟨as, s _ _ h1 n, h2.keep hl s⟩
theorem PairsAt.get {H : Hp} : ∀ {as : List Addr} {row : Row} {i : Nat} {a : Addr}, PairsAt H as row → as[i]? = some a → ∃ p, row[i]? = some p ∧ PairAt H a p
  | _, _, _, _, .nil, e => by simp at e
  | _, _, 0, _, .cons r _, e => by simp at e; subst e; exact ⟨_, rfl, r⟩
  | _, _, i + 1, a, .cons _ t, e => by
    obtain ⟨p, h1, h2⟩ := PairsAt.get (i := i) (a := a) t (by simpa using e)
    exact ⟨p, by simpa using h1, h2⟩
theorem PairsAt.snoc {H : Hp} : ∀ {as : List Addr} {row : Row} {a : Addr} {p : Int × Int}, PairsAt H as row → PairAt H a p → PairsAt H (as ++ [a]) (row ++ [p])
  | _, _, _, _, .nil, e => .cons e .nil
  | _, _, _, _, .cons r t, e => .cons r (PairsAt.snoc t e)
theorem PairsAt.split {H : Hp} : ∀ {as : List Addr} {row : Row} {p : Int × Int}, PairsAt H as (row ++ [p]) → ∃ bs a, as = bs ++ [a] ∧ PairsAt H bs row ∧ PairAt H a p
  | as, [], p, h => by
    cases h with
    | cons r t => cases t; exact ⟨[], _, rfl, .nil, r⟩
  | as, q :: row, p, h => by
    cases h with
    | cons r t =>
      obtain ⟨bs, a, rfl, h1, h2⟩ := PairsAt.split (row := row) (p := p) t
      exact ⟨_ :: bs, a, rfl, .cons r h1, h2⟩
theorem PairsAt.len {H : Hp} {as : List Addr} {row : Row} (h : PairsAt H as row) : as.length = row.length := Paired.length h
theorem RowAt.eqv {H : Hp} {r q : Addr} {row : Row} (h : RowAt H r row) (g : RowAt H q row) (n : Nat) : Eqv H (n + 3) (.ref r) (.ref q) := by
  obtain ⟨as, h1, h2⟩ := h
  obtain ⟨bs, g1, g2⟩ := g
  refine .inr ⟨true, r, q, _, _, rfl, rfl, h1, g1, by rw [List.length_map, List.length_map, h2.len, g2.len], fun i u v eu ev => ?_⟩
  rw [List.getElem?_map] at eu ev
  obtain ⟨a, ea, rfl⟩ := Option.map_eq_some_iff.mp eu
  obtain ⟨b, eb, rfl⟩ := Option.map_eq_some_iff.mp ev
  obtain ⟨p, e1, k1⟩ := h2.get ea
  obtain ⟨p', e2, k2⟩ := g2.get eb
  rw [e1] at e2
  cases e2
  refine .inr ⟨false, a, b, _, _, rfl, rfl, k1, k2, rfl, fun j u v eu ev => ?_⟩
  rw [eu] at ev
  cases ev
  match j, eu with
  | 0, eu => cases eu; exact Eqv.int _
  | 1, eu => cases eu; exact Eqv.int _
theorem set_last {α : Type} (xs : List α) (a b : α) : (xs ++ [a]).set xs.length b = xs ++ [b] := by
  simp
def spLaw (K : PySem.W.Frag) : Sp := fun vs H Q _ => ∃ (a : Addr) (ns : List Int), vs = [.ref a] ∧ SqL K H a (ns.map V.int) ∧ ns.length ≤ 63 ∧ ∀ H', Q (.bl true) H'
theorem million {n : Nat} (h : n ≤ 1000001) : n < sizeLine := Nat.lt_of_le_of_lt h (by decide)
end Ink

namespace Ink
open PySem L2 InkX
/-! ### defs that all laws share -/
def nextT1 : TS := fun D σ H => ∃ (l c : Addr) (b : Int), σ = [some (.ref l), some (.int b), none, none] ∧ SrcOk H l c ∧
  ∀ (cell : Option V) (H' : Hp), SrcOk H' l c → (∀ a, a ≠ l → H' a = H a) → D.nx [some (.ref l), some (.int b), cell, none] H'
def nextT2 : TS := fun D σ H => ∃ (l c : Addr) (b : Int), σ = [some (.ref l), some (.int b), some (.int 7), none] ∧ SrcOk H l c ∧
  ∀ (cell : Int) (H' : Hp), SrcOk H' l c → (∀ a, a ≠ l → H' a = H a) → D.nx [some (.ref l), some (.int b), some (.int cell), none] H'
theorem at_ints {ns : List Int} {i : Int} (h0 : 0 ≤ i) (h1 : i < (ns.length : Int)) : ∃ v : Int, atI (ns.map V.int) i = some (.int v) := by
  have hk : i.toNat < ns.length := by omega
  refine ⟨ns[i.toNat], ?_⟩
  have q : atI (ns.map V.int) ((i.toNat : Nat) : Int) = some (.int ns[i.toNat]) := atI_nat (by rw [List.getElem?_map, List.getElem?_eq_getElem hk] <;> rfl)
  have ei : ((i.toNat : Nat) : Int) = i := by omega
  rw [ei] at q
  exact q
theorem cut_ints (ns : List Int) (lo hi : Option Int) : ∃ ms : List Int, cutV (ns.map V.int) lo hi = ms.map V.int := by
  unfold cutV
  refine ⟨(ns.drop (HT.sIx (ns.map V.int).length 0 lo)).take (HT.sIx (ns.map V.int).length (ns.map V.int).length hi - HT.sIx (ns.map V.int).length 0 lo), ?_⟩
  rw [List.map_take, List.map_drop]
theorem tt {p : Prop} [Decidable p] {Q : V → Hp → Prop} {H : Hp} (hp : p) (h : Q (.bl true) H) : Q (.bl (decide p)) H := by
  rw [decide_eq_true hp]
  exact h
theorem AtS.or {K : PySem.W.Frag} {k : Bool} {H : Hp} {a : Addr} {xs : List V} (h : AtS k H a xs) : SqL K H a xs ∨ SqT K H a xs := by
  cases k
  · exact .inr (SqT.of h)
  · exact .inl (SqL.of h)
theorem off_keep {l : Addr} {H H' : Hp} (k : ∀ a, a ≠ l → H' a = H a) : Keep l H H' := fun a o e n => by rw [k a n]; exact e
end Ink

namespace Ink
open PySem L2 InkX
theorem SrcOk.lst {H : Hp} {l c : Addr} (s : SrcOk H l c) : ∃ xs, H l = some (.lst xs) := by
  obtain ⟨n, ns, i, d, r, e1, _⟩ := s
  exact ⟨_, e1⟩
end Ink

namespace InkX
open PySem PySem.Spec PyProof.Rows L2
/-! ### a list made by one clause: [elt for tg in iter if ..]; its own names are local, it names none of the def's -/
structure CompScope (scope : Scope) : Prop where
  kind : scope.kind = .function
  free : ∀ x ∈ scope.names, x.2 ≠ .free
  cell : ∀ x ∈ scope.names, x.2 ≠ .cell
  names : ∀ x ∈ scope.names, x.2 = .local → scope.names.lookup x.1 = some .local
section
variable {prog : Program} {w : World} {A : Around} {R : Result → Shared → Prop} {s : Shared}
/-- the tests of a clause -/
def testsOf (ifs : List Expr) (env : Env) : Sem Bool := forIn ifs true fun c r => if r = true then do let ok ← isTrue c env (eval c env); pure (ForInStep.yield ok) else pure (ForInStep.yield r)
theorem compLoopG {elt target iter : Expr} {ifs : List Expr} {scope : Scope} {pos : Pos} {it acc : Value} {env : Env} (I : Nat → Shared → Prop)
    (turn : ∀ n s, I n s → wpAny (model prog w) A (pyNext it) (fun r s₁ => match r with
      | none => R (.ok .next) s₁
      | some v => wpAny (model prog w) A (letOwnedTupleGo target it v) (fun _ s₂ => wpAny (model prog w) A (assign target env v) (fun _ s₃ =>
          wpAny (model prog w) A (testsOf ifs env) (fun ok s₄ =>
            if ok = true then wpAny (model prog w) A (eval elt env) (fun x s₅ => wpAny (model prog w) A (call (.builtin "list.append") [acc, x]) (fun _ s₆ => ∃ m, m < n ∧ I m s₆) (fun _ _ => False) s₅) (fun _ _ => False) s₄
            else ∃ m, m < n ∧ I m s₄) (fun _ _ => False) s₃) (fun _ _ => False) s₂) (fun _ _ => False) s₁) (fun _ _ => False) s)
    (n : Nat) (h : I n s) : codeAny (model prog w) A (.compLoop (.ListComp elt [⟨target, iter, ifs, 0⟩] scope pos) 0 it acc env) R s := by
  refine codeAny_loop rfl I (fun n s hI => ?_) n h
  show wpAny _ A ((compTurn (.ListComp elt [⟨target, iter, ifs, 0⟩] scope pos) 0 it acc env).onRaise (fun x => do noteFrame x env; theTreesLotGoes x)) _ _ s
  refine wpAny_noted ?_
  rw [compTurn_list]
  refine wpAny_bind (wpAny_standAt (wpAny_bind (wpAny_mono (turn n s hI) (fun r s₁ h₁ => ?_) fun _ _ h' => h'.elim)))
  cases r with
  | none => exact wpAny_pure h₁
  | some v =>
    refine wpAny_bind (wpAny_mono h₁ (fun _ s₂ h₂ => wpAny_bind (wpAny_mono h₂ (fun _ s₃ h₃ => wpAny_bind (wpAny_mono h₃ (fun ok s₄ h₄ => ?_) fun _ _ h' => h'.elim)) fun _ _ h' => h'.elim)) fun _ _ h' => h'.elim)
    cases ok with
    | false => exact wpAny_pure ⟨rfl, h₄⟩
    | true => exact wpAny_bind (wpAny_bind (wpAny_mono h₄ (fun x s₅ h₅ => wpAny_bind (wpAny_mono h₅ (fun _ s₆ h₆ => wpAny_pure (wpAny_pure ⟨rfl, h₆⟩)) fun _ _ h' => h'.elim)) fun _ _ h' => h'.elim))
end
section
variable {X : Cx} {N : List Str} {scope : Scope}
def PTs (X : Cx) (ifs : List Expr) (t : TT) : Prop :=
  ∀ (pins : List (Addr × Obj)) (s : Shared) (σ : L2.St) (H : Hp) (Q : Bool → Hp → Prop), Inv X pins σ H s → t σ H Q → wpAny (model X.prog X.w) X.A (testsOf ifs X.env) (TP X pins σ Q) X.xe s
def tYes : TT := fun _ H Q => Q true H
theorem pts_nil : PTs X [] tYes := fun pins s σ H Q I h => wpAny_tests_nil ⟨H, I, h⟩
theorem pts_one {c : Expr} {t : TT} (h : PT X c t) : PTs X [c] t := fun pins s σ H Q I q => wpAny_tests_one (h pins s σ H Q I q)

end
end InkX
namespace InkX
open PySem PySem.Spec PyProof.Rows L2
/-! ### ranges of any bounds -/
section
variable {X : Cx} {tg : Expr}
end
end InkX

namespace InkX
open PySem PySem.Spec PyProof.Rows L2
/-! ### two clauses: [elt for tg in iter for tg2 in iter2 if ..] -/
section
variable {prog : Program} {w : World} {A : Around} {R : Result → Shared → Prop} {s : Shared}
end
section
variable {X : Cx} {N : List Str} {scope : Scope}
end

/-! ### rules that name the written part, within a block -/
section
variable {X : Cx} {N : List Str} {scope : Scope} {C : Addr} {s₀ : Shared} {H₀ : Hp} {ex : List Addr} {pn : List (Addr × Obj)}
end
end InkX

namespace Ink
open PySem L2 InkX
/-- one pair more at the end of a list that is ours alone -/
theorem grown {H0 H2 : Hp} {q t : Addr} {bs : List Addr} {row : Row} {st en : Int} (hq0 : H0 q = none) (s : Same H0 H2) (hq2 : H2 q = some (.lst (bs.map V.ref))) (hb : PairsAt H2 bs row) (ht : H2 t = none) :
    (upd (upd H2 t (.tup [.int st, .int en])) q (.lst (bs.map V.ref ++ [.ref t]))) q = some (.lst ((bs ++ [t]).map V.ref)) ∧
    PairsAt (upd (upd H2 t (.tup [.int st, .int en])) q (.lst (bs.map V.ref ++ [.ref t]))) (bs ++ [t]) (row ++ [(st, en)]) ∧ Same H0 (upd (upd H2 t (.tup [.int st, .int en])) q (.lst (bs.map V.ref ++ [.ref t]))) := by
  have ntq : q ≠ t := ne_of_none hq2 ht
  have s1 : Same H2 (upd H2 t (.tup [.int st, .int en])) := same_new ht _
  refine ⟨by rw [upd_same, List.map_append]; rfl, ?_, keep_of hq0 (s.trans s1) (keep_upd q _ _)⟩
  refine PairsAt.snoc ((hb.same s1).keep (s1 _ _ hq2) (keep_upd q _ _)) ?_
  show upd _ q _ t = _
  rw [upd_ne ntq.symm, upd_same]
/-- the last pair changed -/
theorem turned {H0 H2 : Hp} {q t a : Addr} {bs : List Addr} {row : Row} {st en : Int} (hq0 : H0 q = none) (s : Same H0 H2) (hq2 : H2 q = some (.lst (bs.map V.ref ++ [.ref a]))) (hb : PairsAt H2 bs row) (ht : H2 t = none) :
    (upd (upd H2 t (.tup [.int st, .int en])) q (.lst ((bs.map V.ref ++ [V.ref a]).set bs.length (V.ref t)))) q = some (.lst ((bs ++ [t]).map V.ref)) ∧
    PairsAt (upd (upd H2 t (.tup [.int st, .int en])) q (.lst ((bs.map V.ref ++ [V.ref a]).set bs.length (V.ref t)))) (bs ++ [t]) (row ++ [(st, en)]) ∧ Same H0 (upd (upd H2 t (.tup [.int st, .int en])) q (.lst ((bs.map V.ref ++ [V.ref a]).set bs.length (V.ref t)))) := by
  have ntq : q ≠ t := ne_of_none hq2 ht
  have s1 : Same H2 (upd H2 t (.tup [.int st, .int en])) := same_new ht _
  have e : (bs.map V.ref ++ [V.ref a]).set bs.length (V.ref t) = (bs ++ [t]).map V.ref := by
    have z := set_last (bs.map V.ref) (V.ref a) (V.ref t)
    rw [List.length_map] at z
    rw [z, List.map_append]; rfl
  rw [e]
  refine ⟨upd_same, ?_, keep_of hq0 (s.trans s1) (keep_upd q _ _)⟩
  refine PairsAt.snoc ((hb.same s1).keep (s1 _ _ hq2) (keep_upd q _ _)) ?_
  show upd _ q _ t = _
  rw [upd_ne ntq.symm, upd_same]
end Ink

namespace Ink
open PySem PySem.Spec PyProof.Rows L2 InkX
/-! ### rows compared, whatever they tell -/
def Ends (ns : List Int) (row : Row) : Prop := 0 < ns.length → ∃ (r0 : Row) (p0 : Int × Int), row = r0 ++ [p0] ∧ p0.1 < p0.2
end Ink

namespace InkE
open PySem PySem.Spec PyProof.Rows PySem.W L2

/-! ### an exception in the air -/
section
variable {P : Program} {w : World} {H H' : Hp} {h h0 g : Heap} {a T : Addr} {C a0 : Value} {o : HO}
theorem objHere (x : ObjOk P w H h a o) : ∃ u, h.get? a = some u := by
  cases o with
  | lst xs => obtain ⟨_, _, _, _, e⟩ := x; exact ⟨_, e⟩
  | tup xs => obtain ⟨_, _, _, _, e, _⟩ := x; exact ⟨_, e⟩
  | dK kvs => obtain ⟨_, _, _, _, _, _, _, e, _⟩ := x; exact ⟨_, e⟩
  | dT kvs => obtain ⟨_, _, _, _, _, _, _, e, _⟩ := x; exact ⟨_, e⟩
  | set S n => obtain ⟨_, _, _, _, e, _⟩ := x; exact ⟨_, e⟩
  | ins C dx fs => obtain ⟨_, _, _, e, _⟩ := x; exact ⟨_, e⟩
  | own y => exact x
  | xd fs => obtain ⟨_, ⟨_, _, _, e, _⟩, _⟩ := x; exact ⟨_, e⟩
  | rng lo hi => obtain ⟨_, _, _, e⟩ := x; exact ⟨_, e⟩
  | frz ob u => exact ⟨_, x.1⟩
  | tbl ps => exact ⟨_, x⟩
  | met f y => exact ⟨_, x⟩
  | ext φ => exact x.2.1
theorem hokNone (x : HOk P w H h) {b : Addr} (e : h.get? b = none) : H b = none := by
  cases q : H b with
  | none => rfl
  | some u =>
    obtain ⟨z, hz⟩ := objHere (x b u q)
    rw [e] at hz
    cases hz
theorem hide_none {l : List Addr} {b : Addr} (e : (hideAll h l).get? b = none) : b ∈ l ∨ h.get? b = none := by
  by_cases hb : b ∈ l
  · exact .inl hb
  · right
    cases q : h.get? b with
    | none => rfl
    | some u => rw [hideAll_get l q hb] at e; cases e

/-- the object at a of class C (first field a0), its record at T; neither lay in h0, neither is tracked -/
def Fly (h0 : Heap) (H : Hp) (h : Heap) (a T : Addr) (C a0 : Value) : Prop :=
  (∃ oe vs oT ts, h.get? a = some oe ∧ (oe.cls = C ∧ vs[0]? = some a0) ∧ oe.data = .fields vs ∧ vs[1]? = some (.ref T) ∧ T ≠ a ∧ h.get? T = some oT ∧ oT.data = .fields ts ∧ ts[3]? = some .none) ∧ (H a = none ∧ H T = none) ∧ h0.get? a = none ∧ h0.get? T = none

theorem fly_land {fs hd : List Addr} {l' : List Env} (u : Un fs [] H H' h0 h) (hok : HOk P w H' h) (h1 : ∀ b o, h0.get? b = some o → b ∉ fs → b ∉ hd) (h2 : ∀ b ∈ hd, H' b = none)
    (h3 : ∀ b ∈ fs, ∃ o, h.get? b = some o ∧ ∀ vs, o.data ≠ .fields vs) (h4 : ∀ b ∈ hd, h0.get? b = none ∨ ∃ o, h.get? b = some o ∧ ∀ vs, o.data ≠ .fields vs)
    (ha : h0.get? a = none) (ha' : H' a = none) (f : Heap.FlyingW (hideAll h hd) l' a C a0 g) (k : h.UpToSlots g) :
    Un fs [] H H' h0 g ∧ HOk P w H' g ∧ ∃ T, Fly h0 H' g a T C a0 := by
  have nil : ∀ b : Addr, b ∉ ([] : List Addr) := fun b => List.not_mem_nil
  have kp : ∀ b o, h.get? b = some o → b ∉ hd → g.get? b = some o := fun b o e n => f.1 b o (hideAll_get hd e n)
  refine ⟨⟨fun b o e n hb _ => kp b o (u.keep b o e n hb (nil b)) (h1 b o e hb), fun b o e n hb _ => ?_, fun b o e n _ => u.free b o e n (nil b), fun b o e _ => ?_, u.tups, u.frzs, u.tbls⟩, fun b o e => ?_, ?_⟩
  · obtain ⟨sl, e1⟩ := u.slot b o e n hb (nil b)
    obtain ⟨o', e2, nf⟩ := h3 b hb
    obtain ⟨sl', e3⟩ := k b o' e2 nf
    rw [e1] at e2
    cases e2
    exact ⟨sl', e3⟩
  · by_cases hb : b ∈ fs
    · obtain ⟨o', e2, nf⟩ := h3 b hb
      obtain ⟨sl', e3⟩ := k b o' e2 nf
      exact ⟨_, e3⟩
    · obtain ⟨o', e1⟩ := u.there b o e (nil b)
      exact ⟨o', kp b o' e1 (h1 b o e hb)⟩
  · refine (hok b o e).stay (fun c v hc q => kp c v q fun hm => ?_) (fun _ q => q) fun _ _ q => q
    have hn := h2 c hm
    rcases hc with rfl | hc
    · rw [e] at hn; cases hn
    · rw [hc] at hn; cases hn
  · obtain ⟨_, _, _, oe, vs, T, oT, ts, e1, e2, e3, e4, e5, e6, e7, e8, e9⟩ := f
    refine ⟨T, ⟨oe, vs, oT, ts, e1, e2, e3, e4, e6, e7, e8, e9⟩, ⟨ha', ?_⟩, ha, ?_⟩
    · rcases hide_none e5 with hm | hn
      · exact h2 T hm
      · exact hokNone hok hn
    · rcases hide_none e5 with hm | hn
      · rcases h4 T hm with z | ⟨o, eo, nf⟩
        · exact z
        · obtain ⟨sl, eg⟩ := k T o eo nf
          rw [e7] at eg
          cases eg
          exact absurd e8 (nf ts)
      · cases q : h0.get? T with
        | none => rfl
        | some o =>
          obtain ⟨o', eo⟩ := u.there T o q (nil T)
          rw [hn] at eo
          cases eo
theorem fly_ground {base : Heap} {l : List Env} (F : Fly h0 H h a T C a0) (S : h.FunFrames base l) : Heap.FlyingW (hideAll h (a :: T :: frs l)) l a C a0 h := by
  obtain ⟨⟨oe, vs, oT, ts, e1, e2, e3, e4, e5, e6, e7, e8⟩, _, _⟩ := F
  refine ⟨fun b o e => of_hideAll _ e, hideAll_none _ (List.mem_cons_self), funFrames_hide S fun env he b hb => ?_, oe, vs, T, oT, ts, e1, e2, e3, e4, ?_, e5, e6, e7, e8⟩
  · exact List.mem_cons_of_mem _ (List.mem_cons_of_mem _ (List.mem_filterMap.mpr ⟨env, he, hb⟩))
  · exact hideAll_none _ (List.mem_cons_of_mem _ List.mem_cons_self)
end

/-- behind a call that an exception left -/
def CX1 (P : Program) (w : World) : CXT := fun outer H s E e s' => ∃ a T C a0 H', e = .ref a ∧ (s'.os = s.os ∧ AllBare s'.gens) ∧ Un (frs outer) [] H H' s.heap s'.heap ∧ HOk P w H' s'.heap ∧ Fly s.heap H' s'.heap a T C a0 ∧ E C none H'

section
variable {X : Cx} {pins : List (Addr × Obj)} {σ : L2.St} {H H1 : Hp} {s s' : Shared} {a T : Addr} {C a0 : Value}
theorem frs_is (hst : X.stack = X.env :: X.outer) (hf : X.env.frame = some X.env.locals) : frs X.stack = X.env.locals :: X.fs := by
  rw [hst]
  unfold frs
  rw [List.filterMap_cons, hf]
  rfl
/-- what is hidden behind the frames and the two records -/
theorem hid_frame (I : Inv X pins σ H s) : ∀ b ∈ frs X.stack, ∃ o, s.heap.get? b = some o ∧ ∀ vs, o.data ≠ .fields vs := fun b hb => (I.stack.mem hb).2
/-- a call's exception, at the caller: the state goes on as h says -/
theorem fly_here {l' : List Env} {g : Heap} (I : Inv X pins σ H s) (os : s'.os = s.os) (bare : AllBare s'.gens) (u : Un (frs X.stack) [] H H1 s.heap s'.heap) (hok : HOk X.prog X.w H1 s'.heap) (F : Fly s.heap H1 s'.heap a T C a0)
    (f : Heap.FlyingW (hideAll s'.heap (a :: T :: frs X.stack)) l' a C a0 g) (k : s'.heap.UpToSlots g) : Inv X pins σ H1 { s' with heap := g } := by
  have I1 : Inv X pins σ H1 s' := I.call' (ch := []) os u hok bare (fun b z => absurd z (by simp))
  obtain ⟨_, ⟨na, nT⟩, sa, sT⟩ := id F
  have p1 : ∀ b o, s.heap.get? b = some o → b ∉ frs X.stack → b ∉ a :: T :: frs X.stack := fun b o e hb hm => by
    rcases List.mem_cons.mp hm with rfl | hm
    · rw [sa] at e; cases e
    rcases List.mem_cons.mp hm with rfl | hm
    · rw [sT] at e; cases e
    · exact hb hm
  have p2 : ∀ b ∈ a :: T :: frs X.stack, H1 b = none := fun b hm => by
    rcases List.mem_cons.mp hm with rfl | hm
    · exact na
    rcases List.mem_cons.mp hm with rfl | hm
    · exact nT
    · exact I1.stkFree b hm
  have p4 : ∀ b ∈ a :: T :: frs X.stack, s.heap.get? b = none ∨ ∃ o, s'.heap.get? b = some o ∧ ∀ vs, o.data ≠ .fields vs := fun b hm => by
    rcases List.mem_cons.mp hm with rfl | hm
    · exact .inl sa
    rcases List.mem_cons.mp hm with rfl | hm
    · exact .inl sT
    · exact .inr (hid_frame I1 b hm)
  obtain ⟨u', hok', _⟩ := fly_land (hd := a :: T :: frs X.stack) u hok p1 p2 (hid_frame I1) p4 sa na f k
  exact I.call' (s' := { s' with heap := g }) (ch := []) os u' hok' bare (fun b z => absurd z (by simp))
end

/-! ### through a def's frame -/
section
variable {P : Program} {w : World} {K : PySem.W.Frag} {mg : Str → Option Value} {base : Heap} {N : List Str} {qual : Str} {scope : Scope} {f : Addr} {cd : Value} {A : Around} {outer : List Env} {s : Shared} {H : Hp} {E : XK}
abbrev cx1 (P : Program) (w : World) (K : PySem.W.Frag) (mg : Str → Option Value) (base : Heap) (N : List Str) (qual : Str) (scope : Scope) (f : Addr) (cd : Value) (A : Around) (outer : List Env) (s : Shared) (H : Hp) (E : XK) : Cx :=
  cxOf (CX1 P w) P w K mg base N qual scope f cd A outer s H E
theorem passX : Passes (CX1 P w) (cx1 P w K mg base N qual scope f cd A outer s H E) E := by
  intro pins σ H1 s1 e s' I h
  obtain ⟨a, T, C, a0, H', rfl, ⟨os, bare⟩, u, hok, F, q⟩ := h
  have I1 : Inv (cx1 P w K mg base N qual scope f cd A outer s H E) pins σ H' s' := I.call' (ch := []) os u hok bare (fun b z => absurd z (by simp))
  obtain ⟨_, ⟨na, nT⟩, sa, sT⟩ := id F
  have old : ∀ b, s1.heap.get? b = none → s.heap.get? b = none := fun b e => by
    cases z : s.heap.get? b with
    | none => rfl
    | some o =>
      obtain ⟨o', e'⟩ := I.base.there b o z (fun m => absurd (show b ∈ ([] : List Addr) from m) (by simp))
      rw [e] at e'
      cases e'
  refine wpAny_leaves_onW (base := hideAll s'.heap (a :: T :: frs (cx1 P w K mg base N qual scope f cd A outer s H E).stack)) I.ok.frames rfl (fly_ground F I1.stack) fun g fl k => ?_
  have p1 : ∀ b o, s.heap.get? b = some o → b ∉ frs outer → b ∉ a :: T :: frs (cx1 P w K mg base N qual scope f cd A outer s H E).stack := fun b o e hb hm => by
    rcases List.mem_cons.mp hm with rfl | hm
    · rw [old b sa] at e; cases e
    rcases List.mem_cons.mp hm with rfl | hm
    · rw [old b sT] at e; cases e
    · rw [frs_is rfl rfl] at hm
      rcases List.mem_cons.mp hm with rfl | hm
      · exact absurd (Heap.lt_size e) (Nat.not_lt.mpr I.ok.above)
      · exact hb hm
  have p2 : ∀ b ∈ a :: T :: frs (cx1 P w K mg base N qual scope f cd A outer s H E).stack, H' b = none := fun b hm => by
    rcases List.mem_cons.mp hm with rfl | hm
    · exact na
    rcases List.mem_cons.mp hm with rfl | hm
    · exact nT
    · exact I1.stkFree b hm
  have p4 : ∀ b ∈ a :: T :: frs (cx1 P w K mg base N qual scope f cd A outer s H E).stack, s.heap.get? b = none ∨ ∃ o, s'.heap.get? b = some o ∧ ∀ vs, o.data ≠ .fields vs := fun b hm => by
    rcases List.mem_cons.mp hm with rfl | hm
    · exact .inl (old b sa)
    rcases List.mem_cons.mp hm with rfl | hm
    · exact .inl (old b sT)
    · exact .inr (hid_frame I1 b hm)
  obtain ⟨u', hok', T', F'⟩ := fly_land (h0 := s.heap) (fs := frs outer) (hd := a :: T :: frs (cx1 P w K mg base N qual scope f cd A outer s H E).stack) I1.base hok p1 p2 (fun b hb => (I1.funs.mem hb).2) p4 (old a sa) na fl k
  exact ⟨a, T', C, a0, H', rfl, ⟨I1.os, bare⟩, u', hok', F', q⟩

/-- an exception that is raised in this body -/
def Raises (X : Cx) (E : XK) : Prop := ∀ (pins : List (Addr × Obj)) (σ : L2.St) (H : Hp) (s : Shared) (h' : Heap) (e : Addr) (C : Value) (args : List Value), Inv X pins σ H s → Heap.MadeExcOf s.heap h' e C args → E C none H → X.xe (.ref e) { s with heap := h' }
theorem raiseX : Raises (cx1 P w K mg base N qual scope f cd A outer s H E) E := by
  intro pins σ H1 s1 h' e C args I M q
  have old : ∀ b, s1.heap.get? b = none → s.heap.get? b = none := fun b e => by
    cases z : s.heap.get? b with
    | none => rfl
    | some o =>
      obtain ⟨o', e'⟩ := I.base.there b o z (fun m => absurd (show b ∈ ([] : List Addr) from m) (by simp))
      rw [e] at e'
      cases e'
  refine wpAny_leaves_madeW (base := hideAll s1.heap (frs (cx1 P w K mg base N qual scope f cd A outer s H E).stack)) (h := s1.heap) I.ok.frames rfl (fun b o e => of_hideAll _ e) (funFrames_hide I.stack fun env he b hb => List.mem_filterMap.mpr ⟨env, he, hb⟩) M fun g t fl _ _ k => ?_
  have k1 : s1.heap.UpToSlots g := (Heap.UpToSlots.of_keeps M.keeps).trans k
  have p1 : ∀ b o, s.heap.get? b = some o → b ∉ frs outer → b ∉ frs (cx1 P w K mg base N qual scope f cd A outer s H E).stack := fun b o e hb hm => by
    rw [frs_is rfl rfl] at hm
    rcases List.mem_cons.mp hm with rfl | hm
    · exact absurd (Heap.lt_size e) (Nat.not_lt.mpr I.ok.above)
    · exact hb hm
  obtain ⟨u', hok', T', F'⟩ := fly_land (h0 := s.heap) (fs := frs outer) (hd := frs (cx1 P w K mg base N qual scope f cd A outer s H E).stack) I.base I.hok p1 (fun b hm => I.stkFree b hm) (fun b hb => (I.funs.mem hb).2) (fun b hm => .inr (hid_frame I b hm)) (old e M.new) (hokNone I.hok M.new) fl k1
  exact ⟨e, T', C, .ref t, H1, rfl, ⟨I.os, I.bare⟩, u', hok', F', q⟩

/-- a def whose exceptions go on -/
theorem okX {x qual : Str} {st : Stmt} {f : Addr} {fd : FuncData} {N ps : List Str} {k : Nat} {sp : Sp} (F : Fun K x qual st f fd) (S : FnScope N ps (defScope st)) (len : ∀ vs H Q E, sp vs H Q E → vs.length = ps.length)
    (hbody : ∀ (cdv : Value) (A : Around) (outer : List Env) (s : Shared) (H : Hp) (vs : List V) (Q : VK) (E : XK), Room k (A.deeper (envOfC qual (defScope st) s.heap.objs.size f cdv)) → sp vs H Q E →
      ∃ t, PSs (cx1 P w K mg base N qual (defScope st) f cdv A outer s H E) (defBody st) t ∧ t { nx := fun _ H' => Q .non H', rt := Q } (start N vs) H) : FnOk P w K mg base (CX1 P w) (k + 1) f fd ps sp := by
  obtain ⟨oc, od, kV, doc, pm, an, cdv, ct, osl, rfl, lk, hcd⟩ := F.ex
  exact fn_of lk hcd S len fun A outer s H vs Q E hr hsp => hbody cdv A outer s H vs Q E hr hsp
end

/-! ### raise -/
section
variable {X : Cx}
theorem exc_obj {K : Frag} {h : Heap} {C : Addr} {bmB : List Value} {newId : String} {x : Str} {mg : Str → Option Value} (I : K.In h) (m : mg x = some (.ref C)) (q : excIn K C bmB newId = true) : OwnCls x C bmB newId mg h := by
  refine ⟨m, ?_⟩
  unfold excIn at q
  split at q
  case h_2 => cases q
  rename_i dd cd sl ho
  split at q
  case h_2 => cases q
  rename_i c1 bm k0 k1 k2 k3 n k5 hm hs
  simp only [Bool.and_eq_true, beq_iff_eq, Bool.not_eq_true'] at q
  obtain ⟨⟨⟨⟨⟨e1, e2⟩, hdel⟩, ht⟩, hno⟩, hni⟩ := q
  cases e1
  cases e2
  cases cd with
  | mk nm bs mro ns qn hd sn sub ab col del =>
    cases hm
    cases hdel
    cases sl with
    | mk l =>
      have hs' : l = [k0, k1, k2, k3, some (.builtin newId), k5] := hs
      subst hs'
      exact ⟨bm, ns, nm, qn, bs, hd, sn, sub, ab, col, dd, k0, k1, k2, k3, k5, _, I _ _ ho, .of_isNs (isNs_of_in I hno), nsMap_none_of_in I hno hni, tail_of_in I ht⟩

def tRaise (C : Addr) (E : XK) (t : TA) : TS := fun _ σ H => t σ H fun vs H1 => vs.length ≤ sizeLine ∧ E (.ref C) none H1
theorem ps_raise {E : XK} {x : Str} {C : Addr} {bmB : List Value} {newId initId B : String} {e : Expr} {es : List Expr} {t : TA} {np cpos pos : Pos} (FB : ExcBaseFacts B newId initId bmB) (hx : excIn X.K C bmB newId = true) (hm : X.mg x = some (.ref C)) (hc : X.calm = true) (hr : Raises X E)
    (ha : PA X (e :: es) t) (hg : Gl X x := by rfl) (hdb : (x == ("__debug__" : Str)) = false := by decide) (he : starEach (e :: es) X.env = (false, eval e X.env) :: starEach es X.env := by rfl) (hpl : (backTo cpos (starEach es X.env)).any (·.1) = false := by rfl) :
    PS X (.Raise (some (.Call (.Name x np) (e :: es) [] cpos)) none pos) (tRaise C E t) := by
  intro pins s σ H D I h
  obtain ⟨tl, Nd, c1, c2, c3, c4, c5, c6, c7, c8, c9, d0, d1, d2, d3, d5, mN, hC, hN, hni, T⟩ := (exc_obj I.mod.kin hm hx).obj
  refine wpAny_Raise_call_subT (nm := c1) (q := c2) (N := Nd) (bs := c3) (hdct := c4) (sn := c5) (sub := c6) (ab := c7) (col := c8) (dd := c9) (k0 := d0) (k1 := d1) (k2 := d2) (k3 := d3) (k5 := d5) FB (T.hasType FB.hasBase) (I.ok.hd hc) (by rw [he]; show (false || (backTo cpos (starEach es X.env)).any (·.1)) = false; rw [hpl]; rfl) hni (ld_glob I hg hm ⟨rfl, ?_⟩ hdb)
  rw [he]
  have hw := ha cpos pins s σ H _ I h
  rw [he] at hw
  refine Calls.evalArgs_plain (thn hw fun us s1 ⟨vs, H1, I1, r, q1, q2⟩ => ?_)
  exact ⟨rfl, by rw [← r.length]; exact q1, I1.bk _ _ hC, hN.keeps I1.bk, T.keeps I1.bk, fun h' e M => hr pins σ H1 s1 h' e _ _ I1 M q2⟩
end

/-! ### a def that may raise, called -/
section
variable {X : Cx} {x : Str} {st : Stmt} {ps : List Str} {f : Addr} {fd : FuncData} {j k : Nat} {sp : Sp} {e : Expr} {es : List Expr} {t : TA} {p pos : Pos} {E : XK}
theorem pe_defX (d : Ink.DefAt X.K X.mg x st ps f fd) (G : FnOk X.prog X.w X.K X.mg X.base (CX1 X.prog X.w) k f fd ps sp) (hr : Room j X.A) (hx : Passes (CX1 X.prog X.w) X E)
    (ha : PA X (e :: es) t) (hjk : k ≤ j := by first | decide | omega) (hg : Gl X x := by rfl) (hdb : (x == ("__debug__" : Str)) = false := by decide) (he : starEach (e :: es) X.env = (false, eval e X.env) :: starEach es X.env := by rfl)
    (hpl : (backTo pos (starEach es X.env)).any (·.1) = false := by rfl) : PE X (.Call (.Name x p) (e :: es) [] pos) (tCall sp [] E t) :=
  pe_call G (hr.mono hjk) hg d.m d.F.kp d.b .nil hx ha hdb he hpl
/-- the same, where an exception is met here -/
theorem call_met {pins : List (Addr × Obj)} {σ : L2.St} {H : Hp} {s : Shared} {Q : VK} {E' : Value → Shared → Prop} (d : Ink.DefAt X.K X.mg x st ps f fd) (G : FnOk X.prog X.w X.K X.mg X.base (CX1 X.prog X.w) k f fd ps sp) (hr : Room j X.A) (ha : PA X.nox (e :: es) t) (I : Inv X pins σ H s)
    (h : t σ H fun vs H1 => sp vs H1 Q E) (hE : ∀ H1 s1 e s', Inv X pins σ H1 s1 → CX1 X.prog X.w X.stack H1 s1 E e s' → E' e s')
    (hjk : k ≤ j) (hg : Gl X x) (hdb : (x == ("__debug__" : Str)) = false) (he : starEach (e :: es) X.env = (false, eval e X.env) :: starEach es X.env)
    (hpl : (backTo pos (starEach es X.env)).any (·.1) = false) : wpAny (model X.prog X.w) X.A (eval (.Call (.Name x p) (e :: es) [] pos) X.env) (EP X pins σ Q) E' s := by
  refine wpAny_Call_Name_kw (ld_glob I hg d.m ?_ hdb)
  refine PySem.W.callWith_K (h₀ := X.base) I.ok.mod.kin d.F.kp (wpAny_mono (ha pos pins s σ H _ (I.wish _) h) (fun us s1 ⟨vs, H1, I1, r, q⟩ => ⟨I1.unwish.kIn, ?_⟩) fun _ _ z => False.elim z) he hpl
  have I1 := I1.unwish
  have r2 : Vals vs us := r
  have hl : (us ++ []).length = ps.length := by rw [List.append_nil, ← r2.length]; exact G.len _ _ _ _ q
  have B := d.b s1 us I1.kIn hl
  rw [List.append_nil] at B
  refine wpAny_call (codeAny_mono (G.run X.A X.stack s1 H1 ⟨us, []⟩ us vs Q E (hr.mono hjk) I1.env0 B r2 q) fun r s' hq => ?_)
  cases r with
  | error e => exact hE H1 s1 e s' I1 hq
  | ok fl =>
    cases fl with
    | ret u => exact I1.after hq
    | next => exact False.elim hq
    | brk => exact False.elim hq
    | cont => exact False.elim hq
end

/-! ### try: one statement with one call, one clause -/
abbrev cxH (X : Cx) (a : Addr) : Cx := { X with A := X.A.mark (some (.ref a)), calm := false, xe := fun _ _ => False }
section
variable {X : Cx} {pins : List (Addr × Obj)} {σ : L2.St} {H : Hp} {s : Shared} {a : Addr}
theorem okH (ok : X.Ok) (a : Addr) : (cxH X a).Ok :=
  { mod := ok.mod, kind := ok.kind, glob := ok.glob, blt := ok.blt, above := ok.above, inj := ok.inj, has := ok.has, cab := ok.cab, hd := fun z => (Bool.false_ne_true z).elim, frames := ok.frames, stk := ok.stk, exf := ok.exf, bs := ok.bs, bsz := ok.bsz, noex := ok.noex, exfs := ok.exfs, funs := ok.funs, frf := ok.frf }
theorem inH (I : Inv X pins σ H s) (a : Addr) : Inv (cxH X a) pins σ H s := { ok := okH I.ok a, os := I.os, bare := I.bare, base := I.base, loc := I.loc, cell := I.cell, free := I.free, freeC := I.freeC, pin := I.pin, hok := I.hok, len := I.len }
theorem outH (ok : X.Ok) (I : Inv (cxH X a) pins σ H s) : Inv X pins σ H s := { ok := ok, os := I.os, bare := I.bare, base := I.base, loc := I.loc, cell := I.cell, free := I.free, freeC := I.freeC, pin := I.pin, hok := I.hok, len := I.len }
theorem spH (ok : X.Ok) {D : Ends} {f : Flow} {s' : Shared} (h : SP (cxH X a) pins D f s') : SP X pins D f s' := by
  cases f with
  | next => obtain ⟨σ', H', I, q⟩ := h; exact ⟨σ', H', outH ok I, q⟩
  | brk => obtain ⟨σ', H', I, q⟩ := h; exact ⟨σ', H', outH ok I, q⟩
  | cont => obtain ⟨σ', H', I, q⟩ := h; exact ⟨σ', H', outH ok I, q⟩
  | ret u => obtain ⟨v, σ', H', I, r, q⟩ := h; exact ⟨v, σ', H', outH ok I, r, q⟩

/-- the clause takes it -/
theorem clause {y : Str} {C Cy : Addr} {b0 : Stmt} {suite : List Stmt} {tb : TS} {np hpos : Pos} {D : Ends} {e : Value} {s' : Shared} (hst : X.stack = X.env :: X.outer) (hf : X.env.frame = some X.env.locals) (hmy : X.mg y = some (.ref Cy)) (hx : exmOne X.K (.ref C) (.ref Cy) = some true)
    (hb : ∀ a, PSs (cxH X a) (b0 :: suite) tb) (hg : Gl X y) (hdb : (y == ("__debug__" : Str)) = false) (I : Inv X pins σ H s) (h : CX1 X.prog X.w X.stack H s (fun c _ H2 => c = .ref C ∧ tb D σ H2) e s') :
    wpAny (model X.prog X.w) X.A (noteFrame e X.env) (fun _ s₂ => wpAny (model X.prog X.w) X.A (setFlight e none) (fun _ s₃ => wpAny (model X.prog X.w) X.A (handleBy e X.env [.ExceptHandler (some (.Name y np)) none (b0 :: suite) hpos]) (SP X pins D) X.xe s₃) X.xe s₂) X.xe s' := by
  obtain ⟨a, T, c, a0, H2, rfl, ⟨os, bare⟩, u, hok, F, rfl, q⟩ := h
  have I1 : Inv X pins σ H2 s' := I.call' (ch := []) os u hok bare (fun b z => absurd z (by simp))
  have G0 := fly_ground F I1.stack
  have G0' : Heap.FlyingW (hideAll s'.heap (a :: T :: frs X.stack)) (X.env :: X.outer) a (.ref C) a0 s'.heap := by
    have z := G0
    rw [hst] at z
    rw [hst]
    exact z
  refine wpAny_looks_onW (I.ok.frames.trans (by rw [hst])) hf G0' fun h4 held k4 => wpAny_landsW held fun h5 fl5 k5 => ?_
  have I5 : Inv X pins σ H2 { s' with heap := h5 } := fly_here I os bare u hok F fl5 (k4.trans k5)
  obtain ⟨ob, hob, hcl⟩ := fl5.there
  have LT : Looks (model X.prog X.w) h5 (typeOf (.ref a)) (.ref C) := hcl ▸ (Looks.ld hob).andThen .now
  refine wpAny_handleBy_cons (codeAny_handlers_test (ld_glob (X := cxH X a) (inH I5 a) hg hmy ?_ hdb)) (by intro z; cases z)
  refine (exm_one (M := model X.prog X.w) I5.kIn LT hx).here ?_
  refine codeAny_handlers_suite (lands_againW fl5 fun h6 fl6 k6 => ?_)
  have I6 : Inv X pins σ H2 { s' with heap := h6 } := fly_here I os bare u hok F fl6 ((k4.trans k5).trans k6)
  exact wpAny_mono (hb a pins _ σ H2 D (inH I6 a) q) (fun fl s2 z => spH I6.ok z) fun _ _ z => False.elim z

def tTryS (i : Nat) (sp : Sp) (t : TA) (C : Addr) (tb : TS) : TS := fun D σ H => t σ H fun vs H1 => sp vs H1 (fun v H2 => D.nx (σ.set i (some v)) H2) (fun c _ H2 => c = .ref C ∧ tb D σ H2)
variable {x y : Str} {st : Stmt} {ps : List Str} {f : Addr} {fd : FuncData} {j k : Nat} {sp : Sp} {e : Expr} {es : List Expr} {t : TA} {p pos pos1 pos2 pos3 np hpos : Pos} {C Cy : Addr} {b0 : Stmt} {suite : List Stmt} {tb : TS}
theorem ps_tryS {i : Nat} {z : Str} (hN : X.N.Nodup) (hi : X.N[i]? = some z) (hz : Loc X.env.scope z) (d : Ink.DefAt X.K X.mg x st ps f fd) (G : FnOk X.prog X.w X.K X.mg X.base (CX1 X.prog X.w) k f fd ps sp) (hr : Room j X.A) (ha : PA X.nox (e :: es) t) (hmy : X.mg y = some (.ref Cy)) (hx : exmOne X.K (.ref C) (.ref Cy) = some true)
    (hb : ∀ a, PSs (cxH X a) (b0 :: suite) tb) (hst : X.stack = X.env :: X.outer := by rfl) (hf : X.env.frame = some X.env.locals := by rfl) (hgy : Gl X y := by rfl) (hdy : (y == ("__debug__" : Str)) = false := by decide)
    (hjk : k ≤ j := by first | decide | omega) (hg : Gl X x := by rfl) (hdb : (x == ("__debug__" : Str)) = false := by decide) (he : starEach (e :: es) X.env = (false, eval e X.env) :: starEach es X.env := by rfl)
    (hpl : (backTo pos (starEach es X.env)).any (·.1) = false := by rfl) (hs : swapsWith (.Call (.Name x p) (e :: es) [] pos) (some (.Name z pos3)) pos1.line X.env = pure false := by rfl) (hfn : X.fn z = true ∨ X.env.scope.names.lookup z = some .local := by first | exact .inl rfl | exact .inr rfl) :
    PS X (.Try [.Assign [.Name z pos3] (.Call (.Name x p) (e :: es) [] pos) pos1] [.ExceptHandler (some (.Name y np)) none (b0 :: suite) hpos] [] [] pos2) (tTryS i sp t C tb) := by
  intro pins s σ H D I h
  refine wpAny_Try_except (wpAny_execs_cons (wpAny_Assign_Name (thn (call_met d G hr ha I h (fun H1 s1 e s' I1 z => ?_) hjk hg hdb he hpl) fun v s1 ⟨y, H1, I1, r1, q1⟩ => ?_) hs))
  · exact clause hst hf hmy hx hb hgy hdy I1 z
  · exact store_ok I1 hN hi hz r1 (fun s2 I2 => wpAny_execs_nil (wpAny_execs_nil ⟨_, H1, I2, q1⟩)) hfn
end
end InkE

namespace InkE
open PySem PySem.Spec PyProof.Rows L2
/-! ### a text with fields: some text -/
section
variable {X : Cx}
abbrev TJ := L2.St → Hp → (Hp → Prop) → Prop
def PJ (X : Cx) (es : List Expr) (m : Nat) (t : TJ) : Prop := ∀ (pins : List (Addr × Obj)) (s : Shared) (σ : L2.St) (H : Hp) (out : Str) (Q : Hp → Prop), L2.Inv X pins σ H s → t σ H Q → out.length + m ≤ 1000000 →
  wpAny (model X.prog X.w) X.A (joinParts out (evalEach es X.env)) (fun u s' => ∃ x tk H', u = .str x tk ∧ L2.Inv X pins σ H' s' ∧ Q H') X.xe s
theorem pj_nil : PJ X [] 0 (fun _ H Q => Q H) := fun pins s σ H out Q I h hl =>
  joinParts_nil ⟨out, _, H, rfl, I.tok _, h⟩ (Nat.le_of_lt (Nat.lt_of_le_of_lt hl (by decide)))
theorem fit_out {out y : Str} {m n : Nat} (h : out.length + (n + m) ≤ 1000000) (hy : y.length ≤ n) : (out ++ y).length ≤ sizeLine ∧ (out ++ y).length + m ≤ 1000000 := by
  rw [PySem.strLen_append]
  refine ⟨Nat.le_of_lt (Nat.lt_of_le_of_lt (show out.length + y.length ≤ 1000000 by omega) (by decide)), by omega⟩
theorem pj_str {x : Str} {j : Nat} {pos : Pos} {es : List Expr} {m : Nat} {t : TJ} (h : PJ X es m t) : PJ X (.Constant (.str x) j pos :: es) (x.length + m) t := by
  intro pins s σ H out Q I q hl
  refine joinParts_consE (joinParts_cons (Calls.Constant_str ?_))
  have z := fit_out (y := x) hl (Nat.le_refl _)
  exact ⟨z.1, h pins _ σ H _ Q (I.tok _) q z.2⟩
theorem pj_int {e : Expr} {te : TE} {pos : Pos} {es : List Expr} {m : Nat} {t : TJ} (he : PE X e te) (h : PJ X es m t) : PJ X (.FormattedValue e (-1) none pos :: es) (1921 + m) (fun σ H Q => te σ H fun v H1 => ∃ i : Int, v = .int i ∧ i.natAbs.log2 < 1920 ∧ t σ H1 Q) := by
  intro pins s σ H out Q I q hl
  refine joinParts_consE (joinParts_cons (FormattedValue_plain (thn (he pins s σ H _ I q) fun v s1 ⟨x, H1, I1, r1, i, e1, hi, q1⟩ => ?_)))
  subst e1
  obtain ⟨tk, rfl⟩ := r1
  refine formatField_int_small hi ?_
  have z := fit_out (y := Str.ofString (toString i)) hl (int_text_len_1921 hi)
  exact ⟨z.1, h pins _ σ H1 _ Q (I1.tok _) q1 z.2⟩
theorem pe_fstr {v1 v2 : Expr} {rest : List Expr} {pos : Pos} {m : Nat} {t : TJ} (h : PJ X (v1 :: v2 :: rest) m t) (hm : m ≤ 1000000 := by decide +kernel) : PE X (.JoinedStr (v1 :: v2 :: rest) pos) (fun σ H Q => t σ H fun H1 => ∀ x, Q (.str x) H1) := by
  intro pins s σ H Q I q
  refine JoinedStr_many (thn (h pins s σ H Str.empty _ I q (by show 0 + m ≤ _; omega)) fun u s1 ⟨x, tk, H1, e, I1, q1⟩ => ?_)
  subst e
  exact ⟨.str x, H1, I1, ⟨_, rfl⟩, q1 x⟩

/-! ### a op b op c op d -/
end
end InkE
namespace Ink
open PySem L2 InkX InkE
theorem free_same {H H' : Hp} {a : Addr} (s : Same H H') (h : H' a = none) : H a = none := by
  cases q : H a with
  | none => rfl
  | some o => rw [s a o q] at h; cases h
/-! ### parts of a row -/
/-- the classes of refusals -/
structure ExcAt (K : PySem.W.Frag) (mg : Str → Option Value) (C : Addr) : Prop where
  m : mg "OutOfPlace" = some (.ref C)
  x : PySem.W.excIn K C [.type "ValueError", .type "Exception", .type "BaseException", .type "object"] "ValueError.__new__" = true
  h : PySem.W.exmOne K (.ref C) (.ref C) = some true
structure ExcAt2 (K : PySem.W.Frag) (mg : Str → Option Value) (C D : Addr) : Prop where
  m : mg "InkError" = some (.ref D)
  h : PySem.W.exmOne K (.ref C) (.ref D) = some true
end Ink

namespace Ink
open PySem L2 InkX InkE
end Ink

namespace Ink
open PySem L2 InkX InkE
end Ink

namespace Ink
open PySem PySem.Spec PyProof.Rows L2 InkX InkE
/-! ### pairs of lists of the very same values compared -/
/-! ### rows joined, put in, cut out -/
theorem PairsAt.append {H : Hp} : ∀ {as bs : List Addr} {r q : Row}, PairsAt H as r → PairsAt H bs q → PairsAt H (as ++ bs) (r ++ q)
  | _, _, _, _, .nil, t => t
  | _, _, _, _, .cons e r, t => .cons e (PairsAt.append r t)
end Ink

namespace L2
open PySem PySem.Spec PyProof.Rows

/-! ### lists of pairs as tables -/
section
variable {κ : Type} [DecidableEq κ]
def valV (kvs : List (κ × V)) (k : κ) : Option V := (kvs.find? fun kv => decide (kv.1 = k)).map (·.2)
/-- in its place, or at the end -/
def putK (kvs : List (κ × V)) (k : κ) (v : V) : List (κ × V) :=
  if (kvs.any fun kv => decide (kv.1 = k)) = true then kvs.map (fun kv => if kv.1 = k then (kv.1, v) else kv) else kvs ++ [(k, v)]
def dropK (kvs : List (κ × V)) (k : κ) : List (κ × V) := kvs.filter fun kv => decide (kv.1 ≠ k)

theorem valV_pos {p : κ × V} {r : List (κ × V)} {k : κ} (e : p.1 = k) : valV (p :: r) k = some p.2 := by simp [valV, List.find?_cons, e]
theorem valV_neg {p : κ × V} {r : List (κ × V)} {k : κ} (e : ¬ p.1 = k) : valV (p :: r) k = valV r k := by simp [valV, List.find?_cons, e]
theorem valV_any (k : κ) : ∀ kvs : List (κ × V), (kvs.any fun kv => decide (kv.1 = k)) = (valV kvs k).isSome
  | [] => rfl
  | p :: r => by
    rw [List.any_cons]
    by_cases e : p.1 = k
    · simp only [valV_pos e, decide_eq_true e, Bool.true_or, Option.isSome_some]
    · rw [valV_neg e, decide_eq_false e, Bool.false_or]; exact valV_any k r
theorem length_putK (kvs : List (κ × V)) (k : κ) (v : V) : (putK kvs k v).length ≤ kvs.length + 1 := by
  unfold putK
  split
  · rw [List.length_map]; omega
  · rw [List.length_append, List.length_cons, List.length_nil]; omega
theorem RelO.isSome_eq {o : Option V} {u : Option Value} (r : RelO o u) : o.isSome = u.isSome := by
  cases o with
  | none => cases u with
    | none => rfl
    | some _ => exact (show False from r).elim
  | some _ => cases u with
    | none => exact (show False from r).elim
    | some _ => rfl
theorem RelO.getD {o : Option V} {u : Option Value} {d : V} {d' : Value} (r : RelO o u) (rd : RelV d d') : RelV (o.getD d) (u.getD d') := by
  cases o with
  | none => cases u with
    | none => exact rd
    | some _ => exact (show False from r).elim
  | some _ => cases u with
    | none => exact (show False from r).elim
    | some _ => exact r

/-- raw tables of the same keys -/
theorem KV.val {kvs : List (κ × V)} {vs : List (κ × Value)} (r : KV kvs vs) (k : κ) : RelO (valV kvs k) (valueAt vs k) := by
  unfold KV at r
  induction r with
  | nil => exact True.intro
  | @cons p q ps qs h t ih =>
    obtain ⟨h1, h2⟩ := h
    by_cases e : p.1 = k
    · have e' : q.1 = k := h1.symm.trans e
      have b : valueAt (q :: qs) k = some q.2 := by simp [valueAt, List.find?_cons, e']
      rw [valV_pos e, b]; exact h2
    · have e' : ¬ q.1 = k := fun z => e (h1.trans z)
      have b : valueAt (q :: qs) k = valueAt qs k := by simp [valueAt, List.find?_cons, e']
      rw [valV_neg e, b]; exact ih
theorem KV.any {kvs : List (κ × V)} {vs : List (κ × Value)} (r : KV kvs vs) (k : κ) : (kvs.any fun kv => decide (kv.1 = k)) = vs.any fun kv => decide (kv.1 = k) := by
  unfold KV at r
  induction r with
  | nil => rfl
  | cons h t ih => rw [List.any_cons, List.any_cons, ih, h.1]
theorem KV.repl {kvs : List (κ × V)} {vs : List (κ × Value)} (r : KV kvs vs) (k : κ) {y : V} {u : Value} (ry : RelV y u) :
    KV (kvs.map fun kv => if kv.1 = k then (kv.1, y) else kv) (vs.map fun kv => if kv.1 = k then (kv.1, u) else kv) := by
  unfold KV at r ⊢
  induction r with
  | nil => exact .nil
  | @cons p q ps qs h t ih =>
    rw [List.map_cons, List.map_cons]
    refine .cons ?_ ih
    obtain ⟨h1, h2⟩ := h
    by_cases e : p.1 = k
    · rw [if_pos e, if_pos (h1.symm.trans e)]; exact ⟨h1, ry⟩
    · rw [if_neg e, if_neg (fun z => e (h1.trans z))]; exact ⟨h1, h2⟩
theorem KV.put {kvs : List (κ × V)} {vs : List (κ × Value)} (r : KV kvs vs) (k : κ) {y : V} {u : Value} (ry : RelV y u) : KV (putK kvs k y) (stored vs k u) := by
  unfold putK stored
  rw [r.any k]
  by_cases e : (vs.any fun kv => decide (kv.1 = k)) = true
  · rw [if_pos e, if_pos e]; exact r.repl k ry
  · rw [if_neg e, if_neg e]; exact Paired.snoc r ⟨rfl, ry⟩
theorem KV.drop {kvs : List (κ × V)} {vs : List (κ × Value)} (r : KV kvs vs) (k : κ) : KV (dropK kvs k) (without vs k) := by
  unfold KV at r ⊢
  unfold dropK without
  induction r with
  | nil => exact .nil
  | @cons p q ps qs h t ih =>
    obtain ⟨h1, h2⟩ := h
    rw [List.filter_cons, List.filter_cons]
    by_cases e : p.1 = k
    · have a : ¬ decide (p.1 ≠ k) = true := by simp [e]
      have b : ¬ decide (q.1 ≠ k) = true := by simp [h1.symm.trans e]
      rw [if_neg a, if_neg b]; exact ih
    · have e' : ¬ q.1 = k := fun z => e (h1.trans z)
      have a : decide (p.1 ≠ k) = true := by simp [e]
      have b : decide (q.1 ≠ k) = true := by simp [e']
      rw [if_pos a, if_pos b]; exact .cons ⟨h1, h2⟩ ih
theorem KV.keys {kvs : List (κ × V)} {vs : List (κ × Value)} (r : KV kvs vs) : kvs.map (·.1) = vs.map (·.1) := by
  unfold KV at r
  induction r with
  | nil => rfl
  | cons h t ih => rw [List.map_cons, List.map_cons, ih, h.1]
theorem KV.length {kvs : List (κ × V)} {vs : List (κ × Value)} (r : KV kvs vs) : kvs.length = vs.length := Paired.length r
end


/-! ### a tracked dict, its keys ints and texts or tuples of these -/
theorem kV_is {P : Program} {w : World} {k : Key} {u : Value} (r : RelV (kV k) u) : (mixKind P w).is k u = true := by
  cases k with
  | inl i => obtain ⟨t, e⟩ := (show ∃ t, u = Value.int i t from r); subst e; exact mixKind_int P w i t
  | inr x => obtain ⟨t, e⟩ := (show ∃ t, u = Value.str x t from r); subst e; exact mixKind_str P w x t
theorem items_are {P : Program} {w : World} : ∀ {ks : List Key} {us : List Value}, Vals (ks.map kV) us → ItemsAre (mixKind P w) ks us
  | [], _, r => by rw [List.map_nil] at r; cases r; exact .nil
  | k :: ks, _, r => by
    rw [List.map_cons] at r
    cases r with
    | cons h t => exact .cons (kV_is h) (items_are t)

/-- raw entries of a dict with tuple keys -/
abbrev KT (H : Hp) : List (List Key × V) → List (List Key × Addr × Value) → Prop := Paired fun p q => p.1 = q.1 ∧ H q.2.1 = some (.tup (p.1.map kV)) ∧ RelV p.2 q.2.2
theorem KT.val {H : Hp} {kvs : List (List Key × V)} {xs : List (List Key × Addr × Value)} (r : KT H kvs xs) (k : List Key) : RelO (valV kvs k) ((atKey xs k).map (·.2)) := by
  induction r with
  | nil => exact True.intro
  | @cons p q ps qs h t ih =>
    obtain ⟨h1, _, h2⟩ := h
    by_cases e : p.1 = k
    · have e' : q.1 = k := h1.symm.trans e
      have b : atKey (q :: qs) k = some q.2 := by simp [atKey, List.find?_cons, e']
      rw [valV_pos e, b]; exact h2
    · have e' : ¬ q.1 = k := fun z => e (h1.trans z)
      have b : atKey (q :: qs) k = atKey qs k := by simp [atKey, List.find?_cons, e']
      rw [valV_neg e, b]; exact ih
theorem KT.repl {H : Hp} {kvs : List (List Key × V)} {xs : List (List Key × Addr × Value)} (r : KT H kvs xs) (k : List Key) {y : V} {u : Value} (ry : RelV y u) :
    KT H (kvs.map fun kv => if kv.1 = k then (kv.1, y) else kv) (xs.map (putAt k u)) := by
  induction r with
  | nil => exact .nil
  | @cons p q ps qs h t ih =>
    rw [List.map_cons, List.map_cons]
    refine .cons ?_ ih
    obtain ⟨h1, h2, h3⟩ := h
    unfold putAt
    by_cases e : p.1 = k
    · rw [if_pos e, if_pos (h1.symm.trans e)]; exact ⟨h1, h2, ry⟩
    · rw [if_neg e, if_neg (fun z => e (h1.trans z))]; exact ⟨h1, h2, h3⟩
theorem KT.put {H : Hp} {kvs : List (List Key × V)} {xs : List (List Key × Addr × Value)} (r : KT H kvs xs) (k : List Key) {b : Addr} {y : V} {u : Value} (hb : H b = some (.tup (k.map kV))) (ry : RelV y u) :
    KT H (putK kvs k y) (storedH xs k b u) := by
  have e : (kvs.any fun kv => decide (kv.1 = k)) = (atKey xs k).isSome := by
    rw [valV_any, (r.val k).isSome_eq, Option.isSome_map]
  unfold putK storedH
  rw [e]
  by_cases q : (atKey xs k).isSome = true
  · rw [if_pos q, if_pos q]; exact r.repl k ry
  · rw [if_neg q, if_neg q]; exact Paired.snoc r ⟨rfl, hb, ry⟩
theorem KT.keeps {H H' : Hp} {kvs : List (List Key × V)} {xs : List (List Key × Addr × Value)} (r : KT H kvs xs) (ht : ∀ b ys, H b = some (.tup ys) → H' b = some (.tup ys)) : KT H' kvs xs :=
  Paired.mapP r fun _ _ z => ⟨z.1, ht _ _ z.2.1, z.2.2⟩

section
variable {P : Program} {w : World} {H : Hp} {h : Heap} {a : Addr}
theorem rd_of {u : HO} (ok : HOk P w H h) (e : Rd H a u) : ObjOk P w H h a u := e.ok ok
theorem dk_rd {kvs : List (Key × V)} (ok : HOk P w H h) (e : Rd H a (.dK kvs)) : kvs.length ≤ sizeLine ∧ (a == sysModules) = false ∧ ∃ vs, KV kvs vs ∧ h.DictOf (mixKind P w) a vs :=
  show ObjOk P w H h a (.dK kvs) from rd_of ok e
theorem dk_of {kvs : List (Key × V)} (ok : HOk P w H h) (e : H a = some (.dK kvs)) : kvs.length ≤ sizeLine ∧ (a == sysModules) = false ∧ ∃ vs, KV kvs vs ∧ h.DictOf (mixKind P w) a vs := dk_rd ok (.inl e)
/-- a tracked tuple of ints and texts is a key -/
theorem key_of {ks : List Key} (ok : HOk P w H h) (e : H a = some (.tup (ks.map kV))) : (tupleKind (mixKind P w)).is h ks a := by
  obtain ⟨_, its, r, o, h1, h2, n, h3⟩ := (show ObjOk P w H h a (.tup (ks.map kV)) from ok a _ e)
  exact ⟨o, its.toArray, n, h1, h2, h3, by simpa using items_are r⟩
theorem dt_rd {kvs : List (List Key × V)} (ok : HOk P w H h) (e : Rd H a (.dT kvs)) : kvs.length ≤ sizeLine ∧ (a == sysModules) = false ∧
    ∃ xs, KT H kvs xs ∧ h.DictOfH (tupleKind (mixKind P w)) a xs := by
  obtain ⟨z, y, xs, r, o, es, ep, h1, h2, h3, h4, h5⟩ := (show ObjOk P w H h a (.dT kvs) from rd_of ok e)
  refine ⟨z, y, xs, r, o, es, ep, h1, h2, h3, h4, fun x hx => ?_, h5⟩
  have all : ∀ {l : List (List Key × V)} {m : List (List Key × Addr × Value)}, KT H l m → ∀ x ∈ m, (tupleKind (mixKind P w)).is h x.1 x.2.1 := by
    intro l m q
    induction q with
    | nil => intro x hx; exact nomatch hx
    | @cons p q ps qs hq t ih =>
      intro x hx
      rcases List.mem_cons.mp hx with e | hx
      · subst e
        exact key_of ok (by rw [← hq.1]; exact hq.2.1)
      · exact ih x hx
  exact all r x hx
theorem dt_of {kvs : List (List Key × V)} (ok : HOk P w H h) (e : H a = some (.dT kvs)) : kvs.length ≤ sizeLine ∧ (a == sysModules) = false ∧
    ∃ xs, KT H kvs xs ∧ h.DictOfH (tupleKind (mixKind P w)) a xs := dt_rd ok (.inl e)
end

/-- what the dict at a holds at the key y -/
def DGet (H : Hp) (a : Addr) (y : V) (r : Option V) : Prop :=
  (∃ kvs k, Rd H a (.dK kvs) ∧ y = kV k ∧ r = valV kvs k) ∨ ∃ kvs k b, Rd H a (.dT kvs) ∧ y = .ref b ∧ H b = some (.tup (k.map kV)) ∧ r = valV kvs k
/-- the heap behind a[y] = v -/
def DPut (H : Hp) (a : Addr) (y v : V) (H' : Hp) : Prop :=
  (∃ kvs k, H a = some (.dK kvs) ∧ y = kV k ∧ kvs.length < sizeLine ∧ H' = upd H a (.dK (putK kvs k v))) ∨
  ∃ kvs k b, H a = some (.dT kvs) ∧ y = .ref b ∧ H b = some (.tup (k.map kV)) ∧ kvs.length < sizeLine ∧ H' = upd H a (.dT (putK kvs k v))
theorem DGet.k {H : Hp} {a : Addr} {kvs : List (Key × V)} {k : Key} (e : H a = some (.dK kvs)) : DGet H a (kV k) (valV kvs k) := .inl ⟨kvs, k, .inl e, rfl, rfl⟩
theorem DGet.t {H : Hp} {a b : Addr} {kvs : List (List Key × V)} {k : List Key} (e : H a = some (.dT kvs)) (eb : H b = some (.tup (k.map kV))) : DGet H a (.ref b) (valV kvs k) := .inr ⟨kvs, k, b, .inl e, rfl, eb, rfl⟩
theorem DPut.k {H : Hp} {a : Addr} {kvs : List (Key × V)} {k : Key} {v : V} (e : H a = some (.dK kvs)) (hl : kvs.length < sizeLine) : DPut H a (kV k) v (upd H a (.dK (putK kvs k v))) := .inl ⟨kvs, k, e, rfl, hl, rfl⟩
theorem DPut.t {H : Hp} {a b : Addr} {kvs : List (List Key × V)} {k : List Key} {v : V} (e : H a = some (.dT kvs)) (eb : H b = some (.tup (k.map kV))) (hl : kvs.length < sizeLine) :
    DPut H a (.ref b) v (upd H a (.dT (putK kvs k v))) := .inr ⟨kvs, k, b, e, rfl, eb, hl, rfl⟩


section
variable {X : Cx} {pins : List (Addr × Obj)} {σ : St} {H : Hp} {s : Shared} {a : Addr} {y v : V} {u r : Value} {o : Option V} {A : Around} {E : Value → Shared → Prop}

theorem Inv.big (I : Inv X pins σ H s) : sysModules < s.heap.objs.size := by
  have h : mainGlobals < s.heap.objs.size := (I.mod.glob.keeps I.bk).lt
  exact Nat.lt_trans (by decide) h

/-- y in d -/
theorem d_in {Q : Value → Shared → Prop} (hu : A.units + 1 < cLine) (I : Inv X pins σ H s) (g : DGet H a y o) (ry : RelV y u) (h : ∀ s', Inv X pins σ H s' → Q (.bool o.isSome) s') :
    wpAny (model X.prog X.w) A (compareOp .In u (.ref a)) Q E s := by
  rcases g with ⟨kvs, k, e, ey, l⟩ | ⟨kvs, k, b, e, ey, eb, l⟩
  · subst ey
    obtain ⟨z, hd, vs, rel, dd⟩ := dk_rd I.hok e
    refine wpAny_in_of (kV_is ry) hd dd.mapOf ?_
    rw [← (rel.val k).isSome_eq, ← l]
    exact h _ (I.tok _)
  · subst ey
    cases (show u = Value.ref b from ry)
    obtain ⟨z, hd, xs, rel, dd⟩ := dt_rd I.hok e
    refine wpAny_in_heap (tupleKind_room_in1 hu) (key_of I.hok eb) hd dd ?_
    have q := (rel.val k).isSome_eq
    rw [Option.isSome_map] at q
    rw [← q, ← l]
    exact h _ (I.tok _)
/-- a dict's object is replaced -/
theorem d_write {h' : Heap} {t' : Nat} {ob : HO} (I : Inv X pins σ H s) (mu : Mut (H a)) (hs : Heap.SameBut a s.heap h') (he : ∃ q, h'.get? a = some q) (new : ObjOk X.prog X.w (upd H a ob) h' a ob) :
    Inv X pins σ (upd H a ob) { s with heap := h', toks := t' } :=
  I.write (x := a) (e := a) mu (.inl rfl) (fun b q hb z => (hs.2 b hb).trans z) he new
theorem dk_new {P : Program} {w : World} {H' : Hp} {h' : Heap} {kvs : List (Key × V)} {vs : List (Key × Value)} (z : kvs.length ≤ sizeLine) (hd : (a == sysModules) = false) (rel : KV kvs vs) (dd : h'.DictOf (mixKind P w) a vs) :
    ObjOk P w H' h' a (.dK kvs) := ⟨z, hd, vs, rel, dd⟩
/-- d[y] = v -/
theorem d_setItem {H' : Hp} {Q : Unit → Shared → Prop} (hu : A.units + 1 < cLine) (I : Inv X pins σ H s) (g : DPut H a y v H') (ry : RelV y u) (rv : RelV v r) (h : ∀ s', Inv X pins σ H' s' → Q () s') :
    wpAny (model X.prog X.w) A (setItem (.ref a) u r) Q E s := by
  rcases g with ⟨kvs, k, e, ey, l, eH⟩ | ⟨kvs, k, b, e, ey, eb, l, eH⟩
  · subst ey eH
    obtain ⟨z, hd, vs, rel, dd⟩ := dk_of I.hok e
    have hz : vs.length ≤ sizeLine := by rw [← rel.length]; exact z
    have hl : (putK kvs k v).length ≤ sizeLine := by have := length_putK kvs k v; omega
    refine wpAny_setItem_pairs (hsz := hz) (kV_is ry) dd fun h' dd' hs => h _ ?_
    have he : ∃ q, h'.get? a = some q := let ⟨q, _, _, hq, _⟩ := dd'; ⟨q, hq⟩
    exact d_write I (by rw [e]; exact True.intro) hs he (dk_new hl hd (rel.put k rv) dd')
  · subst ey eH
    cases (show u = Value.ref b from ry)
    obtain ⟨z, hd, xs, rel, dd⟩ := dt_of I.hok e
    have hz : xs.length ≤ sizeLine := by rw [← Paired.length rel]; exact z
    have hl : (putK kvs k v).length ≤ sizeLine := by have := length_putK kvs k v; omega
    refine wpAny_setItem_heap (hsz := hz) (tupleKind_room_in1 hu) (key_of I.hok eb) dd fun h' dd' hs => h _ ?_
    obtain ⟨q, es, ep, hq, h2, h3, h4, _, h5⟩ := dd'
    refine d_write I (by rw [e]; exact True.intro) hs ⟨q, hq⟩ ⟨hl, hd, _, (rel.put k eb rv).keeps fun c ys ec => ?_, q, es, ep, hq, h2, h3, h4, h5⟩
    rw [upd_ne (ne_of ec e (fun z => nomatch z))]
    exact ec
end

section
variable {X : Cx} {pins : List (Addr × Obj)} {σ : St} {H : Hp} {s : Shared} {a : Addr} {kvs : List (Key × V)} {k : Key} {u : Value} {A : Around} {E : Value → Shared → Prop}
end


/-! ### readings and rules -/
/-- y in d, y not in d -/
def tDIn (ty td : TE) : TE := fun σ H Q => ty σ H fun y H1 => td σ H1 fun x H2 => ∃ a o, x = .ref a ∧ DGet H2 a y o ∧ Q (.bl o.isSome) H2
/-- d[y] = v -/
def sDPut (td ty tv : TE) : TS := fun D σ H => tv σ H fun v H1 => td σ H1 fun x H2 => ty σ H2 fun y H3 => ∃ a H4, x = .ref a ∧ DPut H3 a y v H4 ∧ D.nx σ H4
section
variable {X : Cx} {o i e value : Expr} {pos pos' tpos : Pos} {td ty tv : TE}
theorem pc_din (hu : X.A.units + 1 < cLine) (hi : PE X i ty) (ho : PE X o td) : PC X .In i o (tDIn ty td) := by
  intro pins s σ H Q I h
  refine thn (hi pins s σ H _ I h) fun iv s1 ⟨y, H1, I1, ry, q1⟩ => thn (ho pins s1 σ H1 _ I1 q1) fun u s2 ⟨x, H2, I2, rx, a, ov, ex, g, q2⟩ => ?_
  subst ex
  obtain rfl : u = Value.ref a := rx
  exact d_in hu I2 g ry fun s3 I3 => ⟨.bl ov.isSome, H2, I3, rfl, q2⟩
theorem ps_dput (hu : X.A.units + 1 < cLine) (ho : PE X o td) (hi : PE X i ty) (hv : PE X value tv) (hs : swapsWith value (some (.Subscript o i pos')) pos.line X.env = pure false) :
    PS X (.Assign [.Subscript o i pos'] value pos) (sDPut td ty tv) := by
  intro pins s σ H D I h
  refine wpAny_Assign_Subscript (thn (hv pins s σ H _ I h) fun r s1 ⟨v, H1, I1, rv, q1⟩ => thn (ho pins s1 σ H1 _ I1 q1) fun u s2 ⟨x, H2, I2, rx, q2⟩ => thn (hi pins s2 σ H2 _ I2 q2) fun iv s3 ⟨y, H3, I3, ry, a, H4, ex, g, q3⟩ => ?_) hs
  subst ex
  obtain rfl : u = Value.ref a := rx
  exact d_setItem hu I3 g ry rv fun s4 I4 => ⟨σ, H4, I4, q3⟩
end


/-! ### displays -/
theorem dk_empty {P : Program} {w : World} {H : Hp} (h : Heap) (hb : sysModules < h.objs.size) : ObjOk P w H (h.push { cls := .type "dict", data := .dict #[] }) h.objs.size (.dK []) :=
  ⟨Nat.zero_le _, beq_eq_false_iff_ne.mpr (Ne.symm (Nat.ne_of_lt hb)), [], .nil, Heap.DictOf.new h⟩
section
variable {X : Cx} {pos : Pos}
end

/-- the pairs of a display, from the left -/
def tPairs : List (TE × TE) → St → Hp → (List (V × V) → Hp → Prop) → Prop
  | [], _, H, Q => Q [] H
  | (tk, tv) :: r, σ, H, Q => tk σ H fun x H1 => tv σ H1 fun y H2 => tPairs r σ H2 fun ps H3 => Q ((x, y) :: ps) H3
abbrev VV : List (V × V) → List (Value × Value) → Prop := Paired fun p q => RelV p.1 q.1 ∧ RelV p.2 q.2
def PPs (X : Cx) (pos : Pos) (keys : List (Option Expr)) (values : List Expr) (trs : List (TE × TE)) : Prop :=
  ∀ (pins : List (Addr × Obj)) (s : Shared) (σ : St) (H : Hp) (Q : List (V × V) → Hp → Prop), Inv X pins σ H s → tPairs trs σ H Q →
    wpAny (model X.prog X.w) X.A (evalPairs (pairTrees keys values X.env pos)) (fun vs s' => ∃ ps H', Inv X pins σ H' s' ∧ VV ps vs ∧ Q ps H') X.xe s
theorem pps_nil {X : Cx} {pos : Pos} : PPs X pos [] [] [] := fun pins s σ H Q I h => pairTrees_nil_walk ⟨[], H, I, .nil, h⟩
theorem pps_cons {X : Cx} {pos : Pos} {k v : Expr} {ks : List (Option Expr)} {vs : List Expr} {tk tv : TE} {trs : List (TE × TE)} (hk : PE X k tk) (hv : PE X v tv) (hr : PPs X pos ks vs trs) :
    PPs X pos (some k :: ks) (v :: vs) ((tk, tv) :: trs) := fun pins s σ H Q I h =>
  pairTrees_cons_walk (thn (hk pins s σ H _ I h) fun u s1 ⟨x, H1, I1, rx, q1⟩ => thn (hv pins s1 σ H1 _ I1 q1) fun w2 s2 ⟨y, H2, I2, ry, q2⟩ =>
    thn (hr pins s2 σ H2 _ I2 q2) fun ws s3 ⟨ps, H3, I3, rel, q3⟩ => ⟨(x, y) :: ps, H3, I3, .cons ⟨rx, ry⟩ rel, q3⟩)

def mergeK (kvs more : List (Key × V)) : List (Key × V) := more.foldl (fun acc kv => putK acc kv.1 kv.2) kvs
theorem KV.merge : ∀ {more : List (Key × V)} {rs : List (Key × Value)} {kvs : List (Key × V)} {vs : List (Key × Value)}, KV more rs → KV kvs vs → KV (mergeK kvs more) (merged vs rs) := by
  intro more rs kvs vs r
  unfold KV at r
  induction r generalizing kvs vs with
  | nil => intro q; exact q
  | @cons p q ps qs h t ih =>
    intro r0
    have e : KV (putK kvs p.1 p.2) (stored vs q.1 q.2) := by
      have := r0.put p.1 h.2
      rw [← h.1]; exact this
    exact ih e
theorem length_mergeK : ∀ (more kvs : List (Key × V)), (mergeK kvs more).length ≤ kvs.length + more.length
  | [], kvs => by show kvs.length ≤ kvs.length + 0; omega
  | p :: r, kvs => by
    have h1 := length_mergeK r (putK kvs p.1 p.2)
    have h2 := length_putK kvs p.1 p.2
    show (mergeK (putK kvs p.1 p.2) r).length ≤ _
    rw [List.length_cons]; omega
theorem carries_of {P : Program} {w : World} : ∀ {kvs : List (Key × V)} {ws : List (Value × Value)}, VV (kvs.map fun kv => (kV kv.1, kv.2)) ws → ∃ rs, Carries (mixKind P w) ws rs ∧ KV kvs rs
  | [], _, r => by rw [List.map_nil] at r; cases r; exact ⟨[], True.intro, .nil⟩
  | p :: kvs, _, r => by
    rw [List.map_cons] at r
    cases r with
    | @cons a b as bs h t =>
      obtain ⟨rs, c, q⟩ := carries_of (P := P) (w := w) t
      obtain ⟨b1, b2⟩ := b
      exact ⟨(p.1, b2) :: rs, ⟨kV_is h.1, rfl, c⟩, .cons ⟨rfl, h.2⟩ q⟩
/-- {k: v, ..} with keys ints and texts; the new dict stands empty while the pairs are made -/
def tDisp (trs : List (TE × TE)) : TE := fun σ H Q => ∀ p, H p = none → tPairs trs σ (upd H p (.dK [])) fun ps H2 => H2 p = some (.dK []) ∧ ∃ kvs : List (Key × V), ps = kvs.map (fun kv => (kV kv.1, kv.2)) ∧ kvs.length ≤ 15 ∧ Q (.ref p) (upd H2 p (.dK (mergeK [] kvs)))
theorem pe_disp {X : Cx} {pos : Pos} {keys : List (Option Expr)} {values : List Expr} {trs : List (TE × TE)} (h : PPs X pos keys values trs) (hall : keys.all (·.isSome) = true) (hl : keys.length = values.length) (h0 : keys ≠ [])
    (h15 : keys.length ≤ 15) : PE X (.Dict keys values pos) (tDisp trs) := by
  intro pins s σ H Q I q
  have hn := I.hok.fresh (Nat.le_refl s.heap.objs.size)
  have I1 := I.laid (a := s.heap.objs.size) (o := .dK []) (h' := s.heap.push { cls := .type "dict", data := .dict #[] }) (t' := s.toks) (fun _ _ q => Heap.get?_push_of_some _ q) (Nat.le_refl _) (dk_empty s.heap I.big)
  refine wpAny_Dict_walk (knd := mixKind X.prog X.w) hall hl h0 h15 (thn (h pins _ σ _ _ I1 (q _ hn)) fun ws s2 ⟨ps, H2, I2, rel, e, kvs, ep, lk, q2⟩ => ?_)
  subst ep
  obtain ⟨rs, c, rk⟩ := carries_of (P := X.prog) (w := X.w) rel
  obtain ⟨z, hd, vs0, r0, dd⟩ := dk_of I2.hok e
  cases r0
  refine ⟨rs, c, dd, fun h' dd' hs => ⟨.ref s.heap.objs.size, _, ?_, rfl, q2⟩⟩
  have hz : (mergeK [] kvs).length ≤ sizeLine := by
    have h1 := length_mergeK kvs []
    rw [List.length_nil] at h1
    rw [sizeLine_eq]; omega
  have he : ∃ q, h'.get? s.heap.objs.size = some q := let ⟨q, _, _, hq, _⟩ := dd'; ⟨q, hq⟩
  exact d_write I2 (by rw [e]; exact True.intro) hs he (dk_new hz hd (rk.merge .nil) dd')


/-! ### methods -/
/-- a method call o.m(e) of a built-in, with one argument: what must be seen of the text -/
structure M1 (X : Cx) (o : Expr) (m : Str) (apos : Pos) (e : Expr) (cpos : Pos) : Prop where
  base : attributeBase o m X.env (eval o X.env) = eval o X.env
  few : ((backTo cpos (starEach [e] X.env)).all (fun x => !x.1) && (backToKw cpos (keywordEach [] X.env)).all (fun x => x.1.isSome)
    && decide (([e] : List Expr).length + ([] : List Keyword).length + (if ([] : List Keyword).isEmpty then 0 else 1) < 30)) = true
  line : (apos.endLine == cpos.line) = true
  trees : backTo cpos (starEach [e] X.env) = [(false, eval e X.env)]
structure M2 (X : Cx) (o : Expr) (m : Str) (apos : Pos) (e f : Expr) (cpos : Pos) : Prop where
  base : attributeBase o m X.env (eval o X.env) = eval o X.env
  few : ((backTo cpos (starEach [e, f] X.env)).all (fun x => !x.1) && (backToKw cpos (keywordEach [] X.env)).all (fun x => x.1.isSome)
    && decide (([e, f] : List Expr).length + ([] : List Keyword).length + (if ([] : List Keyword).isEmpty then 0 else 1) < 30)) = true
  line : (apos.endLine == cpos.line) = true
  trees : backTo cpos (starEach [e, f] X.env) = [(false, eval e X.env), (false, eval f X.env)]

/-- a is a dict, whatever its keys -/
def IsD (H : Hp) (a : Addr) : Prop := (∃ kvs, Rd H a (.dK kvs)) ∨ ∃ kvs, Rd H a (.dT kvs)
theorem isD_at {X : Cx} {pins : List (Addr × Obj)} {σ : St} {H : Hp} {s : Shared} {a : Addr} (I : Inv X pins σ H s) (d : IsD H a) :
    s.TypeIs (.ref a) "dict" ∧ (∀ b, Value.ref a = .ref b → ∃ ob, s.heap.get? b = some ob ∧ ob.dict = none) ∧ (a == sysModules) = false := by
  rcases d with ⟨kvs, e⟩ | ⟨kvs, e⟩
  · obtain ⟨_, hd, vs, _, dd⟩ := dk_rd I.hok e
    refine ⟨dd.typeIs, fun b q => ?_, hd⟩
    cases q
    obtain ⟨ob, _, _, h1, h2, _⟩ := dd
    exact ⟨ob, h1, h2.2.1⟩
  · obtain ⟨_, hd, xs, _, dd⟩ := dt_rd I.hok e
    refine ⟨dd.typeIs, fun b q => ?_, hd⟩
    cases q
    obtain ⟨ob, _, _, h1, h2, _⟩ := dd
    exact ⟨ob, h1, h2.2.1⟩

section
variable {X : Cx} {pins : List (Addr × Obj)} {σ : St} {H : Hp} {s : Shared} {a : Addr} {y d : V} {u r : Value} {o : Option V} {A : Around} {E : Value → Shared → Prop}
/-- d.get(y, x) -/
theorem d_get2 {Q : Value → Shared → Prop} (hu : A.units + 1 < cLine) (I : Inv X pins σ H s) (g : DGet H a y o) (ry : RelV y u) (rd : RelV d r) (h : ∀ w' s', Inv X pins σ H s' → RelV (o.getD d) w' → Q w' s') :
    wpAny (model X.prog X.w) A (call (.builtin "dict.get") [.ref a, u, r]) Q E s := by
  rcases g with ⟨kvs, k, e, ey, l⟩ | ⟨kvs, k, b, e, ey, eb, l⟩
  · subst ey
    obtain ⟨z, hd, vs, rel, dd⟩ := dk_rd I.hok e
    refine call_meetsIn PySem.F.slot_dict_get dd.typeIs PySem.F.entry_dict_get (PySem.F.args_dict_get_3 _ _ _) (meets_dict_get_default (mixKind X.prog X.w) a (kV_is ry) hd r) ⟨_, dd.mapOf, h _ _ (I.tok _) ?_⟩
    rw [l]
    exact (rel.val k).getD rd
  · subst ey
    cases (show u = Value.ref b from ry)
    obtain ⟨z, hd, xs, rel, dd⟩ := dt_rd I.hok e
    refine call_meetsIn PySem.F.slot_dict_get dd.typeIs PySem.F.entry_dict_get (PySem.F.args_dict_get_3 _ _ _) (meetsH_dict_get_default (tupleKind (mixKind X.prog X.w)) a b hd r) ⟨tupleKind_room_in1 hu, k, xs, key_of I.hok eb, dd, h _ _ (I.tok _) ?_⟩
    rw [l]
    exact (rel.val k).getD rd
end

def tDGet2 (td ty tx : TE) : TE := fun σ H Q => td σ H fun x H1 => ∃ a, x = .ref a ∧ IsD H1 a ∧ ty σ H1 fun y H2 => tx σ H2 fun z H3 => ∃ o, DGet H3 a y o ∧ Q (o.getD z) H3
section
variable {X : Cx} {o e f : Expr} {apos cpos : Pos} {td ty tx : TE}
theorem pe_dget2 (hu : X.A.units + 1 < cLine) (ho : PE X o td) (he : PE X e ty) (hf : PE X f tx) (m : M2 X o "get" apos e f cpos) : PE X (.Call (.Attribute o "get" apos) [e, f] [] cpos) (tDGet2 td ty tx) := by
  intro pins s σ H Q I h
  refine wpAny_Call_method m.base m.few m.line PySem.F.plainAttrs_dict PySem.F.slot_dict_get PySem.F.type_dict_get (thn (ho pins s σ H _ I h) fun u s1 ⟨x, H1, I1, rx, a, ex, d, q1⟩ => ?_)
  subst ex
  obtain rfl : u = Value.ref a := rx
  obtain ⟨t1, t2, _⟩ := isD_at I1 d
  refine ⟨t1, t2, ?_⟩
  rw [m.trees]
  refine Calls.callWith_builtin rfl (Calls.evalArgs_plain (Calls.spliced_cons (thn (he pins s1 σ H1 _ I1 q1) fun iv s2 ⟨y, H2, I2, ry, q2⟩ =>
    Calls.spliced_cons (thn (hf pins s2 σ H2 _ I2 q2) fun fv s3 ⟨z, H3, I3, rz, ov, g, q3⟩ => Calls.spliced_nil ?_))))
  exact d_get2 hu I3 g ry rz fun w' s4 I4 rw' => ⟨_, H3, I4, rw', q3⟩
end

/-! ### dict(d): a copy -/
section
variable {X : Cx} {pins : List (Addr × Obj)} {σ : St} {H : Hp} {s : Shared} {a : Addr} {kvs : List (Key × V)} {A : Around} {E : Value → Shared → Prop}
end


section
variable {X : Cx} {pins : List (Addr × Obj)} {σ : St} {H : Hp} {s : Shared} {a : Addr} {y : V} {u : Value} {A : Around} {E : Value → Shared → Prop}
end
end L2


namespace InkX
open PySem PySem.Spec PyProof.Rows L2
/-! ### a list made by one clause whose tests and item may name the def's captured names; kept, or stored under a plain name -/
def cxF (X : Cx) (N : List Str) (scope : Scope) (cl : List (Str × Addr)) (C : Addr) (s₀ : Shared) (H₀ : Hp) (ex : List Addr) (pn : List (Addr × Obj)) : Cx where
  prog := X.prog
  w := X.w
  K := X.K
  mg := X.mg
  base := X.base
  A := X.A
  N := N
  s₀ := s₀
  H₀ := H₀
  env := compEnvC scope cl C X.env
  outer := X.stack
  stack := X.stack
  ex := ex
  fn := fun _ => false
  calm := X.calm
  pn := pn
  xe := fun _ _ => False
structure CompF (X : Cx) (N : List Str) (scope : Scope) (cl : List (Str × Addr)) (jx : List (Option Nat)) : Prop where
  kind : scope.kind = .function
  cell : ∀ x ∈ scope.names, x.2 ≠ .cell
  names : ∀ x ∈ scope.names, x.2 = .local → scope.names.lookup x.1 = some .local
  clos : closureFor scope X.env = pure cl
  sub : ∀ x c, cl.lookup x = some c → X.env.cells.lookup x = some c
  has : ∀ x, ((relabel scope X.env).names.lookup x = some .cell ∨ (relabel scope X.env).names.lookup x = some .free) → ∃ c, cl.lookup x = some c
  len : jx.length = N.length
  free : ∀ (i j : Nat) (x : Str), jx[i]? = some (some j) → N[i]? = some x → X.N[j]? = some x ∧ X.env.scope.names.lookup x = some .cell ∧ (relabel scope X.env).names.lookup x = some .cell
def startF (jx : List (Option Nat)) (σ : L2.St) : L2.St := jx.map fun o => o.bind fun j => (σ[j]?).join
section
variable {X : Cx} {N : List Str} {scope : Scope} {cl : List (Str × Addr)} {jx : List (Option Nat)}
theorem comp_startF {pins : List (Addr × Obj)} {σ : L2.St} {H : Hp} {s : Shared} {fp : List Addr} {h₁ : Heap} {t : Nat} (cs : CompF X N scope cl jx) (I : Inv X pins σ H s) (hf : ∀ b ∈ fp, FpOk X pins H b) (hlt : ∀ b ∈ fp, b < s.heap.objs.size)
    (hns : h₁.Ns s.heap.objs.size fun _ => none) (hk : ∀ b o, s.heap.get? b = some o → h₁.get? b = some o) :
    Inv (cxF X N scope cl s.heap.objs.size s H fp (X.pn ++ pins)) [] (startF jx σ) H { s with heap := h₁, toks := t } := by
  have sub : ∀ {x c}, (cxF X N scope cl s.heap.objs.size s H fp (X.pn ++ pins)).env.cells.lookup x = some c → X.env.cells.lookup x = some c := fun {x c} e => cs.sub x c e
  refine ⟨⟨I.ok.mod, cs.kind, I.ok.glob, I.ok.blt, Nat.le_refl _, fun x y c e e' => I.ok.inj x y c (sub e) (sub e'), fun x hx => cs.has x hx, fun x c z _ => (by cases z), I.ok.hd, I.ok.frames, .inl rfl, fun b hb => ⟨Nat.ne_of_lt (hlt b hb), fun x c e => (hf b hb).2.2.2.2.1 x c (sub e)⟩, I.bs, Nat.le_trans I.ok.bsz I.sz, fun b o e hb => ?_, fun b hb z => ?_, I.stack, I.stkFree⟩,
    rfl, I.bare, Un.kept hk, ⟨_, hns, fun i x v e1 e2 _ => ?_⟩, fun x c e => ?_, I.hok.fresh (Nat.le_refl _), fun x c e => I.freeC x c (sub e), fun p hp => ?_, I.hok.kept hk, by unfold startF; rw [List.length_map]; exact cs.len⟩
  · rcases (hf b hb).2.2.2.1 with z | z
    · exact I.ok.noex b o e z
    · exact absurd (Nat.lt_of_lt_of_le (Heap.lt_size (I.ok.bs b o e).1) z) (Nat.lt_irrefl _)
  · rcases List.mem_cons.mp (I.stkSub b z) with e | e
    · exact (hf b hb).2.1 e
    · exact (hf b hb).2.2.1 e
  · unfold startF at e2
    rw [List.getElem?_map] at e2
    cases ej : jx[i]? with
    | none => rw [ej] at e2; cases e2
    | some o =>
      rw [ej] at e2
      cases o with
      | none => cases e2
      | some j =>
        have e3 : σ[j]? = some (some v) := by
          have z : ((σ[j]?).join) = some v := Option.some.inj e2
          cases hs : σ[j]? with
          | none => rw [hs] at z; cases z
          | some q => rw [hs] at z; exact congrArg some z
        obtain ⟨f1, f2, f3⟩ := cs.free i j x ej e1
        obtain ⟨m, hn, hl⟩ := I.loc
        obtain ⟨u, ru, look⟩ := hl j x v f1 e3 (.inr (.inl f2))
        refine ⟨u, ru, ?_⟩
        rcases look with ⟨k, _⟩ | ⟨_, c, hc, o, ho, hd⟩
        · have k' : X.env.scope.names.lookup x = some .local := k
          rw [f2] at k'
          cases k'
        · obtain ⟨c', hc'⟩ := cs.has x (.inl f3)
          have z := cs.sub x c' hc'
          rw [hc] at z
          cases z
          exact .inr ⟨.inl f3, c, hc', o, hk _ _ ho, hd⟩
  · obtain ⟨v, o, ho, hd⟩ := I.cell x c (sub e)
    exact ⟨v, o, hk _ _ ho, hd⟩
  · have hp' : p ∈ X.pn ++ pins := by
      have z : p ∈ (X.pn ++ pins) ++ [] := hp
      simpa using z
    obtain ⟨e, n, nl, nf, d⟩ := I.pin p hp'
    refine ⟨hk _ _ e, n, Nat.ne_of_lt (Heap.lt_size e), fun z => ?_, d⟩
    rcases List.mem_cons.mp (I.stkSub p.1 z) with e | e
    · exact nl e
    · exact nf e
theorem comp_midF {pins : List (Addr × Obj)} {σ σ' : L2.St} {H H' : Hp} {s s' : Shared} {fp : List Addr} (I : Inv X pins σ H s) (hf : ∀ b ∈ fp, FpOk X pins H b) (J : Inv (cxF X N scope cl s.heap.objs.size s H fp (X.pn ++ pins)) [] σ' H' s') : Inv X pins σ H' s' :=
  I.call' (ch := fp) J.os J.base J.hok J.bare fun b hb => ⟨(hf b hb).2.2.2.1, (hf b hb).2.1, (hf b hb).2.2.2.2.1, (hf b hb).2.2.2.2.2⟩
theorem comp_outF {pins : List (Addr × Obj)} {σ σ2 : L2.St} {H H' : Hp} {s s' : Shared} {h' : Heap} (I : Inv X pins σ H s) (I4 : Inv X pins σ2 H' s') (hfree : H' s.heap.objs.size = none) (hs : Heap.SameBut s.heap.objs.size s'.heap h') : Inv X pins σ2 H' { s' with heap := h' } := by
  refine I4.turned (t' := s'.toks) (it := s.heap.objs.size) (fun b o hb e => hs.extBut _ _ hb e) hfree (Nat.ne_of_gt I.lt) (.inr I.sz) (fun x c e z => ?_) fun p hp z => ?_
  · obtain ⟨v, o, ho, _⟩ := I.cell x c e
    exact absurd (Heap.lt_size ho) (by rw [z]; exact Nat.lt_irrefl _)
  · exact absurd (Heap.lt_size (I.pin p hp).1) (by rw [z]; exact Nat.lt_irrefl _)
def tTurnsF (J : It) (acc : Addr) (g : TG) (tt : TT) (te : TE) (σ0 : L2.St) (H : Hp) (Q : VK) : Prop :=
  ∃ W : Nat → Nat → L2.St → Hp → Prop, (∃ m, W 0 m σ0 H) ∧ ∀ i m σ H, W i m σ H →
    (J.stop i H ∧ Q (.ref acc) H) ∨ (J.go i H ∧ ∃ Nx : L2.St → Hp → Prop, (∀ σ' H', Nx σ' H' → ∃ m', m' < m ∧ W (i + 1) m' σ' H') ∧ ∀ x H', J.yld i H x H' → g x σ H' fun σ2 H2 => tt σ2 H2 fun b H3 =>
      if b = true then te σ2 H3 fun v H4 => ∃ xs, H4 acc = some (.lst xs) ∧ xs.length < sizeLine ∧ Nx σ2 (upd H4 acc (.lst (xs ++ [v]))) else Nx σ2 H3)
def tCompF (jx : List (Option Nat)) (wi : TI) (g : TG) (tt : TT) (te : TE) : TE := fun σ H Q => wi σ H fun J H1 => ∀ acc, H1 acc = none → tTurnsF J acc g tt te (startF jx σ) (upd H1 acc (.lst [])) Q
theorem comp_core {elt tg iter : Expr} {ifs : List Expr} {pos pos' : Pos} {wi : TI} {g : TG} {tt : TT} {te : TE} (cs : CompF X N scope cl jx) (hc : X.calm = true) (hi : PI X tg iter wi)
    (hg : ∀ C s₀ H₀ ex pn, PG (cxF X N scope cl C s₀ H₀ ex pn) tg g) (ht : ∀ C s₀ H₀ ex pn, PTs (cxF X N scope cl C s₀ H₀ ex pn) ifs tt) (he : ∀ C s₀ H₀ ex pn, PE (cxF X N scope cl C s₀ H₀ ex pn) elt te)
    (hs : ∀ x, foldedSetIterable iter X.env x = pure x) {use : Option (Value → Sem Unit)} {Q' : Value → Shared → Prop} {Q : VK} {pins : List (Addr × Obj)} {s : Shared} {σ : L2.St} {H : Hp} (I : Inv X pins σ H s) (h : tCompF jx wi g tt te σ H Q)
    (fin : ∀ (s3 : Shared) (H3 : Hp) (fp : List Addr) (acc : Addr) (σ6 : L2.St) (H6 : Hp) (s7 : Shared), Inv X pins σ H3 s3 → (∀ b ∈ fp, FpOk X pins H3 b) → Inv (cxF X N scope cl s3.heap.objs.size s3 H3 fp (X.pn ++ pins)) [] σ6 H6 s7 → Q (.ref acc) H6 →
      compPost (model X.prog X.w) X.A X.xe use Q' (.ref acc) s3.heap.objs.size (.ok .next) s7) :
    wpAny (model X.prog X.w) X.A (comprehension (.ListComp elt [⟨tg, iter, ifs, 0⟩] scope pos) scope X.env pos' (newList []) false (eval iter X.env) use) Q' X.xe s := by
  refine wpAny_comprehension_free (use := use) rfl hs cs.clos cs.kind cs.names (thn (hi pins s σ H _ I h) fun v s1 h1 => thn h1 fun itv s2 h2 => ?_)
  obtain ⟨it, fp, tn, J, H2, e, I2, T, st2, f2, q⟩ := h2
  subst e
  refine wpAny_newObj_type (hd := by size_fits) ?_
  have hacc : H2 s2.heap.objs.size = none := I2.hok.fresh (Nat.le_refl _)
  have I3 : Inv X pins σ (upd H2 s2.heap.objs.size (.lst [])) { s2 with heap := s2.heap.push { cls := .type "list", data := .seq ([] : List Value).toArray }, toks := s2.toks } := I2.lnew (ys := []) .nil (Nat.zero_le _)
  have ftn : ∀ b ∈ fp, b < s2.heap.objs.size := fun b hb => by
    obtain ⟨o, ho, _⟩ := T.obj _ _ st2 b hb
    exact Heap.lt_size ho
  have f3 : ∀ b ∈ fp, FpOk X pins (upd H2 s2.heap.objs.size (.lst [])) b := fun b hb => ⟨by rw [upd_ne (Nat.ne_of_lt (ftn b hb))]; exact (f2 b hb).1, (f2 b hb).2⟩
  have k3 : ∀ b o, s2.heap.get? b = some o → (s2.heap.push { cls := .type "list", data := .seq ([] : List Value).toArray }).get? b = some o := fun b o e => Heap.get?_push_of_some _ e
  have q3 := q _ hacc
  generalize hs3 : ({ s2 with heap := s2.heap.push { cls := .type "list", data := .seq ([] : List Value).toArray }, toks := s2.toks } : Shared) = s3 at I3
  generalize hH3 : upd H2 s2.heap.objs.size (.lst []) = H3 at I3 f3 q3
  have hh3 : s3.heap = s2.heap.push { cls := .type "list", data := .seq ([] : List Value).toArray } := by rw [← hs3]
  have ft3 : ∀ b ∈ fp, b < s3.heap.objs.size := fun b hb => by rw [hh3, Heap.size_push]; exact Nat.lt_succ_of_lt (ftn b hb)
  have st3 : tn 0 s3.heap := T.keep _ _ _ st2 fun b _ o e => by rw [hh3]; exact k3 b o e
  show wpAny _ _ _ _ _ s3
  refine wpAny_newFunctionEnv cs.cell (fun y hy => by simp at hy) (fun h₁ hns hsb => ?_) cs.kind
  have kh : ∀ b o, s3.heap.get? b = some o → h₁.get? b = some o := fun b o e => hsb.extBut _ _ (Nat.ne_of_lt (Heap.lt_size e)) (Heap.get?_push_of_some _ e)
  have J0 : Inv (cxF X N scope cl s3.heap.objs.size s3 H3 fp (X.pn ++ pins)) [] (startF jx σ) H3 { s3 with heap := h₁, toks := s3.toks + ([] : List (Str × Value)).length } := comp_startF cs I3 f3 ft3 hns kh
  have st4 : tn 0 h₁ := T.keep _ _ _ st3 fun b _ o e => kh b o e
  obtain ⟨W, ⟨m0, w0⟩, turn⟩ := q3
  have stat : ∀ {H' : Hp}, (∀ b ∈ fp, H' b = none) → ∀ b ∈ fp, FpOk (cxF X N scope cl s3.heap.objs.size s3 H3 fp (X.pn ++ pins)) [] H' b := fun hn b hb => by
    refine ⟨hn b hb, Nat.ne_of_lt (ft3 b hb), fun z => ?_, .inl hb, fun x c e => (f3 b hb).2.2.2.2.1 x c (cs.sub x c e), fun p hp => ?_⟩
    · rcases List.mem_cons.mp (I3.stkSub b z) with e | e
      · exact (f3 b hb).2.1 e
      · exact (f3 b hb).2.2.1 e
    · have hp' : p ∈ X.pn ++ pins := by
        have z : p ∈ (X.pn ++ pins) ++ [] := hp
        simpa using z
      exact (f3 b hb).2.2.2.2.2 p hp'
  have loop : ∀ s5 : Shared, s5 = { s3 with heap := h₁, toks := s3.toks + ([] : List (Str × Value)).length } → codeAny (model X.prog X.w) X.A (.compLoop (.ListComp elt [⟨tg, iter, ifs, 0⟩] scope pos) 0 (.ref it) (.ref s2.heap.objs.size) (cxF X N scope cl s3.heap.objs.size s3 H3 fp (X.pn ++ pins)).env)
      (compPost (model X.prog X.w) X.A X.xe use Q' (.ref s2.heap.objs.size) s3.heap.objs.size) s5 := by
    rintro s5 rfl
    refine compLoopG (fun n s' => ∃ i σ' H', Inv (cxF X N scope cl s3.heap.objs.size s3 H3 fp (X.pn ++ pins)) [] σ' H' s' ∧ tn i s'.heap ∧ (∀ b ∈ fp, H' b = none) ∧ W i n σ' H') ?_ m0 ⟨0, _, H3, J0, st4, fun b hb => (f3 b hb).1, w0⟩
    rintro n s6 ⟨i, σ6, H6, I6, st6, fr6, w6⟩
    rcases turn i n σ6 H6 w6 with ⟨stop, qn⟩ | ⟨go, Nx, hN, step⟩
    · refine thn (T.done (cxF X N scope cl s3.heap.objs.size s3 H3 fp (X.pn ++ pins)) rfl rfl rfl hc i [] s6 σ6 H6 _ I6 (stat fr6) st6 stop) fun r s7 ⟨hr, I7⟩ => ?_
      subst hr
      exact fin s3 H3 fp _ σ6 H6 s7 I3 f3 I7 qn
    · refine thn (T.item (cxF X N scope cl s3.heap.objs.size s3 H3 fp (X.pn ++ pins)) rfl rfl rfl hc i [] s6 σ6 H6 _ I6 (stat fr6) st6 go) fun r s7 ⟨u, hr, h7⟩ => ?_
      subst hr
      refine thn h7 fun _ s8 ⟨x, H8, I8, r8, y8, st8, fr8⟩ => ?_
      have I8' := I8.pinned (stat fr8) (T.obj _ _ st8)
      refine thn (hg _ _ _ _ _ _ s8 σ6 H8 x u _ I8' r8 (step x H8 y8)) fun _ s9 ⟨σ9, H9, I9, q9⟩ => ?_
      refine thn (ht _ _ _ _ _ _ s9 σ9 H9 _ I9 q9) fun ok s10 ⟨H10, I10, q10⟩ => ?_
      have again : ∀ {σ7 : L2.St} {H7 : Hp} {s11 : Shared}, Inv (cxF X N scope cl s3.heap.objs.size s3 H3 fp (X.pn ++ pins)) ([] ++ pinsAt fp s8.heap) σ7 H7 s11 → Nx σ7 H7 → ∃ m, m < n ∧ ∃ i σ' H', Inv (cxF X N scope cl s3.heap.objs.size s3 H3 fp (X.pn ++ pins)) [] σ' H' s11 ∧ tn i s11.heap ∧ (∀ b ∈ fp, H' b = none) ∧ W i m σ' H' := fun {σ7 H7 s11} I7 n7 => by
        obtain ⟨m', hm, w7⟩ := hN σ7 H7 n7
        refine ⟨m', hm, i + 1, σ7, H7, I7.unpinned, T.keep _ _ _ st8 fun b hb o e => (I7.pin (b, o) (List.mem_append_right _ (List.mem_append_right _ (mem_pinsAt hb e)))).1, fun b hb => ?_, w7⟩
        obtain ⟨o, e, d⟩ := T.obj _ _ st8 b hb
        exact (I7.pin (b, o) (List.mem_append_right _ (List.mem_append_right _ (mem_pinsAt hb e)))).2.1
      cases ok with
      | false =>
        rw [if_neg Bool.false_ne_true] at q10
        exact again I10 q10
      | true =>
        rw [if_pos rfl] at q10
        refine thn (he _ _ _ _ _ _ s10 σ9 H10 _ I10 q10) fun v s11 ⟨y, H11, I11, r11, xs, hx, hz, n11⟩ => ?_
        refine thn (mt_append _ s11 σ9 H11 (.ref s2.heap.objs.size) [y] (.ref s2.heap.objs.size) [v] (fun _ H' => Nx σ9 H') I11 rfl (.cons r11 .nil) ⟨_, xs, y, rfl, rfl, hx, hz, n11⟩) fun _ s12 ⟨_, H12, I12, _, n12⟩ => ?_
        exact again I12 n12
  exact codeAny_compStart_list (loop _ rfl) (T.self _ _ _ _ _ st4 (loop _ rfl))
theorem pe_compF {elt tg iter : Expr} {ifs : List Expr} {pos : Pos} {wi : TI} {g : TG} {tt : TT} {te : TE} (cs : CompF X N scope cl jx) (hc : X.calm = true) (hi : PI X tg iter wi)
    (hg : ∀ C s₀ H₀ ex pn, PG (cxF X N scope cl C s₀ H₀ ex pn) tg g) (ht : ∀ C s₀ H₀ ex pn, PTs (cxF X N scope cl C s₀ H₀ ex pn) ifs tt) (he : ∀ C s₀ H₀ ex pn, PE (cxF X N scope cl C s₀ H₀ ex pn) elt te)
    (hs : ∀ x, foldedSetIterable iter X.env x = pure x := by intro _; rfl) : PE X (.ListComp elt [⟨tg, iter, ifs, 0⟩] scope pos) (tCompF jx wi g tt te) := by
  intro pins s σ H Q I h
  rw [eval_ListComp]
  refine comp_core (use := none) cs hc hi hg ht he hs I h fun s3 H3 fp acc σ6 H6 s7 I3 f3 I7 qn => ?_
  obtain ⟨m, hm, _⟩ := I7.loc
  exact ⟨m, hm, fun h' hsb => ⟨.ref acc, H6, comp_outF I3 (comp_midF I3 f3 I7) I7.free hsb, rfl, qn⟩⟩
theorem ps_setF {elt tg iter : Expr} {ifs : List Expr} {pos pos' pos2 : Pos} {wi : TI} {g : TG} {tt : TT} {te : TE} {i : Nat} {x : Str} (cs : CompF X N scope cl jx) (hc : X.calm = true) (hN : X.N.Nodup) (hix : X.N[i]? = some x) (hx : X.env.scope.names.lookup x = some .local) (hi : PI X tg iter wi)
    (hg : ∀ C s₀ H₀ ex pn, PG (cxF X N scope cl C s₀ H₀ ex pn) tg g) (ht : ∀ C s₀ H₀ ex pn, PTs (cxF X N scope cl C s₀ H₀ ex pn) ifs tt) (he : ∀ C s₀ H₀ ex pn, PE (cxF X N scope cl C s₀ H₀ ex pn) elt te)
    (hsw : swapsWith (.ListComp elt [⟨tg, iter, ifs, 0⟩] scope pos) (some (.Name x pos')) pos2.line X.env = pure true := by rfl)
    (hs : ∀ x, foldedSetIterable iter X.env x = pure x := by intro _; rfl) : PS X (.Assign [.Name x pos'] (.ListComp elt [⟨tg, iter, ifs, 0⟩] scope pos) pos2) (tAsg (tCompF jx wi g tt te) (gName i)) := by
  intro pins s σ H D I h
  rw [exec_Assign_Name_used _ _ _ _ hsw]
  refine wpAny_bind (wpAny_standAt (wpAny_bind ?_))
  show wpAny _ X.A (do let _ ← comprehension (.ListComp elt [⟨tg, iter, ifs, 0⟩] scope pos) scope X.env _ (newList []) false (eval iter X.env) (some (assign (.Name x pos') X.env))) _ _ s
  have h' : tCompF jx wi g tt te σ H (fun v H' => gName i v σ H' D.nx) := h
  refine wpAny_bind (thn (comp_core (use := some (assign (.Name x pos') X.env)) (Q' := fun _ s' => ∃ σ' H', Inv X pins σ' H' s' ∧ D.nx σ' H') cs hc hi hg ht he hs I h' fun s3 H3 fp acc σ6 H6 s7 I3 f3 I7 qn => ?_) fun _ s' q => ?_)
  · have I4 := comp_midF I3 f3 I7
    obtain ⟨m, hm, _⟩ := I7.loc
    refine wpAny_assign_Name (store_ok2 I4 hN hix (.inl hx) (v := .ref acc) rfl (fun s8 I8 ⟨a, hsb, ha⟩ => ?_) (.inr hx))
    have na : s3.heap.objs.size ≠ a := by
      rcases ha with rfl | ha
      · exact Nat.ne_of_gt I3.lt
      · intro z
        obtain ⟨v, o, ho, _⟩ := I3.cell x a ha
        exact absurd (Heap.lt_size ho) (by rw [z]; exact Nat.lt_irrefl _)
    refine ⟨m, hm.at' fun o e => hsb.extBut _ o na e, fun h' hs' => ⟨_, H6, comp_outF I3 I8 I7.free hs', qn⟩⟩
  · exact wpAny_pure (wpAny_pure q)
/-- no captured names -/
theorem CompF.none (cs : CompScope scope) (N : List Str) : CompF X N scope [] (N.map fun _ => none) where
  kind := cs.kind
  cell := cs.cell
  names := cs.names
  clos := closureFor_none cs.free
  sub := fun x c e => by cases e
  has := fun x hx => by
    have e : relabel scope X.env = scope := by
      unfold relabel
      have z : (scope.names.map fun (n, k) => if (k == NameKind.free && X.env.scope.kind == .function && X.env.kindOf n == some .cell) then (n, NameKind.cell) else (n, k)) = scope.names := by
        have z2 : (scope.names.map fun (n, k) => if (k == NameKind.free && X.env.scope.kind == .function && X.env.kindOf n == some .cell) then (n, NameKind.cell) else (n, k)) = scope.names.map id := List.map_congr_left fun p hp => by
          obtain ⟨n, k⟩ := p
          have q : (k == NameKind.free) = false := by
            have q := cs.free _ hp
            cases k <;> first | rfl | exact absurd rfl q
          simp [q]
        rw [z2, List.map_id]
      rw [z]
    rw [e] at hx
    rcases hx with z | z
    · exact absurd rfl (cs.cell _ (PySem.mem_of_lookup z))
    · exact absurd rfl (cs.free _ (PySem.mem_of_lookup z))
  len := by rw [List.length_map]
  free := fun i j x e _ => by
    rw [List.getElem?_map] at e
    cases h : N[i]? with
    | none => rw [h] at e; cases e
    | some y => rw [h] at e; cases e
theorem compF_list {K : PySem.W.Frag} {a acc : Addr} {xs : List V} {g : TG} {tt : TT} {te : TE} {σ0 : L2.St} {H : Hp} {Q : VK} (Pv : Nat → L2.St → Hp → Prop) (h0 : Pv 0 σ0 H) (hl : ∀ i σ H, i ≤ xs.length → Pv i σ H → SqL K H a xs)
    (hs : ∀ i x σ H, xs[i]? = some x → Pv i σ H → g x σ H fun σ2 H2 => tt σ2 H2 fun b H3 => if b = true then te σ2 H3 fun v H4 => ∃ ys, H4 acc = some (.lst ys) ∧ ys.length < sizeLine ∧ Pv (i + 1) σ2 (upd H4 acc (.lst (ys ++ [v]))) else Pv (i + 1) σ2 H3)
    (hd : ∀ σ H, Pv xs.length σ H → Q (.ref acc) H) : tTurnsF (Itl K a) acc g tt te σ0 H Q := by
  refine ⟨fun i m σ H => m = xs.length - i ∧ i ≤ xs.length ∧ Pv i σ H, ⟨xs.length, by simp, Nat.zero_le _, h0⟩, ?_⟩
  rintro i m σ H ⟨rfl, hi, p⟩
  have q := hl i σ H hi p
  by_cases hlt : i < xs.length
  · refine .inr ⟨⟨xs, xs[i], q, by simp [hlt]⟩, Pv (i + 1), fun σ' H' p' => ⟨xs.length - (i + 1), by omega, rfl, hlt, p'⟩, fun x H' y => ?_⟩
    obtain ⟨e, y⟩ := y
    subst e
    exact hs i x σ _ (y xs q) p
  · have e : i = xs.length := by omega
    subst e
    exact .inl ⟨⟨xs, q, Nat.le_refl _⟩, hd σ H p⟩
theorem compF_range {lo : Int} {k : Nat} {acc : Addr} {g : TG} {tt : TT} {te : TE} {σ0 : L2.St} {H : Hp} {Q : VK} (Pv : Nat → L2.St → Hp → Prop) (h0 : Pv 0 σ0 H)
    (hs : ∀ i σ H, i < k → Pv i σ H → g (.int (lo + i)) σ H fun σ2 H2 => tt σ2 H2 fun b H3 => if b = true then te σ2 H3 fun v H4 => ∃ ys, H4 acc = some (.lst ys) ∧ ys.length < sizeLine ∧ Pv (i + 1) σ2 (upd H4 acc (.lst (ys ++ [v]))) else Pv (i + 1) σ2 H3)
    (hd : ∀ σ H, Pv k σ H → Q (.ref acc) H) : tTurnsF (Itr lo k) acc g tt te σ0 H Q := by
  refine ⟨fun i m σ H => m = k - i ∧ i ≤ k ∧ Pv i σ H, ⟨k, by simp, Nat.zero_le _, h0⟩, ?_⟩
  rintro i m σ H ⟨rfl, hi, p⟩
  by_cases hlt : i < k
  · refine .inr ⟨hlt, Pv (i + 1), fun σ' H' p' => ⟨k - (i + 1), by omega, rfl, hlt, p'⟩, fun x H' y => ?_⟩
    obtain ⟨e, y⟩ := y
    subst e y
    exact hs i σ _ hlt p
  · have e : i = k := by omega
    subst e
    exact .inl ⟨Nat.le_refl _, hd σ H p⟩
end
section
variable {X : Cx} {N : List Str} {scope : Scope} {cl : List (Str × Addr)} {C : Addr} {s₀ : Shared} {H₀ : Hp} {ex : List Addr} {pn : List (Addr × Obj)}
theorem pgF_tup {es : List Expr} {k : Nat} {t : TGs} {n : Nat} {pos : Pos} (hc : X.calm = true) (h : PGs (cxF X N scope cl C s₀ H₀ ex pn) es t)
    (hn : (assignEach es (cxF X N scope cl C s₀ H₀ ex pn).env).length = n := by rfl) (hst : (assignEach es (cxF X N scope cl C s₀ H₀ ex pn).env).findIdx? (·.1) = none := by rfl) : PG (cxF X N scope cl C s₀ H₀ ex pn) (.Tuple es k pos) (gTup X.K n t) := pg_tup (X := cxF X N scope cl C s₀ H₀ ex pn) hc h hn hst
end
theorem closureFor_cells {scope : Scope} {env : Env} (h : ∀ p ∈ scope.names, p.2 = .free → ∃ c, env.cells.lookup p.1 = some c) :
    ∃ cl, closureFor scope env = pure cl ∧ (∀ x c, cl.lookup x = some c → env.cells.lookup x = some c) ∧ (∀ p ∈ scope.names, p.2 = .free → ∃ c, cl.lookup p.1 = some c) := by
  unfold closureFor
  have key : ∀ (l : List (Str × NameKind)) (cs : List (Str × Addr)), (∀ p ∈ l, p.2 = .free → ∃ c, env.cells.lookup p.1 = some c) → (∀ x c, cs.lookup x = some c → env.cells.lookup x = some c) →
      ∃ cl, (forIn l cs (fun p r => if (p.2 == NameKind.free) = true then do let c ← cellOf env p.1; pure (ForInStep.yield ((p.1, c) :: r)) else pure (ForInStep.yield r)) : Sem (List (Str × Addr))) = pure cl ∧ (∀ x c, cl.lookup x = some c → env.cells.lookup x = some c) ∧ (∀ p ∈ l, p.2 = .free → ∃ c, cl.lookup p.1 = some c) ∧ (∀ x c, cs.lookup x = some c → ∃ c, cl.lookup x = some c) := by
    intro l
    induction l with
    | nil => intro cs _ hcs; exact ⟨cs, rfl, hcs, (fun p hp => by cases hp), fun x c e => ⟨c, e⟩⟩
    | cons p l ih =>
      intro cs hl hcs
      rw [List.forIn_cons]
      by_cases hp : p.2 = .free
      · obtain ⟨c, hc⟩ := hl p List.mem_cons_self hp
        have e1 : (p.2 == NameKind.free) = true := by rw [hp]; rfl
        have e2 : cellOf env p.1 = pure c := by
          unfold cellOf
          rw [hc]
        rw [if_pos e1, e2]
        simp only [pure_bind]
        obtain ⟨cl, h1, h2, h3, h4⟩ := ih ((p.1, c) :: cs) (fun q hq => hl q (List.mem_cons_of_mem _ hq)) (fun x d e => by
          rw [List.lookup_cons] at e
          cases hx : x == p.1 with
          | true =>
            rw [hx] at e
            cases e
            rw [eq_of_beq hx]
            exact hc
          | false =>
            rw [hx] at e
            exact hcs x d e)
        refine ⟨cl, h1, h2, fun q hq hf => ?_, fun x d e => ?_⟩
        · rcases List.mem_cons.mp hq with rfl | hq
          · exact h4 q.1 c (by rw [List.lookup_cons]; simp)
          · exact h3 q hq hf
        · cases hx : x == p.1 with
          | true => exact h4 x c (by rw [List.lookup_cons, hx])
          | false => exact h4 x d (by rw [List.lookup_cons, hx]; exact e)
      · have e1 : ¬ (p.2 == NameKind.free) = true := fun z => hp (eq_of_beq z)
        rw [if_neg e1]
        simp only [pure_bind]
        obtain ⟨cl, h1, h2, h3, h4⟩ := ih cs (fun q hq => hl q (List.mem_cons_of_mem _ hq)) hcs
        refine ⟨cl, h1, h2, fun q hq hf => ?_, h4⟩
        rcases List.mem_cons.mp hq with rfl | hq
        · exact absurd hf hp
        · exact h3 q hq hf
  obtain ⟨cl, h1, h2, h3, _⟩ := key scope.names [] h (fun x c e => by cases e)
  refine ⟨cl, ?_, h2, h3⟩
  rw [← h1]
  simp only [bind_pure]

/-! ### the closure found by the context itself -/
theorem lookup_relabel {env : Env} : ∀ {names : List (Str × NameKind)} {x : Str} {k : NameKind}, names.lookup x = some k →
    (names.map fun (n, k) => if (k == NameKind.free && env.scope.kind == .function && env.kindOf n == some .cell) then (n, NameKind.cell) else (n, k)).lookup x = some (if (k == NameKind.free && env.scope.kind == .function && env.kindOf x == some .cell) then NameKind.cell else k)
  | [], _, _, h => by cases h
  | (n, k') :: r, x, k, h => by
    rw [List.map_cons]
    by_cases hx : (x == n) = true
    · have e : x = n := eq_of_beq hx
      subst e
      rw [List.lookup_cons, hx] at h
      cases h
      by_cases hc : (k' == NameKind.free && env.scope.kind == .function && env.kindOf x == some .cell) = true
      · show List.lookup x ((if (k' == NameKind.free && env.scope.kind == .function && env.kindOf x == some .cell) = true then (x, NameKind.cell) else (x, k')) :: _) = _
        rw [if_pos hc, if_pos hc, List.lookup_cons, hx]
      · show List.lookup x ((if (k' == NameKind.free && env.scope.kind == .function && env.kindOf x == some .cell) = true then (x, NameKind.cell) else (x, k')) :: _) = _
        rw [if_neg hc, if_neg hc, List.lookup_cons, hx]
    · have hf : (x == n) = false := by simpa using hx
      rw [List.lookup_cons, hf] at h
      have ih := lookup_relabel (env := env) h
      show List.lookup x ((if (k' == NameKind.free && env.scope.kind == .function && env.kindOf n == some .cell) = true then (n, NameKind.cell) else (n, k')) :: _) = _
      by_cases hc : (k' == NameKind.free && env.scope.kind == .function && env.kindOf n == some .cell) = true
      · rw [if_pos hc, List.lookup_cons, hf]; exact ih
      · rw [if_neg hc, List.lookup_cons, hf]; exact ih
theorem lookup_relabel_none {env : Env} : ∀ {names : List (Str × NameKind)} {x : Str}, names.lookup x = none →
    (names.map fun (n, k) => if (k == NameKind.free && env.scope.kind == .function && env.kindOf n == some .cell) then (n, NameKind.cell) else (n, k)).lookup x = none
  | [], _, _ => rfl
  | (n, k') :: r, x, h => by
    rw [List.map_cons]
    have hf : (x == n) = false := by
      cases hx : x == n with
      | false => rfl
      | true => rw [List.lookup_cons, hx] at h; cases h
    rw [List.lookup_cons, hf] at h
    have ih := lookup_relabel_none (env := env) h
    show List.lookup x ((if (k' == NameKind.free && env.scope.kind == .function && env.kindOf n == some .cell) = true then (n, NameKind.cell) else (n, k')) :: _) = _
    by_cases hc : (k' == NameKind.free && env.scope.kind == .function && env.kindOf n == some .cell) = true
    · rw [if_pos hc, List.lookup_cons, hf]; exact ih
    · rw [if_neg hc, List.lookup_cons, hf]; exact ih
structure CompG (X : Cx) (N : List Str) (scope : Scope) (jx : List (Option Nat)) : Prop where
  kind : scope.kind = .function
  cell : ∀ x ∈ scope.names, x.2 ≠ .cell
  names : ∀ x ∈ scope.names, x.2 = .local → scope.names.lookup x.1 = some .local
  xk : X.env.scope.kind = .function
  fr : ∀ x ∈ scope.names, x.2 = .free → X.env.scope.names.lookup x.1 = some .cell
  len : jx.length = N.length
  free : ∀ (i j : Nat) (x : Str), jx[i]? = some (some j) → N[i]? = some x → X.N[j]? = some x ∧ scope.names.lookup x = some .free
def freeOk (NX N : List Str) (scope : Scope) (jx : List (Option Nat)) : Bool := (jx.zip N).all fun p => match p.1 with
  | none => true
  | some j => decide (NX[j]? = some p.2) && decide (scope.names.lookup p.2 = some .free)
theorem compG {X : Cx} {N NX : List Str} {scope sc : Scope} {jx : List (Option Nat)} (e1 : X.env.scope = sc) (e2 : X.N = NX) (k : scope.kind = .function) (h1 : ∀ x ∈ scope.names, x.2 ≠ .cell) (h2 : ∀ x ∈ scope.names, x.2 = .local → scope.names.lookup x.1 = some .local)
    (h3 : sc.kind = .function) (h4 : ∀ x ∈ scope.names, x.2 = .free → sc.names.lookup x.1 = some .cell) (h5 : jx.length = N.length) (h6 : freeOk NX N scope jx = true) : CompG X N scope jx := by
  refine ⟨k, h1, h2, by rw [e1]; exact h3, by rw [e1]; exact h4, h5, fun i j x a b => ?_⟩
  rw [e2]
  unfold freeOk at h6
  rw [List.all_eq_true] at h6
  have z := h6 (some j, x) (List.mem_of_getElem? (i := i) (by rw [List.getElem?_zip_eq_some]; exact ⟨a, b⟩))
  simp only [Bool.and_eq_true, decide_eq_true_eq] at z
  exact z
section
variable {X : Cx} {N : List Str} {scope : Scope} {jx : List (Option Nat)}
theorem CompG.toF {pins : List (Addr × Obj)} {σ : L2.St} {H : Hp} {s : Shared} (cg : CompG X N scope jx) (I : Inv X pins σ H s) : ∃ cl, CompF X N scope cl jx := by
  obtain ⟨cl, h1, h2, h3⟩ := closureFor_cells (scope := scope) (env := X.env) fun p hp hf => I.ok.has p.1 (.inl (cg.fr p hp hf))
  have rel : ∀ x, scope.names.lookup x = some .free → (relabel scope X.env).names.lookup x = some .cell := fun x hx => by
    have z := lookup_relabel (env := X.env) hx
    have c : (NameKind.free == NameKind.free && X.env.scope.kind == .function && X.env.kindOf x == some .cell) = true := by
      have q : X.env.kindOf x = some .cell := cg.fr (x, .free) (PySem.mem_of_lookup hx) rfl
      rw [cg.xk, q]
      rfl
    rw [if_pos c] at z
    exact z
  refine ⟨cl, cg.kind, cg.cell, cg.names, h1, h2, fun x hx => ?_, cg.len, fun i j x a b => ?_⟩
  · cases e : scope.names.lookup x with
    | none =>
      have z : (relabel scope X.env).names.lookup x = none := lookup_relabel_none (env := X.env) e
      rw [z] at hx
      rcases hx with q | q <;> cases q
    | some k =>
      by_cases hk : k = .free
      · subst hk
        exact h3 (x, .free) (PySem.mem_of_lookup e) rfl
      · have z : (relabel scope X.env).names.lookup x = some (if (k == NameKind.free && X.env.scope.kind == .function && X.env.kindOf x == some .cell) then NameKind.cell else k) := lookup_relabel (env := X.env) e
        have c : (k == NameKind.free) = false := by
          cases q : k == NameKind.free with
          | false => rfl
          | true => exact absurd (eq_of_beq q) hk
        rw [c] at z
        simp only [Bool.false_and, Bool.false_eq_true, if_false] at z
        rw [z] at hx
        rcases hx with q | q
        · cases q
          exact absurd rfl (cg.cell (x, .cell) (PySem.mem_of_lookup e))
        · cases q
          exact absurd rfl hk
  · obtain ⟨f1, f2⟩ := cg.free i j x a b
    exact ⟨f1, cg.fr (x, .free) (PySem.mem_of_lookup f2) rfl, rel x f2⟩
theorem pe_compG {elt tg iter : Expr} {ifs : List Expr} {pos : Pos} {wi : TI} {g : TG} {tt : TT} {te : TE} (cg : CompG X N scope jx) (hc : X.calm = true) (hi : PI X tg iter wi)
    (hg : ∀ cl C s₀ H₀ ex pn, PG (cxF X N scope cl C s₀ H₀ ex pn) tg g) (ht : ∀ cl C s₀ H₀ ex pn, PTs (cxF X N scope cl C s₀ H₀ ex pn) ifs tt) (he : ∀ cl C s₀ H₀ ex pn, PE (cxF X N scope cl C s₀ H₀ ex pn) elt te)
    (hs : ∀ x, foldedSetIterable iter X.env x = pure x := by intro _; rfl) : PE X (.ListComp elt [⟨tg, iter, ifs, 0⟩] scope pos) (tCompF jx wi g tt te) := by
  intro pins s σ H Q I h
  obtain ⟨cl, cs⟩ := cg.toF I
  exact pe_compF cs hc hi (hg cl) (ht cl) (he cl) hs pins s σ H Q I h
theorem ps_setG {elt tg iter : Expr} {ifs : List Expr} {pos pos' pos2 : Pos} {wi : TI} {g : TG} {tt : TT} {te : TE} {i : Nat} {x : Str} (cg : CompG X N scope jx) (hc : X.calm = true) (hN : X.N.Nodup) (hix : X.N[i]? = some x) (hx : X.env.scope.names.lookup x = some .local) (hi : PI X tg iter wi)
    (hg : ∀ cl C s₀ H₀ ex pn, PG (cxF X N scope cl C s₀ H₀ ex pn) tg g) (ht : ∀ cl C s₀ H₀ ex pn, PTs (cxF X N scope cl C s₀ H₀ ex pn) ifs tt) (he : ∀ cl C s₀ H₀ ex pn, PE (cxF X N scope cl C s₀ H₀ ex pn) elt te)
    (hsw : swapsWith (.ListComp elt [⟨tg, iter, ifs, 0⟩] scope pos) (some (.Name x pos')) pos2.line X.env = pure true := by rfl)
    (hs : ∀ x, foldedSetIterable iter X.env x = pure x := by intro _; rfl) : PS X (.Assign [.Name x pos'] (.ListComp elt [⟨tg, iter, ifs, 0⟩] scope pos) pos2) (tAsg (tCompF jx wi g tt te) (gName i)) := by
  intro pins s σ H D I h
  obtain ⟨cl, cs⟩ := cg.toF I
  exact ps_setF cs hc hN hix hx hi (hg cl) (ht cl) (he cl) hsw hs pins s σ H D I h
end
end InkX

namespace InkX
open PySem PySem.Spec PyProof.Rows L2
/-! ### two clauses, with captured names -/
section
variable {X : Cx} {N : List Str} {scope : Scope} {cl : List (Str × Addr)} {jx : List (Option Nat)}
end
end InkX

namespace InkX
open PySem PySem.Spec PyProof.Rows L2
open AutoSeq1 (wpAny_loadPart')
section
variable {prog : Program} {w : World} {A : Around} {E : Value → Shared → Prop} {s : Shared} {κ : Type} [DecidableEq κ] {knd : KeyKind prog w κ}
end
end InkX

namespace InkF
open PySem PySem.Spec PyProof.Rows L2 InkX Ink
section
variable {X : Cx}
/-! ### list.insert -/
/-! ### deep equality -/
end
end InkF

namespace Ink
open PySem PySem.Spec PyProof.Rows L2 InkX InkE InkF
/-! ### two lists side by side -/
inductive All2 {α β : Type} (R : α → β → Prop) : List α → List β → Prop
  | nil : All2 R [] []
  | cons {a : α} {b : β} {as : List α} {bs : List β} : R a b → All2 R as bs → All2 R (a :: as) (b :: bs)
section
variable {α β : Type} {R R' : α → β → Prop} {as : List α} {bs : List β} {a : α} {b : β}
theorem All2.len : ∀ {as : List α} {bs : List β}, All2 R as bs → as.length = bs.length
  | _, _, .nil => rfl
  | _, _, .cons _ t => by rw [List.length_cons, List.length_cons, t.len]
theorem All2.get : ∀ {as : List α} {bs : List β} {i : Nat}, All2 R as bs → as[i]? = some a → ∃ b, bs[i]? = some b ∧ R a b
  | _, _, _, .nil, h => by simp at h
  | _, _, 0, .cons r _, h => by simp at h; subst h; exact ⟨_, rfl, r⟩
  | _, _, i + 1, .cons _ t, h => by simp at h; simpa using t.get h
theorem All2.get' : ∀ {as : List α} {bs : List β} {i : Nat}, All2 R as bs → bs[i]? = some b → ∃ a, as[i]? = some a ∧ R a b
  | _, _, _, .nil, h => by simp at h
  | _, _, 0, .cons r _, h => by simp at h; subst h; exact ⟨_, rfl, r⟩
  | _, _, i + 1, .cons _ t, h => by simp at h; simpa using t.get' h
theorem All2.snoc : ∀ {as : List α} {bs : List β}, All2 R as bs → R a b → All2 R (as ++ [a]) (bs ++ [b])
  | _, _, .nil, h => .cons h .nil
  | _, _, .cons r t, h => .cons r (t.snoc h)
theorem All2.mono : ∀ {as : List α} {bs : List β}, (∀ a b, R a b → R' a b) → All2 R as bs → All2 R' as bs
  | _, _, _, .nil => .nil
  | _, _, h, .cons r t => .cons (h _ _ r) (t.mono h)
theorem All2.set : ∀ {as : List α} {bs : List β} (i : Nat), All2 R as bs → R a b → All2 R (as.set i a) (bs.set i b)
  | _, _, _, .nil, _ => .nil
  | _, _, 0, .cons _ t, h => .cons h t
  | _, _, i + 1, .cons r t, h => .cons r (t.set i h)
theorem All2.split : ∀ {as : List α} {bs : List β}, All2 R as (bs ++ [b]) → ∃ as' a, as = as' ++ [a] ∧ All2 R as' bs ∧ R a b
  | _, [], .cons r .nil => ⟨[], _, rfl, .nil, r⟩
  | _, c :: bs, .cons r t => by
    obtain ⟨as', a, rfl, t', r'⟩ := t.split
    exact ⟨_ :: as', a, rfl, .cons r t', r'⟩
end
/-! ### items -/
inductive Item where
  | win (n : Int)
  | ink (a b : Int)
def itemVs : Item → List V
  | .win n => [.str "win", .int n]
  | .ink a b => [.str "ink", .int a, .int b]
def ItemAt (H : Hp) (v : V) (it : Item) : Prop := ∃ a, v = .ref a ∧ H a = some (.tup (itemVs it))
theorem ItemAt.same {H H' : Hp} {v : V} {it : Item} (s : Same H H') : ItemAt H v it → ItemAt H' v it := fun ⟨a, e, h⟩ => ⟨a, e, s _ _ h⟩
theorem ItemAt.keep {H H' : Hp} {v : V} {it : Item} {q : Addr} {xs : List V} (hq : H q = some (.lst xs)) (k : Keep q H H') : ItemAt H v it → ItemAt H' v it := fun ⟨a, e, h⟩ => ⟨a, e, k a _ h (by
  intro z
  rw [z, hq] at h
  cases h)⟩
def ItemsAt (H : Hp) (v : V) (its : List Item) : Prop := ∃ a vs, v = .ref a ∧ H a = some (.lst vs) ∧ All2 (ItemAt H) vs its
theorem ItemsAt.same {H H' : Hp} {v : V} {its : List Item} (s : Same H H') : ItemsAt H v its → ItemsAt H' v its := fun ⟨a, vs, e, h, t⟩ => ⟨a, vs, e, s _ _ h, t.mono fun _ _ => ItemAt.same s⟩
def SheetsAt (H : Hp) (r : Addr) (rows : List (List Item)) : Prop := ∃ vs, H r = some (.lst vs) ∧ All2 (ItemsAt H) vs rows
theorem SheetsAt.same {H H' : Hp} {r : Addr} {rows : List (List Item)} (s : Same H H') : SheetsAt H r rows → SheetsAt H' r rows := fun ⟨vs, h, t⟩ => ⟨vs, s _ _ h, t.mono fun _ _ => ItemsAt.same s⟩
theorem ItemAt.eqv {H : Hp} {x y : V} {it : Item} (n : Nat) (h1 : ItemAt H x it) (h2 : ItemAt H y it) : Eqv H (n + 2) x y := by
  obtain ⟨a, rfl, e1⟩ := h1
  obtain ⟨b, rfl, e2⟩ := h2
  refine .inr ⟨false, a, b, _, _, rfl, rfl, e1, e2, rfl, fun i u v eu ev => ?_⟩
  rw [eu] at ev
  cases ev
  cases it with
  | win n =>
    match i, eu with
    | 0, e => cases e; exact .inl ⟨rfl, rfl⟩
    | 1, e => cases e; exact .inl ⟨rfl, rfl⟩
    | k + 2, e => simp [itemVs] at e
  | ink p q =>
    match i, eu with
    | 0, e => cases e; exact .inl ⟨rfl, rfl⟩
    | 1, e => cases e; exact .inl ⟨rfl, rfl⟩
    | 2, e => cases e; exact .inl ⟨rfl, rfl⟩
    | k + 3, e => simp [itemVs] at e
theorem ItemsAt.eqv {H : Hp} {x y : V} {its : List Item} (n : Nat) (h1 : ItemsAt H x its) (h2 : ItemsAt H y its) : Eqv H (n + 3) x y := by
  obtain ⟨a, vs, rfl, e1, t1⟩ := h1
  obtain ⟨b, us, rfl, e2, t2⟩ := h2
  refine .inr ⟨true, a, b, _, _, rfl, rfl, e1, e2, by rw [t1.len, t2.len], fun i u v eu ev => ?_⟩
  obtain ⟨z, ez, r1⟩ := t1.get eu
  obtain ⟨z', ez', r2⟩ := t2.get ev
  rw [ez] at ez'
  cases ez'
  exact r1.eqv n r2
theorem SheetsAt.eqv {H : Hp} {x y : Addr} {rows : List (List Item)} (n : Nat) (h1 : SheetsAt H x rows) (h2 : SheetsAt H y rows) : Eqv H (n + 4) (.ref x) (.ref y) := by
  obtain ⟨vs, e1, t1⟩ := h1
  obtain ⟨us, e2, t2⟩ := h2
  refine .inr ⟨true, x, y, _, _, rfl, rfl, e1, e2, by rw [t1.len, t2.len], fun i u v eu ev => ?_⟩
  obtain ⟨z, ez, r1⟩ := t1.get eu
  obtain ⟨z', ez', r2⟩ := t2.get ev
  rw [ez] at ez'
  cases ez'
  exact r1.eqv n r2
/-! ### the windows of rows of entries, and where they lead -/
inductive Reach (E : Int → Int → Prop) (s : Int) : Int → Prop
  | one {y : Int} : E s y → Reach E s y
  | step {y z : Int} : Reach E s y → E y z → Reach E s z
/-- a walk: from its first sheet on, window by window -/
def Walk (E : Int → Int → Prop) (s : Int) (w : List Int) : Prop := w[0]? = some s ∧ ∀ (i : Nat) (x y : Int), w[i]? = some x → w[i + 1]? = some y → E x y
theorem Walk.one (E : Int → Int → Prop) (s : Int) : Walk E s [s] := ⟨rfl, fun i x y _ h => by simp at h⟩
theorem Walk.snoc {E : Int → Int → Prop} {s e y : Int} {w : List Int} (h : Walk E s w) (hl : w.getLast? = some e) (he : E e y) : Walk E s (w ++ [y]) := by
  obtain ⟨h0, h1⟩ := h
  have hw : w ≠ [] := by intro z; rw [z] at hl; cases hl
  have hpos : 0 < w.length := by cases w with | nil => exact absurd rfl hw | cons _ _ => simp
  refine ⟨by rw [List.getElem?_append_left hpos]; exact h0, fun i x z hx hz => ?_⟩
  by_cases c : i + 1 < w.length
  · rw [List.getElem?_append_left c] at hz
    rw [List.getElem?_append_left (by omega)] at hx
    exact h1 i x z hx hz
  · have c2 : i + 1 = w.length := by
      have : i + 1 < (w ++ [y]).length := by
        rcases Nat.lt_or_ge (i + 1) (w ++ [y]).length with q | q
        · exact q
        · rw [List.getElem?_eq_none q] at hz; cases hz
      rw [List.length_append, List.length_singleton] at this
      omega
    rw [c2, List.getElem?_append_right (Nat.le_refl _), Nat.sub_self] at hz
    rw [List.getElem?_append_left (by omega)] at hx
    rw [List.getLast?_eq_getElem?] at hl
    have : i = w.length - 1 := by omega
    rw [this, hl] at hx
    cases hx
    cases hz
    exact he
theorem Walk.reach {E : Int → Int → Prop} {s : Int} {w : List Int} (h : Walk E s w) : ∀ (i : Nat) (y : Int), w[i + 1]? = some y → Reach E s y := by
  intro i
  induction i with
  | zero => intro y hy; exact .one (h.2 0 s y h.1 hy)
  | succ i ih =>
    intro y hy
    have : ∃ x, w[i + 1]? = some x := by
      rcases Nat.lt_or_ge (i + 1) w.length with q | q
      · exact ⟨w[i + 1], List.getElem?_eq_getElem q⟩
      · rw [List.getElem?_eq_none (by omega)] at hy; cases hy
    obtain ⟨x, hx⟩ := this
    exact .step (ih x hx) (h.2 _ _ _ hx hy)
/-! ### counting what is not seen -/
/-! ### entries -/
def EntsAt (av : Addr → Prop) (H : Hp) (v : V) (es : List Int) : Prop := ∃ a, v = .ref a ∧ ¬ av a ∧ H a = some (.lst (es.map V.int))
def RowsAt (av : Addr → Prop) (H : Hp) (r : Addr) (rows : List (List Int)) : Prop := ∃ vs, H r = some (.lst vs) ∧ All2 (EntsAt av H) vs rows
theorem EntsAt.keep {av : Addr → Prop} {H H' : Hp} {v : V} {es : List Int} (k : ∀ a o, ¬ av a → H a = some o → H' a = some o) : EntsAt av H v es → EntsAt av H' v es := fun ⟨a, e, n, h⟩ => ⟨a, e, n, k a _ n h⟩
theorem RowsAt.same {av : Addr → Prop} {H H' : Hp} {r : Addr} {rows : List (List Int)} (s : Same H H') : RowsAt av H r rows → RowsAt av H' r rows := fun ⟨vs, h, t⟩ => ⟨vs, s _ _ h, t.mono fun _ _ => EntsAt.keep fun a o _ e => s a o e⟩
theorem RowsAt.get {av : Addr → Prop} {H : Hp} {r : Addr} {rows : List (List Int)} {i : Nat} {es : List Int} (h : RowsAt av H r rows) (e : rows[i]? = some es) : ∃ vs a, H r = some (.lst vs) ∧ vs[i]? = some (.ref a) ∧ H a = some (.lst (es.map V.int)) ∧ vs.length = rows.length := by
  obtain ⟨vs, hr, t⟩ := h
  obtain ⟨v, ev, a, rfl, _, ha⟩ := t.get' e
  exact ⟨vs, a, hr, ev, ha, t.len⟩
theorem EntsAt.at {av : Addr → Prop} {H : Hp} {v : V} {es : List Int} {q : Addr} (o : HO) (hq : av q) : EntsAt av H v es → EntsAt av (upd H q o) v es := EntsAt.keep fun a u n e => by
  rw [upd_ne (fun z => n (by rw [z]; exact hq))]
  exact e
theorem EntsAt.new {av : Addr → Prop} {H : Hp} {v : V} {es : List Int} {p : Addr} (o : HO) (hp : H p = none) : EntsAt av H v es → EntsAt av (upd H p o) v es := EntsAt.keep fun a u _ e => same_new hp o a u e
theorem EntsAt.same {av : Addr → Prop} {H H' : Hp} {v : V} {es : List Int} (s : Same H H') : EntsAt av H v es → EntsAt av H' v es := EntsAt.keep fun a u _ e => s a u e
def seen (kvs : List (Key × V)) (x : Int) : Prop := (valV kvs (Sum.inl x)).isSome = true
theorem All2.new {H2 : Hp} {q t : Addr} {vs : List V} {its : List Item} {it : Item} {ys : List V} (hq2 : H2 q = some (.lst ys)) (hb : All2 (ItemAt H2) vs its) (ht : H2 t = none) (zs : List V) :
    All2 (ItemAt (upd (upd H2 t (.tup (itemVs it))) q (.lst zs))) (vs ++ [.ref t]) (its ++ [it]) := by
  have ntq : q ≠ t := ne_of_none hq2 ht
  have s1 : Same H2 (upd H2 t (.tup (itemVs it))) := same_new ht _
  refine All2.snoc (hb.mono fun v i h => (h.same s1).keep (s1 _ _ hq2) (keep_upd q _ _)) ⟨t, rfl, ?_⟩
  rw [upd_ne ntq.symm, upd_same]
end Ink

namespace InkP
open PySem PySem.Spec PyProof.Rows L2 InkX
section
variable {M : Model} {A : Around} {E : Value → Shared → Prop} {s : Shared}
end
section
variable {X : Cx}
section
variable {N : List Str} {scope : Scope} {cl : List (Str × Addr)} {C : Addr} {s₀ : Shared} {H₀ : Hp} {ex : List Addr} {pn : List (Addr × Obj)}
end
end
end InkP

namespace Ink
open PySem PySem.Spec PyProof.Rows L2 InkX InkE InkF
/-- rows of addresses from nought on -/
def RowNn (r : Row) : Prop := ∀ p ∈ r, 0 ≤ p.1 ∧ p.1 ≤ p.2
def RowPos (r : Row) : Prop := ∀ p ∈ r, 0 ≤ p.1 ∧ p.1 < p.2
theorem RowPos.nn {r : Row} (h : RowPos r) : RowNn r := fun p hp => ⟨(h p hp).1, by have := (h p hp).2; omega⟩
end Ink

namespace InkS
open PySem PySem.Spec PyProof.Rows L2 InkX
/-! ### sorted, of a list of pairs of ints: fewer than 64 of them -/
/-- the order of pairs -/
def Le (p q : Int × Int) : Prop := p.1 < q.1 ∨ (p.1 = q.1 ∧ p.2 ≤ q.2)
instance (p q : Int × Int) : Decidable (Le p q) := by unfold Le; infer_instance
def less (p q : Int × Int) : Bool := decide (¬ Le q p)
/-- what a pair in the heap is -/
def PairIn (h : Heap) (v : Value) (p : Int × Int) : Prop := ∃ a t u, v = .ref a ∧ IsTup h a #[.int p.1 t, .int p.2 u]
/-! the array that is sorted, seen by its keys -/
section
variable {prog : Program} {w : World} {A : Around} {E : Value → Shared → Prop} {s : Shared} {z : Array Keyed} {key : Value → Int × Int}
def kp (key : Value → Int × Int) (xs : Array Keyed) (i : Nat) : Int × Int := (xs[i]?.map fun r => key r.1).getD (0, 0)
theorem kp_of {xs ys : Array Keyed} {i j : Nat} (h : xs[i]? = ys[j]?) : kp key xs i = kp key ys j := by unfold kp; rw [h]
def Up (key : Value → Int × Int) (xs : Array Keyed) (n : Nat) : Prop := ∀ i j, i ≤ j → j < n → Le (kp key xs i) (kp key xs j)
def Dn (key : Value → Int × Int) (xs : Array Keyed) (n : Nat) : Prop := ∀ i j, i ≤ j → j < n → Le (kp key xs j) (kp key xs i)
theorem Le.rfl' (p : Int × Int) : Le p p := .inr ⟨rfl, Int.le_refl _⟩
theorem Le.tr {p q r : Int × Int} (h : Le p q) (g : Le q r) : Le p r := by unfold Le at *; omega
theorem Le.anti {p q : Int × Int} (h : Le p q) (g : Le q p) : p = q := by
  unfold Le at *
  exact Prod.ext (by omega) (by omega)
theorem Le.of_not {p q : Int × Int} (h : ¬ Le p q) : Le q p := by unfold Le at *; omega
theorem less_t {p q : Int × Int} (h : less p q = true) : ¬ Le q p := of_decide_eq_true h
theorem less_f {p q : Int × Int} (h : less p q = false) : Le q p := by
  unfold less at h
  exact Classical.byContradiction fun c => by rw [decide_eq_true c] at h; cases h
/-- what stays as the sort goes on -/
structure Bas (z : Array Keyed) (st : SortSt) : Prop where
  pm : (arrOf st).Perm z
  kd : kindOf st = tuples' true
  fl : failedOf st = none
  pd : pendingOf st = #[]
theorem Bas.sz {st : SortSt} (b : Bas z st) : (arrOf st).size = z.size := b.pm.size_eq
theorem Bas.put {st : SortSt} (b : Bas z st) {xs : Array Keyed} (h : xs.Perm (arrOf st)) : Bas z (setArr st xs) := ⟨h.trans b.pm, b.kd, b.fl, b.pd⟩
/-- two keys of the array may be compared -/
def Can (prog : Program) (w : World) (A : Around) (s : Shared) (key : Value → Int × Int) (z : Array Keyed) : Prop :=
  ∀ r ∈ z.toList, ∀ o ∈ z.toList, ∀ (E : Value → Shared → Prop) (Q : Bool → Shared → Prop), Q (less (key r.1) (key o.1)) s → wpAny (model prog w) A (keyLt' (tuples' true) r.1 o.1) Q E s
theorem Bas.get {st : SortSt} (b : Bas z st) {i : Nat} (hi : i < z.size) : ∃ r ∈ z.toList, (arrOf st)[i]? = some r ∧ kp key (arrOf st) i = key r.1 := by
  have hi2 : i < (arrOf st).size := by rw [b.sz]; exact hi
  refine ⟨(arrOf st)[i], (Array.perm_iff_toList_perm.mp b.pm).mem_iff.mp (by simp), getElem?_pos _ i hi2, ?_⟩
  unfold kp
  rw [getElem?_pos _ i hi2]
  rfl
theorem cmp {st : SortSt} {i j : Nat} {Q : Option Bool → SortSt → Prop} (C : Can prog w A s key z) (b : Bas z st) (hi : i < z.size) (hj : j < z.size)
    (h : Q (some (less (kp key (arrOf st) i) (kp key (arrOf st) j))) st) : wpS (model prog w) A E s (ltAt' i j) Q st := by
  obtain ⟨r, hr, e1, k1⟩ := b.get (key := key) hi
  obtain ⟨o, ho, e2, k2⟩ := b.get (key := key) hj
  rw [k1, k2] at h
  rw [ltAt'_eq]
  refine wpS_bind (wpS_get ?_)
  show wpS _ _ _ _ (do let u ← elem' (arrOf st) i; let v ← elem' (arrOf st) j; lt' u v) Q st
  rw [elem'_eq, elem'_eq, e1, e2]
  refine wpS_bind (wpS_pure (wpS_bind (wpS_pure ?_)))
  rw [lt'_eq]
  refine wpS_bind (wpS_get ?_)
  rw [b.kd]
  refine wpS_bind (wpS_lift (wpAny_attempt (C r hr o ho _ _ ?_)))
  exact ⟨rfl, wpS_pure h⟩
theorem kp_turn {xs : Array Keyed} {i j : Nat} (hj : j ≤ xs.size) (k : Nat) : kp key (mirror xs i j ((j - i) / 2)) k = if i ≤ k ∧ k < j then kp key xs (i + j - 1 - k) else kp key xs k := by
  have e := getElem?_mirror_all (i := i) hj k
  split at e
  · rename_i c; rw [if_pos c]; exact kp_of e
  · rename_i c; rw [if_neg c]; exact kp_of e
/-- alike keys turned about stay alike -/
theorem kp_alike {xs : Array Keyed} {i j : Nat} (hj : j ≤ xs.size) (g : ∀ k, i ≤ k → k < j → kp key xs k = kp key xs (j - 1)) (k : Nat) : kp key (mirror xs i j ((j - i) / 2)) k = kp key xs k := by
  rw [kp_turn hj]
  by_cases c : i ≤ k ∧ k < j
  · rw [if_pos c, g _ (by omega) (by omega), g k c.1 c.2]
  · rw [if_neg c]
theorem Up.more {xs : Array Keyed} {n : Nat} (h : Up key xs n) (g : n = 0 ∨ Le (kp key xs (n - 1)) (kp key xs n)) : Up key xs (n + 1) := by
  intro i j ij hj
  by_cases c : j < n
  · exact h i j ij c
  · have e : j = n := by omega
    subst e
    by_cases d : i = j
    · subst d; exact Le.rfl' _
    · exact (h i (j - 1) (by omega) (by omega)).tr (g.resolve_left (by omega))
theorem Dn.more {xs : Array Keyed} {n : Nat} (h : Dn key xs n) (g : n = 0 ∨ Le (kp key xs n) (kp key xs (n - 1))) : Dn key xs (n + 1) := by
  intro i j ij hj
  by_cases c : j < n
  · exact h i j ij c
  · have e : j = n := by omega
    subst e
    by_cases d : i = j
    · subst d; exact Le.rfl' _
    · exact (g.resolve_left (by omega)).tr (h i (j - 1) (by omega) (by omega))
theorem Dn.eqv {xs ys : Array Keyed} {n : Nat} (h : Dn key xs n) (g : ∀ k, kp key ys k = kp key xs k) : Dn key ys n := fun i j ij hj => by rw [g, g]; exact h i j ij hj
theorem Up.one (xs : Array Keyed) : Up key xs 1 := fun i j ij hj => by
  have : i = j := by omega
  subst this
  exact Le.rfl' _
theorem rising {st : SortSt} {a n : Nat} {Q : AscSt → SortSt → Prop} (C : Can prog w A s key z) (hn : n ≤ z.size) (ha : 1 ≤ a) (an : a ≤ n) (b : Bas z st) (u : Up key (arrOf st) a)
    (h : ∀ m, a ≤ m → m ≤ n → Up key (arrOf st) m → (m = n ∨ ¬ Le (kp key (arrOf st) (m - 1)) (kp key (arrOf st) m)) → Q (none, m) st) : wpS (model prog w) A E s (ascLoop a n) Q st := by
  unfold ascLoop
  refine wpS_forRange (I := fun x c t => t = st ∧ c = (none, x) ∧ Up key (arrOf st) x) ?turn ?out ⟨rfl, rfl, u⟩
  case out =>
    rintro c t ⟨rfl, rfl, u'⟩
    have e : max a n = n := by omega
    rw [e] at u' ⊢
    exact h n an (Nat.le_refl _) u' (.inl rfl)
  case turn =>
    rintro x c t ax xn ⟨rfl, rfl, u'⟩
    dsimp only
    refine wpS_bind (cmp C b (by omega) (by omega) ?_)
    cases e : less (kp key (arrOf t) x) (kp key (arrOf t) (x - 1)) with
    | true =>
      simp only [if_true]
      exact wpS_pure (h x ax (by omega) u' (.inr (less_t e)))
    | false =>
      simp only [Bool.false_eq_true, if_false]
      exact wpS_pure ⟨rfl, rfl, u'.more (.inr (less_f e))⟩
theorem turned {st : SortSt} {m n : Nat} {Q : Option Nat → SortSt → Prop} (C : Can prog w A s key z) (hn : n ≤ z.size) (h1 : 1 ≤ m) (mn : m ≤ n) (b : Bas z st) (d : Dn key (arrOf st) m)
    (h : ∀ k t, Bas z t → 1 ≤ k → k ≤ n → Up key (arrOf t) k → Q (some k) t) : wpS (model prog w) A E s (tail3 m n) Q st := by
  unfold tail3
  have hs : m ≤ (arrOf st).size := by rw [b.sz]; omega
  refine wpS_bind (wpS_reverse ?_)
  have b' := b.put (mirror_perm (arrOf st) 0 m ((m - 0) / 2))
  refine wpS_bind (rising C hn h1 mn b' (fun i j ij hj => ?_) fun k k1 k2 u _ => wpS_pure (h k _ b' (by omega) k2 u))
  show Le (kp key (mirror (arrOf st) 0 m ((m - 0) / 2)) i) (kp key (mirror (arrOf st) 0 m ((m - 0) / 2)) j)
  rw [kp_turn hs, kp_turn hs, if_pos ⟨by omega, by omega⟩, if_pos ⟨by omega, by omega⟩]
  exact d _ _ (by omega) (by omega)
/-- the last e + 1 keys below m are alike -/
def Tail (key : Value → Int × Int) (xs : Array Keyed) (m e : Nat) : Prop := e + 1 ≤ m ∧ ∀ k, m - (e + 1) ≤ k → k < m → kp key xs k = kp key xs (m - 1)
theorem Tail.none {xs : Array Keyed} {m : Nat} (h : 1 ≤ m) : Tail key xs m 0 := ⟨h, fun k a b => by congr 1; omega⟩
theorem falling {st : SortSt} {m n : Nat} {Q : DescSt → SortSt → Prop} (C : Can prog w A s key z) (hn : n ≤ z.size) (h1 : 1 ≤ m) (mn : m ≤ n) (b : Bas z st) (d : Dn key (arrOf st) m)
    (h : ∀ k e t, Bas z t → m ≤ k → k ≤ n → Dn key (arrOf t) k → Tail key (arrOf t) k e → Q (none, k, e) t) : wpS (model prog w) A E s (descLoop m n) Q st := by
  unfold descLoop
  refine wpS_forRange (I := fun x c t => ∃ e, c = (none, x, e) ∧ Bas z t ∧ Dn key (arrOf t) x ∧ Tail key (arrOf t) x e) ?turn ?out ⟨0, rfl, b, d, .none h1⟩
  case out =>
    rintro c t ⟨e, rfl, b', d', g⟩
    have q : max m n = n := by omega
    rw [q] at d' g ⊢
    exact h n e t b' mn (Nat.le_refl _) d' g
  case turn =>
    rintro x c t mx xn ⟨e, rfl, b', d', g⟩
    dsimp only
    have hs : x ≤ (arrOf t).size := by rw [b'.sz]; omega
    refine wpS_bind (cmp C b' (by omega) (by omega) ?_)
    cases q : less (kp key (arrOf t) x) (kp key (arrOf t) (x - 1)) with
    | true =>
      simp only [if_true]
      have d2 : Dn key (arrOf t) (x + 1) := d'.more (.inr (Le.of_not (less_t q)))
      by_cases c : e > 0
      · rw [if_pos c]
        exact wpS_bind (wpS_reverse (wpS_pure ⟨0, rfl, b'.put (mirror_perm _ _ _ _), d2.eqv (kp_alike hs g.2), .none (by omega)⟩))
      · rw [if_neg c]
        exact wpS_pure ⟨0, rfl, b', d2, .none (by omega)⟩
    | false =>
      simp only [Bool.false_eq_true, if_false]
      refine wpS_bind (cmp C b' (by omega) (by omega) ?_)
      cases q2 : less (kp key (arrOf t) (x - 1)) (kp key (arrOf t) x) with
      | true =>
        simp only [if_true]
        exact wpS_pure (h x e t b' mx (by omega) d' g)
      | false =>
        simp only [Bool.false_eq_true, if_false]
        have al : kp key (arrOf t) x = kp key (arrOf t) (x - 1) := Le.anti (less_f q2) (less_f q)
        refine wpS_pure ⟨e + 1, rfl, b', d'.more (.inr (less_f q2)), by have := g.1; omega, fun k a c => ?_⟩
        show kp key (arrOf t) k = kp key (arrOf t) x
        by_cases f : k = x
        · rw [f]
        · rw [al]; exact g.2 k (by omega) (by omega)
theorem down_part {st : SortSt} {m n : Nat} {Q : Option Nat → SortSt → Prop} (C : Can prog w A s key z) (hn : n ≤ z.size) (mn : m + 1 ≤ n) (b : Bas z st) (d : Dn key (arrOf st) (m + 1))
    (h : ∀ k t, Bas z t → 1 ≤ k → k ≤ n → Up key (arrOf t) k → Q (some k) t) : wpS (model prog w) A E s (descPart m n) Q st := by
  unfold descPart
  refine wpS_bind (wpS_lift (wpAny_rule ⟨rfl, ?_⟩))
  refine wpS_bind (falling C hn (by omega) mn b d fun k e t b' mk kn d' g => ?_)
  dsimp only
  have hs : k ≤ (arrOf t).size := by rw [b'.sz]; omega
  by_cases c : e > 0
  · rw [if_pos c]
    exact wpS_bind (wpS_reverse (turned C hn (by omega) kn (b'.put (mirror_perm _ _ _ _)) (d'.eqv (kp_alike hs g.2)) h))
  · rw [if_neg c]
    exact turned C hn (by omega) kn b' d' h
theorem first_run {st : SortSt} {n : Nat} {Q : Option Nat → SortSt → Prop} (C : Can prog w A s key z) (hn : n ≤ z.size) (h1 : 1 ≤ n) (b : Bas z st)
    (h : ∀ k t, Bas z t → 1 ≤ k → k ≤ n → Up key (arrOf t) k → Q (some k) t) : wpS (model prog w) A E s (countRun' 0 n) Q st := by
  rw [countRun0_eq]
  refine wpS_bind (rising C hn (Nat.le_refl 1) h1 b (Up.one _) fun m m1 mn u g => ?_)
  dsimp only
  by_cases c : m = n
  · rw [if_pos (by simpa using c)]
    exact wpS_pure (h m st b m1 mn u)
  · rw [if_neg (by simpa using c)]
    have g' := g.resolve_left c
    by_cases c2 : m > 1
    · rw [if_pos c2]
      refine wpS_bind (cmp C b (by omega) (by omega) ?_)
      cases q : less (kp key (arrOf st) 0) (kp key (arrOf st) (m - 1)) with
      | true =>
        simp only [if_true]
        exact wpS_pure (h m st b m1 mn u)
      | false =>
        simp only [Bool.false_eq_true, if_false]
        have hs : m ≤ (arrOf st).size := by rw [b.sz]; omega
        have al : ∀ k, 0 ≤ k → k < m → kp key (arrOf st) k = kp key (arrOf st) (m - 1) := fun k _ km => Le.anti (u k (m - 1) (by omega) (by omega)) ((less_f q).tr (u 0 k (by omega) km))
        have d : Dn key (arrOf st) m := fun i j ij hj => by rw [al i (by omega) (by omega), al j (by omega) hj]; exact Le.rfl' _
        exact wpS_bind (wpS_reverse (down_part C hn (by omega) (b.put (mirror_perm _ _ _ _)) ((d.more (.inr (Le.of_not g'))).eqv (kp_alike hs al)) h))
    · rw [if_neg c2]
      have e : m = 1 := by omega
      subst e
      exact down_part C hn (by omega) b (Dn.more (fun i j ij hj => by
        have : i = j := by omega
        subst this
        exact Le.rfl' _) (.inr (Le.of_not g'))) h
theorem kp_sink {xs : Array Keyed} {k d : Nat} (hk : k < xs.size) (hd : d ≤ k) (i : Nat) : kp key (bubble xs k d) i = if i = k - d then kp key xs k else if k - d < i ∧ i ≤ k then kp key xs (i - 1) else kp key xs i := by
  have e := getElem?_bubble hk d hd i
  split at e
  · rename_i c; rw [if_pos c]; exact kp_of e
  · rename_i c
    rw [if_neg c]
    split at e
    · rename_i c2; rw [if_pos c2]; exact kp_of e
    · rename_i c2; rw [if_neg c2]; exact kp_of e
/-- where the key of k belongs among the keys ahead of it -/
def Gap (key : Value → Int × Int) (xs : Array Keyed) (k l r : Nat) : Prop := l ≤ r ∧ r ≤ k ∧ (∀ i, i < l → Le (kp key xs i) (kp key xs k)) ∧ ∀ i, r ≤ i → i < k → ¬ Le (kp key xs i) (kp key xs k)
theorem Gap.sunk {xs : Array Keyed} {k l : Nat} (hk : k < xs.size) (u : Up key xs k) (g : Gap key xs k l l) : Up key (bubble xs k (k - l)) (k + 1) := by
  obtain ⟨_, lk, lo, hi⟩ := g
  intro i j ij hj
  rw [kp_sink hk (by omega), kp_sink hk (by omega), show k - (k - l) = l by omega]
  by_cases ci : i = l
  · rw [if_pos ci]
    by_cases cj : j = l
    · rw [if_pos cj]; exact Le.rfl' _
    · rw [if_neg cj, if_pos ⟨by omega, by omega⟩]
      exact Le.of_not (hi _ (by omega) (by omega))
  · rw [if_neg ci]
    by_cases ci2 : l < i ∧ i ≤ k
    · rw [if_pos ci2, if_neg (by omega), if_pos ⟨by omega, by omega⟩]
      exact u _ _ (by omega) (by omega)
    · rw [if_neg ci2]
      by_cases cj : j = l
      · rw [if_pos cj]; exact lo i (by omega)
      · rw [if_neg cj]
        by_cases cj2 : l < j ∧ j ≤ k
        · rw [if_pos cj2]; exact u _ _ (by omega) (by omega)
        · rw [if_neg cj2]; exact u _ _ ij (by omega)
theorem placed {st : SortSt} {n a : Nat} {Q : Bool → SortSt → Prop} (C : Can prog w A s key z) (hn : n ≤ z.size) (an : a ≤ n) (b : Bas z st) (u : Up key (arrOf st) a)
    (h : ∀ t, Bas z t → Up key (arrOf t) n → Q true t) : wpS (model prog w) A E s (binarySort' 0 n a) Q st := by
  rw [binarySort'_eq]
  simp only [Nat.zero_add]
  refine wpS_bind (wpS_mono (wpS_forRange (I := fun k c t => c = (none, ()) ∧ Bas z t ∧ Up key (arrOf t) (min k n)) (Q := fun c t => c = (none, ()) ∧ Bas z t ∧ Up key (arrOf t) n) ?turn ?out ?ini) ?aft)
  case aft =>
    rintro c t ⟨rfl, b', u'⟩
    exact wpS_pure (h t b' u')
  case ini =>
    refine ⟨rfl, b, fun i j ij hj => ?_⟩
    by_cases c : a = 0
    · have : i = j := by omega
      subst this
      exact Le.rfl' _
    · exact u i j ij (by omega)
  case out =>
    rintro c t ⟨e, b', u'⟩
    have q : min (max (max a 1) n) n = n := by omega
    rw [q] at u'
    exact ⟨e, b', u'⟩
  case turn =>
    rintro k c t ak kn ⟨rfl, b', u'⟩
    have q : min k n = k := by omega
    rw [q] at u'
    refine wpS_bind (wpS_mono (wpS_forRange (I := fun x c t' => t' = t ∧ ∃ l r, c = (none, l, r) ∧ Gap key (arrOf t) k l r ∧ r - l ≤ k - x) (Q := fun c t' => t' = t ∧ ∃ l, ∃ r : Nat, c = (none, l, r) ∧ Gap key (arrOf t) k l l) ?turn2 ?out2 ⟨rfl, 0, k, rfl, ⟨by omega, by omega, fun i hi => by omega, fun i h1 h2 => by omega⟩, by omega⟩) ?aft2)
    case out2 =>
      rintro c t' ⟨rfl, l, r, rfl, g, f⟩
      have e : r = l := by have := g.1; omega
      subst e
      exact ⟨rfl, r, r, rfl, g⟩
    case turn2 =>
      rintro x c t' _ xk ⟨rfl, l, r, rfl, g, f⟩
      dsimp only
      have g1 := g.1
      have g2 := g.2.1
      by_cases c : l ≥ r
      · rw [if_pos c]
        have e : r = l := by omega
        subst e
        exact wpS_pure ⟨rfl, r, r, rfl, g⟩
      · rw [if_neg c]
        refine wpS_bind (cmp C b' (by omega) (by omega) ?_)
        cases e : less (kp key (arrOf t') k) (kp key (arrOf t') ((l + r) / 2)) with
        | true =>
          simp only [if_true]
          refine wpS_pure ⟨rfl, l, (l + r) / 2, rfl, ⟨by omega, by omega, g.2.2.1, fun i h1 h2 h3 => ?_⟩, by omega⟩
          exact less_t e ((u' ((l + r) / 2) i h1 h2).tr h3)
        | false =>
          simp only [Bool.false_eq_true, if_false]
          refine wpS_pure ⟨rfl, (l + r) / 2 + 1, r, rfl, ⟨by omega, by omega, fun i hi => ?_, g.2.2.2⟩, by omega⟩
          exact (u' i ((l + r) / 2) (by omega) (by omega)).tr (less_f e)
    case aft2 =>
      rintro c t' ⟨rfl, l, r, rfl, g⟩
      show wpS _ _ _ _ (do moveDown' k l; pure (ForInStep.yield (none, ()))) _ _
      rw [moveDown'_eq]
      refine wpS_bind (wpS_modify (wpS_pure ⟨rfl, b'.put (bubble_perm _ _ _), ?_⟩))
      rw [show min (k + 1) n = k + 1 by omega]
      exact g.sunk (by rw [b'.sz]; omega) u'
/-- all is one run -/
def Fin1 (key : Value → Int × Int) (z : Array Keyed) (st : SortSt) : Prop := (arrOf st).Perm z ∧ failedOf st = none ∧ pendingOf st = #[(0, z.size, 0)] ∧ Up key (arrOf st) z.size
theorem Bas.fin {st : SortSt} (b : Bas z st) (u : Up key (arrOf st) z.size) : Fin1 key z (setPending st ((pendingOf st).push (0, z.size, 0))) := by
  refine ⟨b.pm, b.fl, ?_, u⟩
  show (pendingOf st).push _ = _
  rw [b.pd]
  rfl
theorem runs {st : SortSt} {Q : Unit → SortSt → Prop} (C : Can prog w A s key z) (b : Bas z st) (h2 : 2 ≤ z.size) (h64 : z.size < 64)
    (h : ∀ t, (arrOf t).Perm z → failedOf t = none → Up key (arrOf t) z.size → Q () t) : wpS (model prog w) A E s sortRuns' Q st := by
  rw [sortRuns'_eq]
  refine wpS_bind (wpS_get ?_)
  dsimp only
  have mr : minRun' z.size z.size 0 = z.size := by
    cases e : z.size with
    | zero => omega
    | succ f => rw [minRun'_succ, if_pos (by omega)]
  simp only [b.sz, mr]
  refine wpS_bind (wpS_mono (wpS_forRange (I := fun x c t => (x = 0 ∧ c = (none, 0) ∧ Bas z t) ∨ (1 ≤ x ∧ c = (none, z.size) ∧ Fin1 key z t)) (Q := fun c t => c = (none, z.size) ∧ Fin1 key z t) ?turn ?out (.inl ⟨rfl, rfl, b⟩)) ?aft)
  case out =>
    rintro c t (⟨x0, _, _⟩ | ⟨_, e, f⟩)
    · omega
    · exact ⟨e, f⟩
  case turn =>
    rintro x c t _ xn (⟨rfl, rfl, b'⟩ | ⟨x1, rfl, f⟩)
    · dsimp only
      rw [if_neg (by omega)]
      simp only [Nat.sub_zero, Nat.min_self, Nat.zero_add]
      refine wpS_bind (first_run C (Nat.le_refl _) (by omega) b' fun m t2 b2 m1 mn u2 => ?_)
      dsimp only
      have last : ∀ t3 : SortSt, Bas z t3 → Up key (arrOf t3) z.size → (pendingOf t3).back? = none ∧ Fin1 key z (setPending t3 ((pendingOf t3).push (0, z.size, 0))) := fun t3 b3 u3 => ⟨by rw [b3.pd]; rfl, b3.fin u3⟩
      by_cases c : m < z.size
      · rw [if_pos c]
        refine wpS_bind (wpS_lift (wpAny_rule ⟨rfl, ?_⟩))
        refine wpS_bind (placed C (Nat.le_refl _) mn b2 u2 fun t3 b3 u3 => ?_)
        simp only [Bool.not_true, Bool.false_eq_true, if_false]
        refine wpS_bind (wpS_get ?_)
        rw [(last t3 b3 u3).1]
        dsimp only
        exact wpS_bind (wpS_modify (wpS_pure (.inr ⟨by omega, rfl, (last t3 b3 u3).2⟩)))
      · rw [if_neg c]
        have e : m = z.size := by omega
        subst e
        refine wpS_bind (wpS_get ?_)
        rw [(last t2 b2 u2).1]
        dsimp only
        exact wpS_bind (wpS_modify (wpS_pure (.inr ⟨by omega, rfl, (last t2 b2 u2).2⟩)))
    · dsimp only
      rw [if_pos (Nat.le_refl _)]
      exact wpS_pure ⟨rfl, f⟩
  case aft =>
    rintro c t ⟨rfl, f⟩
    dsimp only
    refine wpS_bind (wpS_mono (wpS_forRange (I := fun _ c t' => t' = t ∧ c = (none, ())) (Q := fun c t' => t' = t ∧ c = (none, ())) ?_ (fun _ _ e => e) ⟨rfl, rfl⟩) ?_)
    · rintro x c t' _ _ ⟨rfl, rfl⟩
      refine wpS_bind (wpS_get ?_)
      rw [if_pos (by rw [f.2.2.1]; exact Nat.le_refl 1)]
      exact wpS_pure ⟨rfl, rfl⟩
    · rintro c t' ⟨rfl, rfl⟩
      exact wpS_pure (h _ f.1 f.2.1 f.2.2.2)
/-! list.sort and sorted -/
/-- values side by side with pairs -/
abbrev Prs (h : Heap) : List Value → List (Int × Int) → Prop := Paired (PairIn h)
theorem PairIn.inj {h : Heap} {v : Value} {p q : Int × Int} (a : PairIn h v p) (b : PairIn h v q) : p = q := by
  obtain ⟨x, t1, t2, rfl, o, h1, _, n, h3⟩ := a
  obtain ⟨y, u1, u2, e, o', g1, _, m, g3⟩ := b
  cases e
  rw [h1] at g1
  cases g1
  rw [h3] at g3
  injection g3 with g4 _
  have g5 := congrArg Array.toList g4
  injection g5 with g6 g7
  injection g7 with g8 _
  injection g6 with g9 _
  injection g8 with g10 _
  exact Prod.ext g9 g10
theorem PairIn.keep {h h' : Heap} {v : Value} {p : Int × Int} (a : PairIn h v p) (k : ∀ b o, o.cls = .type "tuple" → h.get? b = some o → h'.get? b = some o) : PairIn h' v p := by
  obtain ⟨x, t1, t2, e, o, h1, h2, r⟩ := a
  exact ⟨x, t1, t2, e, o, k x o h2 h1, h2, r⟩
theorem Prs.mem {h : Heap} : ∀ {vs : List Value} {ps : List (Int × Int)} {v : Value}, Prs h vs ps → v ∈ vs → ∃ p, PairIn h v p
  | _, _, _, .nil, m => by cases m
  | _, _, _, .cons a r, m => by
    rcases List.mem_cons.mp m with e | e
    · exact ⟨_, by rw [e]; exact a⟩
    · exact Prs.mem r e
end
end InkS

namespace Ink
open PySem PySem.Spec PyProof.Rows L2 InkX InkE InkF InkS
/-! ### sorted of a row, as a call -/
end Ink

namespace Ink
open PySem PySem.Spec PyProof.Rows L2 InkX InkE InkF InkS
/-! ### rows as sets of addresses -/
def In (r : Row) (x : Int) : Prop := ∃ p ∈ r, p.1 ≤ x ∧ x < p.2
def Ok (r : Row) : Prop := ∀ p ∈ r, p.1 ≤ p.2
theorem mem_run : ∀ {n : Nat} {s x : Int}, x ∈ run s n ↔ s ≤ x ∧ x < s + n
  | 0, s, x => by simp [run]
  | n + 1, s, x => by
    rw [run, List.mem_cons, mem_run]
    omega
theorem mem_span {p : Int × Int} {x : Int} : x ∈ span p ↔ p.1 ≤ x ∧ x < p.2 := by
  unfold span
  rw [mem_run]
  omega
theorem mem_spell {r : Row} {x : Int} : x ∈ spell r ↔ In r x := by
  unfold spell In
  rw [List.mem_flatMap]
  exact ⟨fun ⟨p, a, b⟩ => ⟨p, a, mem_span.mp b⟩, fun ⟨p, a, b⟩ => ⟨p, a, mem_span.mpr b⟩⟩
/-- rising, with gaps between -/
def Ris (r : Row) : Prop := r.Pairwise (fun p q => p.2 < q.1) ∧ ∀ p ∈ r, p.1 < p.2
theorem run_rise : ∀ (n : Nat) (s : Int), (run s n).Pairwise (· < ·)
  | 0, _ => .nil
  | n + 1, s => by
    rw [run, List.pairwise_cons]
    exact ⟨fun x hx => by have := mem_run.mp hx; omega, run_rise n (s + 1)⟩
theorem Ris.rise : ∀ {r : Row}, Ris r → (spell r).Pairwise (· < ·)
  | [], _ => .nil
  | p :: r, h => by
    have e : spell (p :: r) = span p ++ spell r := by unfold spell; rw [List.flatMap_cons]
    rw [e, List.pairwise_append]
    obtain ⟨h1, h2⟩ := List.pairwise_cons.mp h.1
    refine ⟨run_rise _ _, Ris.rise ⟨h2, fun q hq => h.2 q (List.mem_cons_of_mem _ hq)⟩, fun x hx y hy => ?_⟩
    obtain ⟨q, hq, a, b⟩ := mem_spell.mp hy
    have := (mem_span.mp hx).2
    have := h1 q hq
    omega
theorem Ris.ok {r : Row} (h : Ris r) : Ok r := fun p hp => Int.le_of_lt (h.2 p hp)
/-! spread -/
end Ink

namespace Ink
open PySem PySem.Spec PyProof.Rows L2 InkX InkE InkF InkS
/-! ### how many addresses two rows have -/
/-! ### a stretch without holes -/
def lo (b : Int) : Int → Row → Row
  | l, [] => [(l, b)]
  | l, p :: r => if p.1 < b then (l, if p.1 > l then p.1 else l) :: lo b (if b < p.2 then b else p.2) r else [(l, b)]
/-- the first hole that stops behind x -/
def Fst (holes : Row) (x : Int) (n : Nat) : Prop := n ≤ holes.length ∧ (∀ i p, holes[i]? = some p → i < n → p.2 ≤ x) ∧ ∀ i p, holes[i]? = some p → n ≤ i → x < p.2
theorem Fst.drop {holes : Row} {x : Int} {n : Nat} (h : Fst holes x n) : (∀ p ∈ holes.drop n, x < p.2) ∧ ∀ y, x ≤ y → (In holes y ↔ In (holes.drop n) y) := by
  refine ⟨fun p hp => ?_, fun y hy => ⟨fun z => ?_, fun z => ?_⟩⟩
  · obtain ⟨i, hi⟩ := List.getElem?_of_mem hp
    rw [List.getElem?_drop] at hi
    exact h.2.2 _ p hi (by omega)
  · obtain ⟨p, hp, a, b⟩ := z
    obtain ⟨i, hi⟩ := List.getElem?_of_mem hp
    by_cases c : i < n
    · have := h.2.1 i p hi c
      omega
    · refine ⟨p, List.mem_of_getElem? (i := i - n) ?_, a, b⟩
      rw [List.getElem?_drop, show n + (i - n) = i by omega]
      exact hi
  · obtain ⟨p, hp, q⟩ := z
    exact ⟨p, List.mem_of_mem_drop hp, q⟩
theorem Ris.drop {r : Row} (h : Ris r) (n : Nat) : Ris (r.drop n) := ⟨h.1.drop, fun p hp => h.2 p (List.mem_of_mem_drop hp)⟩
end Ink

namespace Ink
open PySem PySem.Spec PyProof.Rows L2 InkX InkE InkF InkP
/-! ### the program's classes -/
structure MetAt (K : PySem.W.Frag) (C : Addr) (m qual : Str) (st : Stmt) (ps : List Str) (a : Addr) (d : FuncData) : Prop where
  F : Fun K m qual st a d
  b : Binds K d ps []
  mt : Meth K C m a
structure ClsAt (K : PySem.W.Frag) (mg : Str → Option Value) (x : Str) (C fi : Addr) : Prop where
  cl : Cls K C
  m : mg x = some (.ref C)
  mak : Mk K C fi
theorem RowAt.obj {H H' : Hp} {r x C d : Addr} {row : Row} {fs : List (Str × V)} (h : RowAt H r row) (hx : H x = some (.ins C d fs)) (s : Keep x H H') : RowAt H' r row := by
  obtain ⟨as, h1, h2⟩ := h
  exact ⟨as, s _ _ h1 (ne_of h1 hx (by intro z; cases z)), h2.tups fun a ys e => s a _ e (ne_of e hx (by intro z; cases z))⟩
structure ExcN (K : PySem.W.Frag) (mg : Str → Option Value) (x : Str) (C : Addr) : Prop where
  m : mg x = some (.ref C)
  x : PySem.W.excIn K C [.type "ValueError", .type "Exception", .type "BaseException", .type "object"] "ValueError.__new__" = true
  h : PySem.W.exmOne K (.ref C) (.ref C) = some true
end Ink

namespace InkX
open PySem PySem.Spec PyProof.Rows L2
/-! ### a dict that is walked: its record is known while it is so -/
theorem paired_get' {α β : Type} {F : α → β → Prop} : ∀ {xs : List α} {ys : List β} {i : Nat} {y : β}, Paired F xs ys → ys[i]? = some y → ∃ x, xs[i]? = some x ∧ F x y
  | _, _, _, _, .nil, e => by simp at e
  | _, _, 0, _, .cons r _, e => by simp at e; subst e; exact ⟨_, rfl, r⟩
  | _, _, i + 1, y, .cons _ t, e => by
    obtain ⟨x, h1, h2⟩ := paired_get' (i := i) (y := y) t (by simpa using e)
    exact ⟨x, by simpa using h1, h2⟩
section
variable {X : Cx} {pins : List (Addr × Obj)} {σ : L2.St} {H : Hp} {s : Shared} {a : Addr} {o : Obj} {kvs : List (Key × V)}
end
section
variable {X : Cx} {tg : Expr}
end
/-! ### sorted of ints -/
/-! ### d.values(), and its sum -/
section
variable {X : Cx} {N : List Str} {scope : Scope} {cl : List (Str × Addr)} {C : Addr} {s₀ : Shared} {H₀ : Hp} {ex : List Addr} {pn : List (Addr × Obj)} {e : Expr} {ta : TE} {f : Str} {pos : Pos}
end
end InkX

namespace InkX
open PySem PySem.Spec PyProof.Rows L2 Ink InkF
/-! ### a list walked with its places -/
/-! ### d.setdefault(k, x) -/
/-! ### tuples that are equal, asked by != -/
end InkX

namespace InkX
open PySem PySem.Spec PyProof.Rows L2
/-! ### tuples of ints, asked by <= -/
section
open PySem.SeqAt
open PySem.AutoSeq1 (wpAny_loadPart')
open PySem.MeetsSeq PySem.MeetsSeq2 PySem.MeetsSeq3
end
end InkX

namespace InkX
open PySem PySem.Spec PyProof.Rows L2 Ink InkF
/-! ### a tuple of ints that is in a list of such -/
end InkX

namespace InkE
open PySem PySem.Spec PyProof.Rows PySem.W L2
/-! ### a method that may raise, called where its exception is met -/
section
variable {X : Cx} {o : Expr} {m : Str} {ps : List Str} {f C : Addr} {fd : FuncData} {k : Nat} {sp : Sp} {e : Expr} {es : List Expr} {ta : TE} {t : TA} {apos pos : Pos} {E : XK} {pl : Sem Bool}
end
section
variable {X : Cx} {pins : List (Addr × Obj)} {σ : L2.St} {H : Hp} {s : Shared} {a : Addr}
variable {o : Expr} {m y y2 : Str} {ps : List Str} {f B : Addr} {fd : FuncData} {k : Nat} {sp : Sp} {e : Expr} {es : List Expr} {ta : TE} {t : TA} {apos pos pos1 pos2 pos3 np hpos nq hqos : Pos} {C C1 C2 Cy Cz : Addr} {b0 c0 : Stmt} {suite suite2 : List Stmt} {tb tc : TS} {pl : Sem Bool}
end
end InkE

namespace InkX
open PySem PySem.Spec PyProof.Rows L2 InkE
/-! ### texts and their signs -/
def sgV (c : Nat) : V := .str ⟨#[c]⟩
def txt (cs : List Nat) : Str := ⟨cs.toArray⟩
theorem txt_of (x : Str) : txt x.cps.toList = x := by cases x; rfl
theorem txt_len (cs : List Nat) : (txt cs).length = cs.length := by show (cs.toArray).size = _; simp
theorem txt_inj {a b : List Nat} (h : txt a = txt b) : a = b := by
  have e := congrArg (fun x : Str => x.cps.toList) h
  simpa [txt] using e
theorem strs_of : ∀ {cs : List Nat} {us : List Value}, Vals (cs.map sgV) us → StrsAre us (cs.map fun c => (⟨#[c]⟩ : Str))
  | [], _, .nil => .nil
  | c :: cs, _, .cons ⟨t, e⟩ r => by
    subst e
    exact .cons _ t (strs_of r)
theorem join_signs (cs : List Nat) : Txt.join (Str.ofString "") (cs.map fun c => (⟨#[c]⟩ : Str)) = txt cs := by
  have e : Txt.join (Str.ofString "") (cs.map fun c => (⟨#[c]⟩ : Str)) = Str.join (Str.ofString "") (cs.map fun c => (⟨#[c]⟩ : Str)) := by
    have z := join_plain_closes (Str.ofString "") (cs.map fun c => (⟨#[c]⟩ : Str))
    exact beq_iff_eq.mp z
  rw [e]
  have em : (Str.ofString "") = (⟨#[]⟩ : Str) := by decide +kernel
  rw [em]
  clear e em
  induction cs with
  | nil => rfl
  | cons c cs ih =>
    cases cs with
    | nil => rfl
    | cons d cs =>
      rw [List.map_cons] at ih
      have s : Str.join ⟨#[]⟩ ((c :: d :: cs).map fun c => (⟨#[c]⟩ : Str)) = Str.append (Str.append ⟨#[c]⟩ ⟨#[]⟩) (Str.join ⟨#[]⟩ ((⟨#[d]⟩ : Str) :: cs.map fun c => (⟨#[c]⟩ : Str))) := rfl
      rw [s, ih]
      show (⟨(#[c] ++ #[]) ++ (d :: cs).toArray⟩ : Str) = ⟨(c :: d :: cs).toArray⟩
      simp
theorem signs_sum : ∀ cs : List Nat, (cs.map ((fun x : Str => x.length) ∘ fun c => (⟨#[c]⟩ : Str))).sum = cs.length
  | [] => rfl
  | c :: cs => by rw [List.map_cons, List.sum_cons, signs_sum cs, List.length_cons]; show 1 + _ = _; omega
theorem all_range : ∀ bs : List Bool, (List.range bs.length).all (fun i => bs.getD i false) = bs.all id
  | [] => rfl
  | b :: bs => by
    rw [List.length_cons, List.range_succ_eq_map, List.all_cons, List.all_map, List.all_cons, ← all_range bs]
    rfl
section
variable {X : Cx}
theorem mt_joinS : MtM X "str.join" (fun x xs H Q => ∃ (l : Addr) (cs : List Nat), x = .str (Str.ofString "") ∧ xs = [.ref l] ∧ H l = some (.lst (cs.map sgV)) ∧ cs.length ≤ 1000000 ∧ Q (.str (txt cs)) H) := by
  intro pins s σ H x xs v us Q I rx rs h
  obtain ⟨l, cs, rfl, rfl, hl, hz, q⟩ := h
  obtain ⟨t, rfl⟩ := rx
  obtain ⟨u, rfl, ru⟩ := rs.one
  cases (show u = Value.ref l from ru)
  obtain ⟨its, rv, pl, _⟩ := I.list (SqL.of (K := X.K) hl)
  refine join_list pl.isList (strs_of rv) ?_ fun t' k => ?_
  · rw [List.map_map]
    have e1 : (Str.ofString "").length = 0 := by decide +kernel
    have e2 := signs_sum cs
    rw [e1, e2]
    omega
  · rw [join_signs]
    exact ⟨.str (txt cs), H, I.tok _, ⟨t', rfl⟩, q⟩
theorem call_allB (hc : X.calm = true) : CallR X (.builtin "all") (fun xs H Q => ∃ (p : Addr) (bs : List Bool), xs = [.ref p] ∧ SqL X.K H p (bs.map V.bl) ∧ Q (.bl (bs.all id)) H) := by
  intro pins s σ H xs us Q I r h
  obtain ⟨p, bs, rfl, hq, q⟩ := h
  obtain ⟨u, rfl, rx⟩ := r.one
  cases (show u = Value.ref p from rx)
  obtain ⟨its, rv, pl, hz⟩ := I.list hq
  have len := rv.length
  rw [List.length_map] at len
  have hpl := pl.isList
  have plt : p < s.heap.objs.size := by
    obtain ⟨o, ho, _⟩ := hpl
    exact Heap.lt_size ho
  refine call_all_walk (wpAny_pyIter_list hpl ?_)
  refine ⟨s.heap.objs.size, [s.heap.objs.size, p], [s.heap.objs.size], its.toArray.size, _, _, fun i => bs.getD i false, rfl, Walks.list (A := X.A.in1) (I.ok.hd hc) s.heap.objs.size p (Nat.ne_of_lt plt) its.toArray, ⟨⟨_, Heap.get?_push_size _ rfl, rfl, rfl⟩, hpl.at fun o e => Heap.get?_push_of_some _ e⟩, fun i v s' Q' E' hP hQ => ?_, fun h' tk hk => ?_⟩
  · have hv : its[i]? = some v := by simpa using hP
    obtain ⟨x, ex, er⟩ := paired_get' rv hv
    rw [List.getElem?_map] at ex
    obtain ⟨b, eb, rfl⟩ := Option.map_eq_some_iff.mp ex
    cases (show v = Value.bool b from er)
    refine wpAny_truthy_bool ?_
    have e : bs.getD i false = b := by rw [List.getD_eq_getElem?_getD, eb]; rfl
    have hQ' : Q' (bs.getD i false) s' := hQ
    rw [e] at hQ'
    exact hQ'
  · have e : (List.range its.toArray.size).all (fun i => bs.getD i false) = bs.all id := by
      rw [List.size_toArray, ← len]
      exact all_range bs
    rw [e]
    exact ⟨.bl (bs.all id), H, I.kept fun b o e => hk b o (fun z => by rw [List.mem_singleton.mp z] at e; exact absurd (Heap.lt_size e) (Nat.lt_irrefl _)) (Heap.get?_push_of_some _ e), rfl, q⟩
end
/-! ### a text walked -/
def Its (cs : List Nat) : It := ⟨fun i _ => i < cs.length, fun i H x H' => H' = H ∧ ∃ c, cs[i]? = some c ∧ x = sgV c, fun i _ => i = cs.length⟩
theorem turn_str {P : Program} {w : World} {K : PySem.W.Frag} {tg : Expr} {it : Addr} {cs : List Nat} {t : Tok} {ty : String} (W : ∀ A' : Around, A'.handled = none → Walks P w A' it [it] [it] (txt cs).cps.size (SignAt (txt cs)) (fun i h => h.IsStrIter it ty (txt cs) t i))
    (hs : ∀ (A : Around) (i : Nat) (s : Shared) (Q : Value → Shared → Prop) (E : Value → Shared → Prop), s.heap.IsStrIter it ty (txt cs) t i → Q (.ref it) s → wpAny (model P w) A (pyIter (.ref it)) Q E s)
    (hn : ["enumerate", "zip", "dict_itemiterator", "dict_reverseitemiterator", "odict_iterator", "itertools.zip_longest", "itertools.pairwise"].contains ty = false) : Turn P w K tg (Its cs) [it] it (fun i h => h.IsStrIter it ty (txt cs) t i) where
  mem := by simp
  obj := fun i h st b hb => by
    have e : b = it := by simpa using hb
    subst e
    obtain ⟨o, e, c, d⟩ := st
    exact ⟨o, e, fun v z => by rw [d] at z; cases z⟩
  keep := fun i h h' st k => by
    obtain ⟨o, e, r⟩ := st
    exact ⟨o, k it (by simp) o e, r⟩
  item := by
    intro X hP hw hK hc i pins s σ H E I hf st hg
    subst hP hw hK
    obtain ⟨f0, f1, f2, f3, f4, f5⟩ := hf it (by simp)
    have hi : i < (txt cs).cps.size := by
      show i < cs.toArray.size
      rw [List.size_toArray]
      exact hg
    refine (W X.A (I.ok.hd hc)).item i s _ _ hi st fun v h' tk hv st' kk => ?_
    obtain ⟨c, u, ec, rfl⟩ := hv
    have I1 : Inv X pins σ H { s with heap := h', toks := tk } := I.turned (fun b o hb e => kk b o (by simpa using hb) e) f0 f1 f3 f4 f5
    obtain ⟨oi, ei, ci, di⟩ := id st'
    exact ⟨_, rfl, go_of (s := { s with heap := h', toks := tk }) ei ci di hn ⟨sgV c, H, I1, ⟨u, rfl⟩, ⟨rfl, c, by simpa [txt] using ec, rfl⟩, st', fun b hb => (hf b hb).1⟩⟩
  done := by
    intro X hP hw hK hc i pins s σ H E I hf st hg
    subst hP hw hK
    obtain ⟨f0, f1, f2, f3, f4, f5⟩ := hf it (by simp)
    have e : i = (txt cs).cps.size := by
      show i = cs.toArray.size
      rw [List.size_toArray]
      exact hg
    rw [e] at st
    exact (W X.A (I.ok.hd hc)).done s _ _ st fun h' tk kk => ⟨rfl, I.turned (fun b o hb e => kk b o (by simpa using hb) e) f0 f1 f3 f4 f5⟩
  self := hs
def iStr (tl : TE) : TI := fun σ H R => tl σ H fun x H1 => ∃ cs, x = .str (txt cs) ∧ R (Its cs) H1
theorem pi_str {X : Cx} {tg l : Expr} {tl : TE} (hl : PE X l tl) : PI X tg l (iStr tl) := by
  intro pins s σ H R I h
  refine thn (hl pins s σ H _ I h) fun v s1 ⟨x, H1, I1, r1, q1⟩ => ?_
  obtain ⟨cs, e, q⟩ := q1
  subst e
  obtain ⟨t, rfl⟩ := r1
  have fp : ∀ b ∈ [s1.heap.objs.size], FpOk X pins H1 b := fun b hb => by
    have e : b = s1.heap.objs.size := by simpa using hb
    subst e
    exact I1.fpOk (Nat.le_refl _) (I1.hok.fresh (Nat.le_refl _))
  cases ha : (txt cs).cps.all (· < 128) with
  | true => exact wpAny_pyIter_ascii ha ⟨s1.heap.objs.size, [s1.heap.objs.size], _, _, H1, rfl, I1.kept (t' := s1.toks) fun b o e => Heap.get?_push_of_some _ e, turn_str (t := t) (fun A' hA => Walks.strAscii hA _ _ t) (fun _ _ _ _ _ st h => wpAny_pyIter_striter_ascii st h) (by decide), ⟨_, Heap.get?_push_size _ rfl, rfl, rfl⟩, fp, q⟩
  | false => exact wpAny_pyIter_wide ha ⟨s1.heap.objs.size, [s1.heap.objs.size], _, _, H1, rfl, I1.kept (t' := s1.toks) fun b o e => Heap.get?_push_of_some _ e, turn_str (t := t) (fun A' hA => Walks.strWide hA _ _ t) (fun _ _ _ _ _ st h => wpAny_pyIter_striter_wide st h) (by decide), ⟨_, Heap.get?_push_size _ rfl, rfl, rfl⟩, fp, q⟩
theorem compF_str {cs : List Nat} {acc : Addr} {g : TG} {tt : TT} {te : TE} {σ0 : L2.St} {H : Hp} {Q : VK} (Pv : Nat → L2.St → Hp → Prop) (h0 : Pv 0 σ0 H)
    (hs : ∀ (i : Nat) c σ H, cs[i]? = some c → Pv i σ H → g (sgV c) σ H fun σ2 H2 => tt σ2 H2 fun b H3 => if b = true then te σ2 H3 fun v H4 => ∃ ys, H4 acc = some (.lst ys) ∧ ys.length < sizeLine ∧ Pv (i + 1) σ2 (upd H4 acc (.lst (ys ++ [v]))) else Pv (i + 1) σ2 H3)
    (hd : ∀ σ H, Pv cs.length σ H → Q (.ref acc) H) : tTurnsF (Its cs) acc g tt te σ0 H Q := by
  refine ⟨fun i m σ H => m = cs.length - i ∧ i ≤ cs.length ∧ Pv i σ H, ⟨cs.length, by simp, Nat.zero_le _, h0⟩, ?_⟩
  rintro i m σ H ⟨rfl, hi, p⟩
  by_cases hlt : i < cs.length
  · refine .inr ⟨hlt, Pv (i + 1), fun σ' H' p' => ⟨cs.length - (i + 1), by omega, rfl, hlt, p'⟩, fun x H' y => ?_⟩
    obtain ⟨e, c, y, ex⟩ := y
    subst e ex
    exact hs i c σ _ y p
  · have e : i = cs.length := by omega
    subst e
    exact .inl ⟨rfl, hd σ H p⟩
end InkX

namespace InkX
open PySem PySem.Spec PyProof.Rows L2 InkE Ink
/-! ### texts put together; a list turned about -/
section
variable {X : Cx}
theorem txt_app (a b : List Nat) : txt a ++ txt b = txt (a ++ b) := by
  show (⟨a.toArray ++ b.toArray⟩ : Str) = ⟨(a ++ b).toArray⟩
  simp
def rCatS : R2 := fun x y H Q => ∃ a b : List Nat, x = .str (txt a) ∧ y = .str (txt b) ∧ a.length + b.length ≤ 1000000 ∧ Q (.str (txt (a ++ b))) H
theorem op_catS : OpR X (binaryOp .Add) rCatS := by
  intro pins s σ H x y v u Q I rx ry h
  obtain ⟨a, b, rfl, rfl, hz, q⟩ := h
  obtain ⟨t, rfl⟩ := rx
  obtain ⟨t', rfl⟩ := ry
  refine PyProof.Rows.add_str (fun t2 tk => ?_) (by rw [txt_len, txt_len]; exact Nat.le_of_lt (million (by omega)))
  rw [txt_app]
  exact ⟨.str (txt (a ++ b)), H, I.tok _, ⟨t2, rfl⟩, q⟩
end
end InkX

namespace InkZ
open PySem
/-! ### the table of a set: places rise -/
theorem below_go {xs : Array Nat} (hr : xs.toList.Pairwise (· < ·)) (j : Nat) : ∀ (fuel lo hi : Nat), lo ≤ hi → hi ≤ xs.size → hi - lo ≤ fuel →
    (∀ a ∈ xs.toList.take lo, a < j) → (∀ a ∈ xs.toList.drop hi, j ≤ a) →
    (∀ a ∈ xs.toList.take (SetTable.below.go xs j fuel lo hi), a < j) ∧ (∀ a ∈ xs.toList.drop (SetTable.below.go xs j fuel lo hi), j ≤ a) := by
  intro fuel
  induction fuel with
  | zero =>
    intro lo hi h1 h2 h3 h4 h5
    obtain rfl : lo = hi := by omega
    exact ⟨h4, h5⟩
  | succ fuel ih =>
    intro lo hi h1 h2 h3 h4 h5
    unfold SetTable.below.go
    by_cases hlt : lo < hi
    · rw [if_pos hlt]
      dsimp only
      have hm : (lo + hi) / 2 < xs.size := by omega
      have hg : xs.getD ((lo + hi) / 2) j = xs.toList[(lo + hi) / 2]'(by simpa using hm) := by simp [Array.getD, hm]
      have hm' : (lo + hi) / 2 < xs.toList.length := by simpa using hm
      by_cases hc : xs.getD ((lo + hi) / 2) j < j
      · rw [if_pos hc]
        refine ih _ _ (by omega) h2 (by omega) (fun a ha => ?_) h5
        rw [List.take_succ_eq_append_getElem hm', List.mem_append] at ha
        rcases ha with ha | ha
        · obtain ⟨i, hi', rfl⟩ := List.mem_iff_getElem.mp ha
          rw [List.length_take] at hi'
          rw [List.getElem_take]
          have := List.pairwise_iff_getElem.mp hr i ((lo + hi) / 2) (by omega) hm' (by omega)
          rw [hg] at hc; omega
        · rw [List.mem_singleton] at ha; subst ha; rw [hg] at hc; exact hc
      · rw [if_neg hc]
        refine ih _ _ (by omega) (by omega) (by omega) h4 (fun a ha => ?_)
        obtain ⟨i, hi', rfl⟩ := List.mem_iff_getElem.mp ha
        rw [List.length_drop] at hi'
        rw [List.getElem_drop]
        rw [hg] at hc
        rcases Nat.eq_zero_or_pos i with rfl | hp
        · simp only [Nat.add_zero]; omega
        · have := List.pairwise_iff_getElem.mp hr ((lo + hi) / 2) ((lo + hi) / 2 + i) hm' (by omega) (by omega)
          omega
    · rw [if_neg hlt]
      obtain rfl : lo = hi := by omega
      exact ⟨h4, h5⟩
theorem below_ok {xs : Array Nat} (hr : xs.toList.Pairwise (· < ·)) (j : Nat) :
    (∀ a ∈ xs.toList.take (SetTable.below xs j), a < j) ∧ (∀ a ∈ xs.toList.drop (SetTable.below xs j), j ≤ a) :=
  below_go hr j xs.size 0 xs.size (Nat.zero_le _) (Nat.le_refl _) (Nat.le_refl _) (fun a ha => by simp at ha) (fun a ha => by rw [List.drop_of_length_le (by simp)] at ha; simp at ha)
theorem rise_put {xs : Array Nat} (hr : xs.toList.Pairwise (· < ·)) {j : Nat} (hj : xs[SetTable.below xs j]? ≠ some j) :
    (SetTable.insertAt xs (SetTable.below xs j) j).toList.Pairwise (· < ·) := by
  obtain ⟨h1, h2⟩ := below_ok hr j
  rw [SetTable.toList_insertAt]
  generalize SetTable.below xs j = p at h1 h2 hj
  have h3 : ∀ a ∈ xs.toList.drop p, j < a := by
    intro a ha
    have hp : p < xs.toList.length := by
      rcases Nat.lt_or_ge p xs.toList.length with h | h
      · exact h
      · rw [List.drop_of_length_le h] at ha; simp at ha
    rw [List.drop_eq_getElem_cons hp] at ha h2
    have hd := h2 _ List.mem_cons_self
    have hne : xs.toList[p] ≠ j := fun e => hj (by
      rw [← Array.getElem?_toList, List.getElem?_eq_getElem hp, e])
    rcases List.mem_cons.mp ha with rfl | ha
    · omega
    · obtain ⟨i, hi', rfl⟩ := List.mem_iff_getElem.mp ha
      rw [List.length_drop] at hi'
      rw [List.getElem_drop]
      have := List.pairwise_iff_getElem.mp hr p (p + 1 + i) hp (by omega) (by omega)
      omega
  rw [List.pairwise_append]
  refine ⟨hr.sublist (List.take_sublist _ _), List.pairwise_cons.mpr ⟨h3, hr.sublist (List.drop_sublist _ _)⟩, fun a ha b hb => ?_⟩
  have := h1 a ha
  rcases List.mem_cons.mp hb with rfl | hb
  · exact this
  · exact Nat.lt_trans this (h3 b hb)
theorem probe_go {t : SetTable} (hd : t.dummies = #[]) (f : Nat → Int) (h : Int) : ∀ (fuel : Nat) (p : SetTable.Probe), p.dummy = none → ∀ j d,
    SetTable.probe.go t f h fuel p = some (.empty j d) → d = none ∧ t.slot j = .empty := by
  intro fuel
  induction fuel with
  | zero => intro p _ j d e; cases e
  | succ fuel ih =>
    intro p hp j d e
    unfold SetTable.probe.go at e
    have adv : ∀ q : SetTable.Probe, (t.advance q).dummy = q.dummy := fun q => by
      unfold SetTable.advance; split <;> rfl
    split at e
    · rename_i hs; cases e; exact ⟨hp, hs⟩
    · rename_i hs
      exfalso
      unfold SetTable.slot at hs
      dsimp only at hs
      split at hs
      · cases hs
      · rw [hd] at hs; simp [SetTable.has] at hs
    · rename_i i hs
      split at e
      · cases e
      · exact ih _ (by rw [adv]; exact hp) j d e
structure TOk (led : Bool) (t : SetTable) : Prop where
  dum : t.dummies = #[]
  led : t.led = led
  rise : t.plain = true → t.place.toList.Pairwise (· < ·)
theorem TOk.stand {led : Bool} {t : SetTable} (T : TOk led t) (n : Nat) : TOk led (t.standIn n) := ⟨rfl, T.led, fun e => by cases e⟩
theorem TOk.off {led : Bool} {t : SetTable} (T : TOk led t) : TOk led { t with plain := false } := ⟨T.dum, T.led, fun e => by cases e⟩
theorem TOk.lay {led : Bool} {t : SetTable} (T : TOk led t) (es : Array (Int × Value)) (h : Int) (x : Value) : TOk led (layNew t es h x).2.1 := by
  unfold layNew
  split
  · rename_i slot was hs
    dsimp only
    unfold SetTable.freeSlot at hs
    split at hs
    · rename_i j d hp
      obtain ⟨rfl, hj⟩ := probe_go T.dum _ h _ _ rfl j d hp
      cases hs
      have hj' : t.place[SetTable.below t.place j]? ≠ some j := by
        intro e
        unfold SetTable.slot at hj
        dsimp only at hj
        rw [e] at hj
        simp at hj
      have hT : TOk led (t.put j).1 := by
        unfold SetTable.put
        refine ⟨?_, T.led, fun e => rise_put (T.rise e) hj'⟩
        dsimp only
        rw [T.dum]; simp [SetTable.has]
      show TOk led (SetTable.orStandIn _ _)
      unfold SetTable.orStandIn
      split
      · exact hT
      · exact hT.stand _
    · cases hs
  · exact T.stand _
end InkZ

namespace InkZ
open PySem PySem.Spec PyProof.Rows
section
variable {prog : Program} {w : World} {A : Around} {E : Value → Shared → Prop} {s : Shared}
def SZ (prog : Program) (w : World) (led : Bool) (h : Heap) (a : Addr) (ms : List Int) : Prop :=
  ∃ (o : Obj) (es : Array (Int × Value)) (ep : Nat) (t : SetTable) (ns : List Int), h.get? a = some o ∧ o.ExactSet ∧ o.data = .set es ep t ∧ ElemsOf (intKind prog w) es.toList ∧
    t.fits es.size = true ∧ TOk led t ∧ IntsAre (es.toList.map (·.2)) ns ∧ ns.Perm ms
theorem SZ.len {led : Bool} {h : Heap} {a : Addr} {ms : List Int} (Z : SZ prog w led h a ms) : ∃ (o : Obj) (es : Array (Int × Value)) (ep : Nat) (t : SetTable), h.get? a = some o ∧ o.data = .set es ep t ∧ es.size = ms.length := by
  obtain ⟨o, es, ep, t, ns, h1, _, h3, _, _, _, h7, h8⟩ := Z
  refine ⟨o, es, ep, t, h1, h3, ?_⟩
  have := h7.length
  rw [List.length_map, Array.length_toList] at this
  rw [this, h8.length_eq]
end
end InkZ

namespace InkZ
open PySem PySem.Spec PyProof.Rows
section
variable {prog : Program} {w : World} {A : Around} {E : Value → Shared → Prop} {s : Shared}
def freshSet (led : Bool) : Obj := { cls := .type "set", dict := none, data := .set #[] 0 (.fresh 0 0 led) }
theorem SZ.fresh {led : Bool} {h : Heap} {a : Addr} (e : h.get? a = some (freshSet led)) : SZ prog w led h a [] :=
  ⟨_, #[], 0, _, [], e, ⟨rfl, rfl, rfl⟩, rfl, fun _ hm => by simp at hm, rfl, ⟨rfl, rfl, fun _ => List.Pairwise.nil⟩, .nil, .rfl⟩
theorem SZ.at {led : Bool} {h h' : Heap} {a : Addr} {ms : List Int} (Z : SZ prog w led h a ms) (k : ∀ o, h.get? a = some o → h'.get? a = some o) : SZ prog w led h' a ms := by
  obtain ⟨o, es, ep, t, ns, h1, r⟩ := Z
  exact ⟨o, es, ep, t, ns, k _ h1, r⟩
end
end InkZ

namespace InkZ
open PySem PySem.Spec PyProof.Rows
/-! ### a set walked -/
theorem si_next : Slot "set_iterator" "__next__" "set_iterator.__next__" := .of (owner := "set_iterator") (n := "__next__")
  (by rw [typeLookup_type, builtinLookup_eq_fast]; kernel_rfl) (by decide +kernel) (by decide +kernel) (by decide +kernel) (by first | exact .inl (by decide +kernel) | exact .inr (by decide +kernel))
  (by rw [isSubtype_type]; kernel_rfl)
theorem si_iter : Slot "set_iterator" "__iter__" "set_iterator.__iter__" := .of (owner := "set_iterator") (n := "__iter__")
  (by rw [typeLookup_type, builtinLookup_eq_fast]; kernel_rfl) (by decide +kernel) (by decide +kernel) (by decide +kernel) (by first | exact .inl (by decide +kernel) | exact .inr (by decide +kernel))
  (by rw [isSubtype_type]; kernel_rfl)
theorem en_next : entryFor table "set_iterator.__next__" = some Builtin.«set_iterator.__next__» := entryFor_of_tree (by kernel_rfl)
theorem en_self : entryFor table "set_iterator.__iter__" = some Builtin.«dict_keyiterator.__iter__» :=
  entryFor_alias (id' := "dict_keyiterator.__iter__") (by kernel_rfl) rfl (by decide +kernel) (by kernel_rfl)
theorem ar_next (a : Value) : argsOk "set_iterator.__next__" ⟨[a], []⟩ := by unfold argsOk; kernel_rfl
theorem ar_self (a : Value) : argsOk "set_iterator.__iter__" ⟨[a], []⟩ := by unfold argsOk; kernel_rfl
end InkZ

namespace InkZ
open PySem PySem.Spec PyProof.Rows
section
variable {prog : Program} {w : World} {A : Around} {E : Value → Shared → Prop} {s : Shared}
def IsSI (h : Heap) (it : Addr) (first : Value) (i : Nat) (S : Addr) (n ep : Nat) : Prop :=
  ∃ o, h.get? it = some o ∧ o.cls = .type "set_iterator" ∧ o.data = .fields #[first, .int i 0, .ref S, .int n 0, .int ep 0]
theorem IsSI.ty {it S : Addr} {f : Value} {i n ep : Nat} (x : IsSI s.heap it f i S n ep) : s.TypeIs (.ref it) "set_iterator" := let ⟨o, a, b, _⟩ := x; ⟨o, a, b⟩
theorem IsSI.at {h h' : Heap} {it S : Addr} {f : Value} {i n ep : Nat} (x : IsSI h it f i S n ep) (e : ∀ o, h.get? it = some o → h'.get? it = some o) : IsSI h' it f i S n ep := let ⟨o, a, r⟩ := x; ⟨o, e _ a, r⟩
end
end InkZ

namespace InkZ
open PySem PySem.Spec PyProof.Rows
section
variable {prog : Program} {w : World} {A : Around} {E : Value → Shared → Prop} {s : Shared}
theorem stop_here {α : Type} {Q : α → Shared → Prop} (hh : A.handled = none) (q : ∀ (o1 o2 : Obj), o2.cls = .type "StopIteration" → o2.isFreed = false → E (.ref (s.heap.push o1).objs.size) { s with heap := (s.heap.push o1).push o2 }) :
    wpAny (model prog w) A (newExc (.type "StopIteration") [] >>= raiseNew) Q E s := by
  refine wpAny_bind ?_
  simp only [newExc, newTuple]
  refine wpAny_bind (wpAny_newObj_type ?_ (by size_fits)); refine wpAny_bind (m := firstArgMember _ _) (wpAny_of_eq (a := Value.none) (by first | rfl | (simp only [firstArgMember]; rfl)) ?_)
  refine wpAny_newObj_type ?_ (by size_fits); simp only [raiseNew]
  refine wpAny_bind (wpAny_handled ?_); rw [hh]
  exact wpAny_bind (wpAny_pure (wpAny_throw (q _ _ rfl rfl)))
theorem si_self {it S : Addr} {f : Value} {i n ep : Nat} {Q : Value → Shared → Prop} (x : IsSI s.heap it f i S n ep) (h : Q (.ref it) s) : wpAny (model prog w) A (pyIter (.ref it)) Q E s := by
  refine wpAny_pyIter_slot x.ty si_iter (wpAny_call_entry si_iter x.ty en_self ?_ (ar_self _)); show wpAny _ _ (ret (.ref it)) _ _ s
  exact wpAny_pure ⟨_, rfl, "set_iterator", _, x.ty, si_next.lookup, h⟩
/-! the drawn road: the places lie in a tuple -/
theorem sd_step {it S T : Addr} {o ot : Obj} {es : Array (Int × Value)} {t : SetTable} {i ep nT j : Nat} {tj : Tok} {ps : Array Value} {v : Int × Value} {Q : Option Value → Shared → Prop}
    (x : IsSI s.heap it (.ref T) i S es.size ep) (ho : s.heap.get? S = some o) (hd : o.data = .set es ep t) (hf : t.fits es.size = true) (hT : s.heap.get? T = some ot) (dT : ot.data = .seq ps nT)
    (hp : ps[i]? = some (.int j tj)) (hv : es[j]? = some v)
    (q : ∀ h', IsSI h' it (.ref T) (i + 1) S es.size ep → Heap.SameBut it s.heap h' → Q (some v.2) { s with heap := h' }) : wpAny (model prog w) A (pyNext (.ref it)) Q E s := by
  obtain ⟨oi, h1, h2, h3⟩ := id x
  unfold pyNext
  refine wpAny_bind (wpAny_attempt (wpAny_callSpecial?_slot (name := Str.ofString "__next__") x.ty si_next (wpAny_call_entry si_next x.ty en_next ?_ (ar_next _))))
  show wpAny _ _ (slotArgs "__next__" 0 ⟨[.ref it], []⟩ >>= _) _ _ s
  refine wpAny_bind (wpAny_pure ?_)
  refine wpAny_bind (wpAny_fieldsOf h1 h3 ?_)
  show wpAny _ _ (setEntries S >>= _) _ _ s
  refine wpAny_bind (wpAny_setEntries_of ho hd hf ?_)
  rw [if_neg (by simp)]
  show wpAny _ _ (seqItems? (.ref T) >>= _) _ _ s
  refine wpAny_bind (wpAny_seqItems hT dT ?_)
  simp only [Int.toNat_natCast, hp]
  refine wpAny_bind ?_
  unfold setNextDrawn
  refine wpAny_bind (wpAny_setState_of ho hd hf ?_)
  dsimp only
  rw [if_neg (by simp)]
  obtain ⟨v1, v2⟩ := v
  rw [hv]
  refine wpAny_pure ?_
  refine wpAny_bind (wpAny_setField h1 h3 (by simp) ?_)
  have g1 := Heap.get?_update_self (Obj.mapFields (·.setIfInBounds 1 (rawInt ((i : Int) + 1)))) h1 (Obj.isFreed_of_fields (Obj.data_mapFields h3 _))
  refine wpAny_pure ⟨_, rfl, wpAny_pure (q _ ⟨_, g1, (Obj.cls_mapFields ..).trans h2, ?_⟩ (Heap.SameBut.update ..))⟩
  rw [Obj.data_mapFields h3]; simp [rawInt]
theorem sd_end {it S T : Addr} {o ot : Obj} {es : Array (Int × Value)} {t : SetTable} {i ep nT : Nat} {ps : Array Value} {Q : Option Value → Shared → Prop} (hh : A.handled = none)
    (x : IsSI s.heap it (.ref T) i S es.size ep) (ho : s.heap.get? S = some o) (hd : o.data = .set es ep t) (hf : t.fits es.size = true) (hT : s.heap.get? T = some ot) (dT : ot.data = .seq ps nT) (hp : ps[i]? = none)
    (q : ∀ h', Heap.ExtBut it s.heap h' → Q none { s with heap := h' }) : wpAny (model prog w) A (pyNext (.ref it)) Q E s := by
  obtain ⟨oi, h1, h2, h3⟩ := id x
  unfold pyNext
  refine wpAny_bind (wpAny_attempt (wpAny_callSpecial?_slot (name := Str.ofString "__next__") x.ty si_next (wpAny_call_entry si_next x.ty en_next ?_ (ar_next _))))
  show wpAny _ _ (slotArgs "__next__" 0 ⟨[.ref it], []⟩ >>= _) _ _ s
  refine wpAny_bind (wpAny_pure ?_)
  refine wpAny_bind (wpAny_fieldsOf h1 h3 ?_)
  show wpAny _ _ (setEntries S >>= _) _ _ s
  refine wpAny_bind (wpAny_setEntries_of ho hd hf ?_)
  rw [if_neg (by simp)]
  show wpAny _ _ (seqItems? (.ref T) >>= _) _ _ s
  refine wpAny_bind (wpAny_seqItems hT dT ?_)
  simp only [Int.toNat_natCast, hp]
  refine wpAny_bind (wpAny_setField h1 h3 (by simp) ?_)
  have g1 := Heap.get?_update_self (Obj.mapFields (·.setIfInBounds 0 (rawInt 0))) h1 (Obj.isFreed_of_fields (Obj.data_mapFields h3 _))
  refine wpAny_bind (wpAny_setField g1 (Obj.data_mapFields h3 _) (by simp) ?_)
  refine stop_here hh fun o1 o2 c2 f2 => ?_
  refine wpAny_bind (wpAny_isInstance (T := "StopIteration") (b := true) ⟨_, Heap.get?_push_size _ f2, c2⟩ isSubtype_stop ?_)
  exact wpAny_pure (q _ ((((Heap.SameBut.update ..).trans (Heap.SameBut.update ..)).extBut.push _).push _))
theorem Walks.drawn {it S T : Addr} {o ot : Obj} {es : Array (Int × Value)} {t : SetTable} {ep nT : Nat} {js : List Nat} (hh : A.handled = none) (hn : S ≠ it) (hm : T ≠ it) (hd : o.data = .set es ep t) (hf : t.fits es.size = true)
    (dT : ot.data = .seq (js.map fun j : Nat => rawInt j).toArray nT) (hj : js.Perm (List.range es.size)) :
    Walks prog w A it [it, S, T] [it] es.size (fun i v => ∃ j e, js[i]? = some j ∧ es[j]? = some e ∧ v = e.2) (fun i h => IsSI h it (.ref T) i S es.size ep ∧ h.get? S = some o ∧ h.get? T = some ot) where
  sub := fun b hb => by simp at hb; simp [hb]
  frame := fun _ _ _ st k => ⟨st.1.at fun o e => k it (by simp) o e, k S (by simp) _ st.2.1, k T (by simp) _ st.2.2⟩
  item := fun i s Q E hi st q => by
    have hl : js.length = es.size := by rw [hj.length_eq, List.length_range]
    have ej : js[i]? = some (js[i]'(by omega)) := by simp [hl, hi]
    have lt : js[i]'(by omega) < es.size := List.mem_range.mp (hj.mem_iff.mp (List.getElem_mem _))
    refine sd_step (j := js[i]'(by omega)) (tj := 0) (v := es[js[i]'(by omega)]) st.1 st.2.1 hd hf st.2.2 dT (by rw [List.getElem?_toArray, List.getElem?_map, ej]; rfl) (by simp [lt]) fun h' x sb => ?_
    exact q _ h' s.toks ⟨_, _, ej, by simp [lt], rfl⟩ ⟨x, sb.extBut S _ hn st.2.1, sb.extBut T _ hm st.2.2⟩ fun b o hb e => sb.extBut b o (fun h => hb (by simp [h])) e
  done := fun s Q E st q => sd_end hh st.1 st.2.1 hd hf st.2.2 dT (by rw [List.getElem?_toArray, List.getElem?_map, List.getElem?_eq_none (by rw [hj.length_eq, List.length_range]; exact Nat.le_refl _)]; rfl)
    fun h' x => q h' s.toks fun b o hb e => x b o (fun h => hb (by simp [h])) e
  self := fun _ _ _ _ st q => si_self st.1 q
end
end InkZ

namespace InkZ
open PySem PySem.Spec PyProof.Rows
section
variable {prog : Program} {w : World} {A : Around} {E : Value → Shared → Prop} {s : Shared}
end
end InkZ

namespace InkZ
open PySem PySem.Spec PyProof.Rows L2
section
variable {prog : Program} {w : World} {A : Around} {E : Value → Shared → Prop} {s : Shared}
end
theorem vals_ints : ∀ {us : List Value} {ms : List Int}, IntsAre us ms → Vals (ms.map V.int) us
  | _, _, .nil => .nil
  | _, _, .cons _ t h => .cons ⟨t, rfl⟩ (vals_ints h)
end InkZ

namespace InkY
open PySem PySem.Spec PyProof.Rows L2 InkX PySem.Builtin PySem.Builtin.Str
/-! ### texts as lists of signs -/
theorem txt_cps (cs : List Nat) : (txt cs).cps.toList = cs := by simp [txt]
theorem at_iff (cs : List Nat) (c i : Nat) : StrLaws.At (txt cs) ⟨#[c]⟩ (txt cs).length i ↔ cs[i]? = some c := by
  unfold StrLaws.At
  rw [txt_len]
  show i + 1 ≤ cs.length ∧ _ ↔ _
  have e := StrLaws.subAt_eq (txt cs) ⟨#[c]⟩ i
  rw [e, txt_cps]
  show i + 1 ≤ cs.length ∧ ((cs.drop i).take 1 == [c]) = true ↔ _
  rw [beq_iff_eq]
  constructor
  · rintro ⟨h, g⟩
    rw [List.drop_eq_getElem_cons (by omega), List.take_succ_cons, List.take_zero] at g
    rw [List.getElem?_eq_getElem (by omega)]
    exact congrArg some (List.cons.inj g).1
  · intro h
    obtain ⟨l, g⟩ := List.getElem?_eq_some_iff.mp h
    refine ⟨by omega, ?_⟩
    rw [List.drop_eq_getElem_cons l, List.take_succ_cons, List.take_zero, g]
theorem in_sign (cs : List Nat) (c : Nat) : (!(occurrences (txt cs) ⟨#[c]⟩ 0 (txt cs).length 1).isEmpty) = decide (c ∈ cs) := by
  rcases StrLaws.occ_head (txt cs) ⟨#[c]⟩ 1 (Nat.le_refl 1) with ⟨h, g⟩ | ⟨i, r, h, g, _⟩
  · rw [h]
    refine (decide_eq_false fun z => ?_).symm
    obtain ⟨i, e⟩ := List.mem_iff_getElem?.mp z
    exact g i ((at_iff cs c i).mpr e)
  · rw [h]
    exact (decide_eq_true (List.mem_of_getElem? ((at_iff cs c i).mp g))).symm
/-- the first c parts a text -/
def cutAt (c : Nat) : List Nat → Option (List Nat × List Nat)
  | [] => none
  | x :: xs => if x = c then some ([], xs) else (cutAt c xs).map fun p => (x :: p.1, p.2)
theorem cutAt_none {c : Nat} : ∀ {cs : List Nat}, cutAt c cs = none ↔ c ∉ cs
  | [] => by simp [cutAt]
  | x :: xs => by
    unfold cutAt
    by_cases h : x = c
    · rw [if_pos h]; simp [h]
    · rw [if_neg h, Option.map_eq_none_iff, cutAt_none]
      rw [List.mem_cons]
      exact ⟨fun a z => z.elim (fun e => h e.symm) a, fun a z => a (.inr z)⟩
theorem cutAt_some {c : Nat} : ∀ {cs a b : List Nat}, cutAt c cs = some (a, b) ↔ cs = a ++ c :: b ∧ c ∉ a
  | [], a, b => by simp [cutAt]
  | x :: xs, a, b => by
    unfold cutAt
    by_cases h : x = c
    · rw [if_pos h]
      cases a with
      | nil => simp [h, eq_comm]
      | cons y a =>
        constructor
        · intro e; cases e
        · rintro ⟨e, n⟩; exact absurd (by rw [← h, (List.cons.inj e).1]; simp) n
    · rw [if_neg h, Option.map_eq_some_iff]
      constructor
      · rintro ⟨⟨p, q⟩, e, g⟩
        obtain ⟨e1, e2⟩ := cutAt_some.mp e
        cases g
        refine ⟨by rw [e1]; rfl, ?_⟩
        rw [List.mem_cons]
        exact fun z => z.elim (fun e => h e.symm) e2
      · rintro ⟨e, n⟩
        cases a with
        | nil => exact absurd (List.cons.inj e).1 h
        | cons y a =>
          obtain ⟨rfl, e2⟩ := List.cons.inj e
          exact ⟨(a, b), cutAt_some.mpr ⟨e2, fun z => n (List.mem_cons_of_mem _ z)⟩, rfl⟩
theorem part_none {cs : List Nat} {c : Nat} (h : c ∉ cs) : Txt.partition (txt cs) ⟨#[c]⟩ = (txt cs, Str.empty, Str.empty) := by
  unfold Txt.partition
  rcases StrLaws.occ_head (txt cs) ⟨#[c]⟩ 1 (Nat.le_refl 1) with ⟨e, _⟩ | ⟨i, r, e, g, _⟩
  · rw [e]
  · exact absurd (List.mem_of_getElem? ((at_iff cs c i).mp g)) h
theorem part_some {a b : List Nat} {c : Nat} (h : c ∉ a) : Txt.partition (txt (a ++ c :: b)) ⟨#[c]⟩ = (txt a, ⟨#[c]⟩, txt b) := by
  unfold Txt.partition
  have here : (a ++ c :: b)[a.length]? = some c := by simp
  rcases StrLaws.occ_head (txt (a ++ c :: b)) ⟨#[c]⟩ 1 (Nat.le_refl 1) with ⟨e, g⟩ | ⟨i, r, e, g, f⟩
  · exact absurd ((at_iff _ c a.length).mpr here) (g _)
  · have g' := (at_iff _ c i).mp g
    have : i = a.length := by
      rcases Nat.lt_trichotomy i a.length with l | l | l
      · rw [List.getElem?_append_left l] at g'
        exact absurd (List.mem_of_getElem? g') h
      · exact l
      · exact absurd ((at_iff _ c a.length).mpr here) (f _ l)
    subst this
    rw [e]
    show (strSub _ _ _, _, strSub _ _ _) = _
    have e1 : strSub (txt (a ++ c :: b)) 0 a.length = txt a := by
      refine ext_toList ?_
      rw [StrLaws.strSub_toList, txt_cps, txt_cps]
      simp
    have e2 : strSub (txt (a ++ c :: b)) (a.length + (⟨#[c]⟩ : Str).length) (txt (a ++ c :: b)).length = txt b := by
      refine ext_toList ?_
      rw [StrLaws.strSub_toList, txt_cps, txt_cps, txt_len]
      show ((a ++ c :: b).drop (a.length + 1)).take ((a ++ c :: b).length - (a.length + 1)) = b
      have e3 : (a ++ c :: b).drop (a.length + 1) = b := by simp
      rw [e3]
      exact List.take_of_length_le (by rw [List.length_append, List.length_cons]; omega)
    rw [e1, e2]
/-! join and split -/
def jn (c : Nat) : List (List Nat) → List Nat
  | [] => []
  | [x] => x
  | x :: y :: r => x ++ c :: jn c (y :: r)
theorem jn_txt (c : Nat) : ∀ ps : List (List Nat), Str.join ⟨#[c]⟩ (ps.map txt) = txt (jn c ps)
  | [] => rfl
  | [x] => rfl
  | x :: y :: r => by
    show txt x ++ ⟨#[c]⟩ ++ Str.join ⟨#[c]⟩ ((y :: r).map txt) = _
    rw [jn_txt c (y :: r)]
    refine ext_toList ?_
    rw [txt_cps]
    show ((txt x).cps ++ #[c] ++ (txt (jn c (y :: r))).cps).toList = _
    rw [Array.toList_append, Array.toList_append, txt_cps, txt_cps]
    simp [jn]
theorem sep_inj {c : Nat} : ∀ {x y A B : List Nat}, x ++ c :: A = y ++ c :: B → c ∉ x → c ∉ y → x = y ∧ A = B
  | [], [], A, B, e, _, _ => ⟨rfl, (List.cons.inj e).2⟩
  | [], b :: y, A, B, e, _, n => absurd (by rw [(List.cons.inj e).1]; simp) n
  | a :: x, [], A, B, e, n, _ => absurd (by rw [← (List.cons.inj e).1]; simp) n
  | a :: x, b :: y, A, B, e, n, m => by
    obtain ⟨rfl, e2⟩ := List.cons.inj e
    obtain ⟨rfl, h⟩ := sep_inj e2 (fun z => n (List.mem_cons_of_mem _ z)) (fun z => m (List.mem_cons_of_mem _ z))
    exact ⟨rfl, h⟩
theorem jn_inj {c : Nat} : ∀ {ps qs : List (List Nat)}, ps ≠ [] → qs ≠ [] → (∀ p ∈ ps, c ∉ p) → (∀ p ∈ qs, c ∉ p) → jn c ps = jn c qs → ps = qs
  | [], _, h, _, _, _, _ => absurd rfl h
  | _, [], _, h, _, _, _ => absurd rfl h
  | [x], [y], _, _, _, _, e => by rw [show x = y from e]
  | [x], y :: z :: r, _, _, f, _, e => by
    have e : x = y ++ c :: jn c (z :: r) := e
    exact absurd (by rw [e]; simp) (f x List.mem_cons_self)
  | x :: w :: r, [y], _, _, _, f, e => by
    have e : x ++ c :: jn c (w :: r) = y := e
    exact absurd (by rw [← e]; simp) (f y List.mem_cons_self)
  | x :: w :: r, y :: z :: q, _, _, f, g, e => by
    obtain ⟨rfl, e2⟩ := sep_inj (show x ++ c :: jn c (w :: r) = y ++ c :: jn c (z :: q) from e) (f x List.mem_cons_self) (g y List.mem_cons_self)
    rw [jn_inj (List.cons_ne_nil _ _) (List.cons_ne_nil _ _) (fun p hp => f p (List.mem_cons_of_mem _ hp)) (fun p hp => g p (List.mem_cons_of_mem _ hp)) e2]
/-- the pieces of a text between the c's -/
def spl (c : Nat) (cs : List Nat) : List (List Nat) := (Txt.split (txt cs) ⟨#[c]⟩).map fun x => x.cps.toList
theorem spl_txt (c : Nat) (cs : List Nat) : Txt.split (txt cs) ⟨#[c]⟩ = (spl c cs).map txt := by
  unfold spl
  rw [List.map_map]
  refine (List.map_id'' (fun x => ?_) _).symm
  exact txt_of x
theorem spl_ne (c : Nat) (cs : List Nat) : spl c cs ≠ [] := by
  intro e
  have := split_pos (txt cs) ⟨#[c]⟩
  rw [spl_txt, e] at this
  exact absurd this (by decide)
theorem spl_free (c : Nat) (cs : List Nat) : ∀ p ∈ spl c cs, c ∉ p := by
  intro p hp
  have := StrLaws.split_free (txt cs) c (txt p) (by rw [spl_txt]; exact List.mem_map_of_mem hp)
  rwa [txt_cps] at this
theorem spl_jn (c : Nat) (cs : List Nat) : jn c (spl c cs) = cs := by
  have := StrLaws.join_split (txt cs) ⟨#[c]⟩
  rw [spl_txt, jn_txt] at this
  exact txt_inj this
theorem spl_of {c : Nat} {ps : List (List Nat)} (h : ps ≠ []) (f : ∀ p ∈ ps, c ∉ p) : spl c (jn c ps) = ps :=
  jn_inj (spl_ne _ _) h (spl_free _ _) f (spl_jn _ _)
theorem spl_len (c : Nat) (cs : List Nat) : (spl c cs).length ≤ cs.length + 2 := by
  have := split_le (txt cs) ⟨#[c]⟩
  rw [spl_txt, List.length_map, txt_len] at this
  exact this
theorem spl_short {c : Nat} {cs p : List Nat} (h : p ∈ spl c cs) : p.length ≤ cs.length := by
  have := part_short (x := txt cs) (y := ⟨#[c]⟩) (a := txt p) (by rw [spl_txt]; exact List.mem_map_of_mem h)
  rwa [txt_len, txt_len] at this
end InkY

namespace InkY
open PySem PySem.Spec PyProof.Rows L2 InkX PySem.Builtin PySem.Builtin.Str
section
variable {X : Cx}
theorem mt_part : MtM X "str.partition" (fun x xs H Q => ∃ (cs : List Nat) (c : Nat), x = .str (txt cs) ∧ xs = [.str ⟨#[c]⟩] ∧ cs.length ≤ 1000000 ∧
    ∀ p, H p = none → Q (.ref p) (upd H p (.tup [.str (Txt.partition (txt cs) ⟨#[c]⟩).1, .str (Txt.partition (txt cs) ⟨#[c]⟩).2.1, .str (Txt.partition (txt cs) ⟨#[c]⟩).2.2]))) := by
  intro pins s σ H x xs v us Q I rx rs h
  obtain ⟨cs, c, rfl, rfl, hz, q⟩ := h
  obtain ⟨t, rfl⟩ := rx
  obtain ⟨u, rfl, ru⟩ := rs.one
  obtain ⟨t', rfl⟩ := ru
  have le : (txt cs).length ≤ sizeLine := by rw [txt_len]; exact Nat.le_trans hz (by decide)
  refine call_meets F.slot_str_partition (typeIs_str _ _ _) F.entry_str_partition (F.args_str_partition_2 _ _) (meets_str_partition (txt cs) ⟨#[c]⟩ t t' rfl le) ?_
  have q' := q s.heap.objs.size (I.hok.fresh (Nat.le_refl _))
  have fin : ∀ (a b c : Str) (ta tb tc : Tok) (k : Nat), Q (.ref s.heap.objs.size) (upd H s.heap.objs.size (.tup [.str a, .str b, .str c])) →
      EP X pins σ Q (.ref s.heap.objs.size) { s with toks := k, heap := s.heap.push { cls := .type "tuple", data := .seq [.str a ta, .str b tb, .str c tc].toArray } } := fun a b c ta tb tc k z =>
    ⟨.ref s.heap.objs.size, _, I.laid (t' := k) (o := .tup [.str a, .str b, .str c]) (fun b o e => Heap.get?_push_of_some _ e) (Nat.le_refl _) ⟨(by show 3 ≤ sizeLine; decide), [.str a ta, .str b tb, .str c tc], .cons ⟨ta, rfl⟩ (.cons ⟨tb, rfl⟩ (.cons ⟨tc, rfl⟩ .nil)), ⟨_, Heap.get?_push_size _ rfl, rfl, _, rfl⟩⟩, rfl, z⟩
  unfold Txt.partition at q'
  cases e : occurrences (txt cs) ⟨#[c]⟩ 0 (txt cs).length 1 with
  | nil =>
    rw [e] at q'
    exact fin _ _ _ _ _ _ _ q'
  | cons i r =>
    rw [e] at q'
    exact fin _ _ _ _ _ _ _ q'
theorem vals_strs : ∀ {us : List Value} {ys : List Str}, StrsAre us ys → Vals (ys.map V.str) us
  | _, _, .nil => .nil
  | _, _, .cons _ t h => .cons ⟨t, rfl⟩ (vals_strs h)
theorem strs_vals : ∀ {ys : List Str} {us : List Value}, Vals (ys.map V.str) us → StrsAre us ys
  | [], _, .nil => .nil
  | _ :: _, _, .cons r t => by
    obtain ⟨t', rfl⟩ := r
    exact .cons _ t' (strs_vals t)
theorem mt_split1 : MtM X "str.split" (fun x xs H Q => ∃ (cs : List Nat) (c : Nat), x = .str (txt cs) ∧ xs = [.str ⟨#[c]⟩] ∧ cs.length ≤ 100000 ∧
    ∀ p, H p = none → Q (.ref p) (upd H p (.lst ((spl c cs).map fun w => V.str (txt w))))) := by
  intro pins s σ H x xs v us Q I rx rs h
  obtain ⟨cs, c, rfl, rfl, hz, q⟩ := h
  obtain ⟨t, rfl⟩ := rx
  obtain ⟨u, rfl, ru⟩ := rs.one
  obtain ⟨t', rfl⟩ := ru
  have le : (txt cs).length ≤ sizeLine := by rw [txt_len]; exact Nat.le_trans hz (by decide)
  have q' := q s.heap.objs.size (I.hok.fresh (Nat.le_refl _))
  have em : (spl c cs).map (fun w => V.str (txt w)) = (Txt.split (txt cs) ⟨#[c]⟩).map V.str := by rw [spl_txt, List.map_map]; rfl
  have ll : ((spl c cs).map fun w => V.str (txt w)).length ≤ sizeLine := by
    rw [List.length_map]
    exact Nat.le_trans (spl_len c cs) (Nat.le_trans (show cs.length + 2 ≤ 100002 by omega) (by decide))
  have fin : ∀ (its : List Value) (k : Nat), StrsAre its (Txt.split (txt cs) ⟨#[c]⟩) → EP X pins σ Q (.ref s.heap.objs.size) { s with toks := k, heap := s.heap.push { cls := .type "list", data := .seq its.toArray } } := fun its k hi => by
    refine ⟨.ref s.heap.objs.size, _, I.laid (t' := k) (fun b o e => Heap.get?_push_of_some _ e) (Nat.le_refl _) (show ObjOk X.prog X.w _ _ _ (.lst _) from ⟨ll, its, 0, ?_, Heap.get?_push_size _ rfl⟩), rfl, q'⟩
    rw [em]; exact vals_strs hi
  cases h1 : (decide ((txt cs).length < (⟨#[c]⟩ : Str).length) || decide (strKind (txt cs) < strKind ⟨#[c]⟩)) with
  | true =>
    refine call_meets F.slot_str_split (typeIs_str _ _ _) F.entry_str_split (F.args_str_split_2 _ _) (meets_str_split_cannot_occur (txt cs) ⟨#[c]⟩ t t' h1) ?_
    refine fin [.str (txt cs) t] s.toks ?_
    rw [show Txt.split (txt cs) ⟨#[c]⟩ = [txt cs] from if_pos h1]
    exact .cons _ t .nil
  | false =>
    cases hf : (occurrences (txt cs) ⟨#[c]⟩ 0 (txt cs).length ((txt cs).length + 1)).isEmpty with
    | true =>
      refine call_meets F.slot_str_split (typeIs_str _ _ _) F.entry_str_split (F.args_str_split_2 _ _) (meets_str_split_not_found (txt cs) ⟨#[c]⟩ t t' h1 rfl hf) ?_
      refine fin [.str (txt cs) t] s.toks ?_
      rw [show Txt.split (txt cs) ⟨#[c]⟩ = [txt cs] from (if_neg (ne_true_of_eq_false h1)).trans (if_pos hf)]
      exact .cons _ t .nil
    | false =>
      have es : Txt.split (txt cs) ⟨#[c]⟩ = partsBetween (txt cs) (occurrences (txt cs) ⟨#[c]⟩ 0 (txt cs).length ((txt cs).length + 1)) (⟨#[c]⟩ : Str).length := (if_neg (ne_true_of_eq_false h1)).trans (if_neg (ne_true_of_eq_false hf))
      have ln : (partsBetween (txt cs) (occurrences (txt cs) ⟨#[c]⟩ 0 (txt cs).length ((txt cs).length + 1)) (⟨#[c]⟩ : Str).length).length ≤ sizeLine := by
        rw [← es, spl_txt]
        simpa using ll
      refine call_meets F.slot_str_split (typeIs_str _ _ _) F.entry_str_split (F.args_str_split_2 _ _) (meets_str_split_sep (txt cs) ⟨#[c]⟩ t t' h1 rfl hf le ln) ?_
      refine fin (strsFrom s.toks _) _ ?_
      rw [es, strsFrom_eq]
      have key : ∀ (ys : List Str) (k : Nat), StrsAre (strValues (numbered k ys)) ys := by
        intro ys
        induction ys with
        | nil => intro k; exact .nil
        | cons y ys ih => intro k; exact .cons y k (ih (k + 1))
      exact key _ _
theorem mt_starts : MtM X "str.startswith" (fun x xs H Q => ∃ a b, x = .str a ∧ xs = [.str b] ∧ Q (.bl (Txt.startswith a b)) H) := by
  intro pins s σ H x xs v us Q I rx rs h
  obtain ⟨a, b, rfl, rfl, q⟩ := h
  obtain ⟨t, rfl⟩ := rx
  obtain ⟨u, rfl, ru⟩ := rs.one
  obtain ⟨t', rfl⟩ := ru
  exact call_gives F.slot_str_startswith (typeIs_str _ _ _) F.entry_str_startswith (F.args_str_startswith_2 _ _) (gives_str_startswith a b t t') ⟨.bl (Txt.startswith a b), H, I, rfl, q⟩
theorem call_intT : CallR X (.type "int") (fun xs H Q => ∃ (a : Str) (n : Int), xs = [.str a] ∧ intText? a = some n ∧ a.length ≤ 640 ∧ Q (.int n) H) := by
  intro pins s σ H xs us Q I r h
  obtain ⟨a, n, rfl, hn, hl, q⟩ := h
  obtain ⟨u, rfl, rx⟩ := r.one
  obtain ⟨t, rfl⟩ := rx
  exact PySem.W.KIN.call_text hn hl ⟨.int n, H, I.tok _, ⟨_, rfl⟩, q⟩
/-! a text with fields, told exactly -/
end
end InkY
namespace InkY
open PySem PySem.Spec PyProof.Rows L2 InkX PySem.Builtin PySem.Builtin.Str
/-! slices of a text -/
def cutN (cs : List Nat) (lo hi : Option Int) : List Nat := (cs.drop (HT.sIx cs.length 0 lo)).take (HT.sIx cs.length cs.length hi - HT.sIx cs.length 0 lo)
theorem indices_run (lo hi : Option Int) (n : Nat) : strSliceIndices lo hi 1 n = (List.range (HT.sIx n n hi - HT.sIx n 0 lo)).map (HT.sIx n 0 lo + ·) := by
  obtain ⟨h1, h2, h3⟩ := slice_bounds lo hi n
  have e : strSliceIndices lo hi 1 n = sliceRange (sliceBounds lo hi none n).1 (sliceBounds lo hi none n).2.1 1 := rfl
  rw [e, h1, h2, sliceRange_one]
theorem sl_txt {X : Cx} : SlR X (fun x lo hi H Q => ∃ cs : List Nat, x = .str (txt cs) ∧ cs.length ≤ 1000000 ∧ Q (.str (txt (cutN cs lo hi))) H) := by
  intro pins s σ H x v vl vu lo hi sl Q I rx hs pl pu h
  obtain ⟨cs, rfl, hz, q⟩ := h
  obtain ⟨t, rfl⟩ := rx
  refine ⟨"str", _, F.slot_str_getitem.lookup, typeIs_str _ _ _, ?_⟩
  obtain ⟨l, rfl, el⟩ : ∃ l : Option (Int × Tok), vl = partValue l ∧ l.map (·.1) = lo := by
    cases pl with
    | none => exact ⟨none, rfl, rfl⟩
    | int i t => exact ⟨some (i, t), rfl, rfl⟩
  obtain ⟨u, rfl, eu⟩ : ∃ u : Option (Int × Tok), vu = partValue u ∧ u.map (·.1) = hi := by
    cases pu with
    | none => exact ⟨none, rfl, rfl⟩
    | int i t => exact ⟨some (i, t), rfl, rfl⟩
  refine wpAny_getItem_str_slice (l := l) (u := u) (st := none) hs rfl ?_
  have ep : slicePicked (txt cs) l u none = (List.range (HT.sIx cs.length cs.length hi - HT.sIx cs.length 0 lo)).map (HT.sIx cs.length 0 lo + ·) := by
    unfold slicePicked
    rw [el, eu, txt_len]
    exact indices_run lo hi cs.length
  have ec : ((slicePicked (txt cs) l u none).filterMap ((txt cs).cps[·]?)) = cutN cs lo hi := by
    rw [ep]
    unfold cutN
    have : ∀ i, (txt cs).cps[i]? = cs[i]? := fun i => by rw [← Array.getElem?_toList, txt_cps]
    simp only [this]
    have z := pick_run cs.toArray (HT.sIx cs.length 0 lo) (HT.sIx cs.length cs.length hi - HT.sIx cs.length 0 lo)
    simpa using z
  unfold sliceMade
  split
  · rename_i hc
    have e2 : cutN cs lo hi = cs := by
      rw [ep] at hc
      simp only [List.length_map, List.length_range, Bool.and_eq_true, beq_iff_eq, txt_len] at hc
      unfold cutN
      have := hc.2
      have a1 : HT.sIx cs.length 0 lo = 0 := by
        have : HT.sIx cs.length cs.length hi ≤ cs.length := by
          cases hi with
          | none => exact Nat.le_refl _
          | some k =>
            simp only [HT.sIx]
            split <;> omega
        have : HT.sIx cs.length 0 lo ≤ cs.length := by
          cases lo with
          | none => exact Nat.zero_le _
          | some k =>
            simp only [HT.sIx]
            split <;> omega
        omega
      rw [a1, List.drop_zero, List.take_of_length_le (by omega)]
    rw [e2] at q
    exact ⟨.str (txt cs), H, I, ⟨t, rfl⟩, q⟩
  · refine ⟨?_, ?_⟩
    · show (((slicePicked (txt cs) l u none).filterMap ((txt cs).cps[·]?)).toArray).size ≤ sizeLine
      rw [ec, List.size_toArray]
      unfold cutN
      rw [List.length_take, List.length_drop]
      exact Nat.le_trans (show _ ≤ 1000000 by omega) (by decide)
    · rw [ec]
      exact ⟨.str (txt (cutN cs lo hi)), H, I.tok _, ⟨_, rfl⟩, q⟩
end InkY

namespace InkY
open PySem PySem.Spec PyProof.Rows L2 InkX PySem.Builtin PySem.Builtin.Str Ink
/-! ### numbers written -/
def dg (n : Int) : List Nat := (Nat.toDigits 10 n.toNat).map Char.toNat
theorem num_txt {n : Int} (h : 0 ≤ n) : Str.ofString (toString n) = txt (dg n) := by
  refine ext_toList ?_
  rw [txt_cps]
  obtain ⟨m, rfl⟩ : ∃ m : Nat, n = (m : Int) := ⟨n.toNat, by omega⟩
  exact PySem.W.KIN.signs_num m
theorem dg_len {n : Int} (h0 : 0 ≤ n) (h1 : n < 10 ^ 60) : (dg n).length ≤ 60 := by
  have := toString_length_le h0 (k := 60) (by decide) h1
  rw [num_txt h0, txt_len] at this
  exact this
/-- a word that writes a number -/
def isNum (cs : List Nat) : Bool := decide (1 ≤ cs.length ∧ cs.length ≤ 60) && !(decide (cs.head? = some 48) && decide (cs ≠ [48])) && cs.all fun c => decide (48 ≤ c ∧ c ≤ 57)
def figs : List Nat := [48, 49, 50, 51, 52, 53, 54, 55, 56, 57]
theorem mem_figs (c : Nat) : c ∈ figs ↔ 48 ≤ c ∧ c ≤ 57 := by
  unfold figs
  simp only [List.mem_cons, List.not_mem_nil, or_false]
  omega
theorem isNum_ne {cs : List Nat} (h : isNum cs = true) : cs ≠ [] ∧ cs.length ≤ 60 ∧ ∀ c ∈ cs, 48 ≤ c ∧ c ≤ 57 := by
  unfold isNum at h
  simp only [Bool.and_eq_true, decide_eq_true_eq, List.all_eq_true] at h
  obtain ⟨⟨⟨a, b⟩, _⟩, c⟩ := h
  exact ⟨fun e => by rw [e] at a; exact absurd a (by decide), b, c⟩
def numOf (cs : List Nat) : Int := (NumText.digitsVal cs : Nat)
theorem num_reads {cs : List Nat} (h : isNum cs = true) : intText? (txt cs) = some (numOf cs) := by
  obtain ⟨a, b, c⟩ := isNum_ne h
  have e := intText_digits (x := txt cs) (by rw [txt_cps]; exact c) (by rw [txt_cps]; exact a) (by rw [txt_len]; exact Nat.le_trans b (by decide))
  rw [e, txt_cps]
  rfl
/-- the item that a word writes -/
def strOf (cs : List Nat) : Option (Int × Int) := match cutAt 45 cs with
  | some (a, b) => if isNum a = true ∧ isNum b = true then some (numOf a, numOf b) else none
  | none => none
end InkY

namespace InkV
open PySem PySem.Spec PyProof.Rows PySem.W L2 InkX InkE
/-! ### an exception that leaves a comprehension -/
section
variable {P : Program} {w : World} {H H' : Hp} {h h0 g : Heap} {a T : Addr} {C a0 fl : Value}
end
section
variable {P : Program} {w : World} {K : PySem.W.Frag} {mg : Str → Option Value} {base : Heap} {N : List Str} {qual : Str} {scope : Scope} {f : Addr} {cd : Value} {A : Around} {outer : List Env} {s : Shared} {H : Hp} {E : XK}
end
section
variable {M : Model} {A : Around} {E : Value → Shared → Prop} {s : Shared} {env : Env}
end
section
variable {prog : Program} {w : World} {A : Around} {R : Result → Shared → Prop} {s : Shared}
end
section
variable {X : Cx} {N : List Str} {scope : Scope} {cl : List (Str × Addr)} {jx : List (Option Nat)} {E : XK}
end
end InkV

namespace InkV
open PySem PySem.Spec PyProof.Rows PySem.W L2 InkX InkE
section
variable {X : Cx} {N : List Str} {scope : Scope} {cl : List (Str × Addr)} {jx : List (Option Nat)} {E : XK}
end
end InkV

namespace InkY
open PySem PySem.Spec PyProof.Rows L2 InkX PySem.Builtin PySem.Builtin.Str Ink
/-! ### signs counted and found; a text again and again; None in a list -/
theorem parts_len (x : Str) (cuts : List Nat) (w : Nat) : (partsBetween x cuts w).length = cuts.length + 1 := by
  show ((0 :: cuts.map (· + w)).zip (cuts ++ [x.length]) |>.map _).length = _
  rw [List.length_map, List.length_zip]
  simp
theorem spl_one {c : Nat} {cs : List Nat} (h : c ∉ cs) : spl c cs = [cs] := spl_of (c := c) (ps := [cs]) (by simp) (fun p hp => by rw [List.mem_singleton.mp hp]; exact h)
theorem spl_two {c : Nat} {a b : List Nat} (h : c ∉ a) (g : c ∉ b) : spl c (a ++ c :: b) = [a, b] := spl_of (c := c) (ps := [a, b]) (by simp) (fun p hp => by
  rcases List.mem_cons.mp hp with rfl | hp
  · exact h
  · rw [List.mem_singleton.mp hp]; exact g)
theorem count_spl {c : Nat} (hc : c < 256) (cs : List Nat) : (occurrences (txt cs) ⟨#[c]⟩ 0 (txt cs).length ((txt cs).length + 1)).length + 1 = (spl c cs).length := by
  rcases StrLaws.occ_head (txt cs) ⟨#[c]⟩ ((txt cs).length + 1) (by omega) with ⟨e, g⟩ | ⟨i, r, e, g, _⟩
  · have : c ∉ cs := fun z => by
      obtain ⟨i, q⟩ := List.mem_iff_getElem?.mp z
      exact g i ((at_iff cs c i).mpr q)
    rw [e, spl_one this]
    rfl
  · have h1 := List.mem_of_getElem? ((at_iff cs c i).mp g)
    have h2 : Txt.split (txt cs) ⟨#[c]⟩ = partsBetween (txt cs) (occurrences (txt cs) ⟨#[c]⟩ 0 (txt cs).length ((txt cs).length + 1)) 1 := by
      unfold Txt.split
      have n1 : ¬ (decide ((txt cs).length < (⟨#[c]⟩ : Str).length) || decide (strKind (txt cs) < strKind ⟨#[c]⟩)) = true := by
        rw [Bool.or_eq_true, decide_eq_true_iff, decide_eq_true_iff]
        rintro (z | z)
        · rw [txt_len] at z
          have : cs.length < 1 := z
          cases cs with
          | nil => cases h1
          | cons => simp at this
        · have k1 : strKind ⟨#[c]⟩ = 1 := by
            unfold Str.strKind
            rw [if_pos (by simp [hc])]
          have k2 : 1 ≤ strKind (txt cs) := by
            unfold Str.strKind
            split
            · exact Nat.le_refl _
            · split <;> decide
          omega
      rw [if_neg n1, e, if_neg (by simp)]
      rfl
    have h3 : (spl c cs).length = (Txt.split (txt cs) ⟨#[c]⟩).length := by unfold spl; rw [List.length_map]
    rw [h3, h2, parts_len]
theorem index_at {c : Nat} {a b : List Nat} (h : c ∉ a) : ∃ r, occurrences (txt (a ++ c :: b)) ⟨#[c]⟩ 0 (txt (a ++ c :: b)).length 1 = a.length :: r := by
  have here : (a ++ c :: b)[a.length]? = some c := by simp
  rcases StrLaws.occ_head (txt (a ++ c :: b)) ⟨#[c]⟩ 1 (Nat.le_refl 1) with ⟨e, g⟩ | ⟨i, r, e, g, f⟩
  · exact absurd ((at_iff _ c a.length).mpr here) (g _)
  · have g' := (at_iff _ c i).mp g
    have : i = a.length := by
      rcases Nat.lt_trichotomy i a.length with l | l | l
      · rw [List.getElem?_append_left l] at g'
        exact absurd (List.mem_of_getElem? g') h
      · exact l
      · exact absurd ((at_iff _ c a.length).mpr here) (f _ l)
    subst this
    exact ⟨r, e⟩
theorem str_two {cs : List Nat} (h : (spl 45 cs).length = 2) : ∃ a b, cs = a ++ 45 :: b ∧ 45 ∉ a ∧ cutAt 45 cs = some (a, b) := by
  match e : spl 45 cs, h with
  | [a, b], _ =>
    have j := spl_jn 45 cs
    rw [e] at j
    have na : 45 ∉ a := spl_free 45 cs a (by rw [e]; simp)
    exact ⟨a, b, j.symm, na, cutAt_some.mpr ⟨j.symm, na⟩⟩
theorem str_not {cs : List Nat} (h : (spl 45 cs).length ≠ 2) : strOf cs = none := by
  unfold strOf
  cases e : cutAt 45 cs with
  | none => rfl
  | some p =>
    obtain ⟨a, b⟩ := p
    obtain ⟨e1, e2⟩ := cutAt_some.mp e
    refine if_neg fun z => h ?_
    have nb : 45 ∉ b := fun m => by have := (isNum_ne z.2).2.2 45 m; omega
    rw [e1, spl_two e2 nb]
    rfl
section
variable {X : Cx}
theorem mt_countT : MtM X "str.count" (fun x xs H Q => ∃ (cs : List Nat) (c : Nat), x = .str (txt cs) ∧ xs = [.str ⟨#[c]⟩] ∧ c < 256 ∧ ∀ n : Nat, n + 1 = (spl c cs).length → Q (.int n) H) := by
  intro pins s σ H x xs v us Q I rx rs h
  obtain ⟨cs, c, rfl, rfl, hc, q⟩ := h
  obtain ⟨t, rfl⟩ := rx
  obtain ⟨u, rfl, ru⟩ := rs.one
  obtain ⟨t', rfl⟩ := ru
  exact call_gives F.slot_str_count (typeIs_str _ _ _) F.entry_str_count (F.args_str_count_2 _ _) (gives_str_count _ _ t t') ⟨.int _, H, I.tok _, ⟨_, rfl⟩, q _ (count_spl hc cs)⟩
theorem pj_txt {e : Expr} {te : TE} {pos : Pos} {es : List Expr} {m : Nat} {t : InkE.TJ} (he : PE X e te) (h : InkE.PJ X es m t) : InkE.PJ X (.FormattedValue e (-1) none pos :: es) (100000 + m) (fun σ H Q => te σ H fun v H1 => ∃ cs : List Nat, v = .str (txt cs) ∧ cs.length ≤ 100000 ∧ t σ H1 Q) := by
  intro pins s σ H out Q I q hl
  refine joinParts_consE (joinParts_cons (FormattedValue_plain (thn (he pins s σ H _ I q) fun v s1 ⟨x, H1, I1, r1, cs, e1, hi, q1⟩ => ?_)))
  subst e1
  obtain ⟨tk, rfl⟩ := r1
  have z0 : (txt cs).length ≤ 100000 := by rw [txt_len]; exact hi
  refine formatField_str (fun t' k => ?_) (Nat.le_trans z0 (by decide))
  have z := InkE.fit_out (y := txt cs) hl z0
  exact ⟨z.1, h pins _ σ H1 _ Q (I1.tok _) q1 z.2⟩
end
theorem for_str {cs : List Nat} {g : TG} {tb : TS} {D : Ends} {σ : L2.St} {H : Hp} (Pv : Nat → L2.St → Hp → Prop) (h0 : Pv 0 σ H)
    (hs : ∀ (i : Nat) c σ H, cs[i]? = some c → Pv i σ H → g (sgV c) σ H fun σ2 H2 => tb { D with nx := Pv (i + 1), ct := Pv (i + 1), bk := D.nx } σ2 H2) (hd : ∀ σ H, Pv cs.length σ H → D.nx σ H) :
    ∃ W : Nat → Nat → L2.St → Hp → Prop, (∃ m, W 0 m σ H) ∧ ∀ i m σ H, W i m σ H →
      ((Its cs).stop i H ∧ D.nx σ H) ∨ ((Its cs).go i H ∧ ∃ N : L2.St → Hp → Prop, (∀ σ' H', N σ' H' → ∃ m', m' < m ∧ W (i + 1) m' σ' H') ∧ ∀ x H', (Its cs).yld i H x H' → g x σ H' fun σ2 H2 => tb { D with nx := N, ct := N, bk := D.nx } σ2 H2) := by
  refine ⟨fun i m σ H => m = cs.length - i ∧ i ≤ cs.length ∧ Pv i σ H, ⟨cs.length, by simp, Nat.zero_le _, h0⟩, ?_⟩
  rintro i m σ H ⟨rfl, hi, p⟩
  by_cases hlt : i < cs.length
  · refine .inr ⟨hlt, Pv (i + 1), fun σ' H' p' => ⟨cs.length - (i + 1), by omega, rfl, hlt, p'⟩, fun x H' y => ?_⟩
    obtain ⟨e, c, y, ex⟩ := y
    subst e ex
    exact hs i c σ _ y p
  · have e : i = cs.length := by omega
    subst e
    exact .inl ⟨rfl, hd σ H p⟩
end InkY

namespace InkV
open PySem PySem.Spec PyProof.Rows PySem.W L2 InkX InkE
end InkV

namespace InkU
open PySem PySem.Spec PyProof.Rows L2 InkX InkE Ink
/-! ### name, *words = a list -/
theorem shiftS {prog : Program} {w : World} {A : Around} {I : Addr} {fp wr : List Addr} {G : Array GenState → Array GenState → Prop} {n : Nat} {P : Nat → Value → Prop} {St : Nat → Shared → Prop} (W : WalksS prog w A I fp wr G (n + 1) P St) :
    WalksS prog w A I fp wr G n (fun i => P (i + 1)) (fun i => St (i + 1)) where
  sub := W.sub
  grefl := W.grefl
  gtrans := W.gtrans
  frame := fun i s h' tk st ht hk => W.frame (i + 1) s h' tk st ht hk
  item := fun i s Q E hi st hQ => W.item (i + 1) s Q E (Nat.succ_lt_succ hi) st hQ
  done := fun s Q E st hQ => W.done s Q E st hQ
  self := fun i s Q E st hQ => W.self (i + 1) s Q E st hQ
section
variable {X : Cx}
def gStar (K : PySem.W.Frag) (ts : TGs) : TG := fun v σ H Q => ∃ (a : Addr) (x : V) (xs : List V), v = .ref a ∧ SqL K H a (x :: xs) ∧ ∀ l, H l = none → ts [x, .ref l] σ (upd H l (.lst xs)) Q
theorem pg_star {e1 e2 : Expr} {p2 pos : Pos} {k : Nat} {ts : TGs} (hc : X.calm = true) (h : PGs X [e1, e2] ts) (hm : (assignEach [e1, .Starred e2 p2] X.env).map (·.2) = (assignEach [e1, e2] X.env).map (·.2) := by rfl)
    (hl : (assignEach [e1, .Starred e2 p2] X.env).length = 2 := by rfl) (hst : (assignEach [e1, .Starred e2 p2] X.env).findIdx? (·.1) = some 1 := by rfl) : PG X (.Tuple [e1, .Starred e2 p2] k pos) (gStar X.K ts) := by
  intro pins s σ H v u Q I r hw
  obtain ⟨a, x, xs, rfl, hq, hw⟩ := hw
  cases (show u = Value.ref a from r)
  obtain ⟨its, rv, pl, hz⟩ := I.list hq
  have hln := rv.length
  obtain ⟨u0, us, rfl⟩ : ∃ u0 us, its = u0 :: us := by
    cases its with
    | nil => simp at hln
    | cons u0 us => exact ⟨u0, us, rfl⟩
  have r0 : RelV x u0 ∧ Vals xs us := by
    cases rv with
    | cons r t => exact ⟨r, t⟩
  have hl' : s.heap.IsList a (u0 :: us).toArray := pl.isList
  have alt : a < s.heap.objs.size := by
    obtain ⟨o, ho, _⟩ := id hl'
    exact Heap.lt_size ho
  have hne : a ≠ s.heap.objs.size := Nat.ne_of_lt alt
  rw [arm_assign_Tuple]
  refine wpAny_bind (wpAny_standAt ?_)
  unfold unpack
  rw [hl, hst, hm]
  refine wpAny_bind (wpAny_holding ?_)
  unfold unpackItems
  refine wpAny_bind ?_
  unfold notIterableAtAll
  refine wpAny_bind (wpAny_specialOf hl'.typeIs slot_list_iter.lookup ?_)
  refine wpAny_pure ?_
  simp only [Bool.false_eq_true, if_false]
  refine wpAny_bind (wpAny_holding (wpAny_pyIter_list hl' ?_))
  generalize ho : ({ cls := .type "list_iterator", data := .fields #[.ref a, .int 0 0] } : Obj) = oi
  have k1 : ∀ b o, s.heap.get? b = some o → (s.heap.push oi).get? b = some o := fun b o e => Heap.get?_push_of_some _ e
  have it1 : (s.heap.push oi).IsListIter s.heap.objs.size a 0 := by subst ho; exact ⟨_, Heap.get?_push_size _ rfl, rfl, rfl⟩
  have li1 : (s.heap.push oi).IsList a (u0 :: us).toArray := hl'.at fun o e => k1 a o e
  have lt1 : s.heap.objs.size < (s.heap.push oi).objs.size := by rw [Heap.size_push]; exact Nat.lt_succ_self _
  refine wpAny_bind (wpAny_holding ?_)
  show wpAny _ _ (pyNext (.ref s.heap.objs.size) >>= _) _ _ _
  refine wpAny_bind (wpAny_pyNext_list_item it1 li1 (x := u0) rfl fun h2 it2 sb2 => ?_)
  have li2 : h2.IsList a (u0 :: us).toArray := li1.extBut sb2.extBut hne
  refine wpAny_bind (wpAny_holding (wpAny_pure (wpAny_pure ?_)))
  rw [if_neg (by simp)]
  have W := shiftS (n := us.length) ((Walks.list (prog := X.prog) (w := X.w) (A := X.A.in1) (show X.A.in1.handled = none from I.ok.hd hc) s.heap.objs.size a hne (u0 :: us).toArray).toS)
  refine wpAny_bind (wpAny_holding (wpAny_collect_iter (T := "list_iterator") (.inr (.inr (.inl rfl))) W (fun i s st => st.1.typeIs) (show h2.IsListIter _ a 1 ∧ h2.IsList a (u0 :: us).toArray from ⟨it2, li2⟩) (fun b hb => ?_) (by simp) (fun s3 acc mv io => ?_) ?_))
  · have : b = s.heap.objs.size ∨ b = a := by simpa using hb
    show b < h2.objs.size
    rw [sb2.1]
    rcases this with z | z
    · rw [z]; exact lt1
    · rw [z]; exact Nat.lt_trans alt lt1
  · have ea : acc.toList = us := by
      refine List.ext_getElem? fun j => ?_
      by_cases hj : j < acc.size
      · have z := io.2 j acc[j] (by simp [hj])
        have z' : us[j]? = some acc[j] := by simpa using z
        rw [z']
        simp [hj]
      · rw [List.getElem?_eq_none (by simpa using hj), List.getElem?_eq_none (by rw [io.1] at hj; omega)]
    rw [ea]
    show wpAny _ _ (if us.length < 0 then _ else _) _ _ s3
    rw [if_neg (Nat.not_lt_zero _)]
    have z0 : us.length ≤ sizeLine := by
      have := r0.2.length
      rw [← this]
      exact Nat.le_trans (Nat.le_succ _) hz
    have e3 : us.take (us.length - (2 - 1 - 1)) = us := List.take_of_length_le (by omega)
    have e4 : us.drop (us.length - (2 - 1 - 1)) = [] := List.drop_of_length_le (by omega)
    rw [e3, e4]
    refine wpAny_bind (wpAny_newObj_type ?_ (show (us.toArray).size ≤ sizeLine by simpa using z0))
    obtain ⟨h3, g3, d3, t3, o3⟩ := s3
    have eg : g3 = s.gens := mv.gens
    have ed : d3 = s.drawn := mv.drawn
    have eo : o3 = s.os := mv.os
    subst eg ed eo
    have I3 : Inv X pins σ H { s with heap := h3, toks := t3 } := I.kept (t' := t3) fun b o e => by
      have nb : b ≠ s.heap.objs.size := Nat.ne_of_lt (Heap.lt_size e)
      exact mv.heap b o (by simpa using nb) ((sb2.extBut b o nb) (k1 b o e))
    have I4 : Inv X pins σ (upd H h3.objs.size (.lst xs)) { s with heap := h3.push { cls := .type "list", data := .seq us.toArray }, toks := t3 } := I3.lnew r0.2 (Nat.le_trans (Nat.le_of_eq r0.2.length) z0)
    exact wpAny_pure (h pins _ σ _ [x, .ref h3.objs.size] [u0, .ref h3.objs.size] Q I4 (.cons r0.1 (.cons rfl .nil)) (hw _ I3.fresh))
  · have := r0.2.length
    rw [← this]
    exact Nat.le_trans (Nat.le_succ _) hz
end
end InkU

namespace InkU
open PySem PySem.Spec PyProof.Rows L2 InkX InkE Ink PySem.W PyProof.Rows.KTD
section
variable {X : Cx}
/-! ### a written table of the program, kept at the top -/
def TabK (K : PySem.W.Frag) (a : Addr) (D : List (Str × Int)) : Prop := tabLook (datLooks fun b => List.lookup b K) (fun b => List.lookup b K) a (D.map fun p => (p.1, Dat.flat (.int p.2))) = true
theorem TabK.here {pins : List (Addr × Obj)} {σ : L2.St} {H : Hp} {s : Shared} {a : Addr} {D : List (Str × Int)} (T : TabK X.K a D) (I : Inv X pins σ H s) : Here X.base s.heap a (D.map fun p => (p.1, Dat.flat (.int p.2))) :=
  ⟨text_of_look (fun a o h => I.ok.mod.kin a o h) T, I.bk⟩
def isKey (k : Str) (D : List (Str × Int)) : Bool := D.any fun p => decide (k = p.1)
theorem keys_of {k : Str} : ∀ {D : List (Str × Int)}, inKeys k (D.map fun p => (p.1, Dat.flat (.int p.2))) = isKey k D
  | [] => rfl
  | (x, i) :: D => by
    have z := keys_of (k := k) (D := D)
    unfold isKey at z ⊢
    rw [List.any_cons, ← z]
    rfl
theorem op_inTab : OpR X (compareOp .In) (fun x y H Q => ∃ (a : Addr) (k : Str) (D : List (Str × Int)), x = .str k ∧ y = .ref a ∧ TabK X.K a D ∧ Q (.bl (isKey k D)) H) := by
  intro pins s σ H x y v u Q I rx ry h
  obtain ⟨a, k, D, rfl, rfl, T, q⟩ := h
  obtain ⟨t, rfl⟩ := rx
  cases (show u = Value.ref a from ry)
  refine in_text (T.here I) ?_
  rw [keys_of]
  exact ⟨.bl _, H, I.tok _, rfl, q⟩
theorem eachL_of {h₀ : Heap} {k : Str} {P : Value → Prop} : ∀ {D : List (Str × Int)} {i : Int}, (D.find? fun p => decide (k = p.1)) = some (k, i) → (∀ t, P (.int i t)) → EachL h₀ k P (D.map fun p => (p.1, Dat.flat (.int p.2)))
  | [], _, e, _ => by cases e
  | [(x, j)], i, e, h => by
    rw [List.find?_cons] at e
    by_cases c : k = x
    · rw [decide_eq_true c] at e
      cases e
      exact eachL_last fun _ => h
    · rw [decide_eq_false c] at e
      cases e
  | (x, j) :: p :: D, i, e, h => by
    rw [List.find?_cons] at e
    by_cases c : k = x
    · rw [decide_eq_true c] at e
      cases e
      exact eachL_hit c h
    · rw [decide_eq_false c] at e
      exact eachL_miss c (eachL_of (D := p :: D) e h)
theorem key_found {k : Str} {i : Int} : ∀ {D : List (Str × Int)}, (D.find? fun p => decide (k = p.1)) = some (k, i) → isKey k D = true
  | D, e => by
    unfold isKey
    rw [List.any_eq_true]
    exact ⟨_, List.mem_of_find?_eq_some e, decide_eq_true rfl⟩
theorem ix_tab : IxR X (fun x y H Q => ∃ (a : Addr) (k : Str) (D : List (Str × Int)) (i : Int), x = .ref a ∧ y = .str k ∧ TabK X.K a D ∧ (D.find? fun p => decide (k = p.1)) = some (k, i) ∧ Q (.int i) H) := by
  intro value slice pins s σ H x y v u Q I rx ry h hs
  obtain ⟨a, k, D, i, rfl, rfl, T, e, q⟩ := h
  cases (show v = Value.ref a from rx)
  obtain ⟨t, rfl⟩ := ry
  refine item_textA (T.here I) ?_ (by rw [keys_of]; exact key_found e) (eachL_of e fun t' => ⟨.int i, H, I.tok _, ⟨_, rfl⟩, q⟩) hs
  rw [List.all_eq_true]
  intro p hp
  obtain ⟨q', _, rfl⟩ := List.mem_map.mp hp
  rfl
/-! ### texts in a list, counted and found -/
theorem eq_text {a b : Str} : eqV (.str a) (.str b) = decide (a = b) := by
  by_cases h : a = b
  · subst h; simp [eqV]
  · rw [decide_eq_false h]; simp [eqV, h]
theorem flat_txts (ws : List (List Nat)) : (ws.map fun w => V.str (txt w)).all flatV = true := by
  rw [List.all_map, List.all_eq_true]
  intro w _
  rfl
theorem countP_txt {k : List Nat} : ∀ {ws : List (List Nat)} {us : List Value}, Vals (ws.map fun w => V.str (txt w)) us → us.countP (eqU (.str (txt k))) = ws.count k
  | [], _, .nil => rfl
  | w :: ws, u :: us, .cons r t => by
    have z := countP_txt (k := k) t
    have e : eqU (.str (txt k)) u = decide (w = k) := by
      rw [eqU_of r rfl, eq_text]
      exact decide_eq_decide.mpr ⟨fun z => txt_inj z, fun z => by rw [z]⟩
    rw [List.countP_cons, z, e, List.count_cons]
    by_cases h : w = k
    · simp [h]
    · simp [h]
theorem mt_countL : MtM X "list.count" (fun x xs H Q => ∃ (l : Addr) (k : List Nat) (ws : List (List Nat)), x = .ref l ∧ xs = [.str (txt k)] ∧ H l = some (.lst (ws.map fun w => V.str (txt w))) ∧ Q (.int (ws.count k)) H) := by
  intro pins s σ H x xs v us Q I rx rs h
  obtain ⟨l, k, ws, rfl, rfl, hl, q⟩ := h
  cases (show v = Value.ref l from rx)
  obtain ⟨u, rfl, ru⟩ := rs.one
  have ru' := ru
  obtain ⟨t, rfl⟩ := ru
  obtain ⟨_, its, n, rv, _, ho⟩ := I.lstM hl
  refine call_meets F.slot_list_count ⟨_, ho, rfl⟩ F.entry_list_count (F.args_list_count_2 _ _) (SeqAt.list_countAt l its.toArray n none _ (.str (txt k) t) (eqU (.str (txt k)))) ⟨ho, fun y hy => mem_eqAt ru' rfl rv (flat_txts ws) y (by simpa using hy), ?_⟩
  rw [show its.toArray.toList = its from rfl, countP_txt rv]
  exact (show EP X pins σ Q _ _ from ⟨.int _, H, I.tok _, ⟨_, rfl⟩, q⟩)
theorem mt_indexL : MtM X "list.index" (fun x xs H Q => ∃ (l : Addr) (k : List Nat) (a b : List (List Nat)), x = .ref l ∧ xs = [.str (txt k)] ∧ H l = some (.lst ((a ++ k :: b).map fun w => V.str (txt w))) ∧ k ∉ a ∧ a.length ≤ 1000000 ∧ Q (.int a.length) H) := by
  intro pins s σ H x xs v us Q I rx rs h
  obtain ⟨l, k, a, b, rfl, rfl, hl, na, la, q⟩ := h
  cases (show v = Value.ref l from rx)
  obtain ⟨u, rfl, ru⟩ := rs.one
  have ru' := ru
  obtain ⟨t, rfl⟩ := ru
  obtain ⟨_, its, n, rv, hln, ho⟩ := I.lstM hl
  have at' : ∀ (j : Nat) (hj : j < its.length), ∃ w, (a ++ k :: b)[j]? = some w ∧ eqU (.str (txt k)) its[j] = decide (w = k) := fun j hj => by
    have hj' : j < (a ++ k :: b).length := by rw [List.length_map] at hln; omega
    obtain ⟨u, eu, ru⟩ := rv.get (i := j) (x := V.str (txt (a ++ k :: b)[j])) (by rw [List.getElem?_map, List.getElem?_eq_getElem hj']; rfl)
    refine ⟨(a ++ k :: b)[j], List.getElem?_eq_getElem hj', ?_⟩
    have : its[j] = u := by rw [List.getElem?_eq_getElem hj] at eu; exact Option.some.inj eu
    rw [this, eqU_of ru rfl, eq_text]
    exact decide_eq_decide.mpr ⟨fun z => txt_inj z, fun z => by rw [z]⟩
  have ll : a.length < its.length := by rw [List.length_map, List.length_append, List.length_cons] at hln; omega
  refine call_meets F.slot_list_index ⟨_, ho, rfl⟩ F.entry_list_index (F.args_list_index_2 _ _) (SeqAt.list_indexAt l its.toArray n none _ (.str (txt k) t) (eqU (.str (txt k))) a.length (by simpa using ll) (by omega) ?_ fun m hm hlt => ?_) ⟨ho, fun y hy => mem_eqAt ru' rfl rv (flat_txts _) y (by simpa using hy), ?_⟩
  · obtain ⟨w, ew, e⟩ := at' a.length ll
    have : w = k := by simpa using ew.symm
    show eqU _ its[a.length] = true
    rw [e, decide_eq_true this]
  · obtain ⟨w, ew, e⟩ := at' m (by simpa using hm)
    rw [List.getElem?_append_left hlt] at ew
    have : w ≠ k := fun z => na (z ▸ List.mem_of_getElem? ew)
    show eqU _ its[m] = false
    rw [e, decide_eq_false this]
  · exact (show EP X pins σ Q _ _ from ⟨.int _, H, I.tok _, ⟨_, rfl⟩, q⟩)
/-! ### a text of one field -/
end
end InkU

namespace InkU
open PySem PySem.Spec PyProof.Rows L2 InkX InkE Ink InkY PySem.Builtin PySem.Builtin.Str
/-! ### texts put together without a sign between -/
theorem join0 : ∀ ps : List (List Nat), Str.join (Str.ofString "") (ps.map txt) = txt ps.flatten
  | [] => rfl
  | [x] => by
    show txt x = txt ([x] : List (List Nat)).flatten
    simp
  | x :: y :: r => by
    show txt x ++ Str.ofString "" ++ Str.join (Str.ofString "") ((y :: r).map txt) = _
    rw [join0 (y :: r), show Str.ofString "" = txt [] by decide +kernel, txt_app, txt_app]
    simp
theorem mt_joinE {X : Cx} : MtM X "str.join" (fun x xs H Q => ∃ (l : Addr) (ps : List (List Nat)), x = .str (Str.ofString "") ∧ xs = [.ref l] ∧ H l = some (.lst (ps.map fun w => V.str (txt w))) ∧ (ps.map List.length).sum + ps.length ≤ 1000000 ∧ Q (.str (txt ps.flatten)) H) := by
  intro pins s σ H x xs v us Q I rx rs h
  obtain ⟨l, ps, rfl, rfl, hl, hz, q⟩ := h
  obtain ⟨t, rfl⟩ := rx
  obtain ⟨u, rfl, ru⟩ := rs.one
  cases (show u = Value.ref l from ru)
  obtain ⟨its, rv, pl, _⟩ := I.list (SqL.of (K := X.K) hl)
  have rv' : Vals ((ps.map txt).map V.str) its := by rw [List.map_map]; exact rv
  refine join_list pl.isList (strs_vals rv') ?_ fun t' k => ?_
  · rw [List.map_map, List.length_map]
    have e1 : (Str.ofString "").length = 0 := by decide +kernel
    have e2 : ps.map ((fun x : Str => x.length) ∘ txt) = ps.map List.length := List.map_congr_left fun p _ => txt_len p
    rw [e1, e2]
    have : (1000000 : Nat) ≤ sizeLine := by decide
    omega
  · have e : Txt.join (Str.ofString "") (ps.map txt) = txt ps.flatten := by
      show glued _ _ = _
      rw [StrLaws.glued_eq_join, join0]
    rw [e]
    exact ⟨.str (txt ps.flatten), H, I.tok _, ⟨t', rfl⟩, q⟩
end InkU

namespace InkU
open PySem PySem.Spec PyProof.Rows L2 InkX PySem.Builtin PySem.Builtin.Str Ink
section
variable {X : Cx}
/-! ### where a sign first stands -/
theorem mt_findT : MtM X "str.find" (fun x xs H Q => ∃ (cs : List Nat) (c : Nat), x = .str (txt cs) ∧ xs = [.str ⟨#[c]⟩] ∧ ∀ z : Int, -1 ≤ z → (c ∉ cs → z = -1) → (∀ a b, cs = a ++ c :: b → c ∉ a → z = a.length) → Q (.int z) H) := by
  intro pins s σ H x xs v us Q I rx rs h
  obtain ⟨cs, c, rfl, rfl, q⟩ := h
  obtain ⟨t, rfl⟩ := rx
  obtain ⟨u, rfl, ru⟩ := rs.one
  obtain ⟨t', rfl⟩ := ru
  refine call_gives F.slot_str_find (typeIs_str _ _ _) F.entry_str_find (F.args_str_find_2 _ _) (gives_str_find _ _ t t') ⟨.int _, H, I.tok _, ⟨_, rfl⟩, q _ ?_ ?_ ?_⟩
  · split
    · omega
    · exact Int.le_refl _
  · intro n
    rcases StrLaws.occ_head (txt cs) ⟨#[c]⟩ 1 (Nat.le_refl 1) with ⟨e, g⟩ | ⟨i, r, e, g, f⟩
    · rw [e]
    · exact absurd (List.mem_of_getElem? ((InkY.at_iff _ c i).mp g)) n
  · rintro a b rfl na
    obtain ⟨r, e⟩ := InkY.index_at (b := b) na
    rw [e]
/-! ### a display of texts and numbers -/
abbrev TI := (Str × Nat × Pos) × (Int × Nat × Pos)
def kE (q : TI) : Option Expr := some (.Constant (.str q.1.1) q.1.2.1 q.1.2.2)
def vE (q : TI) : Expr := .Constant (.int q.2.1) q.2.2.1 q.2.2.2
abbrev tiK (q : TI) : Key × V := (.inr q.1.1, .int q.2.1)
theorem pps_ti {pos : Pos} : ∀ l : List TI, PPs X pos (l.map kE) (l.map vE) (l.map fun q => (tC (.str q.1.1), tC (.int q.2.1)))
  | [] => pps_nil
  | q :: r => pps_cons (ks := r.map kE) (vs := r.map vE) pe_str pe_int (pps_ti r)
theorem pairs_ti : ∀ (l : List TI) {σ : L2.St} {H : Hp} {Q : List (V × V) → Hp → Prop}, Q (l.map fun q => (V.str q.1.1, V.int q.2.1)) H → tPairs (l.map fun q => (tC (.str q.1.1), tC (.int q.2.1))) σ H Q
  | [], _, _, _, h => h
  | q :: r, σ, H, Q, h => pairs_ti r (Q := fun ps H3 => Q ((V.str q.1.1, V.int q.2.1) :: ps) H3) h
def tDC (kvs : List (Key × V)) : TE := fun _ H Q => ∀ p, H p = none → Q (.ref p) (upd H p (.dK kvs))
theorem pe_ti {pos : Pos} (l : List TI) (h0 : l ≠ []) (h15 : l.length ≤ 15) : PE X (.Dict (l.map kE) (l.map vE) pos) (tDC (mergeK [] (l.map tiK))) := by
  intro pins s σ H Q I q
  refine pe_disp (pps_ti l) ?_ (by rw [List.length_map, List.length_map]) (fun z => h0 (List.map_eq_nil_iff.mp z)) (by rw [List.length_map]; exact h15) pins s σ H Q I ?_
  · rw [List.all_map, List.all_eq_true]
    intro x _
    rfl
  · intro p hp
    refine pairs_ti l ⟨upd_same, l.map tiK, ?_, by rw [List.length_map]; exact h15, ?_⟩
    · rw [List.map_map]
      rfl
    · rw [upd_upd]
      exact q p hp
/-! ### twelve written texts -/
end
end InkU

set_option Elab.async false
set_option linter.all false
set_option maxRecDepth 100000
namespace Ink
open PySem L2 InkX InkE InkF InkP
def top (i : Nat) : Stmt := PySem.Challenge.pw_inkroot_k33_lines_read.main.body.getD i (.Pass ⟨0, 0, 0, 0⟩)
structure Nms (mg : Str → Option Value) : Prop where
  n_len : mg "len" = none
  n_list : mg "list" = none
  n_tuple : mg "tuple" = none
  n_int : mg "int" = none
  n_bool : mg "bool" = none
  n_str : mg "str" = none
  n_range : mg "range" = none
  n_zip : mg "zip" = none
  n_isinstance : mg "isinstance" = none
  n_all : mg "all" = none
section
variable {P : Program} {w : World} {K : PySem.W.Frag} {mg : Str → Option Value} {base : Heap}

abbrev s_law_src : Stmt := top 17
theorem sc_law_src : FnScope ["_law_script"] ["_law_script"] (defScope s_law_src) := ⟨rfl, rfl, rfl, by decide +kernel, rfl, by decide +kernel, by decide +kernel⟩
theorem ok_law_src {f : Addr} {fd : FuncData} (F : Fun K "_law_src" "_law_src" s_law_src f fd) (T : Nms mg) : FnOk P w K mg base CX0 1 f fd ["_law_script"] (spSrc K) := by
  refine F.ok sc_law_src (fun vs H Q E h => ?_) (fun cdv A outer s H vs Q E hr h => ?_)
  · obtain ⟨a, ns, rfl, _⟩ := h
    rfl
  obtain ⟨a, ns, rfl, hS, k⟩ := h
  refine ⟨_, (pss_one (ps_ret (pe_lst (pa_cons (pe_callTy call_list_of rfl T.n_list PyProof.Rows.boot_list (pa_cons (pe_slice sl_list (pv 0) po_none (po_some pe_int)) pa_nil)) (pa_cons pe_int (pa_cons pe_int (pa_cons pe_int pa_nil))))))), ?_⟩
  refine ⟨_, rfl, _, rfl, a, _, rfl, hS, fun p hp => ?_⟩
  refine ⟨p, _, rfl, .inl (SqL.of upd_same), fun c hc => ?_⟩
  refine ⟨(by show 4 ≤ sizeLine; decide), fun l hl => ?_⟩
  obtain ⟨ms, em⟩ := cut_ints ns none (some 63)
  have ncl : c ≠ l := ne_of_none (H := upd (upd H p _) c _) upd_same hl
  have s1 : Same H (upd H p (.lst (cutV (ns.map V.int) none (some 63)))) := same_new hp _
  have s2 := s1.trans (same_new hc (.lst (cutV (ns.map V.int) none (some 63))))
  refine k l c _ ⟨ncl, ms, 0, 0, 1, upd_same, ?_, by decide, by decide, by decide⟩ (s2.trans (same_new hl _)) (s2.free hl) (s1.free hc)
  rw [upd_ne ncl, upd_same, em]

abbrev s_law_next : Stmt := top 18
theorem sc_law_next : FnScope ["_law_src_here", "_law_base", "_law_cell", "_law_digit"] ["_law_src_here", "_law_base"] (defScope s_law_next) := ⟨rfl, rfl, rfl, by decide +kernel, rfl, by decide +kernel, by decide +kernel⟩
theorem ok_law_next {f : Addr} {fd : FuncData} (F : Fun K "_law_next" "_law_next" s_law_next f fd) (T : Nms mg) : FnOk P w K mg base CX0 1 f fd ["_law_src_here", "_law_base"] spNext := by
  refine F.ok sc_law_next (fun vs H Q E h => ?_) (fun cdv A outer s H vs Q E hr h => ?_)
  · obtain ⟨l, c, b, rfl, _⟩ := h
    rfl
  obtain ⟨l, c, b, rfl, S, hb0, hb1, k⟩ := h
  refine ⟨_, (pss_cons (ps_imp (t' := nextT1) (ps_if (pt_cmpR op_le (pe_ix ix_list (pv 0) pe_int (fun _ _ => rfl)) pe_int (nomark _))
      (pss_cons (ps_set (i := 2) sc_law_next.nd rfl (Or.inl rfl) pe_int)
      (pss_cons (ps_imp (t' := nextT2) (ps_if (pt_cmpR op_lt (pe_ix ix_list (pv 0) pe_int (fun _ _ => rfl)) (pe_callB call_len_seq rfl T.n_len PySem.boot_len (pa_cons (pe_ix ix_list (pv 0) pe_int (fun _ _ => rfl)) pa_nil)) (nomark _))
      (pss_cons (ps_set (i := 2) sc_law_next.nd rfl (Or.inl rfl) (pe_ix ix_list (pe_ix ix_list (pv 0) pe_int (fun _ _ => rfl)) (pe_ix ix_list (pv 0) pe_int (fun _ _ => rfl)) (fun _ _ => rfl)))
      (pss_one (ps_asg (pe_op op_add (pe_ix ix_list (pv 0) pe_int (fun _ _ => rfl)) pe_int) (pg_sub (pv 0) pe_int set_list))))
      pss_nil) ?b2)
      (pss_cons (ps_asg (pe_op op_mod (pe_op op_add (pe_op op_add (pe_op op_mul (pe_ix ix_list (pv 0) pe_int (fun _ _ => rfl)) pe_int) (pe_op op_mod (pv 2) pe_int)) pe_int) pe_int) (pg_sub (pv 0) pe_int set_list))
      (pss_one (ps_if (pt_cmpR op_ge (pv 2) (pe_op op_pow pe_int pe_int) (nomark _))
      (pss_one (ps_asg (pv 2) (pg_sub (pv 0) pe_int set_list)))
      pss_nil)))))
      pss_nil) ?b1)
      (pss_cons (ps_if (pt_cmpR op_gt (pe_ix ix_list (pv 0) pe_int (fun _ _ => rfl)) pe_int (nomark _))
      (pss_cons (ps_set (i := 3) sc_law_next.nd rfl (Or.inl rfl) (pe_op op_mod (pe_ix ix_list (pv 0) pe_int (fun _ _ => rfl)) (pv 1)))
      (pss_cons (ps_asg (pe_op op_fdivB (pe_ix ix_list (pv 0) pe_int (fun _ _ => rfl)) (pv 1)) (pg_sub (pv 0) pe_int set_list))
      (pss_one (ps_ret (pv 3)))))
      pss_nil)
      (pss_one (ps_ret (pe_op op_mod (pe_op op_fdivB (pe_op op_mod (pe_op op_mul (pe_ix ix_list (pv 0) pe_int (fun _ _ => rfl)) pe_int) pe_int) pe_int) (pv 1)))))), ?_⟩
  case b2 =>
    rintro D σ H ⟨l, c, b, rfl, ⟨ncl, ns, i, d, r, hl, hc, hi, hr0, hr1⟩, k⟩
    refine ⟨_, rfl, l, _, _, _, rfl, rfl, SqL.of hl, at41, _, rfl, l, _, _, _, rfl, rfl, SqL.of hl, at40, c, _, rfl, .inl (SqL.of hc), _, _, rfl, rfl, _, rfl, ?_⟩
    refine ite2 (fun c2 => ?_) (fun c2 => ?_)
    · have c3 : i < (ns.length : Int) := by
        have z := of_decide_eq_true c2
        rwa [List.length_map] at z
      obtain ⟨v, hv⟩ := at_ints hi c3
      refine ⟨_, rfl, l, _, _, _, rfl, rfl, SqL.of hl, at40, _, rfl, l, _, _, _, rfl, rfl, SqL.of hl, at41, c, _, _, _, rfl, rfl, SqL.of hc, hv, ?_⟩
      refine ⟨_, rfl, l, _, _, _, rfl, rfl, SqL.of hl, at41, _, _, rfl, rfl, _, rfl, l, _, _, 1, rfl, rfl, hl, rfl, ?_⟩
      exact k v _ ⟨ncl, ns, i + 1, d, r, upd_same, by rw [upd_ne ncl]; exact hc, by omega, hr0, hr1⟩ fun a ha => upd_ne ha
    · exact k 7 H ⟨ncl, ns, i, d, r, hl, hc, hi, hr0, hr1⟩ fun a _ => rfl
  case b1 =>
    rintro D σ H ⟨l, c, b, rfl, S, k⟩
    obtain ⟨ncl, ns, i, d, r, hl, hc, hi, hr0, hr1⟩ := id S
    refine ⟨_, rfl, l, _, _, _, rfl, rfl, SqL.of hl, at42, _, _, rfl, rfl, _, rfl, ?_⟩
    refine ite2 (fun c1 => ?_) (fun c1 => ?_)
    · refine ⟨l, c, b, rfl, S, fun cell H1 S1 k1 => ?_⟩
      obtain ⟨_, ns1, i1, d1, r1, hl1, hc1, hi1, hr2, hr3⟩ := id S1
      refine ⟨_, rfl, l, _, _, _, rfl, rfl, SqL.of hl1, at43, _, _, rfl, rfl, .inl ⟨by omega, by omega⟩, _, rfl, _, _, rfl, rfl, (by show (0 : Int) < 998244353; decide), _, _, rfl, rfl, _, _, rfl, rfl, _, _, rfl, rfl, (by show (0 : Int) < 2147483647; decide), _, rfl, l, _, _, 3, rfl, rfl, hl1, rfl, ?_⟩
      refine ⟨_, rfl, _, _, rfl, rfl, ⟨by decide, by decide, by decide⟩, _, _, rfl, rfl, _, rfl, ?_⟩
      have b0 : 0 ≤ (r1 * 48271 + cell % 998244353 + 1) % 2147483647 := Int.emod_nonneg _ (by decide)
      have b1 : (r1 * 48271 + cell % 998244353 + 1) % 2147483647 < 2147483647 := Int.emod_lt_of_pos _ (by decide)
      refine ite2 (fun c2 => ?_) (fun c2 => ?_)
      · refine ⟨_, rfl, _, rfl, l, _, _, 2, rfl, rfl, upd_same, rfl, ?_⟩
        refine k _ _ ⟨ncl, ns1, i1, cell, _, upd_same, ?_, hi1, b0, b1⟩ fun a ha => ?_
        · rw [upd_ne ncl, upd_ne ncl]; exact hc1
        · rw [upd_ne ha, upd_ne ha]; exact k1 a ha
      · refine k _ _ ⟨ncl, ns1, i1, d1, _, upd_same, ?_, hi1, b0, b1⟩ fun a ha => ?_
        · rw [upd_ne ncl]; exact hc1
        · rw [upd_ne ha]; exact k1 a ha
    · exact k none H S fun a _ => rfl
  refine ⟨l, c, b, rfl, S, fun cell H1 S1 k1 => ?_⟩
  obtain ⟨ncl, ns, i, d, r, hl, hc, hi, hr0, hr1⟩ := S1
  refine ⟨_, rfl, l, _, _, _, rfl, rfl, SqL.of hl, at42, _, _, rfl, rfl, _, rfl, ?_⟩
  refine ite2 (fun c1 => ?_) (fun c1 => ?_)
  · refine ⟨_, rfl, l, _, _, _, rfl, rfl, SqL.of hl, at42, _, rfl, _, _, rfl, rfl, hb0, ?_⟩
    refine ⟨_, rfl, l, _, _, _, rfl, rfl, SqL.of hl, at42, _, rfl, _, _, rfl, rfl, ⟨hb0, hb1⟩, _, rfl, l, _, _, 2, rfl, rfl, hl, rfl, ?_⟩
    refine ⟨_, rfl, ?_⟩
    refine k (d % b) _ (Int.emod_nonneg _ (by omega)) (Int.emod_lt_of_pos _ hb0) ⟨ncl, ns, i, d / b, r, upd_same, ?_, hi, hr0, hr1⟩ fun a ha => ?_
    · rw [upd_ne ncl]; exact hc
    · rw [upd_ne ha]; exact k1 a ha
  · refine ⟨_, rfl, l, _, _, _, rfl, rfl, SqL.of hl, at43, _, _, rfl, rfl, .inl ⟨by omega, by omega⟩, _, _, rfl, rfl, (by show (0 : Int) < 2147483399; decide), _, _, rfl, rfl, ⟨by decide, by decide⟩, _, rfl, _, _, rfl, rfl, hb0, ?_⟩
    exact k _ _ (Int.emod_nonneg _ (by omega)) (Int.emod_lt_of_pos _ hb0) ⟨ncl, ns, i, d, r, hl, hc, hi, hr0, hr1⟩ k1

abbrev s_law_whole : Stmt := top 19
abbrev s_law_same : Stmt := top 20
theorem sc_law_whole : FnScope ["_law_found"] ["_law_found"] (defScope s_law_whole) := ⟨rfl, rfl, rfl, by decide +kernel, rfl, by decide +kernel, by decide +kernel⟩
theorem sc_law_same : FnScope ["_law_found", "_law_due_here", "_law_one", "_law_other"] ["_law_found", "_law_due_here"] (defScope s_law_same) := ⟨rfl, rfl, rfl, by decide +kernel, rfl, by decide +kernel, by decide +kernel⟩
theorem ok_law_whole {f : Addr} {fd : FuncData} (F : Fun K "_law_whole" "_law_whole" s_law_whole f fd) (T : Nms mg) : FnOk P w K mg base CX0 1 f fd ["_law_found"] spWhole := by
  refine F.ok sc_law_whole (fun vs H Q E h => ?_) (fun cdv A outer s H vs Q E hr h => ?_)
  · obtain ⟨i, rfl, _⟩ := h
    rfl
  obtain ⟨i, rfl, k⟩ := h
  refine ⟨_, (pss_one (ps_ret (pe_and (pe_callB call_isinst rfl T.n_isinstance PyProof.Rows.boot_isinstance (pa_cons (pv 0) (pa_cons (pe_ty rfl T.n_int PyProof.Rows.boot_int) pa_nil))) (pe_one (pe_not (pe_callB call_isinst rfl T.n_isinstance PyProof.Rows.boot_isinstance (pa_cons (pv 0) (pa_cons (pe_ty rfl T.n_bool PyProof.Rows.boot_bool) pa_nil)))))))), ?_⟩
  exact ⟨_, rfl, _, _, _, _, rfl, TyOf.int i, k_ii K, _, rfl, iteT ⟨_, rfl, _, _, _, _, rfl, TyOf.int i, k_ib K, _, rfl, k⟩⟩
theorem step_law_same {f fW : Addr} {fd fdW : FuncData} {n : Nat} (T : Nms mg) (d_law_whole : DefAt K mg "_law_whole" s_law_whole ["_law_found"] fW fdW) (g_law_whole : FnOk P w K mg base CX0 1 fW fdW ["_law_found"] spWhole)
    (d_law_same : DefAt K mg "_law_same" s_law_same ["_law_found", "_law_due_here"] f fd) (g_law_same : FnOk P w K mg base CX0 (n + 1) f fd ["_law_found", "_law_due_here"] (spSame n)) : FnOk P w K mg base CX0 (n + 2) f fd ["_law_found", "_law_due_here"] (spSame (n + 1)) := by
  refine d_law_same.F.ok sc_law_same (fun vs H Q E h => ?_) (fun cdv A outer s H vs Q E hr h => ?_)
  · obtain ⟨x, y, rfl, _⟩ := h
    rfl
  obtain ⟨x, y, rfl, h, k⟩ := h
  refine ⟨_, (pss_cons (ps_if (pt_cmp (pc_isN (pv 1)))
      (pss_one (ps_ret (pe_cmp (pc_isN (pv 0)))))
      pss_nil)
      (pss_cons (ps_if (pt_val (pe_callB call_isinst rfl T.n_isinstance PyProof.Rows.boot_isinstance (pa_cons (pv 1) (pa_cons (pe_ty rfl T.n_bool PyProof.Rows.boot_bool) pa_nil))))
      (pss_one (ps_ret (pe_and (pe_callB call_isinst rfl T.n_isinstance PyProof.Rows.boot_isinstance (pa_cons (pv 0) (pa_cons (pe_ty rfl T.n_bool PyProof.Rows.boot_bool) pa_nil))) (pe_one (pe_cmpR op_eq (pv 0) (pv 1) (nomark _))))))
      pss_nil)
      (pss_cons (ps_if (pt_val (pe_callB call_isinst rfl T.n_isinstance PyProof.Rows.boot_isinstance (pa_cons (pv 1) (pa_cons (pe_ty rfl T.n_int PyProof.Rows.boot_int) pa_nil))))
      (pss_one (ps_ret (pe_and (pe_def d_law_whole g_law_whole hr (pa_cons (pv 0) pa_nil)) (pe_one (pe_cmpR op_eq (pv 0) (pv 1) (nomark _))))))
      pss_nil)
      (pss_cons (ps_if (pt_val (pe_callB call_isinst rfl T.n_isinstance PyProof.Rows.boot_isinstance (pa_cons (pv 1) (pa_cons (pe_ty rfl T.n_str PyProof.Rows.boot_str) pa_nil))))
      (pss_one (ps_ret (pe_and (pe_callB call_isinst rfl T.n_isinstance PyProof.Rows.boot_isinstance (pa_cons (pv 0) (pa_cons (pe_ty rfl T.n_str PyProof.Rows.boot_str) pa_nil))) (pe_one (pe_cmpR op_eq (pv 0) (pv 1) (nomark _))))))
      pss_nil)
      (pss_cons (ps_if (PW.pt (pw_or (pt_cmpR op_ne (pe_callB call_isinst rfl T.n_isinstance PyProof.Rows.boot_isinstance (pa_cons (pv 1) (pa_cons (pe_ty rfl T.n_list PyProof.Rows.boot_list) pa_nil))) (pe_callB call_isinst rfl T.n_isinstance PyProof.Rows.boot_isinstance (pa_cons (pv 0) (pa_cons (pe_ty rfl T.n_list PyProof.Rows.boot_list) pa_nil))) (nomark _)) (pw_or1 (pt_cmpR op_ne (pe_callB call_isinst rfl T.n_isinstance PyProof.Rows.boot_isinstance (pa_cons (pv 1) (pa_cons (pe_ty rfl T.n_tuple PyProof.Rows.boot_tuple) pa_nil))) (pe_callB call_isinst rfl T.n_isinstance PyProof.Rows.boot_isinstance (pa_cons (pv 0) (pa_cons (pe_ty rfl T.n_tuple PyProof.Rows.boot_tuple) pa_nil))) (nomark _)))))
      (pss_one (ps_ret pe_bl))
      pss_nil)
      (pss_cons (ps_if (pt_cmpR op_ne (pe_callB call_len_seq rfl T.n_len PySem.boot_len (pa_cons (pv 0) pa_nil)) (pe_callB call_len_seq rfl T.n_len PySem.boot_len (pa_cons (pv 1) pa_nil)) (nomark _))
      (pss_one (ps_ret pe_bl))
      pss_nil)
      (pss_cons (ps_for PassesOwn.never rfl (pi_zip rfl T.n_zip (pa_cons (pv 0) (pa_cons (pv 1) pa_nil))) (pg_tup (n := 2) rfl (pgs_cons (pg_name (i := 2) sc_law_same.nd rfl (Or.inl rfl)) (pgs_cons (pg_name (i := 3) sc_law_same.nd rfl (Or.inl rfl)) pgs_nil)))
      (pss_one (ps_if (pt_not (pt_val (pe_def d_law_same g_law_same hr (pa_cons (pv 2) (pa_cons (pv 3) pa_nil)))))
      (pss_one (ps_ret pe_bl))
      pss_nil)))
      (pss_one (ps_ret pe_bl))))))))), ?_⟩
  have kk := k H (Same.refl H)
  rcases h with ⟨hf, rfl⟩ | ⟨kd, a, b, xs, ys, rfl, rfl, h1, h2, hl, hi⟩
  · cases x with
    | non =>
      refine ⟨_, rfl, _, rfl, ite2 (fun _ => ?_) (fun c => absurd (decide_eq_true rfl) c)⟩
      exact ⟨_, rfl, tt rfl kk⟩
    | bl v =>
      refine ⟨_, rfl, _, rfl, ite2 (fun c => absurd (of_decide_eq_true c) (fun z => nomatch z)) (fun _ => ?_)⟩
      refine ⟨_, rfl, _, _, _, _, rfl, TyOf.bl v, k_bb K, _, rfl, iteT ?_⟩
      exact ⟨_, rfl, _, _, _, _, rfl, TyOf.bl v, k_bb K, _, rfl, iteT ⟨_, rfl, _, rfl, rfl, tt rfl kk⟩⟩
    | int i =>
      refine ⟨_, rfl, _, rfl, ite2 (fun c => absurd (of_decide_eq_true c) (fun z => nomatch z)) (fun _ => ?_)⟩
      refine ⟨_, rfl, _, _, _, _, rfl, TyOf.int i, k_ib K, _, rfl, iteF ?_⟩
      refine ⟨_, rfl, _, _, _, _, rfl, TyOf.int i, k_ii K, _, rfl, iteT ?_⟩
      exact ⟨_, rfl, i, rfl, _, rfl, iteT ⟨_, rfl, _, rfl, rfl, tt rfl kk⟩⟩
    | str v =>
      refine ⟨_, rfl, _, rfl, ite2 (fun c => absurd (of_decide_eq_true c) (fun z => nomatch z)) (fun _ => ?_)⟩
      refine ⟨_, rfl, _, _, _, _, rfl, TyOf.str v, k_sb K, _, rfl, iteF ?_⟩
      refine ⟨_, rfl, _, _, _, _, rfl, TyOf.str v, k_si K, _, rfl, iteF ?_⟩
      refine ⟨_, rfl, _, _, _, _, rfl, TyOf.str v, k_ss K, _, rfl, iteT ?_⟩
      exact ⟨_, rfl, _, _, _, _, rfl, TyOf.str v, k_ss K, _, rfl, iteT ⟨_, rfl, _, rfl, rfl, tt rfl kk⟩⟩
    | _ => cases hf
  · refine ⟨_, rfl, _, rfl, ite2 (fun c => absurd (of_decide_eq_true c) (fun z => nomatch z)) (fun _ => ?_)⟩
    refine ⟨_, rfl, _, _, _, _, rfl, h2.ty, k_qb K kd, _, rfl, iteF ?_⟩
    refine ⟨_, rfl, _, _, _, _, rfl, h2.ty, k_qi K kd, _, rfl, iteF ?_⟩
    refine ⟨_, rfl, _, _, _, _, rfl, h2.ty, k_qs K kd, _, rfl, iteF ?_⟩
    refine ⟨_, rfl, _, _, _, _, rfl, h2.ty, k_ql K kd, _, rfl, _, _, _, _, rfl, h1.ty, k_ql K kd, rfl, _, rfl, iteNS rfl ?_⟩
    refine ⟨_, rfl, _, _, _, _, rfl, h2.ty, k_qt K kd, _, rfl, _, _, _, _, rfl, h1.ty, k_qt K kd, rfl, _, rfl, iteNS rfl ?_⟩
    refine ⟨_, rfl, a, _, rfl, h1.or, _, rfl, b, _, rfl, h2.or, rfl, _, rfl, iteNS (by rw [hl]) ?_⟩
    refine ⟨_, rfl, _, rfl, kd, a, b, xs, ys, rfl, h1.sq, h2.sq, for_zip (fun i σ H2 => ∃ u v, σ = [some (.ref a), some (.ref b), u, v] ∧ Same H H2) hl ⟨none, none, rfl, Same.refl H⟩ (fun i σ H2 _ ⟨_, _, _, s⟩ => ⟨(h1.same s).sq, (h2.same s).sq⟩) ?_ ?_⟩
    · rintro i u v p σ H2 eu ev hp ⟨_, _, rfl, s⟩
      refine ⟨p, _, rfl, SqT.of upd_same, rfl, u, [v], rfl, v, [], rfl, rfl, ?_⟩
      have s2 := s.trans (same_new hp (.tup [u, v]))
      refine ⟨_, rfl, _, rfl, u, v, rfl, Eqv.same s2 (hi i u v eu ev), fun H4 s4 => ⟨_, rfl, iteF ?_⟩⟩
      exact ⟨_, _, rfl, s2.trans s4⟩
    · rintro σ H2 ⟨_, _, rfl, s⟩
      exact k H2 s
theorem ok_law_same {f fW : Addr} {fd fdW : FuncData} (T : Nms mg) (d_law_whole : DefAt K mg "_law_whole" s_law_whole ["_law_found"] fW fdW) (d_law_same : DefAt K mg "_law_same" s_law_same ["_law_found", "_law_due_here"] f fd) : ∀ n : Nat, FnOk P w K mg base CX0 (n + 1) f fd ["_law_found", "_law_due_here"] (spSame n)
  | 0 => by
    have no : ∀ vs H Q E, ¬ spSame 0 vs H Q E := fun vs H Q E h => by
      obtain ⟨x, y, _, h, _⟩ := h
      exact h
    exact ⟨fun vs H Q E h => absurd h (no vs H Q E), fun A outer s H args us vs Q E _ _ _ _ h => absurd h (no vs H Q E)⟩
  | n + 1 => step_law_same T d_law_whole (ok_law_whole d_law_whole.F T) d_law_same (ok_law_same T d_law_whole d_law_same n)

open InkY in
structure Gbs (mg : Str → Option Value) : Prop where
  f : ∃ t, mg "FIGURES" = some (.str (txt figs) t)
  m : ∃ t, mg "MOST_FIGURES" = some (.int 60 t)
def spIsNum : Sp := fun vs H Q _ => ∃ cs : List Nat, vs = [.str (txt cs)] ∧ cs.length ≤ 100000 ∧ ∀ H', Same H H' → Q (.bl (InkY.isNum cs)) H'
def inT : TS := fun D σ H => ∃ cs : List Nat, σ = [some (.str (txt cs))] ∧ cs.length ≤ 100000 ∧ ∀ H', Same H H' → D.rt (.bl (cs.all fun c => decide (48 ≤ c ∧ c ≤ 57))) H'
abbrev sis_number : Stmt := top 8
theorem scis_number : FnScope ["word"] ["word"] (defScope sis_number) := ⟨rfl, rfl, rfl, by decide +kernel, rfl, by decide +kernel, by decide +kernel⟩
theorem sgV_inj {a b : Nat} (h : sgV a = sgV b) : a = b := by
  have := V.str.inj h
  have e : (#[a] : Array Nat) = #[b] := congrArg Str.cps this
  simpa using e
theorem ok_is_number {f : Addr} {fd : FuncData} (F : Fun K "is_number" "is_number" sis_number f fd) (T : Nms mg) (G : Gbs mg) : FnOk P w K mg base CX0 1 f fd ["word"] spIsNum := by
  obtain ⟨tFIGURES, hFIGURES⟩ := G.f
  obtain ⟨tMOST_FIGURES, hMOST_FIGURES⟩ := G.m
  refine F.ok scis_number (fun vs H Q E h => ?_) (fun cdv A outer s H vs Q E hr h => ?_)
  · obtain ⟨cs, rfl, _⟩ := h
    rfl
  obtain ⟨cs, rfl, lc, k⟩ := h
  refine ⟨_, (pss_cons (ps_if (pt_not (pt_chain op_le op_le pe_int (pe_callB call_len_str rfl T.n_len PySem.boot_len (pa_cons (pv 0) pa_nil)) (pe_glob (v := .int 60) rfl hMOST_FIGURES ⟨tMOST_FIGURES, rfl⟩)))
      (pss_one (ps_ret pe_bl))
      pss_nil)
      (pss_cons (ps_if (PW.pt (pw_and (pt_cmpR op_eq (pe_ix ix_str (pv 0) pe_int (fun _ _ => rfl)) pe_str (nomark _)) (pw_and1 (pt_cmpR op_ne (pv 0) pe_str (nomark _)))))
      (pss_one (ps_ret pe_bl))
      pss_nil)
      (pss_one (ps_imp (t' := inT) (ps_ret (pe_callB (call_allB rfl) rfl T.n_all PyProof.Rows.boot_all (pa_cons (pe_compG (N := ["sign"]) (compG (sc := defScope sis_number) (NX := ["word"]) (jx := [none]) rfl rfl rfl (by decide +kernel) (by decide +kernel) rfl (by decide +kernel) rfl (by decide +kernel)) rfl (pi_str (pv 0)) (fun _ _ _ _ _ _ => (pg_name (i := 0) (show List.Nodup (["sign"] : List Str) by decide +kernel) rfl (Or.inl rfl))) (fun _ _ _ _ _ _ => pts_nil) (fun _ _ _ _ _ _ => (pe_cmpR op_in_str (pv 0) (pe_glob (v := .str (txt InkY.figs)) rfl hFIGURES ⟨tFIGURES, rfl⟩) rfl))) pa_nil))) ?b1)))), ?_⟩
  case b1 =>
    rintro D σ H ⟨cs, rfl, lc, k⟩
    refine ⟨_, rfl, cs, rfl, fun acc hacc => compF_str (fun i σ H2 => ∃ u : Option V, σ = [u] ∧ H2 acc = some (.lst (((cs.take i).map fun c => decide (48 ≤ c ∧ c ≤ 57)).map V.bl)) ∧ Same H H2) ⟨none, rfl, upd_same, same_new hacc _⟩ ?_ ?_⟩
    · rintro i c σ H2 hi ⟨u, rfl, h2, s2⟩
      have il := (List.getElem?_eq_some_iff.mp hi).1
      have st := take_snoc hi
      refine ⟨_, rfl, _, _, rfl, rfl, _, h2, ?_, _, rfl, ?_, keep_of hacc s2 (keep_upd acc _ _)⟩
      · rw [List.length_map, List.length_map, List.length_take]
        exact million (by omega)
      · rw [upd_same, st, List.map_append, List.map_append, InkY.in_sign, decide_eq_decide.mpr (InkY.mem_figs c)]
        rfl
    · rintro σ H2 ⟨u, rfl, h2, s2⟩
      rw [List.take_length] at h2
      refine ⟨acc, _, rfl, SqL.of h2, ?_⟩
      rw [List.all_map]
      exact k H2 s2
  have zl : (txt cs).length ≤ sizeLine := by rw [txt_len]; exact Nat.le_trans lc (by decide)
  have tl := txt_len cs
  have falls : ∀ b : Bool, InkY.isNum cs = b → ∀ H', Same H H' → Q (.bl b) H' := fun b e H' s' => e ▸ k H' s'
  have s0 : txt [48] = Str.ofString "0" := by decide +kernel
  refine ⟨_, rfl, _, rfl, zl, _, _, rfl, rfl, _, rfl, ?_⟩
  by_cases h1 : 1 ≤ cs.length
  · rw [if_pos (decide_eq_true (show (1 : Int) ≤ (txt cs).length by omega))]
    refine ⟨_, _, rfl, rfl, _, rfl, ?_⟩
    by_cases h2 : cs.length ≤ 60
    · rw [decide_eq_true (show ((txt cs).length : Int) ≤ 60 by omega)]
      refine iteF ?_
      obtain ⟨c, r, rfl⟩ : ∃ c r, cs = c :: r := by
        cases cs with
        | nil => exact absurd h1 (by decide)
        | cons c r => exact ⟨c, r, rfl⟩
      have e0 : decide (V.str ⟨#[c]⟩ = V.str (Str.ofString "0")) = decide (c = 48) := by
        rw [← s0]
        refine decide_eq_decide.mpr ⟨fun z => ?_, fun z => by rw [z]; rfl⟩
        exact sgV_inj (b := 48) z
      have e1 : decide (V.str (txt (c :: r)) = V.str (Str.ofString "0")) = decide (c :: r = [48]) := by
        rw [← s0]
        exact decide_eq_decide.mpr ⟨fun z => txt_inj (V.str.inj z), fun z => by rw [z]⟩
      have hat : atI (txt (c :: r)).cps.toList 0 = some c := by rw [InkY.txt_cps]; exact atI_nat (j := 0) rfl
      refine ⟨_, rfl, _, _, c, rfl, rfl, zl, hat, rfl, _, rfl, ?_⟩
      rw [e0]
      have good : ¬ (c = 48 ∧ c :: r ≠ [48]) → ∀ H', Same H H' → Q (.bl ((c :: r).all fun x => decide (48 ≤ x ∧ x ≤ 57))) H' := fun n H' s' => by
        refine falls _ ?_ H' s'
        unfold InkY.isNum
        rw [decide_eq_true ⟨h1, h2⟩]
        have : (decide ((c :: r).head? = some 48) && decide (c :: r ≠ [48])) = false := by
          rw [Bool.eq_false_iff]
          intro z
          rw [Bool.and_eq_true, decide_eq_true_iff, decide_eq_true_iff] at z
          exact n ⟨by simpa using z.1, z.2⟩
        rw [this]
        rfl
      by_cases c0 : c = 48
      · rw [decide_eq_true c0]
        refine iteT ⟨_, rfl, rfl, _, rfl, ?_⟩
        rw [e1]
        by_cases c1 : c :: r = [48]
        · rw [decide_eq_true c1]
          exact iteF ⟨_, rfl, lc, good fun z => z.2 c1⟩
        · rw [decide_eq_false c1]
          refine iteT (falls false ?_ H (Same.refl _))
          unfold InkY.isNum
          rw [decide_eq_true (show (c :: r).head? = some 48 by rw [c0]; rfl), decide_eq_true c1]
          simp
      · rw [decide_eq_false c0]
        exact iteF (iteF ⟨_, rfl, lc, good fun z => c0 z.1⟩)
    · rw [decide_eq_false (show ¬ ((txt cs).length : Int) ≤ 60 by omega)]
      exact iteT (falls false (by unfold InkY.isNum; rw [decide_eq_false fun z => h2 z.2]; rfl) H (Same.refl _))
  · rw [if_neg (by rw [decide_eq_false (show ¬ (1 : Int) ≤ (txt cs).length by omega)]; exact Bool.false_ne_true)]
    exact ⟨_, rfl, iteT (falls false (by unfold InkY.isNum; rw [decide_eq_false fun z => h1 z.1]; rfl) H (Same.refl _))⟩
open InkY in
theorem part_eq (cs : List Nat) : Txt.partition (txt cs) ⟨#[45]⟩ = match cutAt 45 cs with
    | some (a, b) => (txt a, ⟨#[45]⟩, txt b)
    | none => (txt cs, Str.empty, Str.empty) := by
  cases e : cutAt 45 cs with
  | none => exact part_none (cutAt_none.mp e)
  | some p =>
    obtain ⟨a, b⟩ := p
    obtain ⟨e1, e2⟩ := cutAt_some.mp e
    rw [e1]
    exact part_some e2
def spIsStr : Sp := fun vs H Q _ => ∃ cs : List Nat, vs = [.str (txt cs)] ∧ cs.length ≤ 100000 ∧ ∀ H', Same H H' → Q (.bl (InkY.strOf cs).isSome) H'
def spReadStr : Sp := fun vs H Q _ => ∃ (cs : List Nat) (a b : Int), vs = [.str (txt cs)] ∧ cs.length ≤ 100000 ∧ InkY.strOf cs = some (a, b) ∧ ∀ (p : Addr) (H' : Hp), H' p = some (.tup [.int a, .int b]) → Same H H' → Q (.ref p) H'
abbrev sis_stretch : Stmt := top 9
abbrev sread_stretch : Stmt := top 10
theorem scis_stretch : FnScope ["word", "start", "dash", "stop"] ["word"] (defScope sis_stretch) := ⟨rfl, rfl, rfl, by decide +kernel, rfl, by decide +kernel, by decide +kernel⟩
theorem scread_stretch : FnScope ["word", "start", "dash", "stop"] ["word"] (defScope sread_stretch) := ⟨rfl, rfl, rfl, by decide +kernel, rfl, by decide +kernel, by decide +kernel⟩
theorem dash_txt : (Str.ofString "-") = ⟨#[45]⟩ := by decide +kernel
theorem ok_is_stretch {f fN : Addr} {fd gN : FuncData} (F : Fun K "is_stretch" "is_stretch" sis_stretch f fd) (T : Nms mg) (G : Gbs mg) (dis_number : DefAt K mg "is_number" sis_number ["word"] fN gN) : FnOk P w K mg base CX0 2 f fd ["word"] spIsStr := by
  have gis_number : FnOk P w K mg base CX0 1 _ _ ["word"] spIsNum := ok_is_number dis_number.F T G
  refine F.ok scis_stretch (fun vs H Q E h => ?_) (fun cdv A outer s H vs Q E hr h => ?_)
  · obtain ⟨cs, rfl, _⟩ := h
    rfl
  obtain ⟨cs, rfl, lc, k⟩ := h
  refine ⟨_, (pss_cons (ps_asg (pe_bm PySem.F.plainAttrs_str PySem.F.slot_str_partition PySem.F.type_str_partition InkY.mt_part (pv 0) (pa_cons pe_str pa_nil)) (pg_tup (n := 3) rfl (pgs_cons (pg_name (i := 1) scis_stretch.nd rfl (Or.inl rfl)) (pgs_cons (pg_name (i := 2) scis_stretch.nd rfl (Or.inl rfl)) (pgs_cons (pg_name (i := 3) scis_stretch.nd rfl (Or.inl rfl)) pgs_nil)))))
      (pss_one (ps_ret (pe_and (pe_def dis_number gis_number hr (pa_cons (pv 1) pa_nil)) (pe_one (pe_def dis_number gis_number hr (pa_cons (pv 3) pa_nil))))))), ?_⟩
  refine ⟨_, rfl, rfl, cs, 45, rfl, by rw [dash_txt], by omega, fun p hp => ?_⟩
  rw [part_eq]
  have fin : ∀ (a b : List Nat) (y : Str) (H1 : Hp), a.length ≤ 100000 → b.length ≤ 100000 → Same H H1 → (InkY.isNum a && InkY.isNum b) = (InkY.strOf cs).isSome → tRet (tAndV (tCall spIsNum [] E0 (tCons (tVar 1) tNil)) (tCall spIsNum [] E0 (tCons (tVar 3) tNil))) { nx := fun _ H' => Q .non H', rt := Q } [some (.str (txt cs)), some (.str (txt a)), some (.str y), some (.str (txt b))] H1 := by
    intro a b y H1 la lb s1 e
    refine ⟨_, rfl, a, rfl, la, fun H2 s2 => ⟨_, rfl, ?_⟩⟩
    cases ea : InkY.isNum a with
    | false =>
      refine iteF ?_
      rw [ea, Bool.false_and] at e
      rw [e]
      exact k H2 (s1.trans s2)
    | true =>
      refine iteT ⟨_, rfl, b, rfl, lb, fun H3 s3 => ?_⟩
      rw [ea, Bool.true_and] at e
      rw [e]
      exact k H3 (s1.trans (s2.trans s3))
  cases e : InkY.cutAt 45 cs with
  | none =>
    refine ⟨p, _, rfl, SqT.of upd_same, rfl, _, _, rfl, _, _, rfl, _, _, rfl, rfl, fin cs [] Str.empty _ lc (by decide) (same_new hp _) ?_⟩
    unfold InkY.strOf
    rw [e, show InkY.isNum [] = false by decide, Bool.and_false]
    rfl
  | some q =>
    obtain ⟨a, b⟩ := q
    obtain ⟨e1, _⟩ := InkY.cutAt_some.mp e
    have ll : a.length + b.length + 1 = cs.length := by rw [e1, List.length_append, List.length_cons]; omega
    refine ⟨p, _, rfl, SqT.of upd_same, rfl, _, _, rfl, _, _, rfl, _, _, rfl, rfl, fin a b ⟨#[45]⟩ _ (by omega) (by omega) (same_new hp _) ?_⟩
    unfold InkY.strOf
    rw [e]
    show _ = (if InkY.isNum a = true ∧ InkY.isNum b = true then some (InkY.numOf a, InkY.numOf b) else none).isSome
    cases ea : InkY.isNum a <;> cases eb : InkY.isNum b <;> simp
theorem ok_read_stretch {f : Addr} {fd : FuncData} (F : Fun K "read_stretch" "read_stretch" sread_stretch f fd) (T : Nms mg) : FnOk P w K mg base CX0 1 f fd ["word"] spReadStr := by
  refine F.ok scread_stretch (fun vs H Q E h => ?_) (fun cdv A outer s H vs Q E hr h => ?_)
  · obtain ⟨cs, a, b, rfl, _⟩ := h
    rfl
  obtain ⟨cs, n, m, rfl, lc, hs, k⟩ := h
  refine ⟨_, (pss_cons (ps_asg (pe_bm PySem.F.plainAttrs_str PySem.F.slot_str_partition PySem.F.type_str_partition InkY.mt_part (pv 0) (pa_cons pe_str pa_nil)) (pg_tup (n := 3) rfl (pgs_cons (pg_name (i := 1) scread_stretch.nd rfl (Or.inl rfl)) (pgs_cons (pg_name (i := 2) scread_stretch.nd rfl (Or.inl rfl)) (pgs_cons (pg_name (i := 3) scread_stretch.nd rfl (Or.inl rfl)) pgs_nil)))))
      (pss_one (ps_ret (pe_tup (pa_cons (pe_callTy InkY.call_intT rfl T.n_int PyProof.Rows.boot_int (pa_cons (pv 1) pa_nil)) (pa_cons (pe_callTy InkY.call_intT rfl T.n_int PyProof.Rows.boot_int (pa_cons (pv 3) pa_nil)) pa_nil)))))), ?_⟩
  refine ⟨_, rfl, rfl, cs, 45, rfl, by rw [dash_txt], by omega, fun p hp => ?_⟩
  rw [part_eq]
  cases e : InkY.cutAt 45 cs with
  | none => unfold InkY.strOf at hs; rw [e] at hs; cases hs
  | some q =>
    obtain ⟨a, b⟩ := q
    unfold InkY.strOf at hs
    rw [e] at hs
    have hs : (if InkY.isNum a = true ∧ InkY.isNum b = true then some (InkY.numOf a, InkY.numOf b) else none) = some (n, m) := hs
    by_cases c : InkY.isNum a = true ∧ InkY.isNum b = true
    · rw [if_pos c] at hs
      cases hs
      have la := (InkY.isNum_ne c.1).2.1
      have lb := (InkY.isNum_ne c.2).2.1
      refine ⟨p, _, rfl, SqT.of upd_same, rfl, _, _, rfl, _, _, rfl, _, _, rfl, rfl, ?_⟩
      refine ⟨_, rfl, txt a, _, rfl, InkY.num_reads c.1, by rw [txt_len]; omega, _, rfl, txt b, _, rfl, InkY.num_reads c.2, by rw [txt_len]; omega, (by show 2 ≤ sizeLine; decide), fun t ht => ?_⟩
      exact k t _ upd_same ((same_new hp _).trans (same_new ht _))
    · rw [if_neg c] at hs; cases hs



def numsOk (ws : List (List Nat)) : Prop := ∀ w ∈ ws, InkY.isNum w = true
def inkOk (ws : List (List Nat)) : Prop := ∀ w ∈ ws, (InkY.strOf w).isSome = true
def numsIn (ws : List (List Nat)) : List Int := ws.map InkY.numOf
def rowIn (ws : List (List Nat)) : Row := ws.filterMap InkY.strOf
abbrev wordsL (ws : List (List Nat)) : HO := .lst (ws.map fun w => V.str (txt w))
def spReadNums (XN : Addr) : Sp := fun vs H Q E => ∃ (l : Addr) (ws : List (List Nat)), vs = [.ref l] ∧ H l = some (wordsL ws) ∧ ws.length ≤ 100000 ∧ (∀ w ∈ ws, w.length ≤ 100000) ∧ (numsOk ws → ∀ (q : Addr) (H' : Hp), H' q = some (.lst ((numsIn ws).map V.int)) → Same H H' → H q = none → Q (.ref q) H') ∧ (¬ numsOk ws → ∀ H', Same H H' → E (.ref XN) none H')
def spReadInk (XN : Addr) : Sp := fun vs H Q E => ∃ (l : Addr) (ws : List (List Nat)), vs = [.ref l] ∧ H l = some (wordsL ws) ∧ ws.length ≤ 100000 ∧ (∀ w ∈ ws, w.length ≤ 100000) ∧ (inkOk ws → ∀ (q : Addr) (H' : Hp), RowAt H' q (rowIn ws) → Same H H' → H q = none → Q (.ref q) H') ∧ (¬ inkOk ws → ∀ H', Same H H' → E (.ref XN) none H')
abbrev sread_numbers : Stmt := top 11
theorem scread_numbers : FnScope ["words"] ["words"] (defScope sread_numbers) := ⟨rfl, rfl, rfl, by decide +kernel, rfl, by decide +kernel, by decide +kernel⟩
theorem ok_read_numbers {f fN XN : Addr} {fd gN : FuncData} (F : Fun K "read_numbers" "read_numbers" sread_numbers f fd) (T : Nms mg) (G : Gbs mg) (ZNoDeed : ExcN K mg "NoDeed" XN) (dis_number : DefAt K mg "is_number" sis_number ["word"] fN gN) : FnOk P w K mg base (CX1 P w) 2 f fd ["words"] (spReadNums XN) := by
  have gis_number : FnOk P w K mg base CX0 1 _ _ ["word"] spIsNum := ok_is_number dis_number.F T G
  refine okX F scread_numbers (fun vs H Q E h => ?_) (fun cdv A outer s H vs Q E hr h => ?_)
  · obtain ⟨l, ws, rfl, _⟩ := h
    rfl
  obtain ⟨l, ws, rfl, hl, lw, sw, k1, k2⟩ := h
  refine ⟨_, (pss_cons (ps_if (pt_not (pt_val (pe_callB (call_allB rfl) rfl T.n_all PyProof.Rows.boot_all (pa_cons (pe_compG (N := ["word"]) (compG (sc := defScope sread_numbers) (NX := ["words"]) (jx := [none]) rfl rfl rfl (by decide +kernel) (by decide +kernel) rfl (by decide +kernel) rfl (by decide +kernel)) rfl (pi_list (pv 0)) (fun _ _ _ _ _ _ => (pg_name (i := 0) (show List.Nodup (["word"] : List Str) by decide +kernel) rfl (Or.inl rfl))) (fun _ _ _ _ _ _ => pts_nil) (fun _ _ _ _ _ _ => (pe_def dis_number gis_number hr (pa_cons (pv 0) pa_nil)))) pa_nil))))
      (pss_one (ps_raise PySem.F.excBase_ValueError ZNoDeed.x ZNoDeed.m rfl raiseX (pa_cons pe_str pa_nil)))
      pss_nil)
      (pss_one (ps_ret (pe_compG (N := ["word"]) (compG (sc := defScope sread_numbers) (NX := ["words"]) (jx := [none]) rfl rfl rfl (by decide +kernel) (by decide +kernel) rfl (by decide +kernel) rfl (by decide +kernel)) rfl (pi_list (pv 0)) (fun _ _ _ _ _ _ => (pg_name (i := 0) (show List.Nodup (["word"] : List Str) by decide +kernel) rfl (Or.inl rfl))) (fun _ _ _ _ _ _ => pts_nil) (fun _ _ _ _ _ _ => (pe_callTy InkY.call_intT rfl T.n_int PyProof.Rows.boot_int (pa_cons (pv 0) pa_nil))))))), ?_⟩
  refine ⟨_, rfl, l, rfl, ⟨_, SqL.of hl⟩, fun acc hacc => compF_list (K := K) (a := l) (xs := ws.map fun w => V.str (txt w)) (fun i σ H2 => ∃ u : Option V, σ = [u] ∧ H2 acc = some (.lst (((ws.take i).map InkY.isNum).map V.bl)) ∧ Same H H2) ⟨none, rfl, upd_same, same_new hacc _⟩ (fun i σ H2 _ ⟨_, _, _, s2⟩ => SqL.of (s2 _ _ hl)) ?_ ?_⟩
  · rintro i y σ H2 hi ⟨u, rfl, h2, s2⟩
    rw [List.getElem?_map] at hi
    obtain ⟨w, ei, rfl⟩ := Option.map_eq_some_iff.mp hi
    have wm := List.mem_of_getElem? ei
    have il := (List.getElem?_eq_some_iff.mp ei).1
    refine ⟨_, rfl, w, rfl, sw w wm, fun H3 s3 => ⟨_, s3 _ _ h2, million (by rw [List.length_map, List.length_map, List.length_take]; omega), _, rfl, ?_, keep_of hacc (s2.trans s3) (keep_upd acc _ _)⟩⟩
    rw [upd_same, take_snoc ei, List.map_append, List.map_append]
    rfl
  · rintro σ H2 ⟨u, rfl, h2, s2⟩
    rw [List.length_map, List.take_length] at h2
    refine ⟨acc, _, rfl, SqL.of h2, _, rfl, ?_⟩
    by_cases g : numsOk ws
    · have e : (ws.map InkY.isNum).all id = true := by
        rw [List.all_map, List.all_eq_true]
        exact g
      rw [e]
      refine iteF ⟨_, rfl, l, rfl, ⟨_, SqL.of (s2 _ _ hl)⟩, fun ac2 hac2 => compF_list (K := K) (a := l) (xs := ws.map fun w => V.str (txt w)) (fun i σ H3 => ∃ u : Option V, σ = [u] ∧ H3 ac2 = some (.lst (((ws.take i).map InkY.numOf).map V.int)) ∧ Same H2 H3) ⟨none, rfl, upd_same, same_new hac2 _⟩ (fun i σ H3 _ ⟨_, _, _, s3⟩ => SqL.of (s3 _ _ (s2 _ _ hl))) ?_ ?_⟩
      · rintro i y σ H3 hi ⟨u, rfl, h3, s3⟩
        rw [List.getElem?_map] at hi
        obtain ⟨w, ei, rfl⟩ := Option.map_eq_some_iff.mp hi
        have wm := List.mem_of_getElem? ei
        have il := (List.getElem?_eq_some_iff.mp ei).1
        have gw := g w wm
        refine ⟨_, rfl, txt w, _, rfl, InkY.num_reads gw, by rw [txt_len]; have := (InkY.isNum_ne gw).2.1; omega, _, h3, million (by rw [List.length_map, List.length_map, List.length_take]; omega), _, rfl, ?_, keep_of hac2 s3 (keep_upd ac2 _ _)⟩
        rw [upd_same, take_snoc ei, List.map_append, List.map_append]
        rfl
      · rintro σ H3 ⟨u, rfl, h3, s3⟩
        rw [List.length_map, List.take_length] at h3
        exact k1 g ac2 H3 h3 (s2.trans s3) (free_same s2 hac2)
    · have e : (ws.map InkY.isNum).all id = false := by
        rw [List.all_map, List.all_eq_false]
        apply Classical.byContradiction
        intro z
        exact g fun w hw => by
          cases q : InkY.isNum w with
          | true => rfl
          | false => exact absurd ⟨w, hw, by rw [show (id ∘ InkY.isNum) w = InkY.isNum w from rfl, q]; exact Bool.false_ne_true⟩ z
      rw [e]
      exact iteT ⟨(by show 1 ≤ sizeLine; decide), k2 g H2 s2⟩

abbrev sread_ink : Stmt := top 12
theorem scread_ink : FnScope ["words"] ["words"] (defScope sread_ink) := ⟨rfl, rfl, rfl, by decide +kernel, rfl, by decide +kernel, by decide +kernel⟩
theorem rowIn_take {ws : List (List Nat)} {i : Nat} {w : List Nat} {p : Int × Int} (h : ws[i]? = some w) (e : InkY.strOf w = some p) : rowIn (ws.take (i + 1)) = rowIn (ws.take i) ++ [p] := by
  unfold rowIn
  rw [take_snoc h, List.filterMap_append]
  simp [e]
theorem not_all {ws : List (List Nat)} {p : List Nat → Bool} (g : ¬ ∀ w ∈ ws, p w = true) : (ws.map p).all id = false := by
  rw [List.all_map, List.all_eq_false]
  apply Classical.byContradiction
  intro z
  exact g fun w hw => by
    cases q : p w with
    | true => rfl
    | false => exact absurd ⟨w, hw, by rw [show (id ∘ p) w = p w from rfl, q]; exact Bool.false_ne_true⟩ z
theorem ok_read_ink {f fN fS fR XN : Addr} {fd gN gS gR : FuncData} (F : Fun K "read_ink" "read_ink" sread_ink f fd) (T : Nms mg) (G : Gbs mg) (ZNoDeed : ExcN K mg "NoDeed" XN) (dis_number : DefAt K mg "is_number" sis_number ["word"] fN gN) (dis_stretch : DefAt K mg "is_stretch" sis_stretch ["word"] fS gS) (dread_stretch : DefAt K mg "read_stretch" sread_stretch ["word"] fR gR) : FnOk P w K mg base (CX1 P w) 3 f fd ["words"] (spReadInk XN) := by
  have gis_stretch : FnOk P w K mg base CX0 2 _ _ ["word"] spIsStr := ok_is_stretch dis_stretch.F T G dis_number
  have gread_stretch : FnOk P w K mg base CX0 1 _ _ ["word"] spReadStr := ok_read_stretch dread_stretch.F T
  refine okX F scread_ink (fun vs H Q E h => ?_) (fun cdv A outer s H vs Q E hr h => ?_)
  · obtain ⟨l, ws, rfl, _⟩ := h
    rfl
  obtain ⟨l, ws, rfl, hl, lw, sw, k1, k2⟩ := h
  refine ⟨_, (pss_cons (ps_if (pt_not (pt_val (pe_callB (call_allB rfl) rfl T.n_all PyProof.Rows.boot_all (pa_cons (pe_compG (N := ["word"]) (compG (sc := defScope sread_ink) (NX := ["words"]) (jx := [none]) rfl rfl rfl (by decide +kernel) (by decide +kernel) rfl (by decide +kernel) rfl (by decide +kernel)) rfl (pi_list (pv 0)) (fun _ _ _ _ _ _ => (pg_name (i := 0) (show List.Nodup (["word"] : List Str) by decide +kernel) rfl (Or.inl rfl))) (fun _ _ _ _ _ _ => pts_nil) (fun _ _ _ _ _ _ => (pe_def dis_stretch gis_stretch hr (pa_cons (pv 0) pa_nil)))) pa_nil))))
      (pss_one (ps_raise PySem.F.excBase_ValueError ZNoDeed.x ZNoDeed.m rfl raiseX (pa_cons pe_str pa_nil)))
      pss_nil)
      (pss_one (ps_ret (pe_compG (N := ["word"]) (compG (sc := defScope sread_ink) (NX := ["words"]) (jx := [none]) rfl rfl rfl (by decide +kernel) (by decide +kernel) rfl (by decide +kernel) rfl (by decide +kernel)) rfl (pi_list (pv 0)) (fun _ _ _ _ _ _ => (pg_name (i := 0) (show List.Nodup (["word"] : List Str) by decide +kernel) rfl (Or.inl rfl))) (fun _ _ _ _ _ _ => pts_nil) (fun _ _ _ _ _ _ => (pe_def dread_stretch gread_stretch hr (pa_cons (pv 0) pa_nil))))))), ?_⟩
  refine ⟨_, rfl, l, rfl, ⟨_, SqL.of hl⟩, fun acc hacc => compF_list (K := K) (a := l) (xs := ws.map fun w => V.str (txt w)) (fun i σ H2 => ∃ u : Option V, σ = [u] ∧ H2 acc = some (.lst (((ws.take i).map fun w => (InkY.strOf w).isSome).map V.bl)) ∧ Same H H2) ⟨none, rfl, upd_same, same_new hacc _⟩ (fun i σ H2 _ ⟨_, _, _, s2⟩ => SqL.of (s2 _ _ hl)) ?_ ?_⟩
  · rintro i y σ H2 hi ⟨u, rfl, h2, s2⟩
    rw [List.getElem?_map] at hi
    obtain ⟨w, ei, rfl⟩ := Option.map_eq_some_iff.mp hi
    have wm := List.mem_of_getElem? ei
    have il := (List.getElem?_eq_some_iff.mp ei).1
    refine ⟨_, rfl, w, rfl, sw w wm, fun H3 s3 => ⟨_, s3 _ _ h2, million (by rw [List.length_map, List.length_map, List.length_take]; omega), _, rfl, ?_, keep_of hacc (s2.trans s3) (keep_upd acc _ _)⟩⟩
    rw [upd_same, take_snoc ei, List.map_append, List.map_append]
    rfl
  · rintro σ H2 ⟨u, rfl, h2, s2⟩
    rw [List.length_map, List.take_length] at h2
    refine ⟨acc, _, rfl, SqL.of h2, _, rfl, ?_⟩
    by_cases g : inkOk ws
    · have e : (ws.map fun w => (InkY.strOf w).isSome).all id = true := by
        rw [List.all_map, List.all_eq_true]
        exact g
      rw [e]
      refine iteF ⟨_, rfl, l, rfl, ⟨_, SqL.of (s2 _ _ hl)⟩, fun ac2 hac2 => compF_list (K := K) (a := l) (xs := ws.map fun w => V.str (txt w)) (fun i σ H3 => ∃ (u : Option V) (as : List Addr), σ = [u] ∧ H3 ac2 = some (.lst (as.map V.ref)) ∧ PairsAt H3 as (rowIn (ws.take i)) ∧ as.length = i ∧ Same H2 H3) ⟨none, [], rfl, upd_same, .nil, rfl, same_new hac2 _⟩ (fun i σ H3 _ ⟨_, _, _, _, _, _, s3⟩ => SqL.of (s3 _ _ (s2 _ _ hl))) ?_ ?_⟩
      · rintro i y σ H3 hi ⟨u, as, rfl, h3, pa, la, s3⟩
        rw [List.getElem?_map] at hi
        obtain ⟨w, ei, rfl⟩ := Option.map_eq_some_iff.mp hi
        have wm := List.mem_of_getElem? ei
        have il := (List.getElem?_eq_some_iff.mp ei).1
        obtain ⟨⟨a, b⟩, ep⟩ := Option.isSome_iff_exists.mp (g w wm)
        refine ⟨_, rfl, w, a, b, rfl, sw w wm, ep, fun p H4 hp s4 => ⟨_, s4 _ _ h3, million (by rw [List.length_map]; omega), _, as ++ [p], rfl, ?_, ?_, by rw [List.length_append, la]; rfl, keep_of hac2 (s3.trans s4) (keep_upd ac2 _ _)⟩⟩
        · rw [upd_same, List.map_append]
          rfl
        · rw [rowIn_take ei ep]
          have h34 := s4 _ _ h3
          exact ((pa.same s4).snoc (p := (a, b)) hp).keep h34 (keep_upd ac2 _ _)
      · rintro σ H3 ⟨u, as, rfl, h3, pa, la, s3⟩
        rw [List.length_map, List.take_length] at pa
        exact k1 g ac2 H3 ⟨as, h3, pa⟩ (s2.trans s3) (free_same s2 hac2)
    · rw [not_all g]
      exact iteT ⟨(by show 1 ≤ sizeLine; decide), k2 g H2 s2⟩
def spReadPour (XN : Addr) : Sp := fun vs H Q E => ∃ (cs : List Nat), vs = [.str (txt cs)] ∧ cs.length ≤ 90000 ∧ (∀ a b, InkY.cutAt 32 cs = some (a, b) → InkY.isNum a = true → ∀ (p : Addr) (H' : Hp), H' p = some (.tup [.str (Str.ofString "pour"), .int (InkY.numOf a), .str (txt b)]) → Same H H' → Q (.ref p) H') ∧ ((∀ a b, InkY.cutAt 32 cs = some (a, b) → InkY.isNum a = false) → ∀ H', Same H H' → E (.ref XN) none H')
abbrev sread_pouring : Stmt := top 13
theorem scread_pouring : FnScope ["rest", "hand", "blank", "text"] ["rest"] (defScope sread_pouring) := ⟨rfl, rfl, rfl, by decide +kernel, rfl, by decide +kernel, by decide +kernel⟩
theorem part32 (cs : List Nat) : Txt.partition (txt cs) ⟨#[32]⟩ = match InkY.cutAt 32 cs with
    | some (a, b) => (txt a, ⟨#[32]⟩, txt b)
    | none => (txt cs, Str.empty, Str.empty) := by
  cases e : InkY.cutAt 32 cs with
  | none => exact InkY.part_none (InkY.cutAt_none.mp e)
  | some p =>
    obtain ⟨a, b⟩ := p
    obtain ⟨e1, e2⟩ := InkY.cutAt_some.mp e
    rw [e1]
    exact InkY.part_some e2
theorem ok_read_pouring {f fM fN XN : Addr} {fd gM gN : FuncData} (F : Fun K "read_pouring" "read_pouring" sread_pouring f fd) (T : Nms mg) (G : Gbs mg) (ZNoDeed : ExcN K mg "NoDeed" XN) (dread_numbers : DefAt K mg "read_numbers" sread_numbers ["words"] fM gM) (dis_number : DefAt K mg "is_number" sis_number ["word"] fN gN) : FnOk P w K mg base (CX1 P w) 3 f fd ["rest"] (spReadPour XN) := by
  have gread_numbers : FnOk P w K mg base (CX1 P w) 2 _ _ ["words"] (spReadNums XN) := ok_read_numbers dread_numbers.F T G ZNoDeed dis_number
  refine okX F scread_pouring (fun vs H Q E h => ?_) (fun cdv A outer s H vs Q E hr h => ?_)
  · obtain ⟨cs, rfl, _⟩ := h
    rfl
  obtain ⟨cs, rfl, lc, k1, k2⟩ := h
  refine ⟨_, (pss_cons (ps_asg (pe_bm PySem.F.plainAttrs_str PySem.F.slot_str_partition PySem.F.type_str_partition InkY.mt_part (pv 0) (pa_cons pe_str pa_nil)) (pg_tup (n := 3) rfl (pgs_cons (pg_name (i := 1) scread_pouring.nd rfl (Or.inl rfl)) (pgs_cons (pg_name (i := 2) scread_pouring.nd rfl (Or.inl rfl)) (pgs_cons (pg_name (i := 3) scread_pouring.nd rfl (Or.inl rfl)) pgs_nil)))))
      (pss_cons (ps_if (pt_cmpR op_eq (pv 2) pe_str (nomark _))
      (pss_one (ps_raise PySem.F.excBase_ValueError ZNoDeed.x ZNoDeed.m rfl raiseX (pa_cons pe_str pa_nil)))
      pss_nil)
      (pss_one (ps_ret (pe_tup (pa_cons pe_str (pa_cons (pe_ix ix_list (pe_defX dread_numbers gread_numbers hr passX (pa_cons (pe_lst (pa_cons (pv 1) pa_nil)) pa_nil)) pe_int (fun _ _ => rfl)) (pa_cons (pv 3) pa_nil)))))))), ?_⟩
  have em : Str.ofString "" = txt [] := by decide +kernel
  have e32 : Str.ofString " " = ⟨#[32]⟩ := by decide +kernel
  refine ⟨_, rfl, rfl, cs, 32, rfl, by rw [e32], by omega, fun p hp => ?_⟩
  rw [part32]
  cases e : InkY.cutAt 32 cs with
  | none =>
    refine ⟨p, _, rfl, SqT.of upd_same, rfl, _, _, rfl, _, _, rfl, _, _, rfl, rfl, ?_⟩
    refine ⟨_, rfl, rfl, _, rfl, ite2 (fun _ => ?_) (fun c => absurd (decide_eq_true (by rw [em]; rfl)) c)⟩
    exact ⟨(by show 1 ≤ sizeLine; decide), k2 (fun a b z => by rw [e] at z; cases z) _ (same_new hp _)⟩
  | some q =>
    obtain ⟨a, b⟩ := q
    obtain ⟨e1, _⟩ := InkY.cutAt_some.mp e
    have ll : a.length + b.length + 1 = cs.length := by rw [e1, List.length_append, List.length_cons]; omega
    refine ⟨p, _, rfl, SqT.of upd_same, rfl, _, _, rfl, _, _, rfl, _, _, rfl, rfl, ?_⟩
    have s1 := same_new hp (.tup [.str (txt a), .str ⟨#[32]⟩, .str (txt b)])
    refine ⟨_, rfl, rfl, _, rfl, ite2 (fun c => absurd (of_decide_eq_true c) (by rw [em]; intro z; exact absurd (txt_inj (a := [32]) (V.str.inj z)) (by decide))) (fun _ => ?_)⟩
    refine ⟨_, rfl, (by show 1 ≤ sizeLine; decide), fun l hl => ?_⟩
    have s2 := s1.trans (same_new hl (.lst [.str (txt a)]))
    refine ⟨l, [a], rfl, upd_same, by show 1 ≤ 100000; decide, fun w hw => by rw [List.mem_singleton.mp hw]; omega, fun g q H' hq s' fq => ?_, fun g H' s' => ?_⟩
    · have ga := g a List.mem_cons_self
      refine ⟨q, _, _, _, rfl, rfl, SqL.of hq, atI_nat (j := 0) rfl, _, rfl, (by show 3 ≤ sizeLine; decide), fun t ht => ?_⟩
      exact k1 a b e ga t _ upd_same (s2.trans (s'.trans (same_new ht _)))
    · refine k2 (fun a' b' z => ?_) H' (s2.trans s')
      rw [e] at z
      cases z
      cases q : InkY.isNum a with
      | false => rfl
      | true => exact absurd (fun w hw => by rw [List.mem_singleton.mp hw]; exact q) g
def spReadTie (XN : Addr) : Sp := fun vs H Q E => ∃ (l : Addr) (ws : List (List Nat)), vs = [.ref l] ∧ H l = some (wordsL ws) ∧ ws.length ≤ 100000 ∧ (∀ w ∈ ws, w.length ≤ 100000) ∧
  (∀ a b, ws = a ++ [47] :: b → [47] ∉ a → [47] ∉ b → inkOk a → inkOk b → ∀ (p q1 q2 : Addr) (H' : Hp), H' p = some (.tup [.str (Str.ofString "tie"), .ref q1, .ref q2]) → RowAt H' q1 (rowIn a) → RowAt H' q2 (rowIn b) → q1 ≠ q2 → H q1 = none → H q2 = none → Same H H' → Q (.ref p) H') ∧
  ((∀ a b, ws = a ++ [47] :: b → [47] ∉ a → [47] ∉ b → ¬ (inkOk a ∧ inkOk b)) → ∀ H', Same H H' → E (.ref XN) none H')
abbrev sread_tie : Stmt := top 14
theorem scread_tie : FnScope ["words", "middle"] ["words"] (defScope sread_tie) := ⟨rfl, rfl, rfl, by decide +kernel, rfl, by decide +kernel, by decide +kernel⟩
theorem count_one {ws : List (List Nat)} {k : List Nat} (h : ws.count k = 1) : ∃ a b, ws = a ++ k :: b ∧ k ∉ a ∧ k ∉ b := by
  have hm : k ∈ ws := List.count_pos_iff.mp (by omega)
  obtain ⟨a, b, e, na⟩ := List.eq_append_cons_of_mem hm
  refine ⟨a, b, e, na, fun z => ?_⟩
  rw [e, List.count_append, List.count_cons_self] at h
  have := List.count_pos_iff.mpr z
  omega
theorem count_two {a b : List (List Nat)} {k : List Nat} (na : k ∉ a) (nb : k ∉ b) : (a ++ k :: b).count k = 1 := by
  rw [List.count_append, List.count_cons_self, List.count_eq_zero.mpr na, List.count_eq_zero.mpr nb]
theorem split_one {a b a' b' : List (List Nat)} {k : List Nat} (e : a ++ k :: b = a' ++ k :: b') (na : k ∉ a) (nb : k ∉ b) (na' : k ∉ a') (nb' : k ∉ b') : a = a' ∧ b = b' := by
  induction a generalizing a' with
  | nil =>
    cases a' with
    | nil => exact ⟨rfl, (List.cons.inj e).2⟩
    | cons x r => exact absurd (by rw [(List.cons.inj e).1]; exact List.mem_cons_self) na'
  | cons y s ih =>
    cases a' with
    | nil => exact absurd (by rw [← (List.cons.inj e).1]; exact List.mem_cons_self) na
    | cons x r =>
      obtain ⟨e1, e2⟩ := List.cons.inj e
      obtain ⟨h1, h2⟩ := ih e2 (fun z => na (List.mem_cons_of_mem _ z)) (fun z => na' (List.mem_cons_of_mem _ z))
      exact ⟨by rw [e1, h1], h2⟩
theorem cutV_left (a b : List (List Nat)) (k : List Nat) : cutV ((a ++ k :: b).map fun w => V.str (txt w)) none (some (a.length : Int)) = a.map fun w => V.str (txt w) := by
  unfold cutV
  have e2 : HT.sIx ((a ++ k :: b).map fun w => V.str (txt w)).length 0 none = 0 := rfl
  rw [HT.sIx_nat, e2, List.drop_zero, Nat.sub_zero, List.length_map, show min a.length (a ++ k :: b).length = a.length by rw [List.length_append]; omega, List.map_append]
  rw [List.take_append_of_le_length (by rw [List.length_map]; omega), List.take_of_length_le (by rw [List.length_map]; omega)]
theorem cutV_right (a b : List (List Nat)) (k : List Nat) : cutV ((a ++ k :: b).map fun w => V.str (txt w)) (some ((a.length : Int) + 1)) none = b.map fun w => V.str (txt w) := by
  unfold cutV
  have e1 : HT.sIx ((a ++ k :: b).map fun w => V.str (txt w)).length 0 (some ((a.length : Int) + 1)) = a.length + 1 := by
    have := HT.sIx_nat ((a ++ k :: b).map fun w => V.str (txt w)).length 0 (a.length + 1)
    rw [show ((a.length + 1 : Nat) : Int) = (a.length : Int) + 1 by omega] at this
    rw [this, List.length_map, List.length_append, List.length_cons]
    omega
  have e2 : HT.sIx ((a ++ k :: b).map fun w => V.str (txt w)).length ((a ++ k :: b).map fun w => V.str (txt w)).length none = ((a ++ k :: b).map fun w => V.str (txt w)).length := rfl
  rw [e1, e2]
  have e3 : ((a ++ k :: b).map fun w => V.str (txt w)).drop (a.length + 1) = b.map fun w => V.str (txt w) := by
    rw [← List.map_drop]
    congr 1
    simp
  rw [e3]
  exact List.take_of_length_le (by rw [List.length_map, List.length_map, List.length_append, List.length_cons]; omega)
theorem ok_read_tie {f fI fN fS fR XN : Addr} {fd gI gN gS gR : FuncData} (F : Fun K "read_tie" "read_tie" sread_tie f fd) (T : Nms mg) (G : Gbs mg) (ZNoDeed : ExcN K mg "NoDeed" XN) (dread_ink : DefAt K mg "read_ink" sread_ink ["words"] fI gI) (dis_number : DefAt K mg "is_number" sis_number ["word"] fN gN) (dis_stretch : DefAt K mg "is_stretch" sis_stretch ["word"] fS gS) (dread_stretch : DefAt K mg "read_stretch" sread_stretch ["word"] fR gR) : FnOk P w K mg base (CX1 P w) 4 f fd ["words"] (spReadTie XN) := by
  have gread_ink : FnOk P w K mg base (CX1 P w) 3 _ _ ["words"] (spReadInk XN) := ok_read_ink dread_ink.F T G ZNoDeed dis_number dis_stretch dread_stretch
  refine okX F scread_tie (fun vs H Q E h => ?_) (fun cdv A outer s H vs Q E hr h => ?_)
  · obtain ⟨l, ws, rfl, _⟩ := h
    rfl
  obtain ⟨l, ws, rfl, hl, lw, sw, k1, k2⟩ := h
  refine ⟨_, (pss_cons (ps_if (pt_cmpR op_ne (pe_bm PySem.F.plainAttrs_list PySem.F.slot_list_count PySem.F.type_list_count InkU.mt_countL (pv 0) (pa_cons pe_str pa_nil)) pe_int (nomark _))
      (pss_one (ps_raise PySem.F.excBase_ValueError ZNoDeed.x ZNoDeed.m rfl raiseX (pa_cons pe_str pa_nil)))
      pss_nil)
      (pss_cons (ps_set (i := 1) scread_tie.nd rfl (Or.inl rfl) (pe_bm PySem.F.plainAttrs_list PySem.F.slot_list_index PySem.F.type_list_index InkU.mt_indexL (pv 0) (pa_cons pe_str pa_nil)))
      (pss_one (ps_ret (pe_tup (pa_cons pe_str (pa_cons (pe_defX dread_ink gread_ink hr passX (pa_cons (pe_slice sl_list (pv 0) po_none (po_some (pv 1))) pa_nil)) (pa_cons (pe_defX dread_ink gread_ink hr passX (pa_cons (pe_slice sl_list (pv 0) (po_some (pe_op op_add (pv 1) pe_int)) po_none) pa_nil)) pa_nil)))))))), ?_⟩
  have sl : Str.ofString "/" = txt [47] := by decide +kernel
  refine ⟨_, rfl, .inl ⟨rfl, _, SqL.of hl⟩, l, [47], ws, rfl, by rw [sl], hl, rfl, _, rfl, ?_⟩
  by_cases h1 : ws.count [47] = 1
  · refine ite2 (fun c => absurd c (by rw [h1]; decide)) (fun _ => ?_)
    obtain ⟨a, b, rfl, na, nb⟩ := count_one h1
    have lab : a.length + b.length + 1 = (a ++ [47] :: b).length := by rw [List.length_append, List.length_cons]; omega
    have swa : ∀ w ∈ a, w.length ≤ 100000 := fun w hw => sw w (List.mem_append_left _ hw)
    have swb : ∀ w ∈ b, w.length ≤ 100000 := fun w hw => sw w (List.mem_append_right _ (List.mem_cons_of_mem _ hw))
    refine ⟨_, rfl, .inl ⟨rfl, _, SqL.of hl⟩, l, [47], a, b, rfl, by rw [sl], hl, na, by omega, ?_⟩
    refine ⟨_, rfl, _, rfl, _, rfl, l, _, rfl, SqL.of hl, fun p hp => ?_⟩
    rw [cutV_left]
    have s1 := same_new hp (wordsL a)
    refine ⟨p, a, rfl, upd_same, by omega, swa, fun ga q1 H1 r1 s2 f1 => ?_, fun ga H1 s2 => k2 (fun a' b' e na' nb' => ?_) H1 (s1.trans s2)⟩
    · have hl1 := s2 _ _ (s1 _ _ hl)
      refine ⟨_, rfl, _, rfl, _, _, rfl, rfl, _, rfl, l, _, rfl, SqL.of hl1, fun p2 hp2 => ?_⟩
      rw [cutV_right]
      have s3 := same_new hp2 (wordsL b)
      refine ⟨p2, b, rfl, upd_same, by omega, swb, fun gb q2 H2 r2 s4 f2 => ?_, fun gb H2 s4 => k2 (fun a' b' e na' nb' => ?_) H2 (s1.trans (s2.trans (s3.trans s4)))⟩
      · refine ⟨(by show 3 ≤ sizeLine; decide), fun t ht => ?_⟩
        have s5 := same_new ht (.tup [.str (Str.ofString "tie"), .ref q1, .ref q2])
        have s12 := s1.trans s2
        have hq1 : ∃ as, H1 q1 = some (.lst as) := by obtain ⟨as, h, _⟩ := r1; exact ⟨_, h⟩
        obtain ⟨as1, hq1⟩ := hq1
        have f2' : H1 q2 = none := free_same s3 f2
        refine k1 a b rfl na nb ga gb t q1 q2 _ upd_same ((r1.same (s3.trans s4)).same s5) (r2.same s5) (ne_of_none hq1 f2') (free_same s1 f1) (free_same s12 f2') (s12.trans (s3.trans (s4.trans s5)))
      · have u := split_one e na nb na' nb'
        rw [← u.2]
        exact fun z => gb z.2
    · have u := split_one e na nb na' nb'
      rw [← u.1]
      exact fun z => ga z.1
  · refine ite2 (fun _ => ?_) (fun c => absurd (by simpa using fun z => h1 (by omega)) c)
    exact ⟨(by show 1 ≤ sizeLine; decide), k2 (fun a b e na nb => absurd (by rw [e]; exact count_two na nb) h1) H (Same.refl _)⟩



abbrev NUM : List (Str × Int) := [(Str.ofString "fresh", 0), (Str.ofString "cut", 3), (Str.ofString "move", 4), (Str.ofString "quote", 5), (Str.ofString "window", 3), (Str.ofString "fix", 1), (Str.ofString "back", 2), (Str.ofString "fork", 2), (Str.ofString "untie", 1), (Str.ofString "read", 1)]
abbrev AHD : List (Str × Int) := [(Str.ofString "put", 2), (Str.ofString "strike", 0), (Str.ofString "blot", 1), (Str.ofString "lift", 1)]
structure Tbs (K : PySem.W.Frag) (mg : Str → Option Value) (aN aA : Addr) : Prop where
  n : mg "NUMBERS" = some (.ref aN)
  nt : InkU.TabK K aN NUM
  a : mg "NUMBERS_AHEAD" = some (.ref aA)
  ta : InkU.TabK K aA AHD
def tabAt (D : List (Str × Int)) (n : List Nat) : Option Int := (D.find? fun p => decide (txt n = p.1)).map (·.2)
theorem tab_some {D : List (Str × Int)} {n : List Nat} {i : Int} (h : tabAt D n = some i) : (D.find? fun p => decide (txt n = p.1)) = some (txt n, i) := by
  unfold tabAt at h
  obtain ⟨⟨x, j⟩, e, rfl⟩ := Option.map_eq_some_iff.mp h
  have z := List.find?_some e
  have : txt n = x := of_decide_eq_true z
  rw [e, this]
theorem tab_key (D : List (Str × Int)) (n : List Nat) : InkU.isKey (txt n) D = (tabAt D n).isSome := by
  unfold InkU.isKey tabAt
  rw [Option.isSome_map, Bool.eq_iff_iff, List.any_eq_true, Option.isSome_iff_exists]
  constructor
  · rintro ⟨p, hp, e⟩
    cases q : D.find? fun p => decide (txt n = p.1) with
    | some x => exact ⟨x, rfl⟩
    | none => exact absurd e (List.find?_eq_none.mp q p hp)
  · rintro ⟨p, e⟩
    exact ⟨p, List.mem_of_find?_eq_some e, List.find?_some (p := fun p : Str × Int => decide (txt n = p.1)) e⟩
abbrev pourW : List Nat := [112, 111, 117, 114, 32]
abbrev tieW : List Nat := [116, 105, 101]
theorem starts_pour (cs : List Nat) : Txt.startswith (txt cs) (Str.ofString "pour ") = decide (cs.take 5 = pourW) := by
  have e : Str.ofString "pour " = txt pourW := by decide +kernel
  rw [e]
  unfold Txt.startswith
  have z := StrLaws.subAt_eq (txt cs) (txt pourW) 0
  rw [Bool.eq_iff_iff, Bool.and_eq_true, decide_eq_true_iff, decide_eq_true_iff, z, InkY.txt_cps, InkY.txt_cps, List.drop_zero, beq_iff_eq, txt_len, txt_len]
  show _ ≤ _ ∧ cs.take 5 = pourW ↔ _
  refine ⟨fun h => h.2, fun h => ⟨?_, h⟩⟩
  have := congrArg List.length h
  rw [List.length_take] at this
  have l5 : pourW.length = 5 := rfl
  omega
theorem cut_five (cs : List Nat) : InkY.cutN cs (some 5) none = cs.drop 5 := by
  unfold InkY.cutN
  have e1 : HT.sIx cs.length 0 (some 5) = min 5 cs.length := HT.sIx_nat _ _ 5
  have e2 : HT.sIx cs.length cs.length none = cs.length := rfl
  rw [e1, e2]
  by_cases h : 5 ≤ cs.length
  · rw [Nat.min_eq_left h]
    exact List.take_of_length_le (by rw [List.length_drop]; exact Nat.le_refl _)
  · rw [Nat.min_eq_right (by omega), List.drop_of_length_le (Nat.le_refl _), List.drop_of_length_le (by omega)]
    exact List.take_nil
theorem cutW_take (ws : List (List Nat)) {k : Int} (h : 0 ≤ k) : cutV (ws.map fun w => V.str (txt w)) none (some k) = (ws.take k.toNat).map fun w => V.str (txt w) := by
  obtain ⟨j, rfl⟩ : ∃ j : Nat, k = j := ⟨k.toNat, by omega⟩
  unfold cutV
  have e2 : HT.sIx (ws.map fun w => V.str (txt w)).length 0 none = 0 := rfl
  rw [HT.sIx_nat, e2, List.drop_zero, Nat.sub_zero, List.length_map, List.map_take, Int.toNat_natCast]
  by_cases c : j ≤ ws.length
  · rw [Nat.min_eq_left c]
  · rw [Nat.min_eq_right (by omega), List.take_of_length_le (by rw [List.length_map]; omega), List.take_of_length_le (by rw [List.length_map]; omega)]
theorem cutW_drop (ws : List (List Nat)) {k : Int} (h : 0 ≤ k) : cutV (ws.map fun w => V.str (txt w)) (some k) none = (ws.drop k.toNat).map fun w => V.str (txt w) := by
  obtain ⟨j, rfl⟩ : ∃ j : Nat, k = j := ⟨k.toNat, by omega⟩
  unfold cutV
  have e2 : HT.sIx (ws.map fun w => V.str (txt w)).length (ws.map fun w => V.str (txt w)).length none = (ws.map fun w => V.str (txt w)).length := rfl
  rw [HT.sIx_nat, e2, List.length_map, List.map_drop, Int.toNat_natCast]
  by_cases c : j ≤ ws.length
  · rw [Nat.min_eq_left c]
    exact List.take_of_length_le (by rw [List.length_drop, List.length_map]; exact Nat.le_refl _)
  · rw [Nat.min_eq_right (by omega), List.drop_of_length_le (by rw [List.length_map]; omega), List.drop_of_length_le (by rw [List.length_map]; omega)]
    exact List.take_nil
inductive Deed where
  | pour (h : Int) (t : List Nat)
  | tie (a b : Row)
  | plain (n : List Nat) (ns : List Int)
  | rowed (n : List Nat) (ns : List Int) (r : Row)
def Deed.At (H : Hp) (p : Addr) : Deed → Prop
  | .pour h t => H p = some (.tup [.str (Str.ofString "pour"), .int h, .str (txt t)])
  | .tie a b => ∃ q1 q2, H p = some (.tup [.str (Str.ofString "tie"), .ref q1, .ref q2]) ∧ RowAt H q1 a ∧ RowAt H q2 b ∧ q1 ≠ q2
  | .plain n ns => H p = some (.tup (.str (txt n) :: ns.map V.int))
  | .rowed n ns r => ∃ q, H p = some (.tup (.str (txt n) :: ns.map V.int ++ [.ref q])) ∧ RowAt H q r
/-- the lists of a deed's tuple were not there before -/
def newLs (H H' : Hp) (p : Addr) : Prop := ∀ xs q, H' p = some (.tup xs) → V.ref q ∈ xs → H q = none
noncomputable def tieOf (ws : List (List Nat)) : Option Deed := by
  classical exact if h : ∃ a b, ws = a ++ [47] :: b ∧ [47] ∉ a ∧ [47] ∉ b ∧ inkOk a ∧ inkOk b then some (.tie (rowIn h.choose) (rowIn h.choose_spec.choose)) else none
theorem tie_some {ws a b : List (List Nat)} (e : ws = a ++ [47] :: b) (na : [47] ∉ a) (nb : [47] ∉ b) (ga : inkOk a) (gb : inkOk b) : tieOf ws = some (.tie (rowIn a) (rowIn b)) := by
  have h : ∃ a b, ws = a ++ [47] :: b ∧ [47] ∉ a ∧ [47] ∉ b ∧ inkOk a ∧ inkOk b := ⟨a, b, e, na, nb, ga, gb⟩
  unfold tieOf
  rw [dif_pos h]
  have key : ∀ a' b', (ws = a' ++ [47] :: b' ∧ [47] ∉ a' ∧ [47] ∉ b' ∧ inkOk a' ∧ inkOk b') → some (Deed.tie (rowIn a') (rowIn b')) = some (.tie (rowIn a) (rowIn b)) := fun a' b' ⟨e', na', nb', _⟩ => by
    obtain ⟨u, v⟩ := split_one (e.symm.trans e') na nb na' nb'
    rw [← u, ← v]
  exact key _ _ h.choose_spec.choose_spec
theorem tie_none {ws : List (List Nat)} (h : ∀ a b, ws = a ++ [47] :: b → [47] ∉ a → [47] ∉ b → ¬ (inkOk a ∧ inkOk b)) : tieOf ws = none := by
  unfold tieOf
  refine dif_neg ?_
  rintro ⟨a, b, e, na, nb, g⟩
  exact h a b e na nb g
theorem nums_iff {ws : List (List Nat)} : ws.all InkY.isNum = true ↔ numsOk ws := List.all_eq_true
theorem ink_iff {ws : List (List Nat)} : (ws.all fun w => (InkY.strOf w).isSome) = true ↔ inkOk ws := List.all_eq_true
noncomputable def wordsD (n : List Nat) (ws : List (List Nat)) : Option Deed :=
  if n = tieW then tieOf ws else match tabAt NUM n with
    | some k => if (ws.length : Int) = k ∧ ws.all InkY.isNum = true then some (.plain n (numsIn ws)) else none
    | none => match tabAt AHD n with
      | some k => if k ≤ (ws.length : Int) ∧ (ws.take k.toNat).all InkY.isNum = true ∧ ((ws.drop k.toNat).all fun w => (InkY.strOf w).isSome) = true then some (.rowed n (numsIn (ws.take k.toNat)) (rowIn (ws.drop k.toNat))) else none
      | none => none
noncomputable def parseD (cs : List Nat) : Option Deed :=
  if cs.take 5 = pourW then (match InkY.cutAt 32 (cs.drop 5) with
    | some (a, b) => if InkY.isNum a = true then some (.pour (InkY.numOf a) b) else none
    | none => none)
  else match InkY.spl 32 cs with
    | [] => none
    | n :: ws => wordsD n ws
def spReadDeed (XN : Addr) : Sp := fun vs H Q E => ∃ (cs : List Nat), vs = [.str (txt cs)] ∧ cs.length ≤ 90000 ∧ (∀ d, parseD cs = some d → ∀ (p : Addr) (H' : Hp), d.At H' p → Same H H' → newLs H H' p → Q (.ref p) H') ∧ (parseD cs = none → ∀ H', Same H H' → E (.ref XN) none H')
def rdT3 (XN : Addr) (E : XK) : TS := fun D σ H => ∃ (cs n : List Nat) (ws : List (List Nat)) (l : Addr) (s3 : Option V), σ = [some (.str (txt cs)), some (.str (txt n)), some (.ref l), s3] ∧ H l = some (wordsL ws) ∧ ws.length ≤ 100000 ∧ (∀ w ∈ ws, w.length ≤ 100000) ∧
  (tabAt NUM n = some (ws.length : Int) → numsOk ws → ∀ (p : Addr) (H' : Hp), H' p = some (.tup (.str (txt n) :: (numsIn ws).map V.int)) → Same H H' → D.rt (.ref p) H') ∧
  (tabAt NUM n = some (ws.length : Int) → ¬ numsOk ws → ∀ H', Same H H' → E (.ref XN) none H') ∧ (tabAt NUM n ≠ some (ws.length : Int) → D.nx [some (.str (txt cs)), some (.str (txt n)), some (.ref l), s3] H)
abbrev sread_deed : Stmt := top 15
theorem scread_deed : FnScope ["text", "name", "words", "many"] ["text"] (defScope sread_deed) := ⟨rfl, rfl, rfl, by decide +kernel, rfl, by decide +kernel, by decide +kernel⟩
theorem ok_read_deed {f fP fT fM fI fN fS fR XN aNUMBERS aNUMBERS_AHEAD : Addr} {fd gP gT gM gI gN gS gR : FuncData} (F : Fun K "read_deed" "read_deed" sread_deed f fd) (T : Nms mg) (G : Gbs mg) (Tb : Tbs K mg aNUMBERS aNUMBERS_AHEAD) (ZNoDeed : ExcN K mg "NoDeed" XN) (dread_pouring : DefAt K mg "read_pouring" sread_pouring ["rest"] fP gP) (dread_tie : DefAt K mg "read_tie" sread_tie ["words"] fT gT) (dread_numbers : DefAt K mg "read_numbers" sread_numbers ["words"] fM gM) (dread_ink : DefAt K mg "read_ink" sread_ink ["words"] fI gI) (dis_number : DefAt K mg "is_number" sis_number ["word"] fN gN) (dis_stretch : DefAt K mg "is_stretch" sis_stretch ["word"] fS gS) (dread_stretch : DefAt K mg "read_stretch" sread_stretch ["word"] fR gR) : FnOk P w K mg base (CX1 P w) 5 f fd ["text"] (spReadDeed XN) := by
  have gread_pouring : FnOk P w K mg base (CX1 P w) 3 _ _ ["rest"] (spReadPour XN) := ok_read_pouring dread_pouring.F T G ZNoDeed dread_numbers dis_number
  have gread_tie : FnOk P w K mg base (CX1 P w) 4 _ _ ["words"] (spReadTie XN) := ok_read_tie dread_tie.F T G ZNoDeed dread_ink dis_number dis_stretch dread_stretch
  have gread_numbers : FnOk P w K mg base (CX1 P w) 2 _ _ ["words"] (spReadNums XN) := ok_read_numbers dread_numbers.F T G ZNoDeed dis_number
  have gread_ink : FnOk P w K mg base (CX1 P w) 3 _ _ ["words"] (spReadInk XN) := ok_read_ink dread_ink.F T G ZNoDeed dis_number dis_stretch dread_stretch
  have hNUMBERS := Tb.n
  have hNUMBERS_AHEAD := Tb.a
  refine okX F scread_deed (fun vs H Q E h => ?_) (fun cdv A outer s H vs Q E hr h => ?_)
  · obtain ⟨cs, rfl, _⟩ := h
    rfl
  obtain ⟨cs, rfl, lc, k1, k2⟩ := h
  refine ⟨_, (pss_cons (ps_if (pt_val (pe_bm PySem.F.plainAttrs_str PySem.F.slot_str_startswith PySem.F.type_str_startswith InkY.mt_starts (pv 0) (pa_cons pe_str pa_nil)))
      (pss_one (ps_ret (pe_defX dread_pouring gread_pouring hr passX (pa_cons (pe_slice InkY.sl_txt (pv 0) (po_some (pe_callB call_len_str rfl T.n_len PySem.boot_len (pa_cons pe_str pa_nil))) po_none) pa_nil))))
      pss_nil)
      (pss_cons (ps_asg (pe_bm PySem.F.plainAttrs_str PySem.F.slot_str_split PySem.F.type_str_split InkY.mt_split1 (pv 0) (pa_cons pe_str pa_nil)) (InkU.pg_star rfl (pgs_cons (pg_name (i := 1) scread_deed.nd rfl (Or.inl rfl)) (pgs_cons (pg_name (i := 2) scread_deed.nd rfl (Or.inl rfl)) pgs_nil))))
      (pss_cons (ps_if (pt_cmpR op_eq (pv 1) pe_str (nomark _))
      (pss_one (ps_ret (pe_defX dread_tie gread_tie hr passX (pa_cons (pv 2) pa_nil))))
      pss_nil)
      (pss_cons (ps_imp (t' := rdT3 XN E) (ps_if (PW.pt (pw_and (pt_cmpR InkU.op_inTab (pv 1) (pe_glob (v := .ref aNUMBERS) rfl hNUMBERS rfl) rfl) (pw_and1 (pt_cmpR op_eq (pe_callB call_len_seq rfl T.n_len PySem.boot_len (pa_cons (pv 2) pa_nil)) (pe_ix InkU.ix_tab (pe_glob (v := .ref aNUMBERS) rfl hNUMBERS rfl) (pv 1) (fun _ _ => rfl)) (nomark _)))))
      (pss_one (ps_ret (pe_callTy call_tuple_of rfl T.n_tuple PyProof.Rows.boot_tuple (pa_cons (pe_op op_cat (pe_lst (pa_cons (pv 1) pa_nil)) (pe_defX dread_numbers gread_numbers hr passX (pa_cons (pv 2) pa_nil))) pa_nil))))
      pss_nil) ?b3)
      (pss_cons (ps_if (PW.pt (pw_and (pt_cmpR InkU.op_inTab (pv 1) (pe_glob (v := .ref aNUMBERS_AHEAD) rfl hNUMBERS_AHEAD rfl) rfl) (pw_and1 (pt_cmpR op_ge (pe_callB call_len_seq rfl T.n_len PySem.boot_len (pa_cons (pv 2) pa_nil)) (pe_ix InkU.ix_tab (pe_glob (v := .ref aNUMBERS_AHEAD) rfl hNUMBERS_AHEAD rfl) (pv 1) (fun _ _ => rfl)) (nomark _)))))
      (pss_cons (ps_set (i := 3) scread_deed.nd rfl (Or.inl rfl) (pe_ix InkU.ix_tab (pe_glob (v := .ref aNUMBERS_AHEAD) rfl hNUMBERS_AHEAD rfl) (pv 1) (fun _ _ => rfl)))
      (pss_one (ps_ret (pe_callTy call_tuple_of rfl T.n_tuple PyProof.Rows.boot_tuple (pa_cons (pe_op op_cat (pe_op op_cat (pe_lst (pa_cons (pv 1) pa_nil)) (pe_defX dread_numbers gread_numbers hr passX (pa_cons (pe_slice sl_list (pv 2) po_none (po_some (pv 3))) pa_nil))) (pe_lst (pa_cons (pe_defX dread_ink gread_ink hr passX (pa_cons (pe_slice sl_list (pv 2) (po_some (pv 3)) po_none) pa_nil)) pa_nil))) pa_nil)))))
      pss_nil)
      (pss_one (ps_raise PySem.F.excBase_ValueError ZNoDeed.x ZNoDeed.m rfl raiseX (pa_cons (pe_fstr (pj_str (InkY.pj_txt (pv 1) (pj_str (pj_int (pe_callB call_len_seq rfl T.n_len PySem.boot_len (pa_cons (pv 2) pa_nil)) (pj_str pj_nil)))))) pa_nil)))))))), ?_⟩
  case b3 =>
    rintro D σ H ⟨cs, n, ws, l, s3, rfl, hl, lw, sw, k1, k2, k3⟩
    refine ⟨_, rfl, aNUMBERS, txt n, NUM, rfl, rfl, Tb.nt, _, rfl, ?_⟩
    rw [tab_key]
    cases e : tabAt NUM n with
    | none => exact iteF (iteF (k3 (by rw [e]; intro z; cases z)))
    | some i =>
      refine iteT ⟨_, rfl, l, _, rfl, .inl (SqL.of hl), _, rfl, aNUMBERS, txt n, NUM, i, rfl, rfl, Tb.nt, tab_some e, rfl, _, rfl, ?_⟩
      rw [List.length_map]
      by_cases c : (ws.length : Int) = i
      · subst c
        rw [decide_eq_true rfl]
        refine iteT ⟨_, rfl, (by show 1 ≤ sizeLine; decide), fun ln hln => ?_⟩
        have s1 := same_new hln (.lst [.str (txt n)])
        refine ⟨_, rfl, l, ws, rfl, s1 _ _ hl, lw, sw, fun g q H' hq s' fq => ?_, fun g H' s' => k2 e g H' (s1.trans s')⟩
        refine ⟨ln, q, _, _, rfl, rfl, s' _ _ upd_same, hq, ?_, fun p hp => ⟨p, _, rfl, .inl ⟨SqL.of upd_same, fun t ht => ?_⟩⟩⟩
        · unfold numsIn
          rw [List.length_map, List.length_map]
          exact Nat.le_of_lt (million (by simp only [List.length_cons, List.length_nil]; omega))
        · exact k1 e g t _ upd_same (s1.trans (s'.trans ((same_new hp _).trans (same_new ht _))))
      · rw [decide_eq_false (show ¬ (V.int (ws.length : Int) = V.int i) from fun z => c (V.int.inj z))]
        exact iteF (k3 (by rw [e]; intro z; exact c (Option.some.inj z).symm))
  refine ⟨_, rfl, rfl, _, _, rfl, rfl, _, rfl, ?_⟩
  rw [starts_pour]
  by_cases c : cs.take 5 = pourW
  · rw [decide_eq_true c]
    have e5 : ((Str.ofString "pour ").length : Int) = 5 := by decide +kernel
    refine iteT ⟨_, rfl, _, rfl, by decide, _, rfl, cs, rfl, by omega, ?_⟩
    rw [e5, cut_five]
    have pd : parseD cs = match InkY.cutAt 32 (cs.drop 5) with
        | some (a, b) => if InkY.isNum a = true then some (.pour (InkY.numOf a) b) else none
        | none => none := by
      unfold parseD
      rw [if_pos c]
    refine ⟨cs.drop 5, rfl, by rw [List.length_drop]; omega, fun a b ec en p H' hp s' => ?_, fun hn H' s' => k2 ?_ H' s'⟩
    · refine k1 (.pour (InkY.numOf a) b) (by rw [pd, ec]; exact if_pos en) p H' hp s' fun xs q hx hm => ?_
      rw [hp] at hx
      injection hx with hx
      injection hx with hx
      rw [← hx] at hm
      simp at hm
    · rw [pd]
      cases e : InkY.cutAt 32 (cs.drop 5) with
      | none => rfl
      | some q =>
        obtain ⟨a, b⟩ := q
        exact if_neg (by rw [hn a b e]; exact Bool.false_ne_true)
  rw [decide_eq_false c]
  refine iteF ⟨_, rfl, rfl, cs, 32, rfl, by rw [show Str.ofString " " = ⟨#[32]⟩ by decide +kernel], by omega, fun sp hsp => ?_⟩
  have lw := InkY.spl_len 32 cs
  have sw : ∀ w ∈ InkY.spl 32 cs, w.length ≤ cs.length := fun w hw => InkY.spl_short hw
  cases ew : InkY.spl 32 cs with
  | nil => exact absurd ew (InkY.spl_ne 32 cs)
  | cons n ws =>
  have pd : parseD cs = wordsD n ws := by
    unfold parseD
    rw [if_neg c, ew]
  rw [ew] at lw sw
  rw [List.length_cons] at lw
  have sws : ∀ w ∈ ws, w.length ≤ 100000 := fun w hw => by have := sw w (List.mem_cons_of_mem _ hw); omega
  have ln := sw n List.mem_cons_self
  refine ⟨sp, _, _, rfl, SqL.of upd_same, fun l hl => ⟨_, _, rfl, _, _, rfl, rfl, ?_⟩⟩
  have s1 : Same H (upd (upd H sp (.lst ((n :: ws).map fun w => V.str (txt w)))) l (wordsL ws)) := (same_new hsp _).trans (same_new hl _)
  have h1 : (upd (upd H sp (.lst ((n :: ws).map fun w => V.str (txt w)))) l (wordsL ws)) l = some (wordsL ws) := upd_same
  generalize upd (upd H sp (.lst ((n :: ws).map fun w => V.str (txt w)))) l (wordsL ws) = H1 at s1 h1
  refine ⟨_, rfl, rfl, _, rfl, ?_⟩
  have et : decide (V.str (txt n) = V.str (Str.ofString "tie")) = decide (n = tieW) := by
    rw [show Str.ofString "tie" = txt tieW by decide +kernel]
    exact decide_eq_decide.mpr ⟨fun z => txt_inj (V.str.inj z), fun z => by rw [z]⟩
  rw [et]
  by_cases ct : n = tieW
  · rw [decide_eq_true ct]
    have pt : wordsD n ws = tieOf ws := if_pos ct
    refine iteT ⟨_, rfl, l, ws, rfl, h1, by omega, sws, fun a b e na nb ga gb p q1 q2 H' hp r1 r2 ne f1 f2 s' => ?_, fun hn H' s' => k2 (by rw [pd, pt]; exact tie_none hn) H' (s1.trans s')⟩
    refine k1 (.tie (rowIn a) (rowIn b)) (by rw [pd, pt]; exact tie_some e na nb ga gb) p H' ⟨q1, q2, hp, r1, r2, ne⟩ (s1.trans s') fun xs q hx hm => ?_
    rw [hp] at hx
    injection hx with hx
    injection hx with hx
    rw [← hx] at hm
    have hm' : q = q1 ∨ q = q2 := by simpa using hm
    rcases hm' with z | z
    · rw [z]; exact free_same s1 f1
    · rw [z]; exact free_same s1 f2
  rw [decide_eq_false ct]
  have pt : wordsD n ws = match tabAt NUM n with
    | some k => if (ws.length : Int) = k ∧ ws.all InkY.isNum = true then some (.plain n (numsIn ws)) else none
    | none => match tabAt AHD n with
      | some k => if k ≤ (ws.length : Int) ∧ (ws.take k.toNat).all InkY.isNum = true ∧ ((ws.drop k.toNat).all fun w => (InkY.strOf w).isSome) = true then some (.rowed n (numsIn (ws.take k.toNat)) (rowIn (ws.drop k.toNat))) else none
      | none => none := if_neg ct
  refine iteF ⟨cs, n, ws, l, _, rfl, h1, by omega, sws, fun e g p H' hp s' => ?_, fun e g H' s' => k2 ?_ H' (s1.trans s'), fun ne => ?_⟩
  · refine k1 (.plain n (numsIn ws)) (by rw [pd, pt, e]; exact if_pos ⟨rfl, nums_iff.mpr g⟩) p H' hp (s1.trans s') fun xs q hx hm => ?_
    rw [hp] at hx
    injection hx with hx
    injection hx with hx
    rw [← hx] at hm
    simp at hm
  · rw [pd, pt, e]
    exact if_neg fun z => g (nums_iff.mp z.2)
  have raise : tabAt AHD n = none ∨ (∃ k, tabAt AHD n = some k ∧ ¬ k ≤ (ws.length : Int)) → parseD cs = none := fun z => by
    rw [pd, pt]
    cases e : tabAt NUM n with
    | some k => exact if_neg fun y => ne (by rw [e, ← y.1])
    | none =>
      rcases z with z | ⟨k, z, z2⟩
      · rw [z]
      · rw [z]; exact if_neg fun y => z2 y.1
  refine ⟨_, rfl, aNUMBERS_AHEAD, txt n, AHD, rfl, rfl, Tb.ta, _, rfl, ?_⟩
  rw [tab_key]
  have lg : ((ws.length : Int)).natAbs.log2 < 1920 := by
    rw [Int.natAbs_natCast]
    by_cases z : ws.length = 0
    · rw [z]; decide
    · rw [Nat.log2_lt z]
      exact Nat.lt_of_lt_of_le (show ws.length < 2 ^ 17 by omega) (Nat.pow_le_pow_right (by decide) (by decide))
  have fin : tabAt AHD n = none ∨ (∃ k, tabAt AHD n = some k ∧ ¬ k ≤ (ws.length : Int)) → ∀ x : Str, [V.str x].length ≤ sizeLine ∧ E (.ref XN) none H1 := fun z x => ⟨(by show 1 ≤ sizeLine; decide), k2 (raise z) H1 s1⟩
  cases e : tabAt AHD n with
  | none =>
    exact iteF (iteF ⟨_, rfl, n, rfl, by omega, _, rfl, l, _, rfl, .inl (SqL.of h1), _, rfl, by rw [List.length_map]; exact lg, fin (.inl e)⟩)
  | some k =>
    have kr : 0 ≤ k := by
      have z : ∀ p ∈ AHD, 0 ≤ p.2 := by decide +kernel
      exact z _ (List.mem_of_find?_eq_some (tab_some e))
    refine iteT ⟨_, rfl, l, _, rfl, .inl (SqL.of h1), _, rfl, aNUMBERS_AHEAD, txt n, AHD, k, rfl, rfl, Tb.ta, tab_some e, _, _, rfl, rfl, _, rfl, ?_⟩
    rw [List.length_map]
    by_cases c2 : k ≤ (ws.length : Int)
    · rw [decide_eq_true c2]
      have pn : tabAt NUM n = none := by
        have z : ∀ p ∈ AHD, (NUM.find? fun q => decide (p.1 = q.1)) = none := by decide +kernel
        unfold tabAt
        have := z _ (List.mem_of_find?_eq_some (tab_some e))
        rw [this]
        rfl
      have pf : parseD cs = if k ≤ (ws.length : Int) ∧ (ws.take k.toNat).all InkY.isNum = true ∧ ((ws.drop k.toNat).all fun w => (InkY.strOf w).isSome) = true then some (.rowed n (numsIn (ws.take k.toNat)) (rowIn (ws.drop k.toNat))) else none := by
        rw [pd, pt, pn, e]
      refine iteT ⟨_, rfl, aNUMBERS_AHEAD, txt n, AHD, k, rfl, rfl, Tb.ta, tab_some e, ?_⟩
      refine ⟨_, rfl, (by show 1 ≤ sizeLine; decide), fun a1 ha1 => ?_⟩
      have t1 := same_new ha1 (.lst [.str (txt n)])
      refine ⟨_, rfl, _, rfl, _, rfl, l, _, rfl, SqL.of (t1 _ _ h1), fun a2 ha2 => ?_⟩
      rw [cutW_take ws kr]
      have t2 := same_new ha2 (wordsL (ws.take k.toNat))
      refine ⟨a2, ws.take k.toNat, rfl, upd_same, by rw [List.length_take]; omega, fun w hw => sws w (List.mem_of_mem_take hw), fun g q H2 hq s2 fq => ?_, fun g H2 s2 => k2 (by rw [pf]; exact if_neg fun z => g (nums_iff.mp z.2.1)) H2 (s1.trans (t1.trans (t2.trans s2)))⟩
      refine ⟨a1, q, _, _, rfl, rfl, s2 _ _ (t2 _ _ upd_same), hq, ?_, fun a3 ha3 => ?_⟩
      · unfold numsIn
        rw [List.length_map, List.length_map, List.length_take]
        exact Nat.le_of_lt (million (by simp only [List.length_cons, List.length_nil]; omega))
      have t3 := same_new ha3 (.lst ([.str (txt n)] ++ (numsIn (ws.take k.toNat)).map V.int))
      have hl3 := t3 _ _ (s2 _ _ (t2 _ _ (t1 _ _ h1)))
      refine ⟨_, rfl, _, rfl, _, rfl, l, _, rfl, SqL.of hl3, fun a4 ha4 => ?_⟩
      rw [cutW_drop ws kr]
      have t4 := same_new ha4 (wordsL (ws.drop k.toNat))
      refine ⟨a4, ws.drop k.toNat, rfl, upd_same, by rw [List.length_drop]; omega, fun w hw => sws w (List.mem_of_mem_drop hw), fun g2 q2 H3 r3 s3 fq2 => ?_, fun g2 H3 s3 => k2 (by rw [pf]; exact if_neg fun z => g2 (ink_iff.mp z.2.2)) H3 (s1.trans (t1.trans (t2.trans (s2.trans (t3.trans (t4.trans s3))))))⟩
      refine ⟨(by show 1 ≤ sizeLine; decide), fun a5 ha5 => ?_⟩
      have t5 := same_new ha5 (.lst [.ref q2])
      refine ⟨a3, a5, _, _, rfl, rfl, t5 _ _ (s3 _ _ (t4 _ _ upd_same)), upd_same, ?_, fun a6 ha6 => ⟨a6, _, rfl, .inl ⟨SqL.of upd_same, fun t ht => ?_⟩⟩⟩
      · unfold numsIn
        rw [List.length_append, List.length_map, List.length_map, List.length_take]
        exact Nat.le_of_lt (million (by simp only [List.length_cons, List.length_nil]; omega))
      have t6 := same_new ha6 (.lst ([.str (txt n)] ++ (numsIn (ws.take k.toNat)).map V.int ++ [.ref q2]))
      have t7 := same_new ht (.tup ([.str (txt n)] ++ (numsIn (ws.take k.toNat)).map V.int ++ [.ref q2]))
      have sall := s1.trans (t1.trans (t2.trans (s2.trans (t3.trans (t4.trans (s3.trans (t5.trans (t6.trans t7))))))))
      refine k1 (.rowed n (numsIn (ws.take k.toNat)) (rowIn (ws.drop k.toNat))) (by rw [pf]; exact if_pos ⟨c2, nums_iff.mpr g, ink_iff.mpr g2⟩) t _ ⟨q2, upd_same, ((r3.same t5).same t6).same t7⟩ sall fun xs q' hx hm => ?_
      rw [upd_same] at hx
      injection hx with hx
      injection hx with hx
      rw [← hx] at hm
      have hm' : q' = q2 := by simpa using hm
      rw [hm']
      exact free_same (s1.trans (t1.trans (t2.trans (s2.trans (t3.trans t4))))) fq2
    · rw [decide_eq_false c2]
      exact iteF ⟨_, rfl, n, rfl, by omega, _, rfl, l, _, rfl, .inl (SqL.of h1), _, rfl, by rw [List.length_map]; exact lg, fin (.inr ⟨k, e, c2⟩)⟩

theorem str_at {z : Str} {i : Int} {n : Nat} (hn : z.length = n) (h0 : 0 ≤ i) (h1 : i < n) : ∃ c, atI z.cps.toList i = some c := by
  have hl : i.toNat < z.cps.toList.length := by
    have : z.cps.toList.length = z.length := by show _ = z.cps.size; simp
    omega
  refine ⟨z.cps.toList[i.toNat], ?_⟩
  have e : atI z.cps.toList ((i.toNat : Nat) : Int) = some z.cps.toList[i.toNat] := atI_nat (by simp)
  rw [Int.toNat_of_nonneg h0] at e
  exact e
def spLSign : Sp := fun vs H Q _ => ∃ (l c : Addr) (b : Bool), vs = [.ref l, .bl b] ∧ SrcOk H l c ∧ ∀ (ch : Nat) (H' : Hp), SrcOk H' l c → (∀ a, a ≠ l → H' a = H a) → Q (sgV ch) H'
def spLText : Sp := fun vs H Q _ => ∃ (l c : Addr) (m : Nat), vs = [.ref l, .int (m : Nat)] ∧ SrcOk H l c ∧ m ≤ 1000 ∧ ∀ (cs : List Nat) (H' : Hp), cs.length = m → SrcOk H' l c → Keep l H H' → Q (.str (txt cs)) H'
abbrev s_law_sign : Stmt := top 21
abbrev s_law_text : Stmt := top 22
theorem sc_law_sign : FnScope ["_law_src_here", "_law_few", "_law_some"] ["_law_src_here", "_law_few"] (defScope s_law_sign) := ⟨rfl, rfl, rfl, by decide +kernel, rfl, by decide +kernel, by decide +kernel⟩
theorem sc_law_text : FnScope ["_law_src_here", "_law_many", "_law_few"] ["_law_src_here", "_law_many"] (defScope s_law_text) := ⟨rfl, rfl, rfl, by decide +kernel, rfl, by decide +kernel, by decide +kernel⟩
theorem ok_law_sign {f fN : Addr} {fd fdN : FuncData} (F : Fun K "_law_sign" "_law_sign" s_law_sign f fd) (T : Nms mg) (d_law_next : DefAt K mg "_law_next" s_law_next ["_law_src_here", "_law_base"] fN fdN) : FnOk P w K mg base CX0 2 f fd ["_law_src_here", "_law_few"] spLSign := by
  have g_law_next : FnOk P w K mg base CX0 1 fN fdN ["_law_src_here", "_law_base"] spNext := ok_law_next d_law_next.F T
  refine F.ok sc_law_sign (fun vs H Q E h => ?_) (fun cdv A outer s H vs Q E hr h => ?_)
  · obtain ⟨l, c, b, rfl, _⟩ := h
    rfl
  obtain ⟨l, c, b, rfl, S, k⟩ := h
  refine ⟨_, (pss_cons (ps_set (i := 2) sc_law_sign.nd rfl (Or.inl rfl) pe_str)
      (pss_cons (ps_if (pt_truth (pv 1) (fun _ => rfl))
      (pss_one (ps_ret (pe_ix ix_str pe_str (pe_def d_law_next g_law_next hr (pa_cons (pv 0) (pa_cons pe_int pa_nil))) (fun _ _ => rfl))))
      pss_nil)
      (pss_one (ps_ret (pe_ix ix_str (pv 2) (pe_def d_law_next g_law_next hr (pa_cons (pv 0) (pa_cons pe_int pa_nil))) (fun _ _ => rfl)))))), ?_⟩
  refine ⟨_, rfl, b, rfl, ite2 (fun _ => ?_) (fun _ => ?_)⟩
  · refine ⟨_, rfl, l, c, 4, rfl, S, by decide, by decide, fun v H1 a0 a1 S1 k1 => ?_⟩
    obtain ⟨ch, e⟩ := str_at (z := Str.ofString "a# b") (n := 4) (by decide +kernel) a0 a1
    exact ⟨_, _, ch, rfl, rfl, (by decide +kernel), e, k ch H1 S1 k1⟩
  · refine ⟨_, rfl, _, rfl, l, c, 94, rfl, S, by decide, by decide, fun v H1 a0 a1 S1 k1 => ?_⟩
    obtain ⟨ch, e⟩ := str_at (z := Str.ofString " !\"#$&'()*+,-./0123456789:;<=>?@ABCDEFGHIJKLMNOPQRSTUVWXYZ[\\]^_`abcdefghijklmnopqrstuvwxyz{|}~") (n := 94) (by decide +kernel) a0 a1
    exact ⟨_, _, ch, rfl, rfl, (by decide +kernel), e, k ch H1 S1 k1⟩
theorem ok_law_text {f fN fS : Addr} {fd fdN fdS : FuncData} (F : Fun K "_law_text" "_law_text" s_law_text f fd) (T : Nms mg) (d_law_next : DefAt K mg "_law_next" s_law_next ["_law_src_here", "_law_base"] fN fdN) (d_law_sign : DefAt K mg "_law_sign" s_law_sign ["_law_src_here", "_law_few"] fS fdS) : FnOk P w K mg base CX0 3 f fd ["_law_src_here", "_law_many"] spLText := by
  have g_law_next : FnOk P w K mg base CX0 1 fN fdN ["_law_src_here", "_law_base"] spNext := ok_law_next d_law_next.F T
  have g_law_sign : FnOk P w K mg base CX0 2 fS fdS ["_law_src_here", "_law_few"] spLSign := ok_law_sign d_law_sign.F T d_law_next
  refine F.ok sc_law_text (fun vs H Q E h => ?_) (fun cdv A outer s H vs Q E hr h => ?_)
  · obtain ⟨l, c, m, rfl, _⟩ := h
    rfl
  obtain ⟨l, c, m, rfl, S, hm, k⟩ := h
  refine ⟨_, (pss_cons (ps_set (i := 2) sc_law_text.nd rfl (Or.inr rfl) (pe_cmpR op_eq (pe_def d_law_next g_law_next hr (pa_cons (pv 0) (pa_cons pe_int pa_nil))) pe_int (nomark _)))
      (pss_one (ps_ret (pe_bm PySem.F.plainAttrs_str PySem.F.slot_str_join PySem.F.type_str_join mt_joinS pe_str (pa_cons (pe_compG (N := ["_law_k", "_law_src_here", "_law_few"]) (compG (sc := defScope s_law_text) (NX := ["_law_src_here", "_law_many", "_law_few"]) (jx := [none, some 0, some 2]) rfl rfl rfl (by decide +kernel) (by decide +kernel) rfl (by decide +kernel) rfl (by decide +kernel)) rfl (pi_range1 rfl T.n_range (pa_cons (pv 1) pa_nil)) (fun _ _ _ _ _ _ => (pg_name (i := 0) (show List.Nodup (["_law_k", "_law_src_here", "_law_few"] : List Str) by decide +kernel) rfl (Or.inl rfl))) (fun _ _ _ _ _ _ => pts_nil) (fun _ _ _ _ _ _ => (pe_def d_law_sign g_law_sign hr (pa_cons (pv 1) (pa_cons (pv 2) pa_nil))))) pa_nil))))), ?_⟩
  refine ⟨_, rfl, l, c, 2, rfl, S, by decide, by decide, fun v H1 _ _ S1 k1 => ⟨rfl, ?_⟩⟩
  have K1 : Keep l H H1 := fun b o e m => (k1 b m).trans e
  refine ⟨rfl, _, rfl, (m : Nat), rfl, by omega, by omega, fun acc hacc => compF_range (lo := 0) (k := ((m : Nat) : Int).toNat) (fun i σ H2 => ∃ (u : Option V) (cs : List Nat), σ = [u, some (.ref l), some (.bl (decide (V.int v = V.int 0)))] ∧ H2 acc = some (.lst (cs.map sgV)) ∧ cs.length = i ∧ SrcOk H2 l c ∧ Keep l H H2) ⟨none, [], rfl, upd_same, rfl, S1.same (same_new hacc _), fun b o e m => same_new hacc _ _ _ (K1 _ _ e m)⟩ ?_ ?_⟩
  · rintro i σ H2 hi ⟨u, cs, rfl, ha, hl, S2, K2⟩
    have na : acc ≠ l := (S1.ne hacc).1.symm
    have nc : acc ≠ c := (S1.ne hacc).2.symm
    refine ⟨_, rfl, _, rfl, l, c, _, rfl, S2, fun ch H3 S3 k3 => ⟨_, by rw [k3 acc na]; exact ha, (by rw [List.length_map]; exact million (by omega)), _, cs ++ [ch], rfl, ?_, ?_, ?_, ?_⟩⟩
    · rw [upd_same, List.map_append]
      rfl
    · rw [List.length_append, hl]
      rfl
    · exact S3.keep (keep_upd acc _ _) na.symm nc.symm
    · intro b o e m
      by_cases z : b = acc
      · rw [z] at e
        have := free_keep K1 na hacc
        rw [this] at e
        cases e
      rw [upd_ne z, k3 b m]
      exact K2 _ _ e m
  · rintro σ H2 ⟨u, cs, rfl, ha, hl, S2, K2⟩
    have hl' : cs.length = m := by omega
    exact ⟨acc, cs, rfl, rfl, ha, by omega, k cs H2 hl' S2 K2⟩


def spLNum : Sp := fun vs H Q _ => ∃ (l c : Addr), vs = [.ref l] ∧ SrcOk H l c ∧ ∀ (v : Int) (H' : Hp), 0 ≤ v → v < 10 ^ 60 → SrcOk H' l c → Keep l H H' → Q (.int v) H'
abbrev s_law_number : Stmt := top 23
theorem sc_law_number : FnScope ["_law_src_here"] ["_law_src_here"] (defScope s_law_number) := ⟨rfl, rfl, rfl, by decide +kernel, rfl, by decide +kernel, by decide +kernel⟩
theorem ok_law_number {f fN : Addr} {fd gN : FuncData} (F : Fun K "_law_number" "_law_number" s_law_number f fd) (T : Nms mg) (d_law_next : DefAt K mg "_law_next" s_law_next ["_law_src_here", "_law_base"] fN gN) : FnOk P w K mg base CX0 2 f fd ["_law_src_here"] spLNum := by
  have g_law_next : FnOk P w K mg base CX0 1 _ _ ["_law_src_here", "_law_base"] spNext := ok_law_next d_law_next.F T
  refine F.ok sc_law_number (fun vs H Q E h => ?_) (fun cdv A outer s H vs Q E hr h => ?_)
  · obtain ⟨l, c, rfl, _⟩ := h
    rfl
  obtain ⟨l, c, rfl, S, k⟩ := h
  refine ⟨_, (pss_one (ps_ret (pe_def d_law_next g_law_next hr (pa_cons (pv 0) (pa_cons (pe_ix ix_list (pe_lst (pa_cons pe_int (pa_cons (pe_op op_pow pe_int pe_int) pa_nil))) (pe_def d_law_next g_law_next hr (pa_cons (pv 0) (pa_cons pe_int pa_nil))) (fun _ _ => rfl)) pa_nil))))), ?_⟩
  refine ⟨_, rfl, _, _, rfl, rfl, ⟨by decide, by decide, by decide⟩, (by show 2 ≤ sizeLine; decide), fun t ht => ?_⟩
  have s1 := same_new ht (.lst [.int 12, .int (10 ^ (60 : Int).toNat)])
  have h1 : (upd H t (.lst [.int 12, .int (10 ^ (60 : Int).toNat)])) t = some (.lst [.int 12, .int (10 ^ (60 : Int).toNat)]) := upd_same
  generalize upd H t (.lst [.int 12, .int (10 ^ (60 : Int).toNat)]) = H1 at s1 h1
  have nt := S.ne ht
  refine ⟨_, rfl, l, c, 2, rfl, S.same s1, by decide, by decide, fun v H2 v0 v1 S2 k2 => ?_⟩
  have h2 : H2 t = some (.lst [.int 12, .int (10 ^ (60 : Int).toNat)]) := (k2 t nt.1.symm).trans h1
  have kk : Keep l H H2 := fun a o e n => (k2 a n).trans (s1 _ _ e)
  have hv : v = 0 ∨ v = 1 := by omega
  rcases hv with rfl | rfl
  · refine ⟨t, _, _, _, rfl, rfl, SqL.of h2, at20, l, c, 12, rfl, S2, by decide, by decide, fun w H3 w0 w1 S3 k3 => k w H3 w0 (by omega) S3 (kk.trans (off_keep k3))⟩
  · refine ⟨t, _, _, _, rfl, rfl, SqL.of h2, at21, l, c, _, rfl, S2, by decide, by decide, fun w H3 w0 w1 S3 k3 => k w H3 w0 w1 S3 (kk.trans (off_keep k3))⟩

def FitN (n : Int) : Prop := 0 ≤ n ∧ n < 10 ^ 60
theorem keepAcc {l acc : Addr} {H H3 H4 H5 : Hp} (h : H3 acc = none) (k3 : Keep l H H3) (k4 : Keep l H H4) (k : Keep acc H4 H5) : Keep l H H5 := fun a o e n => k a o (k4 a o e n) (ne_of_none (k3 a o e n) h)
def FitR (r : Row) : Prop := r.length ≤ 29 ∧ ∀ p ∈ r, FitN p.1 ∧ FitN p.2
theorem pick_any {α : Type} {xs : List α} {v : Int} (v0 : 0 ≤ v) (v1 : v < xs.length) : ∃ x ∈ xs, atI xs v = some x := by
  obtain ⟨j, rfl⟩ : ∃ j : Nat, v = j := ⟨v.toNat, by omega⟩
  have hj : j < xs.length := by omega
  exact ⟨xs[j], List.getElem_mem hj, atI_nat (List.getElem?_eq_getElem hj)⟩
def spLInk : Sp := fun vs H Q _ => ∃ (l c : Addr), vs = [.ref l] ∧ SrcOk H l c ∧ ∀ (r : Row) (q : Addr) (H' : Hp), FitR r → RowAt H' q r → SrcOk H' l c → Keep l H H' → H q = none → Q (.ref q) H'
abbrev s_law_ink_by : Stmt := top 24
theorem sc_law_ink_by : FnScope ["_law_src_here", "_law_many"] ["_law_src_here"] (defScope s_law_ink_by) := ⟨rfl, rfl, rfl, by decide +kernel, rfl, by decide +kernel, by decide +kernel⟩
theorem ok_law_ink_by {f fN fM : Addr} {fd gN gM : FuncData} (F : Fun K "_law_ink_by" "_law_ink_by" s_law_ink_by f fd) (T : Nms mg) (d_law_next : DefAt K mg "_law_next" s_law_next ["_law_src_here", "_law_base"] fN gN) (d_law_number : DefAt K mg "_law_number" s_law_number ["_law_src_here"] fM gM) : FnOk P w K mg base CX0 3 f fd ["_law_src_here"] spLInk := by
  have g_law_next : FnOk P w K mg base CX0 1 _ _ ["_law_src_here", "_law_base"] spNext := ok_law_next d_law_next.F T
  have g_law_number : FnOk P w K mg base CX0 2 _ _ ["_law_src_here"] spLNum := ok_law_number d_law_number.F T d_law_next
  refine F.ok sc_law_ink_by (fun vs H Q E h => ?_) (fun cdv A outer s H vs Q E hr h => ?_)
  · obtain ⟨l, c, rfl, _⟩ := h
    rfl
  obtain ⟨l, c, rfl, S, k⟩ := h
  refine ⟨_, (pss_cons (ps_set (i := 1) sc_law_ink_by.nd rfl (Or.inl rfl) (pe_def d_law_next g_law_next hr (pa_cons (pv 0) (pa_cons (pe_ix ix_list (pe_lst (pa_cons pe_int (pa_cons pe_int (pa_cons pe_int (pa_cons pe_int pa_nil))))) (pe_def d_law_next g_law_next hr (pa_cons (pv 0) (pa_cons pe_int pa_nil))) (fun _ _ => rfl)) pa_nil))))
      (pss_one (ps_ret (pe_compG (N := ["_law_k", "_law_src_here"]) (compG (sc := defScope s_law_ink_by) (NX := ["_law_src_here", "_law_many"]) (jx := [none, some 0]) rfl rfl rfl (by decide +kernel) (by decide +kernel) rfl (by decide +kernel) rfl (by decide +kernel)) rfl (pi_range1 rfl T.n_range (pa_cons (pv 1) pa_nil)) (fun _ _ _ _ _ _ => (pg_name (i := 0) (show List.Nodup (["_law_k", "_law_src_here"] : List Str) by decide +kernel) rfl (Or.inl rfl))) (fun _ _ _ _ _ _ => pts_nil) (fun _ _ _ _ _ _ => (pe_tup (pa_cons (pe_def d_law_number g_law_number hr (pa_cons (pv 1) pa_nil)) (pa_cons (pe_def d_law_number g_law_number hr (pa_cons (pv 1) pa_nil)) pa_nil)))))))), ?_⟩
  refine ⟨_, rfl, (by show 4 ≤ sizeLine; decide), fun t ht => ?_⟩
  have s1 := same_new ht (.lst [.int 4, .int 4, .int 4, .int 30])
  have h1 : (upd H t (.lst [.int 4, .int 4, .int 4, .int 30])) t = some (.lst [.int 4, .int 4, .int 4, .int 30]) := upd_same
  generalize upd H t (.lst [.int 4, .int 4, .int 4, .int 30]) = H1 at s1 h1
  have nt := S.ne ht
  refine ⟨_, rfl, l, c, 4, rfl, S.same s1, by decide, by decide, fun v H2 v0 v1 S2 k2 => ?_⟩
  have h2 : H2 t = some (.lst [.int 4, .int 4, .int 4, .int 30]) := (k2 t nt.1.symm).trans h1
  have K2 : Keep l H H2 := fun a o e n => (k2 a n).trans (s1 _ _ e)
  obtain ⟨x, hx, ex⟩ := pick_any (xs := [V.int 4, .int 4, .int 4, .int 30]) v0 (by show v < 4; exact v1)
  obtain ⟨b, rfl, b0, b1⟩ : ∃ b : Int, x = .int b ∧ 0 < b ∧ b ≤ 30 := by
    rcases List.mem_cons.mp hx with z | z
    · exact ⟨4, z, by decide, by decide⟩
    rcases List.mem_cons.mp z with z | z
    · exact ⟨4, z, by decide, by decide⟩
    rcases List.mem_cons.mp z with z | z
    · exact ⟨4, z, by decide, by decide⟩
    · exact ⟨30, List.mem_singleton.mp z, by decide, by decide⟩
  refine ⟨t, _, _, _, rfl, rfl, SqL.of h2, ex, l, c, b, rfl, S2, b0, Int.lt_of_le_of_lt b1 (by decide), fun m H3 m0 m1 S3 k3 => ?_⟩
  have K3 : Keep l H H3 := K2.trans (off_keep k3)
  refine ⟨_, rfl, m, rfl, by omega, by omega, fun acc hacc => ?_⟩
  have nq := S3.ne hacc
  refine compF_range (lo := 0) (k := m.toNat) (fun i σ H4 => ∃ (u : Option V) (as : List Addr) (r : Row), σ = [u, some (.ref l)] ∧ H4 acc = some (.lst (as.map V.ref)) ∧ PairsAt H4 as r ∧ r.length = i ∧ (∀ p ∈ r, FitN p.1 ∧ FitN p.2) ∧ as.length = i ∧ SrcOk H4 l c ∧ Keep l H H4) ⟨none, [], [], rfl, upd_same, .nil, rfl, (fun _ z => by cases z), rfl, S3.same (same_new hacc _), K3.trans (fun a o e _ => same_new hacc _ a o e)⟩ ?_ ?_
  · rintro i σ H4 hi ⟨u, as, r, rfl, h4, pa, lr, fr, la, S4, K4⟩
    refine ⟨_, rfl, l, c, rfl, S4, fun x H5 x0 x1 S5 K5 => ⟨_, rfl, l, c, rfl, S5, fun y H6 y0 y1 S6 K6 => ⟨(by show 2 ≤ sizeLine; decide), fun p hp => ?_⟩⟩⟩
    obtain ⟨ls4, hl4⟩ := S4.lst
    obtain ⟨ls5, hl5⟩ := S5.lst
    have h6 : H6 acc = some (.lst (as.map V.ref)) := K6 _ _ (K5 _ _ h4 nq.1.symm) nq.1.symm
    have pa6 := (pa.keep hl4 K5).keep hl5 K6
    have s7 := same_new hp (.tup [.int x, .int y])
    have h7 := s7 _ _ h6
    have pa7 := pa6.same s7
    refine ⟨_, h7, million (by rw [List.length_map]; omega), _, as ++ [p], r ++ [(x, y)], rfl, ?_, ?_, by rw [List.length_append, lr]; rfl, ?_, by rw [List.length_append, la]; rfl, (S6.same s7).keep (keep_upd acc _ _) nq.1 nq.2, ?_⟩
    · rw [upd_same, List.map_append]
      rfl
    · exact (pa7.snoc (p := (x, y)) upd_same).keep h7 (keep_upd acc _ _)
    · intro q hq
      rcases List.mem_append.mp hq with z | z
      · exact fr q z
      · rw [List.mem_singleton.mp z]; exact ⟨⟨x0, x1⟩, y0, y1⟩
    · exact keepAcc hacc K3 (K4.trans (K5.trans (K6.trans fun a o e _ => s7 a o e))) (keep_upd acc _ _)
  · rintro σ H4 ⟨u, as, r, rfl, h4, pa, lr, fr, la, S4, K4⟩
    exact k r acc H4 ⟨by omega, fr⟩ ⟨as, h4, pa⟩ S4 K4 (free_keep K3 nq.1.symm hacc)

def spLPlain : Sp := fun vs H Q _ => ∃ (l c : Addr) (v : Int), vs = [.ref l, .int v] ∧ SrcOk H l c ∧ 0 ≤ v ∧ v < 10 ∧ ∀ (n : List Nat) (ns : List Int) (p : Addr) (H' : Hp), tabAt NUM n = some (ns.length : Int) → (∀ x ∈ ns, FitN x) → H' p = some (.tup (.str (txt n) :: ns.map V.int)) → SrcOk H' l c → Keep l H H' → Q (.ref p) H'
abbrev s_law_plain_deed : Stmt := top 25
theorem sc_law_plain_deed : FnScope ["_law_src_here", "_law_way", "_law_name", "_law_many"] ["_law_src_here", "_law_way"] (defScope s_law_plain_deed) := ⟨rfl, rfl, rfl, by decide +kernel, rfl, by decide +kernel, by decide +kernel⟩
def cE (q : Str × Nat × Pos) : Expr := .Constant (.str q.1) q.2.1 q.2.2
def cI (q : Int × Nat × Pos) : Expr := .Constant (.int q.1) q.2.1 q.2.2
def tStrs : List Str → TA
  | [] => tNil
  | s :: r => tCons (tC (.str s)) (tStrs r)
def tInts : List Int → TA
  | [] => tNil
  | s :: r => tCons (tC (.int s)) (tInts r)
theorem pa_strs {X : Cx} : ∀ l : List (Str × Nat × Pos), PA X (l.map cE) (tStrs (l.map (·.1)))
  | [] => pa_nil
  | (s, j, p) :: r => pa_cons (es := r.map cE) pe_str (pa_strs r)
theorem pa_ints {X : Cx} : ∀ l : List (Int × Nat × Pos), PA X (l.map cI) (tInts (l.map (·.1)))
  | [] => pa_nil
  | (s, j, p) :: r => pa_cons (es := r.map cI) pe_int (pa_ints r)
theorem tStrs_is : ∀ (ss : List Str) {σ : L2.St} {H : Hp} {Q : List V → Hp → Prop}, Q (ss.map V.str) H → tStrs ss σ H Q
  | [], _, _, _, h => h
  | s :: r, σ, H, Q, h => tStrs_is r (Q := fun xs H1 => Q (V.str s :: xs) H1) h
theorem tInts_is : ∀ (ss : List Int) {σ : L2.St} {H : Hp} {Q : List V → Hp → Prop}, Q (ss.map V.int) H → tInts ss σ H Q
  | [], _, _, _, h => h
  | s :: r, σ, H, Q, h => tInts_is r (Q := fun xs H1 => Q (V.int s :: xs) H1) h
theorem asg_strs {K : PySem.W.Frag} {ss : List Str} {tb : TE} {gt : TG} {D : L2.Ends} {σ : L2.St} {H : Hp} (hz : ss.length ≤ sizeLine) (h : ∀ p, H p = none → tb σ (upd H p (.lst (ss.map V.str))) fun y H2 => rIxL K (.ref p) y H2 fun v H3 => gt v σ H3 D.nx) : tAsg (tOp (rIxL K) (tLst (tStrs ss)) tb) gt D σ H := by
  show tStrs ss σ H _
  exact tStrs_is ss ⟨by rw [List.length_map]; exact hz, fun p hp => h p hp⟩
theorem asg_ints {K : PySem.W.Frag} {ss : List Int} {tb : TE} {gt : TG} {D : L2.Ends} {σ : L2.St} {H : Hp} (hz : ss.length ≤ sizeLine) (h : ∀ p, H p = none → tb σ (upd H p (.lst (ss.map V.int))) fun y H2 => rIxL K (.ref p) y H2 fun v H3 => gt v σ H3 D.nx) : tAsg (tOp (rIxL K) (tLst (tInts ss)) tb) gt D σ H := by
  show tInts ss σ H _
  exact tInts_is ss ⟨by rw [List.length_map]; exact hz, fun p hp => h p hp⟩
def litS : Expr → Str × Nat × Pos
  | .Constant (.str s) j p => (s, j, p)
  | _ => (Str.empty, 0, ⟨0, 0, 0, 0⟩)
def litI : Expr → Int × Nat × Pos
  | .Constant (.int s) j p => (s, j, p)
  | _ => (0, 0, ⟨0, 0, 0, 0⟩)
def asgAt : Stmt → List Expr
  | .Assign _ (.Subscript (.List es _) _ _) _ => es
  | _ => []
def asgSet (es : List Expr) : Stmt → Stmt
  | .Assign t (.Subscript (.List _ p) b q) r => .Assign t (.Subscript (.List es p) b q) r
  | s => s
def pdBody (es1 es2 : List Expr) : List Stmt := match defBody s_law_plain_deed with
  | a :: b :: r => asgSet es1 a :: asgSet es2 b :: r
  | x => x
def pdAt (i : Nat) : List Expr := asgAt ((defBody s_law_plain_deed).getD i (.Pass ⟨0, 0, 0, 0⟩))
abbrev nmS : List Str := [Str.ofString "fresh", Str.ofString "fix", Str.ofString "untie", Str.ofString "read", Str.ofString "back", Str.ofString "fork", Str.ofString "cut", Str.ofString "window", Str.ofString "move", Str.ofString "quote"]
abbrev nmI : List Int := [0, 1, 1, 1, 2, 2, 3, 3, 4, 5]
theorem pd_a : ((pdAt 0).map litS).map (·.1) = nmS := by decide +kernel
theorem pd_b : ((pdAt 1).map litI).map (·.1) = nmI := by decide +kernel
theorem pd_p1 (X : Cx) : PA X (((pdAt 0).map litS).map cE) (tStrs nmS) := by
  have h := @pa_strs X ((pdAt 0).map litS)
  rw [pd_a] at h
  exact h
theorem pd_p2 (X : Cx) : PA X (((pdAt 1).map litI).map cI) (tInts nmI) := by
  have h := @pa_ints X ((pdAt 1).map litI)
  rw [pd_b] at h
  exact h
theorem pd_split : ∃ es1 es2 : List Expr, defBody s_law_plain_deed = pdBody es1 es2 ∧ (∀ X : Cx, PA X es1 (tStrs nmS)) ∧ (∀ X : Cx, PA X es2 (tInts nmI)) := by
  refine ⟨((pdAt 0).map litS).map cE, ((pdAt 1).map litI).map cI, ?_, ?_, ?_⟩
  · rfl
  · exact pd_p1
  · exact pd_p2
theorem nm_at {j : Nat} (h : j < 10) : ∃ (s : Str) (k : Nat), nmS[j]? = some s ∧ nmI[j]? = some (k : Int) ∧ tabAt NUM s.cps.toList = some (k : Int) ∧ k ≤ 5 := by
  have key : ∀ j : Fin 10, ∃ k : Fin 6, nmI[j.val]? = some ((k.val : Nat) : Int) ∧ tabAt NUM (nmS[j.val]?.getD Str.empty).cps.toList = some ((k.val : Nat) : Int) := by decide +kernel
  obtain ⟨k, h1, h2⟩ := key ⟨j, h⟩
  refine ⟨nmS[j]'(by show j < 10; exact h), k.val, List.getElem?_eq_getElem _, h1, ?_, by omega⟩
  have e : nmS[j]?.getD Str.empty = nmS[j]'(by show j < 10; exact h) := by rw [List.getElem?_eq_getElem (by show j < 10; exact h)]; rfl
  have h2' : tabAt NUM (nmS[j]?.getD Str.empty).cps.toList = some ((k.val : Nat) : Int) := h2
  rw [e] at h2'
  exact h2'
theorem ok_law_plain_deed {f fM fN : Addr} {fd gM gN : FuncData} (F : Fun K "_law_plain_deed" "_law_plain_deed" s_law_plain_deed f fd) (T : Nms mg) (d_law_number : DefAt K mg "_law_number" s_law_number ["_law_src_here"] fM gM) (d_law_next : DefAt K mg "_law_next" s_law_next ["_law_src_here", "_law_base"] fN gN) : FnOk P w K mg base CX0 3 f fd ["_law_src_here", "_law_way"] spLPlain := by
  have g_law_number : FnOk P w K mg base CX0 2 _ _ ["_law_src_here"] spLNum := ok_law_number d_law_number.F T d_law_next
  refine F.ok sc_law_plain_deed (fun vs H Q E h => ?_) (fun cdv A outer s H vs Q E hr h => ?_)
  · obtain ⟨l, c, v, rfl, _⟩ := h
    rfl
  obtain ⟨l, c, v, rfl, S, v0, v1, k⟩ := h
  obtain ⟨es1, es2, he, p1, p2⟩ := pd_split
  rw [he]
  refine ⟨_, (pss_cons (ps_set (i := 2) sc_law_plain_deed.nd rfl (Or.inl rfl) (pe_ix ix_list (pe_lst (p1 _)) (pv 1) (fun _ _ => rfl)))
      (pss_cons (ps_set (i := 3) sc_law_plain_deed.nd rfl (Or.inl rfl) (pe_ix ix_list (pe_lst (p2 _)) (pv 1) (fun _ _ => rfl)))
      (pss_one (ps_ret (pe_op op_catT (pe_tup (pa_cons (pv 2) pa_nil)) (pe_callTy call_tuple_of rfl T.n_tuple PyProof.Rows.boot_tuple (pa_cons (pe_compG (N := ["_law_k", "_law_src_here"]) (compG (sc := defScope s_law_plain_deed) (NX := ["_law_src_here", "_law_way", "_law_name", "_law_many"]) (jx := [none, some 0]) rfl rfl rfl (by decide +kernel) (by decide +kernel) rfl (by decide +kernel) rfl (by decide +kernel)) rfl (pi_range1 rfl T.n_range (pa_cons (pv 3) pa_nil)) (fun _ _ _ _ _ _ => (pg_name (i := 0) (show List.Nodup (["_law_k", "_law_src_here"] : List Str) by decide +kernel) rfl (Or.inl rfl))) (fun _ _ _ _ _ _ => pts_nil) (fun _ _ _ _ _ _ => (pe_def d_law_number g_law_number hr (pa_cons (pv 1) pa_nil)))) pa_nil))))))), ?_⟩
  obtain ⟨j, rfl⟩ : ∃ j : Nat, v = j := ⟨v.toNat, by omega⟩
  obtain ⟨nm, kk, e1, e2, e3, k5⟩ := nm_at (j := j) (by omega)
  refine asg_strs (ss := nmS) (by show 10 ≤ sizeLine; decide) fun t1 ht1 => ?_
  have s1 := same_new ht1 (.lst (nmS.map V.str))
  refine ⟨_, rfl, t1, _, _, _, rfl, rfl, SqL.of upd_same, atI_nat (v := V.str nm) (by rw [List.getElem?_map, e1]; rfl), ?_⟩
  refine asg_ints (ss := nmI) (by show 10 ≤ sizeLine; decide) fun t2 ht2 => ?_
  have s2 := same_new ht2 (.lst (nmI.map V.int))
  refine ⟨_, rfl, t2, _, _, _, rfl, rfl, SqL.of upd_same, atI_nat (v := V.int (kk : Int)) (by rw [List.getElem?_map, e2]; rfl), ?_⟩
  have s12 := s1.trans s2
  generalize upd (upd H t1 (.lst (nmS.map V.str))) t2 (.lst (nmI.map V.int)) = H1 at s12
  refine ⟨_, rfl, (by show 1 ≤ sizeLine; decide), fun a1 ha1 => ?_⟩
  have t1' := same_new ha1 (.tup [V.str nm])
  have h1 : (upd H1 a1 (.tup [V.str nm])) a1 = some (.tup [V.str nm]) := upd_same
  have s3 := s12.trans t1'
  generalize upd H1 a1 (.tup [V.str nm]) = H2 at t1' h1 s3
  have S2 := S.same s3
  refine ⟨_, rfl, (kk : Int), rfl, by omega, by omega, fun acc hacc => ?_⟩
  have nq := S2.ne hacc
  refine compF_range (lo := 0) (k := ((kk : Int)).toNat) (fun i σ H4 => ∃ (u : Option V) (ns : List Int), σ = [u, some (.ref l)] ∧ H4 acc = some (.lst (ns.map V.int)) ∧ ns.length = i ∧ (∀ x ∈ ns, FitN x) ∧ SrcOk H4 l c ∧ Keep l H2 H4) ⟨none, [], rfl, upd_same, rfl, (fun _ z => by cases z), S2.same (same_new hacc _), fun a o e _ => same_new hacc _ a o e⟩ ?_ ?_
  · rintro i σ H4 hi ⟨u, ns, rfl, h4, ln, fn, S4, K4⟩
    refine ⟨_, rfl, l, c, rfl, S4, fun x H5 x0 x1 S5 K5 => ⟨_, K5 _ _ h4 nq.1.symm, million (by rw [List.length_map]; omega), _, ns ++ [x], rfl, ?_, by rw [List.length_append, ln]; rfl, ?_, S5.keep (keep_upd acc _ _) nq.1 nq.2, ?_⟩⟩
    · rw [upd_same, List.map_append]
      rfl
    · intro y hy
      rcases List.mem_append.mp hy with z | z
      · exact fn y z
      · rw [List.mem_singleton.mp z]; exact ⟨x0, x1⟩
    · exact keepAcc hacc (fun a o e _ => e) (K4.trans K5) (keep_upd acc _ _)
  · rintro σ H4 ⟨u, ns, rfl, h4, ln, fn, S4, K4⟩
    have h14 : H4 a1 = some (.tup [V.str nm]) := K4 _ _ h1 (by
      obtain ⟨ls, hls⟩ := S2.lst
      exact ne_of h1 hls (by intro z; cases z))
    have en : tabAt NUM nm.cps.toList = some (ns.length : Int) := by
      rw [e3, ln, Int.toNat_natCast]
    have tn : V.str nm = V.str (txt nm.cps.toList) := by rw [txt_of nm]
    have KH : Keep l H H4 := fun a o e n => K4 a o (s3 a o e) n
    refine ⟨acc, _, rfl, .inl ⟨SqL.of h4, fun tp htp => ?_⟩⟩
    have s5 := same_new htp (.tup (ns.map V.int))
    refine ⟨a1, tp, _, _, rfl, rfl, SqT.of (s5 _ _ h14), SqT.of upd_same, List.cons_ne_nil _ _, ?_, fun z => ?_, fun z p hp => ?_⟩
    · rw [List.length_map]
      exact Nat.le_of_lt (million (by simp only [List.length_cons, List.length_nil]; omega))
    · have z' : ns = [] := by simpa using z
      refine k nm.cps.toList ns a1 _ en fn ?_ (S4.same s5) (KH.trans fun a o e _ => s5 a o e)
      rw [s5 _ _ h14, z', ← tn]
      rfl
    · refine k nm.cps.toList ns p _ en fn ?_ ((S4.same s5).same (same_new hp _)) (KH.trans fun a o e _ => same_new hp _ a o (s5 a o e))
      rw [upd_same, ← tn]
      rfl

def Deed.Ok : Deed → Prop
  | .pour h t => FitN h ∧ t.length ≤ 200
  | .tie a b => FitR a ∧ FitR b
  | .plain n ns => tabAt NUM n = some (ns.length : Int) ∧ ∀ x ∈ ns, FitN x
  | .rowed n ns r => tabAt AHD n = some (ns.length : Int) ∧ (∀ x ∈ ns, FitN x) ∧ FitR r
def spLDeed : Sp := fun vs H Q _ => ∃ (l c : Addr), vs = [.ref l] ∧ SrcOk H l c ∧ ∀ (d : Deed) (p : Addr) (H' : Hp), d.Ok → d.At H' p → SrcOk H' l c → Keep l H H' → Q (.ref p) H'
abbrev s_law_deed_by : Stmt := top 26
theorem sc_law_deed_by : FnScope ["_law_src_here", "_law_way", "_law_many"] ["_law_src_here"] (defScope s_law_deed_by) := ⟨rfl, rfl, rfl, by decide +kernel, rfl, by decide +kernel, by decide +kernel⟩
theorem ok_law_deed_by {f fN fM fI fP fS fT : Addr} {fd gN gM gI gP gS gT : FuncData} (F : Fun K "_law_deed_by" "_law_deed_by" s_law_deed_by f fd) (T : Nms mg) (d_law_next : DefAt K mg "_law_next" s_law_next ["_law_src_here", "_law_base"] fN gN) (d_law_number : DefAt K mg "_law_number" s_law_number ["_law_src_here"] fM gM) (d_law_ink_by : DefAt K mg "_law_ink_by" s_law_ink_by ["_law_src_here"] fI gI) (d_law_plain_deed : DefAt K mg "_law_plain_deed" s_law_plain_deed ["_law_src_here", "_law_way"] fP gP) (d_law_sign : DefAt K mg "_law_sign" s_law_sign ["_law_src_here", "_law_few"] fS gS) (d_law_text : DefAt K mg "_law_text" s_law_text ["_law_src_here", "_law_many"] fT gT) : FnOk P w K mg base CX0 4 f fd ["_law_src_here"] spLDeed := by
  have g_law_next : FnOk P w K mg base CX0 1 _ _ ["_law_src_here", "_law_base"] spNext := ok_law_next d_law_next.F T
  have g_law_number : FnOk P w K mg base CX0 2 _ _ ["_law_src_here"] spLNum := ok_law_number d_law_number.F T d_law_next
  have g_law_ink_by : FnOk P w K mg base CX0 3 _ _ ["_law_src_here"] spLInk := ok_law_ink_by d_law_ink_by.F T d_law_next d_law_number
  have g_law_plain_deed : FnOk P w K mg base CX0 3 _ _ ["_law_src_here", "_law_way"] spLPlain := ok_law_plain_deed d_law_plain_deed.F T d_law_number d_law_next
  have g_law_text : FnOk P w K mg base CX0 3 _ _ ["_law_src_here", "_law_many"] spLText := ok_law_text d_law_text.F T d_law_next d_law_sign
  refine F.ok sc_law_deed_by (fun vs H Q E h => ?_) (fun cdv A outer s H vs Q E hr h => ?_)
  · obtain ⟨l, c, rfl, _⟩ := h
    rfl
  obtain ⟨l, c, rfl, S, k⟩ := h
  refine ⟨_, (pss_cons (ps_set (i := 1) sc_law_deed_by.nd rfl (Or.inl rfl) (pe_def d_law_next g_law_next hr (pa_cons (pv 0) (pa_cons pe_int pa_nil))))
      (pss_cons (ps_if (pt_cmpR op_lt (pv 1) pe_int (nomark _))
      (pss_one (ps_ret (pe_def d_law_plain_deed g_law_plain_deed hr (pa_cons (pv 0) (pa_cons (pv 1) pa_nil)))))
      pss_nil)
      (pss_cons (ps_if (pt_cmpR op_eq (pv 1) pe_int (nomark _))
      (pss_cons (ps_set (i := 2) sc_law_deed_by.nd rfl (Or.inl rfl) (pe_ix ix_list (pe_lst (pa_cons (pe_def d_law_next g_law_next hr (pa_cons (pv 0) (pa_cons pe_int pa_nil))) (pa_cons (pe_op op_sub pe_int (pe_def d_law_next g_law_next hr (pa_cons (pv 0) (pa_cons pe_int pa_nil)))) pa_nil))) (pe_op op_fdivB (pe_def d_law_next g_law_next hr (pa_cons (pv 0) (pa_cons pe_int pa_nil))) pe_int) (fun _ _ => rfl)))
      (pss_one (ps_ret (pe_tup (pa_cons pe_str (pa_cons (pe_def d_law_number g_law_number hr (pa_cons (pv 0) pa_nil)) (pa_cons (pe_def d_law_text g_law_text hr (pa_cons (pv 0) (pa_cons (pv 2) pa_nil))) pa_nil)))))))
      pss_nil)
      (pss_cons (ps_if (pt_cmpR op_eq (pv 1) pe_int (nomark _))
      (pss_one (ps_ret (pe_tup (pa_cons pe_str (pa_cons (pe_def d_law_number g_law_number hr (pa_cons (pv 0) pa_nil)) (pa_cons (pe_def d_law_number g_law_number hr (pa_cons (pv 0) pa_nil)) (pa_cons (pe_def d_law_ink_by g_law_ink_by hr (pa_cons (pv 0) pa_nil)) pa_nil)))))))
      pss_nil)
      (pss_cons (ps_if (pt_cmpR op_eq (pv 1) pe_int (nomark _))
      (pss_one (ps_ret (pe_tup (pa_cons pe_str (pa_cons (pe_def d_law_ink_by g_law_ink_by hr (pa_cons (pv 0) pa_nil)) pa_nil)))))
      pss_nil)
      (pss_cons (ps_if (pt_cmpR op_eq (pv 1) pe_int (nomark _))
      (pss_one (ps_ret (pe_tup (pa_cons pe_str (pa_cons (pe_def d_law_number g_law_number hr (pa_cons (pv 0) pa_nil)) (pa_cons (pe_def d_law_ink_by g_law_ink_by hr (pa_cons (pv 0) pa_nil)) pa_nil))))))
      pss_nil)
      (pss_cons (ps_if (pt_cmpR op_eq (pv 1) pe_int (nomark _))
      (pss_one (ps_ret (pe_tup (pa_cons pe_str (pa_cons (pe_def d_law_number g_law_number hr (pa_cons (pv 0) pa_nil)) (pa_cons (pe_def d_law_ink_by g_law_ink_by hr (pa_cons (pv 0) pa_nil)) pa_nil))))))
      pss_nil)
      (pss_one (ps_ret (pe_tup (pa_cons pe_str (pa_cons (pe_def d_law_ink_by g_law_ink_by hr (pa_cons (pv 0) pa_nil)) (pa_cons (pe_def d_law_ink_by g_law_ink_by hr (pa_cons (pv 0) pa_nil)) pa_nil))))))))))))), ?_⟩
  refine ⟨_, rfl, l, c, 16, rfl, S, by decide, by decide, fun v H1 v0 v1 S1 k1 => ?_⟩
  have K1 : Keep l H H1 := off_keep k1
  have aput : tabAt AHD (Str.ofString "put").cps.toList = some 2 := by decide +kernel
  have astr : tabAt AHD (Str.ofString "strike").cps.toList = some 0 := by decide +kernel
  have ablo : tabAt AHD (Str.ofString "blot").cps.toList = some 1 := by decide +kernel
  have alif : tabAt AHD (Str.ofString "lift").cps.toList = some 1 := by decide +kernel
  have nel : ∀ {H' : Hp} {q : Addr} {r : Row}, SrcOk H' l c → RowAt H' q r → H1 q = none → q ≠ l := fun {H' q r} S' r' f z => by
    obtain ⟨ls, hls⟩ := S1.lst
    rw [z, hls] at f
    cases f
  refine ⟨_, rfl, _, _, rfl, rfl, _, rfl, ite2 (fun c1 => ?_) (fun c1 => ?_)⟩
  · have v10 : v < 10 := of_decide_eq_true c1
    exact ⟨_, rfl, _, rfl, l, c, v, rfl, S1, v0, v10, fun n ns p H2 e fn hp S2 K2 => k (.plain n ns) p H2 ⟨e, fn⟩ hp S2 (K1.trans K2)⟩
  refine ⟨_, rfl, rfl, _, rfl, ite2 (fun _ => ?_) (fun _ => ?_)⟩
  · refine ⟨_, rfl, l, c, 9, rfl, S1, by decide, by decide, fun x H2 x0 x1 S2 k2 => ⟨_, rfl, l, c, 9, rfl, S2, by decide, by decide, fun y H3 y0 y1 S3 k3 => ⟨_, _, rfl, rfl, (by show 2 ≤ sizeLine; decide), fun t1 ht1 => ?_⟩⟩⟩
    have s4 := same_new ht1 (.lst [.int x, .int (200 - y)])
    have h4 : (upd H3 t1 (.lst [.int x, .int (200 - y)])) t1 = some (.lst [.int x, .int (200 - y)]) := upd_same
    generalize upd H3 t1 (.lst [.int x, .int (200 - y)]) = H4 at s4 h4
    have nt := S3.ne ht1
    have K4 : Keep l H H4 := K1.trans ((off_keep k2).trans ((off_keep k3).trans fun a o e _ => s4 a o e))
    refine ⟨_, rfl, l, c, 5, rfl, S3.same s4, by decide, by decide, fun u H5 u0 u1 S5 k5 => ⟨_, _, rfl, rfl, ⟨by decide, by decide⟩, ?_⟩⟩
    have h5 : H5 t1 = some (.lst [.int x, .int (200 - y)]) := (k5 t1 nt.1.symm).trans h4
    have K5 : Keep l H H5 := K4.trans (off_keep k5)
    obtain ⟨z, hz, ez⟩ := pick_any (xs := [V.int x, .int (200 - y)]) (v := u / 4) (by omega) (by show u / 4 < 2; omega)
    obtain ⟨m, rfl, m1⟩ : ∃ m : Nat, z = .int (m : Int) ∧ m ≤ 200 := by
      rcases List.mem_cons.mp hz with z' | z'
      · exact ⟨x.toNat, by rw [z', Int.toNat_of_nonneg x0], by omega⟩
      · exact ⟨(200 - y).toNat, by rw [List.mem_singleton.mp z', Int.toNat_of_nonneg (by omega)], by omega⟩
    refine ⟨t1, _, _, _, rfl, rfl, SqL.of h5, ez, ?_⟩
    refine ⟨_, rfl, l, c, rfl, S5, fun n H6 n0 n1 S6 K6 => ⟨_, rfl, _, rfl, l, c, m, rfl, S6, by omega, fun cs H7 lc S7 K7 => ⟨(by show 3 ≤ sizeLine; decide), fun t ht => ?_⟩⟩⟩
    have s8 := same_new ht (.tup [.str (Str.ofString "pour"), .int n, .str (txt cs)])
    exact k (.pour n cs) t _ ⟨⟨n0, n1⟩, by omega⟩ upd_same (S7.same s8) (K5.trans (K6.trans (K7.trans fun a o e _ => s8 a o e)))
  refine ⟨_, rfl, rfl, _, rfl, ite2 (fun _ => ?_) (fun _ => ?_)⟩
  · refine ⟨_, rfl, l, c, rfl, S1, fun x H2 x0 x1 S2 K2 => ⟨_, rfl, l, c, rfl, S2, fun y H3 y0 y1 S3 K3 => ⟨_, rfl, l, c, rfl, S3, fun r q H4 fr r4 S4 K4 f4 => ⟨(by show 4 ≤ sizeLine; decide), fun t ht => ?_⟩⟩⟩⟩
    have s5 := same_new ht (.tup [.str (Str.ofString "put"), .int x, .int y, .ref q])
    refine k (.rowed (Str.ofString "put").cps.toList [x, y] r) t _ ⟨aput, ?_, fr⟩ ⟨q, ?_, r4.same s5⟩ (S4.same s5) (K1.trans (K2.trans (K3.trans (K4.trans fun a o e _ => s5 a o e))))
    · intro z hz
      rcases List.mem_cons.mp hz with z' | z'
      · rw [z']; exact ⟨x0, x1⟩
      · rw [List.mem_singleton.mp z']; exact ⟨y0, y1⟩
    · rw [upd_same, txt_of]
      rfl
  refine ⟨_, rfl, rfl, _, rfl, ite2 (fun _ => ?_) (fun _ => ?_)⟩
  · refine ⟨_, rfl, l, c, rfl, S1, fun r q H4 fr r4 S4 K4 f4 => ⟨(by show 2 ≤ sizeLine; decide), fun t ht => ?_⟩⟩
    have s5 := same_new ht (.tup [.str (Str.ofString "strike"), .ref q])
    refine k (.rowed (Str.ofString "strike").cps.toList [] r) t _ ⟨astr, (fun _ z => by cases z), fr⟩ ⟨q, ?_, r4.same s5⟩ (S4.same s5) (K1.trans (K4.trans fun a o e _ => s5 a o e))
    rw [upd_same, txt_of]
    rfl
  refine ⟨_, rfl, rfl, _, rfl, ite2 (fun _ => ?_) (fun _ => ?_)⟩
  · refine ⟨_, rfl, l, c, rfl, S1, fun x H2 x0 x1 S2 K2 => ⟨_, rfl, l, c, rfl, S2, fun r q H4 fr r4 S4 K4 f4 => ⟨(by show 3 ≤ sizeLine; decide), fun t ht => ?_⟩⟩⟩
    have s5 := same_new ht (.tup [.str (Str.ofString "blot"), .int x, .ref q])
    refine k (.rowed (Str.ofString "blot").cps.toList [x] r) t _ ⟨ablo, (fun z hz => by rw [List.mem_singleton.mp hz]; exact ⟨x0, x1⟩), fr⟩ ⟨q, ?_, r4.same s5⟩ (S4.same s5) (K1.trans (K2.trans (K4.trans fun a o e _ => s5 a o e)))
    rw [upd_same, txt_of]
    rfl
  refine ⟨_, rfl, rfl, _, rfl, ite2 (fun _ => ?_) (fun _ => ?_)⟩
  · refine ⟨_, rfl, l, c, rfl, S1, fun x H2 x0 x1 S2 K2 => ⟨_, rfl, l, c, rfl, S2, fun r q H4 fr r4 S4 K4 f4 => ⟨(by show 3 ≤ sizeLine; decide), fun t ht => ?_⟩⟩⟩
    have s5 := same_new ht (.tup [.str (Str.ofString "lift"), .int x, .ref q])
    refine k (.rowed (Str.ofString "lift").cps.toList [x] r) t _ ⟨alif, (fun z hz => by rw [List.mem_singleton.mp hz]; exact ⟨x0, x1⟩), fr⟩ ⟨q, ?_, r4.same s5⟩ (S4.same s5) (K1.trans (K2.trans (K4.trans fun a o e _ => s5 a o e)))
    rw [upd_same, txt_of]
    rfl
  · refine ⟨_, rfl, l, c, rfl, S1, fun r1 q1 H2 fr1 r2 S2 K2 f2 => ⟨_, rfl, l, c, rfl, S2, fun r q H4 fr r4 S4 K4 f4 => ⟨(by show 3 ≤ sizeLine; decide), fun t ht => ?_⟩⟩⟩
    have s5 := same_new ht (.tup [.str (Str.ofString "tie"), .ref q1, .ref q])
    have nq1 : q1 ≠ l := nel S2 r2 f2
    obtain ⟨ls2, hl2⟩ := S2.lst
    have r24 := r2.keep hl2 nq1 K4
    have ne : q1 ≠ q := by
      obtain ⟨as, h, _⟩ := r2
      exact ne_of_none h f4
    exact k (.tie r1 r) t _ ⟨fr1, fr⟩ ⟨q1, q, upd_same, r24.same s5, r4.same s5, ne⟩ (S4.same s5) (K1.trans (K2.trans (K4.trans fun a o e _ => s5 a o e)))

abbrev showP (p : Int × Int) : List Nat := InkY.dg p.1 ++ 45 :: InkY.dg p.2
theorem showP_len {p : Int × Int} (h : FitN p.1 ∧ FitN p.2) : (showP p).length ≤ 121 := by
  rw [List.length_append, List.length_cons]
  have a := InkY.dg_len h.1.1 h.1.2
  have b := InkY.dg_len h.2.1 h.2.2
  omega
theorem log_fit {n : Int} (h : FitN n) : n.natAbs.log2 < 1920 := by
  obtain ⟨h0, h1⟩ := h
  by_cases z : n.natAbs = 0
  · rw [z]; decide
  · rw [Nat.log2_lt z]
    have a : n.natAbs < 10 ^ 60 := by omega
    exact Nat.lt_of_lt_of_le a (Nat.le_trans (show (10 : Nat) ^ 60 ≤ 2 ^ 200 by decide) (Nat.pow_le_pow_right (by decide) (by decide)))
def spStretches : Sp := fun vs H Q _ => ∃ (q : Addr) (r : Row), vs = [.ref q] ∧ RowAt H q r ∧ FitR r ∧ ∀ H', Same H H' → Q (.str (txt (r.flatMap fun p => 32 :: showP p))) H'
abbrev s_law_stretches : Stmt := top 27
theorem sc_law_stretches : FnScope ["_law_row"] ["_law_row"] (defScope s_law_stretches) := ⟨rfl, rfl, rfl, by decide +kernel, rfl, by decide +kernel, by decide +kernel⟩
theorem sum_le {ps : List (List Nat)} {n : Nat} (h : ∀ p ∈ ps, p.length ≤ n) : (ps.map List.length).sum ≤ n * ps.length := by
  induction ps with
  | nil => exact Nat.zero_le _
  | cons p ps ih =>
    have z := ih fun q hq => h q (List.mem_cons_of_mem _ hq)
    have z2 := h p List.mem_cons_self
    rw [List.map_cons, List.sum_cons, List.length_cons, Nat.mul_add, Nat.mul_one]
    omega
theorem ok_law_stretches {f : Addr} {fd : FuncData} (F : Fun K "_law_stretches" "_law_stretches" s_law_stretches f fd) (T : Nms mg) : FnOk P w K mg base CX0 1 f fd ["_law_row"] spStretches := by
  refine F.ok sc_law_stretches (fun vs H Q E h => ?_) (fun cdv A outer s H vs Q E hr h => ?_)
  · obtain ⟨q, r, rfl, _⟩ := h
    rfl
  obtain ⟨q, r, rfl, ⟨as, hq, pa⟩, ⟨lr, fr⟩, k⟩ := h
  refine ⟨_, (pss_one (ps_ret (pe_bm PySem.F.plainAttrs_str PySem.F.slot_str_join PySem.F.type_str_join InkU.mt_joinE pe_str (pa_cons (pe_compG (N := ["_law_start", "_law_stop"]) (compG (sc := defScope s_law_stretches) (NX := ["_law_row"]) (jx := [none, none]) rfl rfl rfl (by decide +kernel) (by decide +kernel) rfl (by decide +kernel) rfl (by decide +kernel)) rfl (pi_list (pv 0)) (fun _ _ _ _ _ _ => (pgF_tup (n := 2) rfl (pgs_cons (pg_name (i := 0) (show List.Nodup (["_law_start", "_law_stop"] : List Str) by decide +kernel) rfl (Or.inl rfl)) (pgs_cons (pg_name (i := 1) (show List.Nodup (["_law_start", "_law_stop"] : List Str) by decide +kernel) rfl (Or.inl rfl)) pgs_nil)))) (fun _ _ _ _ _ _ => pts_nil) (fun _ _ _ _ _ _ => (pe_op op_catS (pe_op op_catS (pe_op op_catS pe_str (pe_callTy call_str_int rfl T.n_str PyProof.Rows.boot_str (pa_cons (pv 0) pa_nil))) pe_str) (pe_callTy call_str_int rfl T.n_str PyProof.Rows.boot_str (pa_cons (pv 1) pa_nil))))) pa_nil)))), ?_⟩
  have lp := Paired.length pa
  refine ⟨rfl, _, rfl, q, rfl, ⟨_, SqL.of hq⟩, fun acc hacc => compF_list (K := K) (a := q) (xs := as.map V.ref) (fun i σ H2 => ∃ u0 u1 : Option V, σ = [u0, u1] ∧ H2 acc = some (wordsL ((r.take i).map fun p => 32 :: showP p)) ∧ Same H H2) ⟨none, none, rfl, upd_same, same_new hacc _⟩ (fun i σ H2 _ ⟨_, _, _, _, s2⟩ => SqL.of (s2 _ _ hq)) ?_ ?_⟩
  · rintro i y σ H2 hi ⟨u0, u1, rfl, h2, s2⟩
    rw [List.getElem?_map] at hi
    obtain ⟨a, ei, rfl⟩ := Option.map_eq_some_iff.mp hi
    obtain ⟨p, ep, hp⟩ := pa.get ei
    have fp := fr p (List.mem_of_getElem? ep)
    have il := (List.getElem?_eq_some_iff.mp ep).1
    have la := InkY.dg_len fp.1.1 fp.1.2
    have lb := InkY.dg_len fp.2.1 fp.2.2
    refine ⟨a, _, rfl, SqT.of (s2 _ _ hp), rfl, _, _, rfl, _, _, rfl, rfl, ?_⟩
    refine ⟨_, rfl, p.1, rfl, log_fit fp.1, ?_⟩
    rw [InkY.num_txt fp.1.1]
    refine ⟨[32], InkY.dg p.1, by rw [show Str.ofString " " = txt [32] by decide +kernel], rfl, by simp only [List.length_cons, List.length_nil]; omega, _, [45], rfl, by rw [dash_txt]; rfl, by rw [List.length_append]; simp only [List.length_cons, List.length_nil]; omega, ?_⟩
    refine ⟨_, rfl, p.2, rfl, log_fit fp.2, ?_⟩
    rw [InkY.num_txt fp.2.1]
    refine ⟨_, InkY.dg p.2, rfl, rfl, by rw [List.length_append, List.length_append]; simp only [List.length_cons, List.length_nil]; omega, _, h2, million (by rw [List.length_map, List.length_map, List.length_take]; omega), _, _, rfl, ?_, keep_of hacc s2 (keep_upd acc _ _)⟩
    rw [upd_same, take_snoc ep, List.map_append, List.map_cons, List.map_nil]
    show some (HO.lst _) = some (HO.lst _)
    rw [List.map_append]
    have e : ([32] ++ InkY.dg p.1 ++ [45] ++ InkY.dg p.2) = 32 :: showP p := by simp
    rw [e]
    rfl
  · rintro σ H2 ⟨u0, u1, rfl, h2, s2⟩
    rw [List.length_map, lp, List.take_length] at h2
    have sh : ((r.map fun p => 32 :: showP p).map List.length).sum ≤ 122 * (r.map fun p => 32 :: showP p).length := sum_le fun w hw => by
      obtain ⟨p, hp, rfl⟩ := List.mem_map.mp hw
      have := showP_len (fr p hp)
      rw [List.length_cons]
      omega
    rw [List.length_map] at sh
    refine ⟨acc, r.map fun p => 32 :: showP p, rfl, rfl, h2, by rw [List.length_map]; omega, ?_⟩
    have e : (r.map fun p => 32 :: showP p).flatten = r.flatMap fun p => 32 :: showP p := by rw [List.flatMap_def]
    rw [e]
    exact k H2 s2

inductive Part where
  | num (x : Int)
  | tx (t : List Nat)
  | row (r : Row)
def Part.At (H : Hp) (v : V) : Part → Prop
  | .num x => v = .int x
  | .tx t => v = .str (txt t)
  | .row r => ∃ q, v = .ref q ∧ RowAt H q r
def Part.Ok : Part → Prop
  | .num x => FitN x
  | .tx t => t.length ≤ 200
  | .row r => FitR r
abbrev strsR (r : Row) : List Nat := r.flatMap fun p => 32 :: showP p
def Part.line : Part → List Nat
  | .num x => 32 :: InkY.dg x
  | .tx t => 32 :: t
  | .row r => strsR r
theorem Part.At.same {H H' : Hp} {v : V} {p : Part} (h : p.At H v) (s : Same H H') : p.At H' v := by
  cases p with
  | num x => exact h
  | tx t => exact h
  | row r => obtain ⟨q, e, z⟩ := h; exact ⟨q, e, z.same s⟩
theorem strs_len {r : Row} (h : FitR r) : (strsR r).length ≤ 4000 := by
  have key : ∀ l : Row, (∀ p ∈ l, FitN p.1 ∧ FitN p.2) → (strsR l).length ≤ 122 * l.length := by
    intro l
    induction l with
    | nil => intro _; exact Nat.le_refl _
    | cons p l ih =>
      intro g
      have z := ih fun q hq => g q (List.mem_cons_of_mem _ hq)
      have z2 := showP_len (g p List.mem_cons_self)
      show ((32 :: showP p) ++ strsR l).length ≤ _
      rw [List.length_append, List.length_cons, List.length_cons]
      omega
  have := key r h.2
  have := h.1
  omega
theorem Part.line_len {p : Part} (h : p.Ok) : p.line.length ≤ 4000 := by
  cases p with
  | num x => have := InkY.dg_len h.1 h.2; show (32 :: InkY.dg x).length ≤ _; rw [List.length_cons]; omega
  | tx t => have h' : t.length ≤ 200 := h; show (32 :: t).length ≤ _; rw [List.length_cons]; omega
  | row r => exact strs_len h
def Deed.nm : Deed → List Nat
  | .pour _ _ => [112, 111, 117, 114]
  | .tie _ _ => tieW
  | .plain n _ => n
  | .rowed n _ _ => n
def Deed.parts : Deed → List Part
  | .pour h t => [.num h, .tx t]
  | .tie _ _ => []
  | .plain _ ns => ns.map .num
  | .rowed _ ns r => ns.map .num ++ [.row r]
def Deed.line : Deed → List Nat
  | .tie a b => tieW ++ strsR a ++ [32, 47] ++ strsR b
  | d => d.nm ++ d.parts.flatMap Part.line
theorem parts_at {H : Hp} {p : Addr} {d : Deed} (h : d.At H p) (nt : ∀ a b, d ≠ .tie a b) : ∃ vs, H p = some (.tup (.str (txt d.nm) :: vs)) ∧ All2 (fun v q => Part.At H v q) vs d.parts := by
  have nums : ∀ ns : List Int, All2 (fun v q => Part.At H v q) (ns.map V.int) (ns.map Part.num) := fun ns => by
    induction ns with
    | nil => exact .nil
    | cons x ns ih => exact .cons rfl ih
  cases d with
  | pour x t => exact ⟨_, by rw [h, show Str.ofString "pour" = txt [112, 111, 117, 114] by decide +kernel]; rfl, .cons rfl (.cons rfl .nil)⟩
  | tie a b => exact absurd rfl (nt a b)
  | plain n ns => exact ⟨_, h, nums ns⟩
  | rowed n ns r =>
    obtain ⟨q, e, z⟩ := h
    exact ⟨ns.map V.int ++ [.ref q], by rw [e]; rfl, (nums ns).snoc ⟨q, rfl, z⟩⟩
theorem parts_ok {d : Deed} (h : d.Ok) : ∀ q ∈ d.parts, q.Ok := by
  cases d with
  | pour x t =>
    intro q hq
    rcases List.mem_cons.mp hq with z | z
    · rw [z]; exact h.1
    · rw [List.mem_singleton.mp z]; exact h.2
  | tie a b => intro q hq; cases hq
  | plain n ns =>
    intro q hq
    obtain ⟨x, hx, rfl⟩ := List.mem_map.mp hq
    exact h.2 x hx
  | rowed n ns r =>
    intro q hq
    rcases List.mem_append.mp hq with z | z
    · obtain ⟨x, hx, rfl⟩ := List.mem_map.mp z
      exact h.2.1 x hx
    · rw [List.mem_singleton.mp z]; exact h.2.2
def spLineOf : Sp := fun vs H Q _ => ∃ (p : Addr) (d : Deed), vs = [.ref p] ∧ d.At H p ∧ d.Ok ∧ ((∀ a b, d ≠ .tie a b) → d.nm ≠ tieW ∧ d.nm.length ≤ 10 ∧ d.parts.length ≤ 10) ∧ ∀ H', Same H H' → Q (.str (txt d.line)) H'
abbrev s_law_line_of : Stmt := top 28
theorem sc_law_line_of : FnScope ["_law_deed", "_law_line", "_law_piece"] ["_law_deed"] (defScope s_law_line_of) := ⟨rfl, rfl, rfl, by decide +kernel, rfl, by decide +kernel, by decide +kernel⟩
theorem all2_get {H : Hp} : ∀ {vs : List V} {ps : List Part} {i : Nat} {v : V}, All2 (fun v q => Part.At H v q) vs ps → vs[i]? = some v → ∃ q, ps[i]? = some q ∧ q.At H v
  | _, _, _, _, .nil, h => by simp at h
  | _, _, 0, _, .cons o t, h => by
    have e := Option.some.inj h
    subst e
    exact ⟨_, rfl, o⟩
  | _, _, i + 1, _, .cons o t, h => by
    obtain ⟨q, e, z⟩ := all2_get (i := i) t (by simpa using h)
    exact ⟨q, by simpa using e, z⟩
theorem flat_len {ps : List Part} (h : ∀ q ∈ ps, q.Ok) : (ps.flatMap Part.line).length ≤ 4000 * ps.length := by
  induction ps with
  | nil => exact Nat.zero_le _
  | cons p ps ih =>
    have z := ih fun q hq => h q (List.mem_cons_of_mem _ hq)
    have z2 := Part.line_len (h p List.mem_cons_self)
    rw [List.flatMap_cons, List.length_append, List.length_cons, Nat.mul_add, Nat.mul_one]
    omega
theorem ok_law_line_of {f fS : Addr} {fd gS : FuncData} (F : Fun K "_law_line_of" "_law_line_of" s_law_line_of f fd) (T : Nms mg) (d_law_stretches : DefAt K mg "_law_stretches" s_law_stretches ["_law_row"] fS gS) : FnOk P w K mg base CX0 2 f fd ["_law_deed"] spLineOf := by
  have g_law_stretches : FnOk P w K mg base CX0 1 _ _ ["_law_row"] spStretches := ok_law_stretches d_law_stretches.F T
  refine F.ok sc_law_line_of (fun vs H Q E h => ?_) (fun cdv A outer s H vs Q E hr h => ?_)
  · obtain ⟨p, d, rfl, _⟩ := h
    rfl
  obtain ⟨p, d, rfl, hd, ok, nn, k⟩ := h
  refine ⟨_, (pss_cons (ps_set (i := 1) sc_law_line_of.nd rfl (Or.inl rfl) (pe_ix ix_tup (pv 0) pe_int (fun _ _ => rfl)))
      (pss_cons (ps_if (pt_cmpR op_eq (pv 1) pe_str (nomark _))
      (pss_one (ps_ret (pe_op op_catS (pe_op op_catS (pe_op op_catS (pv 1) (pe_def d_law_stretches g_law_stretches hr (pa_cons (pe_ix ix_tup (pv 0) pe_int (fun _ _ => rfl)) pa_nil))) pe_str) (pe_def d_law_stretches g_law_stretches hr (pa_cons (pe_ix ix_tup (pv 0) pe_int (fun _ _ => rfl)) pa_nil)))))
      pss_nil)
      (pss_cons (ps_for PassesOwn.never rfl (pi_tup (pe_slice sl_tup (pv 0) (po_some pe_int) po_none)) (pg_name (i := 2) sc_law_line_of.nd rfl (Or.inl rfl))
      (pss_one (ps_if (pt_val (pe_callB call_isinst rfl T.n_isinstance PyProof.Rows.boot_isinstance (pa_cons (pv 2) (pa_cons (pe_ty rfl T.n_list PyProof.Rows.boot_list) pa_nil))))
      (pss_one (ps_set (i := 1) sc_law_line_of.nd rfl (Or.inl rfl) (pe_op op_catS (pv 1) (pe_def d_law_stretches g_law_stretches hr (pa_cons (pv 2) pa_nil)))))
      (pss_one (ps_if (pt_val (pe_callB call_isinst rfl T.n_isinstance PyProof.Rows.boot_isinstance (pa_cons (pv 2) (pa_cons (pe_ty rfl T.n_str PyProof.Rows.boot_str) pa_nil))))
      (pss_one (ps_set (i := 1) sc_law_line_of.nd rfl (Or.inl rfl) (pe_op op_catS (pe_op op_catS (pv 1) pe_str) (pv 2))))
      (pss_one (ps_set (i := 1) sc_law_line_of.nd rfl (Or.inl rfl) (pe_op op_catS (pe_op op_catS (pv 1) pe_str) (pe_callTy call_str_int rfl T.n_str PyProof.Rows.boot_str (pa_cons (pv 2) pa_nil))))))))))
      (pss_one (ps_ret (pv 1)))))), ?_⟩
  have tt : Str.ofString "tie" = txt tieW := by decide +kernel
  by_cases ht : ∃ a b, d = .tie a b
  · obtain ⟨a, b, rfl⟩ := ht
    obtain ⟨q1, q2, hp, r1, r2, _⟩ := hd
    have la := strs_len ok.1
    have lb := strs_len ok.2
    have lt : tieW.length = 3 := rfl
    refine ⟨_, rfl, p, _, _, _, rfl, rfl, SqT.of hp, atI_nat (j := 0) rfl, ?_⟩
    refine ⟨_, rfl, rfl, _, rfl, ite2 (fun _ => ?_) (fun c => absurd (decide_eq_true rfl) c)⟩
    refine ⟨_, rfl, _, rfl, p, _, _, _, rfl, rfl, SqT.of hp, atI_nat (j := 1) rfl, q1, a, rfl, r1, ok.1, fun H1 s1 => ?_⟩
    refine ⟨tieW, strsR a, by rw [tt], rfl, by omega, _, [32, 47], rfl, by rw [show Str.ofString " /" = txt [32, 47] by decide +kernel], by rw [List.length_append]; simp only [List.length_cons, List.length_nil]; omega, ?_⟩
    refine ⟨_, rfl, p, _, _, _, rfl, rfl, SqT.of (s1 _ _ hp), atI_nat (j := 2) rfl, q2, b, rfl, r2.same s1, ok.2, fun H2 s2 => ?_⟩
    exact ⟨_, strsR b, rfl, rfl, by rw [List.length_append, List.length_append]; simp only [List.length_cons, List.length_nil]; omega, k H2 (s1.trans s2)⟩
  have nt : ∀ a b, d ≠ .tie a b := fun a b e => ht ⟨a, b, e⟩
  obtain ⟨vs, hp, al⟩ := parts_at hd nt
  obtain ⟨n1, n2, n3⟩ := nn nt
  have pk := parts_ok ok
  have lv := al.len
  have ln : d.line = d.nm ++ d.parts.flatMap Part.line := by
    cases d with
    | tie a b => exact absurd rfl (nt a b)
    | _ => rfl
  refine ⟨_, rfl, p, _, _, _, rfl, rfl, SqT.of hp, atI_nat (j := 0) rfl, ?_⟩
  refine ⟨_, rfl, rfl, _, rfl, ite2 (fun c => absurd (of_decide_eq_true c) (by rw [tt]; intro z; exact n1 (txt_inj (V.str.inj z)))) (fun _ => ?_)⟩
  refine ⟨_, rfl, _, rfl, p, _, rfl, SqT.of hp, ?_, fun tp htp => ?_⟩
  · rintro ⟨z, _⟩
    have e : HT.sIx (V.str (txt d.nm) :: vs).length 0 (some 1) = min 1 (V.str (txt d.nm) :: vs).length := HT.sIx_nat _ _ 1
    have z' : HT.sIx (V.str (txt d.nm) :: vs).length 0 (some 1) = 0 := z
    rw [e, List.length_cons] at z'
    omega
  have ec : cutV (V.str (txt d.nm) :: vs) (some 1) none = vs := by
    unfold cutV
    have e : HT.sIx (V.str (txt d.nm) :: vs).length 0 (some 1) = 1 := (HT.sIx_nat _ _ 1).trans (by rw [List.length_cons]; omega)
    have e2 : HT.sIx (V.str (txt d.nm) :: vs).length (V.str (txt d.nm) :: vs).length none = vs.length + 1 := rfl
    rw [e, e2]
    show vs.take (vs.length + 1 - 1) = vs
    exact List.take_of_length_le (by omega)
  rw [ec]
  have s1 := same_new htp (.tup vs)
  have h1 : (upd H tp (.tup vs)) tp = some (.tup vs) := upd_same
  generalize upd H tp (.tup vs) = H1 at s1 h1
  have kil : PySem.W.kitOne K (.type "int") (.type "list") = some false := by kernel_rfl
  have ksl : PySem.W.kitOne K (.type "str") (.type "list") = some false := by kernel_rfl
  have kis : PySem.W.kitOne K (.type "int") (.type "str") = some false := by kernel_rfl
  refine ⟨tp, rfl, ⟨_, SqT.of h1⟩, for_tup (K := K) (a := tp) (xs := vs) (fun i σ H2 => ∃ u : Option V, σ = [some (.ref p), some (.str (txt (d.nm ++ (d.parts.take i).flatMap Part.line))), u] ∧ Same H1 H2) ⟨none, by rw [List.take_zero, List.flatMap_nil, List.append_nil]; rfl, Same.refl _⟩ (fun i σ H2 _ ⟨_, _, s2⟩ => SqT.of (s2 _ _ h1)) ?_ ?_⟩
  · rintro i v σ H2 hi ⟨u, rfl, s2⟩
    obtain ⟨q, eq, hq⟩ := all2_get al hi
    have qk := pk q (List.mem_of_getElem? eq)
    have ql := Part.line_len qk
    have fl := flat_len (ps := d.parts.take i) fun q hq => pk q (List.mem_of_mem_take hq)
    have ft : (d.parts.take i).length ≤ 10 := by rw [List.length_take]; omega
    have nx : d.nm ++ (d.parts.take (i + 1)).flatMap Part.line = d.nm ++ (d.parts.take i).flatMap Part.line ++ q.line := by
      rw [take_snoc eq, List.flatMap_append, List.flatMap_cons, List.flatMap_nil, List.append_nil, List.append_assoc]
    have lB : (d.nm ++ (d.parts.take i).flatMap Part.line).length ≤ 50000 := by rw [List.length_append]; omega
    generalize d.nm ++ (d.parts.take i).flatMap Part.line = B at nx lB ⊢
    cases q with
    | num x =>
      cases (show v = .int x from hq)
      have lx := InkY.dg_len qk.1 qk.2
      refine ⟨_, rfl, _, "list", _, _, rfl, .int x, kil, _, rfl, iteF ⟨_, rfl, _, "str", _, _, rfl, .int x, kis, _, rfl, iteF ?_⟩⟩
      refine ⟨_, rfl, B, [32], rfl, by rw [show Str.ofString " " = txt [32] by decide +kernel], by simp only [List.length_cons, List.length_nil]; omega, _, rfl, x, rfl, log_fit qk, ?_⟩
      rw [InkY.num_txt qk.1]
      refine ⟨_, InkY.dg x, rfl, rfl, by rw [List.length_append]; simp only [List.length_cons, List.length_nil]; omega, some (.int x), ?_, s2⟩
      rw [nx, show B ++ [32] ++ InkY.dg x = B ++ Part.line (.num x) by show B ++ [32] ++ InkY.dg x = B ++ 32 :: InkY.dg x; simp]
      rfl
    | tx t =>
      cases (show v = .str (txt t) from hq)
      have lt : t.length ≤ 200 := qk
      refine ⟨_, rfl, _, "list", _, _, rfl, .str _, ksl, _, rfl, iteF ⟨_, rfl, _, "str", _, _, rfl, .str _, k_ss K, _, rfl, iteT ?_⟩⟩
      refine ⟨_, rfl, B, [32], rfl, by rw [show Str.ofString " " = txt [32] by decide +kernel], by simp only [List.length_cons, List.length_nil]; omega, _, rfl, _, t, rfl, rfl, by rw [List.length_append]; simp only [List.length_cons, List.length_nil]; omega, some (.str (txt t)), ?_, s2⟩
      rw [nx, show B ++ [32] ++ t = B ++ Part.line (.tx t) by show B ++ [32] ++ t = B ++ 32 :: t; simp]
      rfl
    | row r =>
      obtain ⟨qa, rfl, hr⟩ := hq
      have hr2 := (hr.same s1).same s2
      obtain ⟨as, has, _⟩ := id hr2
      refine ⟨_, rfl, _, "list", _, _, rfl, .lst has, k_ll K, _, rfl, iteT ?_⟩
      refine ⟨_, rfl, _, rfl, qa, r, rfl, hr2, qk, fun H3 s3 => ⟨B, strsR r, rfl, rfl, by have := strs_len qk; omega, some (.ref qa), ?_, s2.trans s3⟩⟩
      rw [nx]
      rfl
  · rintro σ H2 ⟨u, rfl, s2⟩
    rw [lv, List.take_length, ← ln]
    exact ⟨_, rfl, k H2 (s1.trans s2)⟩

theorem tab_free {D : List (Str × Int)} {n : List Nat} {k : Int} (hD : ∀ p ∈ D, 32 ∉ p.1.cps.toList ∧ p.1.cps.toList ≠ [112, 111, 117, 114] ∧ p.1.cps.toList ≠ tieW ∧ p.1.cps.toList.length ≤ 10) (h : tabAt D n = some k) : 32 ∉ n ∧ n ≠ [112, 111, 117, 114] ∧ n ≠ tieW ∧ n.length ≤ 10 := by
  have z := hD _ (List.mem_of_find?_eq_some (tab_some h))
  have e : (txt n).cps.toList = n := InkY.txt_cps n
  rw [show ((txt n, k) : Str × Int).1 = txt n from rfl, e] at z
  exact z
theorem num_free {n : List Nat} {k : Int} (h : tabAt NUM n = some k) : 32 ∉ n ∧ n ≠ [112, 111, 117, 114] ∧ n ≠ tieW ∧ n.length ≤ 10 := tab_free (by decide +kernel) h
theorem ahd_free {n : List Nat} {k : Int} (h : tabAt AHD n = some k) : 32 ∉ n ∧ n ≠ [112, 111, 117, 114] ∧ n ≠ tieW ∧ n.length ≤ 10 := tab_free (by decide +kernel) h
abbrev rdN (cs : List Nat) : Int := if InkY.isNum cs = true then InkY.numOf cs else -1
theorem numOf_nn (cs : List Nat) : 0 ≤ InkY.numOf cs := Int.natCast_nonneg _
theorem rdN_ge (cs : List Nat) : (rdN cs ≥ 0) ↔ InkY.isNum cs = true := by
  unfold rdN
  constructor
  · intro h
    by_cases c : InkY.isNum cs = true
    · exact c
    · rw [if_neg c] at h; exact absurd h (by decide)
  · intro c
    rw [if_pos c]
    exact numOf_nn cs
def spLReads : Sp := fun vs H Q _ => ∃ cs : List Nat, vs = [.str (txt cs)] ∧ cs.length ≤ 100000 ∧ ∀ H', Same H H' → Q (.int (rdN cs)) H'
abbrev s_law_reads : Stmt := top 29
theorem sc_law_reads : FnScope ["_law_word", "_law_sign_here"] ["_law_word"] (defScope s_law_reads) := ⟨rfl, rfl, rfl, by decide +kernel, rfl, by decide +kernel, by decide +kernel⟩
theorem ok_law_reads {f : Addr} {fd : FuncData} (F : Fun K "_law_reads" "_law_reads" s_law_reads f fd) (T : Nms mg) : FnOk P w K mg base CX0 1 f fd ["_law_word"] spLReads := by
  refine F.ok sc_law_reads (fun vs H Q E h => ?_) (fun cdv A outer s H vs Q E hr h => ?_)
  · obtain ⟨cs, rfl, _⟩ := h
    rfl
  obtain ⟨cs, rfl, lc, k⟩ := h
  refine ⟨_, (pss_cons (ps_if (PW.pt (pw_or (pt_cmpR op_eq (pv 0) pe_str (nomark _)) (pw_or1 (pt_cmpR op_gt (pe_callB call_len_str rfl T.n_len PySem.boot_len (pa_cons (pv 0) pa_nil)) pe_int (nomark _)))))
      (pss_one (ps_ret (pe_un un_neg pe_int)))
      pss_nil)
      (pss_cons (ps_for PassesOwn.never rfl (pi_str (pv 0)) (pg_name (i := 1) sc_law_reads.nd rfl (Or.inl rfl))
      (pss_one (ps_if (pt_cmpR op_notIn_str (pv 1) pe_str rfl)
      (pss_one (ps_ret (pe_un un_neg pe_int)))
      pss_nil)))
      (pss_cons (ps_if (PW.pt (pw_and (pt_cmpR op_gt (pe_callB call_len_str rfl T.n_len PySem.boot_len (pa_cons (pv 0) pa_nil)) pe_int (nomark _)) (pw_and1 (pt_cmpR op_eq (pe_ix ix_str (pv 0) pe_int (fun _ _ => rfl)) pe_str (nomark _)))))
      (pss_one (ps_ret (pe_un un_neg pe_int)))
      pss_nil)
      (pss_one (ps_ret (pe_callTy InkY.call_intT rfl T.n_int PyProof.Rows.boot_int (pa_cons (pv 0) pa_nil))))))), ?_⟩
  have zl : (txt cs).length ≤ sizeLine := by rw [txt_len]; exact Nat.le_trans lc (by decide)
  have tl := txt_len cs
  have em : Str.ofString "" = txt [] := by decide +kernel
  have s0 : txt [48] = Str.ofString "0" := by decide +kernel
  have bad : InkY.isNum cs = false → ∀ H', Same H H' → Q (.int (-1)) H' := fun e H' s' => by
    have := k H' s'
    rw [show rdN cs = -1 from if_neg (by rw [e]; exact Bool.false_ne_true)] at this
    exact this
  have e0 : decide (V.str (txt cs) = V.str (Str.ofString "")) = decide (cs = []) := by
    rw [em]
    exact decide_eq_decide.mpr ⟨fun z => txt_inj (V.str.inj z), fun z => by rw [z]⟩
  refine ⟨_, rfl, rfl, _, rfl, ?_⟩
  rw [e0]
  by_cases n : cs = []
  · rw [decide_eq_true n]
    exact iteT (iteT ⟨1, rfl, bad (by rw [n]; decide) H (Same.refl _)⟩)
  rw [decide_eq_false n]
  refine iteF ⟨_, rfl, _, rfl, zl, _, _, rfl, rfl, _, rfl, ?_⟩
  by_cases n1 : 60 < cs.length
  · rw [decide_eq_true (show ((txt cs).length : Int) > 60 by omega)]
    exact iteT ⟨1, rfl, bad (by unfold InkY.isNum; rw [decide_eq_false fun z => by omega]; rfl) H (Same.refl _)⟩
  rw [decide_eq_false (show ¬ ((txt cs).length : Int) > 60 by omega)]
  refine iteF ⟨_, rfl, cs, rfl, ?_⟩
  have ln : 1 ≤ cs.length := List.length_pos_iff.mpr n
  refine InkY.for_str (fun i σ H2 => ∃ u : Option V, σ = [some (.str (txt cs)), u] ∧ Same H H2 ∧ ∀ c ∈ cs.take i, 48 ≤ c ∧ c ≤ 57) ⟨none, rfl, Same.refl _, fun _ z => by cases z⟩ ?_ ?_
  · rintro i c σ H2 hi ⟨u, rfl, s2, d⟩
    refine ⟨_, rfl, _, _, rfl, rfl, _, rfl, ?_⟩
    rw [show Str.ofString "0123456789" = txt InkY.figs by decide +kernel, InkY.in_sign, decide_eq_decide.mpr (InkY.mem_figs c)]
    by_cases dc : 48 ≤ c ∧ c ≤ 57
    · rw [decide_eq_true dc]
      refine iteF ⟨_, rfl, s2, fun x hx => ?_⟩
      rw [take_snoc hi] at hx
      rcases List.mem_append.mp hx with z | z
      · exact d x z
      · rw [List.mem_singleton.mp z]; exact dc
    · rw [decide_eq_false dc]
      refine iteT ⟨1, rfl, bad ?_ H2 s2⟩
      unfold InkY.isNum
      rw [show (cs.all fun c => decide (48 ≤ c ∧ c ≤ 57)) = false from by
        rw [List.all_eq_false]
        exact ⟨c, List.mem_of_getElem? hi, by rw [decide_eq_false dc]; exact Bool.false_ne_true⟩]
      exact Bool.and_false _
  rintro σ H2 ⟨u, rfl, s2, d⟩
  rw [List.take_length] at d
  have da : (cs.all fun c => decide (48 ≤ c ∧ c ≤ 57)) = true := by
    rw [List.all_eq_true]
    exact fun c hc => decide_eq_true (d c hc)
  have good : ¬ (cs.head? = some 48 ∧ cs ≠ [48]) → InkY.isNum cs = true := fun z => by
    unfold InkY.isNum
    rw [da, decide_eq_true ⟨ln, by omega⟩]
    have : (decide (cs.head? = some 48) && decide (cs ≠ [48])) = false := by
      rw [Bool.eq_false_iff]
      intro y
      rw [Bool.and_eq_true, decide_eq_true_iff, decide_eq_true_iff] at y
      exact z y
    rw [this]
    rfl
  have fin : InkY.isNum cs = true → ∃ (a : Str) (n : Int), [V.str (txt cs)] = [.str a] ∧ intText? a = some n ∧ a.length ≤ 640 ∧ Q (.int n) H2 := fun e => ⟨txt cs, _, rfl, InkY.num_reads e, by omega, by
    have := k H2 s2
    rw [show rdN cs = InkY.numOf cs from if_pos e] at this
    exact this⟩
  refine ⟨_, rfl, _, rfl, zl, _, _, rfl, rfl, _, rfl, ?_⟩
  by_cases l1 : 1 < cs.length
  · rw [decide_eq_true (show ((txt cs).length : Int) > 1 by omega)]
    obtain ⟨c, r, rfl⟩ : ∃ c r, cs = c :: r := by
      cases cs with
      | nil => exact absurd rfl n
      | cons c r => exact ⟨c, r, rfl⟩
    have e1 : decide (V.str ⟨#[c]⟩ = V.str (Str.ofString "0")) = decide (c = 48) := by
      rw [← s0]
      refine decide_eq_decide.mpr ⟨fun z => ?_, fun z => by rw [z]; rfl⟩
      exact sgV_inj (b := 48) z
    have hat : atI (txt (c :: r)).cps.toList 0 = some c := by rw [InkY.txt_cps]; exact atI_nat (j := 0) rfl
    refine iteT ⟨_, rfl, _, _, c, rfl, rfl, zl, hat, rfl, _, rfl, ?_⟩
    rw [e1]
    have ne : c :: r ≠ [48] := fun z => by rw [z] at l1; exact absurd l1 (by decide)
    by_cases c0 : c = 48
    · rw [decide_eq_true c0]
      refine iteT ⟨1, rfl, bad ?_ H2 s2⟩
      unfold InkY.isNum
      rw [decide_eq_true (show (c :: r).head? = some 48 by rw [c0]; rfl), decide_eq_true ne]
      simp
    · rw [decide_eq_false c0]
      exact iteF ⟨_, rfl, fin (good fun z => c0 (by simpa using z.1))⟩
  · rw [decide_eq_false (show ¬ ((txt cs).length : Int) > 1 by omega)]
    refine iteF (iteF ⟨_, rfl, fin (good fun z => ?_)⟩)
    obtain ⟨z1, z2⟩ := z
    match cs, n, l1, z1, z2 with
    | [c], _, _, z1, z2 => exact z2 (by rw [show c = 48 by simpa using z1])
    | c :: d :: r, _, l1, _, _ => exact l1 (by simp)

def strLe (n : Nat) : V → Bool
  | .str s => decide (s.length ≤ n)
  | _ => false
theorem pick_at {α : Type} {xs : List α} {v : Int} (v0 : 0 ≤ v) (v1 : v < xs.length) : ∃ x ∈ xs, atI xs v = some x := by
  obtain ⟨j, rfl⟩ : ∃ j : Nat, v = j := ⟨v.toNat, by omega⟩
  have hj : j < xs.length := by omega
  exact ⟨xs[j], List.getElem_mem hj, atI_nat (List.getElem?_eq_getElem hj)⟩
theorem pick_txt {xs : List V} {n : Nat} {v : Int} (h : xs.all (strLe n) = true) (v0 : 0 ≤ v) (v1 : v < xs.length) : ∃ b : List Nat, atI xs v = some (.str (txt b)) ∧ b.length ≤ n := by
  obtain ⟨x, hx, e⟩ := pick_at v0 v1
  have z := List.all_eq_true.mp h x hx
  cases x with
  | str s =>
    refine ⟨s.cps.toList, ?_, ?_⟩
    · rw [e, txt_of s]
    · exact of_decide_eq_true z
  | _ => exact absurd z Bool.false_ne_true
theorem cutN_len (cs : List Nat) (lo hi : Option Int) : (InkY.cutN cs lo hi).length ≤ cs.length := by
  unfold InkY.cutN
  rw [List.length_take, List.length_drop]
  omega
def spLSpoilt : Sp := fun vs H Q _ => ∃ (l c : Addr) (cs : List Nat), vs = [.ref l, .str (txt cs)] ∧ SrcOk H l c ∧ cs.length ≤ 10000 ∧ ∀ (ds : List Nat) (H' : Hp), ds.length ≤ 2 * cs.length + 2 → SrcOk H' l c → Q (.str (txt ds)) H'
abbrev s_law_spoilt : Stmt := top 30
theorem sc_law_spoilt : FnScope ["_law_src_here", "_law_line", "_law_way", "_law_spot"] ["_law_src_here", "_law_line"] (defScope s_law_spoilt) := ⟨rfl, rfl, rfl, by decide +kernel, rfl, by decide +kernel, by decide +kernel⟩
theorem ok_law_spoilt {f fN : Addr} {fd gN : FuncData} (F : Fun K "_law_spoilt" "_law_spoilt" s_law_spoilt f fd) (T : Nms mg) (d_law_next : DefAt K mg "_law_next" s_law_next ["_law_src_here", "_law_base"] fN gN) : FnOk P w K mg base CX0 2 f fd ["_law_src_here", "_law_line"] spLSpoilt := by
  have g_law_next : FnOk P w K mg base CX0 1 _ _ ["_law_src_here", "_law_base"] spNext := ok_law_next d_law_next.F T
  refine F.ok sc_law_spoilt (fun vs H Q E h => ?_) (fun cdv A outer s H vs Q E hr h => ?_)
  · obtain ⟨l, c, cs, rfl, _⟩ := h
    rfl
  obtain ⟨l, c, cs, rfl, S, lc, k⟩ := h
  refine ⟨_, (pss_cons (ps_set (i := 2) sc_law_spoilt.nd rfl (Or.inl rfl) (pe_def d_law_next g_law_next hr (pa_cons (pv 0) (pa_cons pe_int pa_nil))))
      (pss_cons (ps_set (i := 3) sc_law_spoilt.nd rfl (Or.inl rfl) (pe_def d_law_next g_law_next hr (pa_cons (pv 0) (pa_cons (pe_op op_add (pe_callB call_len_str rfl T.n_len PySem.boot_len (pa_cons (pv 1) pa_nil)) pe_int) pa_nil))))
      (pss_cons (ps_if (pt_cmpR op_eq (pv 2) pe_int (nomark _))
      (pss_one (ps_ret (pe_op op_catS (pe_op op_catS (pe_slice InkY.sl_txt (pv 1) po_none (po_some (pv 3))) (pe_ix ix_str pe_str (pe_def d_law_next g_law_next hr (pa_cons (pv 0) (pa_cons pe_int pa_nil))) (fun _ _ => rfl))) (pe_slice InkY.sl_txt (pv 1) (po_some (pv 3)) po_none))))
      pss_nil)
      (pss_cons (ps_if (pt_cmpR op_eq (pv 2) pe_int (nomark _))
      (pss_one (ps_ret (pe_op op_catS (pe_slice InkY.sl_txt (pv 1) po_none (po_some (pv 3))) (pe_slice InkY.sl_txt (pv 1) (po_some (pe_op op_add (pv 3) pe_int)) po_none))))
      pss_nil)
      (pss_cons (ps_if (pt_cmpR op_eq (pv 2) pe_int (nomark _))
      (pss_one (ps_ret (pe_op op_catS (pe_op op_catS (pe_slice InkY.sl_txt (pv 1) po_none (po_some (pv 3))) (pe_ix ix_str pe_str (pe_def d_law_next g_law_next hr (pa_cons (pv 0) (pa_cons pe_int pa_nil))) (fun _ _ => rfl))) (pe_slice InkY.sl_txt (pv 1) (po_some (pe_op op_add (pv 3) pe_int)) po_none))))
      pss_nil)
      (pss_cons (ps_if (pt_cmpR op_eq (pv 2) pe_int (nomark _))
      (pss_one (ps_ret (pe_op op_catS (pv 1) (pe_ix ix_list (pe_lst (pa_cons pe_str (pa_cons pe_str (pa_cons pe_str (pa_cons pe_str pa_nil))))) (pe_def d_law_next g_law_next hr (pa_cons (pv 0) (pa_cons pe_int pa_nil))) (fun _ _ => rfl)))))
      pss_nil)
      (pss_one (ps_ret (pe_op op_catS (pe_ix ix_list (pe_lst (pa_cons pe_str (pa_cons pe_str (pa_cons pe_str (pa_cons pe_str pa_nil))))) (pe_def d_law_next g_law_next hr (pa_cons (pv 0) (pa_cons pe_int pa_nil))) (fun _ _ => rfl)) (pv 1)))))))))), ?_⟩
  have zl : (txt cs).length ≤ sizeLine := by rw [txt_len]; exact Nat.le_trans lc (by decide)
  have tl := txt_len cs
  have c1 := fun lo hi => cutN_len cs lo hi
  refine ⟨_, rfl, l, c, 5, rfl, S, by decide, by decide, fun v H1 v0 v1 S1 k1 => ?_⟩
  refine ⟨_, rfl, _, rfl, _, rfl, zl, _, _, rfl, rfl, l, c, _, rfl, S1, by omega, by omega, fun sp H2 p0 p1 S2 k2 => ?_⟩
  refine ⟨_, rfl, rfl, _, rfl, ite2 (fun _ => ?_) (fun _ => ?_)⟩
  · refine ⟨_, rfl, _, rfl, _, rfl, cs, rfl, by omega, ?_⟩
    refine ⟨_, rfl, l, c, 10, rfl, S2, by decide, by decide, fun i H3 i0 i1 S3 k3 => ?_⟩
    obtain ⟨x, _, ex⟩ := pick_at (xs := (Str.ofString " -@/+0a1_.").cps.toList) i0 (by show i < 10; exact i1)
    have z1 := c1 none (some sp)
    have z2 := c1 (some sp) none
    refine ⟨_, _, x, rfl, rfl, by decide, ex, _, [x], rfl, rfl, by simp only [List.length_cons, List.length_nil]; omega, ?_⟩
    refine ⟨_, rfl, _, rfl, _, rfl, cs, rfl, by omega, _, _, rfl, rfl, by rw [List.length_append]; simp only [List.length_cons, List.length_nil]; omega, k _ H3 (by rw [List.length_append, List.length_append]; simp only [List.length_cons, List.length_nil]; omega) S3⟩
  refine ⟨_, rfl, rfl, _, rfl, ite2 (fun _ => ?_) (fun _ => ?_)⟩
  · have z1 := c1 none (some sp)
    have z2 := c1 (some (sp + 1)) none
    refine ⟨_, rfl, _, rfl, _, rfl, cs, rfl, by omega, ?_⟩
    exact ⟨_, rfl, _, rfl, _, _, rfl, rfl, _, rfl, cs, rfl, by omega, _, _, rfl, rfl, by omega, k _ H2 (by rw [List.length_append]; omega) S2⟩
  refine ⟨_, rfl, rfl, _, rfl, ite2 (fun _ => ?_) (fun _ => ?_)⟩
  · refine ⟨_, rfl, _, rfl, _, rfl, cs, rfl, by omega, ?_⟩
    refine ⟨_, rfl, l, c, 4, rfl, S2, by decide, by decide, fun i H3 i0 i1 S3 k3 => ?_⟩
    obtain ⟨x, _, ex⟩ := pick_at (xs := (Str.ofString " -@0").cps.toList) i0 (by show i < 4; exact i1)
    have z1 := c1 none (some sp)
    have z2 := c1 (some (sp + 1)) none
    refine ⟨_, _, x, rfl, rfl, by decide, ex, _, [x], rfl, rfl, by simp only [List.length_cons, List.length_nil]; omega, ?_⟩
    exact ⟨_, rfl, _, rfl, _, _, rfl, rfl, _, rfl, cs, rfl, by omega, _, _, rfl, rfl, by rw [List.length_append]; simp only [List.length_cons, List.length_nil]; omega, k _ H3 (by rw [List.length_append, List.length_append]; simp only [List.length_cons, List.length_nil]; omega) S3⟩
  refine ⟨_, rfl, rfl, _, rfl, ite2 (fun _ => ?_) (fun _ => ?_)⟩
  · refine ⟨_, rfl, (by show 4 ≤ sizeLine; decide), fun t ht => ?_⟩
    have s3 := same_new ht (.lst [.str (Str.ofString " "), .str (Str.ofString "-"), .str (Str.ofString "@"), .str (Str.ofString "  ")])
    have h3 : (upd H2 t (.lst [.str (Str.ofString " "), .str (Str.ofString "-"), .str (Str.ofString "@"), .str (Str.ofString "  ")])) t = some (.lst [.str (Str.ofString " "), .str (Str.ofString "-"), .str (Str.ofString "@"), .str (Str.ofString "  ")]) := upd_same
    generalize upd H2 t (.lst [.str (Str.ofString " "), .str (Str.ofString "-"), .str (Str.ofString "@"), .str (Str.ofString "  ")]) = H3 at s3 h3
    have nt := S2.ne ht
    refine ⟨_, rfl, l, c, 4, rfl, S2.same s3, by decide, by decide, fun i H4 i0 i1 S4 k4 => ?_⟩
    obtain ⟨b, eb, lb⟩ := pick_txt (n := 2) (show [V.str (Str.ofString " "), .str (Str.ofString "-"), .str (Str.ofString "@"), .str (Str.ofString "  ")].all (strLe 2) = true by decide +kernel) i0 (by show i < 4; exact i1)
    exact ⟨t, _, _, _, rfl, rfl, SqL.of ((k4 t nt.1.symm).trans h3), eb, cs, b, rfl, rfl, by omega, k _ H4 (by rw [List.length_append]; omega) S4⟩
  · refine ⟨(by show 4 ≤ sizeLine; decide), fun t ht => ?_⟩
    have s3 := same_new ht (.lst [.str (Str.ofString " "), .str (Str.ofString "  "), .str (Str.ofString "-"), .str (Str.ofString "@")])
    have h3 : (upd H2 t (.lst [.str (Str.ofString " "), .str (Str.ofString "  "), .str (Str.ofString "-"), .str (Str.ofString "@")])) t = some (.lst [.str (Str.ofString " "), .str (Str.ofString "  "), .str (Str.ofString "-"), .str (Str.ofString "@")]) := upd_same
    generalize upd H2 t (.lst [.str (Str.ofString " "), .str (Str.ofString "  "), .str (Str.ofString "-"), .str (Str.ofString "@")]) = H3 at s3 h3
    have nt := S2.ne ht
    refine ⟨_, rfl, l, c, 4, rfl, S2.same s3, by decide, by decide, fun i H4 i0 i1 S4 k4 => ?_⟩
    obtain ⟨b, eb, lb⟩ := pick_txt (n := 2) (show [V.str (Str.ofString " "), .str (Str.ofString "  "), .str (Str.ofString "-"), .str (Str.ofString "@")].all (strLe 2) = true by decide +kernel) i0 (by show i < 4; exact i1)
    exact ⟨t, _, _, _, rfl, rfl, SqL.of ((k4 t nt.1.symm).trans h3), eb, _, rfl, b, cs, rfl, rfl, by omega, k _ H4 (by rw [List.length_append]; omega) S4⟩

def spWordsRow : Sp := fun vs H Q _ => ∃ (l : Addr) (ws : List (List Nat)), vs = [.ref l] ∧ H l = some (wordsL ws) ∧ ws.length ≤ 100000 ∧ (∀ w ∈ ws, w.length ≤ 100000) ∧ (inkOk ws → ∀ (q : Addr) (H' : Hp), RowAt H' q (rowIn ws) → Same H H' → H q = none → Q (.ref q) H') ∧ (¬ inkOk ws → ∀ H', Same H H' → Q .non H')
abbrev s_law_words_row : Stmt := top 31
theorem sc_law_words_row : FnScope ["_law_words", "_law_row", "_law_word", "_law_spot", "_law_start", "_law_stop"] ["_law_words"] (defScope s_law_words_row) := ⟨rfl, rfl, rfl, by decide +kernel, rfl, by decide +kernel, by decide +kernel⟩
theorem cut_left {c : Nat} (a b : List Nat) : InkY.cutN (a ++ c :: b) none (some (a.length : Int)) = a := by
  unfold InkY.cutN
  have e2 : HT.sIx (a ++ c :: b).length 0 none = 0 := rfl
  rw [HT.sIx_nat, e2, List.drop_zero, Nat.sub_zero, show min a.length (a ++ c :: b).length = a.length by rw [List.length_append]; omega]
  simp
theorem cut_right {c : Nat} (a b : List Nat) : InkY.cutN (a ++ c :: b) (some ((a.length : Int) + 1)) none = b := by
  unfold InkY.cutN
  have e1 : HT.sIx (a ++ c :: b).length 0 (some ((a.length : Int) + 1)) = a.length + 1 := by
    have := HT.sIx_nat (a ++ c :: b).length 0 (a.length + 1)
    rw [show ((a.length + 1 : Nat) : Int) = (a.length : Int) + 1 by omega] at this
    rw [this, List.length_append, List.length_cons]
    omega
  have e2 : HT.sIx (a ++ c :: b).length (a ++ c :: b).length none = (a ++ c :: b).length := rfl
  rw [e1, e2]
  have e3 : (a ++ c :: b).drop (a.length + 1) = b := by simp
  rw [e3]
  exact List.take_of_length_le (by rw [List.length_append, List.length_cons]; omega)
theorem rdN_lt (cs : List Nat) : (rdN cs < 0) ↔ InkY.isNum cs = false := by
  have z := rdN_ge cs
  cases e : InkY.isNum cs with
  | true => rw [e] at z; constructor
            · intro y; have := z.mpr rfl; omega
            · intro y; cases y
  | false => rw [e] at z; constructor
             · intro _; rfl
             · intro _
               have : ¬ rdN cs ≥ 0 := fun y => by cases z.mp y
               omega
theorem row_snoc {ws : List (List Nat)} {i : Nat} {w : List Nat} {p : Int × Int} (e : ws[i]? = some w) (h : InkY.strOf w = some p) : rowIn (ws.take (i + 1)) = rowIn (ws.take i) ++ [p] := by
  unfold rowIn
  rw [take_snoc e, List.filterMap_append, List.filterMap_cons, h]
  rfl
theorem ink_not {ws : List (List Nat)} {i : Nat} {w : List Nat} (e : ws[i]? = some w) (h : InkY.strOf w = none) : ¬ inkOk ws := fun g => by
  have := g w (List.mem_of_getElem? e)
  rw [h] at this
  cases this
theorem ne_of_tup {H : Hp} {p q : Addr} {xs ys : List V} (h : H p = some (.tup xs)) (g : H q = some (.lst ys)) : p ≠ q := fun e => by
  rw [e, g] at h
  cases h
set_option maxHeartbeats 4000000 in
theorem ok_law_words_row {f fR : Addr} {fd gR : FuncData} (F : Fun K "_law_words_row" "_law_words_row" s_law_words_row f fd) (T : Nms mg) (d_law_reads : DefAt K mg "_law_reads" s_law_reads ["_law_word"] fR gR) : FnOk P w K mg base CX0 2 f fd ["_law_words"] spWordsRow := by
  have g_law_reads : FnOk P w K mg base CX0 1 _ _ ["_law_word"] spLReads := ok_law_reads d_law_reads.F T
  refine F.ok sc_law_words_row (fun vs H Q E h => ?_) (fun cdv A outer s H vs Q E hr h => ?_)
  · obtain ⟨l, ws, rfl, _⟩ := h
    rfl
  obtain ⟨l, ws, rfl, hl, lw, sw, k1, k2⟩ := h
  refine ⟨_, (pss_cons (ps_set (i := 1) sc_law_words_row.nd rfl (Or.inl rfl) (pe_lst pa_nil))
      (pss_cons (ps_for PassesOwn.never rfl (pi_list (pv 0)) (pg_name (i := 2) sc_law_words_row.nd rfl (Or.inl rfl))
      (pss_cons (ps_set (i := 3) sc_law_words_row.nd rfl (Or.inl rfl) (pe_bm PySem.F.plainAttrs_str PySem.F.slot_str_find PySem.F.type_str_find InkU.mt_findT (pv 2) (pa_cons pe_str pa_nil)))
      (pss_cons (ps_if (pt_cmpR op_ne (pe_bm PySem.F.plainAttrs_str PySem.F.slot_str_count PySem.F.type_str_count InkY.mt_countT (pv 2) (pa_cons pe_str pa_nil)) pe_int (nomark _))
      (pss_one (ps_ret pe_non))
      pss_nil)
      (pss_cons (ps_set (i := 4) sc_law_words_row.nd rfl (Or.inl rfl) (pe_def d_law_reads g_law_reads hr (pa_cons (pe_slice InkY.sl_txt (pv 2) po_none (po_some (pv 3))) pa_nil)))
      (pss_cons (ps_set (i := 5) sc_law_words_row.nd rfl (Or.inl rfl) (pe_def d_law_reads g_law_reads hr (pa_cons (pe_slice InkY.sl_txt (pv 2) (po_some (pe_op op_add (pv 3) pe_int)) po_none) pa_nil)))
      (pss_cons (ps_if (PW.pt (pw_or (pt_cmpR op_lt (pv 4) pe_int (nomark _)) (pw_or1 (pt_cmpR op_lt (pv 5) pe_int (nomark _)))))
      (pss_one (ps_ret pe_non))
      pss_nil)
      (pss_one (ps_expr (pe_bm PySem.F.plainAttrs_list PySem.F.slot_list_append PySem.F.type_list_append mt_append (pv 1) (pa_cons (pe_tup (pa_cons (pv 4) (pa_cons (pv 5) pa_nil))) pa_nil))))))))))
      (pss_one (ps_ret (pv 1))))), ?_⟩
  have dash : Str.ofString "-" = ⟨#[45]⟩ := by decide +kernel
  refine ⟨(by show 0 ≤ sizeLine; decide), fun q fq => ?_⟩
  have s0 := same_new fq (.lst [])
  refine ⟨_, rfl, l, rfl, ⟨_, SqL.of (s0 _ _ hl)⟩, for_list (K := K) (a := l) (xs := ws.map fun w => V.str (txt w)) (fun i σ H2 => ∃ (u2 u3 u4 u5 : Option V), σ = [some (.ref l), some (.ref q), u2, u3, u4, u5] ∧ RowAt H2 q (rowIn (ws.take i)) ∧ inkOk (ws.take i) ∧ Same H H2) ⟨none, none, none, none, rfl, ⟨[], upd_same, .nil⟩, (fun _ z => by cases z), s0⟩ (fun i σ H2 _ ⟨_, _, _, _, _, _, _, s2⟩ => SqL.of (s2 _ _ hl)) ?_ ?_⟩
  · rintro i y σ H2 hi ⟨u2, u3, u4, u5, rfl, r2, g2, s2⟩
    rw [List.getElem?_map] at hi
    obtain ⟨w, ew, rfl⟩ := Option.map_eq_some_iff.mp hi
    have lw2 := sw w (List.mem_of_getElem? ew)
    have il := (List.getElem?_eq_some_iff.mp ew).1
    refine ⟨_, rfl, rfl, w, 45, rfl, by rw [dash], fun z z0 zn za => ?_⟩
    refine ⟨_, rfl, rfl, w, 45, rfl, by rw [dash], by decide, fun n hn => ⟨rfl, _, rfl, ?_⟩⟩
    by_cases c2 : (InkY.spl 45 w).length = 2
    · have n1 : n = 1 := by omega
      subst n1
      obtain ⟨a, b, rfl, na, ct⟩ := InkY.str_two c2
      cases za a b rfl na
      have es : InkY.strOf (a ++ 45 :: b) = if InkY.isNum a = true ∧ InkY.isNum b = true then some (InkY.numOf a, InkY.numOf b) else none := by
        unfold InkY.strOf
        rw [ct]
      have lab : a.length + b.length + 1 = (a ++ 45 :: b).length := by rw [List.length_append, List.length_cons]; omega
      refine ite2 (fun cc => by first | exact absurd rfl (of_decide_eq_true cc) | (simp at cc)) (fun _ => ?_)
      refine ⟨_, rfl, _, rfl, _, rfl, _, rfl, by omega, ?_⟩
      rw [cut_left]
      refine ⟨a, rfl, by omega, fun H3 s3 => ?_⟩
      refine ⟨_, rfl, _, rfl, _, _, rfl, rfl, _, rfl, _, rfl, by omega, ?_⟩
      rw [cut_right]
      refine ⟨b, rfl, by omega, fun H4 s4 => ?_⟩
      refine ⟨_, rfl, _, _, rfl, rfl, _, rfl, ?_⟩
      have bad : InkY.strOf (a ++ 45 :: b) = none → Q .non H4 := fun z => k2 (ink_not ew z) H4 (s2.trans (s3.trans s4))
      cases ea : InkY.isNum a with
      | false =>
        rw [decide_eq_true ((rdN_lt a).mpr ea)]
        exact iteT (iteT (bad (by rw [es, if_neg (by rw [ea]; exact fun z => Bool.false_ne_true z.1)])))
      | true =>
        rw [decide_eq_false (show ¬ rdN a < 0 from fun z => by rw [(rdN_lt a).mp z] at ea; cases ea)]
        refine iteF ⟨_, rfl, _, _, rfl, rfl, _, rfl, ?_⟩
        cases eb : InkY.isNum b with
        | false =>
          rw [decide_eq_true ((rdN_lt b).mpr eb)]
          exact iteT (bad (by rw [es, if_neg (by rw [eb]; exact fun z => Bool.false_ne_true z.2)]))
        | true =>
          rw [decide_eq_false (show ¬ rdN b < 0 from fun z => by rw [(rdN_lt b).mp z] at eb; cases eb)]
          have es' : InkY.strOf (a ++ 45 :: b) = some (InkY.numOf a, InkY.numOf b) := by rw [es, if_pos ⟨ea, eb⟩]
          have s24 := s3.trans s4
          obtain ⟨as, hq2, pa⟩ := r2
          have hq4 := s24 _ _ hq2
          have la := Paired.length pa
          refine iteF ⟨_, rfl, .inl ⟨rfl, _, SqL.of hq4⟩, _, rfl, _, rfl, (by show 2 ≤ sizeLine; decide), fun t ft => ?_⟩
          rw [show rdN a = InkY.numOf a from if_pos ea, show rdN b = InkY.numOf b from if_pos eb]
          have s5 := same_new ft (.tup [.int (InkY.numOf a), .int (InkY.numOf b)])
          have lr : (rowIn (ws.take i)).length ≤ ws.length := by
            unfold rowIn
            refine Nat.le_trans (List.length_filterMap_le _ _) ?_
            rw [List.length_take]; omega
          refine ⟨q, _, _, rfl, rfl, s5 _ _ hq4, million (by rw [List.length_map]; omega), some _, some _, some _, some _, rfl, ?_, ?_, ?_⟩
          · rw [row_snoc ew es']
            refine ⟨as ++ [t], by rw [upd_same, List.map_append]; rfl, ?_⟩
            refine Paired.snoc ?_ ?_
            · exact (pa.same (s24.trans s5)).tups fun x xs e => by
                rw [upd_ne (ne_of_tup e (s5 _ _ hq4))]
                exact e
            · exact (upd_ne (ne_of_tup upd_same (s5 _ _ hq4))).trans upd_same
          · intro x hx
            rw [take_snoc ew] at hx
            rcases List.mem_append.mp hx with z | z
            · exact g2 x z
            · rw [List.mem_singleton.mp z, es']; rfl
          · exact keep_of fq (s2.trans (s24.trans s5)) (keep_upd q _ _)
    · have n1 : n ≠ 1 := by omega
      refine ite2 (fun _ => ?_) (fun cc => ?_)
      · exact k2 (ink_not ew (InkY.str_not c2)) H2 s2
      · exact absurd (by rw [decide_eq_false (show ¬ V.int (n : Int) = V.int 1 from fun z => n1 (by have := V.int.inj z; omega))]; rfl) cc
  · rintro σ H2 ⟨u2, u3, u4, u5, rfl, r2, g2, s2⟩
    rw [List.length_map, List.take_length] at r2 g2
    exact ⟨_, rfl, k1 g2 q H2 r2 s2 fq⟩

def OptD (o : Option Deed) (H : Hp) (Q : VK) : Prop := (∀ d, o = some d → ∀ (p : Addr) (H' : Hp), d.At H' p → Same H H' → Q (.ref p) H') ∧ (o = none → ∀ H', Same H H' → Q .non H')
def pourOf (r : List Nat) : Option Deed := match InkY.cutAt 32 r with
  | some (a, b) => if InkY.isNum a = true then some (.pour (InkY.numOf a) b) else none
  | none => none
def spDuePour : Sp := fun vs H Q _ => ∃ (cs : List Nat), vs = [.str (txt cs)] ∧ cs.length ≤ 90000 ∧ OptD (pourOf cs) H Q
abbrev s_law_due_pour : Stmt := top 32
theorem sc_law_due_pour : FnScope ["_law_rest", "_law_spot"] ["_law_rest"] (defScope s_law_due_pour) := ⟨rfl, rfl, rfl, by decide +kernel, rfl, by decide +kernel, by decide +kernel⟩
set_option maxHeartbeats 4000000 in
theorem ok_law_due_pour {f fR : Addr} {fd gR : FuncData} (F : Fun K "_law_due_pour" "_law_due_pour" s_law_due_pour f fd) (T : Nms mg) (d_law_reads : DefAt K mg "_law_reads" s_law_reads ["_law_word"] fR gR) : FnOk P w K mg base CX0 2 f fd ["_law_rest"] spDuePour := by
  have g_law_reads : FnOk P w K mg base CX0 1 _ _ ["_law_word"] spLReads := ok_law_reads d_law_reads.F T
  refine F.ok sc_law_due_pour (fun vs H Q E h => ?_) (fun cdv A outer s H vs Q E hr h => ?_)
  · obtain ⟨cs, rfl, _⟩ := h
    rfl
  obtain ⟨cs, rfl, lc, k1, k2⟩ := h
  refine ⟨_, (pss_cons (ps_set (i := 1) sc_law_due_pour.nd rfl (Or.inl rfl) (pe_bm PySem.F.plainAttrs_str PySem.F.slot_str_find PySem.F.type_str_find InkU.mt_findT (pv 0) (pa_cons pe_str pa_nil)))
      (pss_cons (ps_if (PW.pt (pw_or (pt_cmpR op_lt (pv 1) pe_int (nomark _)) (pw_or1 (pt_cmpR op_lt (pe_def d_law_reads g_law_reads hr (pa_cons (pe_slice InkY.sl_txt (pv 0) po_none (po_some (pv 1))) pa_nil)) pe_int (nomark _)))))
      (pss_one (ps_ret pe_non))
      pss_nil)
      (pss_one (ps_ret (pe_tup (pa_cons pe_str (pa_cons (pe_def d_law_reads g_law_reads hr (pa_cons (pe_slice InkY.sl_txt (pv 0) po_none (po_some (pv 1))) pa_nil)) (pa_cons (pe_slice InkY.sl_txt (pv 0) (po_some (pe_op op_add (pv 1) pe_int)) po_none) pa_nil)))))))), ?_⟩
  have blank : Str.ofString " " = ⟨#[32]⟩ := by decide +kernel
  refine ⟨_, rfl, rfl, cs, 32, rfl, by rw [blank], fun z z0 zn za => ?_⟩
  refine ⟨_, rfl, _, _, rfl, rfl, _, rfl, ?_⟩
  cases e : InkY.cutAt 32 cs with
  | none =>
    have nb := InkY.cutAt_none.mp e
    cases zn nb
    exact iteT (iteT (k2 (by unfold pourOf; rw [e]) H (Same.refl _)))
  | some p =>
    obtain ⟨a, b⟩ := p
    obtain ⟨rfl, na⟩ := InkY.cutAt_some.mp e
    cases za a b rfl na
    have lab : a.length + b.length + 1 = (a ++ 32 :: b).length := by rw [List.length_append, List.length_cons]; omega
    have ep : pourOf (a ++ 32 :: b) = if InkY.isNum a = true then some (.pour (InkY.numOf a) b) else none := by unfold pourOf; rw [e]
    rw [decide_eq_false (show ¬ ((a.length : Int) < 0) by omega)]
    refine iteF ⟨_, rfl, _, rfl, _, rfl, _, rfl, by omega, ?_⟩
    rw [cut_left]
    refine ⟨a, rfl, by omega, fun H1 s1 => ⟨_, _, rfl, rfl, _, rfl, ?_⟩⟩
    cases ea : InkY.isNum a with
    | false =>
      rw [decide_eq_true ((rdN_lt a).mpr ea)]
      exact iteT (k2 (by rw [ep, if_neg (by rw [ea]; exact Bool.false_ne_true)]) H1 s1)
    | true =>
      rw [decide_eq_false (show ¬ rdN a < 0 from fun z => by rw [(rdN_lt a).mp z] at ea; cases ea)]
      refine iteF ⟨_, rfl, _, rfl, _, rfl, _, rfl, by omega, ?_⟩
      rw [cut_left]
      refine ⟨a, rfl, by omega, fun H2 s2 => ?_⟩
      refine ⟨_, rfl, _, rfl, _, _, rfl, rfl, _, rfl, _, rfl, by omega, ?_⟩
      rw [cut_right, show rdN a = InkY.numOf a from if_pos ea]
      exact ⟨(by show 3 ≤ sizeLine; decide), fun t ft => k1 (.pour (InkY.numOf a) b) (by rw [ep, if_pos ea]) t _ upd_same (s1.trans (s2.trans (same_new ft _)))⟩

def spDueTie : Sp := fun vs H Q _ => ∃ (l : Addr) (ws : List (List Nat)), vs = [.ref l] ∧ H l = some (wordsL ws) ∧ ws.length ≤ 100000 ∧ (∀ w ∈ ws, w.length ≤ 100000) ∧ OptD (tieOf ws) H Q
abbrev s_law_due_tie : Stmt := top 33
theorem sc_law_due_tie : FnScope ["_law_words", "_law_one", "_law_other"] ["_law_words"] (defScope s_law_due_tie) := ⟨rfl, rfl, rfl, by decide +kernel, rfl, by decide +kernel, by decide +kernel⟩
theorem count_not {ws : List (List Nat)} (h : ws.count [47] ≠ 1) : tieOf ws = none := tie_none fun a b e na nb _ => by
  apply h
  rw [e, List.count_append, List.count_cons_self, List.count_eq_zero.mpr na, List.count_eq_zero.mpr nb]
set_option maxHeartbeats 4000000 in
theorem ok_law_due_tie {f fR fW : Addr} {fd gR gW : FuncData} (F : Fun K "_law_due_tie" "_law_due_tie" s_law_due_tie f fd) (T : Nms mg) (d_law_reads : DefAt K mg "_law_reads" s_law_reads ["_law_word"] fR gR) (d_law_words_row : DefAt K mg "_law_words_row" s_law_words_row ["_law_words"] fW gW) : FnOk P w K mg base CX0 3 f fd ["_law_words"] spDueTie := by
  have g_law_words_row : FnOk P w K mg base CX0 2 _ _ ["_law_words"] spWordsRow := ok_law_words_row d_law_words_row.F T d_law_reads
  refine F.ok sc_law_due_tie (fun vs H Q E h => ?_) (fun cdv A outer s H vs Q E hr h => ?_)
  · obtain ⟨l, ws, rfl, _⟩ := h
    rfl
  obtain ⟨l, ws, rfl, hl, lw, sw, k1, k2⟩ := h
  refine ⟨_, (pss_cons (ps_if (pt_cmpR op_ne (pe_bm PySem.F.plainAttrs_list PySem.F.slot_list_count PySem.F.type_list_count InkU.mt_countL (pv 0) (pa_cons pe_str pa_nil)) pe_int (nomark _))
      (pss_one (ps_ret pe_non))
      pss_nil)
      (pss_cons (ps_set (i := 1) sc_law_due_tie.nd rfl (Or.inl rfl) (pe_def d_law_words_row g_law_words_row hr (pa_cons (pe_slice sl_list (pv 0) po_none (po_some (pe_bm PySem.F.plainAttrs_list PySem.F.slot_list_index PySem.F.type_list_index InkU.mt_indexL (pv 0) (pa_cons pe_str pa_nil)))) pa_nil)))
      (pss_cons (ps_set (i := 2) sc_law_due_tie.nd rfl (Or.inl rfl) (pe_def d_law_words_row g_law_words_row hr (pa_cons (pe_slice sl_list (pv 0) (po_some (pe_op op_add (pe_bm PySem.F.plainAttrs_list PySem.F.slot_list_index PySem.F.type_list_index InkU.mt_indexL (pv 0) (pa_cons pe_str pa_nil)) pe_int)) po_none) pa_nil)))
      (pss_cons (ps_if (PW.pt (pw_or (pt_cmp (pc_isN (pv 1))) (pw_or1 (pt_cmp (pc_isN (pv 2))))))
      (pss_one (ps_ret pe_non))
      pss_nil)
      (pss_one (ps_ret (pe_tup (pa_cons pe_str (pa_cons (pv 1) (pa_cons (pv 2) pa_nil)))))))))), ?_⟩
  have stroke : Str.ofString "/" = txt [47] := by decide +kernel
  refine ⟨_, rfl, .inl ⟨rfl, _, SqL.of hl⟩, l, [47], ws, rfl, by rw [stroke], hl, rfl, _, rfl, ?_⟩
  by_cases c1 : ws.count [47] = 1
  · refine ite2 (fun cc => by rw [c1] at cc; first | exact absurd rfl (of_decide_eq_true cc) | (simp at cc)) (fun _ => ?_)
    obtain ⟨a, b, rfl, na, nb⟩ := count_one c1
    have lab : a.length + b.length + 1 = (a ++ [47] :: b).length := by rw [List.length_append, List.length_cons]; omega
    have swa : ∀ w ∈ a, w.length ≤ 100000 := fun w hw => sw w (List.mem_append_left _ hw)
    have swb : ∀ w ∈ b, w.length ≤ 100000 := fun w hw => sw w (List.mem_append_right _ (List.mem_cons_of_mem _ hw))
    have no : ¬ (inkOk a ∧ inkOk b) → tieOf (a ++ [47] :: b) = none := fun z => tie_none fun a' b' e na' nb' => by
      have u := split_one e na nb na' nb'
      rw [← u.1, ← u.2]
      exact z
    refine ⟨_, rfl, _, rfl, .inl ⟨rfl, _, SqL.of hl⟩, l, [47], a, b, rfl, by rw [stroke], hl, na, by omega, _, rfl, l, _, rfl, SqL.of hl, fun p hp => ?_⟩
    rw [cutV_left]
    have s1 := same_new hp (wordsL a)
    refine ⟨p, a, rfl, upd_same, by omega, swa, fun ga q1 H1 r1 s2 f1 => ?_, fun ga H1 s2 => ?_⟩
    all_goals
      have hl1 := s2 _ _ (s1 _ _ hl)
      refine ⟨_, rfl, _, rfl, .inl ⟨rfl, _, SqL.of hl1⟩, l, [47], a, b, rfl, by rw [stroke], hl1, na, by omega, _, _, rfl, rfl, _, rfl, l, _, rfl, SqL.of hl1, fun p2 hp2 => ?_⟩
      rw [cutV_right]
      have s3 := same_new hp2 (wordsL b)
      refine ⟨p2, b, rfl, upd_same, by omega, swb, fun gb q2 H2 r2 s4 f2 => ?_, fun gb H2 s4 => ?_⟩
    · refine ⟨_, rfl, false, rfl, iteF ⟨_, rfl, false, rfl, iteF ?_⟩⟩
      refine ⟨_, rfl, _, rfl, (by show 3 ≤ sizeLine; decide), fun t ht => ?_⟩
      have s5 := same_new ht (.tup [.str (Str.ofString "tie"), .ref q1, .ref q2])
      have s12 := s1.trans s2
      obtain ⟨as1, hq1, _⟩ := id r1
      have f2' : H1 q2 = none := free_same s3 f2
      exact k1 (.tie (rowIn a) (rowIn b)) (tie_some rfl na nb ga gb) t _ ⟨q1, q2, upd_same, (r1.same (s3.trans s4)).same s5, r2.same s5, ne_of_none hq1 f2'⟩ (s12.trans (s3.trans (s4.trans s5)))
    · exact ⟨_, rfl, false, rfl, iteF ⟨_, rfl, true, rfl, iteT (k2 (no fun z => gb z.2) H2 (s1.trans (s2.trans (s3.trans s4))))⟩⟩
    · exact ⟨_, rfl, true, rfl, iteT (iteT (k2 (no fun z => ga z.1) H2 (s1.trans (s2.trans (s3.trans s4)))))⟩
    · exact ⟨_, rfl, true, rfl, iteT (iteT (k2 (no fun z => ga z.1) H2 (s1.trans (s2.trans (s3.trans s4)))))⟩
  · refine ite2 (fun _ => ?_) (fun c => absurd (by simpa using fun z => c1 (by omega)) c)
    exact k2 (count_not c1) H (Same.refl _)

abbrev BAR : List (Str × Int) := [(Str.ofString "fresh", 0), (Str.ofString "fix", 1), (Str.ofString "untie", 1), (Str.ofString "read", 1), (Str.ofString "back", 2), (Str.ofString "fork", 2), (Str.ofString "cut", 3), (Str.ofString "window", 3), (Str.ofString "move", 4), (Str.ofString "quote", 5)]
abbrev dkOf (D : List (Str × Int)) : List (Key × V) := D.map fun p => (.inr p.1, .int p.2)
theorem val_dk (D : List (Str × Int)) (n : List Nat) : valV (dkOf D) (.inr (txt n)) = (tabAt D n).map V.int := by
  unfold valV tabAt
  induction D with
  | nil => rfl
  | cons p D ih =>
    show Option.map _ (List.find? _ ((Sum.inr p.1, V.int p.2) :: dkOf D)) = _
    rw [List.find?_cons, List.find?_cons]
    by_cases h : txt n = p.1
    · rw [decide_eq_true h, show decide ((Sum.inr p.1 : Key) = .inr (txt n)) = true from decide_eq_true (by rw [h])]
      rfl
    · rw [decide_eq_false h, show decide ((Sum.inr p.1 : Key) = .inr (txt n)) = false from decide_eq_false fun z => h (Sum.inr.inj z).symm]
      exact ih
theorem bar_num (n : List Nat) : tabAt BAR n = tabAt NUM n := by
  unfold tabAt
  by_cases h : txt n ∈ NUM.map (·.1)
  · have z : ∀ x ∈ NUM.map (·.1), (BAR.find? fun p => decide (x = p.1)).map (·.2) = (NUM.find? fun p => decide (x = p.1)).map (·.2) := by decide +kernel
    exact z _ h
  · have hb : txt n ∉ BAR.map (·.1) := fun z => h ((show ∀ x ∈ BAR.map (·.1), x ∈ NUM.map (·.1) by decide +kernel) _ z)
    have no : ∀ D : List (Str × Int), txt n ∉ D.map (·.1) → (D.find? fun p => decide (txt n = p.1)) = none := fun D hd => List.find?_eq_none.mpr fun p hp z => hd (by rw [of_decide_eq_true z]; exact List.mem_map_of_mem hp)
    rw [no _ h, no _ hb]
theorem merge4 : mergeK [] (dkOf AHD) = dkOf AHD := by decide +kernel
theorem merge8 : putK (putK (mergeK [] (dkOf (BAR.take 8))) (.inr (Str.ofString "move")) (.int 4)) (.inr (Str.ofString "quote")) (.int 5) = dkOf BAR := by decide +kernel
theorem num_ahd {n : List Nat} {k : Int} (h : tabAt NUM n = some k) : tabAt AHD n = none := by
  have z : ∀ p ∈ NUM, (AHD.find? fun q => decide (p.1 = q.1)) = none := by decide +kernel
  unfold tabAt
  have := z _ (List.mem_of_find?_eq_some (tab_some h))
  rw [this]
  rfl
theorem num_nn {n : List Nat} {k : Int} (h : tabAt NUM n = some k) : 0 ≤ k := (show ∀ p ∈ NUM, 0 ≤ p.2 by decide +kernel) _ (List.mem_of_find?_eq_some (tab_some h))
theorem ahd_nn {n : List Nat} {k : Int} (h : tabAt AHD n = some k) : 0 ≤ k := (show ∀ p ∈ AHD, 0 ≤ p.2 by decide +kernel) _ (List.mem_of_find?_eq_some (tab_some h))
def manyOf (n : List Nat) : Int := (tabAt AHD n).getD ((tabAt NUM n).getD (-1))
def goodW (n : List Nat) (ws : List (List Nat)) (m : Int) : Prop := (tabAt NUM n = some m ∧ (ws.length : Int) = m) ∨ (tabAt NUM n = none ∧ tabAt AHD n = some m ∧ m ≤ (ws.length : Int))
theorem cut_at5 (cs : List Nat) : InkY.cutN cs none (some 5) = cs.take 5 := by
  unfold InkY.cutN
  have e1 : HT.sIx cs.length cs.length (some 5) = min 5 cs.length := HT.sIx_nat _ _ 5
  have e2 : HT.sIx cs.length 0 none = 0 := rfl
  rw [e1, e2, List.drop_zero, Nat.sub_zero]
  by_cases h : 5 ≤ cs.length
  · rw [Nat.min_eq_left h]
  · rw [Nat.min_eq_right (by omega), List.take_of_length_le (Nat.le_refl _), List.take_of_length_le (by omega)]
theorem catT_any {K : PySem.W.Frag} {H : Hp} {a b : Addr} {xs ys : List V} {Q : VK} (ha : H a = some (.tup xs)) (hb : H b = some (.tup ys)) (nx : xs ≠ []) (hl : xs.length + ys.length ≤ 1000001) (k : ∀ (p : Addr) (H' : Hp), H' p = some (.tup (xs ++ ys)) → Same H H' → Q (.ref p) H') : rCatT K (.ref a) (.ref b) H Q :=
  ⟨a, b, xs, ys, rfl, rfl, SqT.of ha, SqT.of hb, nx, Nat.le_of_lt (million hl), fun e => k a H (by rw [e, List.append_nil]; exact ha) (Same.refl _), fun _ p hp => k p _ upd_same (same_new hp _)⟩
theorem neg_none {ws : List (List Nat)} (h : numsOk ws) : (ws.map rdN).filter (fun x => decide (x < 0)) = [] := by
  rw [List.filter_eq_nil_iff]
  intro x hx
  obtain ⟨w, hw, rfl⟩ := List.mem_map.mp hx
  rw [decide_eq_true_iff]
  intro z
  have e := (rdN_lt w).mp z
  rw [h w hw] at e
  cases e
theorem neg_some {ws : List (List Nat)} (h : ¬ numsOk ws) : 0 < ((ws.map rdN).filter (fun x => decide (x < 0))).length := by
  apply Classical.byContradiction
  intro z
  apply h
  intro w hw
  cases e : InkY.isNum w with
  | true => rfl
  | false =>
    have m : rdN w ∈ (ws.map rdN).filter (fun x => decide (x < 0)) := List.mem_filter.mpr ⟨List.mem_map_of_mem hw, decide_eq_true ((rdN_lt w).mpr e)⟩
    have := List.length_pos_of_mem m
    omega
theorem rd_nums {ws : List (List Nat)} (h : numsOk ws) : ws.map rdN = numsIn ws := List.map_congr_left fun w hw => if_pos (h w hw)
theorem cutW_mid (n : List Nat) (ws : List (List Nat)) {m : Int} (h : 0 ≤ m) : cutV ((n :: ws).map fun w => V.str (txt w)) (some 1) (some (m + 1)) = (ws.take m.toNat).map fun w => V.str (txt w) := by
  obtain ⟨j, rfl⟩ : ∃ j : Nat, m = j := ⟨m.toNat, by omega⟩
  unfold cutV
  have e1 : HT.sIx ((n :: ws).map fun w => V.str (txt w)).length 0 (some 1) = 1 := (HT.sIx_nat _ _ 1).trans (by rw [List.length_map, List.length_cons]; omega)
  have e2 : HT.sIx ((n :: ws).map fun w => V.str (txt w)).length ((n :: ws).map fun w => V.str (txt w)).length (some ((j : Int) + 1)) = min (j + 1) (ws.length + 1) := by
    have := HT.sIx_nat ((n :: ws).map fun w => V.str (txt w)).length ((n :: ws).map fun w => V.str (txt w)).length (j + 1)
    rw [show ((j + 1 : Nat) : Int) = (j : Int) + 1 by omega] at this
    rw [this, List.length_map, List.length_cons]
  rw [e1, e2, List.map_cons, List.drop_one, List.tail_cons, List.map_take, Int.toNat_natCast]
  by_cases c : j ≤ ws.length
  · rw [show min (j + 1) (ws.length + 1) - 1 = j by omega]
  · rw [List.take_of_length_le (by rw [List.length_map]; omega), List.take_of_length_le (by rw [List.length_map]; omega)]
theorem words_plain {n : List Nat} {ws : List (List Nat)} {m : Int} (ct : n ≠ tieW) (en : tabAt NUM n = some m) (e : (ws.length : Int) = m) : wordsD n ws = if ws.all InkY.isNum = true then some (.plain n (numsIn ws)) else none := by
  unfold wordsD
  rw [if_neg ct, en]
  show (if _ then _ else _) = _
  by_cases g : ws.all InkY.isNum = true
  · rw [if_pos ⟨e, g⟩, if_pos g]
  · rw [if_neg fun z => g z.2, if_neg g]
theorem words_rowed {n : List Nat} {ws : List (List Nat)} {m : Int} (ct : n ≠ tieW) (en : tabAt NUM n = none) (ea : tabAt AHD n = some m) (e : m ≤ (ws.length : Int)) : wordsD n ws = if (ws.take m.toNat).all InkY.isNum = true ∧ ((ws.drop m.toNat).all fun w => (InkY.strOf w).isSome) = true then some (.rowed n (numsIn (ws.take m.toNat)) (rowIn (ws.drop m.toNat))) else none := by
  unfold wordsD
  rw [if_neg ct, en, ea]
  show (if _ then _ else _) = _
  by_cases g : (ws.take m.toNat).all InkY.isNum = true ∧ ((ws.drop m.toNat).all fun w => (InkY.strOf w).isSome) = true
  · rw [if_pos ⟨e, g⟩, if_pos g]
  · rw [if_neg fun z => g z.2, if_neg g]
theorem words_bad {n : List Nat} {ws : List (List Nat)} (ct : n ≠ tieW) (g : ¬ goodW n ws (manyOf n)) : wordsD n ws = none := by
  unfold wordsD
  rw [if_neg ct]
  cases en : tabAt NUM n with
  | some m =>
    have em : manyOf n = m := by unfold manyOf; rw [num_ahd en, en]; rfl
    exact if_neg fun z => g (.inl ⟨by rw [em, en], by rw [em]; exact z.1⟩)
  | none =>
    cases ea : tabAt AHD n with
    | none => rfl
    | some m =>
      have em : manyOf n = m := by unfold manyOf; rw [ea]; rfl
      exact if_neg fun z => g (.inr ⟨en, by rw [em, ea], by rw [em]; exact z.1⟩)
def spDue33 : Sp := fun vs H Q _ => ∃ (cs : List Nat), vs = [.str (txt cs)] ∧ cs.length ≤ 90000 ∧ OptD (parseD cs) H Q
abbrev s_law_due : Stmt := top 34
theorem sc_law_due : FnScope ["_law_line", "_law_words", "_law_name", "_law_rowed", "_law_bare", "_law_many", "_law_numbers", "_law_row"] ["_law_line"] (defScope s_law_due) := ⟨rfl, rfl, rfl, by decide +kernel, rfl, by decide +kernel, by decide +kernel⟩
def dcAt : Stmt → List (Option Expr) × List Expr
  | .Assign _ (.Dict ks vs _) _ => (ks, vs)
  | _ => ([], [])
def dcSet (ks : List (Option Expr)) (vs : List Expr) : Stmt → Stmt
  | .Assign t (.Dict _ _ p) r => .Assign t (.Dict ks vs p) r
  | s => s
def litTI : Option Expr × Expr → InkU.TI
  | (some (.Constant (.str s) a p), .Constant (.int i) b q) => ((s, a, p), (i, b, q))
  | _ => ((Str.empty, 0, ⟨0, 0, 0, 0⟩), (0, 0, ⟨0, 0, 0, 0⟩))
def duL (i : Nat) : List InkU.TI := (fun z : List (Option Expr) × List Expr => (z.1.zip z.2).map litTI) (dcAt ((defBody s_law_due).getD i (.Pass ⟨0, 0, 0, 0⟩)))
def duBody (k1 : List (Option Expr)) (v1 : List Expr) (k2 : List (Option Expr)) (v2 : List Expr) : List Stmt := match defBody s_law_due with
  | a0 :: a1 :: a2 :: a3 :: a4 :: a5 :: r => a0 :: a1 :: a2 :: a3 :: dcSet k1 v1 a4 :: dcSet k2 v2 a5 :: r
  | x => x
theorem du_4 : (duL 4).map InkU.tiK = dkOf AHD := by decide +kernel
theorem du_5 : (duL 5).map InkU.tiK = dkOf (BAR.take 8) := by decide +kernel
theorem du_4n : duL 4 ≠ [] := fun z => by have := congrArg List.length z; revert this; decide +kernel
theorem du_5n : duL 5 ≠ [] := fun z => by have := congrArg List.length z; revert this; decide +kernel
theorem du_4l : (duL 4).length ≤ 15 := by decide +kernel
theorem du_5l : (duL 5).length ≤ 15 := by decide +kernel
theorem du_p (X : Cx) (l : List InkU.TI) (D : List (Str × Int)) (e : l.map InkU.tiK = dkOf D) (h0 : l ≠ []) (h15 : l.length ≤ 15) (pos : Pos) : PE X (.Dict (l.map InkU.kE) (l.map InkU.vE) pos) (InkU.tDC (mergeK [] (dkOf D))) := by
  have h := InkU.pe_ti (X := X) (pos := pos) l h0 h15
  rw [e] at h
  exact h
theorem du_split : ∃ k1 v1 k2 v2, defBody s_law_due = duBody k1 v1 k2 v2 ∧ (∀ (X : Cx) (pos : Pos), PE X (.Dict k1 v1 pos) (InkU.tDC (mergeK [] (dkOf AHD)))) ∧ (∀ (X : Cx) (pos : Pos), PE X (.Dict k2 v2 pos) (InkU.tDC (mergeK [] (dkOf (BAR.take 8))))) := by
  refine ⟨(duL 4).map InkU.kE, (duL 4).map InkU.vE, (duL 5).map InkU.kE, (duL 5).map InkU.vE, rfl, ?_, ?_⟩
  · exact fun X pos => @du_p X (duL 4) AHD du_4 du_4n du_4l pos
  · exact fun X pos => @du_p X (duL 5) (BAR.take 8) du_5 du_5n du_5l pos
def duT : TS := fun D σ H => ∃ (s0 : Option V) (l aR aB : Addr) (n : List Nat) (ws : List (List Nat)), σ = [s0, some (.ref l), some (.str (txt n)), some (.ref aR), some (.ref aB), some (.int (manyOf n)), none, none] ∧ H l = some (wordsL (n :: ws)) ∧ H aB = some (.dK (dkOf BAR)) ∧ ws.length ≤ 100000 ∧ (¬ goodW n ws (manyOf n) → D.rt .non H) ∧ (goodW n ws (manyOf n) → D.nx σ H)
set_option maxHeartbeats 8000000 in
theorem ok_law_due {f fR fW fP fT : Addr} {fd gR gW gP gT : FuncData} (F : Fun K "_law_due" "_law_due" s_law_due f fd) (T : Nms mg) (d_law_reads : DefAt K mg "_law_reads" s_law_reads ["_law_word"] fR gR) (d_law_words_row : DefAt K mg "_law_words_row" s_law_words_row ["_law_words"] fW gW) (d_law_due_pour : DefAt K mg "_law_due_pour" s_law_due_pour ["_law_rest"] fP gP) (d_law_due_tie : DefAt K mg "_law_due_tie" s_law_due_tie ["_law_words"] fT gT) : FnOk P w K mg base CX0 4 f fd ["_law_line"] spDue33 := by
  have g_law_reads : FnOk P w K mg base CX0 1 _ _ ["_law_word"] spLReads := ok_law_reads d_law_reads.F T
  have g_law_words_row : FnOk P w K mg base CX0 2 _ _ ["_law_words"] spWordsRow := ok_law_words_row d_law_words_row.F T d_law_reads
  have g_law_due_pour : FnOk P w K mg base CX0 2 _ _ ["_law_rest"] spDuePour := ok_law_due_pour d_law_due_pour.F T d_law_reads
  have g_law_due_tie : FnOk P w K mg base CX0 3 _ _ ["_law_words"] spDueTie := ok_law_due_tie d_law_due_tie.F T d_law_reads d_law_words_row
  refine F.ok sc_law_due (fun vs H Q E h => ?_) (fun cdv A outer s H vs Q E hr h => ?_)
  · obtain ⟨cs, rfl, _⟩ := h
    rfl
  obtain ⟨cs, rfl, lc, k1, k2⟩ := h
  have hu := hu_of hr
  obtain ⟨dk1, dv1, dk2, dv2, he, p1, p2⟩ := du_split
  rw [he]
  refine ⟨_, (pss_cons (ps_if (pt_cmpR op_eq (pe_slice InkY.sl_txt (pv 0) po_none (po_some pe_int)) pe_str (nomark _))
      (pss_one (ps_ret (pe_def d_law_due_pour g_law_due_pour hr (pa_cons (pe_slice InkY.sl_txt (pv 0) (po_some pe_int) po_none) pa_nil))))
      pss_nil)
      (pss_cons (ps_set (i := 1) sc_law_due.nd rfl (Or.inl rfl) (pe_bm PySem.F.plainAttrs_str PySem.F.slot_str_split PySem.F.type_str_split InkY.mt_split1 (pv 0) (pa_cons pe_str pa_nil)))
      (pss_cons (ps_set (i := 2) sc_law_due.nd rfl (Or.inl rfl) (pe_ix ix_list (pv 1) pe_int (fun _ _ => rfl)))
      (pss_cons (ps_if (pt_cmpR op_eq (pv 2) pe_str (nomark _))
      (pss_one (ps_ret (pe_def d_law_due_tie g_law_due_tie hr (pa_cons (pe_slice sl_list (pv 1) (po_some pe_int) po_none) pa_nil))))
      pss_nil)
      (pss_cons (ps_set (i := 3) sc_law_due.nd rfl (Or.inl rfl) (p1 _ _))
      (pss_cons (ps_set (i := 4) sc_law_due.nd rfl (Or.inl rfl) (p2 _ _))
      (pss_cons (ps_dput hu (pv 4) pe_str pe_int rfl)
      (pss_cons (ps_dput hu (pv 4) pe_str pe_int rfl)
      (pss_cons (ps_set (i := 5) sc_law_due.nd rfl (Or.inl rfl) (pe_dget2 hu (pv 3) (pv 2) (pe_dget2 hu (pv 4) (pv 2) (pe_un un_neg pe_int) ⟨rfl, rfl, rfl, rfl⟩) ⟨rfl, rfl, rfl, rfl⟩))
      (pss_cons (ps_imp (t' := duT) (ps_if (PW.pt (pw_or (pt_cmpR op_lt (pv 5) pe_int (nomark _)) (pw_or (pt_cmpR op_lt (pe_callB call_len_seq rfl T.n_len PySem.boot_len (pa_cons (pv 1) pa_nil)) (pe_op op_add (pv 5) pe_int) (nomark _)) (pw_or1 (PW.pt (pw_and (pt_cmp (pc_din hu (pv 2) (pv 4))) (pw_and1 (pt_cmpR op_ne (pe_callB call_len_seq rfl T.n_len PySem.boot_len (pa_cons (pv 1) pa_nil)) (pe_op op_add (pv 5) pe_int) (nomark _)))))))))
      (pss_one (ps_ret pe_non))
      pss_nil) ?b9)
      (pss_cons (ps_setG (N := ["_law_word"]) (i := 6) (compG (sc := defScope s_law_due) (NX := ["_law_line", "_law_words", "_law_name", "_law_rowed", "_law_bare", "_law_many", "_law_numbers", "_law_row"]) (jx := [none]) rfl rfl rfl (by decide +kernel) (by decide +kernel) rfl (by decide +kernel) rfl (by decide +kernel)) rfl sc_law_due.nd rfl rfl (pi_list (pe_slice sl_list (pv 1) (po_some pe_int) (po_some (pe_op op_add (pv 5) pe_int)))) (fun _ _ _ _ _ _ => (pg_name (i := 0) (show List.Nodup (["_law_word"] : List Str) by decide +kernel) rfl (Or.inl rfl))) (fun _ _ _ _ _ _ => pts_nil) (fun _ _ _ _ _ _ => (pe_def d_law_reads g_law_reads hr (pa_cons (pv 0) pa_nil))))
      (pss_cons (ps_if (pt_cmpR op_gt (pe_callB call_len_seq rfl T.n_len PySem.boot_len (pa_cons (pe_compG (N := ["_law_number_here"]) (compG (sc := defScope s_law_due) (NX := ["_law_line", "_law_words", "_law_name", "_law_rowed", "_law_bare", "_law_many", "_law_numbers", "_law_row"]) (jx := [none]) rfl rfl rfl (by decide +kernel) (by decide +kernel) rfl (by decide +kernel) rfl (by decide +kernel)) rfl (pi_list (pv 6)) (fun _ _ _ _ _ _ => (pg_name (i := 0) (show List.Nodup (["_law_number_here"] : List Str) by decide +kernel) rfl (Or.inl rfl))) (fun _ _ _ _ _ _ => pts_one (pt_cmpR op_lt (pv 0) pe_int (nomark _))) (fun _ _ _ _ _ _ => (pv 0))) pa_nil)) pe_int (nomark _))
      (pss_one (ps_ret pe_non))
      pss_nil)
      (pss_cons (ps_if (pt_cmp (pc_din hu (pv 2) (pv 4)))
      (pss_one (ps_ret (pe_op op_catT (pe_tup (pa_cons (pv 2) pa_nil)) (pe_callTy call_tuple_of rfl T.n_tuple PyProof.Rows.boot_tuple (pa_cons (pv 6) pa_nil)))))
      pss_nil)
      (pss_cons (ps_set (i := 7) sc_law_due.nd rfl (Or.inl rfl) (pe_def d_law_words_row g_law_words_row hr (pa_cons (pe_slice sl_list (pv 1) (po_some (pe_op op_add (pv 5) pe_int)) po_none) pa_nil)))
      (pss_cons (ps_if (pt_cmp (pc_isN (pv 7)))
      (pss_one (ps_ret pe_non))
      pss_nil)
      (pss_one (ps_ret (pe_op op_catT (pe_op op_catT (pe_tup (pa_cons (pv 2) pa_nil)) (pe_callTy call_tuple_of rfl T.n_tuple PyProof.Rows.boot_tuple (pa_cons (pv 6) pa_nil))) (pe_tup (pa_cons (pv 7) pa_nil)))))))))))))))))))), ?_⟩
  case b9 =>
    rintro D σ H ⟨s0, l, aR, aB, n, ws, rfl, hl, hb, lw, kb, kg⟩
    have ln : ((n :: ws).map fun w => V.str (txt w)).length = ws.length + 1 := by rw [List.length_map, List.length_cons]
    refine ⟨_, rfl, _, _, rfl, rfl, _, rfl, ?_⟩
    cases en : tabAt NUM n with
    | some m =>
      have em : manyOf n = m := by unfold manyOf; rw [num_ahd en, en]; rfl
      have m0 := num_nn en
      rw [em] at kb kg ⊢
      rw [decide_eq_false (show ¬ m < 0 by omega)]
      refine iteF ⟨_, rfl, l, _, rfl, .inl (SqL.of hl), _, rfl, _, _, rfl, rfl, _, _, rfl, rfl, _, rfl, ?_⟩
      refine ite2 (fun c => iteT (kb ?_)) (fun c => ?_)
      · have c' := of_decide_eq_true c
        rw [ln] at c'
        rintro (⟨_, z⟩ | ⟨z, _⟩)
        · omega
        · rw [en] at z; cases z
      have c' : ¬ ((ws.length : Int) + 1 < m + 1) := fun z => c (decide_eq_true (by rw [ln]; omega))
      refine ⟨_, rfl, _, rfl, aB, _, rfl, DGet.k (k := .inr (txt n)) hb, _, rfl, ?_⟩
      rw [val_dk, bar_num, en]
      refine iteT ⟨_, rfl, l, _, rfl, .inl (SqL.of hl), _, rfl, _, _, rfl, rfl, rfl, _, rfl, ?_⟩
      rw [ln]
      by_cases c3 : (ws.length : Int) = m
      · refine ite2 (fun cc => absurd cc ?_) (fun _ => kg (.inl ⟨en, c3⟩))
        rw [show (((ws.length + 1 : Nat) : Int)) = m + 1 by omega]
        simp
      · refine ite2 (fun _ => kb ?_) (fun cc => absurd ?_ cc)
        · rintro (⟨_, z⟩ | ⟨z, _⟩)
          · exact c3 z
          · rw [en] at z; cases z
        · rw [decide_eq_false (show ¬ V.int ((ws.length + 1 : Nat) : Int) = V.int (m + 1) from fun z => c3 (by have := V.int.inj z; omega))]
          rfl
    | none =>
      cases ea : tabAt AHD n with
      | none =>
        have em : manyOf n = -1 := by unfold manyOf; rw [en, ea]; rfl
        rw [em] at kb kg ⊢
        refine iteT (iteT (kb ?_))
        rintro (⟨z, _⟩ | ⟨_, z, _⟩)
        · rw [en] at z; cases z
        · rw [ea] at z; cases z
      | some m =>
        have em : manyOf n = m := by unfold manyOf; rw [ea]; rfl
        have m0 := ahd_nn ea
        rw [em] at kb kg ⊢
        rw [decide_eq_false (show ¬ m < 0 by omega)]
        refine iteF ⟨_, rfl, l, _, rfl, .inl (SqL.of hl), _, rfl, _, _, rfl, rfl, _, _, rfl, rfl, _, rfl, ?_⟩
        refine ite2 (fun c => iteT (kb ?_)) (fun c => ?_)
        · have c' := of_decide_eq_true c
          rw [ln] at c'
          rintro (⟨z, _⟩ | ⟨_, _, z⟩)
          · rw [en] at z; cases z
          · omega
        have c' : ¬ ((ws.length : Int) + 1 < m + 1) := fun z => c (decide_eq_true (by rw [ln]; omega))
        refine ⟨_, rfl, _, rfl, aB, _, rfl, DGet.k (k := .inr (txt n)) hb, _, rfl, ?_⟩
        rw [val_dk, bar_num, en]
        exact iteF (iteF (kg (.inr ⟨en, ea, by omega⟩)))
  refine ⟨_, rfl, _, rfl, cs, rfl, by omega, rfl, _, rfl, ?_⟩
  rw [cut_at5]
  have e5 : decide (V.str (txt (cs.take 5)) = V.str (Str.ofString "pour ")) = decide (cs.take 5 = pourW) := by
    rw [show Str.ofString "pour " = txt pourW by decide +kernel]
    exact decide_eq_decide.mpr ⟨fun z => txt_inj (V.str.inj z), fun z => by rw [z]⟩
  rw [e5]
  by_cases c : cs.take 5 = pourW
  · rw [decide_eq_true c]
    have pd : parseD cs = pourOf (cs.drop 5) := by
      unfold parseD pourOf
      refine (if_pos c).trans ?_
      cases InkY.cutAt 32 (cs.drop 5) <;> rfl
    refine iteT ⟨_, rfl, _, rfl, cs, rfl, by omega, ?_⟩
    rw [cut_five]
    exact ⟨cs.drop 5, rfl, by rw [List.length_drop]; omega, fun d e => k1 d (by rw [pd, e]), fun e => k2 (by rw [pd, e])⟩
  rw [decide_eq_false c]
  refine iteF ⟨_, rfl, rfl, cs, 32, rfl, by rw [show Str.ofString " " = ⟨#[32]⟩ by decide +kernel], by omega, fun sp hsp => ?_⟩
  have lw := InkY.spl_len 32 cs
  have sw : ∀ w ∈ InkY.spl 32 cs, w.length ≤ cs.length := fun w hw => InkY.spl_short hw
  cases ew : InkY.spl 32 cs with
  | nil => exact absurd ew (InkY.spl_ne 32 cs)
  | cons n ws =>
  have pd : parseD cs = wordsD n ws := by
    unfold parseD
    rw [if_neg c, ew]
  rw [ew] at lw sw
  rw [List.length_cons] at lw
  have sws : ∀ w ∈ ws, w.length ≤ 100000 := fun w hw => by have := sw w (List.mem_cons_of_mem _ hw); omega
  have s1 := same_new hsp (wordsL (n :: ws))
  have h1 : (upd H sp (wordsL (n :: ws))) sp = some (wordsL (n :: ws)) := upd_same
  generalize upd H sp (wordsL (n :: ws)) = H1 at s1 h1
  refine ⟨_, rfl, sp, _, _, _, rfl, rfl, SqL.of h1, atI_nat (j := 0) rfl, ?_⟩
  refine ⟨_, rfl, rfl, _, rfl, ?_⟩
  have et : decide (V.str (txt n) = V.str (Str.ofString "tie")) = decide (n = tieW) := by
    rw [show Str.ofString "tie" = txt tieW by decide +kernel]
    exact decide_eq_decide.mpr ⟨fun z => txt_inj (V.str.inj z), fun z => by rw [z]⟩
  rw [et]
  by_cases ct : n = tieW
  · rw [decide_eq_true ct]
    have pt : parseD cs = tieOf ws := pd.trans (if_pos ct)
    refine iteT ⟨_, rfl, _, rfl, sp, _, rfl, SqL.of h1, fun p hp => ?_⟩
    rw [cutW_drop _ (show (0 : Int) ≤ 1 by decide)]
    exact ⟨p, ws, rfl, upd_same, by omega, sws, fun d e q H' hd s' => k1 d (by rw [pt, e]) q H' hd (s1.trans ((same_new hp _).trans s')), fun e H' s' => k2 (by rw [pt, e]) H' (s1.trans ((same_new hp _).trans s'))⟩
  rw [decide_eq_false ct]
  refine iteF ?_
  intro aR hR
  rw [merge4]
  have s2 := same_new hR (.dK (dkOf AHD))
  have hR2 : (upd H1 aR (.dK (dkOf AHD))) aR = some (.dK (dkOf AHD)) := upd_same
  generalize upd H1 aR (.dK (dkOf AHD)) = H2 at s2 hR2
  intro aB hB
  have kB : Same H2 (upd H2 aB (.dK (mergeK [] (dkOf (BAR.take 8))))) := same_new hB _
  have hB3 : (upd H2 aB (.dK (mergeK [] (dkOf (BAR.take 8))))) aB = some (.dK (mergeK [] (dkOf (BAR.take 8)))) := upd_same
  have l8 : (mergeK [] (dkOf (BAR.take 8))).length < sizeLine := by decide +kernel
  have l9 : (putK (mergeK [] (dkOf (BAR.take 8))) (.inr (Str.ofString "move")) (.int 4)).length < sizeLine := by decide +kernel
  generalize upd H2 aB (.dK (mergeK [] (dkOf (BAR.take 8)))) = H3 at kB hB3
  refine ⟨_, rfl, aB, _, rfl, DPut.k (k := .inr (Str.ofString "move")) hB3 l8, ?_⟩
  have k4 := keep_upd aB H3 (.dK (putK (mergeK [] (dkOf (BAR.take 8))) (.inr (Str.ofString "move")) (.int 4)))
  have hB4 : (upd H3 aB (.dK (putK (mergeK [] (dkOf (BAR.take 8))) (.inr (Str.ofString "move")) (.int 4)))) aB = some (.dK (putK (mergeK [] (dkOf (BAR.take 8))) (.inr (Str.ofString "move")) (.int 4))) := upd_same
  generalize upd H3 aB (.dK (putK (mergeK [] (dkOf (BAR.take 8))) (.inr (Str.ofString "move")) (.int 4))) = H4 at k4 hB4
  refine ⟨_, rfl, aB, _, rfl, DPut.k (k := .inr (Str.ofString "quote")) hB4 l9, ?_⟩
  rw [merge8]
  have k5 := keep_upd aB H4 (.dK (dkOf BAR))
  have hB5 : (upd H4 aB (.dK (dkOf BAR))) aB = some (.dK (dkOf BAR)) := upd_same
  generalize upd H4 aB (.dK (dkOf BAR)) = H5 at k5 hB5
  have s25 : Same H2 H5 := keep_of hB kB (k4.trans k5)
  have hR5 := s25 _ _ hR2
  have h5 := s25 _ _ (s2 _ _ h1)
  have s15 : Same H H5 := s1.trans (s2.trans s25)
  refine ⟨_, rfl, aR, rfl, .inl ⟨_, .inl hR5⟩, _, rfl, _, rfl, aB, rfl, .inl ⟨_, .inl hB5⟩, _, rfl, _, rfl, _, DGet.k (k := .inr (txt n)) hB5, _, DGet.k (k := .inr (txt n)) hR5, ?_⟩
  have ev : ((valV (dkOf AHD) (.inr (txt n))).getD ((valV (dkOf BAR) (.inr (txt n))).getD (.int (-1)))) = .int (manyOf n) := by
    rw [val_dk, val_dk, bar_num]
    unfold manyOf
    cases tabAt AHD n with
    | some m => rfl
    | none =>
      cases tabAt NUM n with
      | some m => rfl
      | none => rfl
  rw [ev]
  refine ⟨_, sp, aR, aB, n, ws, rfl, h5, hB5, by omega, fun g => k2 (by rw [pd]; exact words_bad ct g) H5 s15, fun g => ?_⟩
  have m0 : 0 ≤ manyOf n := by
    rcases g with ⟨z, _⟩ | ⟨_, z, _⟩
    · exact num_nn z
    · exact ahd_nn z
  generalize manyOf n = m at g m0
  refine ⟨_, rfl, _, rfl, _, rfl, _, _, rfl, rfl, _, rfl, sp, _, rfl, SqL.of h5, fun p6 hp6 => ?_⟩
  rw [cutW_mid n ws m0]
  have lm : (ws.take m.toNat).length ≤ 90010 := by rw [List.length_take]; omega
  have swm : ∀ w ∈ ws.take m.toNat, w.length ≤ 100000 := fun w hw => sws w (List.mem_of_mem_take hw)
  have s6 := same_new hp6 (wordsL (ws.take m.toNat))
  have h6 : (upd H5 p6 (wordsL (ws.take m.toNat))) p6 = some (wordsL (ws.take m.toNat)) := upd_same
  generalize upd H5 p6 (wordsL (ws.take m.toNat)) = H6 at s6 h6
  have em : ws.take m.toNat = ws.take m.toNat := rfl
  generalize hus : ws.take m.toNat = us at lm swm h6
  refine ⟨p6, rfl, ⟨_, SqL.of h6⟩, fun acc hacc => compF_list (K := K) (a := p6) (xs := us.map fun w => V.str (txt w)) (fun i σ H7 => ∃ u : Option V, σ = [u] ∧ H7 acc = some (.lst (((us.take i).map rdN).map V.int)) ∧ Same H6 H7) ⟨none, rfl, upd_same, same_new hacc _⟩ (fun i σ H7 _ ⟨_, _, _, s7⟩ => SqL.of (s7 _ _ h6)) ?_ ?_⟩
  · rintro i y σ H7 hi ⟨u, rfl, h7, s7⟩
    rw [List.getElem?_map] at hi
    obtain ⟨w, ei, rfl⟩ := Option.map_eq_some_iff.mp hi
    have wm := List.mem_of_getElem? ei
    refine ⟨_, rfl, w, rfl, swm w wm, fun H8 s8 => ⟨_, s8 _ _ h7, million (by rw [List.length_map, List.length_map, List.length_take]; omega), _, rfl, ?_, keep_of hacc (s7.trans s8) (keep_upd acc _ _)⟩⟩
    rw [upd_same, take_snoc ei, List.map_append, List.map_append]
    rfl
  rintro σ H7 ⟨u, rfl, h7, s7⟩
  rw [List.length_map, List.take_length] at h7
  have s17 : Same H H7 := s15.trans (s6.trans s7)
  have hB7 := s7 _ _ (s6 _ _ hB5)
  have h57 := s7 _ _ (s6 _ _ h5)
  refine ⟨_, rfl, acc, rfl, ⟨_, SqL.of h7⟩, fun ac2 hac2 => compF_list (K := K) (a := acc) (xs := (us.map rdN).map V.int) (fun i σ H8 => ∃ u : Option V, σ = [u] ∧ H8 ac2 = some (.lst ((((us.map rdN).take i).filter (fun x => decide (x < 0))).map V.int)) ∧ Same H7 H8) ⟨none, rfl, upd_same, same_new hac2 _⟩ (fun i σ H8 _ ⟨_, _, _, s8⟩ => SqL.of (s8 _ _ h7)) ?_ ?_⟩
  · rintro i y σ H8 hi ⟨u, rfl, h8, s8⟩
    rw [List.getElem?_map] at hi
    obtain ⟨x, ei, rfl⟩ := Option.map_eq_some_iff.mp hi
    have lf : ((((us.map rdN).take i).filter (fun x => decide (x < 0))).map V.int).length ≤ 1000000 := by
      rw [List.length_map]
      refine Nat.le_trans (List.length_filter_le _ _) ?_
      rw [List.length_take, List.length_map]
      omega
    refine ⟨_, rfl, _, _, rfl, rfl, _, rfl, ?_⟩
    by_cases cx : x < 0
    · rw [decide_eq_true cx]
      refine iteT ⟨_, rfl, _, h8, million (by omega), _, rfl, ?_, keep_of hac2 s8 (keep_upd ac2 _ _)⟩
      rw [upd_same, take_snoc ei, List.filter_append, List.map_append, List.filter_cons_of_pos (by rw [decide_eq_true cx])]
      rfl
    · rw [decide_eq_false cx]
      refine iteF ⟨_, rfl, ?_, s8⟩
      rw [h8, take_snoc ei, List.filter_append, List.filter_cons_of_neg (by rw [decide_eq_false cx]; exact Bool.false_ne_true), List.filter_nil, List.append_nil]
  rintro σ H8 ⟨u, rfl, h8, s8⟩
  rw [List.length_map, List.take_length] at h8
  refine ⟨ac2, _, rfl, .inl (SqL.of h8), _, _, rfl, rfl, _, rfl, ?_⟩
  rw [List.length_map]
  have s18 := s17.trans s8
  by_cases gn : numsOk us
  · rw [neg_none gn]
    refine iteF ?_
    have hB8 := s8 _ _ hB7
    have h7' := s8 _ _ h7
    rw [rd_nums gn] at h7'
    have lnu : (numsIn us).length ≤ 90010 := by unfold numsIn; rw [List.length_map]; exact lm
    refine ⟨_, rfl, _, rfl, aB, _, rfl, DGet.k (k := .inr (txt n)) hB8, _, rfl, ?_⟩
    rw [val_dk, bar_num]
    rcases g with ⟨z1, z2⟩ | ⟨z1, z2, z3⟩
    · have eu : us = ws := by rw [← hus, List.take_of_length_le (by omega)]
      rw [z1]
      refine iteT ⟨_, rfl, (by show 1 ≤ sizeLine; decide), fun t1 ft1 => ⟨_, rfl, acc, _, rfl, .inl ⟨SqL.of (same_new ft1 _ _ _ h7'), fun t2 ft2 => ?_⟩⟩⟩
      refine catT_any (same_new ft2 _ _ _ upd_same) upd_same (List.cons_ne_nil _ _) (by rw [List.length_map]; simp only [List.length_cons, List.length_nil]; omega) fun p H' hp s' => ?_
      refine k1 (.plain n (numsIn ws)) ?_ p H' ?_ (s18.trans ((same_new ft1 _).trans ((same_new ft2 _).trans s')))
      · rw [pd, words_plain ct z1 z2]
        exact if_pos (nums_iff.mpr (by rw [← eu]; exact gn))
      · rw [eu] at hp
        exact hp
    · rw [z1]
      have h58 := s8 _ _ h57
      refine iteF ⟨_, rfl, _, rfl, _, _, rfl, rfl, _, rfl, sp, _, rfl, SqL.of h58, fun p9 hp9 => ?_⟩
      rw [cutW_drop _ (show (0 : Int) ≤ m + 1 by omega), show (m + 1).toNat = m.toNat + 1 by omega, List.drop_succ_cons]
      have s9 := same_new hp9 (wordsL (ws.drop m.toNat))
      have pr := words_rowed ct z1 z2 z3
      rw [hus] at pr
      refine ⟨p9, ws.drop m.toNat, rfl, upd_same, by rw [List.length_drop]; omega, fun w hw => sws w (List.mem_of_mem_drop hw), fun gi q H9 r9 s10 f9 => ?_, fun gi H9 s10 => ?_⟩
      · refine ⟨_, rfl, false, rfl, iteF ?_⟩
        have h79 := s10 _ _ (s9 _ _ h7')
        refine ⟨_, rfl, (by show 1 ≤ sizeLine; decide), fun t1 ft1 => ⟨_, rfl, acc, _, rfl, .inl ⟨SqL.of (same_new ft1 _ _ _ h79), fun t2 ft2 => ?_⟩⟩⟩
        refine catT_any (same_new ft2 _ _ _ upd_same) upd_same (List.cons_ne_nil _ _) (by rw [List.length_map]; simp only [List.length_cons, List.length_nil]; omega) fun p3 H' hp s' => ?_
        refine ⟨_, rfl, (by show 1 ≤ sizeLine; decide), fun t3 ft3 => ?_⟩
        refine catT_any (same_new ft3 _ _ _ hp) upd_same (by simp) (by simp only [List.length_append, List.length_map, List.length_cons, List.length_nil]; omega) fun p4 H'' hp4 s'' => ?_
        have sx := (same_new ft1 (.tup [.str (txt n)])).trans ((same_new ft2 (.tup ((numsIn us).map V.int))).trans (s'.trans ((same_new ft3 (.tup [.ref q])).trans s'')))
        refine k1 (.rowed n (numsIn us) (rowIn (ws.drop m.toNat))) ?_ p4 H'' ⟨q, hp4, r9.same sx⟩ (s18.trans (s9.trans (s10.trans sx)))
        rw [pd, pr]
        exact if_pos ⟨nums_iff.mpr gn, ink_iff.mpr gi⟩
      · refine ⟨_, rfl, true, rfl, iteT (k2 ?_ H9 (s18.trans (s9.trans s10)))⟩
        rw [pd, pr]
        exact if_neg fun z => gi (ink_iff.mp z.2)
  · have nb : parseD cs = none := by
      rw [pd]
      rcases g with ⟨z1, z2⟩ | ⟨z1, z2, z3⟩
      · have eu : us = ws := by rw [← hus, List.take_of_length_le (by omega)]
        rw [words_plain ct z1 z2]
        exact if_neg fun z => gn (by rw [eu]; exact nums_iff.mp z)
      · rw [words_rowed ct z1 z2 z3, hus]
        exact if_neg fun z => gn (nums_iff.mp z.1)
    rw [decide_eq_true (show (((((us.map rdN).filter (fun x => decide (x < 0))).length : Nat) : Int)) > 0 by have := neg_some gn; omega)]
    exact iteT (k2 nb H8 s18)

def spOdd : Sp := fun vs H Q _ => ∃ (l c : Addr), vs = [.ref l] ∧ SrcOk H l c ∧ ∀ (ds : List Nat) (H' : Hp), ds.length ≤ 10 → SrcOk H' l c → Q (.str (txt ds)) H'
abbrev s_law_odd : Stmt := top 35
theorem sc_law_odd : FnScope ["_law_src_here", "_law_odd_here"] ["_law_src_here"] (defScope s_law_odd) := ⟨rfl, rfl, rfl, by decide +kernel, rfl, by decide +kernel, by decide +kernel⟩
def lsAt : Stmt → List Expr
  | .Assign _ (.List es _) _ => es
  | _ => []
def lsSet (es : List Expr) : Stmt → Stmt
  | .Assign t (.List _ p) r => .Assign t (.List es p) r
  | s => s
abbrev odS : List Str := [Str.ofString "", Str.ofString " ", Str.ofString "pour", Str.ofString "pour 3", Str.ofString "pour  a", Str.ofString "tie", Str.ofString "tie / /", Str.ofString "tie 1-2", Str.ofString "put", Str.ofString "fresh ", Str.ofString "Fresh", Str.ofString "open"]
def odL : List (Str × Nat × Pos) := (lsAt ((defBody s_law_odd).getD 0 (.Pass ⟨0, 0, 0, 0⟩))).map litS
def odBody (es : List Expr) : List Stmt := match defBody s_law_odd with
  | a :: r => lsSet es a :: r
  | x => x
theorem od_a : odL.map (·.1) = odS := by decide +kernel
theorem od_p (X : Cx) : PA X (odL.map cE) (tStrs odS) := by
  have h := @pa_strs X odL
  rw [od_a] at h
  exact h
theorem od_split : ∃ es : List Expr, defBody s_law_odd = odBody es ∧ ∀ X : Cx, PA X es (tStrs odS) := ⟨odL.map cE, rfl, od_p⟩
theorem asg_lstS {ss : List Str} {gt : TG} {D : L2.Ends} {σ : L2.St} {H : Hp} (hz : ss.length ≤ sizeLine) (h : ∀ p, H p = none → gt (.ref p) σ (upd H p (.lst (ss.map V.str))) D.nx) : tAsg (tLst (tStrs ss)) gt D σ H := by
  show tStrs ss σ H _
  exact tStrs_is ss ⟨by rw [List.length_map]; exact hz, fun p hp => h p hp⟩
theorem ok_law_odd {f fN : Addr} {fd gN : FuncData} (F : Fun K "_law_odd" "_law_odd" s_law_odd f fd) (T : Nms mg) (d_law_next : DefAt K mg "_law_next" s_law_next ["_law_src_here", "_law_base"] fN gN) : FnOk P w K mg base CX0 2 f fd ["_law_src_here"] spOdd := by
  have g_law_next : FnOk P w K mg base CX0 1 _ _ ["_law_src_here", "_law_base"] spNext := ok_law_next d_law_next.F T
  refine F.ok sc_law_odd (fun vs H Q E h => ?_) (fun cdv A outer s H vs Q E hr h => ?_)
  · obtain ⟨l, c, rfl, _⟩ := h
    rfl
  obtain ⟨l, c, rfl, S, k⟩ := h
  obtain ⟨es, he, p1⟩ := od_split
  rw [he]
  refine ⟨_, (pss_cons (ps_set (i := 1) sc_law_odd.nd rfl (Or.inl rfl) (pe_lst (p1 _)))
      (pss_one (ps_ret (pe_ix ix_list (pv 1) (pe_def d_law_next g_law_next hr (pa_cons (pv 0) (pa_cons pe_int pa_nil))) (fun _ _ => rfl))))), ?_⟩
  refine asg_lstS (ss := odS) (by show 12 ≤ sizeLine; decide) fun t ht => ?_
  have s1 := same_new ht (.lst (odS.map V.str))
  have h1 : (upd H t (.lst (odS.map V.str))) t = some (.lst (odS.map V.str)) := upd_same
  generalize upd H t (.lst (odS.map V.str)) = H1 at s1 h1
  have nt := S.ne ht
  refine ⟨_, rfl, _, rfl, l, c, 12, rfl, S.same s1, by decide, by decide, fun i H2 i0 i1 S2 k2 => ?_⟩
  obtain ⟨b, eb, lb⟩ := pick_txt (n := 10) (xs := odS.map V.str) (by decide +kernel) i0 (by show i < 12; exact i1)
  exact ⟨t, _, _, _, rfl, rfl, SqL.of ((k2 t nt.1.symm).trans h1), eb, k b H2 lb S2⟩

theorem num_small {n : List Nat} {k : Int} (h : tabAt NUM n = some k) : k ≤ 5 := by
  have z : ∀ p ∈ NUM, p.2 ≤ 5 := by decide +kernel
  exact z _ (List.mem_of_find?_eq_some (tab_some h))
theorem ahd_small {n : List Nat} {k : Int} (h : tabAt AHD n = some k) : k ≤ 5 := by
  have z : ∀ p ∈ AHD, p.2 ≤ 5 := by decide +kernel
  exact z _ (List.mem_of_find?_eq_some (tab_some h))
theorem deed_small {d : Deed} (ok : d.Ok) : (∀ a b, d ≠ .tie a b) → d.nm ≠ tieW ∧ d.nm.length ≤ 10 ∧ d.parts.length ≤ 10 := by
  intro nt
  cases d with
  | pour x t => exact ⟨by show [112, 111, 117, 114] ≠ tieW; decide, by show 4 ≤ 10; decide, by show 2 ≤ 10; decide⟩
  | tie a b => exact absurd rfl (nt a b)
  | plain n ns =>
    obtain ⟨_, _, f3, f4⟩ := num_free ok.1
    have := num_small ok.1
    exact ⟨f3, f4, by show (ns.map Part.num).length ≤ 10; rw [List.length_map]; omega⟩
  | rowed n ns r =>
    obtain ⟨_, _, f3, f4⟩ := ahd_free ok.1
    have := ahd_small ok.1
    exact ⟨f3, f4, by show (ns.map Part.num ++ [Part.row r]).length ≤ 10; rw [List.length_append, List.length_map]; show ns.length + 1 ≤ 10; omega⟩
theorem line_lenS {d : Deed} (ok : d.Ok) : d.line.length ≤ 9000 := by
  by_cases ht : ∃ a b, d = .tie a b
  · obtain ⟨a, b, rfl⟩ := ht
    have la := strs_len ok.1
    have lb := strs_len ok.2
    show (tieW ++ strsR a ++ [32, 47] ++ strsR b).length ≤ _
    simp only [List.length_append, List.length_cons, List.length_nil]
    omega
  cases d with
  | tie a b => exact absurd ⟨a, b, rfl⟩ ht
  | pour x t =>
    have lx := InkY.dg_len ok.1.1 ok.1.2
    have lt : t.length ≤ 200 := ok.2
    show ([112, 111, 117, 114] ++ [Part.num x, Part.tx t].flatMap Part.line).length ≤ _
    rw [List.flatMap_cons, List.flatMap_cons, List.flatMap_nil, List.append_nil]
    show ([112, 111, 117, 114] ++ ((32 :: InkY.dg x) ++ (32 :: t))).length ≤ _
    simp only [List.length_append, List.length_cons, List.length_nil]
    omega
  | plain n ns =>
    have f4 := (num_free ok.1).2.2.2
    have n5 := num_small ok.1
    have key : ∀ l : List Int, (∀ x ∈ l, FitN x) → ((l.map Part.num).flatMap Part.line).length ≤ 61 * l.length := by
      intro l
      induction l with
      | nil => intro _; exact Nat.le_refl _
      | cons x l ih =>
        intro g
        have z := ih fun y hy => g y (List.mem_cons_of_mem _ hy)
        have z2 := InkY.dg_len (g x List.mem_cons_self).1 (g x List.mem_cons_self).2
        rw [List.map_cons, List.flatMap_cons, List.length_append, List.length_cons]
        show (32 :: InkY.dg x).length + _ ≤ _
        rw [List.length_cons]
        omega
    have := key ns ok.2
    show (n ++ (ns.map Part.num).flatMap Part.line).length ≤ _
    rw [List.length_append]
    omega
  | rowed n ns r =>
    have f4 := (ahd_free ok.1).2.2.2
    have n5 := ahd_small ok.1
    have lr := strs_len ok.2.2
    have key : ∀ l : List Int, (∀ x ∈ l, FitN x) → ((l.map Part.num).flatMap Part.line).length ≤ 61 * l.length := by
      intro l
      induction l with
      | nil => intro _; exact Nat.le_refl _
      | cons x l ih =>
        intro g
        have z := ih fun y hy => g y (List.mem_cons_of_mem _ hy)
        have z2 := InkY.dg_len (g x List.mem_cons_self).1 (g x List.mem_cons_self).2
        rw [List.map_cons, List.flatMap_cons, List.length_append, List.length_cons]
        show (32 :: InkY.dg x).length + _ ≤ _
        rw [List.length_cons]
        omega
    have := key ns ok.2.1
    show (n ++ (ns.map Part.num ++ [Part.row r]).flatMap Part.line).length ≤ _
    rw [List.flatMap_append, List.flatMap_cons, List.flatMap_nil, List.append_nil, List.length_append, List.length_append]
    show _ + (_ + (strsR r).length) ≤ _
    omega
theorem deed_name {H : Hp} {p : Addr} {d : Deed} (h : d.At H p) (ok : d.Ok) : ∃ (b : List Nat) (vs : List V), H p = some (.tup (.str (txt b) :: vs)) ∧ b.length ≤ 10 := by
  by_cases ht : ∃ a b, d = .tie a b
  · obtain ⟨a, b, rfl⟩ := ht
    obtain ⟨q1, q2, e, _⟩ := h
    exact ⟨tieW, _, by rw [e, show Str.ofString "tie" = txt tieW by decide +kernel], by show 3 ≤ 10; decide⟩
  have nt : ∀ a b, d ≠ .tie a b := fun a b e => ht ⟨a, b, e⟩
  obtain ⟨vs, e, _⟩ := parts_at h nt
  exact ⟨d.nm, vs, e, (deed_small ok nt).2.1⟩
def spLineBy : Sp := fun vs H Q _ => ∃ (l c : Addr), vs = [.ref l] ∧ SrcOk H l c ∧ ∀ (ds : List Nat) (H' : Hp), ds.length ≤ 90000 → SrcOk H' l c → Q (.str (txt ds)) H'
abbrev s_law_line_by : Stmt := top 36
theorem sc_law_line_by : FnScope ["_law_src_here", "_law_way", "_law_line"] ["_law_src_here"] (defScope s_law_line_by) := ⟨rfl, rfl, rfl, by decide +kernel, rfl, by decide +kernel, by decide +kernel⟩
set_option maxHeartbeats 4000000 in
theorem ok_law_line_by {f fN fM fI fP fS fT fD fL fZ fO fQ : Addr} {fd gN gM gI gP gS gT gD gL gZ gO gQ : FuncData} (F : Fun K "_law_line_by" "_law_line_by" s_law_line_by f fd) (T : Nms mg) (d_law_next : DefAt K mg "_law_next" s_law_next ["_law_src_here", "_law_base"] fN gN) (d_law_number : DefAt K mg "_law_number" s_law_number ["_law_src_here"] fM gM) (d_law_ink_by : DefAt K mg "_law_ink_by" s_law_ink_by ["_law_src_here"] fI gI) (d_law_plain_deed : DefAt K mg "_law_plain_deed" s_law_plain_deed ["_law_src_here", "_law_way"] fP gP) (d_law_sign : DefAt K mg "_law_sign" s_law_sign ["_law_src_here", "_law_few"] fS gS) (d_law_text : DefAt K mg "_law_text" s_law_text ["_law_src_here", "_law_many"] fT gT) (d_law_deed_by : DefAt K mg "_law_deed_by" s_law_deed_by ["_law_src_here"] fD gD) (d_law_line_of : DefAt K mg "_law_line_of" s_law_line_of ["_law_deed"] fL gL) (d_law_stretches : DefAt K mg "_law_stretches" s_law_stretches ["_law_row"] fZ gZ) (d_law_odd : DefAt K mg "_law_odd" s_law_odd ["_law_src_here"] fO gO) (d_law_spoilt : DefAt K mg "_law_spoilt" s_law_spoilt ["_law_src_here", "_law_line"] fQ gQ) : FnOk P w K mg base CX0 5 f fd ["_law_src_here"] spLineBy := by
  have g_law_next : FnOk P w K mg base CX0 1 _ _ ["_law_src_here", "_law_base"] spNext := ok_law_next d_law_next.F T
  have g_law_deed_by : FnOk P w K mg base CX0 4 _ _ ["_law_src_here"] spLDeed := ok_law_deed_by d_law_deed_by.F T d_law_next d_law_number d_law_ink_by d_law_plain_deed d_law_sign d_law_text
  have g_law_line_of : FnOk P w K mg base CX0 2 _ _ ["_law_deed"] spLineOf := ok_law_line_of d_law_line_of.F T d_law_stretches
  have g_law_odd : FnOk P w K mg base CX0 2 _ _ ["_law_src_here"] spOdd := ok_law_odd d_law_odd.F T d_law_next
  have g_law_spoilt : FnOk P w K mg base CX0 2 _ _ ["_law_src_here", "_law_line"] spLSpoilt := ok_law_spoilt d_law_spoilt.F T d_law_next
  refine F.ok sc_law_line_by (fun vs H Q E h => ?_) (fun cdv A outer s H vs Q E hr h => ?_)
  · obtain ⟨l, c, rfl, _⟩ := h
    rfl
  obtain ⟨l, c, rfl, S, k⟩ := h
  refine ⟨_, (pss_cons (ps_set (i := 1) sc_law_line_by.nd rfl (Or.inl rfl) (pe_def d_law_next g_law_next hr (pa_cons (pv 0) (pa_cons pe_int pa_nil))))
      (pss_cons (ps_set (i := 2) sc_law_line_by.nd rfl (Or.inl rfl) (pe_def d_law_line_of g_law_line_of hr (pa_cons (pe_def d_law_deed_by g_law_deed_by hr (pa_cons (pv 0) pa_nil)) pa_nil)))
      (pss_cons (ps_if (pt_cmpR op_eq (pv 1) pe_int (nomark _))
      (pss_one (ps_ret (pv 2)))
      pss_nil)
      (pss_cons (ps_if (pt_cmpR op_eq (pv 1) pe_int (nomark _))
      (pss_one (ps_ret (pe_def d_law_odd g_law_odd hr (pa_cons (pv 0) pa_nil))))
      pss_nil)
      (pss_cons (ps_if (pt_cmpR op_eq (pv 1) pe_int (nomark _))
      (pss_one (ps_ret (pe_op op_catS (pe_ix ix_tup (pe_def d_law_deed_by g_law_deed_by hr (pa_cons (pv 0) pa_nil)) pe_int (fun _ _ => rfl)) (pe_slice InkY.sl_txt (pv 2) (po_some (pe_bm PySem.F.plainAttrs_str PySem.F.slot_str_find PySem.F.type_str_find InkU.mt_findT (pv 2) (pa_cons pe_str pa_nil))) po_none))))
      pss_nil)
      (pss_cons (ps_if (pt_cmpR op_eq (pv 1) pe_int (nomark _))
      (pss_one (ps_ret (pe_op op_catS (pv 2) (pe_ix ix_list (pe_lst (pa_cons pe_str (pa_cons pe_str (pa_cons pe_str (pa_cons pe_str pa_nil))))) (pe_def d_law_next g_law_next hr (pa_cons (pv 0) (pa_cons pe_int pa_nil))) (fun _ _ => rfl)))))
      pss_nil)
      (pss_one (ps_ret (pe_def d_law_spoilt g_law_spoilt hr (pa_cons (pv 0) (pa_cons (pv 2) pa_nil))))))))))), ?_⟩
  have blank : Str.ofString " " = ⟨#[32]⟩ := by decide +kernel
  refine ⟨_, rfl, l, c, 6, rfl, S, by decide, by decide, fun v H1 v0 v1 S1 k1 => ?_⟩
  refine ⟨_, rfl, l, c, rfl, S1, fun d p H2 dok dat S2 K2 => ⟨p, d, rfl, dat, dok, deed_small dok, fun H3 s3 => ?_⟩⟩
  have S3 := S2.same s3
  have ll := line_lenS dok
  refine ⟨_, rfl, rfl, _, rfl, ite2 (fun _ => ?_) (fun _ => ?_)⟩
  · exact ⟨_, rfl, k d.line H3 (by omega) S3⟩
  refine ⟨_, rfl, rfl, _, rfl, ite2 (fun _ => ?_) (fun _ => ?_)⟩
  · exact ⟨_, rfl, l, c, rfl, S3, fun ds H4 ld S4 => k ds H4 (by omega) S4⟩
  refine ⟨_, rfl, rfl, _, rfl, ite2 (fun _ => ?_) (fun _ => ?_)⟩
  · refine ⟨_, rfl, l, c, rfl, S3, fun d2 p2 H4 dok2 dat2 S4 K4 => ?_⟩
    obtain ⟨b, vs, hp2, lb⟩ := deed_name dat2 dok2
    refine ⟨p2, _, _, _, rfl, rfl, SqT.of hp2, atI_nat (j := 0) rfl, ?_⟩
    refine ⟨_, rfl, _, rfl, rfl, d.line, 32, rfl, by rw [blank], fun z z0 _ _ => ?_⟩
    have lc := cutN_len d.line (some z) none
    exact ⟨_, rfl, d.line, rfl, by omega, b, _, rfl, rfl, by omega, k _ H4 (by rw [List.length_append]; omega) S4⟩
  refine ⟨_, rfl, rfl, _, rfl, ite2 (fun _ => ?_) (fun _ => ?_)⟩
  · refine ⟨_, rfl, (by show 4 ≤ sizeLine; decide), fun t ht => ?_⟩
    have s4 := same_new ht (.lst [.str (Str.ofString " 5"), .str (Str.ofString " 1-2"), .str (Str.ofString " /"), .str (Str.ofString " x")])
    have h4 : (upd H3 t (.lst [.str (Str.ofString " 5"), .str (Str.ofString " 1-2"), .str (Str.ofString " /"), .str (Str.ofString " x")])) t = some (.lst [.str (Str.ofString " 5"), .str (Str.ofString " 1-2"), .str (Str.ofString " /"), .str (Str.ofString " x")]) := upd_same
    generalize upd H3 t (.lst [.str (Str.ofString " 5"), .str (Str.ofString " 1-2"), .str (Str.ofString " /"), .str (Str.ofString " x")]) = H4 at s4 h4
    have nt := S3.ne ht
    refine ⟨_, rfl, l, c, 4, rfl, S3.same s4, by decide, by decide, fun i H5 i0 i1 S5 k5 => ?_⟩
    obtain ⟨b, eb, lb⟩ := pick_txt (n := 4) (show [V.str (Str.ofString " 5"), .str (Str.ofString " 1-2"), .str (Str.ofString " /"), .str (Str.ofString " x")].all (strLe 4) = true by decide +kernel) i0 (by show i < 4; exact i1)
    exact ⟨t, _, _, _, rfl, rfl, SqL.of ((k5 t nt.1.symm).trans h4), eb, d.line, b, rfl, rfl, by omega, k _ H5 (by rw [List.length_append]; omega) S5⟩
  · exact ⟨_, rfl, _, rfl, l, c, d.line, rfl, S3, by omega, fun ds H4 ld S4 => k ds H4 (by omega) S4⟩

def spDon : Sp := fun vs H Q _ => ∃ (cs : List Nat) (b : Bool), vs = [.str (txt cs), .bl b] ∧ cs.length ≤ 90000 ∧ OptD (parseD cs) H Q
abbrev s_law_deed_or_none : Stmt := top 37
theorem sc_law_deed_or_none : FnScope ["_law_line", "_law_any_one", "_law_told"] ["_law_line", "_law_any_one"] (defScope s_law_deed_or_none) := ⟨rfl, rfl, rfl, by decide +kernel, rfl, by decide +kernel, by decide +kernel⟩
theorem ok_law_deed_or_none {f fR XN XS : Addr} {fd gR : FuncData} (F : Fun K "_law_deed_or_none" "_law_deed_or_none" s_law_deed_or_none f fd) (ZNoDeed : ExcN K mg "NoDeed" XN) (Z2 : ExcAt2 K mg XN XS) (dread_deed : DefAt K mg "read_deed" sread_deed ["text"] fR gR) (gread_deed : FnOk P w K mg base (CX1 P w) 5 fR gR ["text"] (spReadDeed XN)) :
    FnOk P w K mg base CX0 6 f fd ["_law_line", "_law_any_one"] spDon := by
  refine F.ok sc_law_deed_or_none (fun vs H Q E h => ?_) (fun cdv A outer s H vs Q E hr h => ?_)
  · obtain ⟨cs, b, rfl, _⟩ := h
    rfl
  obtain ⟨cs, b, rfl, lc, k1, k2⟩ := h
  refine ⟨_, (pss_cons (ps_set (i := 2) sc_law_deed_or_none.nd rfl (Or.inl rfl) pe_non)
      (pss_cons (ps_if (pt_truth (pv 1) (fun _ => rfl))
      (pss_one (ps_tryS (i := 2) sc_law_deed_or_none.nd rfl (Or.inl rfl) dread_deed gread_deed hr (pa_cons (pv 0) pa_nil) Z2.m Z2.h
      (fun _ => (pss_one (ps_set (i := 2) sc_law_deed_or_none.nd rfl (Or.inl rfl) pe_non)))))
      (pss_one (ps_tryS (i := 2) sc_law_deed_or_none.nd rfl (Or.inl rfl) dread_deed gread_deed hr (pa_cons (pv 0) pa_nil) ZNoDeed.m ZNoDeed.h
      (fun _ => (pss_one (ps_set (i := 2) sc_law_deed_or_none.nd rfl (Or.inl rfl) pe_non))))))
      (pss_one (ps_ret (pv 2))))), ?_⟩
  cases b with
  | true =>
    refine ⟨_, rfl, true, rfl, iteT ?_⟩
    exact ⟨_, rfl, cs, rfl, lc, fun d e p H1 h1 s1 _ => ⟨_, rfl, k1 d e p H1 h1 s1⟩, fun e H1 s1 => ⟨rfl, _, rfl, k2 e H1 s1⟩⟩
  | false =>
    refine ⟨_, rfl, false, rfl, iteF ?_⟩
    exact ⟨_, rfl, cs, rfl, lc, fun d e p H1 h1 s1 _ => ⟨_, rfl, k1 d e p H1 h1 s1⟩, fun e H1 s1 => ⟨rfl, _, rfl, k2 e H1 s1⟩⟩

theorem Deed.At.same {H H' : Hp} {p : Addr} {d : Deed} (h : d.At H p) (s : Same H H') : d.At H' p := by
  cases d with
  | pour x t => exact s _ _ h
  | tie a b => obtain ⟨q1, q2, e, r1, r2, n⟩ := h; exact ⟨q1, q2, s _ _ e, r1.same s, r2.same s, n⟩
  | plain n ns => exact s _ _ h
  | rowed n ns r => obtain ⟨q, e, r1⟩ := h; exact ⟨q, s _ _ e, r1.same s⟩
theorem Part.At.eqv {H : Hp} {v u : V} {q : Part} (h : q.At H v) (g : q.At H u) : Eqv H 3 v u := by
  cases q with
  | num x => cases (show v = .int x from h); cases (show u = .int x from g); exact Eqv.int x
  | tx t => cases (show v = .str (txt t) from h); cases (show u = .str (txt t) from g); exact .inl ⟨rfl, rfl⟩
  | row r =>
    obtain ⟨a, rfl, r1⟩ := h
    obtain ⟨b, rfl, r2⟩ := g
    exact r1.eqv r2 0
theorem Deed.At.eqv {H : Hp} {p q : Addr} {d : Deed} (h : d.At H p) (g : d.At H q) : Eqv H 4 (.ref p) (.ref q) := by
  have fl : ∀ {m : Nat} {x y : V}, flat x = true → x = y → Eqv H (m + 1) x y := fun a b => .inl ⟨a, b⟩
  by_cases ht : ∃ a b, d = .tie a b
  · obtain ⟨a, b, rfl⟩ := ht
    obtain ⟨a1, a2, e, r1, r2, _⟩ := h
    obtain ⟨b1, b2, e', r1', r2', _⟩ := g
    refine .inr ⟨false, p, q, _, _, rfl, rfl, e, e', rfl, fun i u v eu ev => ?_⟩
    match i, eu, ev with
    | 0, eu, ev => cases eu; cases ev; exact fl rfl rfl
    | 1, eu, ev => cases eu; cases ev; exact r1.eqv r1' 0
    | 2, eu, ev => cases eu; cases ev; exact r2.eqv r2' 0
    | i + 3, eu, ev => cases eu
  have nt : ∀ a b, d ≠ .tie a b := fun a b e => ht ⟨a, b, e⟩
  obtain ⟨vs, e, al⟩ := parts_at h nt
  obtain ⟨us, e', al'⟩ := parts_at g nt
  refine .inr ⟨false, p, q, _, _, rfl, rfl, e, e', by rw [List.length_cons, List.length_cons, al.len, al'.len], fun i u v eu ev => ?_⟩
  cases i with
  | zero => cases eu; cases ev; exact fl rfl rfl
  | succ i =>
    obtain ⟨x, ex, hx⟩ := all2_get al (by simpa using eu)
    obtain ⟨y, ey, hy⟩ := all2_get al' (by simpa using ev)
    rw [ex] at ey
    cases ey
    exact hx.eqv hy
abbrev slaw : Stmt := top 38
theorem sclaw : FnScope ["_law_script", "_law_src_here", "_law_line"] ["_law_script"] (defScope slaw) := ⟨rfl, rfl, rfl, by decide +kernel, rfl, by decide +kernel, by decide +kernel⟩
set_option maxHeartbeats 4000000 in
theorem ok_law {f x0 x1 x2 x3 x4 x5 x6 x7 x8 x9 x10 x11 x12 x13 x14 x15 x16 x17 x18 x19 x20 x21 x22 x23 x24 x25 x26 x27 x28 : Addr} {fd y0 y1 y2 y3 y4 y5 y6 y7 y8 y9 y10 y11 y12 y13 y14 y15 y16 y17 y18 y19 y20 y21 y22 y23 y24 y25 y26 y27 y28 : FuncData} (F : Fun K "law" "law" slaw f fd) (T : Nms mg) (G : Gbs mg) {aNUMBERS aNUMBERS_AHEAD : Addr} (Tb : Tbs K mg aNUMBERS aNUMBERS_AHEAD) {XNoDeed : Addr} (ZNoDeed : ExcN K mg "NoDeed" XNoDeed) {XS : Addr} (Z2 : ExcAt2 K mg XNoDeed XS) (d_law_src : DefAt K mg "_law_src" s_law_src ["_law_script"] x0 y0)
    (d_law_next : DefAt K mg "_law_next" s_law_next ["_law_src_here", "_law_base"] x1 y1)
    (d_law_whole : DefAt K mg "_law_whole" s_law_whole ["_law_found"] x2 y2)
    (d_law_same : DefAt K mg "_law_same" s_law_same ["_law_found", "_law_due_here"] x3 y3)
    (dis_number : DefAt K mg "is_number" sis_number ["word"] x4 y4)
    (dis_stretch : DefAt K mg "is_stretch" sis_stretch ["word"] x5 y5)
    (dread_stretch : DefAt K mg "read_stretch" sread_stretch ["word"] x6 y6)
    (dread_numbers : DefAt K mg "read_numbers" sread_numbers ["words"] x7 y7)
    (dread_ink : DefAt K mg "read_ink" sread_ink ["words"] x8 y8)
    (dread_pouring : DefAt K mg "read_pouring" sread_pouring ["rest"] x9 y9)
    (dread_tie : DefAt K mg "read_tie" sread_tie ["words"] x10 y10)
    (dread_deed : DefAt K mg "read_deed" sread_deed ["text"] x11 y11)
    (d_law_sign : DefAt K mg "_law_sign" s_law_sign ["_law_src_here", "_law_few"] x12 y12)
    (d_law_text : DefAt K mg "_law_text" s_law_text ["_law_src_here", "_law_many"] x13 y13)
    (d_law_number : DefAt K mg "_law_number" s_law_number ["_law_src_here"] x14 y14)
    (d_law_ink_by : DefAt K mg "_law_ink_by" s_law_ink_by ["_law_src_here"] x15 y15)
    (d_law_plain_deed : DefAt K mg "_law_plain_deed" s_law_plain_deed ["_law_src_here", "_law_way"] x16 y16)
    (d_law_deed_by : DefAt K mg "_law_deed_by" s_law_deed_by ["_law_src_here"] x17 y17)
    (d_law_stretches : DefAt K mg "_law_stretches" s_law_stretches ["_law_row"] x18 y18)
    (d_law_line_of : DefAt K mg "_law_line_of" s_law_line_of ["_law_deed"] x19 y19)
    (d_law_reads : DefAt K mg "_law_reads" s_law_reads ["_law_word"] x20 y20)
    (d_law_spoilt : DefAt K mg "_law_spoilt" s_law_spoilt ["_law_src_here", "_law_line"] x21 y21)
    (d_law_words_row : DefAt K mg "_law_words_row" s_law_words_row ["_law_words"] x22 y22)
    (d_law_due_pour : DefAt K mg "_law_due_pour" s_law_due_pour ["_law_rest"] x23 y23)
    (d_law_due_tie : DefAt K mg "_law_due_tie" s_law_due_tie ["_law_words"] x24 y24)
    (d_law_due : DefAt K mg "_law_due" s_law_due ["_law_line"] x25 y25)
    (d_law_odd : DefAt K mg "_law_odd" s_law_odd ["_law_src_here"] x26 y26)
    (d_law_line_by : DefAt K mg "_law_line_by" s_law_line_by ["_law_src_here"] x27 y27)
    (d_law_deed_or_none : DefAt K mg "_law_deed_or_none" s_law_deed_or_none ["_law_line", "_law_any_one"] x28 y28) : FnOk P w K mg base CX0 9 f fd ["_law_script"] (spLaw K) := by
  have g_law_src : FnOk P w K mg base CX0 1 _ _ ["_law_script"] (spSrc K) := ok_law_src d_law_src.F T
  have g_law_next : FnOk P w K mg base CX0 1 _ _ ["_law_src_here", "_law_base"] spNext := ok_law_next d_law_next.F T
  have g_law_same : FnOk P w K mg base CX0 5 _ _ ["_law_found", "_law_due_here"] (spSame 4) := ok_law_same T d_law_whole d_law_same 4
  have g_law_line_by : FnOk P w K mg base CX0 5 _ _ ["_law_src_here"] spLineBy := ok_law_line_by d_law_line_by.F T d_law_next d_law_number d_law_ink_by d_law_plain_deed d_law_sign d_law_text d_law_deed_by d_law_line_of d_law_stretches d_law_odd d_law_spoilt
  have gread_deed : FnOk P w K mg base (CX1 P w) 5 _ _ ["text"] (spReadDeed XNoDeed) := ok_read_deed dread_deed.F T G Tb ZNoDeed dread_pouring dread_tie dread_numbers dread_ink dis_number dis_stretch dread_stretch
  have g_law_deed_or_none : FnOk P w K mg base CX0 6 _ _ ["_law_line", "_law_any_one"] spDon := ok_law_deed_or_none d_law_deed_or_none.F ZNoDeed Z2 dread_deed gread_deed
  have g_law_due : FnOk P w K mg base CX0 4 _ _ ["_law_line"] spDue33 := ok_law_due d_law_due.F T d_law_reads d_law_words_row d_law_due_pour d_law_due_tie
  refine F.ok sclaw (fun vs H Q E h => ?_) (fun cdv A outer s H vs Q E hr h => ?_)
  · obtain ⟨a, ns, rfl, _⟩ := h
    rfl
  obtain ⟨a, ns, rfl, hS, h63, k⟩ := h
  refine ⟨_, (pss_cons (ps_set (i := 1) sclaw.nd rfl (Or.inl rfl) (pe_def d_law_src g_law_src hr (pa_cons (pv 0) pa_nil)))
      (pss_cons (ps_set (i := 2) sclaw.nd rfl (Or.inl rfl) (pe_def d_law_line_by g_law_line_by hr (pa_cons (pv 1) pa_nil)))
      (pss_one (ps_ret (pe_def d_law_same g_law_same hr (pa_cons (pe_def d_law_deed_or_none g_law_deed_or_none hr (pa_cons (pv 2) (pa_cons (pe_cmpR op_eq (pe_def d_law_next g_law_next hr (pa_cons (pv 1) (pa_cons pe_int pa_nil))) pe_int (nomark _)) pa_nil))) (pa_cons (pe_def d_law_due g_law_due hr (pa_cons (pv 2) pa_nil)) pa_nil))))))), ?_⟩
  refine ⟨_, rfl, a, ns, rfl, hS, fun l c H1 S1 s1 _ _ => ?_⟩
  refine ⟨_, rfl, l, c, rfl, S1, fun ds H2 ld S2 => ?_⟩
  refine ⟨_, rfl, _, rfl, l, c, 2, rfl, S2, by decide, by decide, fun v H3 v0 v1 S3 k3 => ⟨rfl, ?_⟩⟩
  cases g : parseD ds with
  | some d =>
    refine ⟨ds, _, rfl, ld, fun d' e' p H4 dt4 s4 => ?_, fun e' => absurd (g.symm.trans e') (fun z => by cases z)⟩
    cases Option.some.inj (g.symm.trans e')
    refine ⟨_, rfl, ds, rfl, ld, fun d' e' q H5 dt5 s5 => ?_, fun e' => absurd (g.symm.trans e') (fun z => by cases z)⟩
    cases Option.some.inj (g.symm.trans e')
    exact ⟨_, _, rfl, (dt4.same s5).eqv dt5, fun H6 s6 => k H6⟩
  | none =>
    refine ⟨ds, _, rfl, ld, fun d' e' => absurd (g.symm.trans e') (fun z => by cases z), fun _ H4 s4 => ?_⟩
    refine ⟨_, rfl, ds, rfl, ld, fun d' e' => absurd (g.symm.trans e') (fun z => by cases z), fun _ H5 s5 => ?_⟩
    exact ⟨_, _, rfl, .inl ⟨rfl, rfl⟩, fun H6 s6 => k H6⟩
end

end Ink
namespace Ink
open PySem L2 InkX InkE InkF InkP
theorem all_mk {l : PySem.W.OpenLaw} {w : World} {K : PySem.W.Frag} {h : Heap} {mg : Str → Option Value} {fa : Addr} (X : K.In h) (G : h.Ns mainGlobals mg) (hfa : mg "law" = some (.ref fa))
    {f0 f1 f2 f3 f4 f5 f6 f7 f8 f9 f10 f11 f12 f13 f14 f15 f16 f17 f18 f19 f20 f21 f22 f23 f24 f25 f26 f27 f28 f29 : Addr} {od0 an0 od1 an1 od2 an2 od3 an3 od4 an4 od5 an5 od6 an6 od7 an7 od8 an8 od9 an9 od10 an10 od11 an11 od12 an12 od13 an13 od14 an14 od15 an15 od16 an16 od17 an17 od18 an18 od19 an19 od20 an20 od21 an21 od22 an22 od23 an23 od24 an24 od25 an25 od26 an26 od27 an27 od28 an28 od29 an29 : Option Addr} {sl0 sl1 sl2 sl3 sl4 sl5 sl6 sl7 sl8 sl9 sl10 sl11 sl12 sl13 sl14 sl15 sl16 sl17 sl18 sl19 sl20 sl21 sl22 sl23 sl24 sl25 sl26 sl27 sl28 sl29 : Array (Option Value)} {oc0 kV0 dc0 pm0 cd0 ct0 oc1 kV1 dc1 pm1 cd1 ct1 oc2 kV2 dc2 pm2 cd2 ct2 oc3 kV3 dc3 pm3 cd3 ct3 oc4 kV4 dc4 pm4 cd4 ct4 oc5 kV5 dc5 pm5 cd5 ct5 oc6 kV6 dc6 pm6 cd6 ct6 oc7 kV7 dc7 pm7 cd7 ct7 oc8 kV8 dc8 pm8 cd8 ct8 oc9 kV9 dc9 pm9 cd9 ct9 oc10 kV10 dc10 pm10 cd10 ct10 oc11 kV11 dc11 pm11 cd11 ct11 oc12 kV12 dc12 pm12 cd12 ct12 oc13 kV13 dc13 pm13 cd13 ct13 oc14 kV14 dc14 pm14 cd14 ct14 oc15 kV15 dc15 pm15 cd15 ct15 oc16 kV16 dc16 pm16 cd16 ct16 oc17 kV17 dc17 pm17 cd17 ct17 oc18 kV18 dc18 pm18 cd18 ct18 oc19 kV19 dc19 pm19 cd19 ct19 oc20 kV20 dc20 pm20 cd20 ct20 oc21 kV21 dc21 pm21 cd21 ct21 oc22 kV22 dc22 pm22 cd22 ct22 oc23 kV23 dc23 pm23 cd23 ct23 oc24 kV24 dc24 pm24 cd24 ct24 oc25 kV25 dc25 pm25 cd25 ct25 oc26 kV26 dc26 pm26 cd26 ct26 oc27 kV27 dc27 pm27 cd27 ct27 oc28 kV28 dc28 pm28 cd28 ct28 oc29 kV29 dc29 pm29 cd29 ct29 : Value} {XNoDeed : Addr} {XS : Addr} {tkFIGURES : Tok} {tkMOST_FIGURES : Tok} {aNUMBERS : Addr} {aNUMBERS_AHEAD : Addr}
    (a0 : PySem.W.nsIn K mainGlobals "_law_src" = some (some (.ref f0))) (l0 : K.lookup f0 = some ⟨oc0, od0, .func (PySem.W.fnOf "_law_src" "_law_src" (defArgs s_law_src) (defBody s_law_src) (defScope s_law_src) .none kV0 dc0 pm0 an0 cd0 ct0), sl0⟩) (c0 : PySem.W.codeIn K cd0 "_law_src" = true) (k0 : PySem.W.keepIn K (.ref f0) = true)
    (a1 : PySem.W.nsIn K mainGlobals "_law_next" = some (some (.ref f1))) (l1 : K.lookup f1 = some ⟨oc1, od1, .func (PySem.W.fnOf "_law_next" "_law_next" (defArgs s_law_next) (defBody s_law_next) (defScope s_law_next) .none kV1 dc1 pm1 an1 cd1 ct1), sl1⟩) (c1 : PySem.W.codeIn K cd1 "_law_next" = true) (k1 : PySem.W.keepIn K (.ref f1) = true)
    (a2 : PySem.W.nsIn K mainGlobals "_law_whole" = some (some (.ref f2))) (l2 : K.lookup f2 = some ⟨oc2, od2, .func (PySem.W.fnOf "_law_whole" "_law_whole" (defArgs s_law_whole) (defBody s_law_whole) (defScope s_law_whole) .none kV2 dc2 pm2 an2 cd2 ct2), sl2⟩) (c2 : PySem.W.codeIn K cd2 "_law_whole" = true) (k2 : PySem.W.keepIn K (.ref f2) = true)
    (a3 : PySem.W.nsIn K mainGlobals "_law_same" = some (some (.ref f3))) (l3 : K.lookup f3 = some ⟨oc3, od3, .func (PySem.W.fnOf "_law_same" "_law_same" (defArgs s_law_same) (defBody s_law_same) (defScope s_law_same) .none kV3 dc3 pm3 an3 cd3 ct3), sl3⟩) (c3 : PySem.W.codeIn K cd3 "_law_same" = true) (k3 : PySem.W.keepIn K (.ref f3) = true)
    (a4 : PySem.W.nsIn K mainGlobals "is_number" = some (some (.ref f4))) (l4 : K.lookup f4 = some ⟨oc4, od4, .func (PySem.W.fnOf "is_number" "is_number" (defArgs sis_number) (defBody sis_number) (defScope sis_number) .none kV4 dc4 pm4 an4 cd4 ct4), sl4⟩) (c4 : PySem.W.codeIn K cd4 "is_number" = true) (k4 : PySem.W.keepIn K (.ref f4) = true)
    (a5 : PySem.W.nsIn K mainGlobals "is_stretch" = some (some (.ref f5))) (l5 : K.lookup f5 = some ⟨oc5, od5, .func (PySem.W.fnOf "is_stretch" "is_stretch" (defArgs sis_stretch) (defBody sis_stretch) (defScope sis_stretch) .none kV5 dc5 pm5 an5 cd5 ct5), sl5⟩) (c5 : PySem.W.codeIn K cd5 "is_stretch" = true) (k5 : PySem.W.keepIn K (.ref f5) = true)
    (a6 : PySem.W.nsIn K mainGlobals "read_stretch" = some (some (.ref f6))) (l6 : K.lookup f6 = some ⟨oc6, od6, .func (PySem.W.fnOf "read_stretch" "read_stretch" (defArgs sread_stretch) (defBody sread_stretch) (defScope sread_stretch) .none kV6 dc6 pm6 an6 cd6 ct6), sl6⟩) (c6 : PySem.W.codeIn K cd6 "read_stretch" = true) (k6 : PySem.W.keepIn K (.ref f6) = true)
    (a7 : PySem.W.nsIn K mainGlobals "read_numbers" = some (some (.ref f7))) (l7 : K.lookup f7 = some ⟨oc7, od7, .func (PySem.W.fnOf "read_numbers" "read_numbers" (defArgs sread_numbers) (defBody sread_numbers) (defScope sread_numbers) .none kV7 dc7 pm7 an7 cd7 ct7), sl7⟩) (c7 : PySem.W.codeIn K cd7 "read_numbers" = true) (k7 : PySem.W.keepIn K (.ref f7) = true)
    (a8 : PySem.W.nsIn K mainGlobals "read_ink" = some (some (.ref f8))) (l8 : K.lookup f8 = some ⟨oc8, od8, .func (PySem.W.fnOf "read_ink" "read_ink" (defArgs sread_ink) (defBody sread_ink) (defScope sread_ink) .none kV8 dc8 pm8 an8 cd8 ct8), sl8⟩) (c8 : PySem.W.codeIn K cd8 "read_ink" = true) (k8 : PySem.W.keepIn K (.ref f8) = true)
    (a9 : PySem.W.nsIn K mainGlobals "read_pouring" = some (some (.ref f9))) (l9 : K.lookup f9 = some ⟨oc9, od9, .func (PySem.W.fnOf "read_pouring" "read_pouring" (defArgs sread_pouring) (defBody sread_pouring) (defScope sread_pouring) .none kV9 dc9 pm9 an9 cd9 ct9), sl9⟩) (c9 : PySem.W.codeIn K cd9 "read_pouring" = true) (k9 : PySem.W.keepIn K (.ref f9) = true)
    (a10 : PySem.W.nsIn K mainGlobals "read_tie" = some (some (.ref f10))) (l10 : K.lookup f10 = some ⟨oc10, od10, .func (PySem.W.fnOf "read_tie" "read_tie" (defArgs sread_tie) (defBody sread_tie) (defScope sread_tie) .none kV10 dc10 pm10 an10 cd10 ct10), sl10⟩) (c10 : PySem.W.codeIn K cd10 "read_tie" = true) (k10 : PySem.W.keepIn K (.ref f10) = true)
    (a11 : PySem.W.nsIn K mainGlobals "read_deed" = some (some (.ref f11))) (l11 : K.lookup f11 = some ⟨oc11, od11, .func (PySem.W.fnOf "read_deed" "read_deed" (defArgs sread_deed) (defBody sread_deed) (defScope sread_deed) .none kV11 dc11 pm11 an11 cd11 ct11), sl11⟩) (c11 : PySem.W.codeIn K cd11 "read_deed" = true) (k11 : PySem.W.keepIn K (.ref f11) = true)
    (a12 : PySem.W.nsIn K mainGlobals "_law_sign" = some (some (.ref f12))) (l12 : K.lookup f12 = some ⟨oc12, od12, .func (PySem.W.fnOf "_law_sign" "_law_sign" (defArgs s_law_sign) (defBody s_law_sign) (defScope s_law_sign) .none kV12 dc12 pm12 an12 cd12 ct12), sl12⟩) (c12 : PySem.W.codeIn K cd12 "_law_sign" = true) (k12 : PySem.W.keepIn K (.ref f12) = true)
    (a13 : PySem.W.nsIn K mainGlobals "_law_text" = some (some (.ref f13))) (l13 : K.lookup f13 = some ⟨oc13, od13, .func (PySem.W.fnOf "_law_text" "_law_text" (defArgs s_law_text) (defBody s_law_text) (defScope s_law_text) .none kV13 dc13 pm13 an13 cd13 ct13), sl13⟩) (c13 : PySem.W.codeIn K cd13 "_law_text" = true) (k13 : PySem.W.keepIn K (.ref f13) = true)
    (a14 : PySem.W.nsIn K mainGlobals "_law_number" = some (some (.ref f14))) (l14 : K.lookup f14 = some ⟨oc14, od14, .func (PySem.W.fnOf "_law_number" "_law_number" (defArgs s_law_number) (defBody s_law_number) (defScope s_law_number) .none kV14 dc14 pm14 an14 cd14 ct14), sl14⟩) (c14 : PySem.W.codeIn K cd14 "_law_number" = true) (k14 : PySem.W.keepIn K (.ref f14) = true)
    (a15 : PySem.W.nsIn K mainGlobals "_law_ink_by" = some (some (.ref f15))) (l15 : K.lookup f15 = some ⟨oc15, od15, .func (PySem.W.fnOf "_law_ink_by" "_law_ink_by" (defArgs s_law_ink_by) (defBody s_law_ink_by) (defScope s_law_ink_by) .none kV15 dc15 pm15 an15 cd15 ct15), sl15⟩) (c15 : PySem.W.codeIn K cd15 "_law_ink_by" = true) (k15 : PySem.W.keepIn K (.ref f15) = true)
    (a16 : PySem.W.nsIn K mainGlobals "_law_plain_deed" = some (some (.ref f16))) (l16 : K.lookup f16 = some ⟨oc16, od16, .func (PySem.W.fnOf "_law_plain_deed" "_law_plain_deed" (defArgs s_law_plain_deed) (defBody s_law_plain_deed) (defScope s_law_plain_deed) .none kV16 dc16 pm16 an16 cd16 ct16), sl16⟩) (c16 : PySem.W.codeIn K cd16 "_law_plain_deed" = true) (k16 : PySem.W.keepIn K (.ref f16) = true)
    (a17 : PySem.W.nsIn K mainGlobals "_law_deed_by" = some (some (.ref f17))) (l17 : K.lookup f17 = some ⟨oc17, od17, .func (PySem.W.fnOf "_law_deed_by" "_law_deed_by" (defArgs s_law_deed_by) (defBody s_law_deed_by) (defScope s_law_deed_by) .none kV17 dc17 pm17 an17 cd17 ct17), sl17⟩) (c17 : PySem.W.codeIn K cd17 "_law_deed_by" = true) (k17 : PySem.W.keepIn K (.ref f17) = true)
    (a18 : PySem.W.nsIn K mainGlobals "_law_stretches" = some (some (.ref f18))) (l18 : K.lookup f18 = some ⟨oc18, od18, .func (PySem.W.fnOf "_law_stretches" "_law_stretches" (defArgs s_law_stretches) (defBody s_law_stretches) (defScope s_law_stretches) .none kV18 dc18 pm18 an18 cd18 ct18), sl18⟩) (c18 : PySem.W.codeIn K cd18 "_law_stretches" = true) (k18 : PySem.W.keepIn K (.ref f18) = true)
    (a19 : PySem.W.nsIn K mainGlobals "_law_line_of" = some (some (.ref f19))) (l19 : K.lookup f19 = some ⟨oc19, od19, .func (PySem.W.fnOf "_law_line_of" "_law_line_of" (defArgs s_law_line_of) (defBody s_law_line_of) (defScope s_law_line_of) .none kV19 dc19 pm19 an19 cd19 ct19), sl19⟩) (c19 : PySem.W.codeIn K cd19 "_law_line_of" = true) (k19 : PySem.W.keepIn K (.ref f19) = true)
    (a20 : PySem.W.nsIn K mainGlobals "_law_reads" = some (some (.ref f20))) (l20 : K.lookup f20 = some ⟨oc20, od20, .func (PySem.W.fnOf "_law_reads" "_law_reads" (defArgs s_law_reads) (defBody s_law_reads) (defScope s_law_reads) .none kV20 dc20 pm20 an20 cd20 ct20), sl20⟩) (c20 : PySem.W.codeIn K cd20 "_law_reads" = true) (k20 : PySem.W.keepIn K (.ref f20) = true)
    (a21 : PySem.W.nsIn K mainGlobals "_law_spoilt" = some (some (.ref f21))) (l21 : K.lookup f21 = some ⟨oc21, od21, .func (PySem.W.fnOf "_law_spoilt" "_law_spoilt" (defArgs s_law_spoilt) (defBody s_law_spoilt) (defScope s_law_spoilt) .none kV21 dc21 pm21 an21 cd21 ct21), sl21⟩) (c21 : PySem.W.codeIn K cd21 "_law_spoilt" = true) (k21 : PySem.W.keepIn K (.ref f21) = true)
    (a22 : PySem.W.nsIn K mainGlobals "_law_words_row" = some (some (.ref f22))) (l22 : K.lookup f22 = some ⟨oc22, od22, .func (PySem.W.fnOf "_law_words_row" "_law_words_row" (defArgs s_law_words_row) (defBody s_law_words_row) (defScope s_law_words_row) .none kV22 dc22 pm22 an22 cd22 ct22), sl22⟩) (c22 : PySem.W.codeIn K cd22 "_law_words_row" = true) (k22 : PySem.W.keepIn K (.ref f22) = true)
    (a23 : PySem.W.nsIn K mainGlobals "_law_due_pour" = some (some (.ref f23))) (l23 : K.lookup f23 = some ⟨oc23, od23, .func (PySem.W.fnOf "_law_due_pour" "_law_due_pour" (defArgs s_law_due_pour) (defBody s_law_due_pour) (defScope s_law_due_pour) .none kV23 dc23 pm23 an23 cd23 ct23), sl23⟩) (c23 : PySem.W.codeIn K cd23 "_law_due_pour" = true) (k23 : PySem.W.keepIn K (.ref f23) = true)
    (a24 : PySem.W.nsIn K mainGlobals "_law_due_tie" = some (some (.ref f24))) (l24 : K.lookup f24 = some ⟨oc24, od24, .func (PySem.W.fnOf "_law_due_tie" "_law_due_tie" (defArgs s_law_due_tie) (defBody s_law_due_tie) (defScope s_law_due_tie) .none kV24 dc24 pm24 an24 cd24 ct24), sl24⟩) (c24 : PySem.W.codeIn K cd24 "_law_due_tie" = true) (k24 : PySem.W.keepIn K (.ref f24) = true)
    (a25 : PySem.W.nsIn K mainGlobals "_law_due" = some (some (.ref f25))) (l25 : K.lookup f25 = some ⟨oc25, od25, .func (PySem.W.fnOf "_law_due" "_law_due" (defArgs s_law_due) (defBody s_law_due) (defScope s_law_due) .none kV25 dc25 pm25 an25 cd25 ct25), sl25⟩) (c25 : PySem.W.codeIn K cd25 "_law_due" = true) (k25 : PySem.W.keepIn K (.ref f25) = true)
    (a26 : PySem.W.nsIn K mainGlobals "_law_odd" = some (some (.ref f26))) (l26 : K.lookup f26 = some ⟨oc26, od26, .func (PySem.W.fnOf "_law_odd" "_law_odd" (defArgs s_law_odd) (defBody s_law_odd) (defScope s_law_odd) .none kV26 dc26 pm26 an26 cd26 ct26), sl26⟩) (c26 : PySem.W.codeIn K cd26 "_law_odd" = true) (k26 : PySem.W.keepIn K (.ref f26) = true)
    (a27 : PySem.W.nsIn K mainGlobals "_law_line_by" = some (some (.ref f27))) (l27 : K.lookup f27 = some ⟨oc27, od27, .func (PySem.W.fnOf "_law_line_by" "_law_line_by" (defArgs s_law_line_by) (defBody s_law_line_by) (defScope s_law_line_by) .none kV27 dc27 pm27 an27 cd27 ct27), sl27⟩) (c27 : PySem.W.codeIn K cd27 "_law_line_by" = true) (k27 : PySem.W.keepIn K (.ref f27) = true)
    (a28 : PySem.W.nsIn K mainGlobals "_law_deed_or_none" = some (some (.ref f28))) (l28 : K.lookup f28 = some ⟨oc28, od28, .func (PySem.W.fnOf "_law_deed_or_none" "_law_deed_or_none" (defArgs s_law_deed_or_none) (defBody s_law_deed_or_none) (defScope s_law_deed_or_none) .none kV28 dc28 pm28 an28 cd28 ct28), sl28⟩) (c28 : PySem.W.codeIn K cd28 "_law_deed_or_none" = true) (k28 : PySem.W.keepIn K (.ref f28) = true)
    (a29 : PySem.W.nsIn K mainGlobals "law" = some (some (.ref f29))) (l29 : K.lookup f29 = some ⟨oc29, od29, .func (PySem.W.fnOf "law" "law" (defArgs slaw) (defBody slaw) (defScope slaw) .none kV29 dc29 pm29 an29 cd29 ct29), sl29⟩) (c29 : PySem.W.codeIn K cd29 "law" = true) (k29 : PySem.W.keepIn K (.ref f29) = true)
    (z0 : PySem.W.nsIn K mainGlobals "len" = some none)
    (z1 : PySem.W.nsIn K mainGlobals "list" = some none)
    (z2 : PySem.W.nsIn K mainGlobals "tuple" = some none)
    (z3 : PySem.W.nsIn K mainGlobals "int" = some none)
    (z4 : PySem.W.nsIn K mainGlobals "bool" = some none)
    (z5 : PySem.W.nsIn K mainGlobals "str" = some none)
    (z6 : PySem.W.nsIn K mainGlobals "range" = some none)
    (z7 : PySem.W.nsIn K mainGlobals "zip" = some none)
    (z8 : PySem.W.nsIn K mainGlobals "isinstance" = some none)
    (z9 : PySem.W.nsIn K mainGlobals "all" = some none)
    (xmNoDeed : PySem.W.nsIn K mainGlobals "NoDeed" = some (some (.ref XNoDeed))) (xxNoDeed : PySem.W.excIn K XNoDeed [.type "ValueError", .type "Exception", .type "BaseException", .type "object"] "ValueError.__new__" = true) (xhNoDeed : PySem.W.exmOne K (.ref XNoDeed) (.ref XNoDeed) = some true)
    (sm : PySem.W.nsIn K mainGlobals "InkError" = some (some (.ref XS))) (sh : PySem.W.exmOne K (.ref XNoDeed) (.ref XS) = some true)
    (gvFIGURES : PySem.W.nsIn K mainGlobals "FIGURES" = some (some (.str (txt InkY.figs) tkFIGURES)))
    (gvMOST_FIGURES : PySem.W.nsIn K mainGlobals "MOST_FIGURES" = some (some (.int 60 tkMOST_FIGURES)))
    (tmNUMBERS : PySem.W.nsIn K mainGlobals "NUMBERS" = some (some (.ref aNUMBERS))) (ttNUMBERS : InkU.TabK K aNUMBERS NUM)
    (tmNUMBERS_AHEAD : PySem.W.nsIn K mainGlobals "NUMBERS_AHEAD" = some (some (.ref aNUMBERS_AHEAD))) (ttNUMBERS_AHEAD : InkU.TabK K aNUMBERS_AHEAD AHD) :
    ∃ fd : FuncData, (∀ (s : Shared) (v : Value), BindsTo s fd ⟨[v], []⟩ [("_law_script", v)]) ∧ ∀ base : Heap, K.In base → base.Ns mainGlobals mg → FnOk l.prog w K mg base CX0 9 fa fd ["_law_script"] (spLaw K) := by
  have e := hfa.symm.trans (PySem.W.mg_of X G a29)
  cases e
  have T : Nms mg := ⟨PySem.W.mg_none_of X G z0, PySem.W.mg_none_of X G z1, PySem.W.mg_none_of X G z2, PySem.W.mg_none_of X G z3, PySem.W.mg_none_of X G z4, PySem.W.mg_none_of X G z5, PySem.W.mg_none_of X G z6, PySem.W.mg_none_of X G z7, PySem.W.mg_none_of X G z8, PySem.W.mg_none_of X G z9⟩
  have Gb : Gbs mg := ⟨⟨_, PySem.W.mg_of X G gvFIGURES⟩, ⟨_, PySem.W.mg_of X G gvMOST_FIGURES⟩⟩
  have Tb : Tbs K mg aNUMBERS aNUMBERS_AHEAD := ⟨PySem.W.mg_of X G tmNUMBERS, ttNUMBERS, PySem.W.mg_of X G tmNUMBERS_AHEAD, ttNUMBERS_AHEAD⟩
  have ZNoDeed : ExcN K mg "NoDeed" XNoDeed := ⟨PySem.W.mg_of X G xmNoDeed, xxNoDeed, xhNoDeed⟩
  have Z2 : ExcAt2 K mg XNoDeed XS := ⟨PySem.W.mg_of X G sm, sh⟩
  have F0 := fun_mk (st := s_law_src) l0 c0 k0
  have D0 : DefAt K mg "_law_src" s_law_src ["_law_script"] f0 _ := ⟨F0, F0.binds (ps := ["_law_script"]) (fun _ _ _ _ _ _ us hl => match us, hl with | [_], _ => rfl), PySem.W.mg_of X G a0⟩
  have F1 := fun_mk (st := s_law_next) l1 c1 k1
  have D1 : DefAt K mg "_law_next" s_law_next ["_law_src_here", "_law_base"] f1 _ := ⟨F1, F1.binds (ps := ["_law_src_here", "_law_base"]) (fun _ _ _ _ _ _ us hl => match us, hl with | [_, _], _ => rfl), PySem.W.mg_of X G a1⟩
  have F2 := fun_mk (st := s_law_whole) l2 c2 k2
  have D2 : DefAt K mg "_law_whole" s_law_whole ["_law_found"] f2 _ := ⟨F2, F2.binds (ps := ["_law_found"]) (fun _ _ _ _ _ _ us hl => match us, hl with | [_], _ => rfl), PySem.W.mg_of X G a2⟩
  have F3 := fun_mk (st := s_law_same) l3 c3 k3
  have D3 : DefAt K mg "_law_same" s_law_same ["_law_found", "_law_due_here"] f3 _ := ⟨F3, F3.binds (ps := ["_law_found", "_law_due_here"]) (fun _ _ _ _ _ _ us hl => match us, hl with | [_, _], _ => rfl), PySem.W.mg_of X G a3⟩
  have F4 := fun_mk (st := sis_number) l4 c4 k4
  have D4 : DefAt K mg "is_number" sis_number ["word"] f4 _ := ⟨F4, F4.binds (ps := ["word"]) (fun _ _ _ _ _ _ us hl => match us, hl with | [_], _ => rfl), PySem.W.mg_of X G a4⟩
  have F5 := fun_mk (st := sis_stretch) l5 c5 k5
  have D5 : DefAt K mg "is_stretch" sis_stretch ["word"] f5 _ := ⟨F5, F5.binds (ps := ["word"]) (fun _ _ _ _ _ _ us hl => match us, hl with | [_], _ => rfl), PySem.W.mg_of X G a5⟩
  have F6 := fun_mk (st := sread_stretch) l6 c6 k6
  have D6 : DefAt K mg "read_stretch" sread_stretch ["word"] f6 _ := ⟨F6, F6.binds (ps := ["word"]) (fun _ _ _ _ _ _ us hl => match us, hl with | [_], _ => rfl), PySem.W.mg_of X G a6⟩
  have F7 := fun_mk (st := sread_numbers) l7 c7 k7
  have D7 : DefAt K mg "read_numbers" sread_numbers ["words"] f7 _ := ⟨F7, F7.binds (ps := ["words"]) (fun _ _ _ _ _ _ us hl => match us, hl with | [_], _ => rfl), PySem.W.mg_of X G a7⟩
  have F8 := fun_mk (st := sread_ink) l8 c8 k8
  have D8 : DefAt K mg "read_ink" sread_ink ["words"] f8 _ := ⟨F8, F8.binds (ps := ["words"]) (fun _ _ _ _ _ _ us hl => match us, hl with | [_], _ => rfl), PySem.W.mg_of X G a8⟩
  have F9 := fun_mk (st := sread_pouring) l9 c9 k9
  have D9 : DefAt K mg "read_pouring" sread_pouring ["rest"] f9 _ := ⟨F9, F9.binds (ps := ["rest"]) (fun _ _ _ _ _ _ us hl => match us, hl with | [_], _ => rfl), PySem.W.mg_of X G a9⟩
  have F10 := fun_mk (st := sread_tie) l10 c10 k10
  have D10 : DefAt K mg "read_tie" sread_tie ["words"] f10 _ := ⟨F10, F10.binds (ps := ["words"]) (fun _ _ _ _ _ _ us hl => match us, hl with | [_], _ => rfl), PySem.W.mg_of X G a10⟩
  have F11 := fun_mk (st := sread_deed) l11 c11 k11
  have D11 : DefAt K mg "read_deed" sread_deed ["text"] f11 _ := ⟨F11, F11.binds (ps := ["text"]) (fun _ _ _ _ _ _ us hl => match us, hl with | [_], _ => rfl), PySem.W.mg_of X G a11⟩
  have F12 := fun_mk (st := s_law_sign) l12 c12 k12
  have D12 : DefAt K mg "_law_sign" s_law_sign ["_law_src_here", "_law_few"] f12 _ := ⟨F12, F12.binds (ps := ["_law_src_here", "_law_few"]) (fun _ _ _ _ _ _ us hl => match us, hl with | [_, _], _ => rfl), PySem.W.mg_of X G a12⟩
  have F13 := fun_mk (st := s_law_text) l13 c13 k13
  have D13 : DefAt K mg "_law_text" s_law_text ["_law_src_here", "_law_many"] f13 _ := ⟨F13, F13.binds (ps := ["_law_src_here", "_law_many"]) (fun _ _ _ _ _ _ us hl => match us, hl with | [_, _], _ => rfl), PySem.W.mg_of X G a13⟩
  have F14 := fun_mk (st := s_law_number) l14 c14 k14
  have D14 : DefAt K mg "_law_number" s_law_number ["_law_src_here"] f14 _ := ⟨F14, F14.binds (ps := ["_law_src_here"]) (fun _ _ _ _ _ _ us hl => match us, hl with | [_], _ => rfl), PySem.W.mg_of X G a14⟩
  have F15 := fun_mk (st := s_law_ink_by) l15 c15 k15
  have D15 : DefAt K mg "_law_ink_by" s_law_ink_by ["_law_src_here"] f15 _ := ⟨F15, F15.binds (ps := ["_law_src_here"]) (fun _ _ _ _ _ _ us hl => match us, hl with | [_], _ => rfl), PySem.W.mg_of X G a15⟩
  have F16 := fun_mk (st := s_law_plain_deed) l16 c16 k16
  have D16 : DefAt K mg "_law_plain_deed" s_law_plain_deed ["_law_src_here", "_law_way"] f16 _ := ⟨F16, F16.binds (ps := ["_law_src_here", "_law_way"]) (fun _ _ _ _ _ _ us hl => match us, hl with | [_, _], _ => rfl), PySem.W.mg_of X G a16⟩
  have F17 := fun_mk (st := s_law_deed_by) l17 c17 k17
  have D17 : DefAt K mg "_law_deed_by" s_law_deed_by ["_law_src_here"] f17 _ := ⟨F17, F17.binds (ps := ["_law_src_here"]) (fun _ _ _ _ _ _ us hl => match us, hl with | [_], _ => rfl), PySem.W.mg_of X G a17⟩
  have F18 := fun_mk (st := s_law_stretches) l18 c18 k18
  have D18 : DefAt K mg "_law_stretches" s_law_stretches ["_law_row"] f18 _ := ⟨F18, F18.binds (ps := ["_law_row"]) (fun _ _ _ _ _ _ us hl => match us, hl with | [_], _ => rfl), PySem.W.mg_of X G a18⟩
  have F19 := fun_mk (st := s_law_line_of) l19 c19 k19
  have D19 : DefAt K mg "_law_line_of" s_law_line_of ["_law_deed"] f19 _ := ⟨F19, F19.binds (ps := ["_law_deed"]) (fun _ _ _ _ _ _ us hl => match us, hl with | [_], _ => rfl), PySem.W.mg_of X G a19⟩
  have F20 := fun_mk (st := s_law_reads) l20 c20 k20
  have D20 : DefAt K mg "_law_reads" s_law_reads ["_law_word"] f20 _ := ⟨F20, F20.binds (ps := ["_law_word"]) (fun _ _ _ _ _ _ us hl => match us, hl with | [_], _ => rfl), PySem.W.mg_of X G a20⟩
  have F21 := fun_mk (st := s_law_spoilt) l21 c21 k21
  have D21 : DefAt K mg "_law_spoilt" s_law_spoilt ["_law_src_here", "_law_line"] f21 _ := ⟨F21, F21.binds (ps := ["_law_src_here", "_law_line"]) (fun _ _ _ _ _ _ us hl => match us, hl with | [_, _], _ => rfl), PySem.W.mg_of X G a21⟩
  have F22 := fun_mk (st := s_law_words_row) l22 c22 k22
  have D22 : DefAt K mg "_law_words_row" s_law_words_row ["_law_words"] f22 _ := ⟨F22, F22.binds (ps := ["_law_words"]) (fun _ _ _ _ _ _ us hl => match us, hl with | [_], _ => rfl), PySem.W.mg_of X G a22⟩
  have F23 := fun_mk (st := s_law_due_pour) l23 c23 k23
  have D23 : DefAt K mg "_law_due_pour" s_law_due_pour ["_law_rest"] f23 _ := ⟨F23, F23.binds (ps := ["_law_rest"]) (fun _ _ _ _ _ _ us hl => match us, hl with | [_], _ => rfl), PySem.W.mg_of X G a23⟩
  have F24 := fun_mk (st := s_law_due_tie) l24 c24 k24
  have D24 : DefAt K mg "_law_due_tie" s_law_due_tie ["_law_words"] f24 _ := ⟨F24, F24.binds (ps := ["_law_words"]) (fun _ _ _ _ _ _ us hl => match us, hl with | [_], _ => rfl), PySem.W.mg_of X G a24⟩
  have F25 := fun_mk (st := s_law_due) l25 c25 k25
  have D25 : DefAt K mg "_law_due" s_law_due ["_law_line"] f25 _ := ⟨F25, F25.binds (ps := ["_law_line"]) (fun _ _ _ _ _ _ us hl => match us, hl with | [_], _ => rfl), PySem.W.mg_of X G a25⟩
  have F26 := fun_mk (st := s_law_odd) l26 c26 k26
  have D26 : DefAt K mg "_law_odd" s_law_odd ["_law_src_here"] f26 _ := ⟨F26, F26.binds (ps := ["_law_src_here"]) (fun _ _ _ _ _ _ us hl => match us, hl with | [_], _ => rfl), PySem.W.mg_of X G a26⟩
  have F27 := fun_mk (st := s_law_line_by) l27 c27 k27
  have D27 : DefAt K mg "_law_line_by" s_law_line_by ["_law_src_here"] f27 _ := ⟨F27, F27.binds (ps := ["_law_src_here"]) (fun _ _ _ _ _ _ us hl => match us, hl with | [_], _ => rfl), PySem.W.mg_of X G a27⟩
  have F28 := fun_mk (st := s_law_deed_or_none) l28 c28 k28
  have D28 : DefAt K mg "_law_deed_or_none" s_law_deed_or_none ["_law_line", "_law_any_one"] f28 _ := ⟨F28, F28.binds (ps := ["_law_line", "_law_any_one"]) (fun _ _ _ _ _ _ us hl => match us, hl with | [_, _], _ => rfl), PySem.W.mg_of X G a28⟩
  have F29 := fun_mk (st := slaw) l29 c29 k29
  exact ⟨PySem.W.fnOf "law" "law" (defArgs slaw) (defBody slaw) (defScope slaw) .none kV29 dc29 pm29 an29 cd29 ct29, fun s v => .of_eq rfl, fun base _ _ => ok_law F29 T Gb Tb ZNoDeed Z2 D0 D1 D2 D3 D4 D5 D6 D7 D8 D9 D10 D11 D12 D13 D14 D15 D16 D17 D18 D19 D20 D21 D22 D23 D24 D25 D26 D27 D28⟩
theorem walk {l : PySem.W.OpenLaw} {q : Program} {loose : List Str} {XP : (Str → Option Value) → Heap → Prop} {YP : World → Heap → Prop} {d : DefRec} {K : Params → PySem.W.Frag} (hn : l.most = some 63) (hdf : d.params.defaults = [])
    (hY : ∀ (w : World) (h : Heap), YP w h → (K w.params).In h)
    (F : ∀ (w : World) (mg : Str → Option Value) (fa : Addr) (h : Heap), (K w.params).In h → h.Ns mainGlobals mg → mg d.name = some (.ref fa) →
      ∃ fd : FuncData, (∀ (s : Shared) (u : Value), BindsTo s fd ⟨[u], []⟩ [("_law_script", u)]) ∧ ∀ base : Heap, (K w.params).In base → base.Ns mainGlobals mg → FnOk l.prog w (K w.params) mg base CX0 9 fa fd ["_law_script"] (spLaw (K w.params))) :
    PySem.W.WalkO q loose XP YP l.row.toRowW d [] (fun f vs => PySem.call f vs) :=
  L2.walk_of (n := 63) (k := 9) (x := "_law_script") (CX := fun _ => CX0) (sp := fun w => spLaw (K w.params)) hn (by decide) hdf ⟨rfl, by decide, by decide⟩ hY F (fun _ _ a ns hl _ hS => ⟨a, ns, rfl, hS, hl, fun _ => rfl⟩) fun _ _ _ _ _ z => z
end Ink
open PySem PySem.W PyProof.Rows
set_option maxRecDepth 100000 in
set_option maxHeartbeats 0 in
theorem PySem.Challenge.cw_inkroot_k33_lines_read_holds : PySem.Challenge.rw_inkroot_k33_lines_read.Holds := by
  w_on; o_law; k_head; (case hw => w_witness2)
  k_fill
  refine Ink.walk (l := PySem.Challenge.rw_inkroot_k33_lines_read) rfl rfl (fun w h Y => PySem.W.kIn_of Y) ?F
  case F =>
    intro w mg fa h KX G hmg
    refine' Ink.all_mk KX G hmg ?a0 ?l0 ?c0 ?k0 ?a1 ?l1 ?c1 ?k1 ?a2 ?l2 ?c2 ?k2 ?a3 ?l3 ?c3 ?k3 ?a4 ?l4 ?c4 ?k4 ?a5 ?l5 ?c5 ?k5 ?a6 ?l6 ?c6 ?k6 ?a7 ?l7 ?c7 ?k7 ?a8 ?l8 ?c8 ?k8 ?a9 ?l9 ?c9 ?k9 ?a10 ?l10 ?c10 ?k10 ?a11 ?l11 ?c11 ?k11 ?a12 ?l12 ?c12 ?k12 ?a13 ?l13 ?c13 ?k13 ?a14 ?l14 ?c14 ?k14 ?a15 ?l15 ?c15 ?k15 ?a16 ?l16 ?c16 ?k16 ?a17 ?l17 ?c17 ?k17 ?a18 ?l18 ?c18 ?k18 ?a19 ?l19 ?c19 ?k19 ?a20 ?l20 ?c20 ?k20 ?a21 ?l21 ?c21 ?k21 ?a22 ?l22 ?c22 ?k22 ?a23 ?l23 ?c23 ?k23 ?a24 ?l24 ?c24 ?k24 ?a25 ?l25 ?c25 ?k25 ?a26 ?l26 ?c26 ?k26 ?a27 ?l27 ?c27 ?k27 ?a28 ?l28 ?c28 ?k28 ?a29 ?l29 ?c29 ?k29 ?z0 ?z1 ?z2 ?z3 ?z4 ?z5 ?z6 ?z7 ?z8 ?z9 ?xmNoDeed ?xxNoDeed ?xhNoDeed ?sm ?sh ?gvFIGURES ?gvMOST_FIGURES ?tmNUMBERS ?ttNUMBERS ?tmNUMBERS_AHEAD ?ttNUMBERS_AHEAD
    (case a0 => k_is)
    (case l0 => k_is)
    (case c0 => k_is)
    (case k0 => k_is)
    (case a1 => k_is)
    (case l1 => k_is)
    (case c1 => k_is)
    (case k1 => k_is)
    (case a2 => k_is)
    (case l2 => k_is)
    (case c2 => k_is)
    (case k2 => k_is)
    (case a3 => k_is)
    (case l3 => k_is)
    (case c3 => k_is)
    (case k3 => k_is)
    (case a4 => k_is)
    (case l4 => k_is)
    (case c4 => k_is)
    (case k4 => k_is)
    (case a5 => k_is)
    (case l5 => k_is)
    (case c5 => k_is)
    (case k5 => k_is)
    (case a6 => k_is)
    (case l6 => k_is)
    (case c6 => k_is)
    (case k6 => k_is)
    (case a7 => k_is)
    (case l7 => k_is)
    (case c7 => k_is)
    (case k7 => k_is)
    (case a8 => k_is)
    (case l8 => k_is)
    (case c8 => k_is)
    (case k8 => k_is)
    (case a9 => k_is)
    (case l9 => k_is)
    (case c9 => k_is)
    (case k9 => k_is)
    (case a10 => k_is)
    (case l10 => k_is)
    (case c10 => k_is)
    (case k10 => k_is)
    (case a11 => k_is)
    (case l11 => k_is)
    (case c11 => k_is)
    (case k11 => k_is)
    (case a12 => k_is)
    (case l12 => k_is)
    (case c12 => k_is)
    (case k12 => k_is)
    (case a13 => k_is)
    (case l13 => k_is)
    (case c13 => k_is)
    (case k13 => k_is)
    (case a14 => k_is)
    (case l14 => k_is)
    (case c14 => k_is)
    (case k14 => k_is)
    (case a15 => k_is)
    (case l15 => k_is)
    (case c15 => k_is)
    (case k15 => k_is)
    (case a16 => k_is)
    (case l16 => k_is)
    (case c16 => k_is)
    (case k16 => k_is)
    (case a17 => k_is)
    (case l17 => k_is)
    (case c17 => k_is)
    (case k17 => k_is)
    (case a18 => k_is)
    (case l18 => k_is)
    (case c18 => k_is)
    (case k18 => k_is)
    (case a19 => k_is)
    (case l19 => k_is)
    (case c19 => k_is)
    (case k19 => k_is)
    (case a20 => k_is)
    (case l20 => k_is)
    (case c20 => k_is)
    (case k20 => k_is)
    (case a21 => k_is)
    (case l21 => k_is)
    (case c21 => k_is)
    (case k21 => k_is)
    (case a22 => k_is)
    (case l22 => k_is)
    (case c22 => k_is)
    (case k22 => k_is)
    (case a23 => k_is)
    (case l23 => k_is)
    (case c23 => k_is)
    (case k23 => k_is)
    (case a24 => k_is)
    (case l24 => k_is)
    (case c24 => k_is)
    (case k24 => k_is)
    (case a25 => k_is)
    (case l25 => k_is)
    (case c25 => k_is)
    (case k25 => k_is)
    (case a26 => k_is)
    (case l26 => k_is)
    (case c26 => k_is)
    (case k26 => k_is)
    (case a27 => k_is)
    (case l27 => k_is)
    (case c27 => k_is)
    (case k27 => k_is)
    (case a28 => k_is)
    (case l28 => k_is)
    (case c28 => k_is)
    (case k28 => k_is)
    (case a29 => k_is)
    (case l29 => k_is)
    (case c29 => k_is)
    (case k29 => k_is)
    (case z0 => k_is)
    (case z1 => k_is)
    (case z2 => k_is)
    (case z3 => k_is)
    (case z4 => k_is)
    (case z5 => k_is)
    (case z6 => k_is)
    (case z7 => k_is)
    (case z8 => k_is)
    (case z9 => k_is)
    (case xmNoDeed => k_is)
    (case xxNoDeed => k_exc)
    (case xhNoDeed => kts_exm)
    (case sm => k_is)
    (case sh => kts_exm)
    (case gvFIGURES => k_is)
    (case gvMOST_FIGURES => k_is)
    (case tmNUMBERS => k_is)
    (case ttNUMBERS => (first | k_is | (unfold InkU.TabK; kernel_rfl) | (unfold InkU.TabK; decide +kernel)))
    (case tmNUMBERS_AHEAD => k_is)
    (case ttNUMBERS_AHEAD => (first | k_is | (unfold InkU.TabK; kernel_rfl) | (unfold InkU.TabK; decide +kernel)))
