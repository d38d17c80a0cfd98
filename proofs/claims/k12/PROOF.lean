import PyProof.Rows.All
import Wide.All
import OpenK.AllK
import Wide.FinOn
import Lean
import PyProof.EqAt
import PyProof.EqKinds
import PyProof.TupleCall
import PySem.Challenge.RW_foreknown_k12_weights
set_option Elab.async false
set_option linter.all false
set_option maxRecDepth 100000
/-! THE HAND LAYER, for ints, bools, texts, own classes, LISTS and tuples (index, slices, in, append, pop ..), calls, loops. Paste it whole ahead of your own text; what your proof does not reach may be deleted. -/
namespace L2
open PySem PySem.Spec PyProof.Rows

/-- a key: an int or a str -/
abbrev Key := Sum Int Str
def keyIs : Key → Value → Bool
  | .inl k, v => Value.isInt k v
  | .inr x, v => Value.isStrOf x v
def keyH (w : World) : Key → Int
  | .inl k => hashInt k
  | .inr x => hashStr w x
theorem keyIs_shape : ∀ {k : Key} {v : Value}, keyIs k v = true → (∃ i t, k = Sum.inl i ∧ v = Value.int i t) ∨ (∃ x t, k = Sum.inr x ∧ v = Value.str x t)
  | .inl i, v, h => by
    obtain ⟨t, e⟩ := Value.isInt_shape (k := i) (v := v) h
    exact .inl ⟨i, t, rfl, e⟩
  | .inr x, v, h => by
    obtain ⟨t, e⟩ := Value.isStrOf_shape (x := x) (v := v) h
    exact .inr ⟨x, t, rfl, e⟩
theorem keyIs_int (i : Int) (t : Tok) : keyIs (.inl i) (.int i t) = true := by simp [keyIs, Value.isInt]
theorem keyIs_str (x : Str) (t : Tok) : keyIs (.inr x) (.str x t) = true := by simp [keyIs, Value.isStrOf]
theorem key_ll (a b : Int) : decide ((Sum.inl a : Key) = Sum.inl b) = (a == b) := by
  by_cases e : a = b
  · subst e; simp
  · have h : ¬ (Sum.inl a : Key) = Sum.inl b := fun q => e (Sum.inl.inj q)
    rw [decide_eq_false h]
    exact (beq_eq_false_iff_ne.mpr e).symm
theorem key_rr (a b : Str) : decide ((Sum.inr a : Key) = Sum.inr b) = decide (a = b) := by
  by_cases e : a = b
  · subst e; simp
  · have h : ¬ (Sum.inr a : Key) = Sum.inr b := fun q => e (Sum.inr.inj q)
    rw [decide_eq_false h, decide_eq_false e]
theorem key_lr (a : Int) (b : Str) : decide ((Sum.inl a : Key) = Sum.inr b) = false := decide_eq_false (fun q => nomatch q)
theorem key_rl (a : Str) (b : Int) : decide ((Sum.inr a : Key) = Sum.inl b) = false := decide_eq_false (fun q => nomatch q)

def mixKind (prog : Program) (w : World) : PySem.KeyKind prog w Key where
  is := keyIs
  hash := keyH w
  inj := fun v a b ha hb => by
    rcases keyIs_shape ha with ⟨i, t, rfl, rfl⟩ | ⟨x, t, rfl, rfl⟩
    · rcases keyIs_shape hb with ⟨j, u, rfl, e⟩ | ⟨y, u, rfl, e⟩
      · injection e with e1 _; rw [e1]
      · exact nomatch e
    · rcases keyIs_shape hb with ⟨j, u, rfl, e⟩ | ⟨y, u, rfl, e⟩
      · exact nomatch e
      · injection e with e1 _; rw [e1]
  byValue := fun k v h => by
    rcases keyIs_shape h with ⟨i, t, rfl, rfl⟩ | ⟨x, t, rfl, rfl⟩ <;> rfl
  pyHash := fun hv h => by
    rcases keyIs_shape hv with ⟨i, t, rfl, rfl⟩ | ⟨x, t, rfl, rfl⟩
    · exact wpAny_pyHash_int h
    · exact wpAny_pyHash_str h
  eqBool := fun hu hv h => by
    rcases keyIs_shape hu with ⟨i, t, rfl, rfl⟩ | ⟨x, t, rfl, rfl⟩
    · rcases keyIs_shape hv with ⟨j, u, rfl, rfl⟩ | ⟨y, u, rfl, rfl⟩
      · rw [key_ll] at h; exact wpAny_eqBool_int h
      · rw [key_lr] at h; exact SeqAt.EqAt.int_str i t y u _ _ _ _ h
    · rcases keyIs_shape hv with ⟨j, u, rfl, rfl⟩ | ⟨y, u, rfl, rfl⟩
      · rw [key_rl] at h; exact SeqAt.EqAt.str_int x t j u _ _ _ _ h
      · rw [key_rr] at h; exact wpAny_eqBool_str h
  «strs» := fun k x t v h => by
    rcases keyIs_shape h with ⟨i, u, rfl, e⟩ | ⟨y, u, rfl, e⟩
    · exact nomatch e
    · injection e with e1 _
      subst e1
      cases v <;> rfl

theorem mixKind_int (prog : Program) (w : World) (i : Int) (t : Tok) : (mixKind prog w).is (.inl i) (.int i t) = true := keyIs_int i t
theorem mixKind_str (prog : Program) (w : World) (x : Str) (t : Tok) : (mixKind prog w).is (.inr x) (.str x t) = true := keyIs_str x t
end L2

namespace L2
open PySem PySem.Spec PyProof.Rows

/-- a value, without the heap -/
inductive V where
  | non | bl (b : Bool) | int (i : Int) | str (x : Str) | byt (b : Array UInt8) | flt (b : UInt64) | ref (a : Addr) | ty (n : String)
  deriving DecidableEq

def RelV : V → Value → Prop
  | .non, u => u = Value.none
  | .bl b, u => u = Value.bool b
  | .int i, u => ∃ t, u = Value.int i t
  | .str x, u => ∃ t, u = Value.str x t
  | .byt b, u => ∃ t, u = Value.bytes b t
  | .flt b, u => ∃ t, u = Value.float b t
  | .ref a, u => u = Value.ref a
  | .ty n, u => u = Value.type n

abbrev Vals : List V → List Value → Prop := Paired RelV
theorem Vals.length {xs : List V} {us : List Value} (r : Vals xs us) : xs.length = us.length := Paired.length r
theorem Vals.get : ∀ {xs : List V} {us : List Value} {i : Nat} {x : V}, Vals xs us → xs[i]? = some x → ∃ u, us[i]? = some u ∧ RelV x u
  | _, _, _, _, .nil, e => by simp at e
  | _, _, 0, _, .cons r _, e => by simp at e; subst e; exact ⟨_, rfl, r⟩
  | _, _, i + 1, x, .cons _ t, e => by
    obtain ⟨u, h1, h2⟩ := Vals.get (i := i) (x := x) t (by simpa using e)
    exact ⟨u, by simpa using h1, h2⟩
theorem Vals.set {x : V} {u : Value} (r : RelV x u) : ∀ {xs : List V} {us : List Value} (i : Nat), Vals xs us → Vals (xs.set i x) (us.set i u)
  | _, _, _, .nil => .nil
  | _, _, 0, .cons _ t => .cons r t
  | _, _, i + 1, .cons q t => .cons q (Vals.set r i t)
theorem Vals.append : ∀ {xs ys : List V} {us ws : List Value}, Vals xs us → Vals ys ws → Vals (xs ++ ys) (us ++ ws)
  | _, _, _, _, .nil, s => s
  | _, _, _, _, .cons r t, s => .cons r (Vals.append t s)
theorem Vals.take : ∀ {xs : List V} {us : List Value} (n : Nat), Vals xs us → Vals (xs.take n) (us.take n)
  | _, _, 0, _ => .nil
  | _, _, _ + 1, .nil => .nil
  | _, _, n + 1, .cons r t => .cons r (Vals.take n t)
theorem Vals.drop : ∀ {xs : List V} {us : List Value} (n : Nat), Vals xs us → Vals (xs.drop n) (us.drop n)
  | _, _, 0, r => r
  | _, _, _ + 1, .nil => .nil
  | _, _, n + 1, .cons _ t => Vals.drop n t
theorem Vals.none_of : ∀ {xs : List V} {us : List Value} {i : Nat}, Vals xs us → xs[i]? = none → us[i]? = none := fun {xs us i} r e => by
  have h1 := r.length
  have h2 : xs.length ≤ i := List.getElem?_eq_none_iff.mp e
  exact List.getElem?_eq_none_iff.mpr (by omega)

def RelO : Option V → Option Value → Prop
  | some v, some u => RelV v u
  | none, none => True
  | _, _ => False
def KV {κ : Type} : List (κ × V) → List (κ × Value) → Prop := Paired fun (p : κ × V) (q : κ × Value) => p.1 = q.1 ∧ RelV p.2 q.2

/-- a key of a dict (00_mix): an int or a text -/
def kV : Key → V
  | .inl i => .int i
  | .inr x => .str x

/-- what stands at a tracked address -/
inductive HO where
  /-- a list -/
  | lst (xs : List V)
  /-- a tuple (never changes) -/
  | tup (xs : List V)
  /-- a dict whose keys are ints and texts; one whose keys are tuples of ints and texts (the empty one is both) -/
  | dK (kvs : List (Key × V)) | dT (kvs : List (List Key × V))
  /-- a set of ints: its members, its size -/
  | set (S : Int → Bool) (n : Nat)
  /-- an instance of the class at C, its dict at dx, its attributes -/
  | ins (C dx : Addr) (fs : List (Str × V))
  /-- the dict of the instance at x -/
  | own (x : Addr)
  /-- the dict of an exception -/
  | xd (fs : List (Str × V))
  /-- a bound method, f of x -/
  | met (f x : Addr)
  /-- a range object lo, lo + 1, .. below hi -/
  | rng (lo hi : Int)
  /-- a thing that is known to the object (the script; a dict while a loop walks it): read, never written while it is so -/
  | frz (o : Obj) (u : HO)
  /-- a code object's table -/
  | tbl (ps : Array Value)
  /-- any other thing, by what is true of its one object (a def of one's own: SetO a S n := HO.ext fun h => ..) -/
  | ext (φ : Heap → Prop)

abbrev Hp := Addr → Option HO
def upd (H : Hp) (a : Addr) (o : HO) : Hp := fun b => if b = a then some o else H b
theorem upd_same {H : Hp} {a : Addr} {o : HO} : upd H a o a = some o := by unfold upd; rw [if_pos rfl]
theorem upd_ne {H : Hp} {a b : Addr} {o : HO} (h : b ≠ a) : upd H a o b = H b := by unfold upd; rw [if_neg h]
/-- two objects of different content stand apart -/
theorem ne_of {H : Hp} {a b : Addr} {o u : HO} (h : H a = some o) (h' : H b = some u) (d : o ≠ u) : a ≠ b := by
  intro e; subst e; rw [h] at h'; exact d (Option.some.inj h')
theorem ne_of_none {H : Hp} {a b : Addr} {o : HO} (h : H a = some o) (h' : H b = none) : a ≠ b := by
  intro e; subst e; rw [h] at h'; cases h'

section
variable (P : Program) (w : World)
def ObjOk (H : Hp) (h : Heap) (a : Addr) : HO → Prop
  | .lst xs => xs.length ≤ sizeLine ∧ ∃ (its : List Value) (n : Nat), Vals xs its ∧ h.get? a = some { cls := .type "list", data := .seq its.toArray n }
  | .tup xs => xs.length ≤ sizeLine ∧ ∃ its : List Value, Vals xs its ∧ IsTup h a its.toArray
  | .dK kvs => kvs.length ≤ sizeLine ∧ (a == sysModules) = false ∧ ∃ vs, KV kvs vs ∧ h.DictOf (mixKind P w) a vs
  | .dT kvs => kvs.length ≤ sizeLine ∧ (a == sysModules) = false ∧ ∃ xs : List (List Key × Addr × Value),
      Paired (fun (p : List Key × V) (q : List Key × Addr × Value) => p.1 = q.1 ∧ H q.2.1 = some (.tup (p.1.map kV)) ∧ RelV p.2 q.2.2) kvs xs ∧
      ∃ o es ep, h.get? a = some o ∧ o.ExactDict ∧ o.data = .dict es ep ∧ es.toList = xs.map (entryOfKey (tupleKind (mixKind P w))) ∧ (xs.map (·.1)).Nodup
  | .set S n => h.SetOf (intKind P w) a S n
  | .ins C dx fs => H dx = some (.own a) ∧ fs.length ≤ 1000 ∧ dx ≠ a ∧ h.get? a = some (PySem.W.instObj C dx) ∧
      ∃ mA, h.Ns1 dx mA ∧ (∀ f, RelO (fs.lookup f) (mA f)) ∧ PySem.Within mA (fs.map (·.1))
  | .own _ => ∃ o, h.get? a = some o
  | .xd fs => ∃ mA, h.Ns1 a mA ∧ ∀ f, RelO (fs.lookup f) (mA f)
  | .rng lo hi => ∃ t u v, h.get? a = some { cls := .type "range", data := .fields #[.int lo t, .int hi u, .int 1 v] }
  | .frz o u => h.get? a = some o ∧ ObjOk H h a u
  | .tbl ps => h.get? a = some { cls := .none, data := .fields ps }
  | .met f x => h.get? a = some (PySem.W.methodObj (.ref f) (.ref x))
  | .ext φ => φ h ∧ (∃ o, h.get? a = some o) ∧ ∀ h1 h2 : Heap, φ h1 → (∀ o, h1.get? a = some o → h2.get? a = some o) → φ h2
/-- the abstract heap is held -/
def HOk (H : Hp) (h : Heap) : Prop := ∀ a o, H a = some o → ObjOk P w H h a o
end

section
variable {P : Program} {w : World} {H H' : Hp} {h h' : Heap} {a : Addr} {o : HO}
theorem ObjOk.lt (x : ObjOk P w H h a o) : a < h.objs.size := by
  cases o with
  | lst xs => obtain ⟨_, _, _, _, e⟩ := x; exact Heap.lt_size e
  | tup xs => obtain ⟨_, _, _, p⟩ := x; exact p.lt
  | dK kvs => obtain ⟨_, _, _, _, o, _, _, e, _⟩ := x; exact Heap.lt_size e
  | dT kvs => obtain ⟨_, _, _, _, o, _, _, e, _⟩ := x; exact Heap.lt_size e
  | set S n => obtain ⟨o, _, _, _, e, _⟩ := x; exact Heap.lt_size e
  | ins C dx fs => obtain ⟨_, _, _, e, _⟩ := x; exact Heap.lt_size e
  | own y => obtain ⟨_, e⟩ := x; exact Heap.lt_size e
  | xd fs => obtain ⟨_, ⟨_, _, _, e, _⟩, _⟩ := x; exact Heap.lt_size e
  | rng lo hi => obtain ⟨_, _, _, e⟩ := x; exact Heap.lt_size e
  | frz ob u => obtain ⟨e, _⟩ := x; exact Heap.lt_size e
  | tbl ps => exact Heap.lt_size (show h.get? a = some _ from x)
  | met f y => exact Heap.lt_size (show h.get? a = some _ from x)
  | ext φ => obtain ⟨_, ⟨_, e⟩, _⟩ := x; exact Heap.lt_size e
theorem Paired.mapP {α β : Type} {F G : α → β → Prop} : ∀ {l₁ : List α} {l₂ : List β}, Paired F l₁ l₂ → (∀ a b, F a b → G a b) → Paired G l₁ l₂
  | _, _, .nil, _ => .nil
  | _, _, .cons r t, f => .cons (f _ _ r) (Paired.mapP t f)
/-- what an object's description leans on: its own object, its own dict, the tuples -/
theorem ObjOk.stay (x : ObjOk P w H h a o) (k : ∀ b u, (b = a ∨ H b = some (.own a)) → h.get? b = some u → h'.get? b = some u)
    (ho : ∀ b, H b = some (.own a) → H' b = some (.own a)) (ht : ∀ b xs, H b = some (.tup xs) → H' b = some (.tup xs)) : ObjOk P w H' h' a o := by
  induction o with
  | lst xs => obtain ⟨z, its, n, r, e⟩ := x; exact ⟨z, its, n, r, k _ _ (.inl rfl) e⟩
  | tup xs => obtain ⟨z, its, r, ob, e, c⟩ := x; exact ⟨z, its, r, ob, k _ _ (.inl rfl) e, c⟩
  | dK kvs => obtain ⟨z, y, vs, r, ob, es, ep, e, c⟩ := x; exact ⟨z, y, vs, r, ob, es, ep, k _ _ (.inl rfl) e, c⟩
  | dT kvs =>
    obtain ⟨z, y, xs, r, ob, es, ep, e, c⟩ := x
    exact ⟨z, y, xs, Paired.mapP r fun p q z => ⟨z.1, ht _ _ z.2.1, z.2.2⟩, ob, es, ep, k _ _ (.inl rfl) e, c⟩
  | set S n => obtain ⟨ob, es, ep, t, e, c⟩ := x; exact ⟨ob, es, ep, t, k _ _ (.inl rfl) e, c⟩
  | ins C dx fs =>
    obtain ⟨d, z, ne, e, mA, ⟨od, es, ep, e2, c⟩, r⟩ := x
    exact ⟨ho _ d, z, ne, k _ _ (.inl rfl) e, mA, ⟨od, es, ep, k _ _ (.inr d) e2, c⟩, r⟩
  | own y => obtain ⟨ob, e⟩ := x; exact ⟨ob, k _ _ (.inl rfl) e⟩
  | xd fs => obtain ⟨mA, ⟨od, es, ep, e, c⟩, r⟩ := x; exact ⟨mA, ⟨od, es, ep, k _ _ (.inl rfl) e, c⟩, r⟩
  | rng lo hi => obtain ⟨t, u, v, e⟩ := x; exact ⟨t, u, v, k _ _ (.inl rfl) e⟩
  | frz ob u ih => obtain ⟨e, q⟩ := x; exact ⟨k _ _ (.inl rfl) e, ih q⟩
  | tbl ps =>
    have e : h.get? a = some { cls := .none, data := .fields ps } := x
    show h'.get? a = some { cls := .none, data := .fields ps }
    exact k a _ (.inl rfl) e
  | met f y =>
    have e : h.get? a = some (PySem.W.methodObj (.ref f) (.ref y)) := x
    show h'.get? a = some (PySem.W.methodObj (.ref f) (.ref y))
    exact k a _ (.inl rfl) e
  | ext φ => obtain ⟨p, ⟨o, e⟩, st⟩ := x; exact ⟨st _ _ p fun o q => k _ _ (.inl rfl) q, ⟨o, k _ _ (.inl rfl) e⟩, st⟩
theorem HOk.lt (x : HOk P w H h) (e : H a = some o) : a < h.objs.size := (x a o e).lt
theorem HOk.fresh (x : HOk P w H h) (e : h.objs.size ≤ a) : H a = none := by
  cases q : H a with
  | none => rfl
  | some u => exact absurd (Nat.lt_of_lt_of_le (x.lt q) e) (Nat.lt_irrefl _)
/-- every object of the heap is kept -/
theorem HOk.kept (x : HOk P w H h) (k : ∀ b u, h.get? b = some u → h'.get? b = some u) : HOk P w H h' := fun a o e =>
  (x a o e).stay (fun b u _ q => k b u q) (fun _ q => q) fun _ _ q => q
/-- a new object is laid and tracked -/
theorem HOk.laid (x : HOk P w H h) (k : ∀ b u, h.get? b = some u → h'.get? b = some u) (hp : h.objs.size ≤ a) (new : ObjOk P w (upd H a o) h' a o) : HOk P w (upd H a o) h' := fun b u e => by
  have hn := x.fresh hp
  by_cases hb : b = a
  · subst hb; rw [upd_same] at e; cases e; exact new
  · rw [upd_ne hb] at e
    exact (x b u e).stay (fun c v _ q => k c v q) (fun c q => by rw [upd_ne (ne_of_none q hn)]; exact q) fun c xs q => by rw [upd_ne (ne_of_none q hn)]; exact q
end

/-- what may be read as u: it is u, or a known u -/
def Rd (H : Hp) (a : Addr) (u : HO) : Prop := H a = some u ∨ ∃ o, H a = some (.frz o u)
theorem Rd.of {H : Hp} {a : Addr} {u : HO} (h : H a = some u) : Rd H a u := .inl h
theorem Rd.ok {P : Program} {w : World} {H : Hp} {h : Heap} {a : Addr} {u : HO} (r : Rd H a u) (x : HOk P w H h) : ObjOk P w H h a u := by
  rcases r with r | ⟨o, r⟩
  · exact x a u r
  · obtain ⟨_, q⟩ := x a _ r
    exact q
/-- what may be written -/
def Mut : Option HO → Prop
  | some (.lst _) => True
  | some (.dK _) => True
  | some (.dT _) => True
  | some (.set _ _) => True
  | some (.ins _ _ _) => True
  | some (.ext _) => True
  | _ => False
section
variable {P : Program} {w : World} {H : Hp} {h h' : Heap} {x e : Addr} {o' : HO}
/-- the object at e is changed: x itself, or the dict of the instance x -/
theorem HOk.write (ok : HOk P w H h) (mu : Mut (H x)) (he : e = x ∨ H e = some (.own x)) (k : ∀ b u, b ≠ e → h.get? b = some u → h'.get? b = some u) (heo : ∃ u, h'.get? e = some u)
    (new : ObjOk P w (upd H x o') h' x o') : HOk P w (upd H x o') h' := fun b u q => by
  have nown : ∀ c y, H c = some (.own y) → c ≠ x := fun c y r z => by subst z; rw [r] at mu; exact mu
  have ntup : ∀ c xs, H c = some (.tup xs) → c ≠ x := fun c xs r z => by subst z; rw [r] at mu; exact mu
  by_cases hb : b = x
  · subst hb; rw [upd_same] at q; cases q; exact new
  · rw [upd_ne hb] at q
    by_cases hbe : b = e
    · have q' : H b = some (.own x) := by
        rcases he with z | z
        · exact absurd (hbe.trans z) hb
        · rw [hbe]; exact z
      rw [q] at q'; cases q'
      obtain ⟨v, hv⟩ := heo
      exact ⟨v, by rw [hbe]; exact hv⟩
    · refine (ok b u q).stay (fun c v hc r => k c v ?_ r) (fun c r => by rw [upd_ne (nown c b r)]; exact r) fun c xs r => by rw [upd_ne (ntup c xs r)]; exact r
      rcases hc with rfl | hc
      · exact hbe
      · rintro rfl
        rcases he with z | z
        · exact nown c b hc z
        · rw [hc] at z; cases z; exact hb rfl
end

/-! ### kept unless tracked; of the frames at fs (the callers') the slots may change (an exception that passes writes there); of the records at ex (iterators) nothing is said -/
structure Un (fs ex : List Addr) (H H' : Hp) (h h' : Heap) : Prop where
  keep : ∀ b o, h.get? b = some o → H b = none → b ∉ fs → b ∉ ex → h'.get? b = some o
  slot : ∀ b o, h.get? b = some o → H b = none → b ∈ fs → b ∉ ex → ∃ sl, h'.get? b = some { o with slots := sl }
  free : ∀ b o, h.get? b = some o → H b = none → b ∉ ex → H' b = none
  there : ∀ b o, h.get? b = some o → b ∉ ex → ∃ o', h'.get? b = some o'
  tups : ∀ b xs, H b = some (.tup xs) → H' b = some (.tup xs)
  frzs : ∀ b o u, H b = some (.frz o u) → H' b = some (.frz o u)
  tbls : ∀ b ps, H b = some (.tbl ps) → ∃ more, H' b = some (.tbl (ps ++ more))
section
variable {fs fs' ex ex' : List Addr} {H H1 H2 : Hp} {h h1 h2 h' : Heap} {a x e : Addr} {o : HO}
theorem Un.any (u : Un fs ex H H1 h h1) {b : Addr} {ob : Obj} (q : h.get? b = some ob) (n : H b = none) (hx : b ∉ ex) : ∃ sl, h1.get? b = some { ob with slots := sl } := by
  by_cases hb : b ∈ fs
  · exact u.slot b ob q n hb hx
  · exact ⟨ob.slots, u.keep b ob q n hb hx⟩
theorem Un.trans (a : Un fs ex H H1 h h1) (b : Un fs ex H1 H2 h1 h2) : Un fs ex H H2 h h2 where
  keep := fun c ob q n hc hx => b.keep c ob (a.keep c ob q n hc hx) (a.free c ob q n hx) hc hx
  slot := fun c ob q n hc hx => by
    obtain ⟨sl, e1⟩ := a.slot c ob q n hc hx
    obtain ⟨sl', e2⟩ := b.slot c _ e1 (a.free c ob q n hx) hc hx
    exact ⟨sl', e2⟩
  free := fun c ob q n hx => by
    obtain ⟨o', e1⟩ := a.there c ob q hx
    exact b.free c o' e1 (a.free c ob q n hx) hx
  there := fun c ob q hx => by
    obtain ⟨o', e1⟩ := a.there c ob q hx
    exact b.there c o' e1 hx
  tups := fun c xs q => b.tups c xs (a.tups c xs q)
  frzs := fun c ob xs q => b.frzs c ob xs (a.frzs c ob xs q)
  tbls := fun c ps q => by
    obtain ⟨m1, e1⟩ := a.tbls c ps q
    obtain ⟨m2, e2⟩ := b.tbls c _ e1
    exact ⟨m1 ++ m2, by rw [e2, Array.append_assoc]⟩
theorem Un.kept (k : ∀ b u, h.get? b = some u → h'.get? b = some u) : Un fs ex H H h h' :=
  ⟨fun b ob q _ _ _ => k b ob q, fun b ob q _ _ _ => ⟨ob.slots, k b ob q⟩, fun _ _ _ n _ => n, fun b ob q _ => ⟨ob, k b ob q⟩, fun _ _ q => q, fun _ _ _ q => q, fun _ ps q => ⟨#[], by rw [q]; simp⟩⟩
theorem Un.refl : Un fs ex H H h h := Un.kept fun _ _ q => q
theorem Un.laid (k : ∀ b u, h.get? b = some u → h'.get? b = some u) (hp : h.objs.size ≤ a) (hn : H a = none) : Un fs ex H (upd H a o) h h' where
  keep := fun b u q _ _ _ => k b u q
  slot := fun b u q _ _ _ => ⟨u.slots, k b u q⟩
  free := fun b u q n _ => by rw [upd_ne (Nat.ne_of_lt (Nat.lt_of_lt_of_le (Heap.lt_size q) hp))]; exact n
  there := fun b u q _ => ⟨u, k b u q⟩
  tups := fun b xs q => by rw [upd_ne (ne_of_none q hn)]; exact q
  frzs := fun b u xs q => by rw [upd_ne (ne_of_none q hn)]; exact q
  tbls := fun b ps q => ⟨#[], by rw [upd_ne (ne_of_none q hn), q]; simp⟩
theorem Un.write (mu : Mut (H x)) (he : e = x ∨ H e = some (.own x)) (k : ∀ b u, b ≠ e → h.get? b = some u → h'.get? b = some u) (heo : ∃ u, h'.get? e = some u) : Un fs ex H (upd H x o) h h' := by
  have hx : ∀ b, H b = none → b ≠ x := fun b n z => by subst z; rw [n] at mu; exact mu
  have hb : ∀ b, H b = none → b ≠ e := fun b n z => by
    subst z
    rcases he with r | r
    · exact hx b n r
    · rw [n] at r; cases r
  have hm : ∀ b u, H b = some u → ¬ Mut (some u) → b ≠ x := fun b u q nm z => by subst z; rw [q] at mu; exact nm mu
  refine ⟨fun b u q n _ _ => k b u (hb b n) q, fun b u q n _ _ => ⟨u.slots, k b u (hb b n) q⟩, fun b u q n _ => by rw [upd_ne (hx b n)]; exact n, fun b u q _ => ?_,
    fun b xs q => by rw [upd_ne (hm b _ q fun z => z)]; exact q, fun b u xs q => by rw [upd_ne (hm b _ q fun z => z)]; exact q, fun b ps q => ⟨#[], by rw [upd_ne (hm b _ q fun z => z), q]; simp⟩⟩
  by_cases hbe : b = e
  · subst hbe; exact heo
  · exact ⟨u, k b u hbe q⟩
theorem Un.mono (u : Un fs ex H H1 h h1) (hs : ∀ b ∈ fs, b ∈ fs') (hx : ∀ b ∈ ex, b ∈ ex') : Un fs' ex' H H1 h h1 :=
  ⟨fun b ob q n hb he => u.keep b ob q n (fun z => hb (hs b z)) fun z => he (hx b z), fun _ _ q n _ he => u.any q n fun z => he (hx _ z), fun b ob q n he => u.free b ob q n fun z => he (hx b z), fun b ob q he => u.there b ob q fun z => he (hx b z), u.tups, u.frzs, u.tbls⟩
end

/-! ### the heap without what is tracked -/
def trk (h : Heap) (H : Hp) : List Addr := (List.range h.objs.size).filter fun a => (H a).isSome
def hidT (h : Heap) (H : Hp) : Heap := PySem.W.hideAll h (trk h H)
theorem hidT_size (h : Heap) (H : Hp) : (hidT h H).objs.size = h.objs.size := PySem.W.hideAll_size _ _
theorem hidT_get {h : Heap} {H : Hp} {b : Addr} {o : Obj} (e : h.get? b = some o) (n : H b = none) : (hidT h H).get? b = some o :=
  PySem.W.hideAll_get _ e fun hm => by
    have q : (H b).isSome = true := (List.mem_filter.mp hm).2
    rw [n] at q; simp at q
theorem of_hidT {h : Heap} {H : Hp} {b : Addr} {o : Obj} (e : (hidT h H).get? b = some o) : h.get? b = some o ∧ H b = none := by
  have e' : h.get? b = some o := PySem.W.of_hideAll (trk h H) e
  refine ⟨e', ?_⟩
  cases q : H b with
  | none => rfl
  | some x =>
    have hm : b ∈ trk h H := List.mem_filter.mpr ⟨List.mem_range.mpr (Heap.lt_size e'), by simp [q]⟩
    have z : (hidT h H).get? b = none := PySem.W.hideAll_none (trk h H) hm
    rw [z] at e; cases e

/-! ### OpenK's ledger, filled with every new object but one -/
def allNews (g h : Heap) (L : Addr) : List (Addr × Obj) := (List.range h.objs.size).filterMap fun a => if a = L ∨ (g.get? a).isSome = true then none else (h.get? a).map fun o => (a, o)
def rest (g h : Heap) (L d : Addr) : List (Addr × Obj) := (allNews g h L).filter fun p => decide (p.1 ≠ d)
end L2

namespace L2
open PySem PySem.Spec PyProof.Rows

/-- the module's facts, over the base: the heap at the law's entry without what is tracked there -/
structure Mod (K : PySem.W.Frag) (mg : Str → Option Value) (base : Heap) : Prop where
  kin : K.In base
  glob : base.Ns mainGlobals mg
  blt : ∃ mb, base.Ns builtinsNs mb ∧ ∀ x : Str, x ≠ "__name__" → mb x = bootBuiltins x
  nolimit : base.NoLimit

/-- the context: a def's body (or a comprehension's block) running. base: fixed through the whole law; s₀, H₀: the entry; outer: the frames whose slots others may change (a def's callers); stack: all frames that run;
   ex: iterators that were made ahead of the entry and are walked here (a comprehension's); fn: the names whose cells were made at the entry (a def: all; a comprehension's block: its own); calm: not within an except suite; pn: pins that every state bears; xe: what is wanted of an exception that leaves the code -/
structure Cx where
  prog : Program
  w : World
  K : PySem.W.Frag
  mg : Str → Option Value
  base : Heap
  A : Around
  N : List Str
  s₀ : Shared
  H₀ : Hp
  env : Env
  outer : List Env
  stack : List Env
  ex : List Addr
  fn : Str → Bool
  calm : Bool
  pn : List (Addr × Obj)
  xe : Value → Shared → Prop
/-- the callers' frames -/
def frs (l : List Env) : List Addr := l.filterMap (·.frame)
abbrev Cx.fs (X : Cx) : List Addr := frs X.outer

def Vis (sc : Scope) (x : Str) : Prop := sc.names.lookup x = some .local ∨ sc.names.lookup x = some .cell ∨ sc.names.lookup x = some .free
def Loc (sc : Scope) (x : Str) : Prop := sc.names.lookup x = some .local ∨ sc.names.lookup x = some .cell
def Look (env : Env) (h : Heap) (m : Str → Option Value) (x : Str) (u : Value) : Prop :=
  (env.kindOf x = some .local ∧ m x = some u) ∨ ((env.kindOf x = some .cell ∨ env.kindOf x = some .free) ∧ ∃ c, env.cells.lookup x = some c ∧ h.IsCell c (some u))

structure Cx.Ok (X : Cx) : Prop where
  mod : Mod X.K X.mg X.base
  kind : X.env.scope.kind = .function
  glob : X.env.globals = mainGlobals
  blt : X.env.builtins = builtinsNs
  above : X.s₀.heap.objs.size ≤ X.env.locals
  inj : ∀ x y c, X.env.cells.lookup x = some c → X.env.cells.lookup y = some c → x = y
  has : ∀ x, (X.env.kindOf x = some .cell ∨ X.env.kindOf x = some .free) → ∃ c, X.env.cells.lookup x = some c
  cab : ∀ x c, X.fn x = true → X.env.cells.lookup x = some c → X.s₀.heap.objs.size ≤ c
  hd : X.calm = true → X.A.handled = none
  frames : X.A.frames = some X.stack
  stk : X.stack = X.outer ∨ (X.stack = X.env :: X.outer ∧ X.env.frame = some X.env.locals)
  exf : ∀ b ∈ X.ex, b ≠ X.env.locals ∧ ∀ x c, X.env.cells.lookup x = some c → c ≠ b
  bs : ∀ b o, X.base.get? b = some o → X.s₀.heap.get? b = some o ∧ X.H₀ b = none
  bsz : X.base.objs.size ≤ X.s₀.heap.objs.size
  noex : ∀ b o, X.base.get? b = some o → b ∉ X.ex
  exfs : ∀ b ∈ X.ex, b ∉ X.fs
  funs : X.s₀.heap.FunFrames X.base X.outer
  frf : ∀ b ∈ X.fs, X.H₀ b = none

structure Inv (X : Cx) (pins : List (Addr × Obj)) (σ : List (Option V)) (H : Hp) (s : Shared) : Prop where
  ok : X.Ok
  os : s.os = X.s₀.os
  bare : AllBare s.gens
  base : Un X.fs X.ex X.H₀ H X.s₀.heap s.heap
  loc : ∃ m, s.heap.Ns X.env.locals m ∧ ∀ (i : Nat) (x : Str) (v : V), X.N[i]? = some x → σ[i]? = some (some v) → Vis X.env.scope x → ∃ u, RelV v u ∧ Look X.env s.heap m x u
  cell : ∀ x c, X.env.cells.lookup x = some c → ∃ v, s.heap.IsCell c v
  free : H X.env.locals = none
  freeC : ∀ x c, X.env.cells.lookup x = some c → H c = none
  pin : ∀ p ∈ X.pn ++ pins, s.heap.get? p.1 = some p.2 ∧ H p.1 = none ∧ p.1 ≠ X.env.locals ∧ p.1 ∉ X.fs ∧ ∀ v, p.2.data ≠ .cell v
  hok : HOk X.prog X.w H s.heap
  len : σ.length = X.N.length

section
variable {X : Cx} {pins : List (Addr × Obj)} {σ : List (Option V)} {H H' : Hp} {s : Shared} {h' : Heap}

theorem Cx.Ok.nofr (ok : X.Ok) {b : Addr} {o : Obj} (e : X.base.get? b = some o) : b ∉ X.fs := fun hb => by
  have := (ok.funs.mem hb).1
  rw [e] at this; cases this
theorem Inv.bs (I : Inv X pins σ H s) : ∀ b o, X.base.get? b = some o → s.heap.get? b = some o ∧ H b = none := fun b o e =>
  ⟨I.base.keep b o (I.ok.bs b o e).1 (I.ok.bs b o e).2 (I.ok.nofr e) (I.ok.noex b o e), I.base.free b o (I.ok.bs b o e).1 (I.ok.bs b o e).2 (I.ok.noex b o e)⟩
theorem Inv.bk (I : Inv X pins σ H s) : ∀ b o, X.base.get? b = some o → s.heap.get? b = some o := fun b o e => (I.bs b o e).1
theorem Inv.mod (I : Inv X pins σ H s) : Mod X.K X.mg X.base := I.ok.mod
theorem Inv.kIn (I : Inv X pins σ H s) : X.K.In s.heap := I.ok.mod.kin.keeps I.bk
theorem Inv.nolimit (I : Inv X pins σ H s) : s.heap.NoLimit := I.ok.mod.nolimit.keeps I.bk
/-- the frame over the base: for OpenK's rules (K.In X.base is I.mod.kin) -/
theorem Inv.fr (I : Inv X pins σ H s) : ∃ m, Fr X.base X.env.locals s.heap m :=
  let ⟨m, hn, _⟩ := I.loc
  ⟨m, hn, I.bk, Nat.le_trans I.ok.bsz I.ok.above⟩
theorem Inv.lt (I : Inv X pins σ H s) : X.env.locals < s.heap.objs.size := let ⟨_, hn, _⟩ := I.loc; hn.lt
theorem Inv.sz (I : Inv X pins σ H s) : X.s₀.heap.objs.size ≤ s.heap.objs.size := Nat.le_trans I.ok.above (Nat.le_of_lt I.lt)
theorem Inv.nofs (I : Inv X pins σ H s) {a : Addr} (h : s.heap.objs.size ≤ a) : a ∉ X.fs := fun hb => by
  obtain ⟨_, o, ho, _⟩ := I.ok.funs.mem hb
  exact absurd (Nat.lt_of_lt_of_le (Heap.lt_size ho) (Nat.le_trans I.sz h)) (Nat.lt_irrefl _)
theorem Inv.cne (I : Inv X pins σ H s) : ∀ x c, X.env.cells.lookup x = some c → c ≠ X.env.locals := fun x c e z => by
  obtain ⟨v, o, ho, hd⟩ := I.cell x c e
  obtain ⟨m, ⟨o', es, ep, ho', hd', _⟩, _⟩ := I.loc
  rw [z, ho'] at ho; cases ho; rw [hd'] at hd; cases hd
theorem Inv.funs (I : Inv X pins σ H s) : s.heap.FunFrames X.base X.outer := by
  have all : ∀ (l : List Env), (∀ b ∈ frs l, b ∈ X.fs) → X.s₀.heap.FunFrames X.base l → s.heap.FunFrames X.base l := by
    intro l
    induction l with
    | nil => intro _ _; trivial
    | cons env r ih =>
      intro hs hl
      obtain ⟨hk, ⟨L, o, hf, hn, ho, hd⟩, hr⟩ := hl
      have hL : L ∈ X.fs := hs L (by unfold frs; rw [List.filterMap_cons, hf]; exact List.mem_cons_self)
      obtain ⟨sl, e⟩ := I.base.slot L o ho (I.ok.frf L hL) hL fun z => I.ok.exfs L z hL
      exact ⟨hk, ⟨L, _, hf, hn, e, hd⟩, ih (fun b hb => hs b (by unfold frs; rw [List.filterMap_cons, hf]; exact List.mem_cons_of_mem _ hb)) hr⟩
  exact all X.outer (fun _ hb => hb) I.ok.funs

/-- the frames that run, for a call -/
theorem Inv.stack (I : Inv X pins σ H s) : s.heap.FunFrames X.base X.stack := by
  rcases I.ok.stk with e | ⟨e, hf⟩
  · rw [e]; exact I.funs
  · rw [e]
    obtain ⟨m, hn, _⟩ := I.loc
    refine .cons (by rw [I.ok.kind]; decide) hf hn ?_ I.funs
    exact Heap.get?_none_of_le (Nat.le_trans I.ok.bsz I.ok.above)
theorem Inv.stkSub (I : Inv X pins σ H s) : ∀ b ∈ frs X.stack, b ∈ X.env.locals :: X.fs := fun b hb => by
  rcases I.ok.stk with e | ⟨e, hf⟩
  · rw [e] at hb; exact List.mem_cons_of_mem _ hb
  · rw [e] at hb
    unfold frs at hb
    rw [List.filterMap_cons, hf] at hb
    exact hb
theorem Inv.stkFree (I : Inv X pins σ H s) : ∀ b ∈ frs X.stack, H b = none := fun b hb => by
  rcases List.mem_cons.mp (I.stkSub b hb) with e | hb
  · rw [e]; exact I.free
  · obtain ⟨_, o, ho, _⟩ := I.ok.funs.mem hb
    exact I.base.free b o ho (I.ok.frf b hb) fun z => I.ok.exfs b z hb

/-- THE STEP: the untracked objects but the frame and the records at ch are kept (the callers' frames up to slots), the frame's map is kept, the new abstract heap is held -/
theorem Inv.step {g' : Array GenState} {t' : Nat} {d' : Drawn} {ch : List Addr} (I : Inv X pins σ H s)
    (hch : ∀ b ∈ ch, (b ∈ X.ex ∨ X.s₀.heap.objs.size ≤ b) ∧ b ≠ X.env.locals ∧ (∀ x c, X.env.cells.lookup x = some c → c ≠ b) ∧ ∀ p ∈ X.pn ++ pins, p.1 ≠ b)
    (keep : ∀ b o, b ≠ X.env.locals → b ∉ X.fs → b ∉ ch → s.heap.get? b = some o → H b = none → h'.get? b = some o)
    (slot : ∀ b o, b ≠ X.env.locals → b ∈ X.fs → b ∉ ch → s.heap.get? b = some o → H b = none → ∃ sl, h'.get? b = some { o with slots := sl }) (free : ∀ b o, b ∉ ch → s.heap.get? b = some o → H b = none → H' b = none)
    (there : ∀ b o, b ∉ ch → s.heap.get? b = some o → ∃ o', h'.get? b = some o')
    (tups : ∀ b xs, H b = some (.tup xs) → H' b = some (.tup xs)) (frzs : ∀ b o u, H b = some (.frz o u) → H' b = some (.frz o u)) (tbls : ∀ b ps, H b = some (.tbl ps) → ∃ more, H' b = some (.tbl (ps ++ more)))
    (ns : ∀ m, s.heap.Ns X.env.locals m → h'.Ns X.env.locals m) (hok : HOk X.prog X.w H' h') (hg : AllBare g') :
    Inv X pins σ H' { s with heap := h', gens := g', drawn := d', toks := t' } := by
  have neL : ∀ b o, X.s₀.heap.get? b = some o → b ≠ X.env.locals := fun b o e => Nat.ne_of_lt (Nat.lt_of_lt_of_le (Heap.lt_size e) I.ok.above)
  have neC : ∀ b o, X.s₀.heap.get? b = some o → b ∉ X.ex → b ∉ ch := fun b o e hx hb => by
    rcases (hch b hb).1 with z | z
    · exact hx z
    · exact absurd (Nat.lt_of_lt_of_le (Heap.lt_size e) z) (Nat.lt_irrefl _)
  have cellK : ∀ x c, X.env.cells.lookup x = some c → ∀ v, s.heap.IsCell c v → h'.IsCell c v := fun x c e v ⟨o, ho, hd⟩ => by
    have nch : c ∉ ch := fun z => (hch c z).2.2.1 x c e rfl
    by_cases hc : c ∈ X.fs
    · obtain ⟨sl, q⟩ := slot c o (I.cne x c e) hc nch ho (I.freeC x c e)
      exact ⟨_, q, hd⟩
    · exact ⟨o, keep c o (I.cne x c e) hc nch ho (I.freeC x c e), hd⟩
  refine ⟨I.ok, I.os, hg, ⟨fun b o e n hb hx => ?_, fun b o e n hb hx => ?_, fun b o e n hx => ?_, fun b o e hx => ?_, fun b xs e => tups b xs (I.base.tups b xs e), fun b o xs e => frzs b o xs (I.base.frzs b o xs e), fun b ps e => ?_⟩, ?_, fun x c e => ?_, ?_, fun x c e => ?_, fun p hp => ?_, hok, I.len⟩
  · exact keep b o (neL b o e) hb (neC b o e hx) (I.base.keep b o e n hb hx) (I.base.free b o e n hx)
  · obtain ⟨sl, e1⟩ := I.base.slot b o e n hb hx
    obtain ⟨sl', e2⟩ := slot b _ (neL b o e) hb (neC b o e hx) e1 (I.base.free b o e n hx)
    exact ⟨sl', e2⟩
  · obtain ⟨o', e1⟩ := I.base.there b o e hx
    exact free b o' (neC b o e hx) e1 (I.base.free b o e n hx)
  · obtain ⟨o', e1⟩ := I.base.there b o e hx
    exact there b o' (neC b o e hx) e1
  · obtain ⟨m1, e1⟩ := I.base.tbls b ps e
    obtain ⟨m2, e2⟩ := tbls b _ e1
    exact ⟨m1 ++ m2, by rw [e2, Array.append_assoc]⟩
  · obtain ⟨m, hn, hl⟩ := I.loc
    refine ⟨m, ns m hn, fun i x v e1 e2 e3 => ?_⟩
    obtain ⟨u, r, l⟩ := hl i x v e1 e2 e3
    refine ⟨u, r, ?_⟩
    rcases l with l | ⟨k, c, e, z⟩
    · exact .inl l
    · exact .inr ⟨k, c, e, cellK x c e _ z⟩
  · obtain ⟨v, z⟩ := I.cell x c e
    exact ⟨v, cellK x c e v z⟩
  · obtain ⟨m, ⟨o, _, _, ho, _⟩, _⟩ := I.loc
    exact free _ o (fun z => (hch _ z).2.1 rfl) ho I.free
  · obtain ⟨v, o, ho, hd⟩ := I.cell x c e
    exact free c o (fun z => (hch c z).2.2.1 x c e rfl) ho (I.freeC x c e)
  · obtain ⟨e, n, ne, nf, d⟩ := I.pin p hp
    have nch : p.1 ∉ ch := fun z => (hch p.1 z).2.2.2 p hp rfl
    exact ⟨keep p.1 p.2 ne nf nch e n, free p.1 p.2 nch e n, ne, nf, d⟩
/-- .. where the frame's own object is kept too -/
theorem Inv.un {t' : Nat} (I : Inv X pins σ H s) (u : Un X.fs [] H H' s.heap h') (hok : HOk X.prog X.w H' h') : Inv X pins σ H' { s with heap := h', toks := t' } := by
  obtain ⟨m, ⟨o, es, ep, ho, r⟩, _⟩ := id I.loc
  obtain ⟨sl, hL⟩ := u.any ho I.free (by simp)
  exact I.step (g' := s.gens) (d' := s.drawn) (ch := []) (fun _ z => nomatch z) (fun b o _ hb _ e n => u.keep b o e n hb (by simp)) (fun b o _ hb _ e n => u.slot b o e n hb (by simp)) (fun b o _ e n => u.free b o e n (by simp)) (fun b o _ e => u.there b o e (by simp)) u.tups u.frzs u.tbls (fun m' hm => by
    obtain ⟨o', es', ep', ho', r'⟩ := hm
    rw [ho] at ho'; cases ho'
    exact ⟨_, es', ep', hL, r'⟩) hok I.bare
/-- behind a call (or a comprehension's block): the slots of this frame may have changed too, the records at ch may have turned -/
theorem Inv.call {g' : Array GenState} {t' : Nat} {d' : Drawn} {ch : List Addr} (I : Inv X pins σ H s) (u : Un (frs X.stack) ch H H' s.heap h') (hok : HOk X.prog X.w H' h') (hg : AllBare g')
    (hch : ∀ b ∈ ch, (b ∈ X.ex ∨ X.s₀.heap.objs.size ≤ b) ∧ b ≠ X.env.locals ∧ (∀ x c, X.env.cells.lookup x = some c → c ≠ b) ∧ ∀ p ∈ X.pn ++ pins, p.1 ≠ b) :
    Inv X pins σ H' { s with heap := h', gens := g', drawn := d', toks := t' } := by
  obtain ⟨m, ⟨o, es, ep, ho, r⟩, _⟩ := id I.loc
  obtain ⟨sl, hL⟩ := u.any ho I.free fun z => (hch _ z).2.1 rfl
  exact I.step (ch := ch) hch (fun b o hL hb hc e n => u.keep b o e n (fun z => (List.mem_cons.mp (I.stkSub b z)).elim hL hb) hc) (fun b o _ _ hc e n => u.any e n hc) (fun b o hc e n => u.free b o e n hc) (fun b o hc e => u.there b o e hc) u.tups u.frzs u.tbls (fun m' hm => by
    obtain ⟨o', es', ep', ho', r'⟩ := hm
    rw [ho] at ho'; cases ho'
    exact ⟨_, es', ep', hL, r'⟩) hok hg
/-- an untracked record of ours (an iterator) has turned -/
theorem Inv.turned {t' : Nat} {it : Addr} (I : Inv X pins σ H s) (k : ∀ b o, b ≠ it → s.heap.get? b = some o → h'.get? b = some o) (hn : H it = none) (hL : it ≠ X.env.locals)
    (h1 : it ∈ X.ex ∨ X.s₀.heap.objs.size ≤ it) (h2 : ∀ x c, X.env.cells.lookup x = some c → c ≠ it) (h3 : ∀ p ∈ X.pn ++ pins, p.1 ≠ it) : Inv X pins σ H { s with heap := h', toks := t' } := by
  have nit : ∀ b u, H b = some u → b ≠ it := fun b u e z => by rw [z, hn] at e; cases e
  refine I.step (g' := s.gens) (d' := s.drawn) (ch := [it]) (fun b hb => ?_) (fun b o _ _ hc e _ => k b o (fun z => hc (by simp [z])) e) (fun b o _ _ hc e _ => ⟨o.slots, k b o (fun z => hc (by simp [z])) e⟩) (fun _ _ _ _ n => n)
    (fun b o hc e => ⟨o, k b o (fun z => hc (by simp [z])) e⟩) (fun _ _ e => e) (fun _ _ _ e => e) (fun b ps e => ⟨#[], by rw [e]; simp⟩) (fun m hm => ?_) (fun b u e => ?_) I.bare
  · have e : b = it := by simpa using hb
    subst e
    exact ⟨h1, hL, h2, h3⟩
  · obtain ⟨o, es, ep, ho, r⟩ := hm
    exact ⟨o, es, ep, k _ o (Ne.symm hL) ho, r⟩
  · refine (I.hok b u e).stay (fun c v hc q => k c v ?_ q) (fun _ q => q) fun _ _ q => q
    rcases hc with z | z
    · rw [z]; exact nit b u e
    · exact nit c _ z
theorem Inv.tok (I : Inv X pins σ H s) (t : Nat) : Inv X pins σ H { s with toks := t } := I.un (h' := s.heap) (t' := t) Un.refl I.hok
/-- all objects kept -/
theorem Inv.kept {t' : Nat} (I : Inv X pins σ H s) (k : ∀ b u, s.heap.get? b = some u → h'.get? b = some u) : Inv X pins σ H { s with heap := h', toks := t' } := I.un (Un.kept k) (I.hok.kept k)
/-- a new object laid and tracked -/
theorem Inv.laid {a : Addr} {o : HO} {t' : Nat} (I : Inv X pins σ H s) (k : ∀ b u, s.heap.get? b = some u → h'.get? b = some u) (hp : s.heap.objs.size ≤ a) (new : ObjOk X.prog X.w (upd H a o) h' a o) :
    Inv X pins σ (upd H a o) { s with heap := h', toks := t' } := I.un (Un.laid k hp (I.hok.fresh hp)) (I.hok.laid k hp new)
/-- an object written -/
theorem Inv.write {x e : Addr} {o : HO} {t' : Nat} (I : Inv X pins σ H s) (mu : Mut (H x)) (he : e = x ∨ H e = some (.own x)) (k : ∀ b u, b ≠ e → s.heap.get? b = some u → h'.get? b = some u) (heo : ∃ u, h'.get? e = some u)
    (new : ObjOk X.prog X.w (upd H x o) h' x o) : Inv X pins σ (upd H x o) { s with heap := h', toks := t' } := I.un (Un.write mu he k heo) (I.hok.write mu he k heo new)
/-- forgetting slots, pins -/
theorem Inv.weak {σ' : List (Option V)} (I : Inv X pins σ H s) (hl : σ'.length = σ.length) (w : ∀ (i : Nat) v, σ'[i]? = some (some v) → σ[i]? = some (some v)) : Inv X pins σ' H s :=
  ⟨I.ok, I.os, I.bare, I.base, let ⟨m, hn, hl'⟩ := I.loc; ⟨m, hn, fun i x v e1 e2 e3 => hl' i x v e1 (w i v e2) e3⟩, I.cell, I.free, I.freeC, I.pin, I.hok, hl.trans I.len⟩
theorem Inv.pins_of {pins' : List (Addr × Obj)} (I : Inv X pins σ H s) (h : ∀ p ∈ pins', s.heap.get? p.1 = some p.2 ∧ H p.1 = none ∧ p.1 ≠ X.env.locals ∧ p.1 ∉ X.fs ∧ ∀ v, p.2.data ≠ .cell v) : Inv X pins' σ H s :=
  ⟨I.ok, I.os, I.bare, I.base, I.loc, I.cell, I.free, I.freeC, fun p hp => (List.mem_append.mp hp).elim (fun z => I.pin p (List.mem_append_left _ z)) (h p), I.hok, I.len⟩

theorem nodup_ix {N : List Str} (hN : N.Nodup) {i j : Nat} {x : Str} (a : N[i]? = some x) (b : N[j]? = some x) : i = j := by
  obtain ⟨h1, e1⟩ := List.getElem?_eq_some_iff.mp a
  obtain ⟨h2, e2⟩ := List.getElem?_eq_some_iff.mp b
  exact (List.getElem_inj hN).mp (e1.trans e2.symm)

/-- a name is stored; what changed -/
theorem store_ok2 {M : Model} {A : Around} {E : Value → Shared → Prop} {i : Nat} {x : Str} {v : V} {u : Value} {Q : Unit → Shared → Prop} (I : Inv X pins σ H s) (hN : X.N.Nodup) (hi : X.N[i]? = some x) (hx : Loc X.env.scope x) (r : RelV v u)
    (h : ∀ s', Inv X pins (σ.set i (some v)) H s' → (∃ a, Heap.SameBut a s.heap s'.heap ∧ (a = X.env.locals ∨ X.env.cells.lookup x = some a)) → Q () s') (hf : X.fn x = true ∨ X.env.scope.names.lookup x = some .local := by first | exact .inl rfl | exact .inr rfl | assumption) : wpAny M A (storeName X.env x u) Q E s := by
  obtain ⟨m, hn, hl⟩ := id I.loc
  have hcls : (X.env.scope.kind == .class || (X.env.scope.kind == .module && X.env.locals != X.env.globals)) = false := by rw [I.ok.kind]; rfl
  have hiσ : i < σ.length := by rw [I.len]; exact (List.getElem?_eq_some_iff.mp hi).1
  have cne := I.cne
  have tracked : ∀ {a : Addr} {h' : Heap}, (∃ o, s.heap.get? a = some o ∧ H a = none) → Heap.SameBut a s.heap h' → HOk X.prog X.w H h' := fun {a h'} ha hs b ob e => by
    obtain ⟨_, _, hfree⟩ := ha
    refine (I.hok b ob e).stay (fun c w' hc q => (hs.2 c ?_).trans q) (fun _ q => q) fun _ _ q => q
    rintro rfl
    rcases hc with rfl | hc
    · rw [hfree] at e; cases e
    · rw [hfree] at hc; cases hc
  rcases hx with hk | hk
  · refine wpAny_storeName_local hk hn (fun h' hn' hs => ?_) hcls
    obtain ⟨oL, _, _, hoL, _⟩ := id hn
    refine h _ ⟨I.ok, I.os, I.bare, ⟨fun b o e n hb hx => ?_, fun b o e n hb hx => ?_, I.base.free, fun b o e hx => ?_, I.base.tups, I.base.frzs, I.base.tbls⟩, ⟨_, hn', fun j y v' e1 e2 e3 => ?_⟩, fun y c e => ?_, I.free, I.freeC, fun p hp => ?_, tracked ⟨oL, hoL, I.free⟩ hs, by simpa using I.len⟩ ⟨_, hs, .inl rfl⟩
    · exact (hs.2 b (Nat.ne_of_lt (Nat.lt_of_lt_of_le (Heap.lt_size e) I.ok.above))).trans (I.base.keep b o e n hb hx)
    · obtain ⟨sl, e1⟩ := I.base.slot b o e n hb hx
      exact ⟨sl, (hs.2 b (Nat.ne_of_lt (Nat.lt_of_lt_of_le (Heap.lt_size e) I.ok.above))).trans e1⟩
    · obtain ⟨o', e1⟩ := I.base.there b o e hx
      exact ⟨o', (hs.2 b (Nat.ne_of_lt (Nat.lt_of_lt_of_le (Heap.lt_size e) I.ok.above))).trans e1⟩
    · by_cases hj : j = i
      · subst hj
        rw [hi] at e1; cases e1
        rw [List.getElem?_set_self hiσ] at e2
        cases e2
        exact ⟨u, r, .inl ⟨hk, by simp⟩⟩
      · rw [List.getElem?_set_ne (Ne.symm hj)] at e2
        obtain ⟨u', r', q⟩ := hl j y v' e1 e2 e3
        refine ⟨u', r', ?_⟩
        rcases q with ⟨k, e⟩ | ⟨k, c, e, z⟩
        · refine .inl ⟨k, ?_⟩
          have : y ≠ x := fun e => hj (nodup_ix hN e1 (e ▸ hi))
          simp [this, e]
        · exact .inr ⟨k, c, e, z.sameBut hs (cne y c e)⟩
    · obtain ⟨w', z⟩ := I.cell y c e
      exact ⟨w', z.sameBut hs (cne y c e)⟩
    · obtain ⟨e, n, ne, nf, d⟩ := I.pin p hp
      exact ⟨(hs.2 p.1 ne).trans e, n, ne, nf, d⟩
  · have hfn : X.fn x = true := by
      rcases hf with z | z
      · exact z
      · rw [z] at hk; cases hk
    obtain ⟨c, hc⟩ := I.ok.has x (.inl hk)
    obtain ⟨w', z⟩ := I.cell x c hc
    refine wpAny_storeName_cell I.ok.kind hk hc z (fun h' hc' hs => ?_)
    obtain ⟨oc, hoc, hocd⟩ := id z
    refine h { s with heap := h' } ⟨I.ok, I.os, I.bare, ⟨fun b o e n hb hx => ?_, fun b o e n hb hx => ?_, I.base.free, fun b o e hx => ?_, I.base.tups, I.base.frzs, I.base.tbls⟩, ⟨m, hn.sameBut hs (Ne.symm (cne x c hc)), fun j y v' e1 e2 e3 => ?_⟩, fun y c' e => ?_, I.free, I.freeC, fun p hp => ?_, tracked ⟨oc, hoc, I.freeC x c hc⟩ hs, by simpa using I.len⟩ ⟨c, hs, .inr hc⟩
    · exact (hs.2 b (Nat.ne_of_lt (Nat.lt_of_lt_of_le (Heap.lt_size e) (I.ok.cab x c hfn hc)))).trans (I.base.keep b o e n hb hx)
    · obtain ⟨sl, e1⟩ := I.base.slot b o e n hb hx
      exact ⟨sl, (hs.2 b (Nat.ne_of_lt (Nat.lt_of_lt_of_le (Heap.lt_size e) (I.ok.cab x c hfn hc)))).trans e1⟩
    · obtain ⟨o', e1⟩ := I.base.there b o e hx
      exact ⟨o', (hs.2 b (Nat.ne_of_lt (Nat.lt_of_lt_of_le (Heap.lt_size e) (I.ok.cab x c hfn hc)))).trans e1⟩
    · by_cases hj : j = i
      · subst hj
        rw [hi] at e1; cases e1
        rw [List.getElem?_set_self hiσ] at e2
        cases e2
        exact ⟨u, r, .inr ⟨.inl hk, c, hc, hc'⟩⟩
      · rw [List.getElem?_set_ne (Ne.symm hj)] at e2
        obtain ⟨u', r', q⟩ := hl j y v' e1 e2 e3
        refine ⟨u', r', ?_⟩
        rcases q with q | ⟨k, c', e, z'⟩
        · exact .inl q
        · refine .inr ⟨k, c', e, z'.sameBut hs ?_⟩
          rintro rfl
          exact hj (nodup_ix hN e1 (I.ok.inj _ _ _ e hc ▸ hi))
    · by_cases hcc : c' = c
      · subst hcc; exact ⟨_, hc'⟩
      · obtain ⟨w2, z2⟩ := I.cell y c' e
        exact ⟨w2, z2.sameBut hs hcc⟩
    · obtain ⟨e, n, ne, nf, d⟩ := I.pin p hp
      refine ⟨(hs.2 p.1 ?_).trans e, n, ne, nf, d⟩
      intro q
      rw [q, hoc] at e
      have q' : oc = p.2 := Option.some.inj e
      exact d w' (by rw [← q']; exact hocd)
theorem store_ok {M : Model} {A : Around} {E : Value → Shared → Prop} {i : Nat} {x : Str} {v : V} {u : Value} {Q : Unit → Shared → Prop} (I : Inv X pins σ H s) (hN : X.N.Nodup) (hi : X.N[i]? = some x) (hx : Loc X.env.scope x) (r : RelV v u)
    (h : ∀ s', Inv X pins (σ.set i (some v)) H s' → Q () s') (hf : X.fn x = true ∨ X.env.scope.names.lookup x = some .local := by first | exact .inl rfl | exact .inr rfl | assumption) : wpAny M A (storeName X.env x u) Q E s :=
  store_ok2 I hN hi hx r (fun s' I' _ => h s' I') hf
/-- behind a call or a block, the state as it is -/
theorem Inv.call' {s' : Shared} {ch : List Addr} (I : Inv X pins σ H s) (ho : s'.os = s.os) (u : Un (frs X.stack) ch H H' s.heap s'.heap) (hok : HOk X.prog X.w H' s'.heap) (hg : AllBare s'.gens)
    (hch : ∀ b ∈ ch, (b ∈ X.ex ∨ X.s₀.heap.objs.size ≤ b) ∧ b ≠ X.env.locals ∧ (∀ x c, X.env.cells.lookup x = some c → c ≠ b) ∧ ∀ p ∈ X.pn ++ pins, p.1 ≠ b) : Inv X pins σ H' s' := by
  obtain ⟨h', g', d', t', o'⟩ := s'
  have e : o' = s.os := ho
  subst e
  exact I.call (g' := g') (t' := t') (d' := d') u hok hg hch
end

/-! ### the judgements -/
/-- an exception: its class, its own dict's address (where it has one), the abstract heap behind it -/
abbrev XK := Value → Option Addr → Hp → Prop
abbrev St := List (Option V)
abbrev VK := V → Hp → Prop
/-- an expression's reading; a test's; an argument list's -/
abbrev TE := St → Hp → VK → Prop
abbrev TT := St → Hp → (Bool → Hp → Prop) → Prop
abbrev TA := St → Hp → (List V → Hp → Prop) → Prop
/-- what is wanted behind a statement -/
structure Ends where
  nx : St → Hp → Prop
  rt : VK
  bk : St → Hp → Prop := fun _ _ => False
  ct : St → Hp → Prop := fun _ _ => False
abbrev TS := Ends → St → Hp → Prop

def EP (X : Cx) (pins : List (Addr × Obj)) (σ : St) (Q : VK) (u : Value) (s' : Shared) : Prop := ∃ v H', Inv X pins σ H' s' ∧ RelV v u ∧ Q v H'
def TP (X : Cx) (pins : List (Addr × Obj)) (σ : St) (Q : Bool → Hp → Prop) (b : Bool) (s' : Shared) : Prop := ∃ H', Inv X pins σ H' s' ∧ Q b H'
def AP (X : Cx) (pins : List (Addr × Obj)) (σ : St) (Q : List V → Hp → Prop) (us : List Value) (s' : Shared) : Prop := ∃ vs H', Inv X pins σ H' s' ∧ Vals vs us ∧ Q vs H'
def SP (X : Cx) (pins : List (Addr × Obj)) (D : Ends) (f : Flow) (s' : Shared) : Prop :=
  match f with
  | .next => ∃ σ' H', Inv X pins σ' H' s' ∧ D.nx σ' H'
  | .brk => ∃ σ' H', Inv X pins σ' H' s' ∧ D.bk σ' H'
  | .cont => ∃ σ' H', Inv X pins σ' H' s' ∧ D.ct σ' H'
  | .ret u => ∃ v σ' H', Inv X pins σ' H' s' ∧ RelV v u ∧ D.rt v H'

def PE (X : Cx) (e : Expr) (t : TE) : Prop :=
  ∀ (pins : List (Addr × Obj)) (s : Shared) (σ : St) (H : Hp) (Q : VK), Inv X pins σ H s → t σ H Q → wpAny (model X.prog X.w) X.A (eval e X.env) (EP X pins σ Q) X.xe s
def PT (X : Cx) (e : Expr) (t : TT) : Prop :=
  ∀ (pins : List (Addr × Obj)) (s : Shared) (σ : St) (H : Hp) (Q : Bool → Hp → Prop), Inv X pins σ H s → t σ H Q → wpAny (model X.prog X.w) X.A (isTrue e X.env (eval e X.env)) (TP X pins σ Q) X.xe s
/-- a test whatever its 'whole' is (and, or) -/
def PW (X : Cx) (e : Expr) (t : TT) : Prop :=
  ∀ (whole : Sem Value) (pins : List (Addr × Obj)) (s : Shared) (σ : St) (H : Hp) (Q : Bool → Hp → Prop), Inv X pins σ H s → t σ H Q → wpAny (model X.prog X.w) X.A (isTrue e X.env whole) (TP X pins σ Q) X.xe s
theorem PW.pt {X : Cx} {e : Expr} {t : TT} (h : PW X e t) : PT X e t := h _
/-- an argument list (no star), from the left -/
def PA (X : Cx) (es : List Expr) (t : TA) : Prop :=
  ∀ (pos : Pos) (pins : List (Addr × Obj)) (s : Shared) (σ : St) (H : Hp) (Q : List V → Hp → Prop), Inv X pins σ H s → t σ H Q → wpAny (model X.prog X.w) X.A (spliced (backTo pos (starEach es X.env))) (AP X pins σ Q) X.xe s
def PS (X : Cx) (st : Stmt) (t : TS) : Prop :=
  ∀ (pins : List (Addr × Obj)) (s : Shared) (σ : St) (H : Hp) (D : Ends), Inv X pins σ H s → t D σ H → wpAny (model X.prog X.w) X.A (exec st X.env) (SP X pins D) X.xe s
def PSs (X : Cx) (st : List Stmt) (t : TS) : Prop :=
  ∀ (pins : List (Addr × Obj)) (s : Shared) (σ : St) (H : Hp) (D : Ends), Inv X pins σ H s → t D σ H → wpAny (model X.prog X.w) X.A (execs st X.env) (SP X pins D) X.xe s
/-- weaken the end -/
theorem thn {α : Type} {t : Sem α} {Q Q' : α → Shared → Prop} {M : Model} {A : Around} {E : Value → Shared → Prop} {s : Shared} (h : wpAny M A t Q E s) (hQ : ∀ a s, Q a s → Q' a s) : wpAny M A t Q' E s := wpAny_mono h hQ fun _ _ x => x
end L2

namespace L2
open PySem PySem.Spec PyProof.Rows
section
variable {X : Cx}

/-! ### names and constants -/
def tVar (i : Nat) : TE := fun σ H Q => ∃ v, σ[i]? = some (some v) ∧ Q v H
def tC (v : V) : TE := fun _ H Q => Q v H
theorem pe_var {i : Nat} {x : Str} {pos : Pos} (hN : X.N[i]? = some x) (hv : Vis X.env.scope x) (hd : (x == ("__debug__" : Str)) = false := by decide) (hcd : (x == ("__classdict__" : Str)) = false := by decide) : PE X (.Name x pos) (tVar i) := by
  intro pins s σ H Q I h
  obtain ⟨v, e, h⟩ := h
  obtain ⟨m, hn, hl⟩ := I.loc
  obtain ⟨u, r, l⟩ := hl i x v hN e hv
  have fin : EP X pins σ Q u s := ⟨v, H, I, r, h⟩
  rcases l with ⟨hk, hm⟩ | ⟨hk, c, hc, hcell⟩
  · exact wpAny_Name (wpAny_loadName_local I.ok.kind hk hn hm fin) hd
  · rcases hk with hk | hk
    · exact wpAny_Name (wpAny_loadName_cell I.ok.kind hk hc hcell fin) hd
    · exact wpAny_Name (wpAny_loadName_free I.ok.kind hk hc hcell fin hcd) hd
theorem pe_int {i j pos} : PE X (.Constant (.int i) j pos) (tC (.int i)) := fun _ _ _ H _ I h => wpAny_Constant_int ⟨.int i, H, I.tok _, ⟨_, rfl⟩, h⟩
theorem pe_bl {b j pos} : PE X (.Constant (.bool b) j pos) (tC (.bl b)) := fun _ _ _ H _ I h => Constant_bool ⟨.bl b, H, I, rfl, h⟩
theorem pe_str {x j pos} : PE X (.Constant (.str x) j pos) (tC (.str x)) := fun _ _ _ H _ I h => Calls.Constant_str ⟨.str x, H, I.tok _, ⟨_, rfl⟩, h⟩

/-- a global name of the def -/
def Gl (X : Cx) (x : Str) : Prop := X.env.kindOf x = some .globalImplicit
theorem ld_glob {E : Value → Shared → Prop} {pins : List (Addr × Obj)} {s : Shared} {σ : St} {H : Hp} {x : Str} {u : Value} {pos : Pos} {Q : Value → Shared → Prop} (I : Inv X pins σ H s) (hg : Gl X x) (hm : X.mg x = some u) (h : Q u s)
    (hd : (x == ("__debug__" : Str)) = false := by decide) : wpAny (model X.prog X.w) X.A (eval (.Name x pos) X.env) Q E s :=
  Calls.Name_function_global I.ok.kind hg (Calls.loadGlobal_global (by rw [I.ok.glob]; exact I.mod.glob.keeps I.bk) hm h) hd
theorem ld_blt {E : Value → Shared → Prop} {pins : List (Addr × Obj)} {s : Shared} {σ : St} {H : Hp} {x : Str} {u : Value} {pos : Pos} {Q : Value → Shared → Prop} (I : Inv X pins σ H s) (hg : Gl X x) (hm : X.mg x = none) (hv : bootBuiltins x = some u) (h : Q u s)
    (hn : x ≠ "__name__" := by decide) (hd : (x == ("__debug__" : Str)) = false := by decide) : wpAny (model X.prog X.w) X.A (eval (.Name x pos) X.env) Q E s := by
  obtain ⟨mb, h1, h2⟩ := I.mod.blt
  exact Calls.Name_function_global I.ok.kind hg (Calls.loadGlobal_builtin (by rw [I.ok.glob]; exact I.mod.glob.keeps I.bk) hm (by rw [I.ok.blt]; exact h1.keeps I.bk) ((h2 x hn).trans hv) h) hd
theorem pe_bltn {x : Str} {v : V} {u : Value} {pos : Pos} (hg : Gl X x) (hm : X.mg x = none) (hv : bootBuiltins x = some u) (r : RelV v u) (hn : x ≠ "__name__" := by decide) (hd : (x == ("__debug__" : Str)) = false := by decide) : PE X (.Name x pos) (tC v) :=
  fun _ _ _ H _ I h => ld_blt I hg hm hv ⟨v, H, I, r, h⟩ hn hd

/-! ### arithmetic -/
variable {a b : Expr} {ta tb : TE} {pos : Pos}
/-! ### comparisons -/
/-- a comparison as a value, as a test -/
def tB (t : TE) : TT := fun σ H Q => t σ H fun x H1 => ∃ c, x = .bl c ∧ Q c H1
/-- an expression whose value is a bool, as a test -/
theorem pt_val {e : Expr} {t : TE} (h : PE X e t) (he : ∀ whole, isTrue e X.env whole = (do let v ← whole; standAt e.pos; holding [v] (truthy v)) := by intro _; rfl) : PT X e (tB t) := by
  intro pins s σ H Q I hw
  refine isTrue_plain (thn (h pins s σ H _ I hw) fun v s1 ⟨x, H1, I1, r1, q1⟩ => ?_) (he _)
  obtain ⟨d, rfl, q⟩ := q1
  cases r1
  exact wpAny_truthy_bool ⟨H1, I1, q⟩

/-! ### and, or, not -/
variable {tA tB' : TT} {rest : List Expr}
def tAnd (t u : TT) : TT := fun σ H Q => t σ H fun c H1 => if c = true then u σ H1 Q else Q false H1
def tNot (t : TT) : TT := fun σ H Q => t σ H fun c H1 => Q (!c) H1
theorem pw_and1 (ha : PT X a tA) : PW X (.BoolOp .And [a] pos) tA := by
  intro wh pins s σ H Q I h
  refine isTrue_and (thn (ha pins s σ H Q I h) fun c s1 e => ?_)
  cases c with
  | true => exact isTrue_and_nil e
  | false => exact e
theorem pw_and (ha : PT X a tA) (hb : PW X (.BoolOp .And (b :: rest) pos) tB') : PW X (.BoolOp .And (a :: b :: rest) pos) (tAnd tA tB') := by
  intro wh pins s σ H Q I h
  refine isTrue_and (thn (ha pins s σ H _ I h) fun c s1 ⟨H1, I1, q1⟩ => ?_)
  cases c with
  | true => exact hb wh pins s1 σ H1 Q I1 q1
  | false => exact ⟨H1, I1, q1⟩
theorem pt_not (ha : PT X a tA) : PT X (.UnaryOp .Not a pos) (tNot tA) := by
  intro pins s σ H Q I h
  exact isTrue_not (ha pins s σ H (fun c H1 => Q (!c) H1) I h)
/-- .. as values (bools) -/
def tAndV (ta tb : TE) : TE := fun σ H Q => ta σ H fun x H1 => ∃ c, x = .bl c ∧ if c = true then tb σ H1 Q else Q (.bl false) H1
def tNotV (ta : TE) : TE := fun σ H Q => ta σ H fun x H1 => ∃ c, x = .bl c ∧ Q (.bl (!c)) H1
theorem pe_one {op} {t : TE} (h : PE X a t) : PE X (.BoolOp op [a] pos) t := fun pins s σ H Q I hw => BoolOp_one (h pins s σ H Q I hw)
theorem pe_and (ha : PE X a ta) (hb : PE X (.BoolOp .And (b :: rest) pos) tb) : PE X (.BoolOp .And (a :: b :: rest) pos) (tAndV ta tb) := by
  intro pins s σ H Q I h
  refine BoolOp_and (thn (ha pins s σ H _ I h) fun v s1 ⟨x, H1, I1, r1, q1⟩ => ?_)
  obtain ⟨c, rfl, q1⟩ := q1
  cases r1
  refine wpAny_truthy_bool ?_
  cases c with
  | true => exact hb pins s1 σ H1 Q I1 q1
  | false => exact ⟨.bl false, H1, I1, rfl, q1⟩
theorem pe_not (ha : PE X a ta) : PE X (.UnaryOp .Not a pos) (tNotV ta) := by
  intro pins s σ H Q I h
  refine UnaryOp_ (thn (ha pins s σ H _ I h) fun v s1 ⟨x, H1, I1, r1, q1⟩ => ?_)
  obtain ⟨c, rfl, q1⟩ := q1
  cases r1
  exact not_of (wpAny_truthy_bool ⟨.bl (!c), H1, I1, rfl, q1⟩)
end
end L2

namespace L2
open PySem PySem.Spec PyProof.Rows

/-! ### a list, a tuple that is read: tracked, frozen, or an object of the module -/
def SqL (K : PySem.W.Frag) (H : Hp) (a : Addr) (xs : List V) : Prop :=
  Rd H a (.lst xs) ∨
    ∃ (o : Obj) (its : Array Value) (n : Nat), K.lookup a = some o ∧ o.cls = .type "list" ∧ o.dict = none ∧ o.data = .seq its n ∧ its.size ≤ sizeLine ∧ Vals xs its.toList
def SqT (K : PySem.W.Frag) (H : Hp) (a : Addr) (xs : List V) : Prop :=
  Rd H a (.tup xs) ∨
    ∃ (o : Obj) (its : Array Value) (n : Nat), K.lookup a = some o ∧ o.cls = .type "tuple" ∧ o.data = .seq its n ∧ its.size ≤ sizeLine ∧ Vals xs its.toList
def absV : Value → Option V
  | .none => some .non
  | .bool b => some (.bl b)
  | .int i _ => some (.int i)
  | .str x _ => some (.str x)
  | .bytes b _ => some (.byt b)
  | .float b _ => some (.flt b)
  | .ref a => some (.ref a)
  | .type n => some (.ty n)
  | _ => none
theorem RelV.abs {x : V} {u : Value} (r : RelV x u) : absV u = some x := by
  cases x with
  | non => cases r; rfl
  | bl _ => cases r; rfl
  | int _ => obtain ⟨t, rfl⟩ := r; rfl
  | str _ => obtain ⟨t, rfl⟩ := r; rfl
  | byt _ => obtain ⟨t, rfl⟩ := r; rfl
  | flt _ => obtain ⟨t, rfl⟩ := r; rfl
  | ref _ => cases r; rfl
  | ty _ => cases r; rfl
theorem RelV.inj {x y : V} {u : Value} (r : RelV x u) (q : RelV y u) : x = y := Option.some.inj (r.abs.symm.trans q.abs)
theorem Vals.inj : ∀ {xs ys : List V} {us : List Value}, Vals xs us → Vals ys us → xs = ys
  | _, _, _, .nil, .nil => rfl
  | _, _, _, .cons r t, .cons r' t' => by rw [r.inj r', Vals.inj t t']
section
variable {X : Cx} {pins : List (Addr × Obj)} {σ : St} {H : Hp} {s : Shared} {a : Addr} {xs ys : List V}
theorem SqL.of {K : PySem.W.Frag} (h : H a = some (.lst xs)) : SqL K H a xs := .inl (.inl h)
theorem SqT.of {K : PySem.W.Frag} (h : H a = some (.tup xs)) : SqT K H a xs := .inl (.inl h)
theorem Inv.list (I : Inv X pins σ H s) (h : SqL X.K H a xs) : ∃ its : List Value, Vals xs its ∧ PlainL s.heap a its.toArray ∧ xs.length ≤ sizeLine := by
  rcases h with h | ⟨o, its, n, hk, hc, hd, hs, hz, r⟩
  · obtain ⟨z, its, n, r, e⟩ := h.ok I.hok
    exact ⟨its, r, ⟨_, n, e, rfl, rfl, rfl⟩, z⟩
  · refine ⟨its.toList, r, ⟨o, n, I.kIn a o hk, hc, hd, by simpa using hs⟩, ?_⟩
    have e := r.length
    simp only [Array.length_toList] at e
    omega
theorem Inv.tuple (I : Inv X pins σ H s) (h : SqT X.K H a xs) : ∃ its : List Value, Vals xs its ∧ IsTup s.heap a its.toArray ∧ xs.length ≤ sizeLine := by
  rcases h with h | ⟨o, its, n, hk, hc, hs, hz, r⟩
  · obtain ⟨z, its, r, p⟩ := h.ok I.hok
    exact ⟨its, r, p, z⟩
  · refine ⟨its.toList, r, ⟨o, I.kIn a o hk, hc, n, by simpa using hs⟩, ?_⟩
    have e := r.length
    simp only [Array.length_toList] at e
    omega
theorem Inv.list_inj (I : Inv X pins σ H s) (h : SqL X.K H a xs) (h' : SqL X.K H a ys) : xs = ys := by
  obtain ⟨its, r, ⟨o, n, e, _, _, d⟩, _⟩ := I.list h
  obtain ⟨its', r', ⟨o', n', e', _, _, d'⟩, _⟩ := I.list h'
  rw [e] at e'; cases e'
  rw [d] at d'
  injection d' with d1 _
  have : its = its' := by simpa using congrArg Array.toList d1
  subst this
  exact r.inj r'
theorem Inv.tuple_inj (I : Inv X pins σ H s) (h : SqT X.K H a xs) (h' : SqT X.K H a ys) : xs = ys := by
  obtain ⟨its, r, ⟨o, e, _, n, d⟩, _⟩ := I.tuple h
  obtain ⟨its', r', ⟨o', e', _, n', d'⟩, _⟩ := I.tuple h'
  rw [e] at e'; cases e'
  rw [d] at d'
  injection d' with d1 _
  have : its = its' := by simpa using congrArg Array.toList d1
  subst this
  exact r.inj r'
end

/-! ### another wish about exceptions -/
abbrev Cx.wish (X : Cx) (E : Value → Shared → Prop) : Cx := { X with xe := E }
/-- no exception leaves -/
abbrev Cx.nox (X : Cx) : Cx := X.wish fun _ _ => False
theorem Cx.Ok.wish {X : Cx} (ok : X.Ok) (E : Value → Shared → Prop) : (X.wish E).Ok :=
  ⟨ok.mod, ok.kind, ok.glob, ok.blt, ok.above, ok.inj, ok.has, ok.cab, ok.hd, ok.frames, ok.stk, ok.exf, ok.bs, ok.bsz, ok.noex, ok.exfs, ok.funs, ok.frf⟩
theorem Cx.Ok.unwish {X : Cx} {E : Value → Shared → Prop} (ok : (X.wish E).Ok) : X.Ok :=
  ⟨ok.mod, ok.kind, ok.glob, ok.blt, ok.above, ok.inj, ok.has, ok.cab, ok.hd, ok.frames, ok.stk, ok.exf, ok.bs, ok.bsz, ok.noex, ok.exfs, ok.funs, ok.frf⟩
section
variable {X : Cx} {pins : List (Addr × Obj)} {σ : St} {H : Hp} {s : Shared} {E : Value → Shared → Prop}
theorem Inv.wish (I : Inv X pins σ H s) (E : Value → Shared → Prop) : Inv (X.wish E) pins σ H s := ⟨I.ok.wish E, I.os, I.bare, I.base, I.loc, I.cell, I.free, I.freeC, I.pin, I.hok, I.len⟩
theorem Inv.unwish (I : Inv (X.wish E) pins σ H s) : Inv X pins σ H s := ⟨I.ok.unwish, I.os, I.bare, I.base, I.loc, I.cell, I.free, I.freeC, I.pin, I.hok, I.len⟩
theorem SP.unwish {D : Ends} {f : Flow} {s' : Shared} (h : SP (X.wish E) pins D f s') : SP X pins D f s' := by
  cases f with
  | next => obtain ⟨σ', H', I, q⟩ := h; exact ⟨σ', H', I.unwish, q⟩
  | brk => obtain ⟨σ', H', I, q⟩ := h; exact ⟨σ', H', I.unwish, q⟩
  | cont => obtain ⟨σ', H', I, q⟩ := h; exact ⟨σ', H', I.unwish, q⟩
  | ret u => obtain ⟨v, σ', H', I, r, q⟩ := h; exact ⟨v, σ', H', I.unwish, r, q⟩
theorem PE.nox {e : Expr} {t : TE} (h : PE X.nox e t) : PE X e t := fun pins s σ H Q I hw =>
  wpAny_mono (h pins s σ H Q (I.wish _) hw) (fun _ _ ⟨v, H', I', r, q⟩ => ⟨v, H', I'.unwish, r, q⟩) fun _ _ z => False.elim z
theorem PT.nox {e : Expr} {t : TT} (h : PT X.nox e t) : PT X e t := fun pins s σ H Q I hw =>
  wpAny_mono (h pins s σ H Q (I.wish _) hw) (fun _ _ ⟨H', I', q⟩ => ⟨H', I'.unwish, q⟩) fun _ _ z => False.elim z
theorem PSs.nox {st : List Stmt} {t : TS} (h : PSs X.nox st t) : PSs X st t := fun pins s σ H D I hw =>
  wpAny_mono (h pins s σ H D (I.wish _) hw) (fun _ _ q => q.unwish) fun _ _ z => False.elim z
end

/-! ### blocks and small statements -/
section
variable {X : Cx} {st : Stmt} {rest : List Stmt} {t u : TS} {e : Expr} {te : TE} {pos : Pos}
def tNext : TS := fun D σ H => D.nx σ H
def tSeq (t u : TS) : TS := fun D σ H => t { D with nx := u D } σ H
theorem pss_nil : PSs X [] tNext := fun _ _ σ H _ I h => wpAny_execs_nil ⟨σ, H, I, h⟩
theorem pss_cons (h1 : PS X st t) (h2 : PSs X rest u) : PSs X (st :: rest) (tSeq t u) := by
  intro pins s σ H D I h
  refine wpAny_execs_cons (thn (h1 pins s σ H { D with nx := u D } I h) fun f s1 q => ?_)
  cases f with
  | next =>
    obtain ⟨σ', H', I', q⟩ := q
    exact h2 pins s1 σ' H' D I' q
  | ret v => exact q
  | brk => exact q
  | cont => exact q
theorem pss_one (h1 : PS X st t) : PSs X [st] t := by
  intro pins s σ H D I h
  refine wpAny_execs_cons (thn (h1 pins s σ H D I h) fun f s1 q => ?_)
  cases f with
  | next => exact wpAny_execs_nil q
  | ret v => exact q
  | brk => exact q
  | cont => exact q
/-- in a def's body nothing is shown -/
theorem Inv.quiet {pins : List (Addr × Obj)} {σ : St} {H : Hp} {s : Shared} (I : Inv X pins σ H s) : interactive X.env = false := by simp [interactive, I.ok.kind]
/-- an expression whose value is dropped -/
def tDrop (te : TE) : TS := fun D σ H => te σ H fun _ H1 => D.nx σ H1
theorem ps_expr (he : PE X e te) (hs : swapsWith e none pos.line X.env = pure false := by rfl) : PS X (.Expr e pos) (tDrop te) := by
  intro pins s σ H D I h
  exact wpAny_Expr_any (thn (he pins s σ H _ I h) fun v s1 ⟨x, H1, I1, r1, q1⟩ => ⟨σ, H1, I1, q1⟩) I.quiet hs
def tRet (te : TE) : TS := fun D σ H => te σ H D.rt
theorem ps_ret (he : PE X e te) : PS X (.Return (some e) pos) (tRet te) := by
  intro pins s σ H D I h
  exact wpAny_Return_some (thn (he pins s σ H _ I h) fun v s1 ⟨x, H1, I1, r1, q1⟩ => ⟨x, σ, H1, I1, r1, q1⟩)
def tIfS (c : TT) (t u : TS) : TS := fun D σ H => c σ H fun b H1 => if b = true then t D σ H1 else u D σ H1
theorem ps_if {c : Expr} {a b : List Stmt} {tc : TT} (hc : PT X c tc) (ha : PSs X a t) (hb : PSs X b u) : PS X (.If c a b pos) (tIfS tc t u) := by
  intro pins s σ H D I h
  refine wpAny_If (thn (hc pins s σ H _ I h) fun d s1 ⟨H1, I1, q1⟩ => ?_)
  cases d with
  | true => exact ha pins s1 σ H1 D I1 q1
  | false => exact hb pins s1 σ H1 D I1 q1
end

/-! ### targets -/
abbrev TG := V → St → Hp → (St → Hp → Prop) → Prop
abbrev TGs := List V → St → Hp → (St → Hp → Prop) → Prop
def PG (X : Cx) (target : Expr) (t : TG) : Prop :=
  ∀ (pins : List (Addr × Obj)) (s : Shared) (σ : St) (H : Hp) (v : V) (u : Value) (Q : St → Hp → Prop), Inv X pins σ H s → RelV v u → t v σ H Q →
    wpAny (model X.prog X.w) X.A (assign target X.env u) (fun _ s' => ∃ σ' H', Inv X pins σ' H' s' ∧ Q σ' H') X.xe s
/-- several targets, one after another -/
def PGs (X : Cx) (ts : List Expr) (t : TGs) : Prop :=
  ∀ (pins : List (Addr × Obj)) (s : Shared) (σ : St) (H : Hp) (vs : List V) (us : List Value) (Q : St → Hp → Prop), Inv X pins σ H s → Vals vs us → t vs σ H Q →
    wpAny (model X.prog X.w) X.A (assignInOrder ((assignEach ts X.env).map (·.2)) us) (fun _ s' => ∃ σ' H', Inv X pins σ' H' s' ∧ Q σ' H') X.xe s
/-- a op= b, by values -/
abbrev TIp := V → V → Hp → VK → Prop
def PIp (X : Cx) (op : Operator) (t : TIp) : Prop :=
  ∀ (pins : List (Addr × Obj)) (s : Shared) (σ : St) (H : Hp) (x y : V) (v u : Value) (Q : VK), Inv X pins σ H s → RelV x v → RelV y u → t x y H Q →
    wpAny (model X.prog X.w) X.A (inplaceOp op v u) (EP X pins σ Q) X.xe s
section
variable {X : Cx} {pos : Pos}
def gName (i : Nat) : TG := fun v σ H Q => Q (σ.set i (some v)) H
theorem pg_name {i : Nat} {x : Str} (hN : X.N.Nodup) (hi : X.N[i]? = some x) (hx : Loc X.env.scope x) (hf : X.fn x = true ∨ X.env.scope.names.lookup x = some .local := by first | exact .inl rfl | exact .inr rfl | assumption) : PG X (.Name x pos) (gName i) := by
  intro pins s σ H v u Q I r h
  exact wpAny_assign_Name (store_ok I hN hi hx r (fun s' I' => ⟨_, H, I', h⟩) hf)
def gNil : TGs := fun vs σ H Q => vs = [] ∧ Q σ H
def gCons (t : TG) (u : TGs) : TGs := fun vs σ H Q => ∃ v r, vs = v :: r ∧ t v σ H fun σ' H' => u r σ' H' Q
theorem pgs_nil : PGs X [] gNil := by
  intro pins s σ H vs us Q I r h
  obtain ⟨e, h⟩ := h
  subst e
  cases r
  exact assignInOrder_nil ⟨σ, H, I, h⟩
theorem pgs_cons {e : Expr} {es : List Expr} {t : TG} {u : TGs} (h1 : PG X e t) (h2 : PGs X es u)
    (hs : (assignEach (e :: es) X.env).map (·.2) = assign e X.env :: (assignEach es X.env).map (·.2) := by rfl) : PGs X (e :: es) (gCons t u) := by
  intro pins s σ H vs us Q I r h
  obtain ⟨v, vr, e1, h⟩ := h
  subst e1
  cases r with
  | cons r rr =>
    rw [hs]
    refine assignInOrder_cons (thn (h1 pins s σ H _ _ _ I r h) fun _ s1 ⟨σ1, H1, I1, q1⟩ => ?_)
    exact h2 pins s1 σ1 H1 _ _ Q I1 rr q1
/-- (a, b, ..) = a tuple of that length -/
def gTup (K : PySem.W.Frag) (n : Nat) (t : TGs) : TG := fun v σ H Q => ∃ a xs, v = .ref a ∧ SqT K H a xs ∧ xs.length = n ∧ t xs σ H Q
theorem pg_tup {es : List Expr} {k : Nat} {t : TGs} {n : Nat} (hc : X.calm = true) (h : PGs X es t)
    (hn : (assignEach es X.env).length = n := by rfl) (hst : (assignEach es X.env).findIdx? (·.1) = none := by rfl) : PG X (.Tuple es k pos) (gTup X.K n t) := by
  intro pins s σ H v u Q I r hw
  obtain ⟨a, xs, e1, hq, hl, hw⟩ := hw
  subst e1
  cases r
  obtain ⟨its, rv, ht, hz⟩ := I.tuple hq
  refine assign_Tuple_tuple (I.ok.hd hc) ht (by simp [hn, ← hl, rv.length]) hst fun h' hx => ?_
  have I1 : Inv X pins σ H { s with heap := h' } := I.kept (t' := s.toks) fun b o e => hx b o (Nat.ne_of_lt (Heap.lt_size e)) e
  exact h pins _ σ H xs _ Q I1 (by simpa using rv) hw
/-- target = value -/
def tAsg (te : TE) (g : TG) : TS := fun D σ H => te σ H fun x H1 => g x σ H1 D.nx
theorem ps_asg {tg e : Expr} {te : TE} {g : TG} (he : PE X e te) (hg : PG X tg g) (hs : swapsWithSole [tg] e pos.line X.env = pure false := by rfl) (hw : swappedStores [tg] e X.env = pure none := by rfl)
    (h1 : (assignEach [tg] X.env).map (·.2) = [assign tg X.env] := by rfl) : PS X (.Assign [tg] e pos) (tAsg te g) := by
  intro pins s σ H D I h
  refine wpAny_Assign_stores (thn (he pins s σ H _ I h) fun v s1 ⟨x, H1, I1, r1, q1⟩ => ?_) hs hw
  rw [h1]
  exact thn (hg pins s1 σ H1 x v _ I1 r1 q1) fun _ s2 q => q
/-- name = value -/
theorem ps_set {i : Nat} {x : Str} {e : Expr} {te : TE} {pos' : Pos} (hN : X.N.Nodup) (hi : X.N[i]? = some x) (hx : Loc X.env.scope x) (he : PE X e te) (hs : swapsWith e (some (.Name x pos')) pos.line X.env = pure false := by rfl) (hf : X.fn x = true ∨ X.env.scope.names.lookup x = some .local := by first | exact .inl rfl | exact .inr rfl | assumption) :
    PS X (.Assign [.Name x pos'] e pos) (tAsg te (gName i)) := by
  intro pins s σ H D I h
  refine wpAny_Assign_Name (thn (he pins s σ H _ I h) fun v s1 ⟨y, H1, I1, r1, q1⟩ => ?_) hs
  exact store_ok I1 hN hi hx r1 (fun s2 I2 => ⟨_, H1, I2, q1⟩) hf
/-- name op= e -/
def tAug (i : Nat) (te : TE) (ti : TIp) : TS := fun D σ H => ∃ x, σ[i]? = some (some x) ∧ te σ H fun y H1 => ti x y H1 fun z H2 => D.nx (σ.set i (some z)) H2
theorem ps_aug {i : Nat} {x : Str} {e : Expr} {te : TE} {op : Operator} {ti : TIp} {pos' : Pos} (hN : X.N.Nodup) (hi : X.N[i]? = some x) (hx : Loc X.env.scope x) (he : PE X e te) (ho : PIp X op ti) (hf : X.fn x = true ∨ X.env.scope.names.lookup x = some .local := by first | exact .inl rfl | exact .inr rfl | assumption) :
    PS X (.AugAssign (.Name x pos') op e pos) (tAug i te ti) := by
  intro pins s σ H D I h
  obtain ⟨v, e1, h⟩ := h
  obtain ⟨m, hn, hl⟩ := I.loc
  have vis : Vis X.env.scope x := by rcases hx with k | k; exact .inl k; exact .inr (.inl k)
  obtain ⟨u, r, l⟩ := hl i x v hi e1 vis
  refine wpAny_AugAssign_Name ?_
  have go : wpAny (model X.prog X.w) X.A (eval e X.env) (fun w s₂ => wpAny (model X.prog X.w) X.A (inplaceOp op u w) (fun r s₃ => wpAny (model X.prog X.w) X.A (storeName X.env x r) (fun _ => SP X pins D .next) X.xe s₃) X.xe s₂) X.xe s := by
    refine thn (he pins s σ H _ I h) fun w s1 ⟨y, H1, I1, r1, q1⟩ => ?_
    refine thn (ho pins s1 σ H1 v y u w _ I1 r r1 q1) fun z s2 ⟨zv, H2, I2, r2, q2⟩ => ?_
    exact store_ok I2 hN hi hx r2 (fun s3 I3 => ⟨_, H2, I3, q2⟩) hf
  rcases l with ⟨hk, hm⟩ | ⟨hk, c, hc, hcell⟩
  · exact wpAny_loadName_local I.ok.kind hk hn hm go
  · rcases hk with hk | hk
    · exact wpAny_loadName_cell I.ok.kind hk hc hcell go
    · rcases hx with k | k
      · have : X.env.scope.names.lookup x = some .free := hk
        rw [k] at this; cases this
      · have : X.env.scope.names.lookup x = some .free := hk
        rw [k] at this; cases this
/-- ints -/
def ipI (f : Int → Int → Int) : TIp := fun x y H Q => ∃ i j, x = .int i ∧ y = .int j ∧ Q (.int (f i j)) H
theorem ip_add : PIp X .Add (ipI fun i j => i + j) := by
  intro pins s σ H x y v u Q I r1 r2 h
  obtain ⟨i, j, e1, e2, q⟩ := h
  subst e1; subst e2
  obtain ⟨t, rfl⟩ := r1
  obtain ⟨t', rfl⟩ := r2
  exact iadd_int ⟨.int _, H, I.tok _, ⟨_, rfl⟩, q⟩
end

/-! ### while -/
section
variable {X : Cx} {pos : Pos}
/-- the invariant W with its measure -/
def tWhile (c : TT) (tb : TS) : TS := fun D σ H => ∃ W : Nat → St → Hp → Prop, (∃ m, W m σ H) ∧ ∀ m σ H, W m σ H →
  c σ H fun b H1 => if b = true then ∃ N : St → Hp → Prop, (∀ σ' H', N σ' H' → ∃ m', m' < m ∧ W m' σ' H') ∧ tb { D with nx := N, ct := N, bk := D.nx } σ H1 else D.nx σ H1
theorem ps_while {c : Expr} {body : List Stmt} {tc : TT} {tb : TS} (hp : PassesOwn (model X.prog X.w) X.A X.env X.xe) (hc : PT X c tc) (hb : PSs X body tb) : PS X (.While c body [] pos) (tWhile tc tb) := by
  intro pins s σ H D I h
  obtain ⟨W, ⟨m0, w0⟩, turn⟩ := h
  refine wpAny_While (codeAny_whileLoop (fun n s' => ∃ σ' H', Inv X pins σ' H' s' ∧ W n σ' H') ?_ m0 ⟨σ, H, I, w0⟩)
  rintro n s1 ⟨σ1, H1, I1, w1⟩
  refine wpAny_passesOwn hp (thn (hc pins s1 σ1 H1 _ I1 (turn n σ1 H1 w1)) fun b s2 ⟨H2, I2, q2⟩ => ?_)
  cases b with
  | true =>
    obtain ⟨N, hN, q2⟩ := q2
    rw [if_pos rfl]
    refine wpAny_passesOwn hp (thn (hb pins s2 σ1 H2 _ I2 q2) fun f s3 q3 => ?_)
    cases f with
    | next =>
      obtain ⟨σ3, H3, I3, n3⟩ := q3
      obtain ⟨m', hm, w3⟩ := hN σ3 H3 n3
      exact ⟨m', hm, σ3, H3, I3, w3⟩
    | cont =>
      obtain ⟨σ3, H3, I3, n3⟩ := q3
      obtain ⟨m', hm, w3⟩ := hN σ3 H3 n3
      exact ⟨m', hm, σ3, H3, I3, w3⟩
    | brk => exact q3
    | ret v => exact q3
  | false =>
    rw [if_neg Bool.false_ne_true]
    exact wpAny_execs_nil ⟨σ1, H2, I2, q2⟩
end

/-! ### what a loop or a comprehension walks -/
/-- at turn i: it yields x (the heap may grow), or it stops -/
structure It where
  go : Nat → Hp → Prop
  yld : Nat → Hp → V → Hp → Prop
  stop : Nat → Hp → Prop
/-- the iterator's own objects may turn: they are not the frame's, not pinned, younger than the entry (or a comprehension's own) -/
def FpOk (X : Cx) (pins : List (Addr × Obj)) (H : Hp) (b : Addr) : Prop :=
  H b = none ∧ b ≠ X.env.locals ∧ b ∉ X.fs ∧ (b ∈ X.ex ∨ X.s₀.heap.objs.size ≤ b) ∧ (∀ x c, X.env.cells.lookup x = some c → c ≠ b) ∧ ∀ p ∈ X.pn ++ pins, p.1 ≠ b
theorem Inv.fpOk {X : Cx} {pins : List (Addr × Obj)} {σ : St} {H H' : Hp} {s : Shared} {b : Addr} (I : Inv X pins σ H s) (hb : s.heap.objs.size ≤ b) (hn : H' b = none) : FpOk X pins H' b := by
  refine ⟨hn, Nat.ne_of_gt (Nat.lt_of_lt_of_le I.lt hb), I.nofs hb, .inr (Nat.le_trans I.sz hb), fun x c e z => ?_, fun p hp z => ?_⟩
  · obtain ⟨v, q⟩ := I.cell x c e
    exact absurd (Nat.lt_of_lt_of_le q.lt (by rw [z]; exact hb)) (Nat.lt_irrefl _)
  · exact absurd (Nat.lt_of_lt_of_le (Heap.lt_size (I.pin p hp).1) (by rw [z]; exact hb)) (Nat.lt_irrefl _)
structure Turn (P : Program) (w : World) (K : PySem.W.Frag) (tg : Expr) (J : It) (fp : List Addr) (it : Addr) (tn : Nat → Heap → Prop) : Prop where
  mem : it ∈ fp
  obj : ∀ i h, tn i h → ∀ b ∈ fp, ∃ o, h.get? b = some o ∧ ∀ v, o.data ≠ .cell v
  keep : ∀ i h h', tn i h → (∀ b ∈ fp, ∀ o, h.get? b = some o → h'.get? b = some o) → tn i h'
  item : ∀ (X : Cx), X.prog = P → X.w = w → X.K = K → X.calm = true → ∀ (i : Nat) (pins : List (Addr × Obj)) (s : Shared) (σ : St) (H : Hp) (E : Value → Shared → Prop), Inv X pins σ H s → (∀ b ∈ fp, FpOk X pins H b) → tn i s.heap → J.go i H →
    wpAny (model P w) X.A (pyNext (.ref it)) (fun r s1 => ∃ u, r = some u ∧
      wpAny (model P w) X.A (letOwnedTupleGo tg (.ref it) u) (fun _ s2 => ∃ x H', Inv X pins σ H' s2 ∧ RelV x u ∧ J.yld i H x H' ∧ tn (i + 1) s2.heap ∧ ∀ b ∈ fp, H' b = none) E s1) E s
  done : ∀ (X : Cx), X.prog = P → X.w = w → X.K = K → X.calm = true → ∀ (i : Nat) (pins : List (Addr × Obj)) (s : Shared) (σ : St) (H : Hp) (E : Value → Shared → Prop), Inv X pins σ H s → (∀ b ∈ fp, FpOk X pins H b) → tn i s.heap → J.stop i H →
    wpAny (model P w) X.A (pyNext (.ref it)) (fun r s1 => r = none ∧ Inv X pins σ H s1) E s
  self : ∀ (A : Around) (i : Nat) (s : Shared) (Q : Value → Shared → Prop) (E : Value → Shared → Prop), tn i s.heap → Q (.ref it) s → wpAny (model P w) A (pyIter (.ref it)) Q E s
abbrev TI := St → Hp → (It → Hp → Prop) → Prop
/-- an iterator has come -/
def PIE (X : Cx) (pins : List (Addr × Obj)) (σ : St) (tg : Expr) (R : It → Hp → Prop) (itv : Value) (s2 : Shared) : Prop :=
  ∃ (it : Addr) (fp : List Addr) (tn : Nat → Heap → Prop) (J : It) (H' : Hp), itv = .ref it ∧ Inv X pins σ H' s2 ∧ Turn X.prog X.w X.K tg J fp it tn ∧ tn 0 s2.heap ∧ (∀ b ∈ fp, FpOk X pins H' b) ∧ R J H'
def PI (X : Cx) (tg iter : Expr) (wi : TI) : Prop :=
  ∀ (pins : List (Addr × Obj)) (s : Shared) (σ : St) (H : Hp) (R : It → Hp → Prop), Inv X pins σ H s → wi σ H R →
    wpAny (model X.prog X.w) X.A (eval iter X.env) (fun v s1 => wpAny (model X.prog X.w) X.A (pyIter v) (PIE X pins σ tg R) X.xe s1) X.xe s

/-- the step ahead of the store is nothing for an iterator that keeps no tuple -/
theorem go_of {M : Model} {A : Around} {E : Value → Shared → Prop} {s : Shared} {tg : Expr} {it : Addr} {u : Value} {o : Obj} {n : String} {vs : Array Value} {Q : Unit → Shared → Prop} (ho : s.heap.get? it = some o) (hc : o.cls = .type n) (hd : o.data = .fields vs)
    (hn : ["enumerate", "zip", "dict_itemiterator", "dict_reverseitemiterator", "odict_iterator", "itertools.zip_longest", "itertools.pairwise"].contains n = false) (hQ : Q () s) : wpAny M A (letOwnedTupleGo tg (.ref it) u) Q E s := by
  unfold letOwnedTupleGo
  cases tg <;> first
    | exact wpAny_pure hQ
    | (cases u <;> first
        | exact wpAny_pure hQ
        | (refine wpAny_bind (wpAny_load ho ?_)
           rw [hc, hd]
           show wpAny M A (if (["enumerate", "zip", "dict_itemiterator", "dict_reverseitemiterator", "odict_iterator", "itertools.zip_longest", "itertools.pairwise"].contains n && vs[0]? == some (rawInt _)) = true then _ else _) Q E s
           rw [if_neg (by intro h; rw [hn, Bool.false_and] at h; cases h)]
           exact wpAny_pure hQ))

/-- the list at a, as it stands at each turn (a loop may append to it) -/
def Itl (K : PySem.W.Frag) (a : Addr) : It :=
  ⟨fun i H => ∃ xs x, SqL K H a xs ∧ xs[i]? = some x, fun i H x H' => H' = H ∧ ∀ xs, SqL K H a xs → xs[i]? = some x, fun i H => ∃ xs, SqL K H a xs ∧ xs.length ≤ i⟩
def Itt (K : PySem.W.Frag) (a : Addr) : It :=
  ⟨fun i H => ∃ xs x, SqT K H a xs ∧ xs[i]? = some x, fun i H x H' => H' = H ∧ ∀ xs, SqT K H a xs → xs[i]? = some x, fun i H => ∃ xs, SqT K H a xs ∧ xs.length ≤ i⟩
/-- lo, lo + 1, .. (n of them) -/
def Itr (lo : Int) (n : Nat) : It := ⟨fun i _ => i < n, fun i H x H' => H' = H ∧ x = .int (lo + i), fun i _ => n ≤ i⟩
theorem turn_list {P : Program} {w : World} {K : PySem.W.Frag} {tg : Expr} (a it : Addr) : Turn P w K tg (Itl K a) [it] it (fun i h => h.IsListIter it a i) where
  mem := by simp
  obj := fun i h st b hb => by
    have e : b = it := by simpa using hb
    subst e
    obtain ⟨o, e, c, d⟩ := st
    exact ⟨o, e, fun v z => by rw [d] at z; cases z⟩
  keep := fun i h h' st k => st.at fun o e => k it (by simp) o e
  item := by
    intro X hP hw hK hc i pins s σ H E I hf st hg
    subst hP hw hK
    obtain ⟨xs, x, hq, hx⟩ := hg
    obtain ⟨its, rv, p, hz⟩ := I.list hq
    obtain ⟨u, hu, ru⟩ := rv.get hx
    obtain ⟨f0, f1, f2, f3, f4, f5⟩ := hf it (by simp)
    refine wpAny_pyNext_list_item st p.isList (x := u) (by simpa using hu) fun h' st' sb => ?_
    have I1 : Inv X pins σ H { s with heap := h' } := I.turned (t' := s.toks) (fun b o hb e => (sb.2 b hb).trans e) f0 f1 f3 f4 f5
    obtain ⟨o, e, c, d⟩ := id st'
    exact ⟨u, rfl, go_of (s := { s with heap := h' }) e c d (by decide) ⟨x, H, I1, ru, ⟨rfl, fun ys hy => by rw [I.list_inj hy hq]; exact hx⟩, st', fun b hb => (hf b hb).1⟩⟩
  done := by
    intro X hP hw hK hc i pins s σ H E I hf st hg
    subst hP hw hK
    obtain ⟨xs, hq, hx⟩ := hg
    obtain ⟨its, rv, p, hz⟩ := I.list hq
    obtain ⟨f0, f1, f2, f3, f4, f5⟩ := hf it (by simp)
    have hl := rv.length
    exact wpAny_pyNext_list_end (I.ok.hd hc) st p.isList (by simp; omega) fun h' eb => ⟨rfl, I.turned (t' := s.toks) (fun b o hb e => eb b o hb e) f0 f1 f3 f4 f5⟩
  self := fun _ _ _ _ _ st h => wpAny_pyIter_listiter st h
theorem turn_tuple {P : Program} {w : World} {K : PySem.W.Frag} {tg : Expr} (a it : Addr) : Turn P w K tg (Itt K a) [it] it (fun i h => h.IsTupleIter it a i) where
  mem := by simp
  obj := fun i h st b hb => by
    have e : b = it := by simpa using hb
    subst e
    obtain ⟨o, e, c, d⟩ := st
    exact ⟨o, e, fun v z => by rw [d] at z; cases z⟩
  keep := fun i h h' st k => st.at fun o e => k it (by simp) o e
  item := by
    intro X hP hw hK hc i pins s σ H E I hf st hg
    subst hP hw hK
    obtain ⟨xs, x, hq, hx⟩ := hg
    obtain ⟨its, rv, p, hz⟩ := I.tuple hq
    obtain ⟨u, hu, ru⟩ := rv.get hx
    obtain ⟨f0, f1, f2, f3, f4, f5⟩ := hf it (by simp)
    refine wpAny_pyNext_tuple_item st (show s.heap.IsTuple a its.toArray from p) (x := u) (by simpa using hu) fun h' st' sb => ?_
    have I1 : Inv X pins σ H { s with heap := h' } := I.turned (t' := s.toks) (fun b o hb e => (sb.2 b hb).trans e) f0 f1 f3 f4 f5
    obtain ⟨o, e, c, d⟩ := id st'
    exact ⟨u, rfl, go_of (s := { s with heap := h' }) e c d (by decide) ⟨x, H, I1, ru, ⟨rfl, fun ys hy => by rw [I.tuple_inj hy hq]; exact hx⟩, st', fun b hb => (hf b hb).1⟩⟩
  done := by
    intro X hP hw hK hc i pins s σ H E I hf st hg
    subst hP hw hK
    obtain ⟨xs, hq, hx⟩ := hg
    obtain ⟨its, rv, p, hz⟩ := I.tuple hq
    obtain ⟨f0, f1, f2, f3, f4, f5⟩ := hf it (by simp)
    have hl := rv.length
    exact wpAny_pyNext_tuple_end (I.ok.hd hc) st (show s.heap.IsTuple a its.toArray from p) (by simp; omega) fun h' eb => ⟨rfl, I.turned (t' := s.toks) (fun b o hb e => eb b o hb e) f0 f1 f3 f4 f5⟩
  self := fun _ _ _ _ _ st h => wpAny_pyIter_tupleiter st h
theorem turn_range {P : Program} {w : World} {K : PySem.W.Frag} {tg : Expr} (it : Addr) (lo : Int) (n : Nat) : Turn P w K tg (Itr lo n) [it] it (fun i h => IsRangeIter h it (lo + (i : Nat) * 1) ((n : Int) - (i : Nat)) 1) where
  mem := by simp
  obj := fun i h st b hb => by
    have e : b = it := by simpa using hb
    subst e
    exact ⟨_, st, fun v z => by
      have z' : Data.fields _ = Data.cell v := z
      cases z'⟩
  keep := fun i h h' st k => k it (by simp) _ st
  item := by
    intro X hP hw hK hc i pins s σ H E I hf st hg
    subst hP hw hK
    obtain ⟨f0, f1, f2, f3, f4, f5⟩ := hf it (by simp)
    have W := Walks.range (prog := X.prog) (w := X.w) (I.ok.hd hc) it lo 1 n
    refine W.item i s _ _ hg st fun v h' tk hv st' kk => ?_
    obtain ⟨t, rfl⟩ := hv
    have I1 : Inv X pins σ H { s with heap := h', toks := tk } := I.turned (fun b o hb e => kk b o (by simpa using hb) e) f0 f1 f3 f4 f5
    refine ⟨_, rfl, go_of (s := { s with heap := h', toks := tk }) (n := "range_iterator") st' rfl rfl (by decide) ⟨.int (lo + i), H, I1, ⟨t, ?_⟩, ⟨rfl, rfl⟩, st', fun b hb => (hf b hb).1⟩⟩
    rw [Int.mul_one]
  done := by
    intro X hP hw hK hc i pins s σ H E I hf st hg
    subst hP hw hK
    obtain ⟨f0, f1, f2, f3, f4, f5⟩ := hf it (by simp)
    exact wpAny_pyNext_range_end (I.ok.hd hc) st (by have : n ≤ i := hg; omega) fun h' eb => ⟨rfl, I.turned (t' := s.toks) (fun b o hb e => eb b o hb e) f0 f1 f3 f4 f5⟩
  self := fun _ _ _ _ _ st h => wpAny_pyIter_rangeiter st h
end L2

namespace L2
open PySem PySem.Spec PyProof.Rows
section
variable {X : Cx} {tg : Expr}
/-- a range object just made, walked -/
theorem range_it {pins : List (Addr × Obj)} {σ : St} {H : Hp} {s : Shared} {R : It → Hp → Prop} {E : Value → Shared → Prop} {lo hi : Int} {t u v : Tok} {tk : Nat} (I : Inv X pins σ H s) (h1 : -(2 ^ 62) ≤ lo) (h2 : lo < 2 ^ 62) (h3 : -(2 ^ 62) ≤ hi) (h4 : hi < 2 ^ 62)
    (q : R (Itr lo (hi - lo).toNat) H) : wpAny (model X.prog X.w) X.A (pyIter (.ref s.heap.objs.size)) (PIE X pins σ tg R) E { s with heap := s.heap.push { cls := .type "range", data := .fields #[.int lo t, .int hi u, .int 1 v] }, toks := tk } := by
  refine wpAny_pyIter_range (IsRange.new ..) (small_one h1 h2 h3 h4) ?_
  have I1 : Inv X pins σ H { s with heap := s.heap.push { cls := .type "range", data := .fields #[.int lo t, .int hi u, .int 1 v] }, toks := tk } := I.kept fun b o e => Heap.get?_push_of_some _ e
  refine ⟨(s.heap.push { cls := .type "range", data := .fields #[.int lo t, .int hi u, .int 1 v] }).objs.size, [(s.heap.push { cls := .type "range", data := .fields #[.int lo t, .int hi u, .int 1 v] }).objs.size], _, _, H, rfl,
    I1.kept (t' := tk) fun b o e => Heap.get?_push_of_some _ e, turn_range _ lo (hi - lo).toNat, ?_, fun b hb => ?_, q⟩
  · have e1 : lo + ((0 : Nat) : Int) * 1 = lo := by simp
    have e2 : (((hi - lo).toNat : Nat) : Int) - ((0 : Nat) : Int) = Builtin.Range.rangeSize lo hi 1 := by rw [rangeSize_one]; split <;> omega
    show IsRangeIter _ _ (lo + ((0 : Nat) : Int) * 1) ((((hi - lo).toNat : Nat) : Int) - ((0 : Nat) : Int)) 1
    rw [e1, e2]
    exact Heap.get?_push_size _ rfl
  · have e : b = (s.heap.push { cls := .type "range", data := .fields #[.int lo t, .int hi u, .int 1 v] }).objs.size := by simpa using hb
    subst e
    exact I1.fpOk (Nat.le_refl _) (I1.hok.fresh (Nat.le_refl _))
def iRng1 (ta : TA) : TI := fun σ H R => ta σ H fun vs H1 => ∃ j : Int, vs = [.int j] ∧ -(2 ^ 62) ≤ j ∧ j < 2 ^ 62 ∧ R (Itr 0 j.toNat) H1
def iRng2 (ta : TA) : TI := fun σ H R => ta σ H fun vs H1 => ∃ i j : Int, vs = [.int i, .int j] ∧ (-(2 ^ 62) ≤ i ∧ i < 2 ^ 62 ∧ -(2 ^ 62) ≤ j ∧ j < 2 ^ 62) ∧ R (Itr i (j - i).toNat) H1
theorem pi_range1 {a : Expr} {ta : TA} {p pos : Pos} (hg : Gl X "range") (hm : X.mg "range" = none) (ha : PA X [a] ta) (hs : starEach [a] X.env = [(false, eval a X.env)] := by rfl) : PI X tg (.Call (.Name "range" p) [a] [] pos) (iRng1 ta) := by
  intro pins s σ H R I h
  refine Call_ (ld_blt I hg hm boot_range (PyProof.Rows.callWith_type1 (thn (ha pos pins s σ H _ I h) fun us s1 ⟨vs, H1, I1, r1, q1⟩ => ?_) hs rfl))
  obtain ⟨j, e, q1, q2, q⟩ := q1
  subst e
  cases r1 with
  | cons r rr =>
    cases rr
    obtain ⟨t, rfl⟩ := r
    exact call_range_1 (range_it I1 (by omega) (by omega) q1 q2 (by simpa using q))
/-! ### for -/
/-- W: the invariant by the turn and a measure; N: what the body is to reach -/
def tFor (wi : TI) (g : TG) (tb : TS) : TS := fun D σ H => wi σ H fun J H1 => ∃ W : Nat → Nat → St → Hp → Prop, (∃ m, W 0 m σ H1) ∧ ∀ i m σ H, W i m σ H →
  (J.stop i H ∧ D.nx σ H) ∨ (J.go i H ∧ ∃ N : St → Hp → Prop, (∀ σ' H', N σ' H' → ∃ m', m' < m ∧ W (i + 1) m' σ' H') ∧ ∀ x H', J.yld i H x H' → g x σ H' fun σ2 H2 => tb { D with nx := N, ct := N, bk := D.nx } σ2 H2)
/-- the records at fp as they stand -/
def pinsAt (fp : List Addr) (h : Heap) : List (Addr × Obj) := fp.filterMap fun b => (h.get? b).map fun o => (b, o)
theorem mem_pinsAt {fp : List Addr} {h : Heap} {b : Addr} {o : Obj} (hb : b ∈ fp) (e : h.get? b = some o) : (b, o) ∈ pinsAt fp h := List.mem_filterMap.mpr ⟨b, hb, by rw [e]; rfl⟩
theorem of_pinsAt {fp : List Addr} {h : Heap} {p : Addr × Obj} (hp : p ∈ pinsAt fp h) : p.1 ∈ fp ∧ h.get? p.1 = some p.2 := by
  obtain ⟨b, hb, e⟩ := List.mem_filterMap.mp hp
  cases q : h.get? b with
  | none => rw [q] at e; cases e
  | some o =>
    rw [q] at e
    have e' : (b, o) = p := Option.some.inj e
    subst e'
    exact ⟨hb, q⟩
theorem Inv.pinned {pins : List (Addr × Obj)} {σ : St} {H : Hp} {s : Shared} {fp : List Addr} (I : Inv X pins σ H s) (hf : ∀ b ∈ fp, FpOk X pins H b) (ho : ∀ b ∈ fp, ∃ o, s.heap.get? b = some o ∧ ∀ v, o.data ≠ .cell v) : Inv X (pins ++ pinsAt fp s.heap) σ H s :=
  I.pins_of fun p hp => (List.mem_append.mp hp).elim (fun z => I.pin p (List.mem_append_right _ z)) fun z => by
    obtain ⟨hb, e⟩ := of_pinsAt z
    obtain ⟨f0, f1, f2, _⟩ := hf p.1 hb
    obtain ⟨o, e', d⟩ := ho p.1 hb
    rw [e] at e'; cases e'
    exact ⟨e, f0, f1, f2, d⟩
theorem Inv.unpinned {pins pl : List (Addr × Obj)} {σ : St} {H : Hp} {s : Shared} (I : Inv X (pins ++ pl) σ H s) : Inv X pins σ H s := I.pins_of fun p hp => I.pin p (List.mem_append_right _ (List.mem_append_left _ hp))
theorem ps_for {iter : Expr} {body : List Stmt} {wi : TI} {g : TG} {tb : TS} {pos : Pos} (hp : PassesOwn (model X.prog X.w) X.A X.env X.xe) (hc : X.calm = true) (hi : PI X tg iter wi) (hg : PG X tg g) (hb : PSs X body tb)
    (hs : ∀ x, foldedSetIterable iter X.env x = pure x := by intro _; rfl) : PS X (.For tg iter body [] pos) (tFor wi g tb) := by
  intro pins s σ H D I h
  refine wpAny_For (thn (hi pins s σ H _ I h) fun v s1 h1 => thn h1 fun itv s2 h2 => ?_) hs
  obtain ⟨it, fp, tn, J, H2, e, I2, T, st2, f2, W, ⟨m0, w0⟩, turn⟩ := h2
  subst e
  -- what stays true of the iterator's objects through the loop
  have stat : ∀ {H' : Hp}, (∀ b ∈ fp, H' b = none) → ∀ b ∈ fp, FpOk X pins H' b := fun hn b hb => ⟨hn b hb, (f2 b hb).2⟩
  refine codeAny_forLoop_any (fun n s' => ∃ i σ' H', Inv X pins σ' H' s' ∧ tn i s'.heap ∧ (∀ b ∈ fp, H' b = none) ∧ W i n σ' H') ?_ m0 ⟨0, σ, H2, I2, st2, fun b hb => (f2 b hb).1, w0⟩
  rintro n s3 ⟨i, σ3, H3, I3, st3, fr3, w3⟩
  rcases turn i n σ3 H3 w3 with ⟨stop, qn⟩ | ⟨go, N, hN, step⟩
  · refine wpAny_passesOwn hp (thn (T.done X rfl rfl rfl hc i pins s3 σ3 H3 X.xe I3 (stat fr3) st3 stop) fun r s4 ⟨hr, I4⟩ => ?_)
    subst hr
    exact wpAny_execs_nil ⟨σ3, H3, I4, qn⟩
  · refine wpAny_passesOwn hp (thn (T.item X rfl rfl rfl hc i pins s3 σ3 H3 X.xe I3 (stat fr3) st3 go) fun r s4 ⟨u, hr, h4⟩ => ?_)
    subst hr
    refine wpAny_passesOwn hp (thn h4 fun _ s5 ⟨x, H5, I5, r5, y5, st5, fr5⟩ => ?_)
    have I5' := I5.pinned (stat fr5) (T.obj _ _ st5)
    refine wpAny_passesOwn hp (thn (hg _ s5 σ3 H5 x u _ I5' r5 (step x H5 y5)) fun _ s6 ⟨σ6, H6, I6, q6⟩ => ?_)
    refine wpAny_passesOwn hp (thn (hb _ s6 σ6 H6 _ I6 q6) fun f s7 q7 => ?_)
    have again : ∀ {σ7 : St} {H7 : Hp}, Inv X (pins ++ pinsAt fp s5.heap) σ7 H7 s7 → N σ7 H7 → ∃ m, m < n ∧ ∃ i σ' H', Inv X pins σ' H' s7 ∧ tn i s7.heap ∧ (∀ b ∈ fp, H' b = none) ∧ W i m σ' H' := fun {σ7 H7} I7 n7 => by
      obtain ⟨m', hm, w7⟩ := hN σ7 H7 n7
      refine ⟨m', hm, i + 1, σ7, H7, I7.unpinned, T.keep _ _ _ st5 fun b hb o e => (I7.pin (b, o) (List.mem_append_right _ (List.mem_append_right _ (mem_pinsAt hb e)))).1, fun b hb => ?_, w7⟩
      obtain ⟨o, e, d⟩ := T.obj _ _ st5 b hb
      exact (I7.pin (b, o) (List.mem_append_right _ (List.mem_append_right _ (mem_pinsAt hb e)))).2.1
    cases f with
    | next => obtain ⟨σ7, H7, I7, n7⟩ := q7; exact again I7 n7
    | cont => obtain ⟨σ7, H7, I7, n7⟩ := q7; exact again I7 n7
    | brk => obtain ⟨σ7, H7, I7, q7⟩ := q7; exact ⟨σ7, H7, I7.unpinned, q7⟩
    | ret v => obtain ⟨x7, σ7, H7, I7, r7, q7⟩ := q7; exact ⟨x7, σ7, H7, I7.unpinned, r7, q7⟩
end

/-! ### the forms one uses -/
end L2

namespace L2
open PySem PySem.Spec PyProof.Rows

abbrev R2 := V → V → Hp → VK → Prop
/-- a two-place operation on values: f is binaryOp op, inplaceOp op or compareOp op -/
def OpR (X : Cx) (f : Value → Value → Sem Value) (r : R2) : Prop :=
  ∀ (pins : List (Addr × Obj)) (s : Shared) (σ : St) (H : Hp) (x y : V) (v u : Value) (Q : VK), Inv X pins σ H s → RelV x v → RelV y u → r x y H Q →
    wpAny (model X.prog X.w) X.A (f v u) (EP X pins σ Q) X.xe s
/-- a one-place operation -/
def UnR (X : Cx) (f : Value → Sem Value) (r : V → Hp → VK → Prop) : Prop :=
  ∀ (pins : List (Addr × Obj)) (s : Shared) (σ : St) (H : Hp) (x : V) (v : Value) (Q : VK), Inv X pins σ H s → RelV x v → r x H Q →
    wpAny (model X.prog X.w) X.A (f v) (EP X pins σ Q) X.xe s
/-- a call of a value that is known (a builtin, a type) with values -/
def CallR (X : Cx) (f : Value) (r : List V → Hp → VK → Prop) : Prop :=
  ∀ (pins : List (Addr × Obj)) (s : Shared) (σ : St) (H : Hp) (xs : List V) (us : List Value) (Q : VK), Inv X pins σ H s → Vals xs us → r xs H Q →
    wpAny (model X.prog X.w) X.A (call f us) (EP X pins σ Q) X.xe s
def tOp (r : R2) (ta tb : TE) : TE := fun σ H Q => ta σ H fun x H1 => tb σ H1 fun y H2 => r x y H2 Q
def tUn (r : V → Hp → VK → Prop) (ta : TE) : TE := fun σ H Q => ta σ H fun x H1 => r x H1 Q
/-- ints in, under C, and a value out -/
def rI (C : Int → Int → Prop) (g : Int → Int → V) : R2 := fun x y H Q => ∃ i j, x = .int i ∧ y = .int j ∧ C i j ∧ Q (g i j) H
def rI0 (g : Int → Int → V) : R2 := fun x y H Q => ∃ i j, x = .int i ∧ y = .int j ∧ Q (g i j) H
def rU (g : Int → V) : V → Hp → VK → Prop := fun x H Q => ∃ i, x = .int i ∧ Q (g i) H

section
variable {X : Cx} {a b c : Expr} {ta tb tc : TE} {pos : Pos}

theorem binT (ha : PE X a ta) (hb : PE X b tb) {pins : List (Addr × Obj)} {s : Shared} {σ : St} {H : Hp} {R : V → V → Hp → Prop} (I : Inv X pins σ H s)
    (h : ta σ H fun x H1 => tb σ H1 fun y H2 => R x y H2) {Q : Value → Shared → Prop} {f : Value → Value → Sem Value}
    (hf : ∀ v u s2 x y H2, Inv X pins σ H2 s2 → RelV x v → RelV y u → R x y H2 → wpAny (model X.prog X.w) X.A (f v u) Q X.xe s2) :
    wpAny (model X.prog X.w) X.A (eval a X.env) (fun v s₁ => wpAny (model X.prog X.w) X.A (eval b X.env) (fun u s₂ => wpAny (model X.prog X.w) X.A (f v u) Q X.xe s₂) X.xe s₁) X.xe s := by
  refine thn (ha pins s σ H _ I h) fun v s1 ⟨x, H1, I1, r1, q1⟩ => ?_
  refine thn (hb pins s1 σ H1 _ I1 q1) fun u s2 ⟨y, H2, I2, r2, q2⟩ => ?_
  exact hf v u s2 x y H2 I2 r1 r2 q2

theorem pe_op {op : Operator} {r : R2} (ho : OpR X (binaryOp op) r) (ha : PE X a ta) (hb : PE X b tb) : PE X (.BinOp a op b pos) (tOp r ta tb) := by
  intro pins s σ H Q I h
  exact wpAny_BinOp (binT ha hb I h fun v u s2 x y H2 I2 rx ry q => ho pins s2 σ H2 x y v u Q I2 rx ry q)
theorem pe_un {op : UnaryOp} {r : V → Hp → VK → Prop} (ho : UnR X (unaryOp op) r) (ha : PE X a ta) : PE X (.UnaryOp op a pos) (tUn r ta) := by
  intro pins s σ H Q I h
  exact UnaryOp_ (thn (ha pins s σ H _ I h) fun v s1 ⟨x, H1, I1, r1, q1⟩ => ho pins s1 σ H1 x v Q I1 r1 q1)
/-! ### ints -/
theorem opI {f : Value → Value → Sem Value} {C : Int → Int → Prop} {g : Int → Int → Int}
    (rule : ∀ (i j : Int) (t u : Tok) (s : Shared) (Q : Value → Shared → Prop) (E : Value → Shared → Prop), C i j → Q (.int (g i j) s.toks) { s with toks := s.toks + 1 } → wpAny (model X.prog X.w) X.A (f (.int i t) (.int j u)) Q E s) :
    OpR X f (rI C fun i j => .int (g i j)) := by
  intro pins s σ H x y v u Q I rx ry h
  obtain ⟨i, j, rfl, rfl, hc, q⟩ := h
  obtain ⟨t, rfl⟩ := rx
  obtain ⟨t', rfl⟩ := ry
  exact rule i j t t' s _ _ hc ⟨.int (g i j), H, I.tok _, ⟨_, rfl⟩, q⟩
theorem opI0 {f : Value → Value → Sem Value} {g : Int → Int → Int}
    (rule : ∀ (i j : Int) (t u : Tok) (s : Shared) (Q : Value → Shared → Prop) (E : Value → Shared → Prop), Q (.int (g i j) s.toks) { s with toks := s.toks + 1 } → wpAny (model X.prog X.w) X.A (f (.int i t) (.int j u)) Q E s) :
    OpR X f (rI0 fun i j => .int (g i j)) := by
  intro pins s σ H x y v u Q I rx ry h
  obtain ⟨i, j, rfl, rfl, q⟩ := h
  obtain ⟨t, rfl⟩ := rx
  obtain ⟨t', rfl⟩ := ry
  exact rule i j t t' s _ _ ⟨.int (g i j), H, I.tok _, ⟨_, rfl⟩, q⟩
theorem opB0 {f : Value → Value → Sem Value} {g : Int → Int → Bool}
    (rule : ∀ (i j : Int) (t u : Tok) (s : Shared) (Q : Value → Shared → Prop) (E : Value → Shared → Prop), Q (.bool (g i j)) s → wpAny (model X.prog X.w) X.A (f (.int i t) (.int j u)) Q E s) :
    OpR X f (rI0 fun i j => .bl (g i j)) := by
  intro pins s σ H x y v u Q I rx ry h
  obtain ⟨i, j, rfl, rfl, q⟩ := h
  obtain ⟨t, rfl⟩ := rx
  obtain ⟨t', rfl⟩ := ry
  exact rule i j t t' s _ _ ⟨.bl (g i j), H, I, rfl, q⟩

def CPow (i j : Int) : Prop := 0 ≤ j ∧ j ≤ 1000000 ∧ i.natAbs < 2 ^ 64
def CMul (i j : Int) : Prop := (-(2 ^ 64) < i ∧ i < 2 ^ 64) ∨ (-(2 ^ 64) < j ∧ j < 2 ^ 64)
theorem CMul.ok {i j : Int} (h : CMul i j) : IntMulOk i j := by
  rcases h with ⟨h1, h2⟩ | ⟨h1, h2⟩
  · exact .of_left (intBits_le_64 h1 h2)
  · exact .of_right (intBits_le_64 h1 h2)
theorem op_add : OpR X (binaryOp .Add) (rI0 fun i j => .int (i + j)) := opI0 fun _ _ _ _ _ _ _ q => add_int q
theorem op_sub : OpR X (binaryOp .Sub) (rI0 fun i j => .int (i - j)) := opI0 fun _ _ _ _ _ _ _ q => sub_int q
theorem op_mul : OpR X (binaryOp .Mult) (rI CMul fun i j => .int (i * j)) := opI fun _ _ _ _ _ _ _ hc q => mul_int q hc.ok
theorem op_modN : OpR X (binaryOp .Mod) (rI (fun _ j => j ≠ 0) fun i j => .int (i.fmod j)) := opI fun _ _ _ _ _ _ _ hc q => mod_int' hc q
theorem op_pow : OpR X (binaryOp .Pow) (rI CPow fun i j => .int (i ^ j.toNat)) := opI fun _ _ _ _ _ _ _ hc q => pow_int_small hc.1 hc.2.1 hc.2.2 q
theorem unI {f : Value → Sem Value} {g : Int → Int}
    (rule : ∀ (i : Int) (t : Tok) (s : Shared) (Q : Value → Shared → Prop) (E : Value → Shared → Prop), Q (.int (g i) s.toks) { s with toks := s.toks + 1 } → wpAny (model X.prog X.w) X.A (f (.int i t)) Q E s) :
    UnR X f (rU fun i => .int (g i)) := by
  intro pins s σ H x v Q I rx h
  obtain ⟨i, rfl, q⟩ := h
  obtain ⟨t, rfl⟩ := rx
  exact rule i t s _ _ ⟨.int (g i), H, I.tok _, ⟨_, rfl⟩, q⟩
theorem un_neg : UnR X (unaryOp .USub) (rU fun i => .int (-i)) := unI fun _ _ _ _ _ q => neg_int q
/-! ### bools among ints: n += (a < b) -/
end

/-! ### comparisons -/
section
variable {X : Cx} {a b c : Expr} {ta tb tc : TE} {pos : Pos}
theorem op_lt : OpR X (compareOp .Lt) (rI0 fun i j => .bl (decide (i < j))) := opB0 fun _ _ _ _ _ _ _ q => lt_int q
theorem op_le : OpR X (compareOp .LtE) (rI0 fun i j => .bl (decide (i ≤ j))) := opB0 fun _ _ _ _ _ _ _ q => le_int q
theorem op_gt : OpR X (compareOp .Gt) (rI0 fun i j => .bl (decide (j < i))) := opB0 fun _ _ _ _ _ _ _ q => gt_int q
theorem op_ge : OpR X (compareOp .GtE) (rI0 fun i j => .bl (decide (j ≤ i))) := opB0 fun _ _ _ _ _ _ _ q => ge_int q
/-- two rules for one operation: by cases -/
theorem OpR.or {f : Value → Value → Sem Value} {r r' : R2} (h : OpR X f r) (h' : OpR X f r') : OpR X f (fun x y H Q => r x y H Q ∨ r' x y H Q) := by
  intro pins s σ H x y v u Q I rx ry q
  rcases q with q | q
  · exact h pins s σ H x y v u Q I rx ry q
  · exact h' pins s σ H x y v u Q I rx ry q

theorem nomark (b : Expr) {op : CmpOp} (h : op ≠ .In := by decide) (h2 : op ≠ .NotIn := by decide) : behindInMarks op b = false := by
  have e1 : (op == CmpOp.In) = false := by cases op <;> first | rfl | exact absurd rfl h
  have e2 : (op == CmpOp.NotIn) = false := by cases op <;> first | rfl | exact absurd rfl h2
  cases b <;> simp [behindInMarks, e1, e2]
/-- a comparison as a value; hm: nomark b, or (for in, not in) by with_unfolding_all rfl -/
theorem pe_cmpR {op : CmpOp} {r : R2} (ho : OpR X (compareOp op) r) (ha : PE X a ta) (hb : PE X b tb) (hm : behindInMarks op b = false) : PE X (.Compare a [op] [b] pos) (tOp r ta tb) := by
  intro pins s σ H Q I h
  exact wpAny_Compare1 (binT ha hb I h fun v u s2 x y H2 I2 rx ry q => ho pins s2 σ H2 x y v u Q I2 rx ry q) hm
/-- a reading of a value as a test -/
def tTest (t : TE) : TT := fun σ H Q => t σ H fun x H' => ∃ k, x = .bl k ∧ Q k H'
theorem pt_cmpR {op : CmpOp} {r : R2} (ho : OpR X (compareOp op) r) (ha : PE X a ta) (hb : PE X b tb) (hm : behindInMarks op b = false) : PT X (.Compare a [op] [b] pos) (tTest (tOp r ta tb)) := by
  intro pins s σ H Q I h
  refine wpAny_isTrue_Compare1 (thn (ha pins s σ H _ I h) fun v s1 ⟨x, H1, I1, r1, q1⟩ => thn (hb pins s1 σ H1 _ I1 q1) fun u s2 ⟨y, H2, I2, r2, q2⟩ =>
    thn (ho pins s2 σ H2 x y v u _ I2 r1 r2 q2) fun c s3 ⟨z, H3, I3, r3, k, e, q3⟩ => ?_) hm
  subst e
  cases r3
  exact wpAny_truthy_bool ⟨H3, I3, q3⟩
/-! ### truth -/
theorem line63 : (sizeLine : Nat) < 2 ^ 63 := by rw [sizeLine_eq]; decide
/-! ### strs and bytes -/
theorem op_add_str : OpR X (binaryOp .Add) (fun x y H Q => ∃ i j, x = .str i ∧ y = .str j ∧ i.length + j.length ≤ sizeLine ∧ Q (.str (i ++ j)) H) := by
  intro pins s σ H x y v u Q I rx ry h
  obtain ⟨i, j, rfl, rfl, hz, q⟩ := h
  obtain ⟨t, rfl⟩ := rx
  obtain ⟨t', rfl⟩ := ry
  exact add_str (fun t' tk => ⟨.str (i ++ j), H, I.tok _, ⟨_, rfl⟩, q⟩) hz
/-! ### scalar builtins, by CallR -/
theorem vals1 {x : V} {us : List Value} (r : Vals [x] us) : ∃ u, us = [u] ∧ RelV x u := by
  cases r with
  | cons r1 r2 => cases r2; exact ⟨_, rfl, r1⟩
theorem vals2 {x y : V} {us : List Value} (r : Vals [x, y] us) : ∃ u w', us = [u, w'] ∧ RelV x u ∧ RelV y w' := by
  cases r with
  | cons r1 r2 =>
    cases r2 with
    | cons r3 r4 => cases r4; exact ⟨_, _, rfl, r1, r3⟩
theorem call_max2 (hc : X.calm = true) : CallR X (.builtin "max") (fun xs H Q => ∃ i j, xs = [.int i, .int j] ∧ Q (.int (if j > i then j else i)) H) := by
  intro pins s σ H xs us Q I r h
  obtain ⟨i, j, rfl, q⟩ := h
  obtain ⟨u, w', rfl, ⟨t, rfl⟩, ⟨t', rfl⟩⟩ := vals2 r
  refine max_two_ints (I.ok.hd hc) fun h' tk k => ⟨_, H, I.kept k, ?_, q⟩
  by_cases hj : j > i
  · rw [if_pos hj, if_pos hj]; exact ⟨_, rfl⟩
  · rw [if_neg hj, if_neg hj]; exact ⟨_, rfl⟩
theorem call_min2 (hc : X.calm = true) : CallR X (.builtin "min") (fun xs H Q => ∃ i j, xs = [.int i, .int j] ∧ Q (.int (if j < i then j else i)) H) := by
  intro pins s σ H xs us Q I r h
  obtain ⟨i, j, rfl, q⟩ := h
  obtain ⟨u, w', rfl, ⟨t, rfl⟩, ⟨t', rfl⟩⟩ := vals2 r
  refine min_two_ints (I.ok.hd hc) fun h' tk k => ⟨_, H, I.kept k, ?_, q⟩
  by_cases hj : j < i
  · rw [if_pos hj, if_pos hj]; exact ⟨_, rfl⟩
  · rw [if_neg hj, if_neg hj]; exact ⟨_, rfl⟩
/-- len of a str, a bytes, a list, a tuple -/
def LenV (K : PySem.W.Frag) (x : V) (H : Hp) (n : Nat) : Prop :=
  match x with
  | .str y => y.length ≤ sizeLine ∧ n = y.length
  | .byt y => y.size ≤ sizeLine ∧ n = y.size
  | .ref p => (∃ xs, SqL K H p xs ∧ n = xs.length) ∨ ∃ xs, SqT K H p xs ∧ n = xs.length
  | _ => False
theorem call_len : CallR X (.builtin "len") (fun xs H Q => ∃ x n, xs = [x] ∧ LenV X.K x H n ∧ Q (.int n) H) := by
  intro pins s σ H xs us Q I r h
  obtain ⟨x, n, rfl, e, q⟩ := h
  obtain ⟨u, rfl, rx⟩ := vals1 r
  have hl := line63
  have hs : sizeLine = 16777216 := sizeLine_eq
  cases x with
  | str y =>
    obtain ⟨t, rfl⟩ := rx
    obtain ⟨hy, e'⟩ : y.length ≤ sizeLine ∧ n = y.length := e
    subst e'
    exact len_str (by omega) ⟨.int _, H, I.tok _, ⟨_, rfl⟩, q⟩
  | byt y =>
    obtain ⟨t, rfl⟩ := rx
    obtain ⟨hy, e'⟩ : y.size ≤ sizeLine ∧ n = y.size := e
    subst e'
    exact PySem.W.len_bytes (by omega) ⟨.int _, H, I.tok _, ⟨_, rfl⟩, q⟩
  | ref p =>
    cases rx
    have e' : (∃ xs, SqL X.K H p xs ∧ n = xs.length) ∨ ∃ xs, SqT X.K H p xs ∧ n = xs.length := e
    rcases e' with ⟨xs, hx, e'⟩ | ⟨xs, hx, e'⟩
    · subst e'
      obtain ⟨its, r', pl, hz⟩ := I.list hx
      have hlen := r'.length
      exact Calls.call_len_list pl.isList (by simp only [List.size_toArray]; omega) ⟨.int xs.length, H, I.tok _, ⟨_, by simp only [List.size_toArray]; rw [hlen]⟩, q⟩
    · subst e'
      obtain ⟨its, r', pl, hz⟩ := I.tuple hx
      have hlen := r'.length
      exact len_tuple pl (by simp only [List.size_toArray]; omega) ⟨.int xs.length, H, I.tok _, ⟨_, by simp only [List.size_toArray]; rw [hlen]⟩, q⟩
  | _ => exact (show False from e).elim
end
end L2

namespace L2
open PySem PySem.Spec PyProof.Rows

/-! ### an instance, its attributes a map -/
structure ObjM (h : Heap) (x dx C : Addr) (mA : Str → Option Value) : Prop where
  obj : h.get? x = some (PySem.W.instObj C dx)
  ns : h.Ns1 dx mA
  ne : dx ≠ x

theorem lookIn_ns {h : Heap} {dx : Addr} {mA : Str → Option Value} (n : h.Ns1 dx mA) : ∃ od, h.get? dx = some od ∧ ∀ name, PySem.W.lookIn name od = some (mA name) := by
  obtain ⟨o, es, ep, ho, hd, hk, _, hm⟩ := n
  refine ⟨o, ho, fun name => ?_⟩
  have e := hm name
  unfold nsFind findBy at e
  rw [← Array.find?_toList] at e
  unfold PySem.W.lookIn
  rw [hd]
  dsimp only
  split
  · rename_i y q
    rw [q] at e
    exact congrArg some e
  · rename_i q
    rw [q] at e
    have a : es.toList.any (·.refKey) = false := by
      rw [List.any_eq_false]
      intro y hy
      obtain ⟨z, t, hkey⟩ := hk y (Array.mem_toList_iff.mp hy)
      simp [DictEntry.refKey, hkey]
    have a' : ¬ es.toList.any (·.refKey) = true := by rw [a]; exact Bool.false_ne_true
    rw [if_neg a']
    exact congrArg some e

theorem ObjM.look {h : Heap} {x dx C : Addr} {mA : Str → Option Value} (I : ObjM h x dx C mA) : ∃ od, PySem.W.InstAt h x (PySem.W.instObj C dx) C (some od) ∧ ∀ name, PySem.W.lookIn name od = some (mA name) :=
  let ⟨od, ho, hl⟩ := lookIn_ns I.ns
  ⟨od, ⟨I.obj, rfl, rfl, ho⟩, hl⟩

section
variable {prog : Program} {w : World} {A : Around} {E : Value → Shared → Prop} {s : Shared} {K : PySem.W.Frag} {x dx C f : Addr} {mA : Str → Option Value} {name : Str} {v : Value}

end

/-! ### the attributes as a list of pairs -/
def putF (f : Str) (v : V) : List (Str × V) → List (Str × V)
  | [] => [(f, v)]
  | (g, x) :: r => if g = f then (g, v) :: r else (g, x) :: putF f v r
theorem RelO.some_of {v : V} {o : Option Value} (r : RelO (some v) o) : ∃ u, o = some u ∧ RelV v u := by
  cases o with
  | none => exact (show False from r).elim
  | some u => exact ⟨u, rfl, r⟩
theorem RelO.none_of {o : Option Value} (r : RelO none o) : o = none := by
  cases o with
  | none => rfl
  | some u => exact (show False from r).elim
section
variable {P : Program} {w : World} {H H' : Hp} {h h' : Heap} {a C dx : Addr} {fs fs' : List (Str × V)}
theorem ins_get (hok : HOk P w H h) (e : H a = some (.ins C dx fs)) : ∃ mA, ObjM h a dx C mA ∧ (∀ f, RelO (fs.lookup f) (mA f)) ∧ PySem.Within mA (fs.map (·.1)) ∧ fs.length ≤ 1000 ∧ H dx = some (.own a) := by
  obtain ⟨d, z, ne, ob, mA, n, r, q⟩ := (show ObjOk P w H h a (.ins C dx fs) from hok a _ e)
  exact ⟨mA, ⟨ob, n, ne⟩, r, q, z, d⟩
end

/-! ### what of the text a class must have -/
structure Cls (K : PySem.W.Frag) (C : Addr) : Prop where
  pg : PySem.W.plainGet K C Str.empty = true
  hd : PySem.W.hasDictIn K C = true
  po : PySem.W.plainOver K C = true
  sa : PySem.W.findIn K (.ref C) "__setattr__" = some (some (.builtin "object.__setattr__"))
theorem Cls.get {K : PySem.W.Frag} {C : Addr} (c : Cls K C) (f : Str) : PySem.W.plainGet K C f = true := c.pg
/-- no class of it has the name -/
def NoAttr (K : PySem.W.Frag) (C : Addr) (f : Str) : Prop := PySem.W.findIn K (.ref C) f = some none
/-- a constant of the class -/
structure Con (K : PySem.W.Frag) (C : Addr) (f : Str) (v : V) (u : Value) : Prop where
  at_ : PySem.W.findIn K (.ref C) f = some (some u)
  rel : RelV v u
  get : PySem.W.specialIn K u "__get__" = some none
  cp : PySem.W.copiedNames.contains f = false
/-- a method: a plain def of the class or of one above it -/
structure Meth (K : PySem.W.Frag) (C : Addr) (m : Str) (f : Addr) : Prop where
  at_ : PySem.W.findIn K (.ref C) m = some (some (.ref f))
  fn : PySem.W.isFn K (.ref f) = true
  kp : PySem.W.keepIn K (.ref f) = true

section
variable {X : Cx} {pins : List (Addr × Obj)} {σ : St} {H : Hp} {s : Shared} {a C dx : Addr} {fs : List (Str × V)} {f : Str} {v : V} {A : Around} {E : Value → Shared → Prop}

end

/-! ### readings and rules -/
/-- e.f = value -/
def sFld (K : PySem.W.Frag) (ta tv : TE) (f : Str) : TS := fun D σ H => tv σ H fun y H1 => ta σ H1 fun x H2 => ∃ a C dx fs, x = .ref a ∧ H2 a = some (.ins C dx fs) ∧ Cls K C ∧ NoAttr K C f ∧ fs.length < 1000 ∧
  D.nx σ (upd H2 a (.ins C dx (putF f y fs)))
section
variable {X : Cx} {o e value : Expr} {f : Str} {pos pos' tpos : Pos} {ta tv : TE}
end

/-! ### isinstance -/
section
variable {X : Cx} {pins : List (Addr × Obj)} {σ : St} {H : Hp} {s : Shared} {A : Around} {E : Value → Shared → Prop} {Q : Value → Shared → Prop} {c : Value} {b : Bool}
/-- the type of a value, as the fragment's deciders take it; for an instance its class -/
inductive TyOf (K : PySem.W.Frag) (H : Hp) : V → Value → Prop where
  | non : TyOf K H .non (.type "NoneType")
  | bl (x : Bool) : TyOf K H (.bl x) (.type "bool")
  | int (i : Int) : TyOf K H (.int i) (.type "int")
  | str (x : Str) : TyOf K H (.str x) (.type "str")
  | flt (x : UInt64) : TyOf K H (.flt x) (.type "float")
  | lst {a : Addr} {xs : List V} (e : H a = some (.lst xs)) : TyOf K H (.ref a) (.type "list")
  | frz {a : Addr} {o : Obj} {xs : List V} (e : H a = some (.frz o (.lst xs))) : TyOf K H (.ref a) (.type "list")
  | tup {a : Addr} {xs : List V} (e : H a = some (.tup xs)) : TyOf K H (.ref a) (.type "tuple")
  | dK {a : Addr} {kvs : List (Key × V)} (e : H a = some (.dK kvs)) : TyOf K H (.ref a) (.type "dict")
  | dT {a : Addr} {kvs : List (List Key × V)} (e : H a = some (.dT kvs)) : TyOf K H (.ref a) (.type "dict")
  | ins {a C dx : Addr} {fs : List (Str × V)} (e : H a = some (.ins C dx fs)) (cl : Cls K C) (ha : PySem.W.findIn K (.ref C) "__class__" = some (some (.builtin "object.__class__")))
      (hn : PySem.W.specialIn K (.builtin "object.__class__") "__get__" = some (some (.builtin "getset_descriptor.__get__"))) (htk : PySem.W.takesIn K (.builtin "object.__class__") = some true)
      (hm : PySem.W.mroIn K C (.type "object") = some true) : TyOf K H (.ref a) (.ref C)
/-- isinstance(x, c) for one class c, a built-in or an own one: kitOne's answer -/
theorem isinst_ok {x : V} {u t : Value} (I : Inv X pins σ H s) (rx : RelV x u) (ty : TyOf X.K H x t) (e : PySem.W.kitOne X.K t c = some b) (h : ∀ tk, Q (.bool b) { s with toks := tk }) :
    wpAny (model X.prog X.w) A (call (.builtin "isinstance") [u, c]) Q E s := by
  cases ty with
  | non => cases (show u = Value.none from rx); exact PySem.W.kia_one PySem.W.kitx_none I.kIn True.intro e (fun z => nomatch z) h
  | bl y => cases (show u = Value.bool y from rx); exact PySem.W.kia_one PySem.W.kitx_bool I.kIn True.intro e (fun z => nomatch z) h
  | int i => obtain ⟨t, q⟩ := (show ∃ t, u = Value.int i t from rx); cases q; exact PySem.W.kia_one PySem.W.kitx_int I.kIn True.intro e (fun z => nomatch z) h
  | str y => obtain ⟨t, q⟩ := (show ∃ t, u = Value.str y t from rx); cases q; exact PySem.W.kia_one PySem.W.kitx_str I.kIn True.intro e (fun z => nomatch z) h
  | flt y => obtain ⟨t, q⟩ := (show ∃ t, u = Value.float y t from rx); cases q; exact PySem.W.kia_one PySem.W.kitx_float I.kIn True.intro e (fun z => nomatch z) h
  | @lst a xs ea =>
    cases (show u = Value.ref a from rx)
    obtain ⟨_, _, n, _, h1⟩ := (show ObjOk X.prog X.w H s.heap a (.lst xs) from I.hok a _ ea)
    exact PySem.W.kia_one PySem.W.kitx_list I.kIn ⟨_, h1, rfl⟩ e (fun z => nomatch z) h
  | @frz a ob xs ea =>
    cases (show u = Value.ref a from rx)
    obtain ⟨_, _, _, n, _, h1⟩ := (show ObjOk X.prog X.w H s.heap a (.frz ob (.lst xs)) from I.hok a _ ea)
    exact PySem.W.kia_one PySem.W.kitx_list I.kIn ⟨_, h1, rfl⟩ e (fun z => nomatch z) h
  | @tup a xs ea =>
    cases (show u = Value.ref a from rx)
    obtain ⟨_, _, _, p⟩ := (show ObjOk X.prog X.w H s.heap a (.tup xs) from I.hok a _ ea)
    obtain ⟨o, h1, h2, _⟩ := p
    exact PySem.W.kia_one PySem.W.kitx_tuple I.kIn ⟨o, h1, h2⟩ e (fun z => nomatch z) h
  | @dK a kvs ea =>
    cases (show u = Value.ref a from rx)
    obtain ⟨_, _, vs, _, p⟩ := (show ObjOk X.prog X.w H s.heap a (.dK kvs) from I.hok a _ ea)
    obtain ⟨o, es, ep, h1, h2, _⟩ := p
    exact PySem.W.kia_one PySem.W.kitx_dict I.kIn ⟨o, h1, h2.1⟩ e (fun z => nomatch z) h
  | @dT a kvs ea =>
    cases (show u = Value.ref a from rx)
    obtain ⟨_, _, xs, _, o, es, ep, h1, h2, _⟩ := (show ObjOk X.prog X.w H s.heap a (.dT kvs) from I.hok a _ ea)
    exact PySem.W.kia_one PySem.W.kitx_dict I.kIn ⟨o, h1, h2.1⟩ e (fun z => nomatch z) h
  | @ins a C dx fs ea cl ha hn htk hm =>
    cases (show u = Value.ref a from rx)
    obtain ⟨mA, O, _⟩ := ins_get I.hok ea
    obtain ⟨od, J, _⟩ := O.look
    exact PySem.W.kia_one (PySem.W.kitx_own (cl.get _) cl.hd ha hn htk hm) I.kIn J e (fun z => nomatch z) h
end
end L2

namespace L2
open PySem PySem.Spec PyProof.Rows

/-! ### room -/
structure Room (k : Nat) (A : Around) : Prop where
  hd : A.handled = none
  dp : A.depth + 3 * k + 5 < recursionLimit
  un : A.units + 16 * k + 200 < cLine
theorem Room.mono {j k : Nat} {A : Around} (r : Room k A) (h : j ≤ k) : Room j A := ⟨r.hd, by have := r.dp; omega, by have := r.un; omega⟩
theorem Room.deeper {k : Nat} {A : Around} (r : Room (k + 1) A) (env : Env) : Room k (A.deeper env) :=
  ⟨r.hd, by have := r.dp; show A.depth + 1 + 3 * k + 5 < _; omega, by have := r.un; show A.units + 3 + 16 * k + 200 < _; omega⟩
theorem Room.in1 {k : Nat} {A : Around} (r : Room (k + 1) A) : Room k A.in1 :=
  ⟨r.hd, by have := r.dp; show A.depth + 3 * k + 5 < _; omega, by have := r.un; show A.units + 1 + 16 * k + 200 < _; omega⟩
theorem make_depth {A : Around} {C : Addr} {us : List Value} {kw : List (Str × Value)} : (A.under (.builtin "type.__call__" ⟨.ref C :: us, kw⟩)).depth = A.depth + 1 := by
  first | rfl | simp [Around.under, Code.weight, Code.isCreation, Code.isGuard, Code.isCaller, Code.frames, Code.isFrame, guardIds]
theorem make_units {A : Around} {C : Addr} {us : List Value} {kw : List (Str × Value)} : (A.under (.builtin "type.__call__" ⟨.ref C :: us, kw⟩)).units = A.units + 1 := by
  first | rfl | simp [Around.under, Code.cUnits, Code.frames, Code.isFrame]
theorem Room.make {k : Nat} {A : Around} (r : Room (k + 1) A) (C : Addr) (us : List Value) (kw : List (Str × Value)) : Room k (A.under (.builtin "type.__call__" ⟨.ref C :: us, kw⟩)) :=
  ⟨r.hd, by have := r.dp; rw [make_depth]; omega, by have := r.un; rw [make_units]; omega⟩
theorem Room.depth {k : Nat} {A : Around} (r : Room k A) : A.depth < recursionLimit := by have := r.dp; omega
theorem Room.units {k : Nat} {A : Around} (r : Room k A) : A.units + 64 < cLine := by have := r.un; omega
/-! ### argument lists and displays -/
def tNil : TA := fun _ H Q => Q [] H
def tCons (ta : TE) (tr : TA) : TA := fun σ H Q => ta σ H fun x H1 => tr σ H1 fun xs H2 => Q (x :: xs) H2
section
variable {X : Cx} {e : Expr} {es : List Expr} {te : TE} {t : TA} {pos : Pos}
theorem pa_nil : PA X [] tNil := fun _ _ _ _ H Q I h => Calls.spliced_nil ⟨[], H, I, .nil, h⟩
theorem pa_cons (ha : PE X e te) (hr : PA X es t) (hs : starEach (e :: es) X.env = (false, eval e X.env) :: starEach es X.env := by rfl) : PA X (e :: es) (tCons te t) := by
  intro pos pins s σ H Q I h
  rw [hs]
  show wpAny _ _ (spliced ((false, eval e X.env) :: backTo pos (starEach es X.env))) _ _ s
  refine Calls.spliced_cons (thn (ha pins s σ H _ I h) fun u s1 ⟨x, H1, I1, r1, q1⟩ => ?_)
  exact thn (hr pos pins s1 σ H1 _ I1 q1) fun us s2 ⟨xs, H2, I2, r2, q2⟩ => ⟨x :: xs, H2, I2, .cons r1 r2, q2⟩

/-- a tuple, a list of written items -/
def tTup (t : TA) : TE := fun σ H Q => t σ H fun xs H1 => xs.length ≤ sizeLine ∧ ∀ p, H1 p = none → Q (.ref p) (upd H1 p (.tup xs))
def tLst (t : TA) : TE := fun σ H Q => t σ H fun xs H1 => xs.length ≤ sizeLine ∧ ∀ p, H1 p = none → Q (.ref p) (upd H1 p (.lst xs))
theorem pe_tup {x1} (h : PA X es t) : PE X (.Tuple es x1 pos) (tTup t) := by
  intro pins s σ H Q I hq
  refine wpAny_Tuple_spliced (thn (h pos pins s σ H _ I hq) fun us s1 ⟨xs, H1, I1, r, z, q⟩ => ⟨by rw [← r.length]; exact z, ?_⟩)
  have hf : H1 s1.heap.objs.size = none := I1.hok.fresh (Nat.le_refl _)
  refine ⟨.ref s1.heap.objs.size, upd H1 s1.heap.objs.size (.tup xs), I1.laid (t' := s1.toks) (fun b u e => Heap.get?_push_of_some _ e) (Nat.le_refl _) ?_, rfl, q _ hf⟩
  exact ⟨z, us, r, ⟨_, Heap.get?_push_size _ rfl, rfl, _, rfl⟩⟩
theorem pe_lst (h : PA X es t) : PE X (.List es pos) (tLst t) := by
  intro pins s σ H Q I hq
  refine wpAny_List_spliced (thn (h pos pins s σ H _ I hq) fun us s1 ⟨xs, H1, I1, r, z, q⟩ => ⟨by rw [← r.length]; exact z, ?_⟩)
  have hf : H1 s1.heap.objs.size = none := I1.hok.fresh (Nat.le_refl _)
  refine ⟨.ref s1.heap.objs.size, upd H1 s1.heap.objs.size (.lst xs), I1.laid (t' := s1.toks) (fun b u e => Heap.get?_push_of_some _ e) (Nat.le_refl _) ?_, rfl, q _ hf⟩
  exact ⟨z, us, 0, r, Heap.get?_push_size _ rfl⟩
end

/-! ### what a def promises -/
/-- a def's promise: the bound arguments in the parameters' order, the heap, the wanted end, the wanted exception -/
abbrev Sp := List V → Hp → VK → XK → Prop
/-- how an exception lies behind a call (file 08 gives it): the callers' frames, abstract heap and state ahead of the call, the wish, the exception, the state -/
abbrev CXT := List Env → Hp → Shared → XK → Value → Shared → Prop

/-- the state at a call -/
structure Env0 (P : Program) (w : World) (K : PySem.W.Frag) (mg : Str → Option Value) (base : Heap) (A : Around) (outer : List Env) (s : Shared) (H : Hp) : Prop where
  frames : A.frames = some outer
  mod : Mod K mg base
  bs : ∀ b o, base.get? b = some o → s.heap.get? b = some o ∧ H b = none
  bsz : base.objs.size ≤ s.heap.objs.size
  funs : s.heap.FunFrames base outer
  frf : ∀ b ∈ frs outer, H b = none
  hok : HOk P w H s.heap
  bare : AllBare s.gens
/-- a call's end -/
def CE (outer : List Env) (P : Program) (w : World) (H : Hp) (s : Shared) (Q : VK) (u : Value) (s' : Shared) : Prop :=
  ∃ v H', s'.os = s.os ∧ AllBare s'.gens ∧ Un (frs outer) [] H H' s.heap s'.heap ∧ HOk P w H' s'.heap ∧ RelV v u ∧ Q v H'
def CR (CX : CXT) (outer : List Env) (P : Program) (w : World) (H : Hp) (s : Shared) (Q : VK) (E : XK) (r : Result) (s' : Shared) : Prop :=
  match r with
  | .ok (.ret u) => CE outer P w H s Q u s'
  | .ok _ => False
  | .error e => CX outer H s E e s'
structure FnOk (P : Program) (w : World) (K : PySem.W.Frag) (mg : Str → Option Value) (base : Heap) (CX : CXT) (k : Nat) (f : Addr) (fd : FuncData) (ps : List Str) (sp : Sp) : Prop where
  len : ∀ vs H Q E, sp vs H Q E → vs.length = ps.length
  run : ∀ (A : Around) (outer : List Env) (s : Shared) (H : Hp) (args : Args) (us : List Value) (vs : List V) (Q : VK) (E : XK), Room k A → Env0 P w K mg base A outer s H → BindsTo s fd args (ps.zip us) → Vals vs us → sp vs H Q E →
    codeAny (model P w) A (.call (.ref f) args) (CR CX outer P w H s Q E) s
theorem FnOk.mono {P : Program} {w : World} {K : PySem.W.Frag} {mg : Str → Option Value} {base : Heap} {CX : CXT} {j k : Nat} {f : Addr} {fd : FuncData} {ps : List Str} {sp : Sp} (F : FnOk P w K mg base CX j f fd ps sp) (h : j ≤ k) :
    FnOk P w K mg base CX k f fd ps sp := ⟨F.len, fun A outer s H args us vs Q E hr => F.run A outer s H args us vs Q E (hr.mono h)⟩
/-- a weaker promise -/
theorem FnOk.imp {P : Program} {w : World} {K : PySem.W.Frag} {mg : Str → Option Value} {base : Heap} {CX : CXT} {k : Nat} {f : Addr} {fd : FuncData} {ps : List Str} {sp sp' : Sp} (F : FnOk P w K mg base CX k f fd ps sp)
    (h : ∀ vs H Q E, sp' vs H Q E → sp vs H Q E) : FnOk P w K mg base CX k f fd ps sp' :=
  ⟨fun vs H Q E q => F.len vs H Q E (h _ _ _ _ q), fun A outer s H args us vs Q E hr he hb hv hs => F.run A outer s H args us vs Q E hr he hb hv (h _ _ _ _ hs)⟩

theorem Env0.make {P : Program} {w : World} {K : PySem.W.Frag} {mg : Str → Option Value} {base : Heap} {A : Around} {outer : List Env} {s : Shared} {H : Hp} (e : Env0 P w K mg base A outer s H) (C : Addr) (us : List Value) (kw : List (Str × Value)) :
    Env0 P w K mg base (A.under (.builtin "type.__call__" ⟨.ref C :: us, kw⟩)) outer s H := ⟨by first | exact e.frames | (simpa [Around.under, Code.envs, Code.isFrame, pushEnvs] using e.frames), e.mod, e.bs, e.bsz, e.funs, e.frf, e.hok, e.bare⟩
theorem Env0.in1 {P : Program} {w : World} {K : PySem.W.Frag} {mg : Str → Option Value} {base : Heap} {A : Around} {outer : List Env} {s : Shared} {H : Hp} (e : Env0 P w K mg base A outer s H) :
    Env0 P w K mg base A.in1 outer s H := ⟨e.frames, e.mod, e.bs, e.bsz, e.funs, e.frf, e.hok, e.bare⟩

section
variable {X : Cx} {pins : List (Addr × Obj)} {σ : St} {H : Hp} {s s' : Shared}
/-- from a body: what a callee wants -/
theorem Inv.env0 (I : Inv X pins σ H s) : Env0 X.prog X.w X.K X.mg X.base X.A X.stack s H :=
  ⟨I.ok.frames, I.ok.mod, I.bs, Nat.le_trans I.ok.bsz I.sz, I.stack, I.stkFree, I.hok, I.bare⟩
/-- behind a call -/
theorem Inv.after {Q : VK} {u : Value} (I : Inv X pins σ H s) (h : CE X.stack X.prog X.w H s Q u s') : EP X pins σ Q u s' := by
  obtain ⟨v, H', os, bare, un, hok, r, q⟩ := h
  obtain ⟨hh, g, d, t, os'⟩ := s'
  obtain rfl : os' = s.os := os
  exact ⟨v, H', I.call (h' := hh) (g' := g) (d' := d) (t' := t) (ch := []) un hok bare (fun b z => absurd z (by simp)), r, q⟩
end

/-! ### calls -/
/-- f(..): the written arguments, then the defaults dvs; E: what is wanted of an exception -/
def tCall (sp : Sp) (dvs : List V) (E : XK) (t : TA) : TE := fun σ H Q => t σ H fun vs H1 => sp (vs ++ dvs) H1 Q E
/-- how the parameters are bound: us the positional arguments, kw the keywords' values by name, ds the defaults that fill up -/
def Binds (K : PySem.W.Frag) (fd : FuncData) (ps : List Str) (ds : List Value) : Prop :=
  ∀ (s : Shared) (us : List Value), K.In s.heap → (us ++ ds).length = ps.length → BindsTo s fd ⟨us, []⟩ (ps.zip (us ++ ds))
/-- every parameter is given -/
theorem Binds.all {K : PySem.W.Frag} {fd : FuncData} {ps : List Str} (h : ∀ us : List Value, us.length = ps.length → bindArgs fd ⟨us, []⟩ = pure (ps.zip us)) : Binds K fd ps [] := fun s us _ hl => by
  rw [List.append_nil] at hl ⊢
  exact .of_eq (h us hl)

/-- an exception of a callee reaches what this body wants of exceptions -/
def Passes (CX : CXT) (X : Cx) (E : XK) : Prop := ∀ (pins : List (Addr × Obj)) (σ : St) (H : Hp) (s : Shared) (e : Value) (s' : Shared), Inv X pins σ H s → CX X.stack H s E e s' → X.xe e s'

section
variable {X : Cx} {CX : CXT} {k : Nat} {f C : Addr} {fd : FuncData} {ps : List Str} {sp : Sp} {dvs : List V} {ds : List Value} {E : XK} {x m : Str} {p pos apos : Pos} {e o : Expr} {es : List Expr} {ta : TE} {t : TA}

/-- the callee runs -/
theorem run_fn {pins : List (Addr × Obj)} {σ : St} {H : Hp} {s : Shared} {Q : VK} {us : List Value} {vs : List V} (F : FnOk X.prog X.w X.K X.mg X.base CX k f fd ps sp) (hr : Room k X.A) (hb : Binds X.K fd ps ds) (hd : Vals dvs ds) (hx : Passes CX X E)
    (I : Inv X pins σ H s) (r : Vals vs us) (h : sp (vs ++ dvs) H Q E) : wpAny (model X.prog X.w) X.A (call (.ref f) us) (EP X pins σ Q) X.xe s := by
  have r2 : Vals (vs ++ dvs) (us ++ ds) := r.append hd
  have hl : (us ++ ds).length = ps.length := by rw [← r2.length]; exact F.len _ _ _ _ h
  refine wpAny_call (codeAny_mono (F.run X.A X.stack s H ⟨us, []⟩ (us ++ ds) (vs ++ dvs) Q E hr I.env0 (hb s us I.kIn hl) r2 h) fun r s' hq => ?_)
  cases r with
  | error e => exact hx pins σ H s e s' I hq
  | ok fl =>
    cases fl with
    | ret u => exact I.after hq
    | next => exact False.elim hq
    | brk => exact False.elim hq
    | cont => exact False.elim hq

theorem pe_call (F : FnOk X.prog X.w X.K X.mg X.base CX k f fd ps sp) (hr : Room k X.A) (hg : Gl X x) (hm : X.mg x = some (.ref f)) (hk : PySem.W.keepIn X.K (.ref f) = true) (hb : Binds X.K fd ps ds) (hd : Vals dvs ds) (hx : Passes CX X E)
    (ha : PA X (e :: es) t) (hdb : (x == ("__debug__" : Str)) = false := by decide) (he : starEach (e :: es) X.env = (false, eval e X.env) :: starEach es X.env := by rfl) (hpl : (backTo pos (starEach es X.env)).any (·.1) = false := by rfl) :
    PE X (.Call (.Name x p) (e :: es) [] pos) (tCall sp dvs E t) := by
  intro pins s σ H Q I h
  refine wpAny_Call_Name_kw (ld_glob I hg hm ?_ hdb)
  refine PySem.W.callWith_K (h₀ := X.base) I.ok.mod.kin hk (thn (ha pos pins s σ H _ I h) fun us s1 ⟨vs, H1, I1, r, q⟩ => ⟨I1.kIn, ?_⟩) he hpl
  exact run_fn F hr hb hd hx I1 r q
/-- what a class must have to be made -/
structure Mk (K : PySem.W.Frag) (C f : Addr) : Prop where
  makes : PySem.W.makesIn K C = true
  init : PySem.W.findIn K (.ref C) "__init__" = some (some (.ref f))
  fn : PySem.W.isFn K (.ref f) = true
  kp : PySem.W.keepIn K (.ref C) = true

end

/-! ### keywords -/
section
variable {X : Cx} {CX : CXT} {k : Nat} {f C : Addr} {fd : FuncData} {ps ks : List Str} {sp : Sp} {E : XK} {x m : Str} {p pos apos kpos : Pos} {e o : Expr} {es : List Expr} {kws : List Keyword} {te ta : TE} {t tk : TA} {nm : Option Str}
/-- how a call with keywords binds: g puts the positional values us and the keywords' values ws (names ks) in the parameters' order, defaults among them -/
structure KBinds (K : PySem.W.Frag) (fd : FuncData) (ps ks : List Str) (g : List Value → List Value → List Value) (gV : List V → List V → List V) : Prop where
  to : ∀ (s : Shared) (us ws : List Value), K.In s.heap → (g us ws).length = ps.length → BindsTo s fd ⟨us, ks.zip ws⟩ (ps.zip (g us ws))
  rel : ∀ {vs : List V} {us : List Value} {zs : List V} {ws : List Value}, Vals vs us → Vals zs ws → Vals (gV vs zs) (g us ws)
variable {g : List Value → List Value → List Value} {gV : List V → List V → List V}
end

/-! ### a def's body keeps its promise -/
/-- names: the parameters first -/
structure FnScope (N P : List Str) (sc : Scope) : Prop where
  kind : sc.kind = .function
  co : sc.isCoroutine = false
  gen : sc.isGenerator = false
  nd : N.Nodup
  pre : N.take P.length = P
  par : ∀ x ∈ P, sc.names.lookup x = some .local ∨ sc.names.lookup x = some .cell
  nofree : ∀ y ∈ sc.names, y.2 ≠ .free

theorem bindL_out {kindOf : Str → Option NameKind} {x : Str} : ∀ {binds : List (Str × Value)} {m : Str → Option Value}, (∀ v, (x, v) ∉ binds) → bindL kindOf binds m x = m x
  | [], _, _ => rfl
  | (n, v) :: r, m, h => by
    unfold bindL
    rw [bindL_out fun w hw => h w (List.mem_cons_of_mem _ hw)]
    split
    · have : x ≠ n := by rintro rfl; exact h v List.mem_cons_self
      simp [this]
    · rfl
theorem bindC_out {kindOf : Str → Option NameKind} {x : Str} : ∀ {binds : List (Str × Value)} {m : Str → Option Value}, (∀ v, (x, v) ∉ binds) → bindC kindOf binds m x = m x
  | [], _, _ => rfl
  | (n, v) :: r, m, h => by
    unfold bindC
    rw [bindC_out fun w hw => h w (List.mem_cons_of_mem _ hw)]
    split
    · rfl
    · have : x ≠ n := by rintro rfl; exact h v List.mem_cons_self
      simp [this]
theorem bindL_get {kindOf : Str → Option NameKind} {x : Str} {v : Value} : ∀ {P : List Str} {vs : List Value} {i : Nat} {m : Str → Option Value}, P.Nodup → P[i]? = some x → vs[i]? = some v → kindOf x = some .local →
    bindL kindOf (P.zip vs) m x = some v
  | [], _, _, _, _, h, _, _ => by simp at h
  | _ :: _, [], _, _, _, _, h, _ => by simp at h
  | p :: P, w :: vs, 0, m, nd, h1, h2, hk => by
    simp at h1 h2; subst h1; subst h2
    show bindL kindOf ((p, w) :: P.zip vs) m p = _
    unfold bindL
    rw [bindL_out fun v hv => (List.nodup_cons.mp nd).1 (List.of_mem_zip hv).1, if_pos hk]
    simp
  | p :: P, w :: vs, i + 1, m, nd, h1, h2, hk => by
    show bindL kindOf ((p, w) :: P.zip vs) m x = _
    unfold bindL
    exact bindL_get (i := i) (List.nodup_cons.mp nd).2 (by simpa using h1) (by simpa using h2) hk
theorem bindC_get {kindOf : Str → Option NameKind} {x : Str} {v : Value} : ∀ {P : List Str} {vs : List Value} {i : Nat} {m : Str → Option Value}, P.Nodup → P[i]? = some x → vs[i]? = some v → kindOf x ≠ some .local →
    bindC kindOf (P.zip vs) m x = some v
  | [], _, _, _, _, h, _, _ => by simp at h
  | _ :: _, [], _, _, _, _, h, _ => by simp at h
  | p :: P, w :: vs, 0, m, nd, h1, h2, hk => by
    simp at h1 h2; subst h1; subst h2
    show bindC kindOf ((p, w) :: P.zip vs) m p = _
    unfold bindC
    rw [bindC_out fun v hv => (List.nodup_cons.mp nd).1 (List.of_mem_zip hv).1, if_neg hk]
    simp
  | p :: P, w :: vs, i + 1, m, nd, h1, h2, hk => by
    show bindC kindOf ((p, w) :: P.zip vs) m x = _
    unfold bindC
    exact bindC_get (i := i) (List.nodup_cons.mp nd).2 (by simpa using h1) (by simpa using h2) hk

/-- the names' values at the entry -/
def start (N : List Str) (vs : List V) : St := vs.map some ++ List.replicate (N.length - vs.length) none

/-- the context of a def's body, at its entry; an exception leaves the frame, then lies as CX says -/
def cxOf (CX : CXT) (P : Program) (w : World) (K : PySem.W.Frag) (mg : Str → Option Value) (base : Heap) (N : List Str) (qual : Str) (scope : Scope) (f : Addr) (cd : Value) (A : Around) (outer : List Env) (s : Shared) (H : Hp) (E : XK) : Cx where
  prog := P
  w := w
  K := K
  mg := mg
  base := base
  A := A.deeper (envOfC qual scope s.heap.objs.size f cd)
  N := N
  s₀ := s
  H₀ := H
  env := envOfC qual scope s.heap.objs.size f cd
  outer := outer
  stack := envOfC qual scope s.heap.objs.size f cd :: outer
  ex := []
  calm := true
  fn := fun _ => true
  pn := []
  xe := fun e s' => wpAny (model P w) (A.deeper (envOfC qual scope s.heap.objs.size f cd)) (leaving (envOfC qual scope s.heap.objs.size f cd) e) (fun _ s'' => CX outer H s E e s'') (fun e' s'' => CX outer H s E e' s'') s'

theorem cell_has {sc : Scope} {n : Nat} {x : Str} (h : sc.names.lookup x = some .cell) : ∃ c, (cellsFrom n sc.names []).lookup x = some c := by
  have q := PySem.W.cellsFrom_some sc.names n [] (.inl h)
  exact Option.isSome_iff_exists.mp q

theorem inv_start {CX : CXT} {P : Program} {w : World} {K : PySem.W.Frag} {mg : Str → Option Value} {base : Heap} {N ps : List Str} {qual : Str} {scope : Scope} {f : Addr} {cd : Value} {A : Around} {outer : List Env} {s s1 : Shared} {H : Hp} {E : XK} {us : List Value} {vs : List V}
    (S : FnScope N ps scope) (hd : A.handled = none) (e0 : Env0 P w K mg base A outer s H) (hl : vs.length = ps.length) (r : Vals vs us)
    (x : InCallC s s.heap.objs.size (bindL (envOfC qual scope s.heap.objs.size f cd).kindOf (ps.zip us) fun _ => none) (cellsFrom (s.heap.objs.size + 1) scope.names []) (bindC (envOfC qual scope s.heap.objs.size f cd).kindOf (ps.zip us) fun _ => none) s1) :
    Inv (cxOf CX P w K mg base N qual scope f cd A outer s H E) [] (start N vs) H s1 := by
  have hpl : ps.length ≤ N.length := by have := congrArg List.length S.pre; rw [List.length_take] at this; omega
  obtain ⟨h1, tk, rfl, hk⟩ := x.done
  have noA : ∀ b : Addr, b ∉ (cxOf CX P w K mg base N qual scope f cd A outer s H E).ex := fun b z => absurd (show b ∈ ([] : List Addr) from z) (by simp)
  refine ⟨⟨e0.mod, S.kind, rfl, rfl, Nat.le_refl _, fun y z c h1 h2 => ?_, fun y hy => ?_, fun y c _ h => ?_, fun _ => hd, Around.frames_deeper e0.frames, .inr ⟨rfl, rfl⟩, fun b z => absurd z (noA b), e0.bs, e0.bsz, fun b _ _ => noA b, fun b z => absurd z (noA b), e0.funs, e0.frf⟩,
    rfl, e0.bare, Un.kept hk, ⟨_, x.toInCall.ns, fun i y v h1 h2 h3 => ?_⟩, fun y c h => ⟨_, x.cell y c h⟩, e0.hok.fresh (Nat.le_refl _), fun y c h => ?_, fun p hp => absurd (show p ∈ ([] : List (Addr × Obj)) from hp) (by simp), e0.hok.kept hk, ?_⟩
  · exact name_of_addr x.apart (PySem.mem_of_lookup h1) (PySem.mem_of_lookup h2)
  · have hy : scope.names.lookup y = some .cell ∨ scope.names.lookup y = some .free := hy
    rcases hy with hy | hy
    · exact cell_has hy
    · exact absurd rfl (S.nofree _ (PySem.mem_of_lookup hy))
  · exact Nat.le_of_lt (x.above y c (PySem.mem_of_lookup h))
  · have hi : i < vs.length := by
      unfold start at h2
      by_cases hi : i < vs.length
      · exact hi
      · rw [List.getElem?_append_right (by simpa using hi)] at h2
        rw [List.getElem?_replicate] at h2
        split at h2 <;> cases h2
    have ha : vs[i]? = some v := by
      unfold start at h2
      rw [List.getElem?_append_left (by simpa using hi), List.getElem?_map] at h2
      cases e : vs[i]? with
      | none => rw [e] at h2; cases h2
      | some a => rw [e] at h2; cases h2; rfl
    obtain ⟨u, hu, rv⟩ := r.get ha
    have hp : ps[i]? = some y := by
      rw [← S.pre, List.getElem?_take_of_lt (by omega)]; exact h1
    have ndP : ps.Nodup := by rw [← S.pre]; exact S.nd.sublist (List.take_sublist _ _)
    refine ⟨u, rv, ?_⟩
    rcases S.par y (List.mem_of_getElem? hp) with k | k
    · exact .inl ⟨k, bindL_get ndP hp hu k⟩
    · obtain ⟨c, e⟩ := cell_has (n := s.heap.objs.size + 1) k
      refine .inr ⟨.inl k, c, e, ?_⟩
      have q := x.cell y c e
      rw [bindC_get ndP hp hu (by show scope.names.lookup y ≠ _; rw [k]; decide)] at q
      exact q
  · exact e0.hok.fresh (Nat.le_of_lt (x.above y c (PySem.mem_of_lookup h)))
  · unfold start
    show _ = N.length
    rw [List.length_append, List.length_map, List.length_replicate]
    omega

/-- THE RULE: a def (or a method) of the text, by its body. The body's reading t is chosen for each entry; it is run at the parameters' values -/
theorem fn_of {CX : CXT} {P : Program} {w : World} {K : PySem.W.Frag} {mg : Str → Option Value} {base : Heap} {k : Nat} {f : Addr} {name qual : Str} {params : Arguments} {body : List Stmt} {scope : Scope} {dV kV doc pm cdv ct oc : Value} {an od : Option Addr}
    {osl : Array (Option Value)} {N ps : List Str} {sp : Sp} (lk : K.lookup f = some ⟨oc, od, .func (PySem.W.fnOf name qual params body scope dV kV doc pm an cdv ct), osl⟩) (hcd : PySem.W.codeIn K cdv qual = true) (S : FnScope N ps scope)
    (len : ∀ vs H Q E, sp vs H Q E → vs.length = ps.length)
    (hbody : ∀ (A : Around) (outer : List Env) (s : Shared) (H : Hp) (vs : List V) (Q : VK) (E : XK), Room k (A.deeper (envOfC qual scope s.heap.objs.size f cdv)) → sp vs H Q E →
      ∃ t, PSs (cxOf CX P w K mg base N qual scope f cdv A outer s H E) body t ∧ t { nx := fun _ H' => Q .non H', rt := Q } (start N vs) H) :
    FnOk P w K mg base CX (k + 1) f (PySem.W.fnOf name qual params body scope dV kV doc pm an cdv ct) ps sp := by
  refine ⟨len, fun A outer s H args us vs Q E hr e0 hb r hsp => ?_⟩
  have hl := len _ _ _ _ hsp
  have KX : K.In s.heap := e0.mod.kin.keeps fun b o e => (e0.bs b o e).1
  have lim : s.heap.NoLimit := e0.mod.nolimit.keeps fun b o e => (e0.bs b o e).1
  have hkind : ∀ y ∈ ps.zip us, scope.names.lookup y.1 = some .local ∨ (scope.names.lookup y.1 = some .cell ∧ ((cellsFrom (s.heap.objs.size + 1) scope.names []).lookup y.1).isSome = true) := fun ⟨n, v⟩ hy => by
    rcases S.par n (List.of_mem_zip hy).1 with q | q
    · exact .inl q
    · exact .inr ⟨q, PySem.W.cellsFrom_some _ _ _ (.inl q)⟩
  refine codeAny_call_function hr.depth (KX _ _ lk) rfl S.co S.gen rfl (PySem.W.codeRec_of KX hcd) (hb _ _ _ _ ?_)
  refine wpAny_newFunctionEnv_cells S.kind hkind fun env he s1 x => ?_
  subst he
  refine ⟨lim.keeps x.toInCall.keep, codeAny_func ?_⟩
  obtain ⟨t, ht, hq⟩ := hbody A outer s H vs Q E (hr.deeper _) hsp
  have I : Inv (cxOf CX P w K mg base N qual scope f cdv A outer s H E) [] (start N vs) H s1 := inv_start S hr.hd e0 hl r x
  refine wpAny_mono (ht [] s1 (start N vs) H _ I hq) (fun fl s' hs => ?_) fun e s' hs => hs
  have fin : ∀ {σ' : St} {H' : Hp} {v : V} {u : Value}, Inv (cxOf CX P w K mg base N qual scope f cdv A outer s H E) [] σ' H' s' → RelV v u → Q v H' → CE outer P w H s Q u s' :=
    fun {σ' H' v u} J rv q => ⟨v, H', J.os, J.bare, J.base, J.hok, rv, q⟩
  cases fl with
  | ret u =>
    obtain ⟨v, σ', H', J, rv, q⟩ := hs
    exact fin J rv q
  | next =>
    obtain ⟨σ', H', J, q⟩ := hs
    exact fin (v := V.non) (u := Value.none) J rfl q
  | brk =>
    obtain ⟨_, _, _, q⟩ := hs
    exact False.elim q
  | cont =>
    obtain ⟨_, _, _, q⟩ := hs
    exact False.elim q
end L2

namespace L2
open PySem PySem.Spec PyProof.Rows
section
variable {X : Cx} {x : Str} {p pos : Pos} {e : Expr} {es : List Expr} {t : TA} {id T : String} {r : List V → Hp → VK → Prop}

def tCB (r : List V → Hp → VK → Prop) (t : TA) : TE := fun σ H Q => t σ H fun vs H1 => r vs H1 Q
/-- f(e, ..), f a built-in function -/
theorem pe_callB (hc : CallR X (.builtin id) r) (hg : Gl X x) (hm : X.mg x = none) (hv : bootBuiltins x = some (.builtin id)) (ha : PA X (e :: es) t) (hn : x ≠ "__name__" := by decide) (hdb : (x == ("__debug__" : Str)) = false := by decide)
    (he : starEach (e :: es) X.env = (false, eval e X.env) :: starEach es X.env := by rfl) (hpl : (backTo pos (starEach es X.env)).any (·.1) = false := by rfl) : PE X (.Call (.Name x p) (e :: es) [] pos) (tCB r t) := by
  intro pins s σ H Q I h
  refine wpAny_Call_Name_kw (ld_blt I hg hm hv ?_ hn hdb)
  exact PyProof.Rows.callWith_builtin1 (thn (ha pos pins s σ H _ I h) fun us s1 ⟨vs, H1, I1, r1, q1⟩ => hc pins s1 σ H1 vs us Q I1 r1 q1) he hpl
/-- T(e, ..), T a built-in type -/
theorem pe_callTy (hc : CallR X (.type T) r) (hg : Gl X x) (hm : X.mg x = none) (hv : bootBuiltins x = some (.type T)) (ha : PA X (e :: es) t) (hn : x ≠ "__name__" := by decide) (hdb : (x == ("__debug__" : Str)) = false := by decide)
    (he : starEach (e :: es) X.env = (false, eval e X.env) :: starEach es X.env := by rfl) (hpl : (backTo pos (starEach es X.env)).any (·.1) = false := by rfl) : PE X (.Call (.Name x p) (e :: es) [] pos) (tCB r t) := by
  intro pins s σ H Q I h
  refine wpAny_Call_Name_kw (ld_blt I hg hm hv ?_ hn hdb)
  exact PyProof.Rows.callWith_type1 (thn (ha pos pins s σ H _ I h) fun us s1 ⟨vs, H1, I1, r1, q1⟩ => hc pins s1 σ H1 vs us Q I1 r1 q1) he hpl
end
end L2

namespace HT
open PySem PyProof.Rows

section
open PySem.SeqAt
open PySem.AutoSeq1 (wpAny_loadPart')
open PySem.MeetsSeq PySem.MeetsSeq2 PySem.MeetsSeq3

end

section
variable {prog : Program} {w : World} {A : Around} {E : Value → Shared → Prop} {s : Shared}

/-- t + u, t not empty -/
theorem cat_tup {t b : Addr} {vs ws : List Value} {Q : Value → Shared → Prop} (ht : IsTup s.heap t vs.toArray) (hb : IsTup s.heap b ws.toArray) (hv : vs ≠ [])
    (h1 : ws = [] → Q (.ref t) s) (h2 : ws ≠ [] → Q (.ref s.heap.objs.size) { s with heap := s.heap.push { cls := .type "tuple", data := .seq (vs ++ ws).toArray } })
    (hsz : vs.length + ws.length ≤ sizeLine) : wpAny (model prog w) A (binaryOp .Add (.ref t) (.ref b)) Q E s := by
  obtain ⟨⟨cls, dd, data, sl⟩, ho, hc, n, hd⟩ := id ht
  obtain ⟨⟨cls2, dd2, data2, sl2⟩, ho2, hc2, n2, hd2⟩ := id hb
  simp only at hc hd hc2 hd2
  subst hc hd hc2 hd2
  have e : vs.toArray ++ ws.toArray = (vs ++ ws).toArray := by simp
  by_cases hw : ws = []
  · exact concat_meets ⟨_, ho, rfl⟩ ⟨_, ho2, rfl⟩ noFill_tuple_add seq_tuple_add PySem.F.slot_tuple_add PySem.F.entry_tuple_add (PySem.F.args_tuple_add_2 _ _)
      (tuple_addW1 t b vs.toArray ws.toArray n n2 dd dd2 sl sl2 (by simpa using hv) (by simp [hw])) ⟨ho, ho2, h1 hw⟩
  · refine concat_meets ⟨_, ho, rfl⟩ ⟨_, ho2, rfl⟩ noFill_tuple_add seq_tuple_add PySem.F.slot_tuple_add PySem.F.entry_tuple_add (PySem.F.args_tuple_add_2 _ _)
      (tuple_addW2 t b vs.toArray ws.toArray n n2 dd dd2 sl sl2 (by simpa using hv) (by simpa using hw) (by rw [List.size_toArray, List.size_toArray]; exact hsz)) ⟨ho, ho2, ?_⟩
    rw [e]
    exact h2 hw

/-! ### t[a:b], not the whole -/
/-- a slice's bound as a place among n (d where it is left out) -/
def sIx (n d : Nat) : Option Int → Nat
  | none => d
  | some v => if v < 0 then (v + (n : Int)).toNat else min v.toNat n
theorem sIx_none (n d : Nat) : sIx n d none = d := rfl
theorem sIx_nat (n d k : Nat) : sIx n d (some (k : Int)) = min k n := by
  show (if (k : Int) < 0 then ((k : Int) + (n : Int)).toNat else min (k : Int).toNat n) = min k n
  rw [if_neg (by omega), Int.toNat_natCast]
theorem sIx_le (n d : Nat) (hd : d ≤ n) (o : Option Int) : sIx n d o ≤ n := by
  cases o with
  | none => exact hd
  | some v =>
    show (if v < 0 then (v + (n : Int)).toNat else min v.toNat n) ≤ n
    by_cases hv : v < 0
    · rw [if_pos hv]; omega
    · rw [if_neg hv]; exact Nat.min_le_right _ _
theorem clip_eq (v : Int) (n d : Nat) : (if v < 0 then max (v + (n : Int)) 0 else min v (n : Int)) = ((sIx n d (some v) : Nat) : Int) := by
  show (if v < 0 then max (v + (n : Int)) 0 else min v (n : Int)) = (((if v < 0 then (v + (n : Int)).toNat else min v.toNat n) : Nat) : Int)
  by_cases hv : v < 0
  · simp only [if_pos hv]; omega
  · simp only [if_neg hv]; omega
theorem adjust_gen (lo hi : Option Int) (n : Nat) : Builtin.Slice.sliceAdjust lo hi 1 (n : Int) = (((sIx n 0 lo : Nat) : Int), ((sIx n n hi : Nat) : Int)) := by
  have h1 : ¬ ((1 : Int) < 0) := by omega
  unfold Builtin.Slice.sliceAdjust
  simp only [h1, if_false]
  refine Prod.ext ?_ ?_
  · cases lo with
    | none => rfl
    | some v => exact clip_eq v n 0
  · cases hi with
    | none => rfl
    | some v => exact clip_eq v n n
theorem places_gen (i j : Nat) : Builtin.Slice.slicePlaces (i : Int) (j : Int) 1 = j - i := by
  unfold Builtin.Slice.slicePlaces
  have h1 : (1 : Int) > 0 := by omega
  simp only [h1, if_true, Int.ediv_one]
  split <;> omega
theorem slicePart_ {v : Value} {o : Option Int} {Q : Option Int → Shared → Prop} (p : IsPart v o) (h : Q o s) : wpAny (model prog w) A (Builtin.Slice.slicePartIndex v) Q E s := by
  cases p with
  | none => exact slicePart_none h
  | int i t => exact slicePart_int h
theorem sliceApplied_gen {sl : Addr} {vl vu : Value} {lo hi : Option Int} {n : Nat} {Q : Int × Int × Nat → Shared → Prop} (hs : s.heap.IsSliceOf sl vl vu .none) (pl : IsPart vl lo) (pu : IsPart vu hi)
    (h : Q (((sIx n 0 lo : Nat) : Int), 1, sIx n n hi - sIx n 0 lo) s) : wpAny (model prog w) A (Builtin.Slice.sliceApplied (.ref sl) (pure (n : Int))) Q E s := by
  obtain ⟨os, hos, hcs, hds⟩ := id hs
  unfold Builtin.Slice.sliceApplied Builtin.Slice.sliceFields
  refine wpAny_bind (wpAny_bind (wpAny_field hos hds (x := vl) rfl (wpAny_bind (wpAny_field hos hds (x := vu) rfl (wpAny_bind (wpAny_field hos hds (x := .none) rfl (wpAny_pure ?_)))))))
  refine wpAny_bind (slicePart_none ?_)
  show wpAny _ _ (if ((1 : Int) == 0) = true then _ else _) _ _ s
  rw [if_neg (by decide)]
  refine wpAny_bind (slicePart_ pl (wpAny_bind (slicePart_ pu (wpAny_bind (wpAny_pure ?_)))))
  show wpAny _ _ (match Builtin.Slice.sliceAdjust lo hi 1 (n : Int) with | (lo, hi) => pure (lo, (1 : Int), Builtin.Slice.slicePlaces lo hi 1)) _ _ s
  rw [adjust_gen lo hi n]
  show wpAny _ _ (pure (((sIx n 0 lo : Nat) : Int), (1 : Int), Builtin.Slice.slicePlaces ((sIx n 0 lo : Nat) : Int) ((sIx n n hi : Nat) : Int) 1)) _ _ s
  rw [places_gen]
  exact wpAny_pure h
theorem pick_gen (xs : Array Value) (i k : Nat) : ((List.range k).filterMap fun (m : Nat) => xs[((i : Int) + (m : Int) * 1).toNat]?).toArray = ((xs.toList.drop i).take k).toArray := by
  have e : (fun (m : Nat) => xs[((i : Int) + (m : Int) * 1).toNat]?) = fun m => xs[i + m]? := by
    funext m
    have : ((i : Int) + (m : Int) * 1).toNat = i + m := by omega
    rw [this]
  rw [e]
  have := pick_run xs i k
  rw [List.filterMap_map] at this
  have e2 : ((fun x => xs[x]?) ∘ fun x => i + x) = fun m => xs[i + m]? := rfl
  rw [e2] at this
  rw [this]

theorem getItem_tuple_cut {t sl : Addr} {items : Array Value} {vl vu : Value} {lo hi : Option Int} {Q : Value → Shared → Prop} (ht : IsTup s.heap t items) (hs : s.heap.IsSliceOf sl vl vu .none) (pl : IsPart vl lo) (pu : IsPart vu hi)
    (hw : ¬ (sIx items.size 0 lo = 0 ∧ sIx items.size items.size hi = items.size))
    (h : Q (.ref s.heap.objs.size) { s with heap := s.heap.push { cls := .type "tuple", data := .seq ((items.toList.drop (sIx items.size 0 lo)).take (sIx items.size items.size hi - sIx items.size 0 lo)).toArray } })
    (hsz : items.size ≤ sizeLine) : wpAny (model prog w) A (getItem (.ref t) (.ref sl)) Q E s := by
  have htake : sizeOk (.seq ((items.toList.drop (sIx items.size 0 lo)).take (sIx items.size items.size hi - sIx items.size 0 lo)).toArray) := by
    show ((items.toList.drop (sIx items.size 0 lo)).take (sIx items.size items.size hi - sIx items.size 0 lo)).toArray.size ≤ sizeLine
    rw [List.size_toArray, List.length_take, List.length_drop, Array.length_toList]
    omega
  have hj : sIx items.size items.size hi ≤ items.size := sIx_le _ _ (Nat.le_refl _) hi
  obtain ⟨os, hos, hcs, hds⟩ := id hs
  have hTs : s.TypeIs (.ref sl) "slice" := ⟨os, hos, hcs⟩
  unfold getItem
  try with_reducible refine wpAny_holding ?_
  first | refine wpAny_bind (wpAny_pure ?_) | skip
  refine wpAny_bind (wpAny_sequenceKey ht.typeIs (by decide) ?_)
  refine wpAny_bind (wpAny_callSpecial?_slot (name := Str.ofString "__getitem__") ht.typeIs PyProof.Rows.slot_tuple_getitem
    (wpAny_call_entry PyProof.Rows.slot_tuple_getitem ht.typeIs entry_tuple_getitem ?_ (args_tuple_getitem _ _)))
  show wpAny _ _ (Builtin.Tuple.tupleItemsOf (.ref t) >>= _) _ _ s
  refine wpAny_bind (tupleItemsOf_ ht ?_)
  refine wpAny_bind (wpAny_typeOf hTs ?_)
  rw [if_pos (by decide)]
  refine wpAny_bind (sliceApplied_gen hs pl pu ?_)
  have hno : ¬ ((((sIx items.size 0 lo : Nat) : Int) == 0 && (1 : Int) == 1 && (sIx items.size items.size hi - sIx items.size 0 lo) == items.size) = true) := by
    intro q
    rw [Bool.and_eq_true, Bool.and_eq_true] at q
    have q1 : ((sIx items.size 0 lo : Nat) : Int) = 0 := eq_of_beq q.1.1
    have q2 : sIx items.size items.size hi - sIx items.size 0 lo = items.size := eq_of_beq q.2
    exact hw ⟨by omega, by omega⟩
  show wpAny _ _ (if (((sIx items.size 0 lo : Nat) : Int) == 0 && (1 : Int) == 1 && (sIx items.size items.size hi - sIx items.size 0 lo) == items.size) = true then _ else _) _ _ s
  rw [if_neg hno, pick_gen]
  first
    | exact wpAny_bind (m := Builtin.Tuple.tupleExact _) (wpAny_newObj_type (wpAny_pure ⟨_, rfl, wpAny_pure h⟩) htake)
    | exact wpAny_bind (m := Builtin.Tuple.tupleExact _) (wpAny_newObj_type (wpAny_bind (wpAny_pure (wpAny_pure ⟨_, rfl, wpAny_pure h⟩))) htake)
    | exact wpAny_bind (wpAny_bind (m := Builtin.Tuple.tupleExact _) (wpAny_newObj_type (wpAny_pure (wpAny_pure ⟨_, rfl, wpAny_pure h⟩)) htake))
    | exact wpAny_bind (wpAny_bind (m := Builtin.Tuple.tupleExact _) (wpAny_newObj_type (wpAny_pure ⟨_, rfl, wpAny_pure h⟩) htake))
end
end HT

namespace L2
open PySem PySem.Spec PyProof.Rows

/-! ### the parts of a slice -/
abbrev TO := St → Hp → (Option Int → Hp → Prop) → Prop
/-- a slice's part (left out, or an int) -/
def PO (X : Cx) (e : Option Expr) (t : TO) : Prop :=
  ∀ (pins : List (Addr × Obj)) (s : Shared) (σ : St) (H : Hp) (Q : Option Int → Hp → Prop), Inv X pins σ H s → t σ H Q →
    wpAny (model X.prog X.w) X.A (evalPart e X.env) (fun u s' => ∃ o H', Inv X pins σ H' s' ∧ IsPart u o ∧ Q o H') X.xe s
def tNoPart : TO := fun _ H Q => Q none H
def tPart (t : TE) : TO := fun σ H Q => t σ H fun x H1 => ∃ i, x = .int i ∧ Q (some i) H1

section
variable {X : Cx} {e : Expr} {te : TE} {lo hi : Option Expr} {tl th : TO} {pos p2 : Pos}

theorem po_none : PO X none tNoPart := by
  intro pins s σ H Q I h
  rw [evalPart_none]
  exact wpAny_pure ⟨none, H, I, .none, h⟩
theorem po_some (h : PE X e te) : PO X (some e) (tPart te) := by
  intro pins s σ H Q I hw
  rw [evalPart_some]
  refine thn (h pins s σ H _ I hw) fun u s1 ⟨x, H1, I1, r1, q1⟩ => ?_
  obtain ⟨i, rfl, q⟩ := q1
  obtain ⟨t, rfl⟩ := r1
  exact ⟨some i, H1, I1, .int i t, q⟩

/-- what a slice of a value is, by values: the slice object stands at sl -/
def SlR (X : Cx) (r : V → Option Int → Option Int → Hp → VK → Prop) : Prop :=
  ∀ (pins : List (Addr × Obj)) (s : Shared) (σ : St) (H : Hp) (x : V) (v vl vu : Value) (lo hi : Option Int) (sl : Addr) (Q : VK), Inv X pins σ H s → RelV x v → s.heap.IsSliceOf sl vl vu .none → IsPart vl lo → IsPart vu hi → r x lo hi H Q →
    ∃ T id, typeLookup (.type T) "__getitem__" = pure (some (.builtin id)) ∧ s.TypeIs v T ∧ wpAny (model X.prog X.w) X.A (getItem v (.ref sl)) (EP X pins σ Q) X.xe s
theorem SlR.or {r r' : V → Option Int → Option Int → Hp → VK → Prop} (h : SlR X r) (h' : SlR X r') : SlR X (fun x lo hi H Q => r x lo hi H Q ∨ r' x lo hi H Q) := by
  intro pins s σ H x v vl vu lo hi sl Q I rx hs pl pu q
  rcases q with q | q
  · exact h pins s σ H x v vl vu lo hi sl Q I rx hs pl pu q
  · exact h' pins s σ H x v vl vu lo hi sl Q I rx hs pl pu q
def tSl (r : V → Option Int → Option Int → Hp → VK → Prop) (te : TE) (tl th : TO) : TE := fun σ H Q => te σ H fun x H1 => tl σ H1 fun l H2 => th σ H2 fun u H3 => r x l u H3 Q
/-- a[lo:hi], any a -/
theorem pe_slice {r : V → Option Int → Option Int → Hp → VK → Prop} (hr : SlR X r) (he : PE X e te) (hl : PO X lo tl) (hu : PO X hi th) : PE X (.Subscript e (.Slice lo hi none p2) pos) (tSl r te tl th) := by
  intro pins s σ H Q I h
  refine Subscript_ (thn (he pins s σ H _ I h) fun v s1 ⟨x, H1, I1, r1, q1⟩ => ?_)
  refine wpAny_Slice (thn (hl pins s1 σ H1 _ I1 q1) fun vl s2 ⟨l, H2, I2, pl, q2⟩ => thn (hu pins s2 σ H2 _ I2 q2) fun vu s3 ⟨u, H3, I3, pu, q3⟩ => ?_)
  rw [evalPart_none]
  refine wpAny_pure ?_
  have I4 : Inv X pins σ H3 { s3 with heap := s3.heap.push { cls := .type "slice", data := .fields #[vl, vu, .none] } } := I3.kept (t' := s3.toks) fun b ob q => Heap.get?_push_of_some _ q
  obtain ⟨T, id, hT, ht, hg⟩ := hr pins { s3 with heap := s3.heap.push { cls := .type "slice", data := .fields #[vl, vu, .none] } } σ H3 x v vl vu l u s3.heap.objs.size Q I4 r1 (Heap.IsSliceOf.new ..) pl pu q3
  show wpAny (model X.prog X.w) X.A (subscriptTail e (.Slice lo hi none p2) v (.ref s3.heap.objs.size)) (EP X pins σ Q) X.xe { s3 with heap := s3.heap.push { cls := .type "slice", data := .fields #[vl, vu, .none] } }
  exact tail_any (ops := [.ref s3.heap.objs.size, v]) ht hT hg (by with_unfolding_all rfl)

/-- the items of xs[lo:hi] -/
def cutV (xs : List V) (lo hi : Option Int) : List V := (xs.drop (HT.sIx xs.length 0 lo)).take (HT.sIx xs.length xs.length hi - HT.sIx xs.length 0 lo)
theorem cutV_length (xs : List V) (lo hi : Option Int) : (cutV xs lo hi).length ≤ xs.length := by
  unfold cutV
  rw [List.length_take, List.length_drop]
  omega
/-- t[lo:hi], not the whole of it (the whole would be t itself) -/
def rSlT (K : PySem.W.Frag) : V → Option Int → Option Int → Hp → VK → Prop := fun x lo hi H Q => ∃ a xs, x = .ref a ∧ SqT K H a xs ∧
  ¬ (HT.sIx xs.length 0 lo = 0 ∧ HT.sIx xs.length xs.length hi = xs.length) ∧ ∀ p, H p = none → Q (.ref p) (upd H p (.tup (cutV xs lo hi)))
theorem sl_tup : SlR X (rSlT X.K) := by
  intro pins s σ H x v vl vu lo hi sl Q I rx hs pl pu h
  obtain ⟨a, xs, rfl, hx, hw, q⟩ := h
  cases rx
  obtain ⟨its, r, ht, hz⟩ := I.tuple hx
  have hlen : its.toArray.size = xs.length := by rw [List.size_toArray]; exact r.length.symm
  refine ⟨"tuple", _, PyProof.Rows.slot_tuple_getitem.lookup, ht.typeIs, ?_⟩
  refine HT.getItem_tuple_cut ht hs pl pu (by rw [hlen]; exact hw) ?_ (by rw [hlen]; exact hz)
  rw [hlen]
  refine ⟨.ref s.heap.objs.size, _, I.laid (t' := s.toks) (o := .tup (cutV xs lo hi)) (fun b ob q => Heap.get?_push_of_some _ q) (Nat.le_refl _) ?_, rfl, q _ (I.hok.fresh (Nat.le_refl _))⟩
  exact ⟨Nat.le_trans (cutV_length xs lo hi) hz, _, (r.drop (HT.sIx xs.length 0 lo)).take (HT.sIx xs.length xs.length hi - HT.sIx xs.length 0 lo), IsTup.new _ _⟩

/-! ### t < u, t + u -/
/-- t + u, t not empty: u empty gives t itself -/
def rCatT (K : PySem.W.Frag) : R2 := fun x y H Q => ∃ a b xs ys, x = .ref a ∧ y = .ref b ∧ SqT K H a xs ∧ SqT K H b ys ∧ xs ≠ [] ∧ xs.length + ys.length ≤ sizeLine ∧
  (ys = [] → Q (.ref a) H) ∧ (ys ≠ [] → ∀ p, H p = none → Q (.ref p) (upd H p (.tup (xs ++ ys))))
theorem Vals.nil_iff {xs : List V} {us : List Value} (r : Vals xs us) : us = [] ↔ xs = [] := by
  cases r with
  | nil => simp
  | cons _ _ => simp
theorem op_catT : OpR X (binaryOp .Add) (rCatT X.K) := by
  intro pins s σ H x y v u Q I rx ry h
  obtain ⟨a, b, xs, ys, rfl, rfl, ha, hb, hx, hz, q1, q2⟩ := h
  cases rx
  cases ry
  obtain ⟨its, r1, p1, _⟩ := I.tuple ha
  obtain ⟨its2, r2, p2, _⟩ := I.tuple hb
  refine HT.cat_tup p1 p2 (fun z => hx (r1.nil_iff.mp z)) (fun z => ⟨.ref a, H, I, rfl, q1 (r2.nil_iff.mp z)⟩) (fun z => ?_) (by rw [← r1.length, ← r2.length]; exact hz)
  refine ⟨.ref s.heap.objs.size, _, I.laid (t' := s.toks) (o := .tup (xs ++ ys)) (fun b ob q => Heap.get?_push_of_some _ q) (Nat.le_refl _) ?_, rfl, q2 (fun w => z (r2.nil_iff.mpr w)) _ (I.hok.fresh (Nat.le_refl _))⟩
  exact ⟨by rw [List.length_append]; exact hz, _, r1.append r2, IsTup.new _ _⟩
end
end L2

namespace L2
open PySem PySem.Spec PyProof.Rows

/-! ### places -/
/-- the place that an index of any sign means -/
def ixN (n : Nat) (i : Int) : Option Nat := if 0 ≤ i then (if i < n then some i.toNat else none) else if -(n : Int) ≤ i then some (i + n).toNat else none
def atI {α : Type} (xs : List α) (i : Int) : Option α := (ixN xs.length i).bind fun j => xs[j]?
theorem ixN_seq {n : Nat} {i : Int} {j : Nat} (h : ixN n i = some j) : seqIndex? i n = some j ∧ j < n ∧ -(n : Int) ≤ i ∧ i < n := by
  unfold ixN at h
  by_cases h0 : 0 ≤ i
  · rw [if_pos h0] at h
    by_cases h1 : i < n
    · rw [if_pos h1] at h
      have e : i.toNat = j := Option.some.inj h
      exact ⟨by rw [seqIndex_of h0 h1, e], by omega, by omega, h1⟩
    · rw [if_neg h1] at h; cases h
  · rw [if_neg h0] at h
    by_cases h1 : -(n : Int) ≤ i
    · rw [if_pos h1] at h
      have e : (i + n).toNat = j := Option.some.inj h
      exact ⟨by rw [seqIndex_neg (by omega) h1, e], by omega, h1, by omega⟩
    · rw [if_neg h1] at h; cases h
theorem atI_get {α : Type} {xs : List α} {i : Int} {v : α} (h : atI xs i = some v) : ∃ j, seqIndex? i xs.length = some j ∧ xs[j]? = some v ∧ j < xs.length ∧ -(xs.length : Int) ≤ i ∧ i < xs.length := by
  unfold atI at h
  cases e : ixN xs.length i with
  | none => rw [e] at h; cases h
  | some j =>
    rw [e] at h
    obtain ⟨h1, h2, h3, h4⟩ := ixN_seq e
    exact ⟨j, h1, h, h2, h3, h4⟩
theorem atI_nat {α : Type} {xs : List α} {j : Nat} {v : α} (h : xs[j]? = some v) : atI xs (j : Int) = some v := by
  have hj : j < xs.length := (List.getElem?_eq_some_iff.mp h).1
  have e : ixN xs.length (j : Int) = some j := by
    unfold ixN
    rw [if_pos (by omega), if_pos (by omega)]; simp
  unfold atI; rw [e]; exact h
/-! ### what may be subscripted -/
/-- what stands as an index of a plain subscript -/
def PlainIx (b : Expr) : Prop := ∀ o i, subscripted b false o i = operate [o, i] (getItem o i)
/-- a subscript by values -/
def IxR (X : Cx) (r : R2) : Prop :=
  ∀ (value slice : Expr) (pins : List (Addr × Obj)) (s : Shared) (σ : St) (H : Hp) (x y : V) (v u : Value) (Q : VK), Inv X pins σ H s → RelV x v → RelV y u → r x y H Q →
    subscripted slice false v u = operate [v, u] (getItem v u) → wpAny (model X.prog X.w) X.A (subscriptTail value slice v u) (EP X pins σ Q) X.xe s
/-- a call of a builtin's method by values: the receiver, the arguments -/
def MtR (X : Cx) (id : String) (r : V → List V → Hp → VK → Prop) : Prop :=
  ∀ (pins : List (Addr × Obj)) (s : Shared) (σ : St) (H : Hp) (x : V) (xs : List V) (v : Value) (us : List Value) (Q : VK), Inv X pins σ H s → RelV x v → Vals xs us → r x xs H Q →
    wpAny (model X.prog X.w) X.A (call (.builtin id) (v :: us)) (EP X pins σ Q) X.xe s
section
variable {X : Cx} {a b : Expr} {ta tb : TE} {pos : Pos}
theorem IxR.or {r r' : R2} (h : IxR X r) (h' : IxR X r') : IxR X (fun x y H Q => r x y H Q ∨ r' x y H Q) := by
  intro value slice pins s σ H x y v u Q I rx ry q hs
  rcases q with q | q
  · exact h value slice pins s σ H x y v u Q I rx ry q hs
  · exact h' value slice pins s σ H x y v u Q I rx ry q hs
theorem MtR.or {id : String} {r r' : V → List V → Hp → VK → Prop} (h : MtR X id r) (h' : MtR X id r') : MtR X id (fun x xs H Q => r x xs H Q ∨ r' x xs H Q) := by
  intro pins s σ H x xs v us Q I rx rs q
  rcases q with q | q
  · exact h pins s σ H x xs v us Q I rx rs q
  · exact h' pins s σ H x xs v us Q I rx rs q
/-- a[b] -/
theorem pe_ix {r : R2} (hr : IxR X r) (ha : PE X a ta) (hb : PE X b tb) (hs : PlainIx b) : PE X (.Subscript a b pos) (tOp r ta tb) := by
  intro pins s σ H Q I h
  exact Subscript_ (binT ha hb I h fun v u s2 x y H2 I2 rx ry q => hr a b pins s2 σ H2 x y v u Q I2 rx ry q (hs _ _))

def rIxL (K : PySem.W.Frag) : R2 := fun x y H Q => ∃ p xs i v, x = .ref p ∧ y = .int i ∧ SqL K H p xs ∧ atI xs i = some v ∧ Q v H
def rIxT (K : PySem.W.Frag) : R2 := fun x y H Q => ∃ p xs i v, x = .ref p ∧ y = .int i ∧ SqT K H p xs ∧ atI xs i = some v ∧ Q v H
def rIxS : R2 := fun x y H Q => ∃ z i c, x = .str z ∧ y = .int i ∧ z.length ≤ sizeLine ∧ atI z.cps.toList i = some c ∧ Q (.str ⟨#[c]⟩) H
theorem ix_list : IxR X (rIxL X.K) := by
  intro value slice pins s σ H x y v u Q I rx ry h hs
  obtain ⟨p, xs, i, z, rfl, rfl, hq, he, q⟩ := h
  cases rx
  obtain ⟨t, rfl⟩ := ry
  obtain ⟨its, r, pl, hz⟩ := I.list hq
  obtain ⟨j, h1, h2, h3, h4, h5⟩ := atI_get he
  obtain ⟨w, ew, rw'⟩ := r.get h2
  have hl := r.length
  have hn := line63
  have fin : EP X pins σ Q w s := ⟨z, H, I, rw', q⟩
  by_cases h0 : 0 ≤ i
  · have hj : i.toNat = j := by
      rw [seqIndex_of h0 h5] at h1
      exact Option.some.inj h1
    exact item_listR pl.isList h0 (by omega) (by rw [hj]; simpa using ew) fin hs
  · have hj : (i + (its.toArray.size : Int)).toNat = j := by
      rw [seqIndex_neg (by omega) h4] at h1
      rw [List.size_toArray, ← hl]
      exact Option.some.inj h1
    exact subscriptTail_builtinR (x := w) pl.isList.typeIs slot_list_getitem.lookup
      (wpAny_getItem_list_neg (Q := fun r s' => r = w ∧ EP X pins σ Q r s') pl.isList (by omega) (by rw [List.size_toArray] <;> omega) (by omega) (by rw [hj]; simpa using ew) ⟨rfl, fin⟩) hs
theorem ix_tup : IxR X (rIxT X.K) := by
  intro value slice pins s σ H x y v u Q I rx ry h hs
  obtain ⟨p, xs, i, z, rfl, rfl, hq, he, q⟩ := h
  cases rx
  obtain ⟨t, rfl⟩ := ry
  obtain ⟨its, r, pl, hz⟩ := I.tuple hq
  obtain ⟨j, h1, h2, h3, h4, h5⟩ := atI_get he
  obtain ⟨w, ew, rw'⟩ := r.get h2
  have hl := r.length
  have hn := line63
  have fin : EP X pins σ Q w s := ⟨z, H, I, rw', q⟩
  exact subscriptTail_builtinR (x := w) pl.typeIs slot_tuple_getitem.lookup
    (getItem_tuple (j := j) (Q := fun r s' => r = w ∧ EP X pins σ Q r s') pl (by omega) (by omega) (by rw [List.size_toArray, ← hl]; exact h1) (by simpa using ew) ⟨rfl, fin⟩) hs
theorem ix_str : IxR X rIxS := by
  intro value slice pins s σ H x y v u Q I rx ry h hs
  obtain ⟨z, i, c, rfl, rfl, hz, he, q⟩ := h
  obtain ⟨t, rfl⟩ := rx
  obtain ⟨t', rfl⟩ := ry
  obtain ⟨j, h1, h2, h3, h4, h5⟩ := atI_get he
  have hl : z.cps.toList.length = z.length := by simp [Str.length]
  rw [hl] at h1 h4 h5
  have hn := line63
  exact tail_any (typeIs_str s z t) slot_str_getitem.lookup (getItem_str (c := c) (by
    have e1 : decide (i < -(2 ^ 63 : Int)) = false := decide_eq_false (by omega)
    have e2 : decide (i ≥ 2 ^ 63) = false := decide_eq_false (by omega)
    rw [e1, e2, Bool.or_false]) (by rw [h1]; simpa using h2) ⟨.str ⟨#[c]⟩, H, I.tok _, ⟨_, rfl⟩, q⟩) hs
/-- list, tuple or str -/
def rIx (K : PySem.W.Frag) : R2 := fun x y H Q => rIxL K x y H Q ∨ rIxT K x y H Q ∨ rIxS x y H Q
theorem ix_seq : IxR X (rIx X.K) := ix_list.or (ix_tup.or ix_str)

/-! ### xs[i] = v, any sign -/
theorem Inv.lst {pins : List (Addr × Obj)} {σ : St} {H : Hp} {s : Shared} {p : Addr} {xs : List V} (I : Inv X pins σ H s) (h : H p = some (.lst xs)) :
    ∃ (its : List Value) (n : Nat), Vals xs its ∧ s.heap.get? p = some { cls := .type "list", data := .seq its.toArray n } ∧ xs.length ≤ sizeLine := by
  obtain ⟨z, its, n, r, e⟩ := I.hok p _ h
  exact ⟨its, n, r, e, z⟩
/-! ### slices -/
theorem slice_bounds (lo hi : Option Int) (n : Nat) : (sliceBounds lo hi none n).1 = ((HT.sIx n 0 lo : Nat) : Int) ∧ (sliceBounds lo hi none n).2.1 = ((HT.sIx n n hi : Nat) : Int) ∧ (sliceBounds lo hi none n).2.2 = 1 := by
  refine ⟨?_, ?_, rfl⟩
  · cases lo with
    | none => simp [sliceBounds, HT.sIx]
    | some i =>
      simp only [sliceBounds, HT.sIx, Option.getD_none, show (1 : Int) > 0 by decide, if_true]
      by_cases h : i < 0
      · simp only [h, if_true] <;> omega
      · simp only [h, if_false] <;> omega
  · cases hi with
    | none => simp [sliceBounds, HT.sIx]
    | some i =>
      simp only [sliceBounds, HT.sIx, Option.getD_none, show (1 : Int) > 0 by decide, if_true]
      by_cases h : i < 0
      · simp only [h, if_true] <;> omega
      · simp only [h, if_false] <;> omega
theorem slicePick_cut (its : List Value) (lo hi : Option Int) : slicePick its.toArray lo hi none = ((its.drop (HT.sIx its.length 0 lo)).take (HT.sIx its.length its.length hi - HT.sIx its.length 0 lo)).toArray := by
  obtain ⟨h1, h2, h3⟩ := slice_bounds lo hi its.toArray.size
  unfold slicePick
  rw [h1, h2, h3]
  simp only [sliceRange_one, pick_run, List.size_toArray] <;> rfl
/-- xs[lo:hi] of a list: a new list -/
def rSlL (K : PySem.W.Frag) : V → Option Int → Option Int → Hp → VK → Prop := fun x lo hi H Q => ∃ a xs, x = .ref a ∧ SqL K H a xs ∧ ∀ p, H p = none → Q (.ref p) (upd H p (.lst (cutV xs lo hi)))
theorem sl_list : SlR X (rSlL X.K) := by
  intro pins s σ H x v vl vu lo hi sl Q I rx hs pl pu h
  obtain ⟨a, xs, rfl, hx, q⟩ := h
  cases rx
  obtain ⟨its, r, ht, hz⟩ := I.list hx
  have hlen := r.length
  refine ⟨"list", _, slot_list_getitem.lookup, ht.isList.typeIs, ?_⟩
  refine wpAny_getItem_list_slice ht.isList hs pl pu .none (by simp) ?_ (by rw [List.size_toArray] <;> omega)
  rw [slicePick_cut, ← hlen]
  refine ⟨.ref s.heap.objs.size, _, I.laid (t' := s.toks) (o := .lst (cutV xs lo hi)) (fun b ob q => Heap.get?_push_of_some _ q) (Nat.le_refl _) ?_, rfl, q _ (I.hok.fresh (Nat.le_refl _))⟩
  exact ⟨Nat.le_trans (cutV_length xs lo hi) hz, _, 0, (r.drop (HT.sIx xs.length 0 lo)).take (HT.sIx xs.length xs.length hi - HT.sIx xs.length 0 lo), Heap.get?_push_size _ rfl⟩

/-! ### in, not in: flat items -/
/-! ### len, list(x), tuple(x) of any list or tuple that is read -/
theorem CallR.or {f : Value} {r r' : List V → Hp → VK → Prop} (h : CallR X f r) (h' : CallR X f r') : CallR X f (fun xs H Q => r xs H Q ∨ r' xs H Q) := by
  intro pins s σ H xs us Q I rs q
  rcases q with q | q
  · exact h pins s σ H xs us Q I rs q
  · exact h' pins s σ H xs us Q I rs q
theorem call_list_of : CallR X (.type "list") (fun xs H Q => ∃ p ys, xs = [.ref p] ∧ (SqL X.K H p ys ∨ SqT X.K H p ys) ∧ ∀ l, H l = none → Q (.ref l) (upd H l (.lst ys))) := by
  intro pins s σ H xs us Q I r h
  obtain ⟨p, ys, rfl, hq, q⟩ := h
  obtain ⟨u, rfl, rx⟩ := vals1 r
  cases rx
  have fin : ∀ (its : List Value), Vals ys its → ys.length ≤ sizeLine → ∀ (h' : Heap) (c' : Nat), (∀ b o', s.heap.get? b = some o' → h'.get? b = some o') →
      h'.get? s.heap.objs.size = some { cls := .type "list", dict := none, data := .seq its.toArray c', slots := #[] } → EP X pins σ Q (.ref s.heap.objs.size) { s with heap := h' } := fun its r' hz h' c' kp e =>
    ⟨.ref s.heap.objs.size, _, I.laid (t' := s.toks) kp (Nat.le_refl _) (show ObjOk X.prog X.w _ h' _ (.lst ys) from ⟨hz, its, c', r', e⟩), rfl, q _ (I.hok.fresh (Nat.le_refl _))⟩
  rcases hq with hq | hq
  · obtain ⟨its, r', pl, hz⟩ := I.list hq
    have hlen := r'.length
    obtain ⟨o, ho, hc, n, hd⟩ := pl.isList
    exact call_list_seq p (.inl rfl) ho hc hd (fun h' c' kp e => fin its r' hz h' c' kp e) (by simp only [List.size_toArray] <;> omega)
  · obtain ⟨its, r', pl, hz⟩ := I.tuple hq
    have hlen := r'.length
    obtain ⟨o, ho, hc, n, hd⟩ := pl
    exact call_list_seq p (.inr rfl) ho hc hd (fun h' c' kp e => fin its r' hz h' c' kp e) (by simp only [List.size_toArray] <;> omega)
theorem call_tuple_of : CallR X (.type "tuple") (fun xs H Q => ∃ p ys, xs = [.ref p] ∧ ((SqL X.K H p ys ∧ ∀ l, H l = none → Q (.ref l) (upd H l (.tup ys))) ∨ (SqT X.K H p ys ∧ Q (.ref p) H))) := by
  intro pins s σ H xs us Q I r h
  obtain ⟨p, ys, rfl, h⟩ := h
  obtain ⟨u, rfl, rx⟩ := vals1 r
  cases rx
  rcases h with ⟨hq, q⟩ | ⟨hq, q⟩
  · obtain ⟨its, r', pl, hz⟩ := I.list hq
    have hlen := r'.length
    refine call_tuple_list pl.isList (fun h' kp => ?_) (by simp only [List.size_toArray] <;> omega)
    have I1 : Inv X pins σ H { s with heap := h' } := I.kept (t' := s.toks) kp
    have I2 : Inv X pins σ (upd H h'.objs.size (.tup ys)) { s with heap := h'.push { cls := .type "tuple", data := .seq its.toArray } } :=
      I1.laid (t' := s.toks) (fun b o e => Heap.get?_push_of_some _ e) (Nat.le_refl _) (show ObjOk X.prog X.w _ _ _ (.tup ys) from ⟨hz, its, r', IsTup.new _ _⟩)
    exact ⟨.ref h'.objs.size, _, I2, rfl, q _ (I1.hok.fresh (Nat.le_refl _))⟩
  · obtain ⟨its, r', pl, hz⟩ := I.tuple hq
    exact call_tuple_same pl ⟨.ref p, H, I, rfl, q⟩

/-! ### the call of a builtin's method: o.m(..) -/
/-- the value is of that builtin type -/
def tyV (K : PySem.W.Frag) (T : String) (x : V) (H : Hp) : Prop := match x with
  | .str _ => T = "str"
  | .int _ => T = "int"
  | .ref p => (T = "list" ∧ ∃ xs, SqL K H p xs) ∨ (T = "tuple" ∧ ∃ o, K.lookup p = some o ∧ o.cls = .type "tuple" ∧ o.dict = none) ∨
      (T = "dict" ∧ ((∃ kvs, H p = some (.dK kvs)) ∨ ∃ kvs, H p = some (.dT kvs))) ∨ (T = "set" ∧ ∃ S n, H p = some (.set S n))
  | _ => False
theorem tyV_is {pins : List (Addr × Obj)} {σ : St} {H : Hp} {s : Shared} {T : String} {x : V} {v : Value} (I : Inv X pins σ H s) (r : RelV x v) (ty : tyV X.K T x H) :
    s.TypeIs v T ∧ ∀ a, v = .ref a → ∃ ob, s.heap.get? a = some ob ∧ ob.dict = none := by
  cases x with
  | str z =>
    obtain ⟨t, rfl⟩ := r
    cases (show T = "str" from ty)
    exact ⟨typeIs_str s z t, fun _ e => nomatch e⟩
  | int i =>
    obtain ⟨t, rfl⟩ := r
    cases (show T = "int" from ty)
    exact ⟨typeIs_int s i t, fun _ e => nomatch e⟩
  | ref p =>
    cases r
    rcases ty with ⟨rfl, xs, hq⟩ | ⟨rfl, o, hk, hc, hd⟩ | ⟨rfl, hk⟩ | ⟨rfl, S, n, hk⟩
    · obtain ⟨its, _, pl, _⟩ := I.list hq
      refine ⟨pl.isList.typeIs, fun a e => ?_⟩
      cases e
      obtain ⟨o, n, e, c, hd, _⟩ := pl
      exact ⟨o, e, hd⟩
    · refine ⟨⟨o, I.kIn p o hk, hc⟩, fun a e => ?_⟩
      cases e
      exact ⟨o, I.kIn _ o hk, hd⟩
    · have z : ∃ o, s.heap.get? p = some o ∧ o.ExactDict := by
        rcases hk with ⟨kvs, hk⟩ | ⟨kvs, hk⟩
        · obtain ⟨_, _, _, _, o, _, _, e, ex, _⟩ := I.hok p _ hk
          exact ⟨o, e, ex⟩
        · obtain ⟨_, _, _, _, o, _, _, e, ex, _⟩ := I.hok p _ hk
          exact ⟨o, e, ex⟩
      obtain ⟨o, e, ex⟩ := z
      refine ⟨⟨o, e, ex.1⟩, fun a e2 => ?_⟩
      cases e2
      exact ⟨o, e, ex.2.1⟩
    · obtain ⟨o, _, _, _, e, ex, _⟩ := I.hok p _ hk
      refine ⟨⟨o, e, ex.1⟩, fun a e2 => ?_⟩
      cases e2
      exact ⟨o, e, ex.2.1⟩
  | _ => exact False.elim ty
def tBM (K : PySem.W.Frag) (T : String) (r : V → List V → Hp → VK → Prop) (to : TE) (t : TA) : TE := fun σ H Q => to σ H fun x H1 => tyV K T x H1 ∧ t σ H1 fun xs H2 => r x xs H2 Q
variable {o e : Expr} {es : List Expr} {to : TE} {t : TA} {name : Str} {apos cpos : Pos} {T id : String} {r : V → List V → Hp → VK → Prop}
theorem pe_bm (pa : PlainAttrs T) (slot : Slot T name id) (hty : typeOf (.builtin id) = pure (.type "method_descriptor")) (hm : MtR X id r) (ho : PE X o to) (ha : PA X (e :: es) t)
    (hbase : attributeBase o name X.env (eval o X.env) = eval o X.env := by rfl)
    (hfew : ((backTo cpos (starEach (e :: es) X.env)).all (fun x => !x.1) && (backToKw cpos (keywordEach [] X.env)).all (fun x => x.1.isSome)
      && decide ((e :: es).length + ([] : List Keyword).length + (if ([] : List Keyword).isEmpty then 0 else 1) < 30)) = true := by rfl)
    (hline : (apos.endLine == cpos.line) = true := by rfl) (hs : starEach (e :: es) X.env = (false, eval e X.env) :: starEach es X.env := by rfl) (hplain : (backTo cpos (starEach es X.env)).any (·.1) = false := by rfl) :
    PE X (.Call (.Attribute o name apos) (e :: es) [] cpos) (tBM X.K T r to t) := by
  intro pins s σ H Q I h
  refine wpAny_Call_method_late hbase hfew hline rfl (thn (ho pins s σ H _ I h) fun v s1 ⟨x, H1, I1, r1, ty, q1⟩ => ?_)
  obtain ⟨h1, h2⟩ := tyV_is I1 r1 ty
  refine ⟨T, id, pa, slot, hty, h1, h2, ?_⟩
  have hA := ha cpos pins s1 σ H1 _ I1 q1
  rw [hs] at hA ⊢
  refine Calls.callWith_builtin (by show (false || (backTo cpos (starEach es X.env)).any (·.1)) = false; rw [hplain] <;> rfl) (Calls.evalArgs_plain ?_)
  exact thn hA fun us s2 ⟨vs, H2, I2, r2, q2⟩ => hm pins s2 σ H2 x vs v us Q I2 r1 r2 q2
/- xs.append(e), list.index on a module's tuple .. are MtR facts of 06m -/
end
end L2

namespace L2
open PySem PySem.Spec PyProof.Rows

def MtM (X : Cx) (id : String) (r : V → List V → Hp → VK → Prop) : Prop :=
  ∀ (pins : List (Addr × Obj)) (s : Shared) (σ : St) (H : Hp) (x : V) (xs : List V) (v : Value) (us : List Value) (Q : VK), Inv X pins σ H s → RelV x v → Vals xs us → r x xs H Q →
    wpAny (model X.prog X.w) X.A (call (.builtin id) (v :: us)) (EP X pins σ Q) X.xe s

/-! ### lists of values -/
theorem Vals.one : ∀ {x : V} {us : List Value}, Vals [x] us → ∃ u, us = [u] ∧ RelV x u
  | _, _, .cons r .nil => ⟨_, rfl, r⟩
theorem Vals.two : ∀ {x y : V} {us : List Value}, Vals [x, y] us → ∃ u v, us = [u, v] ∧ RelV x u ∧ RelV y v
  | _, _, _, .cons r (.cons q .nil) => ⟨_, _, rfl, r, q⟩
theorem Vals.zero : ∀ {us : List Value}, Vals [] us → us = []
  | _, .nil => rfl
theorem Vals.dropLast {xs : List V} {us : List Value} (h : Vals xs us) : Vals xs.dropLast us.dropLast := by
  induction h with
  | nil => exact .nil
  | cons r t ih =>
    cases t with
    | nil => exact .nil
    | cons q t' => exact .cons r ih
theorem Vals.reverse {xs : List V} {us : List Value} (h : Vals xs us) : Vals xs.reverse us.reverse := by
  induction h with
  | nil => exact .nil
  | cons r t ih => rw [List.reverse_cons, List.reverse_cons]; exact Vals.append ih (.cons r .nil)
section
variable {X : Cx} {pins : List (Addr × Obj)} {σ : St} {H : Hp} {s : Shared} {l b : Addr} {xs ys zs : List V}

/-! ### the two steps: a tracked list is rewritten, a new list is laid -/
theorem Inv.lset {its its' : List Value} {n : Nat} {f : Array Value → Array Value} {t' : Nat} (I : Inv X pins σ H s) (hH : H l = some (.lst xs))
    (e : s.heap.get? l = some { cls := .type "list", data := .seq its.toArray n }) (hf : f its.toArray = its'.toArray) (hv : Vals ys its') (hz : ys.length ≤ sizeLine) :
    Inv X pins σ (upd H l (.lst ys)) { s with heap := s.heap.update l (Obj.mapSeq f), toks := t' } := by
  have q := PySem.IsL.update e f
  rw [hf] at q
  refine I.write (x := l) (e := l) (by rw [hH]; exact trivial) (.inl rfl) (fun b' u hb hu => (Heap.get?_update_other s.heap (Obj.mapSeq f) (Ne.symm hb)).trans hu) ⟨_, q⟩ ?_
  exact ⟨hz, its', _, hv, q⟩
theorem Inv.lnew {its : List Value} {t' : Nat} (I : Inv X pins σ H s) (hv : Vals ys its) (hz : ys.length ≤ sizeLine) :
    Inv X pins σ (upd H s.heap.objs.size (.lst ys)) { s with heap := s.heap.push { cls := .type "list", data := .seq its.toArray }, toks := t' } :=
  I.laid (fun _ _ q => Heap.get?_push_of_some _ q) (Nat.le_refl _) ⟨hz, its, 0, hv, Heap.get?_push_size _ rfl⟩
theorem Inv.fresh (I : Inv X pins σ H s) : H s.heap.objs.size = none := I.hok.fresh (Nat.le_refl _)
theorem Inv.lstM (I : Inv X pins σ H s) (hH : H l = some (.lst xs)) : xs.length ≤ sizeLine ∧ ∃ (its : List Value) (n : Nat), Vals xs its ∧ xs.length = its.length ∧ s.heap.get? l = some { cls := .type "list", data := .seq its.toArray n } := by
  obtain ⟨z, its, n, r, e⟩ := I.hok l _ hH
  exact ⟨z, its, n, r, r.length, e⟩

theorem notLongL {n : Nat} (h : n ≤ sizeLine) : Builtin.List.listTooLong n = false := by
  unfold Builtin.List.listTooLong
  exact decide_eq_false (by omega)
end

section
variable {X : Cx}

/-! ### methods -/
def rAppend : V → List V → Hp → VK → Prop := fun x vs H Q => ∃ l xs y, x = .ref l ∧ vs = [y] ∧ H l = some (.lst xs) ∧ xs.length < sizeLine ∧ Q .non (upd H l (.lst (xs ++ [y])))
theorem mt_append : MtM X "list.append" rAppend := by
  intro pins s σ H x vs v us Q I rx rv h
  obtain ⟨l, xs, y, rfl, rfl, hH, hz, q⟩ := h
  cases rx
  obtain ⟨u, rfl, ru⟩ := rv.one
  obtain ⟨z, its, n, r, hl, e⟩ := I.lstM hH
  refine call_meets F.slot_list_append ⟨_, e, rfl⟩ F.entry_list_append (F.args_list_append_2 _ _) (PySem.list_append l its.toArray n u (by rw [List.size_toArray]; omega)) ⟨e, ?_⟩
  refine ⟨.non, _, I.lset (its' := its ++ [u]) hH e (by simp) (r.append (.cons ru .nil)) ?_, rfl, q⟩
  rw [List.length_append, List.length_singleton]
  omega

def rExtend : V → List V → Hp → VK → Prop := fun x vs H Q => ∃ l b xs zs, x = .ref l ∧ vs = [.ref b] ∧ H l = some (.lst xs) ∧ H b = some (.lst zs) ∧ xs.length + zs.length ≤ sizeLine ∧ Q .non (upd H l (.lst (xs ++ zs)))
theorem mt_extend : MtM X "list.extend" rExtend := by
  intro pins s σ H x vs v us Q I rx rv h
  obtain ⟨l, b, xs, zs, rfl, rfl, hH, hB, hz, q⟩ := h
  cases rx
  obtain ⟨u, rfl, ru⟩ := rv.one
  cases ru
  obtain ⟨z, its, n, r, hl, e⟩ := I.lstM hH
  obtain ⟨z2, its2, n2, r2, hl2, e2⟩ := I.lstM hB
  have hsz : its.toArray.size + its2.toArray.size ≤ sizeLine := by rw [List.size_toArray, List.size_toArray]; omega
  have hlong : ¬ (!its.toArray.isEmpty && Builtin.List.listTooLong (its.toArray.size + its2.toArray.size)) = true := by
    rw [notLongL hsz, Bool.and_false]
    exact Bool.false_ne_true
  refine call_meets F.slot_list_extend ⟨_, e, rfl⟩ F.entry_list_extend (F.args_list_extend_2 _ _)
    (AutoSeq1.list_extend_list_list_0 l its.toArray n b its2.toArray n2 hlong (by rw [List.size_toArray]; omega) (by omega)) ⟨e, e2, ?_⟩
  refine ⟨.non, _, I.lset (its' := its ++ its2) hH e (by simp) (r.append r2) ?_, rfl, q⟩
  rw [List.length_append]
  omega

/-! ### list + list, list += list, list * int -/
def rCat : R2 := fun x y H Q => ∃ l b xs zs, x = .ref l ∧ y = .ref b ∧ H l = some (.lst xs) ∧ H b = some (.lst zs) ∧ xs.length + zs.length ≤ sizeLine ∧ ∀ p, H p = none → Q (.ref p) (upd H p (.lst (xs ++ zs)))
theorem op_cat : OpR X (binaryOp .Add) rCat := by
  intro pins s σ H x y v u Q I rx ry h
  obtain ⟨l, b, xs, zs, rfl, rfl, hH, hB, hz, q⟩ := h
  cases rx
  cases ry
  obtain ⟨z, its, n, r, hl, e⟩ := I.lstM hH
  obtain ⟨z2, its2, n2, r2, hl2, e2⟩ := I.lstM hB
  refine PySem.P.add_list e e2 ?_ (by rw [List.size_toArray, List.size_toArray]; omega)
  have ea : its.toArray ++ its2.toArray = (its ++ its2).toArray := by simp
  rw [ea]
  exact ⟨.ref _, _, I.lnew (t' := s.toks) (r.append r2) (by rw [List.length_append]; omega), rfl, q _ I.fresh⟩
/-! ### del xs[i] -/
end

/-! ### xs[a:b] = ys -/
section
variable {prog : Program} {w : World} {A : Around} {E : Value → Shared → Prop} {s : Shared}
set_option maxRecDepth 100000 in
end

section
variable {X : Cx}
end
end L2

namespace Att
open PySem PySem.W PySem.Calls PyProof.Rows

/-! ### the script -/
theorem ints_of_wellAll {P : Params} {h : Heap} : ∀ (ns : List Int) (vs : List Value), WellAll P h vs (ns.map WData.int) → IntsAre vs ns := by
  intro ns
  induction ns with
  | nil =>
    intro vs w
    rw [List.map_nil] at w
    cases w
    exact .nil
  | cons n ns ih =>
    intro vs w
    rw [List.map_cons] at w
    cases w with
    | cons a b =>
      cases a
      exact .cons _ _ (ih _ b)

theorem script_of {l : OpenLaw} {n : Nat} (hn : l.most = some n) {P : Params} {h : Heap} {args : List WData} {vals : List Value}
    (hpre : l.row.toRowW.claim.pre args = true) (hwl : WellAll P h vals args) :
    ∃ a vs ns, vals = [Value.ref a] ∧ args = [WData.list (ns.map WData.int)] ∧ h.get? a = some { cls := .type "list", data := .seq vs.toArray } ∧ IntsAre vs ns ∧ ns.length ≤ n := by
  have hsh : WShape.hasAll [] args [.list .int] = true := (pre_splitW hpre).1
  have hc : l.pre.holds [] { args := args } = true := (pre_splitW hpre).2
  obtain ⟨d, r, rfl, h1, h2⟩ := hasAllW_cons hsh
  obtain rfl := hasAllW_nil h2
  obtain ⟨xs, rfl, h3⟩ := hasW_list h1
  obtain ⟨ns, rfl⟩ := items_int h3
  have hlen : ns.length ≤ n := by
    unfold OpenLaw.pre at hc
    have h4 : (WTm.not (.lt (.lit (.int (n : Int))) (.len (.arg 0)))).holds [] { args := [.list (ns.map .int)] } = true := by
      have h4 := (holds_andW hc).1
      rw [hn] at h4
      exact h4
    have h5 := condW_of h4 (w_not (w_lt w_lit (w_len_list (w_arg rfl))))
    rw [List.length_map] at h5
    refine Nat.le_of_not_lt fun q => ?_
    have q' : (n : Int) < ((ns.length : Nat) : Int) := by omega
    first
      | (rw [decide_eq_true q'] at h5; exact absurd h5 (by decide))
      | (simp at h5; omega)
  cases hwl with
  | cons w1 w2 =>
    cases w2
    cases w1 with
    | list ho hall => exact ⟨_, _, ns, rfl, rfl, ho, ints_of_wellAll ns _ hall, hlen⟩

theorem post_true (l : OpenLaw) (args : List WData) : l.row.toRowW.claim.post args (.bool true) args = true :=
  postW_of (r := l.row.toRowW) (X := (true == true))
    (show WShape.has [] (.bool true) .bool = true by first | rfl | decide | simp [WShape.has, WShape.arms, WShape.armsAll])
    (show (WTm.eq .res (.lit (.bool true))).value [] { args := args, res := some (.bool true), after := args } = some (.bool (true == true)) from w_eq_bool (w_res rfl) w_lit) rfl

/-! ### the attachment: holds_open's last premise (the goal 'hc' behind k_head) from a wpAny of the law's body -/
/-- the same from a codeAny of the CALL (for a layer whose function contracts speak of calls) -/
theorem attach_call {l : OpenLaw} {n : Nat} {q : Program} {loose : List Str} {XP : (Str → Option Value) → Heap → Prop} {YP : World → Heap → Prop} {d : DefRec}
    (hn : l.most = some n) (hdf : d.params.defaults = [])
    (call : ∀ (w : World) (s₀ s₁ : Shared) (mg mb : Str → Option Value) (fa : Addr) (o : Obj) (pm cd doc : Value) (a : Addr) (vs : List Value) (ns : List Int),
      Ground q loose [] XP w s₀ mg mb s₁.heap → YP w s₁.heap →
      s₁.heap.get? fa = some o → o.data = .func (docDef d.name d.params d.body d.scope pm cd doc) → s₁.heap.CodeRec cd d.name → mg d.name = some (.ref fa) →
      s₁.heap.get? a = some { cls := .type "list", data := .seq vs.toArray } → IntsAre vs ns → ns.length ≤ n → s₁.gens = #[] →
      codeAny (model l.prog w) callerA (.call (.ref fa) ⟨[.ref a], []⟩) (fun r s' => r = .ok (.ret (.bool true)) ∧ OldK s₁.heap s'.heap ∧ s'.os = s₁.os ∧ AllBare s'.gens) s₁) :
    WalkO q loose XP YP l.row.toRowW d [] (fun f vs => PySem.call f vs) := by
  intro w s₀ s₁ mg mb G Y fa o pm cd doc dV kV ho hd hcd hD hmg hg args vals as hpre hlay hrd hwl hlo
  obtain rfl : dV = .none := Dflts.none hD hdf
  obtain rfl : kV = .none := Dflts.noKw hD
  obtain ⟨a, vs, ns, rfl, rfl, hobj, hints, hlen⟩ := script_of hn hpre hwl
  refine enter_call (codeAny_mono (call w s₀ s₁ mg mb fa o pm cd doc a vs ns G Y ho (fd_plain hd) hcd hmg hobj hints hlen hg) fun r s' hq => ?_)
  obtain ⟨rfl, h2, h3, h4⟩ := hq
  exact ⟨.inl ⟨.bool true, .bool true, [], rfl, fun _ => rfl, .bool true, post_true l _, fun _ => ⟨List.Pairwise.nil, fun _ hm => (nomatch hm)⟩⟩, h2, h3, h4⟩

/-! ### rules over ANY heap (no ledger) from facts about the written part K: the library's own take a ledger (News) for what they write -/
section
variable {prog : Program} {w : World} {A : Around} {E : Value → Shared → Prop} {s : Shared} {K : Frag}

/-! the whole heap as the ledger: makes every rule that writes through a ledger a rule over any heap -/
end
end Att

namespace L2
open PySem PySem.Spec PyProof.Rows

theorem vals_ints : ∀ {vs : List Value} {ns : List Int}, IntsAre vs ns → Vals (ns.map V.int) vs
  | _, _, .nil => .nil
  | _, _, .cons n t h => .cons ⟨t, rfl⟩ (vals_ints h)

/-- nothing is tracked but the script, known to the object (or it is an object of the module) -/
def Only (H : Hp) : Prop := ∀ b, H b = none ∨ ∃ o xs, H b = some (.frz o (.lst xs))

/-- THE HEAD: the law's promise, at the heap behind the top. F, the promise of the law's def, may use that base is part of the heap (so K.In base, base.Ns mainGlobals mg stand in Mod) -/
theorem law_call {P : Program} {w : World} {K : PySem.W.Frag} {mg mb : Str → Option Value} {CX : CXT} {k : Nat} {fa a : Addr} {fd : FuncData} {x : Str} {sp : Sp} {s₁ : Shared} {vs : List Value} {ns : List Int}
    (KX : K.In s₁.heap) (hns : s₁.heap.Ns mainGlobals mg) (hb : s₁.heap.Ns builtinsNs mb) (hbb : ∀ x : Str, x ≠ "__name__" → mb x = bootBuiltins x) (hlim : s₁.heap.NoLimit) (hg : s₁.gens = #[])
    (ha : s₁.heap.get? a = some { cls := .type "list", data := .seq vs.toArray }) (hi : IntsAre vs ns) (hl : ns.length ≤ sizeLine) (hr : Room k callerA)
    (F : ∀ base : Heap, K.In base → base.Ns mainGlobals mg → FnOk P w K mg base CX k fa fd [x] sp) (hbind : ∀ (s : Shared) (u : Value), BindsTo s fd ⟨[u], []⟩ [(x, u)])
    (hsp : ∀ H : Hp, Only H → SqL K H a (ns.map V.int) → sp [.ref a] H (fun v _ => v = .bl true) fun _ _ _ => False)
    (hCX : ∀ H e s', CX [] H s₁ (fun _ _ _ => False) e s' → False) :
    codeAny (model P w) callerA (.call (.ref fa) ⟨[.ref a], []⟩) (fun r s' => r = .ok (.ret (.bool true)) ∧ OldK s₁.heap s'.heap ∧ s'.os = s₁.os ∧ AllBare s'.gens) s₁ := by
  have rv := vals_ints hi
  have lenV := hi.length
  -- from an abstract heap in which nothing but the script may be tracked
  have core : ∀ H : Hp, Only H → SqL K H a (ns.map V.int) → HOk P w H s₁.heap → (∀ b, H b ≠ none → b = a) → (H a ≠ none → K.lookup a = none) →
      codeAny (model P w) callerA (.call (.ref fa) ⟨[.ref a], []⟩) (fun r s' => r = .ok (.ret (.bool true)) ∧ OldK s₁.heap s'.heap ∧ s'.os = s₁.os ∧ AllBare s'.gens) s₁ := by
    intro H hO hS hok hA hK
    have base_of : ∀ {b : Addr} {o : Obj}, s₁.heap.get? b = some o → H b = none → (hidT s₁.heap H).get? b = some o := fun e n => hidT_get e n
    have noA : ∀ {b : Addr} {o : Obj} {es : Array DictEntry} {ep : Nat}, s₁.heap.get? b = some o → o.data = .dict es ep → H b = none := fun {b o es ep} e d => by
      cases q : H b with
      | none => rfl
      | some u =>
        have e' : b = a := hA b (by rw [q]; simp)
        subst e'
        rw [ha] at e; cases e
        have d' : Data.seq vs.toArray _ = Data.dict es ep := d
        cases d'
    have nsK : ∀ {b : Addr} {m : Str → Option Value}, s₁.heap.Ns b m → (hidT s₁.heap H).Ns b m := fun {b m} ⟨o, es, ep, e, d, r⟩ => ⟨o, es, ep, base_of e (noA e d), d, r⟩
    have hKb : K.In (hidT s₁.heap H) := fun b o e => base_of (KX b o e) (by
      cases q : H b with
      | none => rfl
      | some u =>
        have e' : b = a := hA b (by rw [q]; simp)
        subst e'
        rw [hK (by rw [q]; simp)] at e; cases e)
    have hM : Mod K mg (hidT s₁.heap H) := ⟨hKb, nsK hns, ⟨mb, nsK hb, hbb⟩, let ⟨mc, h1, h2⟩ := hlim; ⟨mc, nsK h1, h2⟩⟩
    have e0 : Env0 P w K mg (hidT s₁.heap H) callerA [] s₁ H := ⟨rfl, hM, fun b o e => of_hidT e, Nat.le_of_eq (hidT_size _ _), trivial, fun b hb => absurd (show b ∈ ([] : List Addr) from hb) (by simp), hok, .of_eq hg⟩
    refine codeAny_mono ((F _ hKb (nsK hns)).run callerA [] s₁ H ⟨[.ref a], []⟩ [.ref a] [.ref a] _ _ hr e0 (hbind s₁ (.ref a)) (.cons rfl .nil) (hsp H hO hS)) fun r s' h => ?_
    cases r with
    | error e => exact (hCX H e s' h).elim
    | ok fl =>
      cases fl with
      | next => exact False.elim h
      | brk => exact False.elim h
      | cont => exact False.elim h
      | ret u =>
        obtain ⟨v, H', os, bare, un, hok', r', q⟩ := h
        have q' : v = .bl true := q
        subst q'
        obtain rfl : u = Value.bool true := r'
        refine ⟨rfl, OldK.of_keep fun b o e => ?_, os, bare⟩
        cases q : H b with
        | none => exact un.keep b o e q (by intro z; exact absurd (show b ∈ ([] : List Addr) from z) (by simp)) (by simp)
        | some u =>
          rcases hO b with z | ⟨ob, xs, z⟩
          · rw [q] at z; cases z
          · have z2 := un.frzs b ob _ z
            obtain ⟨e1, _⟩ := hok b _ z
            obtain ⟨e2, _⟩ := hok' b _ z2
            rw [e] at e1; cases e1
            exact e2
  cases hk : K.lookup a with
  | some o =>
    -- the script is one of the module's own objects
    have e := KX a o hk
    rw [ha] at e
    cases e
    refine core (fun _ => none) (fun _ => .inl rfl) (.inr ⟨_, vs.toArray, _, hk, rfl, rfl, rfl, by rw [List.size_toArray, lenV]; exact hl, by simpa using rv⟩) (fun b u z => by have z' : (none : Option HO) = some u := z; cases z') (fun b z => absurd rfl z) fun z => absurd rfl z
  | none =>
    refine core (fun b => if b = a then some (.frz { cls := .type "list", data := .seq vs.toArray } (.lst (ns.map V.int))) else none) (fun b => ?_) (.inl (.inr ⟨{ cls := .type "list", data := .seq vs.toArray }, if_pos rfl⟩)) (fun b u z => ?_) (fun b z => ?_) fun _ => hk
    · by_cases hb : b = a
      · exact .inr ⟨_, _, if_pos hb⟩
      · exact .inl (if_neg hb)
    · by_cases hb : b = a
      · have z' := (if_pos hb).symm.trans z
        cases z'
        subst hb
        exact ⟨ha, by rw [List.length_map]; exact hl, vs, _, rv, ha⟩
      · have z' := (if_neg hb).symm.trans z
        cases z'
    · by_cases hb : b = a
      · exact hb
      · exact absurd (if_neg hb) z
end L2

namespace L2
open PySem PySem.Spec PyProof.Rows

abbrev KOf {K : PySem.W.Frag} {h : Heap} (_ : K.In h) : PySem.W.Frag := K

/-- the goal that k_head leaves (case hc), from the law's promise. F gives the function object fd (K's own) once, then the promise over every base -/
theorem walk_of {l : PySem.W.OpenLaw} {n k : Nat} {q : Program} {loose : List Str} {XP : (Str → Option Value) → Heap → Prop} {YP : World → Heap → Prop} {d : DefRec} {K : Params → PySem.W.Frag} {CX : World → CXT} {sp : World → Sp} {x : Str}
    (hn : l.most = some n) (hn2 : n ≤ sizeLine) (hdf : d.params.defaults = []) (hr : Room k callerA)
    (hY : ∀ (w : World) (h : Heap), YP w h → (K w.params).In h)
    (F : ∀ (w : World) (mg : Str → Option Value) (fa : Addr) (h : Heap), (K w.params).In h → h.Ns mainGlobals mg → mg d.name = some (.ref fa) →
      ∃ fd : FuncData, (∀ (s : Shared) (u : Value), BindsTo s fd ⟨[u], []⟩ [(x, u)]) ∧
        ∀ base : Heap, (K w.params).In base → base.Ns mainGlobals mg → FnOk l.prog w (K w.params) mg base (CX w) k fa fd [x] (sp w))
    (hsp : ∀ (w : World) (H : Hp) (a : Addr) (ns : List Int), ns.length ≤ n → Only H → SqL (K w.params) H a (ns.map V.int) → sp w [.ref a] H (fun v _ => v = .bl true) fun _ _ _ => False)
    (hCX : ∀ (w : World) (H : Hp) (s : Shared) (e : Value) (s' : Shared), CX w [] H s (fun _ _ _ => False) e s' → False) :
    PySem.W.WalkO q loose XP YP l.row.toRowW d [] (fun f vs => PySem.call f vs) := by
  refine Att.attach_call hn hdf fun w s₀ s₁ mg mb fa o pm cd doc a vs ns G Y ho hd hcd hmg hobj hints hlen hg => ?_
  have KX := hY w _ Y
  obtain ⟨fd, hb, hF⟩ := F w mg fa _ KX G.T.g hmg
  exact law_call KX G.T.g G.T.b G.T.builtins G.T.nolimit hg hobj hints (Nat.le_trans hlen hn2) hr hF hb (fun H hO hS => hsp w H a ns hlen hO hS) fun H e s' => hCX w H s₁ e s'
end L2



/-! SHORT WORDS over the layer: a def of the text, its body, what a loop and a test want. -/
namespace L2
open PySem PySem.Spec PyProof.Rows

/-! ### the text by places -/
def defArgs (s : Stmt) : Arguments := match s with
  | .FunctionDef _ a _ _ _ _ _ _ _ _ => a
  | _ => { posonlyargs := [], args := [], vararg := none, kwonlyargs := [], kw_defaults := [], kwarg := none, defaults := [] }
def defBody (s : Stmt) : List Stmt := match s with
  | .FunctionDef _ _ b _ _ _ _ _ _ _ => b
  | _ => []
def defScope (s : Stmt) : Scope := match s with
  | .FunctionDef _ _ _ _ _ _ sc _ _ _ => sc
  | _ => { kind := .function, names := [], isGenerator := false, isCoroutine := false }

/-! ### no exception leaves a def -/
abbrev CX0 : CXT := fun _ _ _ _ _ _ => False
/-! ### a def (or method) of the text as it stands behind the top -/
structure Fun (K : PySem.W.Frag) (x qual : Str) (st : Stmt) (f : Addr) (fd : FuncData) : Prop where
  ex : ∃ (oc : Value) (od : Option Addr) (kV doc pm : Value) (an : Option Addr) (cdv ct : Value) (osl : Array (Option Value)),
    fd = PySem.W.fnOf x qual (defArgs st) (defBody st) (defScope st) .none kV doc pm an cdv ct ∧ K.lookup f = some ⟨oc, od, .func fd, osl⟩ ∧ PySem.W.codeIn K cdv qual = true
  kp : PySem.W.keepIn K (.ref f) = true
section
variable {P : Program} {w : World} {K : PySem.W.Frag} {mg : Str → Option Value} {base : Heap}
/-- THE RULE for a def: its body as a term of rules, and the reading of that term -/
theorem Fun.ok {x qual : Str} {st : Stmt} {f : Addr} {fd : FuncData} {N ps : List Str} {k : Nat} {sp : Sp} (F : Fun K x qual st f fd) (S : FnScope N ps (defScope st)) (len : ∀ vs H Q E, sp vs H Q E → vs.length = ps.length)
    (hbody : ∀ (cdv : Value) (A : Around) (outer : List Env) (s : Shared) (H : Hp) (vs : List V) (Q : VK) (E : XK), Room k (A.deeper (envOfC qual (defScope st) s.heap.objs.size f cdv)) → sp vs H Q E →
      ∃ t, PSs (cxOf CX0 P w K mg base N qual (defScope st) f cdv A outer s H E).nox (defBody st) t ∧ t { nx := fun _ H' => Q .non H', rt := Q } (start N vs) H) : FnOk P w K mg base CX0 (k + 1) f fd ps sp := by
  obtain ⟨oc, od, kV, doc, pm, an, cdv, ct, osl, rfl, lk, hcd⟩ := F.ex
  refine fn_of lk hcd S len fun A outer s H vs Q E hr hsp => ?_
  obtain ⟨t, h, q⟩ := hbody cdv A outer s H vs Q E hr hsp
  exact ⟨t, h.nox, q⟩
/-- how its arguments bind (no defaults): h is «fun _ _ _ _ _ _ us hl => match us, hl with | [_, _], _ => rfl», one _ a parameter -/
theorem Fun.binds {x qual : Str} {st : Stmt} {f : Addr} {fd : FuncData} {ps : List Str} (F : Fun K x qual st f fd)
    (h : ∀ (kV doc pm : Value) (an : Option Addr) (cdv ct : Value) (us : List Value), us.length = ps.length → bindArgs (PySem.W.fnOf x qual (defArgs st) (defBody st) (defScope st) .none kV doc pm an cdv ct) ⟨us, []⟩ = pure (ps.zip us)) : Binds K fd ps [] := by
  obtain ⟨oc, od, kV, doc, pm, an, cdv, ct, osl, rfl, lk, hcd⟩ := F.ex
  exact .all (h kV doc pm an cdv ct)
theorem fun_mk {x qual : Str} {st : Stmt} {f : Addr} {oc : Value} {od an : Option Addr} {osl : Array (Option Value)} {kV doc pm cdv ct : Value} (l : K.lookup f = some ⟨oc, od, .func (PySem.W.fnOf x qual (defArgs st) (defBody st) (defScope st) .none kV doc pm an cdv ct), osl⟩)
    (c : PySem.W.codeIn K cdv qual = true) (k : PySem.W.keepIn K (.ref f) = true) : Fun K x qual st f (PySem.W.fnOf x qual (defArgs st) (defBody st) (defScope st) .none kV doc pm an cdv ct) := ⟨⟨oc, od, kV, doc, pm, an, cdv, ct, osl, rfl, l, c⟩, k⟩
end
/-! ### expressions in short: the name that stands in the i-th slot -/
section
variable {X : Cx}
end

/-! ### tests -/
/-! ### heaps -/
/-- all that was tracked is as it was -/
def Same (H H' : Hp) : Prop := ∀ b o, H b = some o → H' b = some o
theorem Same.refl (H : Hp) : Same H H := fun _ _ h => h
theorem Same.trans {H H1 H2 : Hp} (a : Same H H1) (b : Same H1 H2) : Same H H2 := fun c o h => b c o (a c o h)
theorem Same.free {H H' : Hp} (e : Same H H') {l : Addr} (h : H' l = Option.none) : H l = Option.none := by
  cases q : H l with
  | none => rfl
  | some o =>
    rw [e l o q] at h
    cases h
theorem Same.seq {K : PySem.W.Frag} {H H' : Hp} {a : Addr} {xs : List V} (e : Same H H') (h : SqL K H a xs) : SqL K H' a xs := by
  rcases h with (h | ⟨o, h⟩) | h
  · exact .inl (.inl (e _ _ h))
  · exact .inl (.inr ⟨o, e _ _ h⟩)
  · exact .inr h

end L2

set_option Elab.async false
set_option linter.all false
set_option maxRecDepth 100000
set_option maxHeartbeats 4000000
/-! own additions: closures of comprehensions -/
namespace L2
open PySem PySem.Spec PyProof.Rows
theorem ar1 {l z D b : Nat} (h1 : l < z) (h2 : z = D) (h3 : D ≤ b) (h4 : b = l) : False := by omega
theorem ar2 {b D C : Nat} (h1 : b < D) (h2 : C = D + 1) (h3 : b = C) : False := by omega
theorem ar3 {b e d : Nat} (h1 : b < e) (h2 : e ≤ d) (h3 : d ≤ b) : False := by omega
theorem ar4 {b D p : Nat} (h1 : b < D) (h2 : p = D) (h3 : p = b) : False := by omega
theorem clo_go (env : Env) : ∀ (l : List (Str × NameKind)) (acc : List (Str × Addr)), (∀ p ∈ l, p.2 = .free → ∃ c, env.cells.lookup p.1 = some c) →
    ∃ cl, (forIn l acc (fun (x : Str × NameKind) (cs : List (Str × Addr)) => if (x.snd == NameKind.free) = true then do
              let a ← cellOf env x.fst
              pure (ForInStep.yield ((x.fst, a) :: cs))
            else pure (ForInStep.yield cs)) : Sem (List (Str × Addr))) = pure cl ∧
      (∀ y c, (y, c) ∈ cl → (y, c) ∈ acc ∨ (env.cells.lookup y = some c ∧ (y, NameKind.free) ∈ l)) ∧ (∀ p ∈ acc, p ∈ cl) ∧ (∀ y, (y, NameKind.free) ∈ l → ∃ c, (y, c) ∈ cl)
  | [], acc, _ => ⟨acc, rfl, fun _ _ h => .inl h, fun _ h => h, fun _ h => nomatch h⟩
  | (n, k) :: r, acc, hall => by
    by_cases hk : k = .free
    · subst hk
      obtain ⟨c, hc⟩ := hall (n, .free) List.mem_cons_self rfl
      obtain ⟨cl, e, h1, h2, h3⟩ := clo_go env r ((n, c) :: acc) fun p hp => hall p (List.mem_cons_of_mem _ hp)
      refine ⟨cl, ?_, fun y d hy => ?_, fun p hp => h2 p (List.mem_cons_of_mem _ hp), fun y hy => ?_⟩
      · rw [List.forIn_cons]
        simp only [beq_self_eq_true, if_true]
        have : cellOf env n = pure c := by unfold cellOf; rw [hc]
        rw [this]
        exact e
      · rcases h1 y d hy with q | q
        · rcases List.mem_cons.mp q with q | q
          · cases q
            exact .inr ⟨hc, List.mem_cons_self⟩
          · exact .inl q
        · exact .inr ⟨q.1, List.mem_cons_of_mem _ q.2⟩
      · rcases List.mem_cons.mp hy with q | q
        · cases q
          exact ⟨c, h2 _ List.mem_cons_self⟩
        · exact h3 y q
    · obtain ⟨cl, e, h1, h2, h3⟩ := clo_go env r acc fun p hp => hall p (List.mem_cons_of_mem _ hp)
      refine ⟨cl, ?_, fun y d hy => ?_, h2, fun y hy => ?_⟩
      · rw [List.forIn_cons]
        have : (k == NameKind.free) = false := by simpa using hk
        simp only [this, Bool.false_eq_true, if_false]
        exact e
      · rcases h1 y d hy with q | q
        · exact .inl q
        · exact .inr ⟨q.1, List.mem_cons_of_mem _ q.2⟩
      · rcases List.mem_cons.mp hy with q | q
        · cases q
          exact absurd rfl hk
        · exact h3 y q
theorem look_of_mem {β : Type} {y : Str} : ∀ {l : List (Str × β)} {c : β}, (y, c) ∈ l → ∃ d, l.lookup y = some d
  | (n, b) :: r, c, h => by
    rw [List.lookup_cons]
    cases e : y == n with
    | true => exact ⟨b, rfl⟩
    | false =>
      rcases List.mem_cons.mp h with q | q
      · cases q
        simp at e
      · exact look_of_mem q
theorem clo_of (env : Env) (scope : Scope) (hall : ∀ p ∈ scope.names, p.2 = .free → ∃ c, env.cells.lookup p.1 = some c) :
    ∃ cl, closureFor scope env = pure cl ∧ (∀ y c, cl.lookup y = some c → env.cells.lookup y = some c) ∧ (∀ y, (y, NameKind.free) ∈ scope.names → ∃ c, cl.lookup y = some c) := by
  obtain ⟨cl, e, h1, _, h3⟩ := clo_go env scope.names [] hall
  refine ⟨cl, ?_, fun y c hy => ?_, fun y hy => ?_⟩
  · simp only [closureFor]
    rw [e]
    rfl
  · rcases h1 y c (PySem.mem_of_lookup hy) with z | z
    · cases z
    · exact z.1
  · obtain ⟨c, hc⟩ := h3 y hy
    exact look_of_mem hc
/-- a comprehension's scope within a def's: its one own name, what it takes from around it -/
structure CompSc (sc scope : Scope) (x : Str) : Prop where
  kind : scope.kind = .function
  ncell : ∀ y ∈ scope.names, y.2 ≠ .cell
  names : ∀ y ∈ scope.names, y.2 = .local → scope.names.lookup y.1 = some .local ∧ (y.1 = x ∨ y.1 = ".0")
  hx : scope.names.lookup x = some .local
  free : ∀ y ∈ scope.names, y.2 = .free → sc.names.lookup y.1 = some .cell
def cxC (X : Cx) (scope : Scope) (cl : List (Str × Addr)) (x : Str) (C : Addr) (s₂ : Shared) (H₂ : Hp) (fp : List Addr) (E : Value → Shared → Prop) : Cx :=
  { X with N := x :: X.N, s₀ := s₂, H₀ := H₂, env := compEnvC scope cl C X.env, outer := X.stack, ex := fp, fn := fun _ => false, pn := [], xe := E }
section
variable {X : Cx} {scope : Scope} {cl : List (Str × Addr)} {x : Str}
theorem rel_mem {env : Env} {y : Str} {k : NameKind} (h : (relabel scope env).names.lookup y = some k) : ∃ k0, (y, k0) ∈ scope.names ∧ ((k0 = .free ∧ env.kindOf y = some .cell ∧ k = .cell) ∨ (k = k0 ∧ ¬ (k0 = .free ∧ env.scope.kind = .function ∧ env.kindOf y = some .cell))) := by
  have hm := PySem.mem_of_lookup h
  obtain ⟨⟨n, k0⟩, hn, e⟩ := List.mem_map.mp hm
  by_cases hc : (k0 == NameKind.free && env.scope.kind == .function && env.kindOf n == some .cell) = true
  · have e' : (n, NameKind.cell) = (y, k) := by rw [← e]; simp only [hc, if_true]
    cases e'
    simp only [Bool.and_eq_true, beq_iff_eq] at hc
    exact ⟨_, hn, .inl ⟨hc.1.1, hc.2, rfl⟩⟩
  · have e' : (n, k0) = (y, k) := by rw [← e]; simp only [hc, if_false]; rfl
    cases e'
    refine ⟨_, hn, .inr ⟨rfl, fun ⟨a, b, c⟩ => hc ?_⟩⟩
    simp [a, b, c]
theorem rel_local (S : CompSc X.env.scope scope x) {y : Str} (h : (relabel scope X.env).names.lookup y = some .local) : y = x ∨ y = ".0" := by
  obtain ⟨k0, hm, ⟨_, _, e⟩ | ⟨e, _⟩⟩ := rel_mem h
  · cases e
  · subst e
    exact (S.names _ hm rfl).2
theorem rel_free (S : CompSc X.env.scope scope x) (hk : X.env.scope.kind = .function) {y : Str} (h : (relabel scope X.env).names.lookup y = some .cell ∨ (relabel scope X.env).names.lookup y = some .free) : (y, NameKind.free) ∈ scope.names := by
  rcases h with h | h
  · obtain ⟨k0, hm, ⟨e, _, _⟩ | ⟨e, _⟩⟩ := rel_mem h
    · subst e; exact hm
    · subst e; exact absurd rfl (S.ncell _ hm)
  · obtain ⟨k0, hm, ⟨_, _, e⟩ | ⟨e, n⟩⟩ := rel_mem h
    · cases e
    · subst e
      exact hm
end
/-- a comprehension's loop, turn by turn, by a word J0 with its measure (the step ahead of the store kept) -/
theorem compLoop_keep {P : Program} {wd : World} {B : Around} {Z : Result → Shared → Prop} {u0 : Shared} {el tg iter : Expr} {sc : Scope} {ps : Pos} {iv ac : Value} {ev : Env} (J0 : Nat → Shared → Prop)
    (turn : ∀ k u, J0 k u → wpAny (model P wd) B (pyNext iv) (fun r u1 => match r with | none => Z (.ok .next) u1 | some v => wpAny (model P wd) B (letOwnedTupleGo tg iv v) (fun _ u2 =>
      wpAny (model P wd) B (assign tg ev v) (fun _ u3 => wpAny (model P wd) B (eval el ev) (fun y u4 => wpAny (model P wd) B (call (.builtin "list.append") [ac, y]) (fun _ u5 => ∃ m, m < k ∧ J0 m u5)
        (notedBy (model P wd) B ev fun e u => Z (.error e) u) u4) (notedBy (model P wd) B ev fun e u => Z (.error e) u) u3) (notedBy (model P wd) B ev fun e u => Z (.error e) u) u2) (notedBy (model P wd) B ev fun e u => Z (.error e) u) u1)
      (notedBy (model P wd) B ev fun e u => Z (.error e) u) u)
    (k0 : Nat) (start0 : J0 k0 u0) : codeAny (model P wd) B (.compLoop (.ListComp el [⟨tg, iter, [], 0⟩] sc ps) 0 iv ac ev) Z u0 := by
  refine codeAny_loop rfl J0 (fun k u hJ => wpAny_noted (E := fun e u => Z (.error e) u) (env := ev) (m := compTurn (.ListComp el [⟨tg, iter, [], 0⟩] sc ps) 0 iv ac ev) ?_) k0 start0
  rw [compTurn_list1]
  have one := turn k u hJ
  refine wpAny_bind (wpAny_standAt (wpAny_bind (wpAny_mono one (fun r u1 q1 => ?_) fun _ _ z => z)))
  cases r with
  | none => exact wpAny_pure q1
  | some v =>
    refine wpAny_bind (wpAny_mono q1 (fun _ u2 q2 => wpAny_bind (wpAny_mono q2 (fun _ u3 q3 => ?_) fun _ _ z => z)) fun _ _ z => z)
    exact wpAny_bind (wpAny_bind (wpAny_mono q3 (fun y u4 q4 => wpAny_bind (wpAny_mono q4 (fun _ u5 q5 => wpAny_pure (wpAny_pure ⟨rfl, q5⟩)) fun _ _ z => z)) fun _ _ z => z))
/-- [elt for x in iter]: W: the turn, a measure, what was made so far, the heap -/
def CompW (J : It) (te : TE) (σ : St) (Q : VK) (H1 : Hp) : Prop := ∃ W : Nat → Nat → List V → Hp → Prop, (∃ m, W 0 m [] H1) ∧ ∀ i m ys H, W i m ys H →
  (J.stop i H ∧ ys.length ≤ sizeLine ∧ ∀ l, H l = none → Q (.ref l) (upd H l (.lst ys))) ∨
  (J.go i H ∧ ys.length ≤ sizeLine ∧ ∀ z H', J.yld i H z H' → te (some z :: σ) H' fun y H2 => ∃ m', m' < m ∧ W (i + 1) m' (ys ++ [y]) H2)
def tComp (wi : TI) (te : TE) : TE := fun σ H Q => wi σ H fun J H1 => CompW J te σ Q H1
theorem pe_comp {X : Cx} {elt iter : Expr} {x : Str} {px pos : Pos} {scope : Scope} {wi : TI} {te : TE} {N : List Str} (hc : X.calm = true) (S : CompSc X.env.scope scope x) (eN : X.N = N) (hN0 : ((".0" : Str) :: x :: N).Nodup)
    (hi : PI X (.Name x px) iter wi) (he : ∀ cl C s₂ H₂ fp, PE (cxC X scope cl x C s₂ H₂ fp (fun _ _ => False)) elt te)
    (hs : ∀ v, foldedSetIterable iter X.env v = pure v := by intro _; rfl) : PE X (.ListComp elt [⟨.Name x px, iter, [], 0⟩] scope pos) (tComp wi te) := by
  intro pins s σ H Q I h
  have hN : (x :: X.N).Nodup := by rw [eN]; exact (List.nodup_cons.mp hN0).2
  have h0N : (".0" : Str) ∉ X.N := by rw [eN]; exact fun z => (List.nodup_cons.mp hN0).1 (List.mem_cons_of_mem _ z)
  obtain ⟨cl, hclos, hcl1, hcl2⟩ := clo_of X.env scope fun p hp hf => I.ok.has p.1 (.inl (S.free p hp hf))
  have hkd : X.env.scope.kind = .function := I.ok.kind
  rw [eval_ListComp]
  refine wpAny_comprehension_free (use := none) rfl hs hclos S.kind (fun y hy hl => (S.names y hy hl).1) ?_
  refine thn (hi pins s σ H _ I h) fun v s1 h1 => thn h1 fun itv s₂ h2 => ?_
  obtain ⟨it, fp, tn, J, H2, e, I2, T, st2, f2, W, ⟨m0, w0⟩, turn⟩ := h2
  subst e
  refine wpAny_newObj_type (wpAny_newFunctionEnv S.ncell (by intro y hy; simp at hy) (fun h₁ hns₁ hsb₁ => ?_) S.kind)
  dsimp only at hns₁ hsb₁ ⊢
  generalize hH2 : s₂.heap.push { cls := .type "list", dict := none, data := .seq ([] : List Value).toArray } = G2 at hns₁ hsb₁ ⊢
  have hC : G2.objs.size = s₂.heap.objs.size + 1 := by rw [← hH2, Heap.size_push]
  have hDC : s₂.heap.objs.size ≠ G2.objs.size := by rw [hC]; exact Nat.ne_of_lt (Nat.lt_succ_self _)
  have hCle : s₂.heap.objs.size ≤ G2.objs.size := by rw [hC]; exact Nat.le_succ _
  have old : ∀ b o, s₂.heap.get? b = some o → h₁.get? b = some o := fun b o e => by
    have hb : b ≠ G2.objs.size := by rw [hC]; exact Nat.ne_of_lt (Nat.lt_succ_of_lt (Heap.lt_size e))
    exact hsb₁.extBut b o hb (Heap.get?_push_of_some _ (hH2 ▸ Heap.get?_push_of_some _ e))
  have hacc : h₁.get? s₂.heap.objs.size = some { cls := .type "list", data := .seq (#[] : Array Value) 0 } := hsb₁.extBut _ _ hDC (Heap.get?_push_of_some _ (hH2 ▸ Heap.get?_push_size _ rfl))
  generalize hD : s₂.heap.objs.size = D at *
  generalize hCC : G2.objs.size = C at *
  have ltS : ∀ {b : Nat} {o : Obj}, s₂.heap.get? b = some o → b < D := fun e => by rw [← hD]; exact Heap.lt_size e
  have nofr : ∀ b, D ≤ b → b ∉ frs X.stack := fun b hb z => by
    rcases List.mem_cons.mp (I2.stkSub b z) with q | q
    · exact ar1 I2.lt hD hb q
    · exact I2.nofs (by rw [hD]; exact hb) q
  -- the block's context
  let E' : Value → Shared → Prop := notedBy (model X.prog X.w) X.A (compEnvC scope cl C X.env) fun e s' => compPost (model X.prog X.w) X.A X.xe none (EP X pins σ Q) (.ref D) C (.error e) s'
  let Y : Cx := cxC X scope cl x C s₂ H2 fp E'
  have fpX : ∀ b ∈ fp, FpOk X pins H2 b := f2
  have okY : Y.Ok := by
    refine ⟨I2.ok.mod, S.kind, I2.ok.glob, I2.ok.blt, (by show s₂.heap.objs.size ≤ C; omega), fun y z c h1 h2 => ?_, fun y hy => ?_, fun y c hf => ?_, I2.ok.hd, I2.ok.frames, .inl rfl, fun b hb => ?_, I2.bs, Nat.le_trans I2.ok.bsz I2.sz, fun b o hb hx => ?_, fun b hb hx => ?_, I2.stack, I2.stkFree⟩
    · exact I2.ok.inj y z c (hcl1 y c h1) (hcl1 z c h2)
    · exact hcl2 y (rel_free S hkd hy)
    · cases hf
    · refine ⟨fun z => ?_, fun y c hy => (fpX b hb).2.2.2.2.1 y c (hcl1 y c hy)⟩
      obtain ⟨o, ho, _⟩ := T.obj 0 _ st2 b hb
      exact ar2 (ltS ho) hC z
    · rcases (fpX b hx).2.2.2.1 with z | z
      · exact I2.ok.noex b o hb z
      · exact ar3 (Heap.lt_size hb) I2.ok.bsz z
    · rcases List.mem_cons.mp (I2.stkSub b hx) with q | q
      · exact (fpX b hb).2.1 q
      · exact (fpX b hb).2.2.1 q
  have hpinD : ∀ {s' : Shared} {H' : Hp} {o : Obj}, s'.heap.get? D = some o → H' D = none → (∀ v, o.data ≠ .cell v) → ∀ p ∈ [(D, o)], s'.heap.get? p.1 = some p.2 ∧ H' p.1 = none ∧ p.1 ≠ Y.env.locals ∧ p.1 ∉ Y.fs ∧ ∀ v, p.2.data ≠ .cell v := fun {s' H' o} e1 e2 e3 p hp => by
    have ep : p = (D, o) := by simpa using hp
    subst ep
    exact ⟨e1, e2, hDC, nofr D (Nat.le_refl _), e3⟩
  have I0 : Inv Y [(D, { cls := .type "list", data := .seq (#[] : Array Value) 0 })] (none :: σ) H2 { s₂ with heap := h₁, toks := s₂.toks + ([] : List (Str × Value)).length } := by
    have fresh : ∀ b, D ≤ b → H2 b = none := fun b hb => I2.hok.fresh (by rw [hD]; exact hb)
    refine ⟨okY, rfl, I2.bare, Un.kept old, ⟨_, hns₁, fun i y v e1 e2 e3 => ?_⟩, fun y c hy => ?_, fresh C (by omega), fun y c hy => I2.freeC y c (hcl1 y c hy), fun p hp => hpinD hacc (fresh D (Nat.le_refl _)) (fun v z => by cases z) p hp, I2.hok.kept old, ?_⟩
    · cases i with
      | zero => simp at e2
      | succ i =>
        have e1' : X.N[i]? = some y := by simpa [Y, cxC] using e1
        have e2' : σ[i]? = some (some v) := by simpa using e2
        have hyx : ¬ (y = x ∨ y = ".0") := fun z => by
          have hm := List.mem_of_getElem? e1'
          rcases z with z | z
          · rw [z] at hm
            exact (List.nodup_cons.mp hN).1 hm
          · rw [z] at hm
            exact h0N hm
        have hfr : (y, NameKind.free) ∈ scope.names := by
          rcases e3 with e3 | e3 | e3
          · exact absurd (rel_local S e3) hyx
          · exact rel_free S hkd (.inl e3)
          · exact rel_free S hkd (.inr e3)
        have hkc : X.env.scope.names.lookup y = some .cell := S.free _ hfr rfl
        obtain ⟨m, hn, hl⟩ := I2.loc
        obtain ⟨u, r, l⟩ := hl i y v e1' e2' (.inr (.inl hkc))
        refine ⟨u, r, ?_⟩
        rcases l with ⟨hk, _⟩ | ⟨_, c, hcc, hcell⟩
        · have : X.env.kindOf y = some .cell := hkc
          rw [this] at hk; cases hk
        · obtain ⟨c', hc'⟩ := hcl2 y hfr
          have := hcl1 y c' hc'
          rw [hcc] at this
          cases this
          refine .inr ⟨?_, c, hc', ?_⟩
          · rcases e3 with e3 | e3 | e3
            · exact absurd (rel_local S e3) hyx
            · exact .inl e3
            · exact .inr e3
          · obtain ⟨o, ho, hd⟩ := hcell
            exact ⟨o, old c o ho, hd⟩
    · obtain ⟨v, o, ho, hd⟩ := I2.cell y c (hcl1 y c hy)
      exact ⟨v, o, old c o ho, hd⟩
    · show (none :: σ).length = (x :: X.N).length
      simp [I2.len]
  have fpY : ∀ {pl : List (Addr × Obj)} {H' : Hp}, (∀ p ∈ pl, p.1 = D) → (∀ b ∈ fp, H' b = none) → ∀ b ∈ fp, FpOk Y pl H' b := fun {pl H'} hpl hn b hb => by
    obtain ⟨o, ho, _⟩ := T.obj 0 _ st2 b hb
    refine ⟨hn b hb, fun z => ?_, ?_, .inl hb, (okY.exf b hb).2, fun p hp z => ?_⟩
    · exact ar2 (ltS ho) hC z
    · exact okY.exfs b hb
    · have hp' : p ∈ pl := by simpa [Y, cxC] using hp
      exact ar4 (ltS ho) (hpl p hp') z
  have loop : codeAny (model X.prog X.w) X.A (.compLoop (.ListComp elt [⟨.Name x px, iter, [], 0⟩] scope pos) 0 (.ref it) (.ref D) (compEnvC scope cl C X.env))
      (compPost (model X.prog X.w) X.A X.xe none (EP X pins σ Q) (.ref D) C) { s₂ with heap := h₁, toks := s₂.toks + ([] : List (Str × Value)).length } := by
    refine compLoop_keep (fun n s' => ∃ i ys H' its k, Inv Y [(D, { cls := .type "list", data := .seq (its : List Value).toArray k })] (none :: σ) H' s' ∧ Vals ys its ∧ tn i s'.heap ∧ (∀ b ∈ fp, H' b = none) ∧ W i n ys H') ?_ m0
      ⟨0, [], H2, [], 0, I0, .nil, T.keep 0 _ _ st2 (fun b hb o e => old b o e), fun b hb => (fpX b hb).1, w0⟩
    rintro n s3 ⟨i, ys, H3, its, k, I3, rv, st3, fr3, w3⟩
    have pinl : ∀ {o : Obj}, ∀ p ∈ [(D, o)], p.1 = D := fun {o} p hp => by
      have ep : p = (D, o) := by simpa using hp
      rw [ep]
    obtain ⟨gD, nD, _, _, _⟩ := I3.pin (D, _) (List.mem_append_right _ List.mem_cons_self)
    rcases turn i n ys H3 w3 with ⟨stop, hz, q⟩ | ⟨go, hz, step⟩
    · refine thn (T.done Y rfl rfl rfl hc i _ s3 _ H3 E' I3 (fpY pinl fr3) st3 stop) fun r s4 ⟨hr, I4⟩ => ?_
      subst hr
      obtain ⟨gD4, nD4, _, _, _⟩ := I4.pin (D, _) (List.mem_append_right _ List.mem_cons_self)
      obtain ⟨m4, hn4, _⟩ := id I4.loc
      refine ⟨m4, hn4, fun h' hsb => ?_⟩
      refine ⟨.ref D, upd H3 D (.lst ys), ?_, rfl, q D nD4⟩
      have neC : ∀ {b : Addr} {u : HO}, H3 b = some u → b ≠ C := fun e z => by
        have : H3 C = none := I4.free
        rw [z, this] at e; cases e
      refine I2.call' (s' := { s4 with heap := h' }) (ch := fp) (H' := upd H3 D (.lst ys)) I4.os ?_ ?_ I4.bare fun b hb => ⟨(fpX b hb).2.2.2.1, (fpX b hb).2.1, (fpX b hb).2.2.2.2.1, (fpX b hb).2.2.2.2.2⟩
      · have B := I4.base
        have ltC : ∀ {b : Nat} {o : Obj}, s₂.heap.get? b = some o → b ≠ C := fun e z => ar2 (ltS e) hC z
        have neD : ∀ {b : Addr} {u : HO}, H3 b = some u → b ≠ D := fun e z => by rw [z, nD4] at e; cases e
        refine ⟨fun b o e nn hb hx => (hsb.2 b (ltC e)).trans (B.keep b o e nn hb hx), fun b o e nn hb hx => ?_, fun b o e nn hx => ?_, fun b o e hx => ?_, fun b xs e => ?_, fun b o u e => ?_, fun b ps e => ?_⟩
        · obtain ⟨sl, z⟩ := B.slot b o e nn hb hx
          exact ⟨sl, (hsb.2 b (ltC e)).trans z⟩
        · have hbD : b ≠ D := Nat.ne_of_lt (ltS e)
          rw [upd_ne hbD]
          exact B.free b o e nn hx
        · obtain ⟨o', z⟩ := B.there b o e hx
          exact ⟨o', (hsb.2 b (ltC e)).trans z⟩
        · have z := B.tups b xs e
          rw [upd_ne (neD z)]; exact z
        · have z := B.frzs b o u e
          rw [upd_ne (neD z)]; exact z
        · obtain ⟨more, z⟩ := B.tbls b ps e
          exact ⟨more, by rw [upd_ne (neD z)]; exact z⟩
      · intro a o e
        by_cases ha : a = D
        · subst ha
          rw [upd_same] at e
          cases e
          exact ⟨hz, its, k, rv, (hsb.2 _ hDC).trans gD4⟩
        · rw [upd_ne ha] at e
          have keepNe : ∀ b u, H3 b = some u → (upd H3 D (.lst ys)) b = some u := fun b u z => by
            have hb : b ≠ D := fun w => by rw [w, nD4] at z; cases z
            rw [upd_ne hb]; exact z
          refine (I4.hok a o e).stay (fun b u hb z => (hsb.2 b ?_).trans z) (fun b z => keepNe b _ z) fun b xs z => keepNe b _ z
          rcases hb with hb | hb
          · rw [hb]; exact neC e
          · exact neC hb
    · refine thn (T.item Y rfl rfl rfl hc i _ s3 _ H3 E' I3 (fpY pinl fr3) st3 go) fun r s4 ⟨u, hr, h4⟩ => ?_
      subst hr
      refine thn h4 fun _ s5 ⟨z, H5, I5, r5, y5, st5, fr5⟩ => ?_
      have I5' := I5.pinned (fpY pinl fr5) (T.obj _ _ st5)
      have pgx : PG Y (.Name x px) (gName 0) := pg_name (X := Y) hN rfl (.inl (lookup_relabel_local S.hx)) (.inr (lookup_relabel_local S.hx))
      have peY : PE Y elt te := PE.nox (X := Y) (he cl C s₂ H2 fp)
      refine thn (pgx _ s5 (none :: σ) H5 z u (fun σ' H' => σ' = some z :: σ ∧ H' = H5) I5' r5 ⟨rfl, rfl⟩) fun _ s6 ⟨σ6, H6, I6, e1, e2⟩ => ?_
      subst e1 e2
      refine thn (peY _ s6 _ _ _ I6 (step z _ y5)) fun uy s7 ⟨y, H7, I7, ry, m', hm, w7⟩ => ?_
      obtain ⟨gD7, nD7, _, _, _⟩ := I7.pin (D, _) (List.mem_append_right _ (List.mem_append_left _ List.mem_cons_self))
      refine wpAny_list_append_plain ⟨k, gD7⟩ (fun h' hpl hsb => ?_) (by rw [List.size_toArray, ← rv.length]; exact hz)
      obtain ⟨k', gD'⟩ := hpl
      have I8 : Inv Y [] (some z :: σ) H7 { s7 with heap := h' } := (I7.pins_of (pins' := []) (fun p hp => nomatch hp)).turned (it := D) (t' := s7.toks) (fun b o hb e => (hsb.2 b hb).trans e) nD7 hDC
        (.inr (by show s₂.heap.objs.size ≤ D; omega)) (fun a c hy hz' => by
          obtain ⟨v', o', ho', _⟩ := I2.cell a c (hcl1 a c hy)
          exact Nat.ne_of_lt (ltS ho') hz') (fun p hp => by simp [Y, cxC] at hp)
      have I9 : Inv Y [] (none :: σ) H7 { s7 with heap := h' } := I8.weak (by simp) fun j v e => by
        cases j with
        | zero => simp at e
        | succ j => simpa using e
      have pinOf : ∀ b ∈ fp, ∃ o, s5.heap.get? b = some o ∧ s7.heap.get? b = some o ∧ H7 b = none := fun b hb => by
        obtain ⟨o, e, _⟩ := T.obj _ _ st5 b hb
        have q := I7.pin (b, o) (List.mem_append_right _ (List.mem_append_right _ (mem_pinsAt hb e)))
        exact ⟨o, e, q.1, q.2.1⟩
      have fpD : ∀ b ∈ fp, b ≠ D := fun b hb => by
        obtain ⟨o, ho, _⟩ := T.obj 0 _ st2 b hb
        exact Nat.ne_of_lt (ltS ho)
      have eT : its.toArray.push uy = (its ++ [uy]).toArray := by simp
      rw [eT] at gD'
      refine ⟨m', hm, i + 1, ys ++ [y], H7, its ++ [uy], k', I9.pins_of (hpinD gD' nD7 fun v e => by cases e), rv.append (.cons ry .nil), T.keep (i + 1) _ _ st5 fun b hb o e => ?_, fun b hb => ?_, w7⟩
      · obtain ⟨o', e1, e2, _⟩ := pinOf b hb
        rw [e] at e1
        cases e1
        exact (hsb.2 b (fpD b hb)).trans e2
      · obtain ⟨_, _, _, q⟩ := pinOf b hb
        exact q
  exact codeAny_compStart_list loop (T.self X.A 0 _ _ _ (T.keep 0 _ _ st2 (fun b hb o e => old b o e)) loop)
end L2

namespace L2
open PySem PySem.Spec PyProof.Rows
/-! texts walked sign by sign -/
def Its (z : Str) : It := ⟨fun i _ => i < z.cps.size, fun i H v H' => H' = H ∧ ∃ c, z.cps[i]? = some c ∧ v = .str ⟨#[c]⟩, fun i _ => z.cps.size ≤ i⟩
theorem turn_str {P : Program} {w : World} {K : PySem.W.Frag} {tg : Expr} (z : Str) (t : Tok) (it : Addr) (ty : String) (hty : ty = "str_ascii_iterator" ∨ ty = "str_iterator") : Turn P w K tg (Its z) [it] it (fun i h => h.IsStrIter it ty z t i) where
  mem := by simp
  obj := fun i h st b hb => by
    have e : b = it := by simpa using hb
    subst e
    obtain ⟨o, e, c, d⟩ := st
    exact ⟨o, e, fun v z => by rw [d] at z; cases z⟩
  keep := fun i h h' st k => by
    obtain ⟨o, e, r⟩ := st
    exact ⟨o, k it (by simp) o e, r⟩
  item := by
    intro X hP hw hK hc i pins s σ H E I hf st hg
    subst hP hw hK
    obtain ⟨f0, f1, f2, f3, f4, f5⟩ := hf it (by simp)
    have W : Walks X.prog X.w X.A it [it] [it] z.cps.size (SignAt z) (fun i h => h.IsStrIter it ty z t i) := by
      rcases hty with e | e
      · rw [e]; exact Walks.strAscii (I.ok.hd hc) it z t
      · rw [e]; exact Walks.strWide (I.ok.hd hc) it z t
    refine W.item i s _ _ hg st fun v h' tk hv st' kk => ?_
    obtain ⟨c, u, hcx, rfl⟩ := hv
    have I1 : Inv X pins σ H { s with heap := h', toks := tk } := I.turned (fun b o hb e => kk b o (by simpa using hb) e) f0 f1 f3 f4 f5
    obtain ⟨o, e, cc, d⟩ := id st'
    exact ⟨_, rfl, go_of (s := { s with heap := h', toks := tk }) e cc d (by rcases hty with e | e <;> rw [e] <;> decide) ⟨.str ⟨#[c]⟩, H, I1, ⟨u, rfl⟩, ⟨rfl, c, hcx, rfl⟩, st', fun b hb => (hf b hb).1⟩⟩
  done := by
    intro X hP hw hK hc i pins s σ H E I hf st hg
    subst hP hw hK
    obtain ⟨f0, f1, f2, f3, f4, f5⟩ := hf it (by simp)
    have hn : z.cps[i]? = none := by
      have hg' : z.cps.size ≤ i := hg
      simpa using hg'
    rcases hty with e | e
    · rw [e] at st
      exact wpAny_pyNext_ascii_end (I.ok.hd hc) st hn fun h' eb => ⟨rfl, I.turned (t' := s.toks) (fun b o hb e => eb b o hb e) f0 f1 f3 f4 f5⟩
    · rw [e] at st
      exact wpAny_pyNext_wide_end (I.ok.hd hc) st hn fun h' eb => ⟨rfl, I.turned (t' := s.toks) (fun b o hb e => eb b o hb e) f0 f1 f3 f4 f5⟩
  self := fun A i s Q E st h => by
    rcases hty with e | e
    · rw [e] at st; exact wpAny_pyIter_striter_ascii st h
    · rw [e] at st; exact wpAny_pyIter_striter_wide st h
section
variable {X : Cx}
/-! slices of texts, all, join, isinstance, int(text) -/
theorem sl_str : SlR X (fun x lo hi H Q => ∃ z, x = .str z ∧ z.length ≤ sizeLine ∧ Q (.str (Txt.slice z lo hi)) H) := by
  intro pins s σ H x v vl vu lo hi sl Q I rx hs pl pu h
  obtain ⟨z, rfl, hz, q⟩ := h
  obtain ⟨t, rfl⟩ := rx
  refine ⟨"str", _, F.slot_str_getitem.lookup, typeIs_str _ _ _, ?_⟩
  have fin : ∀ t' k, EP X pins σ Q (.str (Txt.slice z lo hi) t') { s with toks := k } := fun t' k => ⟨.str _, H, I.tok _, ⟨_, rfl⟩, q⟩
  cases pl with
  | none =>
    cases pu with
    | none => exact wpAny_getItem_str_slice (l := none) (u := none) (st := none) hs rfl (post_val_or_str ⟨Nat.le_trans (Txt.slice_le z _ _) hz, fin⟩)
    | int j uj => exact wpAny_getItem_str_slice (l := none) (u := some (j, uj)) (st := none) hs rfl (post_val_or_str ⟨Nat.le_trans (Txt.slice_le z _ _) hz, fin⟩)
  | int i ui =>
    cases pu with
    | none => exact wpAny_getItem_str_slice (l := some (i, ui)) (u := none) (st := none) hs rfl (post_val_or_str ⟨Nat.le_trans (Txt.slice_le z _ _) hz, fin⟩)
    | int j uj => exact wpAny_getItem_str_slice (l := some (i, ui)) (u := some (j, uj)) (st := none) hs rfl (post_val_or_str ⟨Nat.le_trans (Txt.slice_le z _ _) hz, fin⟩)
theorem vals_strs : ∀ {ys : List Str} {us : List Value}, Vals (ys.map V.str) us → StrsAre us ys
  | [], us, r => by rw [List.map_nil] at r; cases r; exact .nil
  | y :: ys, us, r => by
    rw [List.map_cons] at r
    cases r with
    | cons r1 r2 =>
      obtain ⟨t, e⟩ := r1
      subst e
      exact .cons y t (vals_strs r2)
end

/-! the forms one uses -/
/-! isinstance of plain values -/
end L2

namespace L2
open PySem PySem.Spec PyProof.Rows

/-! ### lists of pairs as tables -/
section
variable {κ : Type} [DecidableEq κ]
def valV (kvs : List (κ × V)) (k : κ) : Option V := (kvs.find? fun kv => decide (kv.1 = k)).map (·.2)
/-- in its place, or at the end -/
def putK (kvs : List (κ × V)) (k : κ) (v : V) : List (κ × V) :=
  if (kvs.any fun kv => decide (kv.1 = k)) = true then kvs.map (fun kv => if kv.1 = k then (kv.1, v) else kv) else kvs ++ [(k, v)]
def dropK (kvs : List (κ × V)) (k : κ) : List (κ × V) := kvs.filter fun kv => decide (kv.1 ≠ k)

theorem valV_pos {p : κ × V} {r : List (κ × V)} {k : κ} (e : p.1 = k) : valV (p :: r) k = some p.2 := by simp [valV, List.find?_cons, e]
theorem valV_neg {p : κ × V} {r : List (κ × V)} {k : κ} (e : ¬ p.1 = k) : valV (p :: r) k = valV r k := by simp [valV, List.find?_cons, e]
theorem valV_any (k : κ) : ∀ kvs : List (κ × V), (kvs.any fun kv => decide (kv.1 = k)) = (valV kvs k).isSome
  | [] => rfl
  | p :: r => by
    rw [List.any_cons]
    by_cases e : p.1 = k
    · simp only [valV_pos e, decide_eq_true e, Bool.true_or, Option.isSome_some]
    · rw [valV_neg e, decide_eq_false e, Bool.false_or]; exact valV_any k r
theorem length_putK (kvs : List (κ × V)) (k : κ) (v : V) : (putK kvs k v).length ≤ kvs.length + 1 := by
  unfold putK
  split
  · rw [List.length_map]; omega
  · rw [List.length_append, List.length_cons, List.length_nil]; omega
theorem RelO.isSome_eq {o : Option V} {u : Option Value} (r : RelO o u) : o.isSome = u.isSome := by
  cases o with
  | none => cases u with
    | none => rfl
    | some _ => exact (show False from r).elim
  | some _ => cases u with
    | none => exact (show False from r).elim
    | some _ => rfl
theorem RelO.getD {o : Option V} {u : Option Value} {d : V} {d' : Value} (r : RelO o u) (rd : RelV d d') : RelV (o.getD d) (u.getD d') := by
  cases o with
  | none => cases u with
    | none => exact rd
    | some _ => exact (show False from r).elim
  | some _ => cases u with
    | none => exact (show False from r).elim
    | some _ => exact r

/-- raw tables of the same keys -/
theorem KV.val {kvs : List (κ × V)} {vs : List (κ × Value)} (r : KV kvs vs) (k : κ) : RelO (valV kvs k) (valueAt vs k) := by
  unfold KV at r
  induction r with
  | nil => exact True.intro
  | @cons p q ps qs h t ih =>
    obtain ⟨h1, h2⟩ := h
    by_cases e : p.1 = k
    · have e' : q.1 = k := h1.symm.trans e
      have b : valueAt (q :: qs) k = some q.2 := by simp [valueAt, List.find?_cons, e']
      rw [valV_pos e, b]; exact h2
    · have e' : ¬ q.1 = k := fun z => e (h1.trans z)
      have b : valueAt (q :: qs) k = valueAt qs k := by simp [valueAt, List.find?_cons, e']
      rw [valV_neg e, b]; exact ih
theorem KV.any {kvs : List (κ × V)} {vs : List (κ × Value)} (r : KV kvs vs) (k : κ) : (kvs.any fun kv => decide (kv.1 = k)) = vs.any fun kv => decide (kv.1 = k) := by
  unfold KV at r
  induction r with
  | nil => rfl
  | cons h t ih => rw [List.any_cons, List.any_cons, ih, h.1]
theorem KV.repl {kvs : List (κ × V)} {vs : List (κ × Value)} (r : KV kvs vs) (k : κ) {y : V} {u : Value} (ry : RelV y u) :
    KV (kvs.map fun kv => if kv.1 = k then (kv.1, y) else kv) (vs.map fun kv => if kv.1 = k then (kv.1, u) else kv) := by
  unfold KV at r ⊢
  induction r with
  | nil => exact .nil
  | @cons p q ps qs h t ih =>
    rw [List.map_cons, List.map_cons]
    refine .cons ?_ ih
    obtain ⟨h1, h2⟩ := h
    by_cases e : p.1 = k
    · rw [if_pos e, if_pos (h1.symm.trans e)]; exact ⟨h1, ry⟩
    · rw [if_neg e, if_neg (fun z => e (h1.trans z))]; exact ⟨h1, h2⟩
theorem KV.put {kvs : List (κ × V)} {vs : List (κ × Value)} (r : KV kvs vs) (k : κ) {y : V} {u : Value} (ry : RelV y u) : KV (putK kvs k y) (stored vs k u) := by
  unfold putK stored
  rw [r.any k]
  by_cases e : (vs.any fun kv => decide (kv.1 = k)) = true
  · rw [if_pos e, if_pos e]; exact r.repl k ry
  · rw [if_neg e, if_neg e]; exact Paired.snoc r ⟨rfl, ry⟩
theorem KV.drop {kvs : List (κ × V)} {vs : List (κ × Value)} (r : KV kvs vs) (k : κ) : KV (dropK kvs k) (without vs k) := by
  unfold KV at r ⊢
  unfold dropK without
  induction r with
  | nil => exact .nil
  | @cons p q ps qs h t ih =>
    obtain ⟨h1, h2⟩ := h
    rw [List.filter_cons, List.filter_cons]
    by_cases e : p.1 = k
    · have a : ¬ decide (p.1 ≠ k) = true := by simp [e]
      have b : ¬ decide (q.1 ≠ k) = true := by simp [h1.symm.trans e]
      rw [if_neg a, if_neg b]; exact ih
    · have e' : ¬ q.1 = k := fun z => e (h1.trans z)
      have a : decide (p.1 ≠ k) = true := by simp [e]
      have b : decide (q.1 ≠ k) = true := by simp [e']
      rw [if_pos a, if_pos b]; exact .cons ⟨h1, h2⟩ ih
theorem KV.keys {kvs : List (κ × V)} {vs : List (κ × Value)} (r : KV kvs vs) : kvs.map (·.1) = vs.map (·.1) := by
  unfold KV at r
  induction r with
  | nil => rfl
  | cons h t ih => rw [List.map_cons, List.map_cons, ih, h.1]
theorem KV.length {kvs : List (κ × V)} {vs : List (κ × Value)} (r : KV kvs vs) : kvs.length = vs.length := Paired.length r
end


/-! ### a tracked dict, its keys ints and texts or tuples of these -/
theorem kV_is {P : Program} {w : World} {k : Key} {u : Value} (r : RelV (kV k) u) : (mixKind P w).is k u = true := by
  cases k with
  | inl i => obtain ⟨t, e⟩ := (show ∃ t, u = Value.int i t from r); subst e; exact mixKind_int P w i t
  | inr x => obtain ⟨t, e⟩ := (show ∃ t, u = Value.str x t from r); subst e; exact mixKind_str P w x t
theorem items_are {P : Program} {w : World} : ∀ {ks : List Key} {us : List Value}, Vals (ks.map kV) us → ItemsAre (mixKind P w) ks us
  | [], _, r => by rw [List.map_nil] at r; cases r; exact .nil
  | k :: ks, _, r => by
    rw [List.map_cons] at r
    cases r with
    | cons h t => exact .cons (kV_is h) (items_are t)

/-- raw entries of a dict with tuple keys -/
abbrev KT (H : Hp) : List (List Key × V) → List (List Key × Addr × Value) → Prop := Paired fun p q => p.1 = q.1 ∧ H q.2.1 = some (.tup (p.1.map kV)) ∧ RelV p.2 q.2.2
theorem KT.val {H : Hp} {kvs : List (List Key × V)} {xs : List (List Key × Addr × Value)} (r : KT H kvs xs) (k : List Key) : RelO (valV kvs k) ((atKey xs k).map (·.2)) := by
  induction r with
  | nil => exact True.intro
  | @cons p q ps qs h t ih =>
    obtain ⟨h1, _, h2⟩ := h
    by_cases e : p.1 = k
    · have e' : q.1 = k := h1.symm.trans e
      have b : atKey (q :: qs) k = some q.2 := by simp [atKey, List.find?_cons, e']
      rw [valV_pos e, b]; exact h2
    · have e' : ¬ q.1 = k := fun z => e (h1.trans z)
      have b : atKey (q :: qs) k = atKey qs k := by simp [atKey, List.find?_cons, e']
      rw [valV_neg e, b]; exact ih
theorem KT.repl {H : Hp} {kvs : List (List Key × V)} {xs : List (List Key × Addr × Value)} (r : KT H kvs xs) (k : List Key) {y : V} {u : Value} (ry : RelV y u) :
    KT H (kvs.map fun kv => if kv.1 = k then (kv.1, y) else kv) (xs.map (putAt k u)) := by
  induction r with
  | nil => exact .nil
  | @cons p q ps qs h t ih =>
    rw [List.map_cons, List.map_cons]
    refine .cons ?_ ih
    obtain ⟨h1, h2, h3⟩ := h
    unfold putAt
    by_cases e : p.1 = k
    · rw [if_pos e, if_pos (h1.symm.trans e)]; exact ⟨h1, h2, ry⟩
    · rw [if_neg e, if_neg (fun z => e (h1.trans z))]; exact ⟨h1, h2, h3⟩
theorem KT.put {H : Hp} {kvs : List (List Key × V)} {xs : List (List Key × Addr × Value)} (r : KT H kvs xs) (k : List Key) {b : Addr} {y : V} {u : Value} (hb : H b = some (.tup (k.map kV))) (ry : RelV y u) :
    KT H (putK kvs k y) (storedH xs k b u) := by
  have e : (kvs.any fun kv => decide (kv.1 = k)) = (atKey xs k).isSome := by
    rw [valV_any, (r.val k).isSome_eq, Option.isSome_map]
  unfold putK storedH
  rw [e]
  by_cases q : (atKey xs k).isSome = true
  · rw [if_pos q, if_pos q]; exact r.repl k ry
  · rw [if_neg q, if_neg q]; exact Paired.snoc r ⟨rfl, hb, ry⟩
theorem KT.keeps {H H' : Hp} {kvs : List (List Key × V)} {xs : List (List Key × Addr × Value)} (r : KT H kvs xs) (ht : ∀ b ys, H b = some (.tup ys) → H' b = some (.tup ys)) : KT H' kvs xs :=
  Paired.mapP r fun _ _ z => ⟨z.1, ht _ _ z.2.1, z.2.2⟩

section
variable {P : Program} {w : World} {H : Hp} {h : Heap} {a : Addr}
theorem rd_of {u : HO} (ok : HOk P w H h) (e : Rd H a u) : ObjOk P w H h a u := e.ok ok
theorem dk_rd {kvs : List (Key × V)} (ok : HOk P w H h) (e : Rd H a (.dK kvs)) : kvs.length ≤ sizeLine ∧ (a == sysModules) = false ∧ ∃ vs, KV kvs vs ∧ h.DictOf (mixKind P w) a vs :=
  show ObjOk P w H h a (.dK kvs) from rd_of ok e
theorem dk_of {kvs : List (Key × V)} (ok : HOk P w H h) (e : H a = some (.dK kvs)) : kvs.length ≤ sizeLine ∧ (a == sysModules) = false ∧ ∃ vs, KV kvs vs ∧ h.DictOf (mixKind P w) a vs := dk_rd ok (.inl e)
/-- a tracked tuple of ints and texts is a key -/
theorem key_of {ks : List Key} (ok : HOk P w H h) (e : H a = some (.tup (ks.map kV))) : (tupleKind (mixKind P w)).is h ks a := by
  obtain ⟨_, its, r, o, h1, h2, n, h3⟩ := (show ObjOk P w H h a (.tup (ks.map kV)) from ok a _ e)
  exact ⟨o, its.toArray, n, h1, h2, h3, by simpa using items_are r⟩
theorem dt_rd {kvs : List (List Key × V)} (ok : HOk P w H h) (e : Rd H a (.dT kvs)) : kvs.length ≤ sizeLine ∧ (a == sysModules) = false ∧
    ∃ xs, KT H kvs xs ∧ h.DictOfH (tupleKind (mixKind P w)) a xs := by
  obtain ⟨z, y, xs, r, o, es, ep, h1, h2, h3, h4, h5⟩ := (show ObjOk P w H h a (.dT kvs) from rd_of ok e)
  refine ⟨z, y, xs, r, o, es, ep, h1, h2, h3, h4, fun x hx => ?_, h5⟩
  have all : ∀ {l : List (List Key × V)} {m : List (List Key × Addr × Value)}, KT H l m → ∀ x ∈ m, (tupleKind (mixKind P w)).is h x.1 x.2.1 := by
    intro l m q
    induction q with
    | nil => intro x hx; exact nomatch hx
    | @cons p q ps qs hq t ih =>
      intro x hx
      rcases List.mem_cons.mp hx with e | hx
      · subst e
        exact key_of ok (by rw [← hq.1]; exact hq.2.1)
      · exact ih x hx
  exact all r x hx
theorem dt_of {kvs : List (List Key × V)} (ok : HOk P w H h) (e : H a = some (.dT kvs)) : kvs.length ≤ sizeLine ∧ (a == sysModules) = false ∧
    ∃ xs, KT H kvs xs ∧ h.DictOfH (tupleKind (mixKind P w)) a xs := dt_rd ok (.inl e)
end

/-- what the dict at a holds at the key y -/
def DGet (H : Hp) (a : Addr) (y : V) (r : Option V) : Prop :=
  (∃ kvs k, Rd H a (.dK kvs) ∧ y = kV k ∧ r = valV kvs k) ∨ ∃ kvs k b, Rd H a (.dT kvs) ∧ y = .ref b ∧ H b = some (.tup (k.map kV)) ∧ r = valV kvs k
/-- the heap behind a[y] = v -/
def DPut (H : Hp) (a : Addr) (y v : V) (H' : Hp) : Prop :=
  (∃ kvs k, H a = some (.dK kvs) ∧ y = kV k ∧ kvs.length < sizeLine ∧ H' = upd H a (.dK (putK kvs k v))) ∨
  ∃ kvs k b, H a = some (.dT kvs) ∧ y = .ref b ∧ H b = some (.tup (k.map kV)) ∧ kvs.length < sizeLine ∧ H' = upd H a (.dT (putK kvs k v))
theorem DGet.k {H : Hp} {a : Addr} {kvs : List (Key × V)} {k : Key} (e : H a = some (.dK kvs)) : DGet H a (kV k) (valV kvs k) := .inl ⟨kvs, k, .inl e, rfl, rfl⟩
theorem DGet.t {H : Hp} {a b : Addr} {kvs : List (List Key × V)} {k : List Key} (e : H a = some (.dT kvs)) (eb : H b = some (.tup (k.map kV))) : DGet H a (.ref b) (valV kvs k) := .inr ⟨kvs, k, b, .inl e, rfl, eb, rfl⟩
theorem DPut.k {H : Hp} {a : Addr} {kvs : List (Key × V)} {k : Key} {v : V} (e : H a = some (.dK kvs)) (hl : kvs.length < sizeLine) : DPut H a (kV k) v (upd H a (.dK (putK kvs k v))) := .inl ⟨kvs, k, e, rfl, hl, rfl⟩
theorem DPut.t {H : Hp} {a b : Addr} {kvs : List (List Key × V)} {k : List Key} {v : V} (e : H a = some (.dT kvs)) (eb : H b = some (.tup (k.map kV))) (hl : kvs.length < sizeLine) :
    DPut H a (.ref b) v (upd H a (.dT (putK kvs k v))) := .inr ⟨kvs, k, b, e, rfl, eb, hl, rfl⟩


section
variable {X : Cx} {pins : List (Addr × Obj)} {σ : St} {H : Hp} {s : Shared} {a : Addr} {y v : V} {u r : Value} {o : Option V} {A : Around} {E : Value → Shared → Prop}

theorem Inv.big (I : Inv X pins σ H s) : sysModules < s.heap.objs.size := by
  have h : mainGlobals < s.heap.objs.size := (I.mod.glob.keeps I.bk).lt
  exact Nat.lt_trans (by decide) h

/-- d[y], there -/
theorem d_getItem {Q : Value → Shared → Prop} (hu : A.units + 1 < cLine) (I : Inv X pins σ H s) (g : DGet H a y (some v)) (ry : RelV y u) (h : ∀ w' s', Inv X pins σ H s' → RelV v w' → Q w' s') :
    wpAny (model X.prog X.w) A (getItem (.ref a) u) Q E s := by
  rcases g with ⟨kvs, k, e, ey, l⟩ | ⟨kvs, k, b, e, ey, eb, l⟩
  · subst ey
    obtain ⟨z, hd, vs, rel, dd⟩ := dk_rd I.hok e
    obtain ⟨w', hw, rw'⟩ := RelO.some_of (v := v) (o := valueAt vs k) (by rw [l]; exact rel.val k)
    exact wpAny_getItem_of (kV_is ry) dd.mapOf hw (h w' _ (I.tok _) rw')
  · subst ey
    cases (show u = Value.ref b from ry)
    obtain ⟨z, hd, xs, rel, dd⟩ := dt_rd I.hok e
    obtain ⟨w', hw, rw'⟩ := RelO.some_of (v := v) (o := (atKey xs k).map (·.2)) (by rw [l]; exact rel.val k)
    obtain ⟨p, hp, hp2⟩ := Option.map_eq_some_iff.mp hw
    refine wpAny_getItem_heap (tupleKind_room_in1 hu) (key_of I.hok eb) dd hp ?_
    rw [hp2]
    exact h w' _ (I.tok _) rw'
/-- a dict's object is replaced -/
theorem d_write {h' : Heap} {t' : Nat} {ob : HO} (I : Inv X pins σ H s) (mu : Mut (H a)) (hs : Heap.SameBut a s.heap h') (he : ∃ q, h'.get? a = some q) (new : ObjOk X.prog X.w (upd H a ob) h' a ob) :
    Inv X pins σ (upd H a ob) { s with heap := h', toks := t' } :=
  I.write (x := a) (e := a) mu (.inl rfl) (fun b q hb z => (hs.2 b hb).trans z) he new
theorem dk_new {P : Program} {w : World} {H' : Hp} {h' : Heap} {kvs : List (Key × V)} {vs : List (Key × Value)} (z : kvs.length ≤ sizeLine) (hd : (a == sysModules) = false) (rel : KV kvs vs) (dd : h'.DictOf (mixKind P w) a vs) :
    ObjOk P w H' h' a (.dK kvs) := ⟨z, hd, vs, rel, dd⟩
/-- d[y] = v -/
theorem d_setItem {H' : Hp} {Q : Unit → Shared → Prop} (hu : A.units + 1 < cLine) (I : Inv X pins σ H s) (g : DPut H a y v H') (ry : RelV y u) (rv : RelV v r) (h : ∀ s', Inv X pins σ H' s' → Q () s') :
    wpAny (model X.prog X.w) A (setItem (.ref a) u r) Q E s := by
  rcases g with ⟨kvs, k, e, ey, l, eH⟩ | ⟨kvs, k, b, e, ey, eb, l, eH⟩
  · subst ey eH
    obtain ⟨z, hd, vs, rel, dd⟩ := dk_of I.hok e
    have hz : vs.length ≤ sizeLine := by rw [← rel.length]; exact z
    have hl : (putK kvs k v).length ≤ sizeLine := by have := length_putK kvs k v; omega
    refine wpAny_setItem_pairs (hsz := hz) (kV_is ry) dd fun h' dd' hs => h _ ?_
    have he : ∃ q, h'.get? a = some q := let ⟨q, _, _, hq, _⟩ := dd'; ⟨q, hq⟩
    exact d_write I (by rw [e]; exact True.intro) hs he (dk_new hl hd (rel.put k rv) dd')
  · subst ey eH
    cases (show u = Value.ref b from ry)
    obtain ⟨z, hd, xs, rel, dd⟩ := dt_of I.hok e
    have hz : xs.length ≤ sizeLine := by rw [← Paired.length rel]; exact z
    have hl : (putK kvs k v).length ≤ sizeLine := by have := length_putK kvs k v; omega
    refine wpAny_setItem_heap (hsz := hz) (tupleKind_room_in1 hu) (key_of I.hok eb) dd fun h' dd' hs => h _ ?_
    obtain ⟨q, es, ep, hq, h2, h3, h4, _, h5⟩ := dd'
    refine d_write I (by rw [e]; exact True.intro) hs ⟨q, hq⟩ ⟨hl, hd, _, (rel.put k eb rv).keeps fun c ys ec => ?_, q, es, ep, hq, h2, h3, h4, h5⟩
    rw [upd_ne (ne_of ec e (fun z => nomatch z))]
    exact ec
end

section
variable {X : Cx} {pins : List (Addr × Obj)} {σ : St} {H : Hp} {s : Shared} {a : Addr} {kvs : List (Key × V)} {k : Key} {u : Value} {A : Around} {E : Value → Shared → Prop}
end


/-! ### readings and rules -/
theorem dict_typeIs {X : Cx} {pins : List (Addr × Obj)} {σ : St} {H : Hp} {s : Shared} {a : Addr} {y : V} {o : Option V} (I : Inv X pins σ H s) (g : DGet H a y o) : s.TypeIs (.ref a) "dict" := by
  rcases g with ⟨kvs, k, e, _, _⟩ | ⟨kvs, k, b, e, _, _, _⟩
  · obtain ⟨_, _, vs, _, dd⟩ := dk_rd I.hok e
    exact dd.typeIs
  · obtain ⟨_, _, xs, _, dd⟩ := dt_rd I.hok e
    exact dd.typeIs
/-- d[y] = v -/
def sDPut (td ty tv : TE) : TS := fun D σ H => tv σ H fun v H1 => td σ H1 fun x H2 => ty σ H2 fun y H3 => ∃ a H4, x = .ref a ∧ DPut H3 a y v H4 ∧ D.nx σ H4
section
variable {X : Cx} {o i e value : Expr} {pos pos' tpos : Pos} {td ty tv : TE}
theorem ps_dput (hu : X.A.units + 1 < cLine) (ho : PE X o td) (hi : PE X i ty) (hv : PE X value tv) (hs : swapsWith value (some (.Subscript o i pos')) pos.line X.env = pure false) :
    PS X (.Assign [.Subscript o i pos'] value pos) (sDPut td ty tv) := by
  intro pins s σ H D I h
  refine wpAny_Assign_Subscript (thn (hv pins s σ H _ I h) fun r s1 ⟨v, H1, I1, rv, q1⟩ => thn (ho pins s1 σ H1 _ I1 q1) fun u s2 ⟨x, H2, I2, rx, q2⟩ => thn (hi pins s2 σ H2 _ I2 q2) fun iv s3 ⟨y, H3, I3, ry, a, H4, ex, g, q3⟩ => ?_) hs
  subst ex
  obtain rfl : u = Value.ref a := rx
  exact d_setItem hu I3 g ry rv fun s4 I4 => ⟨σ, H4, I4, q3⟩
end


/-! ### displays -/
theorem dk_empty {P : Program} {w : World} {H : Hp} (h : Heap) (hb : sysModules < h.objs.size) : ObjOk P w H (h.push { cls := .type "dict", data := .dict #[] }) h.objs.size (.dK []) :=
  ⟨Nat.zero_le _, beq_eq_false_iff_ne.mpr (Ne.symm (Nat.ne_of_lt hb)), [], .nil, Heap.DictOf.new h⟩
/-- {}, to be a dict of the kind that is wanted -/
def tDNewK : TE := fun _ H Q => ∀ p, H p = none → Q (.ref p) (upd H p (.dK []))
section
variable {X : Cx} {pos : Pos}
theorem pe_dnewK : PE X (.Dict [] [] pos) tDNewK := fun pins s σ H Q I h =>
  wpAny_Dict_empty ⟨.ref s.heap.objs.size, _, I.laid (a := s.heap.objs.size) (o := .dK []) (t' := s.toks) (fun _ _ q => Heap.get?_push_of_some _ q) (Nat.le_refl _) (dk_empty s.heap I.big), rfl, h _ (I.hok.fresh (Nat.le_refl _))⟩
end

/-! ### methods -/
/-- a method call o.m(e) of a built-in, with one argument: what must be seen of the text -/
structure M1 (X : Cx) (o : Expr) (m : Str) (apos : Pos) (e : Expr) (cpos : Pos) : Prop where
  base : attributeBase o m X.env (eval o X.env) = eval o X.env
  few : ((backTo cpos (starEach [e] X.env)).all (fun x => !x.1) && (backToKw cpos (keywordEach [] X.env)).all (fun x => x.1.isSome)
    && decide (([e] : List Expr).length + ([] : List Keyword).length + (if ([] : List Keyword).isEmpty then 0 else 1) < 30)) = true
  line : (apos.endLine == cpos.line) = true
  trees : backTo cpos (starEach [e] X.env) = [(false, eval e X.env)]
structure M2 (X : Cx) (o : Expr) (m : Str) (apos : Pos) (e f : Expr) (cpos : Pos) : Prop where
  base : attributeBase o m X.env (eval o X.env) = eval o X.env
  few : ((backTo cpos (starEach [e, f] X.env)).all (fun x => !x.1) && (backToKw cpos (keywordEach [] X.env)).all (fun x => x.1.isSome)
    && decide (([e, f] : List Expr).length + ([] : List Keyword).length + (if ([] : List Keyword).isEmpty then 0 else 1) < 30)) = true
  line : (apos.endLine == cpos.line) = true
  trees : backTo cpos (starEach [e, f] X.env) = [(false, eval e X.env), (false, eval f X.env)]

section
variable {X : Cx} {pins : List (Addr × Obj)} {σ : St} {H : Hp} {s : Shared} {a : Addr} {y d : V} {u r : Value} {o : Option V} {A : Around} {E : Value → Shared → Prop}
end

section
variable {X : Cx} {o e f : Expr} {apos cpos : Pos} {td ty tx : TE}
end

/-! ### dict(d): a copy -/
section
variable {X : Cx} {pins : List (Addr × Obj)} {σ : St} {H : Hp} {s : Shared} {a : Addr} {kvs : List (Key × V)} {A : Around} {E : Value → Shared → Prop}
end


section
variable {X : Cx} {pins : List (Addr × Obj)} {σ : St} {H : Hp} {s : Shared} {a : Addr} {y : V} {u : Value} {A : Around} {E : Value → Shared → Prop}
end
end L2

set_option Elab.async false
set_option linter.all false
set_option maxRecDepth 100000
set_option maxHeartbeats 4000000
/-! own additions: exceptions that fly -/
namespace L2
open PySem PySem.Spec PyProof.Rows
/-- an exception stands at a: its class, its own dict, the head of its traceback -/
def XO (h : Heap) (a : Addr) (C : Value) (d : Option Addr) (head : Value) : Prop :=
  ∃ oe vs, h.get? a = some oe ∧ oe.cls = C ∧ oe.dict = d ∧ oe.data = .fields vs ∧ vs.size = 6 ∧ vs[1]? = some head
/-- a traceback's record -/
def TB (h : Heap) (T : Addr) (fl : Value) : Prop := ∃ oT ts, h.get? T = some oT ∧ oT.data = .fields ts ∧ ts[3]? = some fl
theorem dict_mapFields (o : Obj) (f) : (o.mapFields f).dict = o.dict := by
  obtain ⟨c, d, dt, sl⟩ := o
  cases dt <;> rfl
theorem XO.keeps {h h' : Heap} {a : Addr} {C : Value} {d : Option Addr} {head : Value} (x : XO h a C d head) (k : ∀ o, h.get? a = some o → h'.get? a = some o) : XO h' a C d head := by
  obtain ⟨oe, vs, e, r⟩ := x
  exact ⟨oe, vs, k _ e, r⟩
theorem TB.keeps {h h' : Heap} {T : Addr} {fl : Value} (x : TB h T fl) (k : ∀ o, h.get? T = some o → h'.get? T = some o) : TB h' T fl := by
  obtain ⟨oT, ts, e, r⟩ := x
  exact ⟨oT, ts, k _ e, r⟩
theorem XO.set1 {h : Heap} {a : Addr} {C : Value} {d : Option Addr} {head : Value} (x : XO h a C d head) (u : Value) : XO (h.update a (Obj.mapFields (·.setIfInBounds 1 u))) a C d u := by
  obtain ⟨oe, vs, e, hc, hdi, hd, hz, h1⟩ := x
  have hd' := Obj.data_mapFields hd (·.setIfInBounds 1 u)
  refine ⟨_, _, Heap.get?_update_self _ e (Obj.isFreed_of_fields hd'), (Obj.cls_mapFields _ _).trans hc, (dict_mapFields _ _).trans hdi, hd', ?_, ?_⟩
  · rw [Array.size_setIfInBounds]; exact hz
  · have : 1 < vs.size := by omega
    simp [this]
theorem TB.set3 {h : Heap} {T : Addr} {fl : Value} (x : TB h T fl) (u : Value) : TB (h.update T (Obj.mapFields (·.setIfInBounds 3 u))) T u := by
  obtain ⟨oT, ts, e, hd, h3⟩ := x
  have hd' := Obj.data_mapFields hd (·.setIfInBounds 3 u)
  refine ⟨_, _, Heap.get?_update_self _ e (Obj.isFreed_of_fields hd'), hd', ?_⟩
  have : 3 < ts.size := (Array.getElem?_eq_some_iff.mp h3).1
  simp [this]
section
variable {M : Model} {A : Around} {E : Value → Shared → Prop} {s : Shared} {base : Heap} {env : Env} {outer : List Env} {L a : Addr} {C : Value} {d : Option Addr} {head : Value} {Q : Unit → Shared → Prop}
/-- the frame is noted in the exception: the last part -/
theorem note_core {b2 : Bool} (hfr : A.frames = some (env :: outer)) (hl : s.heap.FunFrames base (env :: outer)) (hf : env.frame = some L) (x : XO s.heap a C d head)
    (h : ∀ h' T, s.heap.objs.size ≤ T → XO h' a C d (.ref T) → TB h' T (rawInt L) → (∀ b o, b ≠ a → b ∉ frs (env :: outer) → s.heap.get? b = some o → h'.get? b = some o) →
      (∀ b o, b ≠ a → b ∈ frs (env :: outer) → s.heap.get? b = some o → ∃ sl, h'.get? b = some { o with slots := sl }) → Q () { s with heap := h' }) :
    wpAny M A (do let fr ← frameOf env; let pl ← entryPlaceOf L b2; let tb ← EntryCells.newEntry head fr .none (rawInt L) .none pl; setField (.ref a) 1 tb) Q E s := by
  obtain ⟨oe, vs, e, hc, hdi, hd, hz, h1⟩ := id x
  have aN : a ∉ frs (env :: outer) := fun hm => by
    obtain ⟨_, o, ho, nf⟩ := hl.mem hm
    rw [e] at ho
    cases ho
    exact nf vs hd
  refine wpAny_bind (wpAny_frameOf_fun hfr hl hf fun g1 sl1 => wpAny_bind (wpAny_entryPlaceOf fun pl ipl => ?_))
  unfold EntryCells.newEntry newFields
  refine wpAny_bind (wpAny_newObj_type ?_ (ipl.sizeOk5 _ _ _ _ _))
  have x1 : XO g1 a C d head := ⟨oe, vs, (sl1.2.1 a aN).trans e, hc, hdi, hd, hz, h1⟩
  generalize hob : ({ cls := .type "traceback", dict := none, data := .fields ([head, .ref L, .none, rawInt L, .none] ++ (if pl.isEmpty then List.replicate 6 Value.none else pl)).toArray } : Obj) = ob
  have x2 : XO (g1.push ob) a C d head := x1.keeps fun o q => Heap.get?_push_of_some _ q
  obtain ⟨oe2, vs2, e2, _, _, hd2, hz2, _⟩ := id x2
  refine wpAny_setField e2 hd2 (by omega) ?_
  have aT : g1.objs.size ≠ a := fun z => by
    obtain ⟨_, _, q, _⟩ := x1
    have := Heap.lt_size q
    rw [← z] at this
    exact Nat.lt_irrefl _ this
  have szle : s.heap.objs.size ≤ g1.objs.size := Nat.le_of_eq sl1.1.symm
  refine h _ g1.objs.size szle (x2.set1 _) ?_ (fun b o nb nf q => ?_) (fun b o nb nf q => ?_)
  · have t0 : TB (g1.push ob) g1.objs.size (rawInt L) := by
      refine ⟨ob, _, Heap.get?_push_size _ (by rw [← hob]; rfl), by rw [← hob], ?_⟩
      rcases ipl with rfl | ⟨_, _, _, _, _, _, _, rfl⟩ <;> simp
    exact t0.keeps fun o q => (Heap.get?_update_other _ _ (Ne.symm aT)).trans q
  · exact (Heap.get?_update_other _ _ (Ne.symm nb)).trans (Heap.get?_push_of_some _ ((sl1.2.1 b nf).trans q))
  · obtain ⟨sl, z⟩ := sl1.2.2 b o q
    exact ⟨sl, (Heap.get?_update_other _ _ (Ne.symm nb)).trans (Heap.get?_push_of_some _ z)⟩
theorem note_ok (hfr : A.frames = some (env :: outer)) (hl : s.heap.FunFrames base (env :: outer)) (hf : env.frame = some L) (x : XO s.heap a C d head)
    (ht : head = .none ∨ ∃ T0, head = .ref T0 ∧ T0 ≠ a ∧ TB s.heap T0 .none)
    (h : ∀ h' T, s.heap.objs.size ≤ T → XO h' a C d (.ref T) → TB h' T (rawInt L) → (∀ b o, b ≠ a → .ref b ≠ head → b ∉ frs (env :: outer) → s.heap.get? b = some o → h'.get? b = some o) →
      (∀ b o, b ∈ frs (env :: outer) → s.heap.get? b = some o → ∃ sl, h'.get? b = some { o with slots := sl }) → Q () { s with heap := h' }) :
    wpAny M A (noteFrame (.ref a) env) Q E s := by
  obtain ⟨oe, vs, e, hc, hdi, hd, hz, h1⟩ := id x
  have aN : a ∉ frs (env :: outer) := fun hm => by
    obtain ⟨_, o, ho, nf⟩ := hl.mem hm
    rw [e] at ho
    cases ho
    exact nf vs hd
  unfold noteFrame
  simp only [hf]
  refine wpAny_bind (wpAny_field e hd h1 ?_)
  rcases ht with rfl | ⟨T0, rfl, nT, t0⟩
  · rw [if_neg (by decide)]
    exact note_core hfr hl hf x fun h' T k1 k2 k3 k4 k5 => h h' T k1 k2 k3 (fun b o nb _ nf q => k4 b o nb nf q) fun b o hb q => k5 b o (fun z => aN (z ▸ hb)) hb q
  · obtain ⟨oT, ts, eT, hdT, h3⟩ := id t0
    have TN : T0 ∉ frs (env :: outer) := fun hm => by
      obtain ⟨_, o, ho, nf⟩ := hl.mem hm
      rw [eT] at ho
      cases ho
      exact nf ts hdT
    rw [if_pos (show (Value.ref T0 != Value.none) = true from by simp)]
    refine wpAny_bind (wpAny_field eT hdT h3 ?_)
    rw [if_neg (show ¬ ((Value.none == rawInt L) = true) from by simp [rawInt])]
    refine wpAny_bind (wpAny_setField eT hdT (Array.getElem?_eq_some_iff.mp h3).1 ?_)
    have oth : ∀ b, b ≠ T0 → (s.heap.update T0 (Obj.mapFields (·.setIfInBounds 3 Value.none))).get? b = s.heap.get? b := fun b hb => Heap.get?_update_other _ _ (Ne.symm hb)
    refine note_core (s := { s with heap := s.heap.update T0 (Obj.mapFields (·.setIfInBounds 3 Value.none)) }) hfr (hl.of_keeps fun b o hb nf => ⟨o, (oth b fun q => ?_).trans hb, rfl⟩) hf (x.keeps fun o q => (oth a (Ne.symm nT)).trans q) fun h' T k1 k2 k3 k4 k5 =>
      h h' T (by simpa using k1) k2 k3 (fun b o nb nh nf q => k4 b o nb nf ((oth b fun z => nh (by rw [z])).trans q)) fun b o hb q => k5 b o (fun z => aN (z ▸ hb)) hb ((oth b fun z => TN (z ▸ hb)).trans q)
    rw [q, eT] at hb
    cases hb
    exact nf ts hdT
theorem flight_ok {T : Addr} {fl : Value} (x : XO s.heap a C d (.ref T)) (t : TB s.heap T fl) (ne : T ≠ a)
    (h : ∀ h', XO h' a C d (.ref T) → TB h' T .none → (∀ b o, b ≠ T → s.heap.get? b = some o → h'.get? b = some o) → h'.objs.size = s.heap.objs.size → Q () { s with heap := h' }) : wpAny M A (setFlight (.ref a) none) Q E s := by
  obtain ⟨oe, vs, e, _, _, hd, _, h1⟩ := id x
  obtain ⟨oT, ts, eT, hdT, h3⟩ := id t
  unfold setFlight
  refine wpAny_bind (wpAny_field e hd h1 ?_)
  rw [if_pos (show (Value.ref T != Value.none) = true from by simp)]
  refine wpAny_setField eT hdT (Array.getElem?_eq_some_iff.mp h3).1 ?_
  exact h _ (x.keeps fun o q => (Heap.get?_update_other _ _ ne).trans q) (t.set3 _) (fun b o nb q => (Heap.get?_update_other _ _ (Ne.symm nb)).trans q) (by simp)
end
end L2

namespace L2
open PySem PySem.Spec PyProof.Rows
/-- a record of the run's own, not tracked: it may change -/
def OwnRec (X : Cx) (pins : List (Addr × Obj)) (H : Hp) (b : Addr) : Prop :=
  H b = none ∧ X.s₀.heap.objs.size ≤ b ∧ b ≠ X.env.locals ∧ (∀ x c, X.env.cells.lookup x = some c → c ≠ b) ∧ ∀ p ∈ X.pn ++ pins, p.1 ≠ b
theorem OwnRec.new {X : Cx} {pins : List (Addr × Obj)} {σ : St} {H H' : Hp} {s : Shared} {b : Addr} (I : Inv X pins σ H s) (hb : s.heap.objs.size ≤ b) (hn : H' b = none) : OwnRec X pins H' b := by
  obtain ⟨f0, f1, f2, f3, f4, f5⟩ := I.fpOk (H' := H') hb hn
  exact ⟨hn, Nat.le_trans I.sz hb, f1, f4, f5⟩
/-- an exception flies: its class at C, its own dict at d -/
def Fly (X : Cx) (pins : List (Addr × Obj)) (H : Hp) (h : Heap) (a C : Addr) (d : Option Addr) : Prop :=
  ∃ head, XO h a (.ref C) d head ∧ OwnRec X pins H a ∧ (head = .none ∨ ∃ T, head = .ref T ∧ T ≠ a ∧ TB h T .none ∧ OwnRec X pins H T)
def Throws (X : Cx) (E : XK) : Prop := ∀ (pins : List (Addr × Obj)) (σ : St) (H : Hp) (s : Shared) (a C : Addr) (d : Option Addr), Inv X pins σ H s → Fly X pins H s.heap a C d → E (.ref C) d H → X.xe (.ref a) s
/-- how an exception lies behind a call -/
def CXe (P : Program) (w : World) : CXT := fun outer H s E e s' => ∃ (a C T : Addr) (d : Option Addr) (H' : Hp), e = .ref a ∧ s'.os = s.os ∧ AllBare s'.gens ∧ Un (frs outer) [] H H' s.heap s'.heap ∧ HOk P w H' s'.heap ∧
  XO s'.heap a (.ref C) d (.ref T) ∧ T ≠ a ∧ TB s'.heap T .none ∧ (s.heap.objs.size ≤ a ∧ H' a = none) ∧ (s.heap.objs.size ≤ T ∧ H' T = none) ∧ E (.ref C) d H'
theorem passes_of {X : Cx} {E : XK} (t : Throws X E) : Passes (CXe X.prog X.w) X E := by
  rintro pins σ H s e s' I ⟨a, C, T, d, H', rfl, os, bare, un, hok, x, ne, tb, ⟨a1, a2⟩, ⟨t1, t2⟩, q⟩
  have I' : Inv X pins σ H' s' := I.call' (ch := []) os un hok bare fun b z => absurd z (by simp)
  exact t pins σ H' s' a C d I' ⟨_, x, OwnRec.new I a1 a2, .inr ⟨T, rfl, ne, tb, OwnRec.new I t1 t2⟩⟩ q
def chOf (a : Addr) : Value → List Addr
  | .ref T0 => [a, T0]
  | _ => [a]
theorem a_chOf (a : Addr) (v : Value) : a ∈ chOf a v := by cases v <;> simp [chOf]
theorem T_chOf (a T0 : Addr) : T0 ∈ chOf a (.ref T0) := by simp [chOf]
section
variable {X : Cx} {pins : List (Addr × Obj)} {σ : St} {H : Hp} {s : Shared} {a C : Addr} {d : Option Addr} {A : Around} {E : Value → Shared → Prop} {Q : Unit → Shared → Prop}
theorem fly_note (I : Inv X pins σ H s) (hfr : A.frames = some X.stack) (hst : X.stack = X.env :: X.outer) (hf : X.env.frame = some X.env.locals) (F : Fly X pins H s.heap a C d)
    (h : ∀ s' T, Inv X pins σ H s' → XO s'.heap a (.ref C) d (.ref T) → T ≠ a → TB s'.heap T (rawInt X.env.locals) → OwnRec X pins H a → OwnRec X pins H T → Q () s') : wpAny (model X.prog X.w) A (noteFrame (.ref a) X.env) Q E s := by
  obtain ⟨head, x, oa, ht⟩ := F
  have hl : s.heap.FunFrames X.base (X.env :: X.outer) := hst ▸ I.stack
  have hfr' : A.frames = some (X.env :: X.outer) := hfr.trans (congrArg some hst)
  have efr : frs (X.env :: X.outer) = X.env.locals :: X.fs := by
    unfold frs
    rw [List.filterMap_cons, hf]
    rfl
  have hfree : ∀ b ∈ X.env.locals :: X.fs, H b = none := fun b hb => I.stkFree b (by rw [hst, efr]; exact hb)
  have headN : ∀ b u, H b = some u → Value.ref b ≠ head := fun b u e z => by
    rcases ht with rfl | ⟨T0, rfl, _, _, r⟩
    · cases z
    · cases z
      rw [r.1] at e
      cases e
  refine note_ok hfr' hl hf x (ht.imp id fun ⟨T0, e1, e2, e3, _⟩ => ⟨T0, e1, e2, e3⟩) fun h' T k1 k2 k3 k4 k5 => ?_
  rw [efr] at k4 k5
  have oT : OwnRec X pins H T := OwnRec.new I k1 (I.hok.fresh k1)
  have neT : T ≠ a := fun z => by
    obtain ⟨_, _, e, _⟩ := x
    have := Heap.lt_size e
    rw [← z] at this
    exact Nat.lt_irrefl _ (Nat.lt_of_lt_of_le this k1)
  refine h { s with heap := h' } T ?_ k2 neT k3 oa oT
  refine I.step (g' := s.gens) (t' := s.toks) (d' := s.drawn) (ch := chOf a head) (fun b hb => ?_) (fun b o n1 n2 n3 e n => k4 b o (fun z => n3 ?_) (fun z => n3 ?_) (fun z => (List.mem_cons.mp z).elim n1 n2) e)
    (fun b o n1 n2 n3 e n => k5 b o (List.mem_cons_of_mem _ n2) e) (fun _ _ _ _ n => n) (fun b o n3 e => ?_) (fun _ _ e => e) (fun _ _ _ e => e) (fun b ps e => ⟨#[], by rw [e]; simp⟩) (fun m hm => ?_) (fun b u e => ?_) I.bare
  · have own : OwnRec X pins H b := by
      rcases ht with rfl | ⟨T0, rfl, _, _, r⟩
      · have z : b = a := by simpa [chOf] using hb
        rw [z]; exact oa
      · have z : b = a ∨ b = T0 := by simpa [chOf] using hb
        rcases z with z | z
        · rw [z]; exact oa
        · rw [z]; exact r
    exact ⟨.inr own.2.1, own.2.2.1, own.2.2.2.1, own.2.2.2.2⟩
  · rw [z]
    exact a_chOf a head
  · rw [← z]
    exact T_chOf a b
  · by_cases hb : b ∈ X.env.locals :: X.fs
    · obtain ⟨sl, z⟩ := k5 b o hb e
      exact ⟨_, z⟩
    · exact ⟨o, k4 b o (fun z => n3 (by rw [z]; exact a_chOf a head)) (fun z => n3 (by rw [← z]; exact T_chOf a b)) hb e⟩
  · obtain ⟨o, es, ep, ho, r⟩ := hm
    obtain ⟨sl, z⟩ := k5 _ o List.mem_cons_self ho
    exact ⟨_, es, ep, z, r⟩
  · refine (I.hok b u e).stay (fun c v hc q => ?_) (fun _ q => q) fun _ _ q => q
    have tr : ∃ u', H c = some u' := by
      rcases hc with z | z
      · exact ⟨u, by rw [z]; exact e⟩
      · exact ⟨_, z⟩
    obtain ⟨u', eu⟩ := tr
    exact k4 c v (fun z => by rw [z, oa.1] at eu; cases eu) (headN c u' eu) (fun z => by rw [hfree c z] at eu; cases eu) q
theorem fly_land {T : Addr} {fl : Value} (I : Inv X pins σ H s) (x : XO s.heap a (.ref C) d (.ref T)) (ne : T ≠ a) (tb : TB s.heap T fl) (oa : OwnRec X pins H a) (oT : OwnRec X pins H T)
    (h : ∀ s', Inv X pins σ H s' → XO s'.heap a (.ref C) d (.ref T) → TB s'.heap T .none → Q () s') : wpAny (model X.prog X.w) A (setFlight (.ref a) none) Q E s := by
  refine flight_ok x tb ne fun h' k1 k2 k3 _ => h { s with heap := h' } ?_ k1 k2
  exact I.turned (t' := s.toks) (it := T) (fun b o nb e => k3 b o nb e) oT.1 oT.2.2.1 (.inr oT.2.1) oT.2.2.2.1 oT.2.2.2.2
end
section
variable {P : Program} {w : World} {K : PySem.W.Frag} {mg : Str → Option Value} {base : Heap}
/-- a def whose body may throw -/
theorem Fun.okX {x qual : Str} {st : Stmt} {f : Addr} {fd : FuncData} {N ps : List Str} {k : Nat} {sp : Sp} (F : Fun K x qual st f fd) (S : FnScope N ps (defScope st)) (len : ∀ vs H Q E, sp vs H Q E → vs.length = ps.length)
    (hbody : ∀ (cdv : Value) (A : Around) (outer : List Env) (s : Shared) (H : Hp) (vs : List V) (Q : VK) (E : XK), Room k (A.deeper (envOfC qual (defScope st) s.heap.objs.size f cdv)) → sp vs H Q E →
      ∃ t, PSs (cxOf (CXe P w) P w K mg base N qual (defScope st) f cdv A outer s H E) (defBody st) t ∧ t { nx := fun _ H' => Q .non H', rt := Q } (start N vs) H) : FnOk P w K mg base (CXe P w) (k + 1) f fd ps sp := by
  obtain ⟨oc, od, kV, doc, pm, an, cdv, ct, osl, rfl, lk, hcd⟩ := F.ex
  exact fn_of lk hcd S len fun A outer s H vs Q E hr hsp => hbody cdv A outer s H vs Q E hr hsp
/-- a def that throws nothing, among those that may -/
theorem FnOk.calm {k : Nat} {f : Addr} {fd : FuncData} {ps : List Str} {sp : Sp} (F : FnOk P w K mg base CX0 k f fd ps sp) : FnOk P w K mg base (CXe P w) k f fd ps sp := by
  refine ⟨F.len, fun A outer s H args us vs Q E hr he hb hv hs => codeAny_mono (F.run A outer s H args us vs Q E hr he hb hv hs) fun r s' hq => ?_⟩
  cases r with
  | error e => exact False.elim hq
  | ok fl => cases fl <;> exact hq
end
end L2

namespace L2
open PySem PySem.Spec PyProof.Rows PySem.W PySem.Builtin PySem.Builtin.ObjectAttr
/-- own classes ahead, ValueError's line behind -/
def valLine : List Value → Bool
  | [.type a, .type b, .type c, .type d] => a == "ValueError" && b == "Exception" && c == "BaseException" && d == "object"
  | .ref _ :: r => valLine r
  | _ => false
def lineIn (K : Frag) (C : Addr) : Bool := (clsIn K C).any fun cd => valLine cd.mro
section
variable {prog : Program} {w : World} {A : Around} {E : Value → Shared → Prop} {K : Frag} {x C : Addr} {s : Shared} {R : Result → Shared → Prop}
end
end L2

namespace L2
open PySem PySem.Spec PyProof.Rows PySem.W PySem.Builtin PySem.Builtin.ObjectAttr
section
variable {prog : Program} {w : World} {A : Around} {h : Heap} {g : Array GenState} {d : Drawn} {t : Nat} {os : OsState} {R : Result → Shared → Prop}
variable {nm q : Str} {C N f : Addr} {bs bm bmB : List Value} {hdct : Bool} {sn : List Str} {sub : List Value} {ab : Bool} {col : Option Bool} {dd : Option Addr} {k0 k1 k2 k3 k5 : Option Value} {B newId initId : String}
end
/-- an exception as it was made, before it flies -/
def exO (C t : Addr) (d : Option Addr) (a : Addr) : HO := .ext fun h => h.get? a = some { cls := .ref C, dict := d, data := .fields #[.ref t, .none, .none, .none, .bool false, .none] }
/-- what of the text an own error class must have to be given the attribute f -/
structure ExCls (K : PySem.W.Frag) (C : Addr) (f : Str) : Prop where
  sa : PySem.W.findIn K (.ref C) "__setattr__" = some (some (.builtin "object.__setattr__"))
  line : lineIn K C = true
  no : PySem.W.takerIn K C f = some none
  hd : PySem.W.hasDictIn K C = true
def sFldE (K : PySem.W.Frag) (ta tv : TE) (f : Str) : TS := fun D σ H => tv σ H fun y H1 => ta σ H1 fun x H2 => ∃ a C t, x = .ref a ∧ H2 a = some (exO C t none a) ∧ ExCls K C f ∧
  ∀ d, H2 d = none → D.nx σ (upd (upd H2 d (.xd [(f, y)])) a (exO C t (some d) a))
end L2

namespace L2
open PySem PySem.Spec PyProof.Rows PySem.W PySem.Builtin PySem.Builtin.ObjectAttr
abbrev veLine : List Value := [.type "ValueError", .type "Exception", .type "BaseException", .type "object"]
/-- an own error class beneath ValueError -/
structure ExOf (K : Frag) (C : Addr) : Prop where
  ob : ∃ nm q N bs bm hdct sn sub ab col dd k0 k1 k2 k3 k5, K.lookup C = some (excClassObj nm q C N bs bm hdct sn sub ab col dd k0 k1 k2 k3 k5 "ValueError.__new__") ∧ tailIn K veLine bm = true ∧ nsOkIn K N = true
  kp : keepIn K (.ref C) = true
/-- such a class, its __init__ at f -/
structure ExMk (K : Frag) (C f : Addr) : Prop where
  ob : ∃ nm q N bs bm hdct sn sub ab col dd k0 k1 k2 k3 k5, K.lookup C = some (excClassObj nm q C N bs bm hdct sn sub ab col dd k0 k1 k2 k3 k5 "ValueError.__new__") ∧ tailIn K veLine bm = true ∧ nsOkIn K N = true ∧ nsIn K N "__init__" = some (some (.ref f))
  fn : isFn K (.ref f) = true
  kp : keepIn K (.ref C) = true
theorem ExMk.of {K : Frag} {C f : Addr} (x : ExMk K C f) : ExOf K C := by
  obtain ⟨⟨nm, q, N, bs, bm, hdct, sn, sub, ab, col, dd, k0, k1, k2, k3, k5, a, b, c, _⟩, _, k⟩ := x
  exact ⟨⟨nm, q, N, bs, bm, hdct, sn, sub, ab, col, dd, k0, k1, k2, k3, k5, a, b, c⟩, k⟩
/-- an entry is tracked no more -/
def del (H : Hp) (a : Addr) : Hp := fun b => if b = a then none else H b
theorem del_same {H : Hp} {a : Addr} : del H a a = none := if_pos rfl
theorem del_ne {H : Hp} {a b : Addr} (h : b ≠ a) : del H a b = H b := if_neg h
theorem Inv.drop {X : Cx} {pins : List (Addr × Obj)} {σ : St} {H : Hp} {s : Shared} {a : Addr} {φ : Heap → Prop} (I : Inv X pins σ H s) (ha : H a = some (.ext φ)) : Inv X pins σ (del H a) s := by
  have ne : ∀ b u, H b = some u → (∀ φ, u ≠ .ext φ) → b ≠ a := fun b u e n z => by
    rw [z, ha] at e
    cases e
    exact n _ rfl
  have t : Inv X pins σ (del H a) { s with heap := s.heap, toks := s.toks } := I.un ⟨fun b o e _ _ _ => e, fun b o e _ _ _ => ⟨o.slots, e⟩, fun b o e n _ => ?_, fun b o e _ => ⟨o, e⟩, fun b xs e => ?_, fun b o u e => ?_, fun b ps e => ?_⟩ fun b u e => ?_
  · exact t
  · unfold del
    split <;> first | rfl | exact n
  · rw [del_ne (ne b _ e fun _ z => by cases z)]; exact e
  · rw [del_ne (ne b _ e fun _ z => by cases z)]; exact e
  · exact ⟨#[], by rw [del_ne (ne b _ e fun _ z => by cases z), e]; simp⟩
  · have z : b ≠ a := fun z => by rw [z, del_same] at e; cases e
    rw [del_ne z] at e
    refine (I.hok b u e).stay (fun _ _ _ q => q) (fun c q => ?_) fun c xs q => ?_
    · rw [del_ne (ne c _ q fun _ z => by cases z)]; exact q
    · rw [del_ne (ne c _ q fun _ z => by cases z)]; exact q
section
variable {M : Model} {A : Around} {E : Value → Shared → Prop} {env : Env} {s : Shared}
end
section
variable {X : Cx} {CX : CXT} {k : Nat} {f C : Addr} {fd : FuncData} {ps : List Str} {sp : Sp} {E : XK}
/-- an error class's __init__ that lays its one argument -/
def spEx1 (C : Addr) (f : Str) : Sp := fun vs H Q _ => ∃ a t y, vs = [.ref a, y] ∧ H a = some (exO C t none a) ∧ ∀ d, H d = none → Q .non (upd (upd H d (.xd [(f, y)])) a (exO C t (some d) a))
end
end L2

namespace L2
open PySem PySem.Spec PyProof.Rows PySem.W PySem.Builtin PySem.Builtin.ObjectAttr
/-- how an exception leaves an expression: the names as they were -/
def XP (X : Cx) (pins : List (Addr × Obj)) (σ : St) (E : XK) (u : Value) (s' : Shared) : Prop := ∃ (a C : Addr) (d : Option Addr) (H' : Hp), u = .ref a ∧ Inv X pins σ H' s' ∧ Fly X pins H' s'.heap a C d ∧ E (.ref C) d H'
abbrev TX := St → Hp → VK → XK → Prop
def PX (X : Cx) (e : Expr) (t : TX) : Prop :=
  ∀ (pins : List (Addr × Obj)) (s : Shared) (σ : St) (H : Hp) (Q : VK) (E : XK), Inv X pins σ H s → t σ H Q E → wpAny (model X.prog X.w) X.A (eval e X.env) (EP X pins σ Q) (XP X pins σ E) s
section
variable {X : Cx} {k : Nat} {f C : Addr} {fd : FuncData} {ps : List Str} {sp : Sp} {dvs : List V} {ds : List Value} {E : XK} {x m : Str} {p pos apos : Pos} {e o : Expr} {es : List Expr} {ta : TE} {t : TA}
end
/-- an exception that was caught -/
def exC (C : Addr) (d : Option Addr) (a : Addr) : HO := .ext fun h => ∃ T : Addr, XO h a (.ref C) d (.ref T)
abbrev Cx.caught (X : Cx) (a : Addr) : Cx := { X with A := X.A.mark (some (.ref a)), calm := false, xe := fun _ _ => False }
section
variable {X : Cx} {pins : List (Addr × Obj)} {σ : St} {H : Hp} {s : Shared} {a C : Addr} {d : Option Addr}
theorem Inv.caught (I : Inv X pins σ H s) (a : Addr) : Inv (X.caught a) pins σ H s :=
  ⟨⟨I.ok.mod, I.ok.kind, I.ok.glob, I.ok.blt, I.ok.above, I.ok.inj, I.ok.has, I.ok.cab, (fun z => nomatch z), I.ok.frames, I.ok.stk, I.ok.exf, I.ok.bs, I.ok.bsz, I.ok.noex, I.ok.exfs, I.ok.funs, I.ok.frf⟩, I.os, I.bare, I.base, I.loc, I.cell, I.free, I.freeC, I.pin, I.hok, I.len⟩
end
end L2

namespace L2
open PySem PySem.Spec PyProof.Rows PySem.W PySem.Builtin PySem.Builtin.ObjectAttr
section
variable {X : Cx} {pins : List (Addr × Obj)} {σ : St} {H : Hp} {s : Shared} {a C d : Addr} {fs : List (Str × V)} {A : Around} {E : Value → Shared → Prop}
theorem inst_x (I : Inv X pins σ H s) (ha : H a = some (exC C (some d) a)) (hd : H d = some (.xd fs)) : ∃ ox od, InstAt s.heap a ox C (some od) ∧ ∀ n, ∃ o, lookIn n od = some o ∧ RelO (fs.lookup n) o := by
  obtain ⟨T, oe, vs, e, hc, hdi, hdt, _⟩ := (show ObjOk X.prog X.w H s.heap a (exC C (some d) a) from I.hok a _ ha).1
  obtain ⟨mA, hn, r⟩ := (show ObjOk X.prog X.w H s.heap d (.xd fs) from I.hok d _ hd)
  obtain ⟨od, ho, hl⟩ := lookIn_ns hn
  refine ⟨oe, od, ⟨e, hc, by unfold notCls; rw [hdt], by rw [hdi]; exact ho⟩, fun n => ⟨mA n, hl n, r n⟩⟩
end
end L2

namespace L2
open PySem PySem.Spec PyProof.Rows PySem.W PySem.Builtin PySem.Builtin.ObjectAttr
section
variable {prog : Program} {w : World} {A : Around} {E : Value → Shared → Prop} {h : Heap} {g : Array GenState} {d : Drawn} {t : Nat} {os : OsState}
variable {nm q : Str} {C N : Addr} {bs bm bmB : List Value} {hdct : Bool} {sn : List Str} {sub : List Value} {ab : Bool} {col : Option Bool} {dd : Option Addr} {k0 k1 k2 k3 k5 : Option Value} {B newId initId : String}
end
/-- raise C(), C without an __init__ -/
def sRaise0 (C : Addr) (Er : XK) : TS := fun _ _ H => Er (.ref C) none H
end L2

namespace L2
open PySem PySem.Spec PyProof.Rows PySem.W
/-- it flies, noted in this frame already -/
def Noted (X : Cx) (pins : List (Addr × Obj)) (H : Hp) (h : Heap) (a C : Addr) (d : Option Addr) : Prop :=
  ∃ T, XO h a (.ref C) d (.ref T) ∧ T ≠ a ∧ TB h T (rawInt X.env.locals) ∧ OwnRec X pins H a ∧ OwnRec X pins H T
def Fly2 (X : Cx) (pins : List (Addr × Obj)) (H : Hp) (h : Heap) (a C : Addr) (d : Option Addr) : Prop := Fly X pins H h a C d ∨ Noted X pins H h a C d
def Throws2 (X : Cx) (E : XK) : Prop := ∀ (pins : List (Addr × Obj)) (σ : St) (H : Hp) (s : Shared) (a C : Addr) (d : Option Addr), Inv X pins σ H s → Fly2 X pins H s.heap a C d → E (.ref C) d H → X.xe (.ref a) s
theorem Throws2.one {X : Cx} {E : XK} (t : Throws2 X E) : Throws X E := fun pins σ H s a C d I F q => t pins σ H s a C d I (.inl F) q
/-- an exception that leaves code: told in full -/
def XA (X : Cx) (Er : XK) (e : Value) (s : Shared) : Prop := ∃ (pins : List (Addr × Obj)) (σ : St) (H : Hp) (a C : Addr) (d : Option Addr), e = .ref a ∧ Inv X pins σ H s ∧ Fly2 X pins H s.heap a C d ∧ Er (.ref C) d H
section
variable {X : Cx} {pins : List (Addr × Obj)} {σ : St} {H : Hp} {s : Shared} {a C : Addr} {d : Option Addr} {A : Around} {E : Value → Shared → Prop} {Q : Unit → Shared → Prop} {Er : XK}
theorem throws_XA : Throws2 (X.wish (XA X Er)) Er := fun pins σ H s a C d I F q => ⟨pins, σ, H, a, C, d, rfl, I.unwish, F, q⟩
theorem fly_note2 (I : Inv X pins σ H s) (hfr : A.frames = some X.stack) (hst : X.stack = X.env :: X.outer) (hf : X.env.frame = some X.env.locals) (F : Fly2 X pins H s.heap a C d)
    (h : ∀ s' T, Inv X pins σ H s' → XO s'.heap a (.ref C) d (.ref T) → T ≠ a → TB s'.heap T (rawInt X.env.locals) → OwnRec X pins H a → OwnRec X pins H T → Q () s') : wpAny (model X.prog X.w) A (noteFrame (.ref a) X.env) Q E s := by
  rcases F with F | ⟨T, x, ne, tb, oa, oT⟩
  · exact fly_note I hfr hst hf F h
  · obtain ⟨oe, vs, e, _, _, hd, _, h1⟩ := id x
    obtain ⟨ot, ts, et, hdt, h3⟩ := id tb
    unfold noteFrame
    simp only [hf]
    refine wpAny_bind (wpAny_field e hd h1 ?_)
    rw [if_pos (show (Value.ref T != Value.none) = true by simp)]
    refine wpAny_bind (wpAny_field et hdt h3 ?_)
    rw [if_pos (by simp)]
    exact wpAny_pure (h s T I x ne tb oa oT)
theorem flight_some {T f : Addr} {fl : Value} (x : XO s.heap a (.ref C) d (.ref T)) (t : TB s.heap T fl) (ne : T ≠ a)
    (h : ∀ h', XO h' a (.ref C) d (.ref T) → TB h' T (rawInt f) → (∀ b o, b ≠ T → s.heap.get? b = some o → h'.get? b = some o) → Q () { s with heap := h' }) {M : Model} : wpAny M A (setFlight (.ref a) (some f)) Q E s := by
  obtain ⟨oe, vs, e, _, _, hd, _, h1⟩ := id x
  obtain ⟨oT, ts, eT, hdT, h3⟩ := id t
  unfold setFlight
  refine wpAny_bind (wpAny_field e hd h1 ?_)
  rw [if_pos (show (Value.ref T != Value.none) = true by simp)]
  refine wpAny_setField eT hdT (Array.getElem?_eq_some_iff.mp h3).1 ?_
  exact h _ (x.keeps fun o q => (Heap.get?_update_other _ _ ne).trans q) (t.set3 _) fun b o nb q => (Heap.get?_update_other _ _ (Ne.symm nb)).trans q
/-- through a loop of this frame -/
theorem passes_XA (hst : X.stack = X.env :: X.outer) (hf : X.env.frame = some X.env.locals) : PassesOwn (model X.prog X.w) X.A X.env (XA X Er) := by
  rintro e s ⟨pins, σ, H, a, C, d, rfl, I, F, q⟩
  unfold notedBy
  refine fly_note2 I I.ok.frames hst hf F fun s2 T I2 x2 ne tb2 oa oT => ?_
  unfold cameBackBy
  obtain ⟨oe, vs, e2, _, _, hd, _, h1⟩ := id x2
  refine wpAny_bind (wpAny_field e2 hd h1 ?_)
  rw [if_neg (show ¬ ((Value.ref T == Value.none) = true) by simp), hf]
  refine flight_some x2 tb2 ne fun h' x3 tb3 k3 => ⟨pins, σ, H, a, C, d, rfl, ?_, .inr ⟨T, x3, ne, tb3, oa, oT⟩, q⟩
  exact I2.turned (t' := s2.toks) (it := T) (fun b o nb e => k3 b o nb e) oT.1 oT.2.2.1 (.inr oT.2.1) oT.2.2.2.1 oT.2.2.2.2
theorem PSs.throwing {st : List Stmt} {t : TS} (h : PSs (X.wish (XA X Er)) st t) (ht : Throws2 X Er) : PSs X st t := fun pins s σ H D I hw =>
  wpAny_mono (h pins s σ H D (I.wish _) hw) (fun _ _ q => q.unwish) fun e s' ⟨pins, σ, H, a, C, d, ee, I1, F, q⟩ => ee ▸ ht pins σ H s' a C d I1 F q
theorem passes2 (t : Throws2 X Er) : Passes (CXe X.prog X.w) X Er := passes_of t.one
end
theorem throws2_body {P : Program} {w : World} {K : PySem.W.Frag} {mg : Str → Option Value} {base : Heap} {N : List Str} {qual : Str} {scope : Scope} {f : Addr} {cd : Value} {A : Around} {outer : List Env} {s : Shared} {H : Hp} {E : XK} :
    Throws2 (cxOf (CXe P w) P w K mg base N qual scope f cd A outer s H E) E := by
  intro pins σ H1 s1 a C d I F q
  show wpAny (model P w) (A.deeper (envOfC qual scope s.heap.objs.size f cd)) (leaving (envOfC qual scope s.heap.objs.size f cd) (.ref a)) _ _ s1
  unfold leaving
  refine wpAny_bind (fly_note2 I I.ok.frames rfl rfl F fun s2 T I2 x ne tb oa oT => fly_land I2 x ne tb oa oT fun s3 I3 x3 tb3 => ?_)
  exact ⟨a, C, T, d, H1, rfl, I3.os, I3.bare, I3.base, I3.hok, x3, ne, tb3, ⟨oa.2.1, oa.1⟩, ⟨oT.2.1, oT.1⟩, q⟩
section
variable {P : Program} {w : World} {K : PySem.W.Frag} {mg : Str → Option Value} {base : Heap}
/-- a def whose body may throw, also out of its loops -/
theorem Fun.okT {x qual : Str} {st : Stmt} {f : Addr} {fd : FuncData} {N ps : List Str} {k : Nat} {sp : Sp} (F : Fun K x qual st f fd) (S : FnScope N ps (defScope st)) (len : ∀ vs H Q E, sp vs H Q E → vs.length = ps.length)
    (hbody : ∀ (cdv : Value) (A : Around) (outer : List Env) (s : Shared) (H : Hp) (vs : List V) (Q : VK) (E : XK), Room k (A.deeper (envOfC qual (defScope st) s.heap.objs.size f cdv)) → sp vs H Q E →
      ∃ t, PSs ((cxOf (CXe P w) P w K mg base N qual (defScope st) f cdv A outer s H E).wish (XA (cxOf (CXe P w) P w K mg base N qual (defScope st) f cdv A outer s H E) E)) (defBody st) t ∧ t { nx := fun _ H' => Q .non H', rt := Q } (start N vs) H) : FnOk P w K mg base (CXe P w) (k + 1) f fd ps sp :=
  Fun.okX F S len fun cdv A outer s H vs Q E hr hs => let ⟨t, h1, h2⟩ := hbody cdv A outer s H vs Q E hr hs; ⟨t, PSs.throwing h1 throws2_body, h2⟩
end
end L2

namespace L2
open PySem PySem.Spec PyProof.Rows PySem.W PySem.Builtin PySem.Builtin.ObjectAttr
section
variable {prog : Program} {w : World} {A : Around} {E : Value → Shared → Prop} {K : Frag} {x C : Addr} {s : Shared} {ox : Obj} {od : Option Obj} {name : Str} {tk : Tok}
/-- what of the text an own error class must have so that its exceptions' attributes are read -/
structure ExGa (K : Frag) (C : Addr) : Prop where
  ga : findIn K (.ref C) "__getattribute__" = some (some (.builtin "BaseException.__getattribute__"))
  hk : findIn K (.ref C) "__getattr__" = some none
  hB : mroIn K C (.type "BaseException") = some true
theorem exc_by {fill expr : Bool} {Q : Value → Shared → Prop} (X : K.In s.heap) (I : InstAt s.heap x ox C od) (G : ExGa K C)
    (h : wpAny (model prog w) A.in1 (Builtin.«object.__getattribute__» ⟨[.ref x, .str name tk], []⟩) (fun fin s' => ∃ v, fin = .done (.ret v) ∧ handedIn v = true ∧ Q v s') (fun _ _ => False) s) :
    wpAny (model prog w) A (getAttrBy (.ref x) (.str name tk) fill expr) Q E s := by
  have L0 := I.type (M := model prog w)
  have L1 := looks_findIn (M := model prog w) X G.ga
  have L2 := looks_findIn (M := model prog w) X G.hk
  have isB : Looks (model prog w) s.heap (isInstance (.ref x) (.type "BaseException")) true := I.type.andThen (looks_mroIn X G.hB)
  unfold getAttrBy
  refine wpAny_holding (wpAny_bind (L0.here (wpAny_bind (L1.here ?_))))
  dsimp only
  rw [if_neg (show ¬ ((onTheHeap (Value.ref C) && Value.builtin "BaseException.__getattribute__" == Value.builtin "object.__getattribute__") = true) by
    rw [show (Value.builtin "BaseException.__getattribute__" == Value.builtin "object.__getattribute__") = false by decide +kernel, Bool.and_false]; exact Bool.false_ne_true)]
  unfold getAttrByItsOwn hookBefore
  rw [if_pos (show onTheHeap (Value.ref C) = true from rfl)]
  refine wpAny_bind (L2.here (wpAny_bind (wpAny_attempt (wpAny_holding ?_))))
  unfold callGetattribute
  rw [if_neg (show ¬ ((expr && onTheHeap (Value.builtin "BaseException.__getattribute__")) = true) by cases expr <;> exact Bool.false_ne_true)]
  unfold boundAndCalled
  refine wpAny_bind (wpAny_of_eq (PySem.F.excAttr_ValueError.ga.bind (.ref x)) ?_)
  refine wpAny_call (codeAny_call_builtin PySem.F.excAttr_ValueError.ga.plain PySem.F.entry_bexc_ga (@check_slot (model prog w) _ _ s "BaseException.__getattribute__" "BaseException" "__getattribute__" (.ref x) [.str name tk] [] _ (by decide +kernel) (by decide +kernel) isB (PySem.F.args_bexc_ga (.ref x) (.str name tk)) ?_))
  refine wpAny_mono h (fun fin s' ⟨v, ef, hv, q⟩ => ?_) fun _ _ z => z.elim
  subst ef
  show wpAny _ _ (handedOut v) _ _ _
  rw [handedOut_of hv]
  exact wpAny_pure q
theorem exc_cls {Q : Fin → Shared → Prop} (X : K.In s.heap) (I : InstAt s.heap x ox C od) (hf : findObj K C od "__class__" = some (.bind (.builtin "getset_descriptor.__get__") (.builtin "object.__class__"))) (hm : mroIn K C (.type "object") = some true)
    (h : Q (.done (.ret (.ref C))) s) : wpAny (model prog w) A (Builtin.«object.__getattribute__» ⟨[.ref x, .str "__class__" tk], []⟩) Q E s := by
  have L0 := I.type (M := model prog w)
  have L1 := looks_find (M := model prog w) X I hf
  refine wpAny_bind (wpAny_pure (wpAny_bind (wpAny_pure (wpAny_bind (L0.here (wpAny_bind (L1.here ?_)))))))
  show wpAny _ _ (holding [.builtin "object.__class__"] (call (.builtin "getset_descriptor.__get__") [.builtin "object.__class__", .ref x, .ref C]) >>= ret) _ _ _
  exact wpAny_bind (wpAny_holding (wpAny_call (class_get (ox := ox) (od := od) X I hm (wpAny_pure h))))
end
end L2

namespace L2
open PySem PySem.Spec PyProof.Rows PySem.W PySem.Builtin PySem.Builtin.ObjectAttr
/-- isinstance's kit for an exception -/
theorem kitx_exc {K : Frag} {x D : Addr} {ox : Obj} {od : Option Obj} (G : ExGa K D) (hcl : (clsIn K D).isSome = true) (hf : findObj K D od "__class__" = some (.bind (.builtin "getset_descriptor.__get__") (.builtin "object.__class__"))) (hm : mroIn K D (.type "object") = some true) :
    KitX K (.ref x) (.ref D) (fun h => InstAt h x ox D od) := by
  obtain ⟨cd, hc⟩ := Option.isSome_iff_exists.mp hcl
  unfold clsIn at hc
  split at hc
  · rename_i c' d' cd' sl' ho
    refine ⟨fun _ _ _ I => I.type, fun M h X _ => ?_, fun h tp dd its n sl X htp => ?_, fun {prog w A E Q s} X I k => ?_⟩
    · intro A' Q' E' s' k q
      unfold isType loadHead
      exact wpAny_bind (wpAny_loadPart (k _ _ (X _ _ ho)) (wpAny_pure q))
    · refine Bool.eq_false_iff.mpr fun q => ?_
      obtain rfl : D = tp := Value.ref.inj (beq_iff_eq.mp q)
      have z := (X _ _ ho).symm.trans htp
      cases z
    · unfold getAttr? getAttrBy?
      refine wpAny_bind (wpAny_mkText (wpAny_bind (wpAny_attempt ?_)))
      exact exc_by (s := { s with toks := s.toks + 1 }) X I G (exc_cls (s := { s with toks := s.toks + 1 }) X I hf hm ⟨_, rfl, rfl, wpAny_pure k⟩)
  · cases hc
/-- what of the text an own error class must have so that isinstance may be asked of its exceptions -/
structure ExIs (K : Frag) (C : Addr) : Prop where
  g : ExGa K C
  hd : hasDictIn K C = true
  ha : findIn K (.ref C) "__class__" = some (some (.builtin "object.__class__"))
  hn : specialIn K (.builtin "object.__class__") "__get__" = some (some (.builtin "getset_descriptor.__get__"))
  tk : takesIn K (.builtin "object.__class__") = some true
  hm : mroIn K C (.type "object") = some true
section
variable {X : Cx} {pins : List (Addr × Obj)} {σ : St} {H : Hp} {s : Shared} {a C d : Addr} {fs : List (Str × V)} {A : Around} {E : Value → Shared → Prop}
theorem isi_e {c : Value} {b : Bool} {Q : Value → Shared → Prop} (I : Inv X pins σ H s) (ha : H a = some (exC C (some d) a)) (hd : H d = some (.xd fs)) (k : ExIs X.K C) (e : kitOne X.K (.ref C) c = some b) (h : ∀ tk, Q (.bool b) { s with toks := tk }) :
    wpAny (model X.prog X.w) A (call (.builtin "isinstance") [.ref a, c]) Q E s := by
  obtain ⟨ox, od, J, _⟩ := inst_x I ha hd
  have cl : (clsIn X.K C).isSome = true := by obtain ⟨cd, hc, _⟩ := any_some k.hd; rw [hc]; rfl
  exact kia_one (kitx_exc k.g cl (findObj_data cl k.ha k.hn k.tk) k.hm) I.kIn J e (fun z => nomatch z) h
end
end L2

namespace L2
open PySem PySem.Spec PyProof.Rows PySem.W
/-- an iterator that zip steps on: what it walks, how it stands at step k -/
structure Ste (prog : Program) (w : World) (it src : Addr) (xs : Array Value) (St : Nat → Heap → Prop) : Prop where
  at_ : ∀ {k h h'}, St k h → (∀ o, h.get? it = some o → h'.get? it = some o) → (∀ o, h.get? src = some o → h'.get? src = some o) → St k h'
  lt : ∀ {k h}, St k h → it < h.objs.size
  item : ∀ {A : Around} {E : Value → Shared → Prop} {s : Shared} {k : Nat} {x : Value} {Q : Value → Shared → Prop}, St k s.heap → xs[k]? = some x → (∀ h', St (k + 1) h' → Heap.SameBut it s.heap h' → Q x { s with heap := h' }) →
    wpAny (model prog w) A (Builtin.SmallTypes.nextOf (.ref it)) Q E s
  stop : ∀ {A : Around} {E : Value → Shared → Prop} {s : Shared} {k : Nat} {Q : Value → Shared → Prop}, A.handled = none → St k s.heap → xs[k]? = none →
    (∀ h' e, Heap.ExtBut it s.heap h' → (∃ o, h'.get? e = some o ∧ o.cls = .type "StopIteration") → E (.ref e) { s with heap := h' }) → wpAny (model prog w) A (Builtin.SmallTypes.nextOf (.ref it)) Q E s
def StT (it t : Addr) (xs : Array Value) (k : Nat) (h : Heap) : Prop := IsTupIter h it t k ∧ IsTup h t xs
section
variable {prog : Program} {w : World} {A : Around} {E : Value → Shared → Prop} {s : Shared} {z TI TO i1 i2 t1 t2 : Addr} {k : Nat} {xs ys : Array Value} {x y a b : Value} {S1 S2 : Nat → Heap → Prop}
end
end L2

namespace L2
open PySem PySem.Spec PyProof.Rows PySem.W
section
variable {X : Cx} {pins : List (Addr × Obj)} {σ : St} {H : Hp} {s : Shared} {h' : Heap}
end
/-- zip's own records are five -/
structure Five (z TI TO i1 i2 : Addr) : Prop where
  TIz : TI ≠ z
  TOz : TO ≠ z
  i1z : i1 ≠ z
  i2z : i2 ≠ z
  TITO : TI ≠ TO
  TIi1 : TI ≠ i1
  TIi2 : TI ≠ i2
  TOi1 : TO ≠ i1
  TOi2 : TO ≠ i2
  i12 : i1 ≠ i2
end L2

namespace L2
open PySem PySem.Spec PyProof.Rows PySem.W
section
variable {prog : Program} {w : World} {A : Around} {E : Value → Shared → Prop} {s : Shared}
end
end L2

namespace L2
open PySem PySem.Spec PyProof.Rows PySem.W
/-- a dict of the top, its keys texts -/
structure KD (X : Cx) (a : Addr) : Prop where
  ob : ∃ es n, X.K.lookup a = some ⟨.type "dict", none, .dict es n, #[]⟩ ∧ KeysLit X.w.params es.toList
  no : (a == sysModules) = false
section
variable {X : Cx}
end
end L2

namespace L2
open PySem PySem.Spec PyProof.Rows PySem.W
end L2

set_option Elab.async false
set_option linter.all false
set_option maxRecDepth 100000
set_option maxHeartbeats 4000000
/-! THE MIRROR: what a def does, as a function over plain values and a store -/
namespace Mi
open PySem L2 PySem.W
/-- a value as a tree: rows and what never changes are trees, what may change stands in the store -/
inductive PV where
  | non | bl (b : Bool) | int (i : Int) | str (x : Str) | ty (n : String)
  | tup (xs : List PV) | frl (xs : List PV) | ref (n : Nat) | fn (x : Str) | kd (ks : List Str) (xs : List PV) | exo (c : Str) (ks : List Str) (xs : List PV)
/-- what stands in the store: a list, a dict by texts, an instance -/
inductive SO where
  | lst (xs : List PV) | dic (ks : List Str) (xs : List PV) | ins (c : Str) (ks : List Str) (xs : List PV)
abbrev Sto := List SO
inductive Res (α : Type) where
  | ok (a : α) (st : Sto) | err (c : Str) (ks : List Str) (xs : List PV) (st : Sto) | stuck
abbrev Mo (α : Type) := Sto → Res α
def Res.bind {α β : Type} : Res α → (α → Mo β) → Res β
  | .ok a st, f => f a st
  | .err c ks xs st, _ => .err c ks xs st
  | .stuck, _ => .stuck
abbrev PEnv := List (Option PV)
/-- a dict of the top by texts: read alone -/
def KDs (K : Frag) (a : Addr) (ks : List Str) (us : List Value) : Prop := ∀ z, nsIn K a z = some ((ks.zip us).lookup z)
/-- a list that nothing changes: frozen, or the top's own -/
def FrL (K : Frag) (H : Hp) (a : Addr) (vs : List V) : Prop :=
  (∃ o, H a = some (.frz o (.lst vs))) ∨ ∃ (o : Obj) (its : Array Value) (n : Nat), K.lookup a = some o ∧ o.cls = .type "list" ∧ o.dict = none ∧ o.data = .seq its n ∧ its.size ≤ sizeLine ∧ Vals vs its.toList
theorem FrL.sq {K : Frag} {H : Hp} {a : Addr} {vs : List V} (h : FrL K H a vs) : SqL K H a vs := by
  rcases h with ⟨o, h⟩ | h
  · exact .inl (.inr ⟨o, h⟩)
  · exact .inr h
section
variable (K : Frag) (mg : Str → Option Value)
mutual
def R (ρ : List Addr) (H : Hp) : PV → V → Prop
  | .non, v => v = .non
  | .bl b, v => v = .bl b
  | .int i, v => v = .int i
  | .str x, v => v = .str x
  | .ty n, v => v = .ty n
  | .tup xs, v => ∃ a vs, v = .ref a ∧ SqT K H a vs ∧ Rs ρ H xs vs
  | .frl xs, v => ∃ a vs, v = .ref a ∧ FrL K H a vs ∧ Rs ρ H xs vs
  | .ref n, v => ∃ a, v = .ref a ∧ ρ[n]? = some a
  | .fn x, v => ∃ f, v = .ref f ∧ mg x = some (.ref f)
  | .kd ks xs, v => ∃ a us vs, v = .ref a ∧ KDs K a ks us ∧ Vals vs us ∧ Rs ρ H xs vs
  | .exo c ks xs, v => ∃ a C d vs, v = .ref a ∧ mg c = some (.ref C) ∧ H a = some (exC C (some d) a) ∧ H d = some (.xd (ks.zip vs)) ∧ Rs ρ H xs vs ∧ ks.length = vs.length
def Rs (ρ : List Addr) (H : Hp) : List PV → List V → Prop
  | [], vs => vs = []
  | x :: xs, vs => ∃ v r, vs = v :: r ∧ R ρ H x v ∧ Rs ρ H xs r
end

/-- the heap bears a thing of the store at an address -/
def SoR (ρ : List Addr) (H : Hp) : SO → Addr → Prop
  | .lst xs, a => ∃ vs, H a = some (.lst vs) ∧ Rs K mg ρ H xs vs
  | .dic ks xs, a => ∃ vs, H a = some (.dK ((ks.map Sum.inr).zip vs)) ∧ Rs K mg ρ H xs vs ∧ ks.length = vs.length
  | .ins c ks xs, a => ∃ C dx vs, mg c = some (.ref C) ∧ H a = some (.ins C dx (ks.zip vs)) ∧ Rs K mg ρ H xs vs ∧ ks.length = vs.length
structure StR (ρ : List Addr) (H : Hp) (st : Sto) : Prop where
  len : ρ.length = st.length
  nd : ρ.Nodup
  at_ : ∀ (n : Nat) so, st[n]? = some so → ∃ a, ρ[n]? = some a ∧ SoR K mg ρ H so a
def Imm : HO → Bool
  | .tup _ => true
  | .frz _ _ => true
  | .xd _ => true
  | .ext _ => true
  | _ => false
structure Ext (ρ : List Addr) (H : Hp) (ρ' : List Addr) (H' : Hp) : Prop where
  pre : ∃ δ, ρ' = ρ ++ δ
  imm : ∀ a o, H a = some o → Imm o = true → H' a = some o
/-- an exception that flies -/
def XR (ρ : List Addr) (H : Hp) (c : Str) (ks : List Str) (xs : List PV) (Cv : Value) (d : Option Addr) : Prop :=
  ∃ C, Cv = .ref C ∧ mg c = some (.ref C) ∧ ((ks = [] ∧ d = none) ∨ ∃ dd vs, d = some dd ∧ H dd = some (.xd (ks.zip vs)) ∧ Rs K mg ρ H xs vs ∧ ks.length = vs.length)
/-- what is wanted behind a mirror's run -/
def Out {α : Type} (ρ : List Addr) (H : Hp) (r : Res α) (good : List Addr → Hp → α → Sto → Prop) (E : XK) : Prop :=
  match r with
  | .ok x st => ∀ ρ' H', Ext ρ H ρ' H' → StR K mg ρ' H' st → good ρ' H' x st
  | .err c ks xs st => ∀ ρ' H' C d, Ext ρ H ρ' H' → StR K mg ρ' H' st → XR K mg ρ' H' c ks xs C d → E C d H'
  | .stuck => False
structure EnvR (ρ : List Addr) (H : Hp) (env : PEnv) (σ : St) : Prop where
  len : env.length = σ.length
  at_ : ∀ (i : Nat) x, env[i]? = some (some x) → ∃ v, σ[i]? = some (some v) ∧ R K mg ρ H x v
/-- a value is wanted -/
def gV (Q : VK) : List Addr → Hp → PV → Sto → Prop := fun ρ H x _ => ∀ v, R K mg ρ H x v → Q v H
def gVs (Q : List V → Hp → Prop) : List Addr → Hp → List PV → Sto → Prop := fun ρ H x _ => ∀ v, Rs K mg ρ H x v → Q v H
def gB (Q : Bool → Hp → Prop) : List Addr → Hp → Bool → Sto → Prop := fun _ H x _ => Q x H
inductive Fl where
  | nx (env : PEnv) | rt (x : PV) | bk (env : PEnv) | ct (env : PEnv)
def gS (D : Ends) : List Addr → Hp → Fl → Sto → Prop := fun ρ H x _ =>
  match x with
  | .nx env => ∀ σ, EnvR K mg ρ H env σ → D.nx σ H
  | .rt x => ∀ v, R K mg ρ H x v → D.rt v H
  | .bk env => ∀ σ, EnvR K mg ρ H env σ → D.bk σ H
  | .ct env => ∀ σ, EnvR K mg ρ H env σ → D.ct σ H
end
section
variable {K : Frag} {mg : Str → Option Value} {ρ ρ1 ρ2 : List Addr} {H H1 H2 : Hp}
theorem Ext.refl : Ext ρ H ρ H := ⟨⟨[], by simp⟩, fun _ _ h _ => h⟩
theorem Ext.trans (a : Ext ρ H ρ1 H1) (b : Ext ρ1 H1 ρ2 H2) : Ext ρ H ρ2 H2 := by
  obtain ⟨⟨d, hd⟩, i⟩ := a
  obtain ⟨⟨d', hd'⟩, i'⟩ := b
  exact ⟨⟨d ++ d', by rw [hd', hd, List.append_assoc]⟩, fun a o h m => i' a o (i a o h m) m⟩
theorem Ext.get (a : Ext ρ H ρ1 H1) {n : Nat} {p : Addr} (h : ρ[n]? = some p) : ρ1[n]? = some p := by
  obtain ⟨⟨d, hd⟩, _⟩ := a
  rw [hd, List.getElem?_append_left (List.getElem?_eq_some_iff.mp h).1]
  exact h
theorem Ext.sqT (e : Ext ρ H ρ1 H1) {a : Addr} {xs : List V} (h : SqT K H a xs) : SqT K H1 a xs := by
  rcases h with (h | ⟨o, h⟩) | h
  · exact .inl (.inl (e.imm _ _ h rfl))
  · exact .inl (.inr ⟨o, e.imm _ _ h rfl⟩)
  · exact .inr h
theorem Ext.frl (e : Ext ρ H ρ1 H1) {a : Addr} {xs : List V} (h : FrL K H a xs) : FrL K H1 a xs := by
  rcases h with ⟨o, h⟩ | h
  · exact .inl ⟨o, e.imm _ _ h rfl⟩
  · exact .inr h
mutual
theorem R.ext (e : Ext ρ H ρ1 H1) : ∀ (x : PV) {v : V}, R K mg ρ H x v → R K mg ρ1 H1 x v
  | .non, _, h => h
  | .bl _, _, h => h
  | .int _, _, h => h
  | .str _, _, h => h
  | .ty _, _, h => h
  | .tup xs, _, h => by
    obtain ⟨a, vs, h1, h2, h3⟩ := h
    exact ⟨a, vs, h1, e.sqT h2, Rs.ext e xs h3⟩
  | .frl xs, _, h => by
    obtain ⟨a, vs, h1, h2, h3⟩ := h
    exact ⟨a, vs, h1, e.frl h2, Rs.ext e xs h3⟩
  | .ref n, _, h => by
    obtain ⟨a, h1, h2⟩ := h
    exact ⟨a, h1, e.get h2⟩
  | .fn _, _, h => h
  | .kd ks xs, _, h => by
    obtain ⟨a, us, vs, h1, h2, h4, h3⟩ := h
    exact ⟨a, us, vs, h1, h2, h4, Rs.ext e xs h3⟩
  | .exo c ks xs, _, h => by
    obtain ⟨a, C, d, vs, h1, h2, h3, h4, h5, h6⟩ := h
    exact ⟨a, C, d, vs, h1, h2, e.imm _ _ h3 rfl, e.imm _ _ h4 rfl, Rs.ext e xs h5, h6⟩
theorem Rs.ext (e : Ext ρ H ρ1 H1) : ∀ (xs : List PV) {vs : List V}, Rs K mg ρ H xs vs → Rs K mg ρ1 H1 xs vs
  | [], _, h => h
  | x :: xs, _, h => by
    obtain ⟨v, r, h1, h2, h3⟩ := h
    exact ⟨v, r, h1, R.ext e x h2, Rs.ext e xs h3⟩
end
theorem EnvR.ext (e : Ext ρ H ρ1 H1) {env : PEnv} {σ : St} (h : EnvR K mg ρ H env σ) : EnvR K mg ρ1 H1 env σ :=
  ⟨h.len, fun i x hx => let ⟨v, a, b⟩ := h.at_ i x hx; ⟨v, a, R.ext e x b⟩⟩
theorem Rs.len : ∀ {xs : List PV} {vs : List V}, Rs K mg ρ H xs vs → xs.length = vs.length
  | [], _, h => by cases h; rfl
  | x :: xs, _, h => by
    obtain ⟨v, r, rfl, _, h3⟩ := h
    simp [Rs.len h3]
theorem Rs.get : ∀ {xs : List PV} {vs : List V} {i : Nat} {x : PV}, Rs K mg ρ H xs vs → xs[i]? = some x → ∃ v, vs[i]? = some v ∧ R K mg ρ H x v
  | [], _, _, _, _, e => by simp at e
  | x :: xs, _, 0, _, h, e => by
    obtain ⟨v, r, rfl, h2, h3⟩ := h
    simp at e
    subst e
    exact ⟨v, by simp, h2⟩
  | x :: xs, _, i + 1, y, h, e => by
    obtain ⟨v, r, rfl, h2, h3⟩ := h
    simp at e
    obtain ⟨v', h4, h5⟩ := Rs.get h3 e
    exact ⟨v', by simpa using h4, h5⟩
theorem Rs.append : ∀ {xs ys : List PV} {vs ws : List V}, Rs K mg ρ H xs vs → Rs K mg ρ H ys ws → Rs K mg ρ H (xs ++ ys) (vs ++ ws)
  | [], _, _, _, h, h' => by cases h; exact h'
  | x :: xs, _, _, _, h, h' => by
    obtain ⟨v, r, rfl, h2, h3⟩ := h
    exact ⟨v, r ++ _, rfl, h2, Rs.append h3 h'⟩
theorem Rs.take : ∀ {xs : List PV} {vs : List V} (n : Nat), Rs K mg ρ H xs vs → Rs K mg ρ H (xs.take n) (vs.take n)
  | [], _, n, h => by cases h; simp [Rs]
  | x :: xs, _, 0, h => by simp [Rs]
  | x :: xs, _, n + 1, h => by
    obtain ⟨v, r, rfl, h2, h3⟩ := h
    exact ⟨v, _, rfl, h2, Rs.take n h3⟩
theorem Rs.drop : ∀ {xs : List PV} {vs : List V} (n : Nat), Rs K mg ρ H xs vs → Rs K mg ρ H (xs.drop n) (vs.drop n)
  | [], _, n, h => by cases h; simp [Rs]
  | x :: xs, _, 0, h => h
  | x :: xs, _, n + 1, h => by
    obtain ⟨v, r, rfl, h2, h3⟩ := h
    exact Rs.drop n h3
theorem Rs.set : ∀ {xs : List PV} {vs : List V} {x : PV} {v : V} (i : Nat), Rs K mg ρ H xs vs → R K mg ρ H x v → Rs K mg ρ H (xs.set i x) (vs.set i v)
  | [], _, _, _, i, h, _ => by cases h; simp [Rs]
  | x :: xs, _, _, _, 0, h, q => by
    obtain ⟨v, r, rfl, h2, h3⟩ := h
    exact ⟨_, _, rfl, q, h3⟩
  | x :: xs, _, _, _, i + 1, h, q => by
    obtain ⟨v, r, rfl, h2, h3⟩ := h
    exact ⟨_, _, rfl, h2, Rs.set i h3 q⟩
theorem EnvR.set {env : PEnv} {σ : St} {x : PV} {v : V} (h : EnvR K mg ρ H env σ) (i : Nat) (r : R K mg ρ H x v) : EnvR K mg ρ H (env.set i (some x)) (σ.set i (some v)) := by
  refine ⟨by simp [h.len], fun j y hy => ?_⟩
  rw [List.getElem?_set] at hy ⊢
  by_cases hij : i = j
  · subst hij
    by_cases hl : i < env.length
    · rw [if_pos rfl, if_pos hl] at hy
      rw [if_pos rfl, if_pos (by rw [← h.len]; exact hl)]
      cases hy
      exact ⟨v, rfl, r⟩
    · rw [if_pos rfl, if_neg hl] at hy
      cases hy
  · rw [if_neg hij] at hy ⊢
    exact h.at_ j y hy
theorem EnvR.cons {env : PEnv} {σ : St} {x : PV} {v : V} (h : EnvR K mg ρ H env σ) (r : R K mg ρ H x v) : EnvR K mg ρ H (some x :: env) (some v :: σ) := by
  refine ⟨by simp [h.len], fun j y hy => ?_⟩
  cases j with
  | zero => simp at hy; subst hy; exact ⟨v, by simp, r⟩
  | succ j => simp at hy; simpa using h.at_ j y hy
/-- lists of addresses of the store -/
theorem StR.addr {st : Sto} {n : Nat} {so : SO} (s : StR K mg ρ H st) (e : st[n]? = some so) {a : Addr} (ha : ρ[n]? = some a) : SoR K mg ρ H so a := by
  obtain ⟨b, hb, h⟩ := s.at_ n so e
  rw [ha] at hb
  cases hb
  exact h
theorem SoR.some {so : SO} {a : Addr} (h : SoR K mg ρ H so a) : ∃ o, H a = some o ∧ Imm o = false := by
  cases so with
  | lst xs => obtain ⟨vs, h, _⟩ := h; exact ⟨_, h, rfl⟩
  | dic ks xs => obtain ⟨vs, h, _⟩ := h; exact ⟨_, h, rfl⟩
  | ins c ks xs => obtain ⟨C, dx, vs, _, h, _⟩ := h; exact ⟨_, h, rfl⟩
theorem StR.in_ {st : Sto} {n : Nat} {a : Addr} (s : StR K mg ρ H st) (h : ρ[n]? = some a) : ∃ so, st[n]? = some so ∧ SoR K mg ρ H so a := by
  have hl : n < st.length := by rw [← s.len]; exact (List.getElem?_eq_some_iff.mp h).1
  refine ⟨st[n], by simp [hl], s.addr (by simp [hl]) h⟩
theorem SoR.ext' {so : SO} {a : Addr} (e : Ext ρ H ρ1 H1) (h : SoR K mg ρ H so a) (k : H1 a = H a) : SoR K mg ρ1 H1 so a := by
  cases so with
  | lst xs => obtain ⟨vs, h1, h2⟩ := h; exact ⟨vs, by rw [k]; exact h1, Rs.ext e xs h2⟩
  | dic ks xs => obtain ⟨vs, h1, h2, h3⟩ := h; exact ⟨vs, by rw [k]; exact h1, Rs.ext e xs h2, h3⟩
  | ins c ks xs => obtain ⟨C, dx, vs, h0, h1, h2, h3⟩ := h; exact ⟨C, dx, vs, h0, by rw [k]; exact h1, Rs.ext e xs h2, h3⟩
theorem Ext.new {p : Addr} {o : HO} (hp : H p = none) : Ext ρ H ρ (upd H p o) :=
  ⟨⟨[], by simp⟩, fun a o' h _ => by rw [upd_ne (ne_of_none h hp)]; exact h⟩
/-- a thing of no store's is laid -/
theorem StR.new {st : Sto} {p : Addr} {o : HO} (s : StR K mg ρ H st) (hp : H p = none) : StR K mg ρ (upd H p o) st :=
  ⟨s.len, s.nd, fun n so e => by
    obtain ⟨a, ha, h⟩ := s.at_ n so e
    obtain ⟨o', ho, _⟩ := h.some
    exact ⟨a, ha, h.ext' (Ext.new hp) (upd_ne (ne_of_none ho hp))⟩⟩
theorem Ext.push {p : Addr} {o : HO} (hp : H p = none) : Ext ρ H (ρ ++ [p]) (upd H p o) :=
  ⟨⟨[p], rfl⟩, fun a o' h _ => by rw [upd_ne (ne_of_none h hp)]; exact h⟩
/-- a thing of the store is laid -/
theorem StR.push {st : Sto} {p : Addr} {o : HO} {so : SO} (s : StR K mg ρ H st) (hp : H p = none) (n : SoR K mg (ρ ++ [p]) (upd H p o) so p) : StR K mg (ρ ++ [p]) (upd H p o) (st ++ [so]) := by
  refine ⟨by simp [s.len], ?_, fun i so' e => ?_⟩
  · refine List.nodup_append.mpr ⟨s.nd, by simp, fun a ha b hb => ?_⟩
    obtain rfl : b = p := by simpa using hb
    obtain ⟨n, hn⟩ := List.getElem?_of_mem ha
    obtain ⟨so', _, h⟩ := s.in_ hn
    obtain ⟨o', ho, _⟩ := h.some
    exact ne_of_none ho hp
  · by_cases hi : i < st.length
    · rw [List.getElem?_append_left hi] at e
      obtain ⟨a, ha, h⟩ := s.at_ i so' e
      obtain ⟨o', ho, _⟩ := h.some
      exact ⟨a, (Ext.push (o := o) hp).get ha, h.ext' (Ext.push hp) (upd_ne (ne_of_none ho hp))⟩
    · rw [List.getElem?_append_right (by omega)] at e
      have hi' : i = st.length := by
        have := (List.getElem?_eq_some_iff.mp e).1
        simp at this
        omega
      subst hi'
      simp at e
      subst e
      exact ⟨p, by rw [← s.len]; simp, n⟩
theorem Ext.write {a : Addr} {o o' : HO} (ha : H a = some o) (hi : Imm o = false) : Ext ρ H ρ (upd H a o') :=
  ⟨⟨[], by simp⟩, fun b u h m => by
    rw [upd_ne]
    · exact h
    · intro z; subst z; rw [ha] at h; cases h; rw [hi] at m; cases m⟩
/-- a thing of the store is changed -/
theorem StR.write {st : Sto} {n : Nat} {a : Addr} {o' : HO} {so : SO} (s : StR K mg ρ H st) (hn : ρ[n]? = some a) (h : SoR K mg ρ (upd H a o') so a) : StR K mg ρ (upd H a o') (st.set n so) := by
  obtain ⟨so0, e0, h0⟩ := s.in_ hn
  obtain ⟨o0, ho0, him⟩ := h0.some
  refine ⟨by simp [s.len], s.nd, fun i so' e => ?_⟩
  rw [List.getElem?_set] at e
  by_cases hij : n = i
  · subst hij
    rw [if_pos rfl] at e
    split at e
    · cases e; exact ⟨a, hn, h⟩
    · cases e
  · rw [if_neg hij] at e
    obtain ⟨b, hb, q⟩ := s.at_ i so' e
    have ne : b ≠ a := by
      intro z
      subst z
      obtain ⟨h1, h2⟩ := List.getElem?_eq_some_iff.mp hn
      obtain ⟨h3, h4⟩ := List.getElem?_eq_some_iff.mp hb
      have pw := List.pairwise_iff_getElem.mp s.nd
      rcases Nat.lt_trichotomy n i with c | c | c
      · exact pw n i h1 h3 c (h2.trans h4.symm)
      · exact hij c
      · exact pw i n h3 h1 c (h4.trans h2.symm)
    exact ⟨b, hb, q.ext' (Ext.write ho0 him) (upd_ne ne)⟩
section
variable {α β : Type} {E : XK} {good : List Addr → Hp → α → Sto → Prop}
theorem Out.ext {r : Res α} (h : Out K mg ρ H r good E) (e : Ext ρ H ρ1 H1) : Out K mg ρ1 H1 r good E := by
  cases r with
  | ok x st => exact fun ρ' H' e' s => h ρ' H' (e.trans e') s
  | err c ks xs st => exact fun ρ' H' C d e' s x => h ρ' H' C d (e.trans e') s x
  | stuck => exact h
theorem Out.mono {r : Res α} {good' : List Addr → Hp → α → Sto → Prop} (h : Out K mg ρ H r good E) (g : ∀ ρ' H' x st, Ext ρ H ρ' H' → StR K mg ρ' H' st → good ρ' H' x st → good' ρ' H' x st) : Out K mg ρ H r good' E := by
  cases r with
  | ok x st => exact fun ρ' H' e' s => g ρ' H' x st e' s (h ρ' H' e' s)
  | err c ks xs st => exact h
  | stuck => exact h
theorem Out.bind {r : Res β} {f : β → Mo α} (h : Out K mg ρ H (r.bind f) good E) : Out K mg ρ H r (fun ρ' H' x st => Out K mg ρ' H' (f x st) good E) E := by
  cases r with
  | ok x st => exact fun ρ' H' e' s => Out.ext h e'
  | err c ks xs st => exact h
  | stuck => exact h
/-- two steps: h the run of both, g what is wanted of the first -/
theorem Out.then {r : Res β} {f : β → Mo α} {good' : List Addr → Hp → β → Sto → Prop} (h : Out K mg ρ H (r.bind f) good E) (g : ∀ ρ' H' x st, Ext ρ H ρ' H' → StR K mg ρ' H' st → Out K mg ρ' H' (f x st) good E → good' ρ' H' x st) : Out K mg ρ H r good' E := h.bind.mono g
theorem Out.now {x : α} {st : Sto} (h : Out K mg ρ H (.ok x st) good E) (s : StR K mg ρ H st) : good ρ H x st := h ρ H Ext.refl s
end
end
end Mi

set_option Elab.async false
set_option linter.all false
set_option maxRecDepth 100000
set_option maxHeartbeats 4000000
/-! the mirror: expressions -/
namespace Mi
open PySem L2 PySem.W PySem.Spec
abbrev lim : Nat := 1000000
theorem lim_line {n : Nat} (h : n ≤ lim) : n ≤ sizeLine := by rw [sizeLine_eq]; show n ≤ 16777216; exact Nat.le_trans h (by decide)
section
variable (K : Frag) (mg : Str → Option Value)
def tM (Er : XK) (f : PEnv → Mo PV) : TE := fun σ H Q => ∃ env st ρ, EnvR K mg ρ H env σ ∧ StR K mg ρ H st ∧ Out K mg ρ H (f env st) (gV K mg Q) Er
def tMB (Er : XK) (f : PEnv → Mo Bool) : TT := fun σ H Q => ∃ env st ρ, EnvR K mg ρ H env σ ∧ StR K mg ρ H st ∧ Out K mg ρ H (f env st) (gB Q) Er
def tMA (Er : XK) (f : PEnv → Mo (List PV)) : TA := fun σ H Q => ∃ env st ρ, EnvR K mg ρ H env σ ∧ StR K mg ρ H st ∧ Out K mg ρ H (f env st) (gVs K mg Q) Er
def sM (Er : XK) (f : PEnv → Mo Fl) : TS := fun D σ H => ∃ env st ρ, EnvR K mg ρ H env σ ∧ StR K mg ρ H st ∧ Out K mg ρ H (f env st) (gS K mg D) Er
end
def ME (X : Cx) (Er : XK) (e : Expr) (f : PEnv → Mo PV) : Prop := PE X e (tM X.K X.mg Er f)
def MT (X : Cx) (Er : XK) (e : Expr) (f : PEnv → Mo Bool) : Prop := PT X e (tMB X.K X.mg Er f)
def MW (X : Cx) (Er : XK) (e : Expr) (f : PEnv → Mo Bool) : Prop := PW X e (tMB X.K X.mg Er f)
def MA (X : Cx) (Er : XK) (e : List Expr) (f : PEnv → Mo (List PV)) : Prop := PA X e (tMA X.K X.mg Er f)
def MS (X : Cx) (Er : XK) (e : Stmt) (f : PEnv → Mo Fl) : Prop := PS X e (sM X.K X.mg Er f)
def MSs (X : Cx) (Er : XK) (e : List Stmt) (f : PEnv → Mo Fl) : Prop := PSs X e (sM X.K X.mg Er f)
section
variable {X : Cx} {Er : XK} {e a b c : Expr} {es : List Expr} {pos : Pos} {t t' : TE}
theorem PE.weak (h : PE X e t) (w : ∀ σ H Q, t' σ H Q → t σ H Q) : PE X e t' := fun pins s σ H Q I q => h pins s σ H Q I (w σ H Q q)
theorem PT.weak {t t' : TT} (h : PT X e t) (w : ∀ σ H Q, t' σ H Q → t σ H Q) : PT X e t' := fun pins s σ H Q I q => h pins s σ H Q I (w σ H Q q)
theorem PW.weak {t t' : TT} (h : PW X e t) (w : ∀ σ H Q, t' σ H Q → t σ H Q) : PW X e t' := fun wh pins s σ H Q I q => h wh pins s σ H Q I (w σ H Q q)
theorem PA.weak {t t' : TA} (h : PA X es t) (w : ∀ σ H Q, t' σ H Q → t σ H Q) : PA X es t' := fun pos pins s σ H Q I q => h pos pins s σ H Q I (w σ H Q q)
theorem PS.weak {st : Stmt} {t t' : TS} (h : PS X st t) (w : ∀ D σ H, t' D σ H → t D σ H) : PS X st t' := fun pins s σ H D I q => h pins s σ H D I (w D σ H q)
theorem PSs.weak {st : List Stmt} {t t' : TS} (h : PSs X st t) (w : ∀ D σ H, t' D σ H → t D σ H) : PSs X st t' := fun pins s σ H D I q => h pins s σ H D I (w D σ H q)
/-! names, constants -/
def mVar (i : Nat) : PEnv → Mo PV := fun env st => match env[i]? with
  | some (some x) => .ok x st
  | _ => .stuck
def mC (x : PV) : PEnv → Mo PV := fun _ st => .ok x st
theorem me_var (i : Nat) {x : Str} {pos : Pos} (hN : X.N[i]? = some x := by rfl) (hv : Vis X.env.scope x := by first | exact Or.inl rfl | exact Or.inr (Or.inl rfl) | exact Or.inr (Or.inr rfl)) (hd : (x == ("__debug__" : Str)) = false := by decide)
    (hcd : (x == ("__classdict__" : Str)) = false := by decide) : ME X Er (.Name x pos) (mVar i) := PE.weak (pe_var hN hv hd hcd) fun σ H Q ⟨env, st, ρ, re, rs, h⟩ => by
  unfold mVar at h
  split at h
  · rename_i x' hx
    obtain ⟨v, h1, h2⟩ := re.at_ i x' hx
    exact ⟨v, h1, h.now rs v h2⟩
  · exact h.elim
theorem me_con {x : PV} {v : V} (hp : PE X e (tC v)) (hr : ∀ ρ H, R X.K X.mg ρ H x v) : ME X Er e (mC x) := PE.weak hp fun σ H Q ⟨env, st, ρ, re, rs, h⟩ => h.now rs v (hr ρ H)
theorem me_int {i : Int} {j} : ME X Er (.Constant (.int i) j pos) (mC (.int i)) := me_con pe_int fun _ _ => rfl
theorem me_str {x : Str} {j} : ME X Er (.Constant (.str x) j pos) (mC (.str x)) := me_con pe_str fun _ _ => rfl
theorem me_bl {b : Bool} {j} : ME X Er (.Constant (.bool b) j pos) (mC (.bl b)) := me_con pe_bl fun _ _ => rfl
/-! operations of two -/
def OpM (K : Frag) (mg : Str → Option Value) (r : R2) (op : PV → PV → Mo PV) : Prop := ∀ ρ H st x y v w (Q : VK) (E : XK), StR K mg ρ H st → R K mg ρ H x v → R K mg ρ H y w → Out K mg ρ H (op x y st) (gV K mg Q) E → r v w H Q
def mOp (op : PV → PV → Mo PV) (fa fb : PEnv → Mo PV) : PEnv → Mo PV := fun env st => (fa env st).bind fun x st1 => (fb env st1).bind fun y st2 => op x y st2
variable {fa fb fc : PEnv → Mo PV}
theorem tM_op {r : R2} {op : PV → PV → Mo PV} {K : Frag} {mg : Str → Option Value} (hm : OpM K mg r op) {σ : St} {H : Hp} {Q : VK} (h : tM K mg Er (mOp op fa fb) σ H Q) : tOp r (tM K mg Er fa) (tM K mg Er fb) σ H Q := by
  obtain ⟨env, st, ρ, re, rs, h⟩ := h
  exact ⟨env, st, ρ, re, rs, h.then fun ρ1 H1 x st1 e1 s1 h1 v rv => ⟨env, st1, ρ1, re.ext e1, s1, h1.then fun ρ2 H2 y st2 e2 s2 h2 w rw => hm ρ2 H2 st2 x y v w Q Er s2 (R.ext e2 x rv) rw h2⟩⟩
theorem me_op {o : Operator} {r : R2} {op : PV → PV → Mo PV} (ho : OpR X (binaryOp o) r) (hm : OpM X.K X.mg r op) (ha : ME X Er a fa) (hb : ME X Er b fb) : ME X Er (.BinOp a o b pos) (mOp op fa fb) :=
  PE.weak (pe_op ho ha hb) fun σ H Q h => tM_op hm h
theorem me_cmp {o : CmpOp} {r : R2} {op : PV → PV → Mo PV} (ho : OpR X (compareOp o) r) (hm : OpM X.K X.mg r op) (ha : ME X Er a fa) (hb : ME X Er b fb) (hk : behindInMarks o b = false) : ME X Er (.Compare a [o] [b] pos) (mOp op fa fb) :=
  PE.weak (pe_cmpR ho ha hb hk) fun σ H Q h => tM_op hm h
/-- a value as a test: bools alone -/
def asB : PV → Mo Bool
  | .bl b, st => .ok b st
  | _, _ => .stuck
def mB (f : PEnv → Mo PV) : PEnv → Mo Bool := fun env st => (f env st).bind asB
theorem asB_ok {K : Frag} {mg : Str → Option Value} {ρ : List Addr} {H : Hp} {x : PV} {st : Sto} {Q : Bool → Hp → Prop} (s : StR K mg ρ H st) (h : Out K mg ρ H (asB x st) (gB Q) Er) {v : V} (r : R K mg ρ H x v) : ∃ k, v = .bl k ∧ Q k H := by
  unfold asB at h
  split at h
  · cases r; exact ⟨_, rfl, h.now s⟩
  · exact h.elim
theorem asB_inv {α : Type} {K : Frag} {mg : Str → Option Value} {ρ : List Addr} {H : Hp} {x : PV} {st : Sto} {f : Bool → Mo α} {good : List Addr → Hp → α → Sto → Prop} (h : Out K mg ρ H ((asB x st).bind f) good Er) : ∃ k, x = .bl k ∧ Out K mg ρ H (f k st) good Er := by
  cases x with
  | bl k => exact ⟨k, rfl, h⟩
  | _ => exact False.elim h
theorem tM_B {f : PEnv → Mo PV} {K : Frag} {mg : Str → Option Value} {σ : St} {H : Hp} {Q : Bool → Hp → Prop} (h : tMB K mg Er (mB f) σ H Q) : tM K mg Er f σ H fun x H1 => ∃ c, x = .bl c ∧ Q c H1 := by
  obtain ⟨env, st, ρ, re, rs, h⟩ := h
  exact ⟨env, st, ρ, re, rs, h.then fun ρ1 H1 x st1 e1 s1 h1 v rv => asB_ok s1 h1 rv⟩
theorem mt_cmp {o : CmpOp} {r : R2} {op : PV → PV → Mo PV} (ho : OpR X (compareOp o) r) (hm : OpM X.K X.mg r op) (ha : ME X Er a fa) (hb : ME X Er b fb) (hk : behindInMarks o b = false) : MT X Er (.Compare a [o] [b] pos) (mB (mOp op fa fb)) :=
  PT.weak (pt_cmpR ho ha hb hk) fun σ H Q h => tM_op hm (tM_B h)
theorem mt_val (h : ME X Er e fa) (he : ∀ whole, isTrue e X.env whole = (do let v ← whole; standAt e.pos; holding [v] (truthy v)) := by intro _; rfl) : MT X Er e (mB fa) :=
  PT.weak (pt_val h he) fun σ H Q h => tM_B h
/-- a op b op' c -/
def mChain (op op' : PV → PV → Mo PV) (fa fb fc : PEnv → Mo PV) : PEnv → Mo PV := fun env st => (fa env st).bind fun x st1 => (fb env st1).bind fun y st2 => (op x y st2).bind fun k st3 => (asB k st3).bind fun b st4 =>
  if b = true then (fc env st4).bind fun z st5 => op' y z st5 else .ok (.bl false) st4
/-! operations of one -/
def UnM (K : Frag) (mg : Str → Option Value) (r : V → Hp → VK → Prop) (op : PV → Mo PV) : Prop := ∀ ρ H st x v (Q : VK) (E : XK), StR K mg ρ H st → R K mg ρ H x v → Out K mg ρ H (op x st) (gV K mg Q) E → r v H Q
def mUn (op : PV → Mo PV) (fa : PEnv → Mo PV) : PEnv → Mo PV := fun env st => (fa env st).bind op
theorem me_un {o : UnaryOp} {r : V → Hp → VK → Prop} {op : PV → Mo PV} (ho : UnR X (unaryOp o) r) (hm : UnM X.K X.mg r op) (ha : ME X Er a fa) : ME X Er (.UnaryOp o a pos) (mUn op fa) :=
  PE.weak (pe_un ho ha) fun σ H Q ⟨env, st, ρ, re, rs, h⟩ => ⟨env, st, ρ, re, rs, h.then fun ρ1 H1 x st1 e1 s1 h1 v rv => hm ρ1 H1 st1 x v Q Er s1 rv h1⟩
/-! and, or, not, if -/
variable {ga gb : PEnv → Mo Bool} {rest : List Expr}
def bAnd (ga gb : PEnv → Mo Bool) : PEnv → Mo Bool := fun env st => (ga env st).bind fun c st1 => if c = true then gb env st1 else .ok false st1
def bOr (ga gb : PEnv → Mo Bool) : PEnv → Mo Bool := fun env st => (ga env st).bind fun c st1 => if c = true then .ok true st1 else gb env st1
def bNot (ga : PEnv → Mo Bool) : PEnv → Mo Bool := fun env st => (ga env st).bind fun c st1 => .ok (!c) st1
theorem mw_and1 (ha : MT X Er a ga) : MW X Er (.BoolOp .And [a] pos) ga := pw_and1 ha
theorem mw_and (ha : MT X Er a ga) (hb : MW X Er (.BoolOp .And (b :: rest) pos) gb) : MW X Er (.BoolOp .And (a :: b :: rest) pos) (bAnd ga gb) :=
  PW.weak (pw_and ha hb) fun σ H Q ⟨env, st, ρ, re, rs, h⟩ => ⟨env, st, ρ, re, rs, h.then fun ρ1 H1 k st1 e1 s1 h1 => by
    cases k with
    | true => exact ⟨env, st1, ρ1, re.ext e1, s1, h1⟩
    | false => exact h1.now s1⟩
theorem mt_w {op : BoolOp} (h : MW X Er (.BoolOp op es pos) ga) : MT X Er (.BoolOp op es pos) ga := PW.pt h
theorem mt_not (ha : MT X Er a ga) : MT X Er (.UnaryOp .Not a pos) (bNot ga) := PT.weak (pt_not ha) fun σ H Q ⟨env, st, ρ, re, rs, h⟩ => ⟨env, st, ρ, re, rs, h.then fun ρ1 H1 k st1 e1 s1 h1 => h1.now s1⟩
def mAnd (fa fb : PEnv → Mo PV) : PEnv → Mo PV := fun env st => (fa env st).bind fun x st1 => (asB x st1).bind fun c st2 => if c = true then fb env st2 else .ok (.bl false) st2
def mOr (fa fb : PEnv → Mo PV) : PEnv → Mo PV := fun env st => (fa env st).bind fun x st1 => (asB x st1).bind fun c st2 => if c = true then .ok (.bl true) st2 else fb env st2
def mNot (fa : PEnv → Mo PV) : PEnv → Mo PV := fun env st => (fa env st).bind fun x st1 => (asB x st1).bind fun c st2 => .ok (.bl (!c)) st2
theorem me_one {op} (h : ME X Er a fa) : ME X Er (.BoolOp op [a] pos) fa := pe_one h
theorem me_and (ha : ME X Er a fa) (hb : ME X Er (.BoolOp .And (b :: rest) pos) fb) : ME X Er (.BoolOp .And (a :: b :: rest) pos) (mAnd fa fb) :=
  PE.weak (pe_and ha hb) fun σ H Q ⟨env, st, ρ, re, rs, h⟩ => ⟨env, st, ρ, re, rs, h.then fun ρ1 H1 x st1 e1 s1 h1 v rv => by
    obtain ⟨k, rfl, h1⟩ := asB_inv h1
    cases rv
    refine ⟨k, rfl, ?_⟩
    cases k with
    | true => exact ⟨env, st1, ρ1, re.ext e1, s1, h1⟩
    | false => exact Out.now (x := PV.bl false) h1 s1 _ rfl⟩
theorem me_not (ha : ME X Er a fa) : ME X Er (.UnaryOp .Not a pos) (mNot fa) :=
  PE.weak (pe_not ha) fun σ H Q ⟨env, st, ρ, re, rs, h⟩ => ⟨env, st, ρ, re, rs, h.then fun ρ1 H1 x st1 e1 s1 h1 v rv => by
    obtain ⟨k, rfl, h1⟩ := asB_inv h1
    cases rv
    exact ⟨k, rfl, Out.now (x := PV.bl (!k)) h1 s1 _ rfl⟩⟩
def mIf (g : PEnv → Mo Bool) (fa fb : PEnv → Mo PV) : PEnv → Mo PV := fun env st => (g env st).bind fun c st1 => if c = true then fa env st1 else fb env st1
/-! argument lists, displays -/
def aNil : PEnv → Mo (List PV) := fun _ st => .ok [] st
def aCons (f : PEnv → Mo PV) (fs : PEnv → Mo (List PV)) : PEnv → Mo (List PV) := fun env st => (f env st).bind fun x st1 => (fs env st1).bind fun xs st2 => .ok (x :: xs) st2
variable {fs : PEnv → Mo (List PV)}
theorem ma_nil : MA X Er [] aNil := PA.weak pa_nil fun σ H Q ⟨env, st, ρ, re, rs, h⟩ => h.now rs [] rfl
theorem ma_cons (ha : ME X Er e fa) (hr : MA X Er es fs) (hs : starEach (e :: es) X.env = (false, eval e X.env) :: starEach es X.env := by rfl) : MA X Er (e :: es) (aCons fa fs) :=
  PA.weak (pa_cons ha hr hs) fun σ H Q ⟨env, st, ρ, re, rs, h⟩ => ⟨env, st, ρ, re, rs, h.then fun ρ1 H1 x st1 e1 s1 h1 v rv => ⟨env, st1, ρ1, re.ext e1, s1, h1.then fun ρ2 H2 xs st2 e2 s2 h2 vs rvs =>
    h2.now s2 (v :: vs) ⟨v, vs, rfl, R.ext e2 x rv, rvs⟩⟩⟩
def mTup (fs : PEnv → Mo (List PV)) : PEnv → Mo PV := fun env st => (fs env st).bind fun xs st1 => if xs.length ≤ lim then .ok (.tup xs) st1 else .stuck
def mLst (fs : PEnv → Mo (List PV)) : PEnv → Mo PV := fun env st => (fs env st).bind fun xs st1 => if xs.length ≤ lim then .ok (.ref st1.length) (st1 ++ [.lst xs]) else .stuck
theorem R.tup_of {K : Frag} {mg : Str → Option Value} {ρ : List Addr} {H : Hp} {xs : List PV} {vs : List V} {p : Addr} (r : Rs K mg ρ H xs vs) (hp : H p = none) : R K mg ρ (upd H p (.tup vs)) (.tup xs) (.ref p) :=
  ⟨p, vs, rfl, SqT.of upd_same, Rs.ext (Ext.new hp) xs r⟩
theorem me_tup {x1} (h : MA X Er es fs) : ME X Er (.Tuple es x1 pos) (mTup fs) :=
  PE.weak (pe_tup h) fun σ H Q ⟨env, st, ρ, re, rs, h⟩ => ⟨env, st, ρ, re, rs, h.then fun ρ1 H1 xs st1 e1 s1 h1 vs rv => by
    split at h1
    · rename_i hl
      exact ⟨by rw [← rv.len]; exact lim_line hl, fun p hp => h1 ρ1 _ (Ext.new hp) (s1.new hp) _ (R.tup_of rv hp)⟩
    · exact h1.elim⟩
/-- a new list, whatever makes it -/
theorem Out.newList {K : Frag} {mg : Str → Option Value} {ρ : List Addr} {H : Hp} {st : Sto} {xs : List PV} {vs : List V} {p : Addr} {Q : VK} (h : Out K mg ρ H (.ok (.ref st.length) (st ++ [.lst xs])) (gV K mg Q) Er) (s : StR K mg ρ H st) (r : Rs K mg ρ H xs vs) (hp : H p = none) : Q (.ref p) (upd H p (.lst vs)) :=
  h (ρ ++ [p]) _ (Ext.push hp) (s.push hp ⟨vs, upd_same, Rs.ext (Ext.push hp) xs r⟩) _ ⟨p, rfl, by rw [← s.len]; simp⟩
theorem me_lst (h : MA X Er es fs) : ME X Er (.List es pos) (mLst fs) :=
  PE.weak (pe_lst h) fun σ H Q ⟨env, st, ρ, re, rs, h⟩ => ⟨env, st, ρ, re, rs, h.then fun ρ1 H1 xs st1 e1 s1 h1 vs rv => by
    split at h1
    · rename_i hl
      exact ⟨by rw [← rv.len]; exact lim_line hl, fun p hp => Out.newList h1 s1 rv hp⟩
    · exact h1.elim⟩
/-! subscripts -/
theorem me_ix {r : R2} {op : PV → PV → Mo PV} (ho : IxR X r) (hm : OpM X.K X.mg r op) (ha : ME X Er a fa) (hb : ME X Er b fb) (hs : PlainIx b := by exact fun _ _ => rfl) : ME X Er (.Subscript a b pos) (mOp op fa fb) :=
  PE.weak (pe_ix ho ha hb hs) fun σ H Q h => tM_op hm h
end
end Mi

set_option Elab.async false
set_option linter.all false
set_option maxRecDepth 100000
set_option maxHeartbeats 4000000

namespace HT
open PySem PySem.Spec PyProof.Rows
section
variable {prog : Program} {w : World} {A : Around} {E : Value → Shared → Prop} {s : Shared}
theorem getItem_tuple_all {t sl : Addr} {items : Array Value} {vl vu : Value} {lo hi : Option Int} {Q : Value → Shared → Prop} (ht : IsTup s.heap t items) (hs : s.heap.IsSliceOf sl vl vu .none) (pl : IsPart vl lo) (pu : IsPart vu hi)
    (hw : sIx items.size 0 lo = 0 ∧ sIx items.size items.size hi = items.size) (h : Q (.ref t) s)
    (hsz : items.size ≤ sizeLine) : wpAny (model prog w) A (getItem (.ref t) (.ref sl)) Q E s := by
  obtain ⟨os, hos, hcs, hds⟩ := id hs
  have hTs : s.TypeIs (.ref sl) "slice" := ⟨os, hos, hcs⟩
  unfold getItem
  try with_reducible refine wpAny_holding ?_
  first | refine wpAny_bind (wpAny_pure ?_) | skip
  refine wpAny_bind (wpAny_sequenceKey ht.typeIs (by decide) ?_)
  refine wpAny_bind (wpAny_callSpecial?_slot (name := Str.ofString "__getitem__") ht.typeIs PyProof.Rows.slot_tuple_getitem
    (wpAny_call_entry PyProof.Rows.slot_tuple_getitem ht.typeIs entry_tuple_getitem ?_ (args_tuple_getitem _ _)))
  show wpAny _ _ (Builtin.Tuple.tupleItemsOf (.ref t) >>= _) _ _ s
  refine wpAny_bind (tupleItemsOf_ ht ?_)
  refine wpAny_bind (wpAny_typeOf hTs ?_)
  rw [if_pos (by decide)]
  refine wpAny_bind (sliceApplied_gen hs pl pu ?_)
  have hyes : (((sIx items.size 0 lo : Nat) : Int) == 0 && (1 : Int) == 1 && (sIx items.size items.size hi - sIx items.size 0 lo) == items.size) = true := by
    rw [hw.1, hw.2]; simp
  show wpAny _ _ (if (((sIx items.size 0 lo : Nat) : Int) == 0 && (1 : Int) == 1 && (sIx items.size items.size hi - sIx items.size 0 lo) == items.size) = true then _ else _) _ _ s
  rw [if_pos hyes]
  unfold Builtin.Tuple.tupleIsExact
  refine wpAny_bind (wpAny_bind (wpAny_typeOf ht.typeIs (wpAny_pure ?_)))
  rw [if_pos (by decide)]
  exact wpAny_bind (wpAny_rule (wpAny_pure ⟨_, rfl, wpAny_pure h⟩))
/-- () + t -/
theorem cat_tup0 {t b : Addr} {ws : List Value} {Q : Value → Shared → Prop} (ht : IsTup s.heap t #[]) (hb : IsTup s.heap b ws.toArray) (h1 : Q (.ref b) s) : wpAny (model prog w) A (binaryOp .Add (.ref t) (.ref b)) Q E s := by
  obtain ⟨⟨cls, dd, data, sl⟩, ho, hc, n, hd⟩ := id ht
  obtain ⟨⟨cls2, dd2, data2, sl2⟩, ho2, hc2, n2, hd2⟩ := id hb
  simp only at hc hd hc2 hd2
  subst hc hd hc2 hd2
  exact concat_meets ⟨_, ho, rfl⟩ ⟨_, ho2, rfl⟩ noFill_tuple_add seq_tuple_add PySem.F.slot_tuple_add PySem.F.entry_tuple_add (PySem.F.args_tuple_add_2 _ _)
      (tuple_addW0 t b #[] ws.toArray n n2 dd dd2 sl sl2 (by simp)) ⟨ho, ho2, h1⟩
end
end HT


set_option Elab.async false
set_option linter.all false
set_option maxRecDepth 100000
set_option maxHeartbeats 4000000
/-! the mirror: the operations -/
namespace Mi
open PySem L2 PySem.W PySem.Spec
section
variable {X : Cx} {Er : XK} {K : Frag} {mg : Str → Option Value}
def BinOk (X : Cx) (o : Operator) (op : PV → PV → Mo PV) : Prop := ∃ r, OpR X (binaryOp o) r ∧ OpM X.K X.mg r op
def CmpOk (X : Cx) (o : CmpOp) (op : PV → PV → Mo PV) : Prop := ∃ r, OpR X (compareOp o) r ∧ OpM X.K X.mg r op
def IxOk (X : Cx) (op : PV → PV → Mo PV) : Prop := ∃ r, IxR X r ∧ OpM X.K X.mg r op
def UnOk (X : Cx) (o : UnaryOp) (op : PV → Mo PV) : Prop := ∃ r, UnR X (unaryOp o) r ∧ UnM X.K X.mg r op
variable {a b c e : Expr} {es : List Expr} {pos : Pos} {fa fb fc : PEnv → Mo PV} {fs : PEnv → Mo (List PV)}
theorem m_bin {o : Operator} {op : PV → PV → Mo PV} (h : BinOk X o op) (ha : ME X Er a fa) (hb : ME X Er b fb) : ME X Er (.BinOp a o b pos) (mOp op fa fb) := let ⟨_, h1, h2⟩ := h; me_op h1 h2 ha hb
theorem m_cmp {o : CmpOp} {op : PV → PV → Mo PV} (h : CmpOk X o op) (ha : ME X Er a fa) (hb : ME X Er b fb) (hk : behindInMarks o b = false := by first | exact nomark _ | with_unfolding_all rfl) : ME X Er (.Compare a [o] [b] pos) (mOp op fa fb) := let ⟨_, h1, h2⟩ := h; me_cmp h1 h2 ha hb hk
theorem m_cmpT {o : CmpOp} {op : PV → PV → Mo PV} (h : CmpOk X o op) (ha : ME X Er a fa) (hb : ME X Er b fb) (hk : behindInMarks o b = false := by first | exact nomark _ | with_unfolding_all rfl) : MT X Er (.Compare a [o] [b] pos) (mB (mOp op fa fb)) := let ⟨_, h1, h2⟩ := h; mt_cmp h1 h2 ha hb hk
theorem m_ix {op : PV → PV → Mo PV} (h : IxOk X op) (ha : ME X Er a fa) (hb : ME X Er b fb) (hs : PlainIx b := by exact fun _ _ => rfl) : ME X Er (.Subscript a b pos) (mOp op fa fb) := let ⟨_, h1, h2⟩ := h; me_ix h1 h2 ha hb hs
theorem m_un {o : UnaryOp} {op : PV → Mo PV} (h : UnOk X o op) (ha : ME X Er a fa) : ME X Er (.UnaryOp o a pos) (mUn op fa) := let ⟨_, h1, h2⟩ := h; me_un h1 h2 ha
theorem Out.ifp {α : Type} {ρ : List Addr} {H : Hp} {p : Prop} [Decidable p] {r : Res α} {good : List Addr → Hp → α → Sto → Prop} (h : Out K mg ρ H (if p then r else .stuck) good Er) : p ∧ Out K mg ρ H r good Er := by
  split at h
  · rename_i hp; exact ⟨hp, h⟩
  · exact False.elim h
/-- the list, dict, instance at a place of the store -/
def withL {α : Type} (st : Sto) (n : Nat) (k : List PV → Res α) : Res α := match st[n]? with
  | some (.lst xs) => k xs
  | _ => .stuck
def withD {α : Type} (st : Sto) (n : Nat) (k : List Str → List PV → Res α) : Res α := match st[n]? with
  | some (.dic ks xs) => k ks xs
  | _ => .stuck
def withI {α : Type} (st : Sto) (n : Nat) (k : Str → List Str → List PV → Res α) : Res α := match st[n]? with
  | some (.ins c ks xs) => k c ks xs
  | _ => .stuck
theorem withL_inv {α : Type} {ρ : List Addr} {H : Hp} {st : Sto} {n : Nat} {k : List PV → Res α} {good : List Addr → Hp → α → Sto → Prop} (h : Out K mg ρ H (withL st n k) good Er) : ∃ xs, st[n]? = some (.lst xs) ∧ Out K mg ρ H (k xs) good Er := by
  unfold withL at h
  split at h
  · rename_i xs e; exact ⟨xs, e, h⟩
  · exact False.elim h
theorem withD_inv {α : Type} {ρ : List Addr} {H : Hp} {st : Sto} {n : Nat} {k : List Str → List PV → Res α} {good : List Addr → Hp → α → Sto → Prop} (h : Out K mg ρ H (withD st n k) good Er) : ∃ ks xs, st[n]? = some (.dic ks xs) ∧ Out K mg ρ H (k ks xs) good Er := by
  unfold withD at h
  split at h
  · rename_i ks xs e; exact ⟨ks, xs, e, h⟩
  · exact False.elim h
/-! numbers -/
def opI (C : Int → Int → Bool) (g : Int → Int → Int) : PV → PV → Mo PV
  | .int i, .int j, st => if C i j = true then .ok (.int (g i j)) st else .stuck
  | _, _, _ => .stuck
theorem opI_ok {C : Int → Int → Bool} {g : Int → Int → Int} {P : Int → Int → Prop} (hC : ∀ i j, C i j = true → P i j) : OpM K mg (rI P fun i j => .int (g i j)) (opI C g) := by
  intro ρ H st x y v w Q E s rx ry h
  cases x with
  | int i =>
    cases y with
    | int j =>
      cases rx; cases ry
      obtain ⟨c, h⟩ := Out.ifp h
      exact ⟨i, j, rfl, rfl, hC i j c, h.now s _ rfl⟩
    | _ => exact False.elim h
  | _ => exact False.elim h
abbrev c0 : Int → Int → Bool := fun _ _ => true
theorem rI_true {g : Int → Int → V} {f : Value → Value → Sem Value} (h : OpR X f (rI0 g)) : OpR X f (rI (fun _ _ => True) g) := fun pins s σ H x y v u Q I rx ry ⟨i, j, h1, h2, _, q⟩ => h pins s σ H x y v u Q I rx ry ⟨i, j, h1, h2, q⟩
abbrev oSub := opI c0 fun i j => i - j
abbrev cMul : Int → Int → Bool := fun i j => (decide (-(2 ^ 64) < i) && decide (i < 2 ^ 64)) || (decide (-(2 ^ 64) < j) && decide (j < 2 ^ 64))
abbrev oMul := opI cMul fun i j => i * j
abbrev cPow : Int → Int → Bool := fun i j => decide (0 ≤ j) && decide (j ≤ 1000000) && decide (i.natAbs < 2 ^ 64)
abbrev oPow := opI cPow fun i j => i ^ j.toNat
abbrev cNz : Int → Int → Bool := fun _ j => decide (j ≠ 0)
def modP (i j : Int) : Int := if 0 < j then i % j else i.fmod j
abbrev oMod := opI cNz modP
abbrev cDv : Int → Int → Bool := fun _ j => decide (j ≠ 0) && decide (j.natAbs < 2 ^ 200)
def divP (i j : Int) : Int := if 0 < j then i / j else i.fdiv j
abbrev oDiv := opI cDv divP
theorem modP_eq (i j : Int) : modP i j = i.fmod j := by
  unfold modP; split
  · rename_i h; rw [Int.fmod_eq_emod_of_nonneg _ (by omega)]
  · rfl
theorem divP_eq (i j : Int) : divP i j = i.fdiv j := by
  unfold divP; split
  · rename_i h; rw [Int.fdiv_eq_ediv_of_nonneg _ (by omega)]
  · rfl
theorem b_sub : BinOk X .Sub oSub := ⟨_, rI_true op_sub, opI_ok fun _ _ _ => trivial⟩
theorem b_mul : BinOk X .Mult oMul := ⟨_, op_mul, opI_ok fun i j h => by simpa [cMul, CMul] using h⟩
theorem b_pow : BinOk X .Pow oPow := ⟨_, op_pow, opI_ok fun i j h => by simp [cPow] at h; exact ⟨h.1.1, h.1.2, h.2⟩⟩
theorem b_mod : BinOk X .Mod oMod := ⟨_, op_modN, by
  have h : (fun i j => V.int (i.fmod j)) = fun i j => V.int (modP i j) := by funext i j; rw [modP_eq]
  rw [h]; exact opI_ok fun i j h => by simpa [cNz] using h⟩
theorem log_200 {y : Int} (h : y.natAbs < 2 ^ 200) : y.natAbs.log2 < 9000 := by
  by_cases h0 : y.natAbs = 0
  · rw [h0]; decide
  · have := (Nat.log2_lt h0).mpr h
    omega
theorem op_fdivB : OpR X (binaryOp .FloorDiv) (rI (fun _ j => j ≠ 0 ∧ j.natAbs < 2 ^ 200) fun i j => .int (i.fdiv j)) := L2.opI fun _ _ _ _ _ _ _ hc q => PyProof.Rows.floordiv_int hc.1 q (.inl (PyProof.noPylong_of_log2 (log_200 hc.2)))
theorem b_div : BinOk X .FloorDiv oDiv := ⟨_, op_fdivB, by
  have h : (fun i j => V.int (i.fdiv j)) = fun i j => V.int (divP i j) := by funext i j; rw [divP_eq]
  rw [h]; exact opI_ok fun i j h => by simpa [cDv] using h⟩
def oNeg : PV → Mo PV
  | .int i, st => .ok (.int (-i)) st
  | _, _ => .stuck
theorem u_neg : UnOk X .USub oNeg := ⟨_, un_neg, by
  intro ρ H st x v Q E s rx h
  cases x with
  | int i => cases rx; exact ⟨i, rfl, Out.now (x := PV.int (-i)) h s _ rfl⟩
  | _ => exact False.elim h⟩
/-! plus -/
def oAdd : PV → PV → Mo PV
  | .int i, .int j, st => .ok (.int (i + j)) st
  | .str x, .str y, st => if x.length + y.length ≤ lim then .ok (.str (x ++ y)) st else .stuck
  | .tup xs, .tup ys, st => if xs.length + ys.length ≤ lim then .ok (.tup (xs ++ ys)) st else .stuck
  | .ref n, .ref m, st => withL st n fun xs => withL st m fun ys => if xs.length + ys.length ≤ lim then .ok (.ref st.length) (st ++ [.lst (xs ++ ys)]) else .stuck
  | _, _, _ => .stuck
def rCat0 (K : Frag) : R2 := fun x y H Q => ∃ a b ys, x = .ref a ∧ y = .ref b ∧ SqT K H a [] ∧ SqT K H b ys ∧ Q (.ref b) H
theorem op_cat0 : OpR X (binaryOp .Add) (rCat0 X.K) := by
  intro pins s σ H x y v u Q I rx ry h
  obtain ⟨a, b, ys, rfl, rfl, h1, h2, q⟩ := h
  cases rx; cases ry
  obtain ⟨i1, r1, p1, _⟩ := I.tuple h1
  obtain ⟨i2, r2, p2, _⟩ := I.tuple h2
  cases r1
  exact HT.cat_tup0 p1 p2 ⟨.ref b, H, I, rfl, q⟩
theorem b_add : BinOk X .Add oAdd := ⟨_, op_add.or (op_add_str.or (op_cat0.or (op_catT.or op_cat))), by
  intro ρ H st x y v w Q E s rx ry h
  cases x with
  | int i =>
    cases y with
    | int j => cases rx; cases ry; exact .inl ⟨i, j, rfl, rfl, Out.now (x := PV.int (i + j)) h s _ rfl⟩
    | _ => exact False.elim h
  | str i =>
    cases y with
    | str j =>
      cases rx; cases ry
      obtain ⟨c, h⟩ := Out.ifp h
      exact .inr (.inl ⟨i, j, rfl, rfl, lim_line c, h.now s _ rfl⟩)
    | _ => exact False.elim h
  | tup xs =>
    cases y with
    | tup ys =>
      obtain ⟨p, vs, rfl, h1, h2⟩ := rx
      obtain ⟨q, ws, rfl, h3, h4⟩ := ry
      obtain ⟨c, h⟩ := Out.ifp h
      cases xs with
      | nil =>
        cases h2
        exact .inr (.inr (.inl ⟨p, q, ws, rfl, rfl, h1, h3, h.now s _ ⟨q, ws, rfl, h3, h4⟩⟩))
      | cons x0 xs0 =>
        refine .inr (.inr (.inr (.inl ⟨p, q, vs, ws, rfl, rfl, h1, h3, ?_, ?_, fun e => ?_, fun _ l hl => ?_⟩)))
        · obtain ⟨v0, r0, e0, _⟩ := h2; rw [e0]; simp
        · rw [← h2.len, ← h4.len]; exact lim_line c
        · subst e
          have : ys = [] := by have := h4.len; simpa using this
          subst this
          exact h.now s _ ⟨p, vs, rfl, h1, by simpa using h2⟩
        · exact h ρ _ (Ext.new hl) (s.new hl) _ (R.tup_of (h2.append h4) hl)
    | _ => exact False.elim h
  | ref n =>
    cases y with
    | ref m =>
      obtain ⟨p, rfl, hp⟩ := rx
      obtain ⟨q, rfl, hq⟩ := ry
      obtain ⟨xs, e1, h⟩ := withL_inv h
      obtain ⟨ys, e2, h⟩ := withL_inv h
      obtain ⟨c, h⟩ := Out.ifp h
      obtain ⟨vs, h1, h2⟩ := s.addr e1 hp
      obtain ⟨ws, h3, h4⟩ := s.addr e2 hq
      exact .inr (.inr (.inr (.inr ⟨p, q, vs, ws, rfl, rfl, h1, h3, by rw [← h2.len, ← h4.len]; exact lim_line c, fun l hl => Out.newList h s (h2.append h4) hl⟩)))
    | _ => exact False.elim h
  | _ => exact False.elim h⟩
/-! comparisons of numbers -/
def opB (g : Int → Int → Bool) : PV → PV → Mo PV
  | .int i, .int j, st => .ok (.bl (g i j)) st
  | _, _, _ => .stuck
theorem opB_ok {g : Int → Int → Bool} : OpM K mg (rI0 fun i j => .bl (g i j)) (opB g) := by
  intro ρ H st x y v w Q E s rx ry h
  cases x with
  | int i =>
    cases y with
    | int j => cases rx; cases ry; exact ⟨i, j, rfl, rfl, Out.now (x := PV.bl (g i j)) h s _ rfl⟩
    | _ => exact False.elim h
  | _ => exact False.elim h
abbrev oLt := opB fun i j => decide (i < j)
abbrev oLe := opB fun i j => decide (i ≤ j)
abbrev oGt := opB fun i j => decide (j < i)
abbrev oGe := opB fun i j => decide (j ≤ i)
theorem c_lt : CmpOk X .Lt oLt := ⟨_, op_lt, opB_ok⟩
theorem c_le : CmpOk X .LtE oLe := ⟨_, op_le, opB_ok⟩
theorem c_gt : CmpOk X .Gt oGt := ⟨_, op_gt, opB_ok⟩
theorem c_ge : CmpOk X .GtE oGe := ⟨_, op_ge, opB_ok⟩
/-- is None, is not None -/
def isNon : PV → Bool
  | .non => true
  | _ => false
def oIs : PV → PV → Mo PV
  | x, .non, st => .ok (.bl (isNon x)) st
  | _, _, _ => .stuck
def oIsNot : PV → PV → Mo PV
  | x, .non, st => .ok (.bl (!isNon x)) st
  | _, _, _ => .stuck
/-! places -/
theorem atI_R {ρ : List Addr} {H : Hp} {xs : List PV} {vs : List V} {i : Int} {x : PV} (r : Rs K mg ρ H xs vs) (h : atI xs i = some x) : ∃ v, atI vs i = some v ∧ R K mg ρ H x v := by
  unfold atI at h ⊢
  rw [← r.len]
  cases hj : ixN xs.length i with
  | none => rw [hj] at h; cases h
  | some j =>
    rw [hj] at h
    obtain ⟨v, h1, h2⟩ := r.get (show xs[j]? = some x from h)
    exact ⟨v, h1, h2⟩
def optR : Option PV → Mo PV
  | some x, st => .ok x st
  | none, _ => .stuck
def oIx : PV → PV → Mo PV
  | .tup xs, .int i, st => optR (atI xs i) st
  | .frl xs, .int i, st => optR (atI xs i) st
  | .str z, .int i, st => if z.length ≤ lim then optR ((atI z.cps.toList i).map fun c => .str ⟨#[c]⟩) st else .stuck
  | .ref n, .int i, st => withL st n fun xs => optR (atI xs i) st
  | _, _, _ => .stuck
theorem optR_inv {ρ : List Addr} {H : Hp} {o : Option PV} {st : Sto} {good} (h : Out K mg ρ H (optR o st) good Er) : ∃ x, o = some x ∧ Out K mg ρ H (.ok x st) good Er := by
  cases o with
  | some x => exact ⟨x, rfl, h⟩
  | none => exact False.elim h
theorem ix_ok : IxOk X oIx := ⟨_, ix_seq, by
  intro ρ H st x y v w Q E s rx ry h
  cases x with
  | tup xs =>
    cases y with
    | int i =>
      cases ry
      obtain ⟨p, vs, rfl, h1, h2⟩ := rx
      obtain ⟨x, e, h⟩ := optR_inv h
      obtain ⟨v, h3, h4⟩ := atI_R h2 e
      exact .inr (.inl ⟨p, vs, i, v, rfl, rfl, h1, h3, h.now s _ h4⟩)
    | _ => exact False.elim h
  | frl xs =>
    cases y with
    | int i =>
      cases ry
      obtain ⟨p, vs, rfl, h1, h2⟩ := rx
      obtain ⟨x, e, h⟩ := optR_inv h
      obtain ⟨v, h3, h4⟩ := atI_R h2 e
      exact .inl ⟨p, vs, i, v, rfl, rfl, h1.sq, h3, h.now s _ h4⟩
    | _ => exact False.elim h
  | str z =>
    cases y with
    | int i =>
      cases ry; cases rx
      obtain ⟨c, h⟩ := Out.ifp h
      obtain ⟨x, e, h⟩ := optR_inv h
      cases hc : atI z.cps.toList i with
      | none => rw [hc] at e; cases e
      | some k =>
        rw [hc] at e
        cases e
        exact .inr (.inr ⟨z, i, k, rfl, rfl, lim_line c, hc, h.now s _ rfl⟩)
    | _ => exact False.elim h
  | ref n =>
    cases y with
    | int i =>
      cases ry
      obtain ⟨p, rfl, hp⟩ := rx
      obtain ⟨xs, e1, h⟩ := withL_inv h
      obtain ⟨vs, h1, h2⟩ := s.addr e1 hp
      obtain ⟨x, e, h⟩ := optR_inv h
      obtain ⟨v, h3, h4⟩ := atI_R h2 e
      exact .inl ⟨p, vs, i, v, rfl, rfl, SqL.of h1, h3, h.now s _ h4⟩
    | _ => exact False.elim h
  | _ => exact False.elim h⟩
end
end Mi

set_option Elab.async false
set_option linter.all false
set_option maxRecDepth 100000
set_option maxHeartbeats 4000000
/-! the mirror: == of trees -/
namespace Mi
open PySem L2 PySem.W PySem.Spec
mutual
/-- numbers, texts, truths, None, and rows of such -/
def plain : PV → Bool
  | .non => true
  | .bl _ => true
  | .int _ => true
  | .str _ => true
  | .tup xs => plains xs
  | _ => false
def plains : List PV → Bool
  | [] => true
  | x :: xs => plain x && plains xs
end
mutual
def dep : PV → Nat
  | .tup xs => deps xs + 1
  | _ => 0
def deps : List PV → Nat
  | [] => 0
  | x :: xs => max (dep x) (deps xs)
end
mutual
def eqP : PV → PV → Bool
  | .non, .non => true
  | .bl a, .bl b => a == b
  | .bl a, .int b => (if a then 1 else 0) == b
  | .int a, .bl b => a == (if b then 1 else 0)
  | .int a, .int b => a == b
  | .str a, .str b => a == b
  | .tup xs, .tup ys => eqPs xs ys
  | _, _ => false
def eqPs : List PV → List PV → Bool
  | [], [] => true
  | x :: xs, y :: ys => eqP x y && eqPs xs ys
  | _, _ => false
end
section
variable {X : Cx} {Er : XK} {K : Frag} {mg : Str → Option Value} {ρ : List Addr} {pins : List (Addr × Obj)} {σ : L2.St} {H : Hp} {s : Shared}
mutual
theorem same_P (I : Inv X pins σ H s) : ∀ (x y : PV) {v : V}, plain x = true → plain y = true → R X.K mg ρ H x v → R X.K mg ρ H y v → eqP x y = true
  | .non, y, v, _, py, rx, ry => by
    cases rx
    cases y with
    | non => rfl
    | tup ys => obtain ⟨_, _, e, _⟩ := ry; cases e
    | bl _ => cases ry
    | int _ => cases ry
    | str _ => cases ry
    | _ => cases py
  | .bl a, y, v, _, py, rx, ry => by
    cases rx
    cases y with
    | bl b => cases ry; simp [eqP]
    | tup ys => obtain ⟨_, _, e, _⟩ := ry; cases e
    | non => cases ry
    | int _ => cases ry
    | str _ => cases ry
    | _ => cases py
  | .int a, y, v, _, py, rx, ry => by
    cases rx
    cases y with
    | int b => cases ry; simp [eqP]
    | tup ys => obtain ⟨_, _, e, _⟩ := ry; cases e
    | non => cases ry
    | bl _ => cases ry
    | str _ => cases ry
    | _ => cases py
  | .str a, y, v, _, py, rx, ry => by
    cases rx
    cases y with
    | str b => cases ry; simp [eqP]
    | tup ys => obtain ⟨_, _, e, _⟩ := ry; cases e
    | non => cases ry
    | bl _ => cases ry
    | int _ => cases ry
    | _ => cases py
  | .tup xs, y, v, px, py, rx, ry => by
    obtain ⟨a, vs, rfl, h1, h2⟩ := rx
    cases y with
    | tup ys =>
      obtain ⟨b, ws, e, h3, h4⟩ := ry
      cases e
      have := I.tuple_inj h1 h3
      subst this
      exact same_Ps I xs ys px py h2 h4
    | non => cases ry
    | bl _ => cases ry
    | int _ => cases ry
    | str _ => cases ry
    | _ => cases py
  | .ty _, _, _, px, _, _, _ => by cases px
  | .frl _, _, _, px, _, _, _ => by cases px
  | .ref _, _, _, px, _, _, _ => by cases px
  | .fn _, _, _, px, _, _, _ => by cases px
  | .kd _ _, _, _, px, _, _, _ => by cases px
  | .exo _ _ _, _, _, px, _, _, _ => by cases px
theorem same_Ps (I : Inv X pins σ H s) : ∀ (xs ys : List PV) {vs : List V}, plains xs = true → plains ys = true → Rs X.K mg ρ H xs vs → Rs X.K mg ρ H ys vs → eqPs xs ys = true
  | [], ys, vs, _, py, rx, ry => by
    cases rx
    cases ys with
    | nil => rfl
    | cons y ys => obtain ⟨_, _, e, _⟩ := ry; cases e
  | x :: xs, ys, vs, px, py, rx, ry => by
    obtain ⟨v, r, rfl, h1, h2⟩ := rx
    cases ys with
    | nil => cases ry
    | cons y ys =>
      obtain ⟨v', r', e, h3, h4⟩ := ry
      cases e
      simp only [plains, Bool.and_eq_true] at px py
      simp only [eqPs, Bool.and_eq_true]
      exact ⟨same_P I x y px.1 py.1 h1 h3, same_Ps I xs ys px.2 py.2 h2 h4⟩
end
/-- the items' answers -/
def eqJp (xs ys : List PV) (j : Nat) : Bool := match xs[j]?, ys[j]? with
  | some x, some y => eqP x y
  | _, _ => true
theorem eqPs_range : ∀ (xs ys : List PV), ((List.range (min xs.length ys.length)).all (eqJp xs ys) && xs.length == ys.length) = eqPs xs ys
  | [], [] => rfl
  | [], y :: ys => by simp [eqPs]
  | x :: xs, [] => by simp [eqPs]
  | x :: xs, y :: ys => by
    have ih := eqPs_range xs ys
    have e1 : min (x :: xs).length (y :: ys).length = min xs.length ys.length + 1 := by simp only [List.length_cons]; omega
    have e2 : ((x :: xs).length == (y :: ys).length) = (xs.length == ys.length) := by
      rw [Bool.eq_iff_iff]; simp
    rw [e1, e2, List.range_succ_eq_map, List.all_cons, List.all_map]
    have e3 : (eqJp (x :: xs) (y :: ys) ∘ Nat.succ) = eqJp xs ys := by
      funext j
      simp [eqJp]
    rw [e3, Bool.and_assoc, ih]
    simp [eqPs, eqJp]
theorem deps_mem : ∀ {xs : List PV} {i : Nat} {x : PV}, xs[i]? = some x → dep x ≤ deps xs
  | [], _, _, e => by simp at e
  | y :: xs, 0, x, e => by simp at e; subst e; simp only [deps]; omega
  | y :: xs, i + 1, x, e => by
    simp at e
    have := deps_mem e
    simp only [deps]; omega
theorem plains_mem : ∀ {xs : List PV} {i : Nat} {x : PV}, plains xs = true → xs[i]? = some x → plain x = true
  | [], _, _, _, e => by simp at e
  | y :: xs, 0, x, p, e => by simp at e; subst e; simp only [plains, Bool.and_eq_true] at p; exact p.1
  | y :: xs, i + 1, x, p, e => by
    simp at e
    simp only [plains, Bool.and_eq_true] at p
    exact plains_mem p.2 e
theorem in1_units (A : Around) : A.in1.units = A.units + 1 := rfl
/-- both ways at once: by a bound on the depth -/
theorem eq_both (I : Inv X pins σ H s) : ∀ (n : Nat) (x y : PV) {v w : V} {u u' : Value} (A : Around), dep x ≤ n → plain x = true → plain y = true → R X.K mg ρ H x v → R X.K mg ρ H y w → RelV v u → RelV w u' → A.units + n < cLine →
    SeqAt.EqAt A s u u' (eqP x y) ∧ SeqAt.RcAt A s u u' (eqP x y) ∧ SeqAt.RcNeAt A s u u' (!eqP x y) := by
  intro n
  induction n with
  | zero =>
    intro x y v w u u' A hd px py rx ry rv rw hu
    cases x with
    | tup xs => simp only [dep] at hd; omega
    | non =>
      cases rx; cases rv
      cases y with
      | non => cases ry; cases rw; exact ⟨.same _, .none_none, .none_none⟩
      | bl b => cases ry; cases rw; exact ⟨.none_bool b, .none_bool b, .none_bool b⟩
      | int b => cases ry; obtain ⟨t, rfl⟩ := rw; exact ⟨.none_int b t, .none_int b t, .none_int b t⟩
      | str b => cases ry; obtain ⟨t, rfl⟩ := rw; exact ⟨.none_str b t, .none_str b t, .none_str b t⟩
      | tup ys =>
        obtain ⟨p, ws, rfl, h1, h2⟩ := ry
        cases rw
        obtain ⟨its, _, pl, _⟩ := I.tuple h1
        exact ⟨.none_tuple pl (by omega), .none_tuple pl (by omega), .none_tuple pl (by omega)⟩
      | _ => cases py
    | bl a =>
      cases rx; cases rv
      cases y with
      | non => cases ry; cases rw; exact ⟨.bool_none a, .bool_none a, .bool_none a⟩
      | bl b => cases ry; cases rw; exact ⟨.bool_bool a b, .bool_bool a b, .bool_bool a b⟩
      | int b => cases ry; obtain ⟨t, rfl⟩ := rw; exact ⟨.bool_int a b t, .bool_int a b t, .bool_int a b t⟩
      | str b => cases ry; obtain ⟨t, rfl⟩ := rw; exact ⟨.bool_str a b t, .bool_str a b t, .bool_str a b t⟩
      | tup ys =>
        obtain ⟨p, ws, rfl, h1, h2⟩ := ry
        cases rw
        obtain ⟨its, _, pl, _⟩ := I.tuple h1
        exact ⟨.bool_tuple a pl (by omega), .bool_tuple a pl (by omega), .bool_tuple a pl (by omega)⟩
      | _ => cases py
    | int a =>
      cases rx; obtain ⟨t0, rfl⟩ := rv
      cases y with
      | non => cases ry; cases rw; exact ⟨.int_none a t0, .int_none a t0, .int_none a t0⟩
      | bl b => cases ry; cases rw; exact ⟨.int_bool a t0 b, .int_bool a t0 b, .int_bool a t0 b⟩
      | int b => cases ry; obtain ⟨t, rfl⟩ := rw; exact ⟨.int_int a t0 b t, .int_int a t0 b t, .int_int a t0 b t⟩
      | str b => cases ry; obtain ⟨t, rfl⟩ := rw; exact ⟨.int_str a t0 b t, .int_str a t0 b t, .int_str a t0 b t⟩
      | tup ys =>
        obtain ⟨p, ws, rfl, h1, h2⟩ := ry
        cases rw
        obtain ⟨its, _, pl, _⟩ := I.tuple h1
        exact ⟨.int_tuple a t0 pl (by omega), .int_tuple a t0 pl (by omega), .int_tuple a t0 pl (by omega)⟩
      | _ => cases py
    | str a =>
      cases rx; obtain ⟨t0, rfl⟩ := rv
      cases y with
      | non => cases ry; cases rw; exact ⟨.str_none a t0, .str_none a t0, .str_none a t0⟩
      | bl b => cases ry; cases rw; exact ⟨.str_bool a t0 b, .str_bool a t0 b, .str_bool a t0 b⟩
      | int b => cases ry; obtain ⟨t, rfl⟩ := rw; exact ⟨.str_int a t0 b t, .str_int a t0 b t, .str_int a t0 b t⟩
      | str b => cases ry; obtain ⟨t, rfl⟩ := rw; exact ⟨.str_str a t0 b t, .str_str a t0 b t, .str_str a t0 b t⟩
      | tup ys =>
        obtain ⟨p, ws, rfl, h1, h2⟩ := ry
        cases rw
        obtain ⟨its, _, pl, _⟩ := I.tuple h1
        exact ⟨.str_tuple a t0 pl (by omega), .str_tuple a t0 pl (by omega), .str_tuple a t0 pl (by omega)⟩
      | _ => cases py
    | _ => cases px
  | succ n ih =>
    intro x y v w u u' A hd px py rx ry rv rw hu
    cases x with
    | tup xs =>
      obtain ⟨a, vs, rfl, h1, h2⟩ := id rx
      cases rv
      obtain ⟨its, r1, p1, _⟩ := I.tuple h1
      cases y with
      | non => cases ry; cases rw; exact ⟨.tuple_none p1 (by omega), .tuple_none p1 (by omega), .tuple_none p1 (by omega)⟩
      | bl b => cases ry; cases rw; exact ⟨.tuple_bool b p1 (by omega), .tuple_bool b p1 (by omega), .tuple_bool b p1 (by omega)⟩
      | int b => cases ry; obtain ⟨t, rfl⟩ := rw; exact ⟨.tuple_int b t p1 (by omega), .tuple_int b t p1 (by omega), .tuple_int b t p1 (by omega)⟩
      | str b => cases ry; obtain ⟨t, rfl⟩ := rw; exact ⟨.tuple_str b t p1 (by omega), .tuple_str b t p1 (by omega), .tuple_str b t p1 (by omega)⟩
      | tup ys =>
        obtain ⟨b, ws, rfl, h3, h4⟩ := id ry
        cases rw
        obtain ⟨its2, r2, p2, _⟩ := I.tuple h3
        have l1 := h2.len
        have l2 := h4.len
        have l3 := r1.length
        have l4 := r2.length
        have item : ∀ j (g1 : j < its.toArray.size) (g2 : j < its2.toArray.size), SeqAt.EqAt A.in1 s its.toArray[j] its2.toArray[j] (eqJp xs ys j) := fun j g1 g2 => by
          have k1 : j < xs.length := by rw [l1, l3]; simpa using g1
          have k2 : j < ys.length := by rw [l2, l4]; simpa using g2
          obtain ⟨v1, e1, rr1⟩ := h2.get (List.getElem?_eq_getElem k1)
          obtain ⟨v2, e2, rr2⟩ := h4.get (List.getElem?_eq_getElem k2)
          obtain ⟨u1, f1, ru1⟩ := r1.get e1
          obtain ⟨u2, f2, ru2⟩ := r2.get e2
          have w1 : its.toArray[j] = u1 := by
            obtain ⟨_, z⟩ := List.getElem?_eq_some_iff.mp f1
            simpa using z
          have w2 : its2.toArray[j] = u2 := by
            obtain ⟨_, z⟩ := List.getElem?_eq_some_iff.mp f2
            simpa using z
          have ej : eqJp xs ys j = eqP xs[j] ys[j] := by
            unfold eqJp
            rw [List.getElem?_eq_getElem k1, List.getElem?_eq_getElem k2]
          rw [w1, w2, ej]
          have hdj := deps_mem (List.getElem?_eq_getElem k1)
          simp only [dep] at hd
          exact (ih xs[j] ys[j] A.in1 (by omega) (plains_mem px (List.getElem?_eq_getElem k1)) (plains_mem py (List.getElem?_eq_getElem k2)) rr1 rr2 ru1 ru2 (by rw [in1_units]; omega)).1
        have eall : ((List.range (min its.toArray.size its2.toArray.size)).all (eqJp xs ys) && its.toArray.size == its2.toArray.size) = eqP (.tup xs) (.tup ys) := by
          have e := eqPs_range xs ys
          rw [l1, l2, l3, l4] at e
          simpa [eqP] using e
        have rc : SeqAt.RcAt A s (.ref a) (.ref b) (eqP (.tup xs) (.tup ys)) := by
          rw [← eall]
          exact SeqAt.RcAt.tuples (show s.heap.IsTuple a its.toArray from p1) (show s.heap.IsTuple b its2.toArray from p2) (by omega) item
        refine ⟨?_, rc, ?_⟩
        · by_cases hab : a = b
          · subst hab
            rw [same_P I (.tup xs) (.tup ys) px py rx ry]
            exact .same _
          · exact .of_refs hab rc
        · rw [← eall]
          exact SeqAt.RcNeAt.tuples (show s.heap.IsTuple a its.toArray from p1) (show s.heap.IsTuple b its2.toArray from p2) (by omega) item
      | _ => cases py
    | non => exact ih _ y A (Nat.zero_le _) px py rx ry rv rw (by omega)
    | bl a => exact ih _ y A (Nat.zero_le _) px py rx ry rv rw (by omega)
    | int a => exact ih _ y A (Nat.zero_le _) px py rx ry rv rw (by omega)
    | str a => exact ih _ y A (Nat.zero_le _) px py rx ry rv rw (by omega)
    | _ => cases px
/-- ==, != of trees no deeper than 150 -/
def oEq : PV → PV → Mo PV := fun x y st => if plain x = true ∧ plain y = true ∧ dep x ≤ 150 then .ok (.bl (eqP x y)) st else .stuck
def oNe : PV → PV → Mo PV := fun x y st => if plain x = true ∧ plain y = true ∧ dep x ≤ 150 then .ok (.bl (!eqP x y)) st else .stuck
def rEqP (K : Frag) (mg : Str → Option Value) (f : Bool → Bool) : R2 := fun v w H Q => ∃ ρ x y, plain x = true ∧ plain y = true ∧ dep x ≤ 150 ∧ R K mg ρ H x v ∧ R K mg ρ H y w ∧ Q (.bl (f (eqP x y))) H
theorem op_eqP (hu : X.A.units + 200 < cLine) : OpR X (compareOp .Eq) (rEqP X.K X.mg id) := by
  intro pins s σ H x y v u Q I rx ry h
  obtain ⟨ρ, a, b, pa, pb, hd, ra, rb, q⟩ := h
  exact PySem.EqBoolInt.of_rc (eq_both I 150 a b X.A hd pa pb ra rb rx ry (by omega)).2.1 ⟨.bl _, H, I, rfl, q⟩
theorem c_eq (hu : X.A.units + 200 < cLine) : CmpOk X .Eq oEq := ⟨_, op_eqP hu, fun ρ H st x y v w Q E s rx ry h => by
  obtain ⟨⟨p1, p2, p3⟩, h⟩ := Out.ifp h
  exact ⟨ρ, x, y, p1, p2, p3, rx, ry, h.now s _ rfl⟩⟩
end
end Mi

set_option Elab.async false
set_option linter.all false
set_option maxRecDepth 100000
set_option maxHeartbeats 4000000
/-! the mirror: slices, built-in calls -/
namespace Mi
open PySem L2 PySem.W PySem.Spec
section
variable {X : Cx} {Er : XK} {K : Frag} {mg : Str → Option Value} {a b c e : Expr} {es : List Expr} {pos : Pos} {fa fb fc : PEnv → Mo PV} {fs : PEnv → Mo (List PV)}
/-! slices -/
def tMO (K : Frag) (mg : Str → Option Value) (Er : XK) (f : PEnv → Mo (Option Int)) : TO := fun σ H Q => ∃ env st ρ, EnvR K mg ρ H env σ ∧ StR K mg ρ H st ∧ Out K mg ρ H (f env st) (fun _ H' o _ => Q o H') Er
def MO (X : Cx) (Er : XK) (e : Option Expr) (f : PEnv → Mo (Option Int)) : Prop := PO X e (tMO X.K X.mg Er f)
def pNone : PEnv → Mo (Option Int) := fun _ st => .ok none st
def asI : PV → Mo (Option Int)
  | .int i, st => .ok (some i) st
  | _, _ => .stuck
def pSome (f : PEnv → Mo PV) : PEnv → Mo (Option Int) := fun env st => (f env st).bind asI
theorem PO.weak {o : Option Expr} {t t' : TO} (h : PO X o t) (w : ∀ σ H Q, t' σ H Q → t σ H Q) : PO X o t' := fun pins s σ H Q I q => h pins s σ H Q I (w σ H Q q)
theorem mo_none : MO X Er none pNone := PO.weak po_none fun σ H Q ⟨env, st, ρ, re, rs, h⟩ => h.now rs
theorem mo_some (h : ME X Er e fa) : MO X Er (some e) (pSome fa) := PO.weak (po_some h) fun σ H Q ⟨env, st, ρ, re, rs, h⟩ => ⟨env, st, ρ, re, rs, h.then fun ρ1 H1 x st1 e1 s1 h1 v rv => by
  cases x with
  | int i => cases rv; exact ⟨i, rfl, Out.now (x := some i) h1 s1⟩
  | _ => exact False.elim h1⟩
def cutP (xs : List PV) (lo hi : Option Int) : List PV := (xs.drop (HT.sIx xs.length 0 lo)).take (HT.sIx xs.length xs.length hi - HT.sIx xs.length 0 lo)
def oSl : PV → Option Int → Option Int → Mo PV
  | .tup xs, lo, hi, st => .ok (.tup (cutP xs lo hi)) st
  | .frl xs, lo, hi, st => .ok (.ref st.length) (st ++ [.lst (cutP xs lo hi)])
  | .ref n, lo, hi, st => withL st n fun xs => .ok (.ref st.length) (st ++ [.lst (cutP xs lo hi)])
  | .str z, lo, hi, st => if z.length ≤ lim then .ok (.str (Txt.slice z lo hi)) st else .stuck
  | _, _, _, _ => .stuck
theorem Rs.cut {ρ : List Addr} {H : Hp} {xs : List PV} {vs : List V} (r : Rs K mg ρ H xs vs) (lo hi : Option Int) : Rs K mg ρ H (cutP xs lo hi) (cutV vs lo hi) := by
  unfold cutP cutV
  rw [r.len]
  exact (r.drop _).take _
def rSlA (K : Frag) : V → Option Int → Option Int → Hp → VK → Prop := fun x lo hi H Q => ∃ a xs, x = .ref a ∧ SqT K H a xs ∧ (HT.sIx xs.length 0 lo = 0 ∧ HT.sIx xs.length xs.length hi = xs.length) ∧ Q (.ref a) H
theorem sl_tupA : SlR X (rSlA X.K) := by
  intro pins s σ H x v vl vu lo hi sl Q I rx hs pl pu h
  obtain ⟨a, xs, rfl, hx, hw, q⟩ := h
  cases rx
  obtain ⟨its, r, ht, hz⟩ := I.tuple hx
  have hlen : its.toArray.size = xs.length := by rw [List.size_toArray]; exact r.length.symm
  refine ⟨"tuple", _, PyProof.Rows.slot_tuple_getitem.lookup, ht.typeIs, ?_⟩
  exact HT.getItem_tuple_all ht hs pl pu (by rw [hlen]; exact hw) ⟨.ref a, H, I, rfl, q⟩ (by rw [hlen]; exact hz)
def mSl (fa : PEnv → Mo PV) (fl fu : PEnv → Mo (Option Int)) : PEnv → Mo PV := fun env st => (fa env st).bind fun x st1 => (fl env st1).bind fun l st2 => (fu env st2).bind fun u st3 => oSl x l u st3
theorem m_slice {lo hi : Option Expr} {fl fu : PEnv → Mo (Option Int)} {p2 : Pos} (ha : ME X Er a fa) (hl : MO X Er lo fl) (hu : MO X Er hi fu) : ME X Er (.Subscript a (.Slice lo hi none p2) pos) (mSl fa fl fu) :=
  PE.weak (pe_slice (sl_tup.or (sl_tupA.or (sl_list.or sl_str))) ha hl hu) fun σ H Q ⟨env, st, ρ, re, rs, h⟩ => ⟨env, st, ρ, re, rs, h.then fun ρ1 H1 x st1 e1 s1 h1 v rv => ⟨env, st1, ρ1, re.ext e1, s1, h1.then fun ρ2 H2 l st2 e2 s2 h2 =>
    ⟨env, st2, ρ2, (re.ext e1).ext e2, s2, h2.then fun ρ3 H3 u st3 e3 s3 h3 => by
    have rv := R.ext e3 x (R.ext e2 x rv)
    cases x with
    | tup xs =>
      obtain ⟨p, vs, rfl, k1, k2⟩ := rv
      by_cases hw : HT.sIx vs.length 0 l = 0 ∧ HT.sIx vs.length vs.length u = vs.length
      · refine .inr (.inl ⟨p, vs, rfl, k1, hw, Out.now (x := PV.tup (cutP xs l u)) h3 s3 _ ⟨p, vs, rfl, k1, ?_⟩⟩)
        have : cutP xs l u = xs := by
          unfold cutP
          rw [k2.len, hw.1, hw.2]
          simp [← k2.len]
        rw [this]; exact k2
      · exact .inl ⟨p, vs, rfl, k1, hw, fun q hq => h3 ρ3 _ (Ext.new hq) (s3.new hq) _ (R.tup_of (k2.cut l u) hq)⟩
    | frl xs =>
      obtain ⟨p, vs, rfl, k1, k2⟩ := rv
      exact .inr (.inr (.inl ⟨p, vs, rfl, k1.sq, fun q hq => Out.newList (xs := cutP xs l u) h3 s3 (k2.cut l u) hq⟩))
    | ref n =>
      obtain ⟨p, rfl, hp⟩ := rv
      obtain ⟨xs, k0, h3⟩ := withL_inv h3
      obtain ⟨vs, k1, k2⟩ := s3.addr k0 hp
      exact .inr (.inr (.inl ⟨p, vs, rfl, SqL.of k1, fun q hq => Out.newList (xs := cutP xs l u) h3 s3 (k2.cut l u) hq⟩))
    | str z =>
      cases rv
      obtain ⟨k0, h3⟩ := Out.ifp h3
      exact .inr (.inr (.inr ⟨z, rfl, lim_line k0, h3.now s3 _ rfl⟩))
    | _ => exact False.elim h3⟩⟩⟩
/-! built-in calls -/
def CallM (K : Frag) (mg : Str → Option Value) (r : List V → Hp → VK → Prop) (op : List PV → Mo PV) : Prop := ∀ ρ H st xs vs (Q : VK) (E : XK), StR K mg ρ H st → Rs K mg ρ H xs vs → Out K mg ρ H (op xs st) (gV K mg Q) E → r vs H Q
def BltOk (X : Cx) (f : Value) (op : List PV → Mo PV) : Prop := ∃ r, CallR X f r ∧ CallM X.K X.mg r op
def mCall (op : List PV → Mo PV) (fs : PEnv → Mo (List PV)) : PEnv → Mo PV := fun env st => (fs env st).bind op
theorem m_blt {x : Str} {id : String} {op : List PV → Mo PV} {p : Pos} (h : BltOk X (.builtin id) op) (hm : X.mg x = none) (hv : bootBuiltins x = some (.builtin id)) (ha : MA X Er (e :: es) fs) (hg : Gl X x := by rfl) (hn : x ≠ "__name__" := by decide) (hdb : (x == ("__debug__" : Str)) = false := by decide)
    (he : starEach (e :: es) X.env = (false, eval e X.env) :: starEach es X.env := by rfl) (hpl : (backTo pos (starEach es X.env)).any (·.1) = false := by rfl) : ME X Er (.Call (.Name x p) (e :: es) [] pos) (mCall op fs) := by
  obtain ⟨r, h1, h2⟩ := h
  exact PE.weak (pe_callB h1 hg hm hv ha hn hdb he hpl) fun σ H Q ⟨env, st, ρ, re, rs, h⟩ => ⟨env, st, ρ, re, rs, h.then fun ρ1 H1 xs st1 e1 s1 k vs rv => h2 ρ1 H1 st1 xs vs Q Er s1 rv k⟩
theorem m_bltT {x : Str} {T : String} {op : List PV → Mo PV} {p : Pos} (h : BltOk X (.type T) op) (hm : X.mg x = none) (hv : bootBuiltins x = some (.type T)) (ha : MA X Er (e :: es) fs) (hg : Gl X x := by rfl) (hn : x ≠ "__name__" := by decide) (hdb : (x == ("__debug__" : Str)) = false := by decide)
    (he : starEach (e :: es) X.env = (false, eval e X.env) :: starEach es X.env := by rfl) (hpl : (backTo pos (starEach es X.env)).any (·.1) = false := by rfl) : ME X Er (.Call (.Name x p) (e :: es) [] pos) (mCall op fs) := by
  obtain ⟨r, h1, h2⟩ := h
  exact PE.weak (pe_callTy h1 hg hm hv ha hn hdb he hpl) fun σ H Q ⟨env, st, ρ, re, rs, h⟩ => ⟨env, st, ρ, re, rs, h.then fun ρ1 H1 xs st1 e1 s1 k vs rv => h2 ρ1 H1 st1 xs vs Q Er s1 rv k⟩
theorem m_ty {x : Str} {n : String} (hm : X.mg x = none) (hv : bootBuiltins x = some (.type n)) (hg : Gl X x := by rfl) (hn : x ≠ "__name__" := by decide) (hd : (x == ("__debug__" : Str)) = false := by decide) : ME X Er (.Name x pos) (mC (.ty n)) :=
  me_con (pe_bltn (v := .ty n) hg hm hv rfl hn hd) fun _ _ => rfl
theorem Rs.one {ρ : List Addr} {H : Hp} {x : PV} {vs : List V} (r : Rs K mg ρ H [x] vs) : ∃ v, vs = [v] ∧ R K mg ρ H x v := by
  obtain ⟨v, r', rfl, h, h'⟩ := r
  cases h'
  exact ⟨v, rfl, h⟩
theorem Rs.two {ρ : List Addr} {H : Hp} {x y : PV} {vs : List V} (r : Rs K mg ρ H [x, y] vs) : ∃ v w, vs = [v, w] ∧ R K mg ρ H x v ∧ R K mg ρ H y w := by
  obtain ⟨v, r', rfl, h, h'⟩ := r
  obtain ⟨w, rfl, h2⟩ := Rs.one h'
  exact ⟨v, w, rfl, h, h2⟩
/-- len -/
def oLen : List PV → Mo PV
  | [.tup xs], st => .ok (.int xs.length) st
  | [.frl xs], st => .ok (.int xs.length) st
  | [.str z], st => if z.length ≤ lim then .ok (.int z.length) st else .stuck
  | [.ref n], st => withL st n fun xs => .ok (.int xs.length) st
  | _, _ => .stuck
theorem f_len : BltOk X (.builtin "len") oLen := ⟨_, call_len, fun ρ H st xs vs Q E s r h => by
  match xs, r, h with
  | [.tup ys], r, h =>
    obtain ⟨v, rfl, p, ws, rfl, h1, h2⟩ := Rs.one r
    exact ⟨_, ws.length, rfl, .inr ⟨ws, h1, rfl⟩, by rw [← h2.len]; exact Out.now (x := PV.int ys.length) h s _ rfl⟩
  | [.frl ys], r, h =>
    obtain ⟨v, rfl, p, ws, rfl, h1, h2⟩ := Rs.one r
    exact ⟨_, ws.length, rfl, .inl ⟨ws, h1.sq, rfl⟩, by rw [← h2.len]; exact Out.now (x := PV.int ys.length) h s _ rfl⟩
  | [.str z], r, h =>
    obtain ⟨v, rfl, rfl⟩ := Rs.one r
    obtain ⟨c, h⟩ := Out.ifp h
    exact ⟨_, z.length, rfl, ⟨lim_line c, rfl⟩, h.now s _ rfl⟩
  | [.ref n], r, h =>
    obtain ⟨v, rfl, p, rfl, hp⟩ := Rs.one r
    obtain ⟨ys, e, h⟩ := withL_inv h
    obtain ⟨ws, h1, h2⟩ := s.addr e hp
    exact ⟨_, ws.length, rfl, .inl ⟨ws, SqL.of h1, rfl⟩, by rw [← h2.len]; exact h.now s _ rfl⟩
  | [], r, h => exact False.elim h
  | [.non], r, h => exact False.elim h
  | [.bl _], r, h => exact False.elim h
  | [.int _], r, h => exact False.elim h
  | [.ty _], r, h => exact False.elim h
  | [.fn _], r, h => exact False.elim h
  | [.kd _ _], r, h => exact False.elim h
  | [.exo _ _ _], r, h => exact False.elim h
  | x :: y :: r', r, h => cases x <;> exact False.elim h⟩
/-- int of a truth or a number -/
def oInt : List PV → Mo PV
  | [.int i], st => .ok (.int i) st
  | [.bl k], st => .ok (.int (if k then 1 else 0)) st
  | _, _ => .stuck
/-- list of a list or a row -/
def oList : List PV → Mo PV
  | [.tup xs], st => .ok (.ref st.length) (st ++ [.lst xs])
  | [.frl xs], st => .ok (.ref st.length) (st ++ [.lst xs])
  | [.ref n], st => withL st n fun xs => .ok (.ref st.length) (st ++ [.lst xs])
  | _, _ => .stuck
theorem f_list : BltOk X (.type "list") oList := ⟨_, call_list_of, fun ρ H st xs vs Q E s r h => by
  match xs, r, h with
  | [.tup ys], r, h =>
    obtain ⟨v, rfl, p, ws, rfl, h1, h2⟩ := Rs.one r
    exact ⟨p, ws, rfl, .inr h1, fun l hl => Out.newList (xs := ys) h s h2 hl⟩
  | [.frl ys], r, h =>
    obtain ⟨v, rfl, p, ws, rfl, h1, h2⟩ := Rs.one r
    exact ⟨p, ws, rfl, .inl h1.sq, fun l hl => Out.newList (xs := ys) h s h2 hl⟩
  | [.ref n], r, h =>
    obtain ⟨v, rfl, p, rfl, hp⟩ := Rs.one r
    obtain ⟨ys, e, h⟩ := withL_inv h
    obtain ⟨ws, h1, h2⟩ := s.addr e hp
    exact ⟨p, ws, rfl, .inl (SqL.of h1), fun l hl => Out.newList (xs := ys) h s h2 hl⟩
  | [], r, h => exact False.elim h
  | [.non], r, h => exact False.elim h
  | [.bl _], r, h => exact False.elim h
  | [.int _], r, h => exact False.elim h
  | [.str _], r, h => exact False.elim h
  | [.ty _], r, h => exact False.elim h
  | [.fn _], r, h => exact False.elim h
  | [.kd _ _], r, h => exact False.elim h
  | [.exo _ _ _], r, h => exact False.elim h
  | x :: y :: r', r, h => cases x <;> exact False.elim h⟩
/-- tuple of a list or a row -/
def oTuple : List PV → Mo PV
  | [.tup xs], st => .ok (.tup xs) st
  | [.frl xs], st => .ok (.tup xs) st
  | [.ref n], st => withL st n fun xs => .ok (.tup xs) st
  | _, _ => .stuck
theorem f_tuple : BltOk X (.type "tuple") oTuple := ⟨_, call_tuple_of, fun ρ H st xs vs Q E s r h => by
  match xs, r, h with
  | [.tup ys], r, h =>
    obtain ⟨v, rfl, p, ws, rfl, h1, h2⟩ := Rs.one r
    exact ⟨p, ws, rfl, .inr ⟨h1, Out.now (x := PV.tup ys) h s _ ⟨p, ws, rfl, h1, h2⟩⟩⟩
  | [.frl ys], r, h =>
    obtain ⟨v, rfl, p, ws, rfl, h1, h2⟩ := Rs.one r
    exact ⟨p, ws, rfl, .inl ⟨h1.sq, fun l hl => h ρ _ (Ext.new hl) (s.new hl) _ (R.tup_of h2 hl)⟩⟩
  | [.ref n], r, h =>
    obtain ⟨v, rfl, p, rfl, hp⟩ := Rs.one r
    obtain ⟨ys, e, h⟩ := withL_inv h
    obtain ⟨ws, h1, h2⟩ := s.addr e hp
    exact ⟨p, ws, rfl, .inl ⟨SqL.of h1, fun l hl => h ρ _ (Ext.new hl) (s.new hl) _ (R.tup_of h2 hl)⟩⟩
  | [], r, h => exact False.elim h
  | [.non], r, h => exact False.elim h
  | [.bl _], r, h => exact False.elim h
  | [.int _], r, h => exact False.elim h
  | [.str _], r, h => exact False.elim h
  | [.ty _], r, h => exact False.elim h
  | [.fn _], r, h => exact False.elim h
  | [.kd _ _], r, h => exact False.elim h
  | [.exo _ _ _], r, h => exact False.elim h
  | x :: y :: r', r, h => cases x <;> exact False.elim h⟩
/-! isinstance -/
/-- built-in types, told apart -/
def tyb (T n : String) : Option Bool :=
  if T = "int" then (if n = "int" then some true else if n = "bool" ∨ n = "str" ∨ n = "tuple" ∨ n = "dict" ∨ n = "list" then some false else none)
  else if T = "bool" then (if n = "int" ∨ n = "bool" then some true else if n = "str" ∨ n = "tuple" ∨ n = "dict" ∨ n = "list" then some false else none)
  else if T = "str" then (if n = "str" then some true else if n = "int" ∨ n = "bool" ∨ n = "tuple" ∨ n = "dict" ∨ n = "list" then some false else none)
  else if T = "tuple" then (if n = "tuple" then some true else if n = "int" ∨ n = "bool" ∨ n = "str" ∨ n = "dict" ∨ n = "list" then some false else none)
  else if T = "list" then (if n = "list" then some true else if n = "int" ∨ n = "bool" ∨ n = "str" ∨ n = "dict" ∨ n = "tuple" then some false else none)
  else if T = "dict" then (if n = "dict" then some true else if n = "int" ∨ n = "bool" ∨ n = "str" ∨ n = "list" ∨ n = "tuple" then some false else none)
  else if T = "NoneType" then (if n = "int" ∨ n = "bool" ∨ n = "str" ∨ n = "list" ∨ n = "tuple" ∨ n = "dict" then some false else none)
  else none
theorem tyb_kit (K : Frag) {T n : String} {b : Bool} (h : tyb T n = some b) : PySem.W.kitOne K (.type T) (.type n) = some b := by
  unfold tyb at h
  split at h
  · rename_i e; subst e
    split at h
    · rename_i e; subst e; cases h; first | rfl | kernel_rfl
    · split at h
      · rename_i e; cases h; rcases e with e | e | e | e | e <;> subst e <;> first | rfl | kernel_rfl
      · cases h
  · split at h
    · rename_i e; subst e
      split at h
      · rename_i e; cases h; rcases e with e | e <;> subst e <;> first | rfl | kernel_rfl
      · split at h
        · rename_i e; cases h; rcases e with e | e | e | e <;> subst e <;> first | rfl | kernel_rfl
        · cases h
    · split at h
      · rename_i e; subst e
        split at h
        · rename_i e; subst e; cases h; first | rfl | kernel_rfl
        · split at h
          · rename_i e; cases h; rcases e with e | e | e | e | e <;> subst e <;> first | rfl | kernel_rfl
          · cases h
      · split at h
        · rename_i e; subst e
          split at h
          · rename_i e; subst e; cases h; first | rfl | kernel_rfl
          · split at h
            · rename_i e; cases h; rcases e with e | e | e | e | e <;> subst e <;> first | rfl | kernel_rfl
            · cases h
        · split at h
          · rename_i e; subst e
            split at h
            · rename_i e; subst e; cases h; first | rfl | kernel_rfl
            · split at h
              · rename_i e; cases h; rcases e with e | e | e | e | e <;> subst e <;> first | rfl | kernel_rfl
              · cases h
          · split at h
            · rename_i e; subst e
              split at h
              · rename_i e; subst e; cases h; first | rfl | kernel_rfl
              · split at h
                · rename_i e; cases h; rcases e with e | e | e | e | e <;> subst e <;> first | rfl | kernel_rfl
                · cases h
            · split at h
              · rename_i e; subst e
                split at h
                · rename_i e; cases h; rcases e with e | e | e | e | e | e <;> subst e <;> first | rfl | kernel_rfl
                · cases h
              · cases h
end
end Mi

set_option Elab.async false
set_option linter.all false
set_option maxRecDepth 100000
set_option maxHeartbeats 4000000
/-! the mirror: calls of the text's own defs and classes, attributes, isinstance -/
namespace Mi
open PySem L2 PySem.W PySem.Spec
/-- a def's promise by its mirror -/
def spM (K : Frag) (mg : Str → Option Value) (m : List PV → Mo PV) : Sp := fun vs H Q E => ∃ xs st ρ, Rs K mg ρ H xs vs ∧ StR K mg ρ H st ∧ Out K mg ρ H (m xs st) (gV K mg Q) E
section
variable (P : Program) (w : World) (K : Frag) (mg : Str → Option Value) (base : Heap)
/-- a def of the top by its name -/
def FOk (x : Str) (k : Nat) (m : List PV → Mo PV) : Prop := ∃ f fd ps, mg x = some (.ref f) ∧ keepIn K (.ref f) = true ∧ Binds K fd ps [] ∧ FnOk P w K mg base (CXe P w) k f fd ps (spM K mg m)
/-- a method -/
def MOk (c name : Str) (k : Nat) (m : List PV → Mo PV) : Prop := ∃ C f fd ps, mg c = some (.ref C) ∧ Cls K C ∧ Meth K C name f ∧ Binds K fd ps [] ∧ FnOk P w K mg base (CXe P w) k f fd ps (spM K mg m)
/-- a class that is made: its __init__ -/
def NOk (c : Str) (k : Nat) (m : List PV → Mo PV) : Prop := ∃ C f fd ps, mg c = some (.ref C) ∧ Mk K C f ∧ Binds K fd ps [] ∧ FnOk P w K mg base (CXe P w) k f fd ps (spM K mg m)
/-- an error class with one field -/
def XOk (c fld : Str) : Prop := ∃ C f fd, mg c = some (.ref C) ∧ ExMk K C f ∧ FnOk P w K mg base (CXe P w) 1 f fd ["self", fld] (spEx1 C fld) ∧ Binds K fd ["self", fld] []
end
section
variable {X : Cx} {Er : XK} {K : Frag} {mg : Str → Option Value} {a b c e o : Expr} {es : List Expr} {pos p apos : Pos} {fa fb fc fo : PEnv → Mo PV} {fs : PEnv → Mo (List PV)} {k : Nat} {x : Str} {m : List PV → Mo PV}
theorem m_call (C : FOk X.prog X.w X.K X.mg X.base x k m) (hr : Room k X.A) (ht : Throws2 X Er) (ha : MA X Er (e :: es) fs) (hg : Gl X x := by rfl) (hdb : (x == ("__debug__" : Str)) = false := by decide)
    (he : starEach (e :: es) X.env = (false, eval e X.env) :: starEach es X.env := by rfl) (hpl : (backTo pos (starEach es X.env)).any (·.1) = false := by rfl) : ME X Er (.Call (.Name x p) (e :: es) [] pos) (mCall m fs) := by
  obtain ⟨f, fd, ps, hm, hk, hb, F⟩ := C
  exact PE.weak (pe_call F hr hg hm hk hb .nil (passes2 ht) ha hdb he hpl) fun σ H Q ⟨env, st, ρ, re, rs, h⟩ => ⟨env, st, ρ, re, rs, h.then fun ρ1 H1 xs st1 e1 s1 k vs rv => by
    show spM X.K X.mg m (vs ++ []) H1 Q Er
    rw [List.append_nil]
    exact ⟨xs, st1, ρ1, rv, s1, k⟩⟩
/-- a def by its value -/
def mCallV (tab : Str → Option (List PV → Mo PV)) (ff : PEnv → Mo PV) (fs : PEnv → Mo (List PV)) : PEnv → Mo PV := fun env st => (ff env st).bind fun f st1 => match f with
  | .fn x => match tab x with
    | some m => (fs env st1).bind m
    | none => .stuck
  | _ => .stuck
theorem lookup_R {ρ : List Addr} {H : Hp} {f : Str} : ∀ {ks : List Str} {xs : List PV} {vs : List V} {x : PV}, Rs K mg ρ H xs vs → (ks.zip xs).lookup f = some x → ∃ v, (ks.zip vs).lookup f = some v ∧ R K mg ρ H x v
  | [], _, _, _, _, h => by simp at h
  | k :: ks, [], _, _, _, h => by simp at h
  | k :: ks, y :: xs, _, x, r, h => by
    obtain ⟨v, r', rfl, h1, h2⟩ := r
    simp only [List.zip_cons_cons, List.lookup_cons] at h ⊢
    split at h
    · cases h; exact ⟨v, rfl, h1⟩
    · exact lookup_R h2 h
/-- the mirror of a method call: by the class's name -/
def methAt (name : Str) (tab : Str → Option (List PV → Mo PV)) (o : PV) (st : Sto) (k : Nat → (List PV → Mo PV) → Res PV) : Res PV := match o with
  | .ref n => withI st n fun c ks _ => if name ∈ ks then .stuck else match tab c with
    | some m => k n m
    | none => .stuck
  | _ => .stuck
def mMeth (name : Str) (tab : Str → Option (List PV → Mo PV)) (fo : PEnv → Mo PV) (fs : PEnv → Mo (List PV)) : PEnv → Mo PV := fun env st => (fo env st).bind fun o st1 => methAt name tab o st1 fun n m => (fs env st1).bind fun ys st2 => m (.ref n :: ys) st2
/-! attributes -/
def fldAt (f : Str) (ins exc : Str → Bool) : PV → Mo PV
  | .ref n, st => withI st n fun c ks xs => if ins c = true then optR ((ks.zip xs).lookup f) st else .stuck
  | .exo c ks xs, st => if exc c = true then optR ((ks.zip xs).lookup f) st else .stuck
  | _, _ => .stuck
structure FldF (K : Frag) (mg : Str → Option Value) (f : Str) (ins exc : Str → Bool) : Prop where
  i : ∀ c, ins c = true → ∃ C, mg c = some (.ref C) ∧ Cls K C ∧ NoAttr K C f
  x : ∀ c, exc c = true → ∃ C, mg c = some (.ref C) ∧ ExGa K C ∧ hasDictIn K C = true ∧ findIn K (.ref C) f = some none
/-! isinstance -/
def soCls : Option SO → Option (String ⊕ (Bool × Str))
  | some (.lst _) => some (.inl "list")
  | some (.dic _ _) => some (.inl "dict")
  | some (.ins c _ _) => some (.inr (false, c))
  | none => none
def clsP (st : Sto) : PV → Option (String ⊕ (Bool × Str))
  | .non => some (.inl "NoneType")
  | .bl _ => some (.inl "bool")
  | .int _ => some (.inl "int")
  | .str _ => some (.inl "str")
  | .tup _ => some (.inl "tuple")
  | .ref n => soCls st[n]?
  | .exo c _ _ => some (.inr (true, c))
  | _ => none
def optB (o : Option Bool) : Mo PV := fun st => match o with
  | some b => .ok (.bl b) st
  | none => .stuck
theorem optB_inv {ρ : List Addr} {H : Hp} {o : Option Bool} {st : Sto} {good} (h : Out K mg ρ H (optB o st) good Er) : ∃ b, o = some b ∧ Out K mg ρ H (.ok (.bl b) st) good Er := by
  cases o with
  | some x => exact ⟨x, rfl, h⟩
  | none => exact False.elim h
/-- isx: which own classes are errors; sub: own classes; subT: an own class and a built-in one; tyC: a built-in one and an own one -/
structure IsT where
  isx : Str → Bool
  sub : Str → Str → Option Bool
  subT : Str → String → Option Bool
  tyC : String → Str → Option Bool
def isiA (t : IsT) (st : Sto) : PV → Option (String ⊕ (Bool × Str)) → Mo PV
  | .ty n, some (.inl T), st => optB (tyb T n) st
  | .ty n, some (.inr (f, c)), st => if t.isx c = f then optB (t.subT c n) st else .stuck
  | .fn B, some (.inl T), st => optB (t.tyC T B) st
  | .fn B, some (.inr (f, c)), st => if t.isx c = f then optB (t.sub c B) st else .stuck
  | _, _, _ => .stuck
def oIsi (t : IsT) : List PV → Mo PV
  | [x, y], st => isiA t st y (clsP st x) st
  | _, _ => .stuck
/-- an own class whose instances may be asked -/
structure InIs (K : Frag) (C : Addr) : Prop where
  cl : Cls K C
  ha : findIn K (.ref C) "__class__" = some (some (.builtin "object.__class__"))
  hn : specialIn K (.builtin "object.__class__") "__get__" = some (some (.builtin "getset_descriptor.__get__"))
  tk : takesIn K (.builtin "object.__class__") = some true
  hm : mroIn K C (.type "object") = some true
structure IsF (K : Frag) (mg : Str → Option Value) (t : IsT) : Prop where
  s : ∀ c B b, t.sub c B = some b → ∃ C D, mg c = some (.ref C) ∧ mg B = some (.ref D) ∧ kitOne K (.ref C) (.ref D) = some b
  tt : ∀ c n b, t.subT c n = some b → ∃ C, mg c = some (.ref C) ∧ kitOne K (.ref C) (.type n) = some b
  u : ∀ T B b, t.tyC T B = some b → ∃ D, mg B = some (.ref D) ∧ kitOne K (.type T) (.ref D) = some b
  x : ∀ c C, t.isx c = true → mg c = some (.ref C) → ((∃ B b, t.sub c B = some b) ∨ ∃ n b, t.subT c n = some b) → ExIs K C
  i : ∀ c C, t.isx c = false → mg c = some (.ref C) → ((∃ B b, t.sub c B = some b) ∨ ∃ n b, t.subT c n = some b) → InIs K C
/-- what isinstance asks of its first: its type by the heap -/
inductive TyA (K : Frag) (H : Hp) : V → Value → Prop where
  | of {v : V} {t : Value} (h : TyOf K H v t) : TyA K H v t
  | tup {a : Addr} {vs : List V} (h : SqT K H a vs) : TyA K H (.ref a) (.type "tuple")
  | exc {a C d : Addr} {fs : List (Str × V)} (ha : H a = some (exC C (some d) a)) (hd : H d = some (.xd fs)) (k : ExIs K C) : TyA K H (.ref a) (.ref C)
theorem isi_any {pins : List (Addr × Obj)} {σ : L2.St} {H : Hp} {s : Shared} {v : V} {u t c : Value} {b : Bool} {Q : Value → Shared → Prop} {A : Around} {E : Value → Shared → Prop} (I : Inv X pins σ H s) (r : RelV v u) (ty : TyA X.K H v t) (e : kitOne X.K t c = some b) (h : ∀ tk, Q (.bool b) { s with toks := tk }) :
    wpAny (model X.prog X.w) A (call (.builtin "isinstance") [u, c]) Q E s := by
  cases ty with
  | of ty => exact isinst_ok I r ty e h
  | @tup a vs hq =>
    obtain rfl : u = Value.ref a := r
    obtain ⟨its, _, p, _⟩ := I.tuple hq
    obtain ⟨o, h1, h2, _⟩ := p
    exact PySem.W.kia_one PySem.W.kitx_tuple I.kIn ⟨o, h1, h2⟩ e (fun z => nomatch z) h
  | @exc a C d fs ha hd k =>
    obtain rfl : u = Value.ref a := r
    exact isi_e I ha hd k e h
theorem call_isiA : CallR X (.builtin "isinstance") (fun xs H Q => ∃ v w t c b, xs = [v, w] ∧ TyA X.K H v t ∧ RelV w c ∧ (∀ c', RelV w c' → c' = c) ∧ kitOne X.K t c = some b ∧ Q (.bl b) H) := by
  intro pins s σ H xs us Q I r h
  obtain ⟨v, w, t, c, b, rfl, ty, rw, un, e, q⟩ := h
  obtain ⟨u, w', rfl, ru, rw'⟩ := vals2 r
  obtain rfl := un w' rw'
  exact isi_any I ru ty e fun tk => ⟨.bl b, H, I.tok _, rfl, q⟩
theorem clsP_ty {ρ : List Addr} {H : Hp} {st : Sto} {x : PV} {v : V} {T : String} (s : StR K mg ρ H st) (r : R K mg ρ H x v) (h : clsP st x = some (.inl T)) : TyA K H v (.type T) := by
  cases x with
  | non => cases h; cases r; exact .of .non
  | bl b => cases h; cases r; exact .of (.bl b)
  | int i => cases h; cases r; exact .of (.int i)
  | str z => cases h; cases r; exact .of (.str z)
  | tup xs => cases h; obtain ⟨a, vs, rfl, h1, _⟩ := r; exact .tup h1
  | frl xs => cases h
  | ref n =>
    obtain ⟨a, rfl, ha⟩ := r
    have h : soCls st[n]? = some (.inl T) := h
    cases e : st[n]? with
    | none => rw [e] at h; cases h
    | some so =>
      rw [e] at h
      cases so with
      | lst xs => cases h; obtain ⟨vs, h1, _⟩ := s.addr e ha; exact .of (.lst h1)
      | dic ks xs => cases h; obtain ⟨vs, h1, _⟩ := s.addr e ha; exact .of (.dK h1)
      | ins c ks xs => cases h
  | ty _ => cases h
  | fn _ => cases h
  | kd _ _ => cases h
  | exo _ _ _ => cases h
theorem clsP_own {ρ : List Addr} {H : Hp} {st : Sto} {x : PV} {v : V} {f : Bool} {c : Str} (hx : ∀ C, f = true → mg c = some (.ref C) → ExIs K C) (hi : ∀ C, f = false → mg c = some (.ref C) → InIs K C) (s : StR K mg ρ H st) (r : R K mg ρ H x v) (h : clsP st x = some (.inr (f, c))) : ∃ C, mg c = some (.ref C) ∧ TyA K H v (.ref C) := by
  cases x with
  | ref n =>
    obtain ⟨a, rfl, ha⟩ := r
    have h : soCls st[n]? = some (.inr (f, c)) := h
    cases e : st[n]? with
    | none => rw [e] at h; cases h
    | some so =>
      rw [e] at h
      cases so with
      | lst xs => cases h
      | dic ks xs => cases h
      | ins c' ks xs =>
        cases h
        obtain ⟨C, dx, vs, hC, hH, _⟩ := s.addr e ha
        have q := hi C rfl hC
        exact ⟨C, hC, .of (.ins hH q.cl q.ha q.hn q.tk q.hm)⟩
  | exo c' ks xs =>
    cases h
    obtain ⟨a, C, d, vs, rfl, hC, hH, hd, _⟩ := r
    exact ⟨C, hC, .exc hH hd (hx C rfl hC)⟩
  | non => cases h
  | bl _ => cases h
  | int _ => cases h
  | str _ => cases h
  | tup _ => cases h
  | frl _ => cases h
  | ty _ => cases h
  | fn _ => cases h
  | kd _ _ => cases h
theorem f_isi {t : IsT} (F : IsF X.K X.mg t) : BltOk X (.builtin "isinstance") (oIsi t) := ⟨_, call_isiA, fun ρ H st xs vs Q E s r h => by
  match xs, r, h with
  | [x, y], r, h =>
    obtain ⟨v, w, rfl, rx, ry⟩ := Rs.two r
    have h : Out X.K X.mg ρ H (isiA t st y (clsP st x) st) (gV X.K X.mg Q) E := h
    cases hc : clsP st x with
    | none => rw [hc] at h; cases y <;> exact False.elim h
    | some cc =>
      rw [hc] at h
      cases cc with
      | inl T =>
        cases y with
        | ty n =>
          cases ry
          obtain ⟨b, hb, h⟩ := optB_inv h
          exact ⟨v, _, _, _, b, rfl, clsP_ty s rx hc, rfl, fun c' h => h, tyb_kit X.K hb, h.now s _ rfl⟩
        | fn B =>
          obtain ⟨D, rfl, hD⟩ := ry
          obtain ⟨b, hb, h⟩ := optB_inv h
          obtain ⟨D', hD', k⟩ := F.u T B b hb
          rw [hD] at hD'
          cases hD'
          exact ⟨v, _, _, _, b, rfl, clsP_ty s rx hc, rfl, fun c' h => h, k, h.now s _ rfl⟩
        | _ => exact False.elim h
      | inr fc =>
        obtain ⟨f, c⟩ := fc
        cases y with
        | ty n =>
          cases ry
          obtain ⟨hf, h⟩ := Out.ifp h
          obtain ⟨b, hb, h⟩ := optB_inv h
          obtain ⟨C, hC, k⟩ := F.tt c n b hb
          obtain ⟨C', hC', ty⟩ := clsP_own (fun C e hC => F.x c C (hf.trans e) hC (.inr ⟨n, b, hb⟩)) (fun C e hC => F.i c C (hf.trans e) hC (.inr ⟨n, b, hb⟩)) s rx hc
          rw [hC] at hC'
          cases hC'
          exact ⟨v, _, _, _, b, rfl, ty, rfl, fun c' h => h, k, h.now s _ rfl⟩
        | fn B =>
          obtain ⟨D, rfl, hD⟩ := ry
          obtain ⟨hf, h⟩ := Out.ifp h
          obtain ⟨b, hb, h⟩ := optB_inv h
          obtain ⟨C, D', hC, hD', k⟩ := F.s c B b hb
          rw [hD] at hD'
          cases hD'
          obtain ⟨C', hC', ty⟩ := clsP_own (fun C e hC => F.x c C (hf.trans e) hC (.inl ⟨B, b, hb⟩)) (fun C e hC => F.i c C (hf.trans e) hC (.inl ⟨B, b, hb⟩)) s rx hc
          rw [hC] at hC'
          cases hC'
          exact ⟨v, _, _, _, b, rfl, ty, rfl, fun c' h => h, k, h.now s _ rfl⟩
        | _ => exact False.elim h
  | [], r, h => exact False.elim h
  | [_], r, h => exact False.elim h
  | _ :: _ :: _ :: _, r, h => exact False.elim h⟩
end
end Mi

set_option Elab.async false
set_option linter.all false
set_option maxRecDepth 100000
set_option maxHeartbeats 4000000
/-! the mirror: statements, loops -/
namespace Mi
open PySem L2 PySem.W PySem.Spec
section
variable {X : Cx} {Er : XK} {K : Frag} {mg : Str → Option Value} {a b c e o : Expr} {es : List Expr} {st : Stmt} {sts : List Stmt} {pos p apos pos' : Pos} {fa fb fc fo : PEnv → Mo PV} {fs : PEnv → Mo (List PV)} {k : Nat} {x : Str} {m : List PV → Mo PV}
variable {g g' gb : PEnv → Mo Fl} {ga : PEnv → Mo Bool}
theorem Out.fl {ρ : List Addr} {H : Hp} {st : Sto} {D : Ends} {fl : Fl} {E : XK} (h : Out K mg ρ H (.ok fl st) (gS K mg D) E) (s : StR K mg ρ H st) : gS K mg D ρ H fl st := h.now s
def sNext : PEnv → Mo Fl := fun env st => .ok (.nx env) st
def flowOn (g : PEnv → Mo Fl) : Fl → Mo Fl
  | .nx env, st => g env st
  | fl, st => .ok fl st
def sSeq (g g' : PEnv → Mo Fl) : PEnv → Mo Fl := fun env st => (g env st).bind (flowOn g')
theorem mss_nil : MSs X Er [] sNext := PSs.weak pss_nil fun D σ H ⟨env, st, ρ, re, rs, h⟩ => h.now rs σ re
theorem mss_cons (h1 : MS X Er st g) (h2 : MSs X Er sts g') : MSs X Er (st :: sts) (sSeq g g') :=
  PSs.weak (pss_cons h1 h2) fun D σ H ⟨env, st, ρ, re, rs, h⟩ => ⟨env, st, ρ, re, rs, h.then fun ρ1 H1 fl st1 e1 s1 h1 => by
    cases fl with
    | nx env1 => exact fun σ1 re1 => ⟨env1, st1, ρ1, re1, s1, h1⟩
    | rt v => exact Out.fl (D := D) (fl := .rt v) (E := Er) h1 s1
    | bk env1 => exact Out.fl (D := D) (fl := .bk env1) (E := Er) h1 s1
    | ct env1 => exact Out.fl (D := D) (fl := .ct env1) (E := Er) h1 s1⟩
theorem mss_one (h1 : MS X Er st g) : MSs X Er [st] g := pss_one h1
def sSet (i : Nat) (f : PEnv → Mo PV) : PEnv → Mo Fl := fun env st => (f env st).bind fun x st1 => .ok (.nx (env.set i (some x))) st1
theorem ms_set (i : Nat) {x : Str} (he : ME X Er e fa) (hN : X.N.Nodup) (hi : X.N[i]? = some x := by rfl) (hx : Loc X.env.scope x := by first | exact Or.inl rfl | exact Or.inr rfl) (hs : swapsWith e (some (.Name x pos')) pos.line X.env = pure false := by rfl)
    (hf : X.fn x = true ∨ X.env.scope.names.lookup x = some .local := by first | exact .inl rfl | exact .inr rfl | assumption) : MS X Er (.Assign [.Name x pos'] e pos) (sSet i fa) :=
  PS.weak (ps_set hN hi hx he hs hf) fun D σ H ⟨env, st, ρ, re, rs, h⟩ => ⟨env, st, ρ, re, rs, h.then fun ρ1 H1 x st1 e1 s1 h1 v rv => h1.now s1 _ ((re.ext e1).set i rv)⟩
def sExpr (f : PEnv → Mo PV) : PEnv → Mo Fl := fun env st => (f env st).bind fun _ st1 => .ok (.nx env) st1
theorem ms_expr (he : ME X Er e fa) (hs : swapsWith e none pos.line X.env = pure false := by rfl) : MS X Er (.Expr e pos) (sExpr fa) :=
  PS.weak (ps_expr he hs) fun D σ H ⟨env, st, ρ, re, rs, h⟩ => ⟨env, st, ρ, re, rs, h.then fun ρ1 H1 x st1 e1 s1 h1 v rv => h1.now s1 _ (re.ext e1)⟩
def sRet (f : PEnv → Mo PV) : PEnv → Mo Fl := fun env st => (f env st).bind fun x st1 => .ok (.rt x) st1
theorem ms_ret (he : ME X Er e fa) : MS X Er (.Return (some e) pos) (sRet fa) :=
  PS.weak (ps_ret he) fun D σ H ⟨env, st, ρ, re, rs, h⟩ => ⟨env, st, ρ, re, rs, h.then fun ρ1 H1 x st1 e1 s1 h1 v rv => h1.now s1 _ rv⟩
def sIf (t : PEnv → Mo Bool) (g g' : PEnv → Mo Fl) : PEnv → Mo Fl := fun env st => (t env st).bind fun c st1 => if c = true then g env st1 else g' env st1
theorem ms_if {A B : List Stmt} (hc : MT X Er c ga) (ha : MSs X Er A g) (hb : MSs X Er B g') : MS X Er (.If c A B pos) (sIf ga g g') :=
  PS.weak (ps_if hc ha hb) fun D σ H ⟨env, st, ρ, re, rs, h⟩ => ⟨env, st, ρ, re, rs, h.then fun ρ1 H1 k st1 e1 s1 h1 => by
    cases k with
    | true => exact ⟨env, st1, ρ1, re.ext e1, s1, h1⟩
    | false => exact ⟨env, st1, ρ1, re.ext e1, s1, h1⟩⟩
/-! x op= e -/
def ipAdd : PV → PV → Mo PV
  | .int i, .int j, st => .ok (.int (i + j)) st
  | _, _, _ => .stuck
def sAug (i : Nat) (op : PV → PV → Mo PV) (f : PEnv → Mo PV) : PEnv → Mo Fl := fun env st => (mVar i env st).bind fun x st0 => (f env st0).bind fun y st1 => (op x y st1).bind fun z st2 => .ok (.nx (env.set i (some z))) st2
def IpOk (X : Cx) (o : Operator) (op : PV → PV → Mo PV) : Prop := ∃ r, PIp X o r ∧ OpM X.K X.mg r op
theorem ip_addM : IpOk X .Add ipAdd := ⟨_, ip_add, by
  intro ρ H st x y v w Q E s rx ry h
  cases x with
  | int i =>
    cases y with
    | int j => cases rx; cases ry; exact ⟨i, j, rfl, rfl, Out.now (x := PV.int (i + j)) h s _ rfl⟩
    | _ => exact False.elim h
  | _ => exact False.elim h⟩
theorem ms_aug (i : Nat) {x : Str} {o : Operator} {op : PV → PV → Mo PV} (ho : IpOk X o op) (he : ME X Er e fa) (hN : X.N.Nodup) (hi : X.N[i]? = some x := by rfl) (hx : Loc X.env.scope x := by first | exact Or.inl rfl | exact Or.inr rfl)
    (hf : X.fn x = true ∨ X.env.scope.names.lookup x = some .local := by first | exact .inl rfl | exact .inr rfl | assumption) : MS X Er (.AugAssign (.Name x pos') o e pos) (sAug i op fa) := by
  obtain ⟨r, h1, h2⟩ := ho
  refine PS.weak (ps_aug hN hi hx he h1 hf) fun D σ H ⟨env, st, ρ, re, rs, h⟩ => ?_
  unfold sAug mVar at h
  cases hx : env[i]? with
  | none => simp only [hx] at h; exact False.elim h
  | some q =>
    cases q with
    | none => simp only [hx] at h; exact False.elim h
    | some x0 =>
      simp only [hx] at h
      obtain ⟨v, hv, rv⟩ := re.at_ i x0 hx
      exact ⟨v, hv, env, st, ρ, re, rs, Out.then (f := fun y st1 => (op x0 y st1).bind fun z st2 => Res.ok (Fl.nx (env.set i (some z))) st2) (good := gS X.K X.mg D) h fun ρ1 H1 y st1 e1 s1 k1 w rw => h2 ρ1 H1 st1 x0 y v w _ Er s1 (R.ext e1 x0 rv) rw (k1.then fun ρ2 H2 z st2 e2 s2 k2 u ru => k2.now s2 _ (((re.ext e1).ext e2).set i ru))⟩
/-! o.f = e -/
def putK (f : Str) (x : PV) : List Str → List PV → List Str × List PV
  | k :: ks, y :: ys => if k = f then (k :: ks, x :: ys) else (k :: (putK f x ks ys).1, y :: (putK f x ks ys).2)
  | _, _ => ([f], [x])
def putAt (f : Str) (ins : Str → Bool) (x : PV) : PV → Mo Unit
  | .ref n, st => withI st n fun c ks xs => if ins c = true ∧ ks.length < 1000 then .ok () (st.set n (.ins c (putK f x ks xs).1 (putK f x ks xs).2)) else .stuck
  | _, _ => .stuck
def sFld (f : Str) (ins : Str → Bool) (fo fv : PEnv → Mo PV) : PEnv → Mo Fl := fun env st => (fv env st).bind fun x st1 => (fo env st1).bind fun o st2 => (putAt f ins x o st2).bind fun _ st3 => .ok (.nx env) st3
/-! targets -/
def MG (X : Cx) (Er : XK) (e : Expr) (g : PV → PEnv → Option PEnv) : Prop := PG X e fun v σ H Q => ∃ x env env' ρ, R X.K X.mg ρ H x v ∧ EnvR X.K X.mg ρ H env σ ∧ g x env = some env' ∧ ∀ σ', EnvR X.K X.mg ρ H env' σ' → Q σ' H
theorem PG.weak {t t' : TG} (h : PG X e t) (w : ∀ v σ H Q, t' v σ H Q → t v σ H Q) : PG X e t' := fun pins s σ H v u Q I r q => h pins s σ H v u Q I r (w v σ H Q q)
def gN (i : Nat) : PV → PEnv → Option PEnv := fun x env => some (env.set i (some x))
theorem mg_name (i : Nat) {x : Str} (hN : X.N.Nodup) (hi : X.N[i]? = some x := by rfl) (hx : Loc X.env.scope x := by first | exact Or.inl rfl | exact Or.inr rfl) (hf : X.fn x = true ∨ X.env.scope.names.lookup x = some .local := by first | exact .inl rfl | exact .inr rfl | assumption) : MG X Er (.Name x pos) (gN i) :=
  PG.weak (pg_name hN hi hx hf) fun v σ H Q ⟨x, env, env', ρ, rx, re, hg, q⟩ => by
    cases hg
    exact q _ (re.set i rx)
def g2 (i j : Nat) : PV → PEnv → Option PEnv
  | .tup [x, y], env => some ((env.set i (some x)).set j (some y))
  | _, _ => none
theorem g2_inv {i j : Nat} {x : PV} {env env' : PEnv} (h : g2 i j x env = some env') : ∃ y z, x = .tup [y, z] ∧ env' = (env.set i (some y)).set j (some z) := by
  unfold g2 at h
  split at h
  · cases h; exact ⟨_, _, rfl, rfl⟩
  · cases h
theorem mg_2 (i j : Nat) {x y : Str} {kt : Nat} {px py : Pos} (hc : X.calm = true) (hN : X.N.Nodup) (hi : X.N[i]? = some x := by rfl) (hj : X.N[j]? = some y := by rfl) (hx : Loc X.env.scope x := by first | exact Or.inl rfl | exact Or.inr rfl) (hy : Loc X.env.scope y := by first | exact Or.inl rfl | exact Or.inr rfl)
    (hf : X.fn x = true ∨ X.env.scope.names.lookup x = some .local := by first | exact .inl rfl | exact .inr rfl | assumption) (hf' : X.fn y = true ∨ X.env.scope.names.lookup y = some .local := by first | exact .inl rfl | exact .inr rfl | assumption) : MG X Er (.Tuple [.Name x px, .Name y py] kt pos) (g2 i j) :=
  PG.weak (pg_tup (n := 2) hc (pgs_cons (pg_name hN hi hx hf) (pgs_cons (pg_name hN hj hy hf') pgs_nil))) fun v σ H Q ⟨x, env, env', ρ, rx, re, hg, q⟩ => by
    obtain ⟨y, z, rfl, rfl⟩ := g2_inv hg
    obtain ⟨a, vs, rfl, h1, h2⟩ := rx
    obtain ⟨u, w, rfl, r1, r2⟩ := Rs.two h2
    exact ⟨a, _, rfl, h1, rfl, u, [w], rfl, w, [], rfl, rfl, q _ ((re.set i r1).set j r2)⟩
def g3 (i j k : Nat) : PV → PEnv → Option PEnv
  | .tup [x, y, z], env => some (((env.set i (some x)).set j (some y)).set k (some z))
  | _, _ => none
/-- target = e -/
def sTo (g : PV → PEnv → Option PEnv) (f : PEnv → Mo PV) : PEnv → Mo Fl := fun env st => (f env st).bind fun x st1 => match g x env with
  | some env' => .ok (.nx env') st1
  | none => .stuck
theorem ms_to {tg : Expr} {gt : PV → PEnv → Option PEnv} (hg : MG X Er tg gt) (he : ME X Er e fa) (hs : swapsWithSole [tg] e pos.line X.env = pure false := by rfl) (hw : swappedStores [tg] e X.env = pure none := by rfl)
    (h1 : (assignEach [tg] X.env).map (·.2) = [assign tg X.env] := by rfl) : MS X Er (.Assign [tg] e pos) (sTo gt fa) :=
  PS.weak (ps_asg he hg hs hw h1) fun D σ H ⟨env, st, ρ, re, rs, h⟩ => ⟨env, st, ρ, re, rs, h.then fun ρ1 H1 x st1 e1 s1 h1 v rv => by
    cases hx : gt x env with
    | none => simp only [hx] at h1; exact False.elim h1
    | some env' =>
      simp only [hx] at h1
      exact ⟨x, env, env', ρ1, rv, re.ext e1, hx, fun σ' r' => Out.now (x := Fl.nx env') h1 s1 σ' r'⟩⟩
/-! what a loop walks -/
inductive Sq where
  | im (xs : List PV) | rf (n : Nat)
/-- an iterator over what stays as it is; over a list of the store -/
def Walk (K : Frag) (mg : Str → Option Value) (J : It) (ρ : List Addr) (H : Hp) : Sq → Prop
  | .im xs => (∀ i ρ' H', Ext ρ H ρ' H' → i < xs.length → J.go i H') ∧ (∀ i ρ' H', Ext ρ H ρ' H' → xs.length ≤ i → J.stop i H') ∧
    ∀ i ρ' H' st v H2, Ext ρ H ρ' H' → StR K mg ρ' H' st → i < xs.length → J.yld i H' v H2 → ∃ x, xs[i]? = some x ∧ Ext ρ' H' ρ' H2 ∧ StR K mg ρ' H2 st ∧ R K mg ρ' H2 x v
  | .rf n => ∃ a, ρ[n]? = some a ∧ J = Itl K a
def MI (X : Cx) (Er : XK) (tg iter : Expr) (src : PEnv → Mo Sq) : Prop := PI X tg iter fun σ H R => ∃ env st ρ, EnvR X.K X.mg ρ H env σ ∧ StR X.K X.mg ρ H st ∧ Out X.K X.mg ρ H (src env st) (fun ρ' H' q st' => ∀ J, Walk X.K X.mg J ρ' H' q → R J H') Er
def forL (g : PV → PEnv → Option PEnv) (body : PEnv → Mo Fl) : List PV → PEnv → Mo Fl
  | [], env, st => .ok (.nx env) st
  | x :: xs, env, st => match g x env with
    | none => .stuck
    | some env1 => (body env1 st).bind fun fl st2 => match fl with
      | .nx e => forL g body xs e st2
      | .ct e => forL g body xs e st2
      | .bk e => .ok (.nx e) st2
      | .rt v => .ok (.rt v) st2
def forR (g : PV → PEnv → Option PEnv) (body : PEnv → Mo Fl) (n : Nat) : Nat → Nat → PEnv → Mo Fl
  | 0, _, _, _ => .stuck
  | m + 1, i, env, st => withL st n fun xs => match xs[i]? with
    | none => .ok (.nx env) st
    | some x => match g x env with
      | none => .stuck
      | some env1 => (body env1 st).bind fun fl st2 => match fl with
        | .nx e => forR g body n m (i + 1) e st2
        | .ct e => forR g body n m (i + 1) e st2
        | .bk e => .ok (.nx e) st2
        | .rt v => .ok (.rt v) st2
def forS (g : PV → PEnv → Option PEnv) (body : PEnv → Mo Fl) : Sq → PEnv → Mo Fl
  | .im xs => forL g body xs
  | .rf n => forR g body n (lim + 1) 0
def sFor (src : PEnv → Mo Sq) (g : PV → PEnv → Option PEnv) (body : PEnv → Mo Fl) : PEnv → Mo Fl := fun env st => (src env st).bind fun q st1 => forS g body q env st1
theorem ms_for {tg iter : Expr} {src : PEnv → Mo Sq} {gt : PV → PEnv → Option PEnv} (hp : PassesOwn (model X.prog X.w) X.A X.env X.xe) (hc : X.calm = true) (hi : MI X Er tg iter src) (hg : MG X Er tg gt) (hb : MSs X Er sts gb)
    (hs : ∀ x, foldedSetIterable iter X.env x = pure x := by intro _; rfl) : MS X Er (.For tg iter sts [] pos) (sFor src gt gb) :=
  PS.weak (ps_for hp hc hi hg hb hs) fun D σ H ⟨env, st, ρ, re, rs, h⟩ => ⟨env, st, ρ, re, rs, h.then fun ρ0 H0 q st0 e0 s0 h0 J wk => by
    cases q with
    | im xs =>
      obtain ⟨w1, w2, w3⟩ := wk
      refine ⟨fun i m σ H => m = xs.length - i ∧ i ≤ xs.length ∧ ∃ env st ρ, EnvR X.K X.mg ρ H env σ ∧ StR X.K X.mg ρ H st ∧ Ext ρ0 H0 ρ H ∧ Out X.K X.mg ρ H (forL gt gb (xs.drop i) env st) (gS X.K X.mg D) Er, ⟨xs.length, by simp, Nat.zero_le _, env, st0, ρ0, re.ext e0, s0, Ext.refl, h0⟩, ?_⟩
      rintro i m σ H ⟨rfl, hi, env, st, ρ, re, rs, ex, h⟩
      by_cases hlt : i < xs.length
      · refine .inr ⟨w1 i ρ H ex hlt, _, fun σ' H' p' => ⟨xs.length - (i + 1), by omega, rfl, hlt, p'⟩, fun v H' y => ?_⟩
        obtain ⟨x, hx, ex2, s2, rx⟩ := w3 i ρ H st v H' ex rs hlt y
        have hd : xs.drop i = x :: xs.drop (i + 1) := by
          rw [List.drop_eq_getElem_cons hlt]
          have := (List.getElem?_eq_some_iff.mp hx).2
          rw [this]
        rw [hd] at h
        cases hgx : gt x env with
        | none => simp only [forL, hgx] at h; exact False.elim h
        | some env1 =>
          simp only [forL, hgx] at h
          refine ⟨x, env, env1, ρ, rx, re.ext ex2, hgx, fun σ1 r1 => ⟨env1, st, ρ, r1, s2, Out.then (Out.ext h ex2) fun ρ3 H3 fl st3 e3 s3 h3 => ?_⟩⟩
          cases fl with
          | nx e => exact fun σ4 r4 => ⟨e, st3, ρ3, r4, s3, (ex.trans ex2).trans e3, h3⟩
          | ct e => exact fun σ4 r4 => ⟨e, st3, ρ3, r4, s3, (ex.trans ex2).trans e3, h3⟩
          | bk e => exact Out.fl (D := D) (fl := .nx e) (E := Er) h3 s3
          | rt v => exact Out.fl (D := D) (fl := .rt v) (E := Er) h3 s3
      · have e : i = xs.length := by omega
        subst e
        rw [List.drop_length] at h
        exact .inl ⟨w2 _ ρ H ex (Nat.le_refl _), Out.now (x := Fl.nx env) h rs σ re⟩
    | rf n =>
      obtain ⟨a, ha, rfl⟩ := wk
      refine ⟨fun i m σ H => ∃ env st ρ, EnvR X.K X.mg ρ H env σ ∧ StR X.K X.mg ρ H st ∧ ρ[n]? = some a ∧ Out X.K X.mg ρ H (forR gt gb n m i env st) (gS X.K X.mg D) Er, ⟨lim + 1, env, st0, ρ0, re.ext e0, s0, ha, h0⟩, ?_⟩
      rintro i m σ H ⟨env, st, ρ, re, rs, ha, h⟩
      cases m with
      | zero => exact False.elim h
      | succ m =>
        obtain ⟨xs, hn, h⟩ := withL_inv h
        obtain ⟨vs, hH, hR⟩ := rs.addr hn ha
        cases hx : xs[i]? with
        | none =>
          simp only [hx] at h
          have : vs.length ≤ i := by rw [← hR.len]; exact List.getElem?_eq_none_iff.mp hx
          exact .inl ⟨⟨vs, SqL.of hH, this⟩, Out.now (x := Fl.nx env) h rs σ re⟩
        | some x =>
          simp only [hx] at h
          obtain ⟨v, hv, rv⟩ := hR.get hx
          refine .inr ⟨⟨vs, v, SqL.of hH, hv⟩, _, fun σ' H' p' => ⟨m, Nat.lt_succ_self m, p'⟩, fun v' H' y => ?_⟩
          obtain ⟨e1, y⟩ := y
          subst e1
          have e2 := y vs (SqL.of hH)
          rw [hv] at e2
          cases e2
          cases hgx : gt x env with
          | none => simp only [hgx] at h; exact False.elim h
          | some env1 =>
            simp only [hgx] at h
            refine ⟨x, env, env1, ρ, rv, re, hgx, fun σ1 r1 => ⟨env1, st, ρ, r1, rs, Out.then h fun ρ3 H3 fl st3 e3 s3 h3 => ?_⟩⟩
            cases fl with
            | nx e => exact fun σ4 r4 => ⟨e, st3, ρ3, r4, s3, e3.get ha, h3⟩
            | ct e => exact fun σ4 r4 => ⟨e, st3, ρ3, r4, s3, e3.get ha, h3⟩
            | bk e => exact Out.fl (D := D) (fl := .nx e) (E := Er) h3 s3
            | rt v => exact Out.fl (D := D) (fl := .rt v) (E := Er) h3 s3⟩
end
end Mi

set_option Elab.async false
set_option linter.all false
set_option maxRecDepth 100000
set_option maxHeartbeats 4000000
/-! the mirror: what loops walk, while, raise, try, defs, the top's dicts, lists' methods -/
namespace Mi
open PySem L2 PySem.W PySem.Spec
section
variable {X : Cx} {Er : XK} {K : Frag} {mg : Str → Option Value} {a b c e o tg : Expr} {es : List Expr} {st : Stmt} {sts : List Stmt} {pos p apos pos' : Pos} {fa fb fc fo : PEnv → Mo PV} {fs : PEnv → Mo (List PV)} {k : Nat} {x : Str} {m : List PV → Mo PV}
variable {g g' gb : PEnv → Mo Fl} {ga : PEnv → Mo Bool}
theorem PI.weak {t t' : TI} (h : PI X tg e t) (w : ∀ σ H Q, t' σ H Q → t σ H Q) : PI X tg e t' := fun pins s σ H Q I q => h pins s σ H Q I (w σ H Q q)
def iSeq (K : Frag) (tl : TE) : TI := fun σ H R => tl σ H fun x H1 => (∃ a, x = .ref a ∧ (∃ xs, SqL K H1 a xs) ∧ R (Itl K a) H1) ∨ (∃ a, x = .ref a ∧ (∃ xs, SqT K H1 a xs) ∧ R (Itt K a) H1) ∨ ∃ z, x = .str z ∧ R (Its z) H1
theorem pi_seq {l : Expr} {tl : TE} (hl : PE X l tl) : PI X tg l (iSeq X.K tl) := by
  intro pins s σ H R I h
  refine thn (hl pins s σ H _ I h) fun v s1 ⟨x, H1, I1, r1, q1⟩ => ?_
  have fin : ∀ b ∈ [s1.heap.objs.size], FpOk X pins H1 b := fun b hb => by
    have e : b = s1.heap.objs.size := by simpa using hb
    subst e
    exact I1.fpOk (Nat.le_refl _) (I1.hok.fresh (Nat.le_refl _))
  rcases q1 with ⟨a, e, ⟨xs, hq⟩, q⟩ | ⟨a, e, ⟨xs, hq⟩, q⟩ | ⟨z, rfl, q⟩
  · subst e
    cases r1
    obtain ⟨its, rv, p, hz⟩ := I1.list hq
    exact wpAny_pyIter_list p.isList ⟨s1.heap.objs.size, [s1.heap.objs.size], _, _, H1, rfl, I1.kept (t' := s1.toks) (fun b o e => Heap.get?_push_of_some _ e), turn_list a _, ⟨_, Heap.get?_push_size _ rfl, rfl, rfl⟩, fin, q⟩
  · subst e
    cases r1
    obtain ⟨its, rv, p, hz⟩ := I1.tuple hq
    exact wpAny_pyIter_tuple (show s1.heap.IsTuple a its.toArray from p) ⟨s1.heap.objs.size, [s1.heap.objs.size], _, _, H1, rfl, I1.kept (t' := s1.toks) (fun b o e => Heap.get?_push_of_some _ e), turn_tuple a _, ⟨_, Heap.get?_push_size _ rfl, rfl, rfl⟩, fin, q⟩
  · obtain ⟨t, rfl⟩ := r1
    cases ha : z.cps.all (· < 128) with
    | false => exact wpAny_pyIter_wide ha ⟨s1.heap.objs.size, [s1.heap.objs.size], _, _, H1, rfl, I1.kept (t' := s1.toks) (fun b o e => Heap.get?_push_of_some _ e), turn_str z t _ "str_iterator" (.inr rfl), ⟨_, Heap.get?_push_size _ rfl, rfl, rfl⟩, fin, q⟩
    | true => exact wpAny_pyIter_ascii ha ⟨s1.heap.objs.size, [s1.heap.objs.size], _, _, H1, rfl, I1.kept (t' := s1.toks) (fun b o e => Heap.get?_push_of_some _ e), turn_str z t _ "str_ascii_iterator" (.inl rfl), ⟨_, Heap.get?_push_size _ rfl, rfl, rfl⟩, fin, q⟩
theorem walk_tup {ρ : List Addr} {H : Hp} {a : Addr} {xs : List PV} {vs : List V} (h : SqT K H a vs) (r : Rs K mg ρ H xs vs) : Walk K mg (Itt K a) ρ H (.im xs) := by
  refine ⟨fun i ρ' H' e hi => ?_, fun i ρ' H' e hi => ⟨vs, e.sqT h, by rw [← r.len]; exact hi⟩, fun i ρ' H' st v H2 e s hi y => ?_⟩
  · obtain ⟨v, hv, _⟩ := r.get (List.getElem?_eq_getElem hi)
    exact ⟨vs, v, e.sqT h, hv⟩
  · obtain ⟨e1, y⟩ := y
    subst e1
    obtain ⟨v', hv, rv⟩ := r.get (List.getElem?_eq_getElem hi)
    have := y vs (e.sqT h)
    rw [hv] at this
    cases this
    exact ⟨_, List.getElem?_eq_getElem hi, Ext.refl, s, R.ext e _ rv⟩
theorem walk_frl {ρ : List Addr} {H : Hp} {a : Addr} {xs : List PV} {vs : List V} (h : FrL K H a vs) (r : Rs K mg ρ H xs vs) : Walk K mg (Itl K a) ρ H (.im xs) := by
  have hs : ∀ {ρ' H'}, Ext ρ H ρ' H' → SqL K H' a vs := fun e => (e.frl h).sq
  refine ⟨fun i ρ' H' e hi => ?_, fun i ρ' H' e hi => ⟨vs, hs e, by rw [← r.len]; exact hi⟩, fun i ρ' H' st v H2 e s hi y => ?_⟩
  · obtain ⟨v, hv, _⟩ := r.get (List.getElem?_eq_getElem hi)
    exact ⟨vs, v, hs e, hv⟩
  · obtain ⟨e1, y⟩ := y
    subst e1
    obtain ⟨v', hv, rv⟩ := r.get (List.getElem?_eq_getElem hi)
    have := y vs (hs e)
    rw [hv] at this
    cases this
    exact ⟨_, List.getElem?_eq_getElem hi, Ext.refl, s, R.ext e _ rv⟩
def signs (z : Str) : List PV := z.cps.toList.map fun c => .str ⟨#[c]⟩
theorem walk_str {ρ : List Addr} {H : Hp} (z : Str) : Walk K mg (Its z) ρ H (.im (signs z)) := by
  have hl : (signs z).length = z.cps.size := by simp [signs]
  refine ⟨fun i ρ' H' e hi => by rw [hl] at hi; exact hi, fun i ρ' H' e hi => by rw [hl] at hi; exact hi, fun i ρ' H' st v H2 e s hi y => ?_⟩
  obtain ⟨e1, c, hc, e2⟩ := y
  subst e1 e2
  refine ⟨.str ⟨#[c]⟩, ?_, Ext.refl, s, rfl⟩
  simp [signs, hc]
def nums (lo : Int) (n : Nat) : List PV := (List.range n).map fun i => .int (lo + (i : Nat))
theorem walk_range {ρ : List Addr} {H : Hp} (lo : Int) (n : Nat) : Walk K mg (Itr lo n) ρ H (.im (nums lo n)) := by
  have hl : (nums lo n).length = n := by simp [nums]
  refine ⟨fun i ρ' H' e hi => by rw [hl] at hi; exact hi, fun i ρ' H' e hi => by rw [hl] at hi; exact hi, fun i ρ' H' st v H2 e s hi y => ?_⟩
  obtain ⟨e1, e2⟩ := y
  subst e1 e2
  rw [hl] at hi
  exact ⟨.int (lo + i), by simp [nums, hi], Ext.refl, s, rfl⟩
/-- over a value -/
def seqOf : PV → Mo Sq
  | .tup xs, st => .ok (.im xs) st
  | .frl xs, st => .ok (.im xs) st
  | .str z, st => .ok (.im (signs z)) st
  | .ref n, st => withL st n fun _ => .ok (.rf n) st
  | _, _ => .stuck
def iVal (f : PEnv → Mo PV) : PEnv → Mo Sq := fun env st => (f env st).bind seqOf
theorem mi_val (h : ME X Er e fa) : MI X Er tg e (iVal fa) := PI.weak (pi_seq h) fun σ H Q ⟨env, st, ρ, re, rs, h⟩ => ⟨env, st, ρ, re, rs, h.then fun ρ1 H1 x st1 e1 s1 h1 v rv => by
  cases x with
  | tup xs =>
    obtain ⟨a, vs, rfl, k1, k2⟩ := rv
    exact .inr (.inl ⟨a, rfl, ⟨vs, k1⟩, Out.now (x := Sq.im xs) h1 s1 _ (walk_tup k1 k2)⟩)
  | frl xs =>
    obtain ⟨a, vs, rfl, k1, k2⟩ := rv
    exact .inl ⟨a, rfl, ⟨vs, k1.sq⟩, Out.now (x := Sq.im xs) h1 s1 _ (walk_frl k1 k2)⟩
  | str z =>
    cases rv
    exact .inr (.inr ⟨z, rfl, Out.now (x := Sq.im (signs z)) h1 s1 _ (walk_str z)⟩)
  | ref n =>
    obtain ⟨a, rfl, ha⟩ := rv
    obtain ⟨xs, hn, h1⟩ := withL_inv h1
    obtain ⟨vs, k1, k2⟩ := s1.addr hn ha
    exact .inl ⟨a, rfl, ⟨vs, SqL.of k1⟩, h1.now s1 _ ⟨a, ha, rfl⟩⟩
  | _ => exact False.elim h1⟩
abbrev cR (j : Int) : Bool := decide (-(2 ^ 62) ≤ j) && decide (j < 2 ^ 62)
def rng1 : List PV → Mo Sq
  | [.int j], st => if cR j = true then .ok (.im (nums 0 j.toNat)) st else .stuck
  | _, _ => .stuck
def rng2 : List PV → Mo Sq
  | [.int i, .int j], st => if cR i = true ∧ cR j = true then .ok (.im (nums i (j - i).toNat)) st else .stuck
  | _, _ => .stuck
theorem rng1_inv {ρ : List Addr} {H : Hp} {xs : List PV} {st : Sto} {good : List Addr → Hp → Sq → Sto → Prop} (h : Out K mg ρ H (rng1 xs st) good Er) : ∃ j, xs = [.int j] ∧ -(2 ^ 62) ≤ j ∧ j < 2 ^ 62 ∧ Out K mg ρ H (.ok (.im (nums 0 j.toNat)) st) good Er := by
  unfold rng1 at h
  split at h
  · obtain ⟨c, h⟩ := Out.ifp h
    simp [cR] at c
    exact ⟨_, rfl, c.1, c.2, h⟩
  · exact False.elim h
def iRng1 (fs : PEnv → Mo (List PV)) : PEnv → Mo Sq := fun env st => (fs env st).bind rng1
def iRng2 (fs : PEnv → Mo (List PV)) : PEnv → Mo Sq := fun env st => (fs env st).bind rng2
theorem mi_range1 {a : Expr} (hm : X.mg "range" = none) (ha : MA X Er [a] fs) (hg : Gl X "range" := by rfl) (hs : starEach [a] X.env = [(false, eval a X.env)] := by rfl) : MI X Er tg (.Call (.Name "range" p) [a] [] pos) (iRng1 fs) :=
  PI.weak (pi_range1 hg hm ha hs) fun σ H Q ⟨env, st, ρ, re, rs, h⟩ => ⟨env, st, ρ, re, rs, h.then fun ρ1 H1 xs st1 e1 s1 h1 vs rv => by
    obtain ⟨j, rfl, c1, c2, h1⟩ := rng1_inv h1
    obtain ⟨v, rfl, rfl⟩ := Rs.one rv
    exact ⟨j, rfl, c1, c2, h1.now s1 _ (walk_range 0 j.toNat)⟩⟩
/-- zip of two rows -/
def zipP (xs ys : List PV) : List PV := (xs.zip ys).map fun q => .tup [q.1, q.2]
def zip2 : List PV → Mo Sq
  | [.tup xs, .tup ys], st => .ok (.im (zipP xs ys)) st
  | _, _ => .stuck
def iZip2 (fs : PEnv → Mo (List PV)) : PEnv → Mo Sq := fun env st => (fs env st).bind zip2
/-! while -/
def whileF (t : PEnv → Mo Bool) (b : PEnv → Mo Fl) : Nat → PEnv → Mo Fl
  | 0, _, _ => .stuck
  | n + 1, env, st => (t env st).bind fun c st1 => if c = true then (b env st1).bind fun fl st2 => match fl with
      | .nx e => whileF t b n e st2
      | .ct e => whileF t b n e st2
      | .bk e => .ok (.nx e) st2
      | .rt v => .ok (.rt v) st2
    else .ok (.nx env) st1
def sWhile (t : PEnv → Mo Bool) (b : PEnv → Mo Fl) : PEnv → Mo Fl := whileF t b lim
theorem ms_while (hp : PassesOwn (model X.prog X.w) X.A X.env X.xe) (hc : MT X Er c ga) (hb : MSs X Er sts gb) : MS X Er (.While c sts [] pos) (sWhile ga gb) :=
  PS.weak (ps_while hp hc hb) fun D σ H ⟨env, st, ρ, re, rs, h⟩ => by
    refine ⟨fun m σ H => ∃ env st ρ, EnvR X.K X.mg ρ H env σ ∧ StR X.K X.mg ρ H st ∧ Out X.K X.mg ρ H (whileF ga gb m env st) (gS X.K X.mg D) Er, ⟨lim, env, st, ρ, re, rs, h⟩, ?_⟩
    rintro m σ H ⟨env, st, ρ, re, rs, h⟩
    cases m with
    | zero => exact False.elim h
    | succ m =>
      refine ⟨env, st, ρ, re, rs, Out.then h fun ρ1 H1 k st1 e1 s1 h1 => ?_⟩
      cases k with
      | true =>
        change (if true = true then _ else D.nx σ H1)
        rw [if_pos rfl]
        refine ⟨_, fun σ' H' p' => ⟨m, Nat.lt_succ_self m, p'⟩, env, st1, ρ1, re.ext e1, s1, Out.then h1 fun ρ3 H3 fl st3 e3 s3 h3 => ?_⟩
        cases fl with
        | nx e => exact fun σ4 r4 => ⟨e, st3, ρ3, r4, s3, h3⟩
        | ct e => exact fun σ4 r4 => ⟨e, st3, ρ3, r4, s3, h3⟩
        | bk e => exact Out.fl (D := D) (fl := .nx e) (E := Er) h3 s3
        | rt v => exact Out.fl (D := D) (fl := .rt v) (E := Er) h3 s3
      | false =>
        have z : D.nx σ H1 := Out.fl (D := D) (fl := .nx env) (E := Er) h1 s1 σ (re.ext e1)
        exact z
/-! raise -/
def sRaise (cn fld : Str) (f : PEnv → Mo PV) : PEnv → Mo Fl := fun env st => (f env st).bind fun x st1 => .err cn [fld] [x] st1
def sRaise0 (cn : Str) : PEnv → Mo Fl := fun _ st => .err cn [] [] st
/-! calls that may throw, within try -/
def noErr {α : Type} : Res α → Res α
  | .err _ _ _ _ => .stuck
  | r => r
theorem noErr_out {α β : Type} {ρ : List Addr} {H : Hp} {r : Res β} {f : β → Mo α} {good : List Addr → Hp → α → Sto → Prop} {good' : List Addr → Hp → β → Sto → Prop} {E E' : XK} (h : Out K mg ρ H ((noErr r).bind f) good E) (g : ∀ ρ' H' x st, Ext ρ H ρ' H' → StR K mg ρ' H' st → Out K mg ρ' H' (f x st) good E → good' ρ' H' x st) : Out K mg ρ H r good' E' := by
  cases r with
  | ok x st => exact fun ρ' H' e s => g ρ' H' x st e s (Out.ext h e)
  | err => exact False.elim h
  | stuck => exact False.elim h
theorem PX.weak {t t' : TX} (h : PX X e t) (w : ∀ σ H Q E, t' σ H Q E → t σ H Q E) : PX X e t' := fun pins s σ H Q E I q => h pins s σ H Q E I (w σ H Q E q)
def xMeth (name : Str) (tab : Str → Option (List PV → Mo PV)) (fo : PEnv → Mo PV) (fs : PEnv → Mo (List PV)) : PEnv → Mo PV := fun env st => (noErr (fo env st)).bind fun o st1 => methAt name tab o st1 fun n m => (noErr (fs env st1)).bind fun ys st2 => m (.ref n :: ys) st2
/-- try: x = value, except C as n: suite (the suite goes on behind) -/
def trySuite (j : Nat) : Fl → Mo Fl
  | .nx e, st => .ok (.nx (e.set j none)) st
  | _, _ => .stuck
def sTry (i j : Nat) (cn : Str) (fv : PEnv → Mo PV) (suite : PEnv → Mo Fl) : PEnv → Mo Fl := fun env st => match fv env st with
  | .ok x st1 => .ok (.nx (env.set i (some x))) st1
  | .err c ks xs st1 => if c = cn ∧ ks ≠ [] then (noErr (suite (env.set j (some (.exo c ks xs))) st1)).bind (trySuite j) else .stuck
  | .stuck => .stuck
/-! a dict of the top, by texts -/
def kdAt (ks : List Str) (ps : List PV) : PV → Mo PV
  | .str z, st => optR ((ks.zip ps).lookup z) st
  | _, _ => .stuck
/-! xs.append(e), xs.extend(e) -/
def oAppend : PV → PV → Mo PV
  | .ref n, y, st => withL st n fun xs => if xs.length < lim then .ok .non (st.set n (.lst (xs ++ [y]))) else .stuck
  | _, _, _ => .stuck
def oExtend : PV → PV → Mo PV
  | .ref n, .ref k, st => withL st n fun xs => withL st k fun ys => if xs.length + ys.length ≤ lim then .ok .non (st.set n (.lst (xs ++ ys))) else .stuck
  | _, _, _ => .stuck
theorem R.refL {ρ : List Addr} {H : Hp} {st : Sto} {n : Nat} {xs : List PV} {v : V} (s : StR K mg ρ H st) (r : R K mg ρ H (.ref n) v) (h : st[n]? = some (.lst xs)) : ∃ a vs, v = .ref a ∧ ρ[n]? = some a ∧ H a = some (.lst vs) ∧ Rs K mg ρ H xs vs := by
  obtain ⟨a, rfl, ha⟩ := r
  obtain ⟨vs, h1, h2⟩ := s.addr h ha
  exact ⟨a, vs, rfl, ha, h1, h2⟩
/-- the receiver must be seen as a list ahead of the arguments -/
def recL : PV → Mo PV
  | .ref n, st => withL st n fun _ => .ok (.ref n) st
  | _, _ => .stuck
def mMut (op : PV → PV → Mo PV) (fo fv : PEnv → Mo PV) : PEnv → Mo PV := fun env st => (fo env st).bind fun o st1 => (recL o st1).bind fun o st1 => (fv env st1).bind fun y st2 => op o y st2
theorem recL_inv {α : Type} {ρ : List Addr} {H : Hp} {x : PV} {st : Sto} {f : PV → Mo α} {good : List Addr → Hp → α → Sto → Prop} (h : Out K mg ρ H ((recL x st).bind f) good Er) : ∃ n xs, x = .ref n ∧ st[n]? = some (.lst xs) ∧ Out K mg ρ H (f (.ref n) st) good Er := by
  cases x with
  | ref n =>
    unfold recL withL at h
    cases hn : st[n]? with
    | none => simp only [hn] at h; exact False.elim h
    | some so =>
      cases so with
      | lst xs => simp only [hn] at h; exact ⟨n, xs, rfl, hn, h⟩
      | _ => simp only [hn] at h; exact False.elim h
  | _ => exact False.elim h
theorem m_append {cpos : Pos} (ho : ME X Er o fo) (he : ME X Er e fa) (hbase : attributeBase o "append" X.env (eval o X.env) = eval o X.env := by rfl)
    (hfew : ((backTo cpos (starEach [e] X.env)).all (fun x => !x.1) && (backToKw cpos (keywordEach [] X.env)).all (fun x => x.1.isSome) && decide ([e].length + ([] : List Keyword).length + (if ([] : List Keyword).isEmpty then 0 else 1) < 30)) = true := by rfl)
    (hline : (apos.endLine == cpos.line) = true := by rfl) (hs : starEach [e] X.env = (false, eval e X.env) :: starEach [] X.env := by rfl) (hpl : (backTo cpos (starEach [] X.env)).any (·.1) = false := by rfl) : ME X Er (.Call (.Attribute o "append" apos) [e] [] cpos) (mMut oAppend fo fa) :=
  PE.weak (pe_bm PySem.F.plainAttrs_list PySem.F.slot_list_append PySem.F.type_list_append mt_append ho (pa_cons he pa_nil hs) hbase hfew hline hs hpl) fun σ H Q ⟨env, st, ρ, re, rs, h⟩ => ⟨env, st, ρ, re, rs, h.then fun ρ1 H1 x st1 e1 s1 h1 v rv => by
    obtain ⟨n, xs, rfl, hn, h1⟩ := recL_inv h1
    obtain ⟨p, vs, rfl, hp, k1, k2⟩ := R.refL s1 rv hn
    refine ⟨.inl ⟨rfl, vs, SqL.of k1⟩, env, st1, ρ1, re.ext e1, s1, h1.then fun ρ2 H2 y st2 e2 s2 h2 w rw => ?_⟩
    obtain ⟨xs2, hn2, h2⟩ := withL_inv h2
    obtain ⟨c, h2⟩ := Out.ifp h2
    obtain ⟨p', vs2, e3, hp2, k3, k4⟩ := R.refL s2 (R.ext e2 _ rv) hn2
    cases e3
    have ew : Ext ρ2 H2 ρ2 (upd H2 p (.lst (vs2 ++ [w]))) := Ext.write k3 rfl
    refine ⟨p, vs2, w, rfl, rfl, k3, ?_, h2 ρ2 _ ew (s2.write hp2 ⟨vs2 ++ [w], upd_same, Rs.ext ew _ (k4.append ⟨w, [], rfl, rw, rfl⟩)⟩) _ rfl⟩
    rw [← k4.len, sizeLine_eq]; have : xs2.length < 1000000 := c; omega⟩
theorem m_extend {cpos : Pos} (ho : ME X Er o fo) (he : ME X Er e fa) (hbase : attributeBase o "extend" X.env (eval o X.env) = eval o X.env := by rfl)
    (hfew : ((backTo cpos (starEach [e] X.env)).all (fun x => !x.1) && (backToKw cpos (keywordEach [] X.env)).all (fun x => x.1.isSome) && decide ([e].length + ([] : List Keyword).length + (if ([] : List Keyword).isEmpty then 0 else 1) < 30)) = true := by rfl)
    (hline : (apos.endLine == cpos.line) = true := by rfl) (hs : starEach [e] X.env = (false, eval e X.env) :: starEach [] X.env := by rfl) (hpl : (backTo cpos (starEach [] X.env)).any (·.1) = false := by rfl) : ME X Er (.Call (.Attribute o "extend" apos) [e] [] cpos) (mMut oExtend fo fa) :=
  PE.weak (pe_bm PySem.F.plainAttrs_list PySem.F.slot_list_extend PySem.F.type_list_extend mt_extend ho (pa_cons he pa_nil hs) hbase hfew hline hs hpl) fun σ H Q ⟨env, st, ρ, re, rs, h⟩ => ⟨env, st, ρ, re, rs, h.then fun ρ1 H1 x st1 e1 s1 h1 v rv => by
    obtain ⟨n, xs, rfl, hn, h1⟩ := recL_inv h1
    obtain ⟨p, vs, rfl, hp, k1, k2⟩ := R.refL s1 rv hn
    refine ⟨.inl ⟨rfl, vs, SqL.of k1⟩, env, st1, ρ1, re.ext e1, s1, h1.then fun ρ2 H2 y st2 e2 s2 h2 w rw => ?_⟩
    cases y with
    | ref m =>
      obtain ⟨xs2, hn2, h2⟩ := withL_inv h2
      obtain ⟨ys2, hm2, h2⟩ := withL_inv h2
      obtain ⟨c, h2⟩ := Out.ifp h2
      obtain ⟨p', vs2, e3, hp2, k3, k4⟩ := R.refL s2 (R.ext e2 _ rv) hn2
      cases e3
      obtain ⟨q, ws2, rfl, hq2, k5, k6⟩ := R.refL s2 rw hm2
      have ew : Ext ρ2 H2 ρ2 (upd H2 p (.lst (vs2 ++ ws2))) := Ext.write k3 rfl
      exact ⟨p, q, vs2, ws2, rfl, rfl, k3, k5, by rw [← k4.len, ← k6.len]; exact lim_line c, h2 ρ2 _ ew (s2.write hp2 ⟨vs2 ++ ws2, upd_same, Rs.ext ew _ (k4.append k6)⟩) _ rfl⟩
    | _ => exact False.elim h2⟩
end
/-! a def -/
def endOf : Fl → Mo PV
  | .rt v, st => .ok v st
  | .nx _, st => .ok .non st
  | _, _ => .stuck
def mirror (np nN : Nat) (g : PEnv → Mo Fl) : List PV → Mo PV := fun xs st => if xs.length = np then (g (xs.map some ++ List.replicate (nN - np) none) st).bind endOf else .stuck
section
variable {P : Program} {w : World} {K : Frag} {mg : Str → Option Value} {base : Heap}
abbrev cxD (P : Program) (w : World) (K : Frag) (mg : Str → Option Value) (base : Heap) (N : List Str) (qual : Str) (scope : Scope) (f : Addr) (cd : Value) (A : Around) (outer : List Env) (s : Shared) (H : Hp) (E : XK) : Cx :=
  (cxOf (CXe P w) P w K mg base N qual scope f cd A outer s H E).wish (XA (cxOf (CXe P w) P w K mg base N qual scope f cd A outer s H E) E)
theorem start_R {N : List Str} {np : Nat} {ρ : List Addr} {H : Hp} {xs : List PV} {vs : List V} (r : Rs K mg ρ H xs vs) (h : xs.length = np) : EnvR K mg ρ H (xs.map some ++ List.replicate (N.length - np) none) (L2.start N vs) := by
  have hl := r.len
  refine ⟨by simp [L2.start, ← hl, h], fun i x hx => ?_⟩
  by_cases hi : i < xs.length
  · rw [List.getElem?_append_left (by simpa using hi)] at hx
    simp only [List.getElem?_map] at hx
    cases hq : xs[i]? with
    | none => rw [hq] at hx; cases hx
    | some y =>
      rw [hq] at hx
      cases hx
      obtain ⟨v, hv, rv⟩ := r.get hq
      refine ⟨v, ?_, rv⟩
      unfold L2.start
      rw [List.getElem?_append_left (by simp; omega)]
      simp [hv]
  · rw [List.getElem?_append_right (by simpa using hi)] at hx
    rw [List.getElem?_replicate] at hx
    split at hx <;> cases hx
theorem def_ok {x qual : Str} {sm : Stmt} {f : Addr} {fd : FuncData} {N ps : List Str} {k : Nat} {g : PEnv → Mo Fl} (F : Fun K x qual sm f fd) (S : FnScope N ps (defScope sm))
    (hb : ∀ (cdv : Value) (A : Around) (outer : List Env) (s : Shared) (H : Hp) (E : XK), Room k (A.deeper (PyProof.Rows.envOfC qual (defScope sm) s.heap.objs.size f cdv)) → MSs (cxD P w K mg base N qual (defScope sm) f cdv A outer s H E) E (defBody sm) g) :
    FnOk P w K mg base (CXe P w) (k + 1) f fd ps (spM K mg (mirror ps.length N.length g)) := by
  refine F.okT S (fun vs H Q E h => ?_) fun cdv A outer s H vs Q E hr h => ⟨_, hb cdv A outer s H E hr, ?_⟩
  · obtain ⟨xs, st, ρ, r, _, h⟩ := h
    obtain ⟨hl, _⟩ := Out.ifp h
    rw [← r.len]; exact hl
  · obtain ⟨xs, st, ρ, r, rs, h⟩ := h
    obtain ⟨hl, h⟩ := Out.ifp h
    refine ⟨_, st, ρ, start_R r hl, rs, h.then fun ρ1 H1 fl st1 e1 s1 h1 => ?_⟩
    cases fl with
    | rt v => exact fun u ru => Out.now (x := v) h1 s1 u ru
    | nx e => exact fun σ' _ => Out.now (x := PV.non) h1 s1 _ rfl
    | _ => exact False.elim h1
theorem fok {x : Str} {f : Addr} {fd : FuncData} {ps : List Str} {k : Nat} {m : List PV → Mo PV} {sm : Stmt} {qual nm : Str} (hm : mg x = some (.ref f)) (F : Fun K nm qual sm f fd) (hb : Binds K fd ps []) (h : FnOk P w K mg base (CXe P w) k f fd ps (spM K mg m)) : FOk P w K mg base x k m := ⟨f, fd, ps, hm, F.kp, hb, h⟩
end
end Mi

set_option Elab.async false
set_option linter.all false
set_option maxRecDepth 100000
set_option maxHeartbeats 4000000
/-! the mirror: what a text must have -/
namespace Mi
open PySem L2 PySem.W PySem.Spec
section
variable {X : Cx} {Er : XK} {P : Program} {w : World} {K : Frag} {mg : Str → Option Value} {base : Heap} {pos : Pos} {x : Str} {st : Stmt}
theorem hu200 {k : Nat} {A : Around} (hr : Room k A) : A.units + 200 < cLine := by have := hr.un; omega
/-- a def, a method, a class's and an error's __init__ of the text -/
def FnF (K : Frag) (mg : Str → Option Value) (x : Str) (sm : Stmt) (ps : List Str) : Prop := ∃ f fd, mg x = some (.ref f) ∧ Fun K x x sm f fd ∧ Binds K fd ps []
def MtF (K : Frag) (mg : Str → Option Value) (c name qual : Str) (sm : Stmt) (ps : List Str) : Prop := ∃ C f fd, mg c = some (.ref C) ∧ Cls K C ∧ Meth K C name f ∧ Fun K name qual sm f fd ∧ Binds K fd ps []
def NwF (K : Frag) (mg : Str → Option Value) (c qual : Str) (sm : Stmt) (ps : List Str) : Prop := ∃ C f fd, mg c = some (.ref C) ∧ Mk K C f ∧ Fun K "__init__" qual sm f fd ∧ Binds K fd ps []
def XnF (K : Frag) (mg : Str → Option Value) (c fld qual : Str) (sm : Stmt) : Prop := ∃ C f fd, mg c = some (.ref C) ∧ ExMk K C f ∧ ExCls K C fld ∧ Fun K "__init__" qual sm f fd ∧ Binds K fd ["self", fld] []
theorem FnF.ok {sm : Stmt} {N ps : List Str} {k : Nat} {g : PEnv → Mo Fl} (h : FnF K mg x sm ps) (S : FnScope N ps (defScope sm))
    (hb : ∀ (f : Addr) (cdv : Value) (A : Around) (outer : List Env) (s : Shared) (H : Hp) (E : XK), Room k (A.deeper (PyProof.Rows.envOfC x (defScope sm) s.heap.objs.size f cdv)) → MSs (cxD P w K mg base N x (defScope sm) f cdv A outer s H E) E (defBody sm) g) :
    FOk P w K mg base x (k + 1) (mirror ps.length N.length g) := by
  obtain ⟨f, fd, hm, F, b⟩ := h
  exact fok hm F b (def_ok F S (hb f))
theorem MtF.ok {c name qual : Str} {sm : Stmt} {N ps : List Str} {k : Nat} {g : PEnv → Mo Fl} (h : MtF K mg c name qual sm ps) (S : FnScope N ps (defScope sm))
    (hb : ∀ (f : Addr) (cdv : Value) (A : Around) (outer : List Env) (s : Shared) (H : Hp) (E : XK), Room k (A.deeper (PyProof.Rows.envOfC qual (defScope sm) s.heap.objs.size f cdv)) → MSs (cxD P w K mg base N qual (defScope sm) f cdv A outer s H E) E (defBody sm) g) :
    MOk P w K mg base c name (k + 1) (mirror ps.length N.length g) := by
  obtain ⟨C, f, fd, hm, cl, mt, F, b⟩ := h
  exact ⟨C, f, fd, ps, hm, cl, mt, b, def_ok F S (hb f)⟩
theorem NwF.ok {c qual : Str} {sm : Stmt} {N ps : List Str} {k : Nat} {g : PEnv → Mo Fl} (h : NwF K mg c qual sm ps) (S : FnScope N ps (defScope sm))
    (hb : ∀ (f : Addr) (cdv : Value) (A : Around) (outer : List Env) (s : Shared) (H : Hp) (E : XK), Room k (A.deeper (PyProof.Rows.envOfC qual (defScope sm) s.heap.objs.size f cdv)) → MSs (cxD P w K mg base N qual (defScope sm) f cdv A outer s H E) E (defBody sm) g) :
    NOk P w K mg base c (k + 1) (mirror ps.length N.length g) := by
  obtain ⟨C, f, fd, hm, mk, F, b⟩ := h
  exact ⟨C, f, fd, ps, hm, mk, b, def_ok F S (hb f)⟩
theorem XnF.ok {c fld qual : Str} {sm : Stmt} (h : XnF K mg c fld qual sm) (S : FnScope ["self", fld] ["self", fld] (defScope sm))
    (hb : ∀ (C f : Addr) (cdv : Value) (A : Around) (outer : List Env) (s : Shared) (H : Hp) (E : XK), ExCls K C fld → PSs (cxOf (CXe P w) P w K mg base ["self", fld] qual (defScope sm) f cdv A outer s H E) (defBody sm) (sFldE K (tVar 0) (tVar 1) fld)) :
    XOk P w K mg base c fld := by
  obtain ⟨C, f, fd, hm, M, xc, F, b⟩ := h
  refine ⟨C, f, fd, hm, M, F.okX S (fun vs H Q E h => ?_) (fun cdv A outer s H vs Q E hr h => ⟨_, hb C f cdv A outer s H E xc, ?_⟩), b⟩
  · obtain ⟨a, t, y, rfl, _⟩ := h; rfl
  · obtain ⟨a, t, y, rfl, ha, q⟩ := h
    exact ⟨y, rfl, .ref a, rfl, a, C, t, rfl, ha, xc, fun d hd => q d hd⟩
theorem XnF.tr {c fld qual : Str} {sm : Stmt} (h : XnF K mg c fld qual sm) : ∃ C, mg c = some (.ref C) ∧ ExOf K C := by
  obtain ⟨C, f, fd, hm, M, _⟩ := h
  exact ⟨C, hm, M.of⟩
theorem bt_len : bootBuiltins "len" = some (.builtin "len") := by decide +kernel
theorem bt_isinstance : bootBuiltins "isinstance" = some (.builtin "isinstance") := by decide +kernel
theorem bt_int : bootBuiltins "int" = some (.type "int") := by decide +kernel
theorem bt_bool : bootBuiltins "bool" = some (.type "bool") := by decide +kernel
theorem bt_str : bootBuiltins "str" = some (.type "str") := by decide +kernel
theorem bt_tuple : bootBuiltins "tuple" = some (.type "tuple") := by decide +kernel
theorem bt_dict : bootBuiltins "dict" = some (.type "dict") := by decide +kernel
theorem bt_list : bootBuiltins "list" = some (.type "list") := by decide +kernel
end
end Mi
namespace Mi
open PySem L2 PySem.W PySem.Spec
theorem FOk.mono {P : Program} {w : World} {K : Frag} {mg : Str → Option Value} {base : Heap} {x : Str} {j k : Nat} {m : List PV → Mo PV} (h : FOk P w K mg base x j m) (hjk : j ≤ k) : FOk P w K mg base x k m := by
  obtain ⟨f, fd, ps, h1, h2, h3, h4⟩ := h
  exact ⟨f, fd, ps, h1, h2, h3, h4.mono hjk⟩
theorem MOk.mono {P : Program} {w : World} {K : Frag} {mg : Str → Option Value} {base : Heap} {c x : Str} {j k : Nat} {m : List PV → Mo PV} (h : MOk P w K mg base c x j m) (hjk : j ≤ k) : MOk P w K mg base c x k m := by
  obtain ⟨C, f, fd, ps, h1, h2, h3, h4, h5⟩ := h
  exact ⟨C, f, fd, ps, h1, h2, h3, h4, h5.mono hjk⟩
end Mi
namespace Mi
open PySem L2 PySem.W PySem.Spec
/-- the law's promise, whatever the text's names are -/
def spLaw (K : Frag) : Sp := fun vs H Q _ => ∃ (a : Addr) (ns : List Int), vs = [.ref a] ∧ SqL K H a (ns.map V.int) ∧ Only H ∧ ns.length ≤ 63 ∧ ∀ H', Q (.bl true) H'
theorem Rs_ints {K : Frag} {mg : Str → Option Value} {ρ : List Addr} {H : Hp} : ∀ ns : List Int, Rs K mg ρ H (ns.map PV.int) (ns.map V.int)
  | [] => rfl
  | n :: ns => ⟨_, _, rfl, rfl, Rs_ints ns⟩
theorem FrL_of {K : Frag} {H : Hp} {a : Addr} {vs : List V} (h : SqL K H a vs) (o : Only H) : FrL K H a vs := by
  rcases h with (h | ⟨ob, h⟩) | h
  · rcases o a with z | ⟨ob, xs, z⟩
    · rw [h] at z; cases z
    · rw [h] at z; cases z
  · exact .inl ⟨ob, h⟩
  · exact .inr h
theorem law_imp {P : Program} {w : World} {K : Frag} {mg : Str → Option Value} {base : Heap} {k : Nat} {f : Addr} {fd : FuncData} {ps : List Str} {m : List PV → Mo PV} (F : FnOk P w K mg base (CXe P w) k f fd ps (spM K mg m)) (h : ∀ ns : List Int, ns.length ≤ 63 → ∃ st, m [.frl (ns.map PV.int)] [] = .ok (.bl true) st) : FnOk P w K mg base (CXe P w) k f fd ps (spLaw K) :=
  F.imp fun vs H Q E ⟨a, ns, e, hs, ho, hl, q⟩ => by
    subst e
    obtain ⟨st, hm⟩ := h ns hl
    refine ⟨[.frl (ns.map PV.int)], [], [], ⟨_, [], rfl, ⟨a, _, rfl, FrL_of hs ho, Rs_ints ns⟩, rfl⟩, ⟨rfl, List.nodup_nil, fun n so e => by simp at e⟩, ?_⟩
    rw [hm]
    intro ρ' H' _ _ v rv
    cases rv
    exact q H'
theorem walkM {l : PySem.W.OpenLaw} {k : Nat} {x : Str} {q : Program} {loose : List Str} {XP : (Str → Option Value) → Heap → Prop} {YP : World → Heap → Prop} {d : DefRec} {K : Params → PySem.W.Frag} (hn : l.most = some 63) (hdf : d.params.defaults = []) (hr : Room k callerA)
    (hY : ∀ (w : World) (h : Heap), YP w h → (K w.params).In h)
    (F : ∀ (w : World) (mg : Str → Option Value) (fa : Addr) (h : Heap), (K w.params).In h → h.Ns mainGlobals mg → mg d.name = some (.ref fa) →
      ∃ fd : FuncData, (∀ (s : Shared) (u : Value), BindsTo s fd ⟨[u], []⟩ [(x, u)]) ∧ ∀ base : Heap, (K w.params).In base → base.Ns mainGlobals mg → FnOk l.prog w (K w.params) mg base (CXe l.prog w) k fa fd [x] (spLaw (K w.params))) :
    PySem.W.WalkO q loose XP YP l.row.toRowW d [] (fun f vs => PySem.call f vs) :=
  L2.walk_of (n := 63) (k := k) (x := x) (CX := fun w => CXe l.prog w) (sp := fun w => spLaw (K w.params)) hn (by decide) hdf hr hY F (fun _ _ a ns hl ho hS => ⟨a, ns, rfl, hS, ho, hl, fun _ => rfl⟩) fun w H s e s' ⟨_, _, _, _, _, _, _, _, _, _, _, _, _, _, _, z⟩ => z
end Mi

set_option Elab.async false
set_option linter.all false
set_option maxRecDepth 100000
set_option maxHeartbeats 4000000
/-! the mirror: how it is reckoned -/
namespace Mi
open PySem L2 PySem.W PySem.Spec
section
variable {α β : Type} {env : PEnv} {st st1 : Sto} {fa fb fc fo fv : PEnv → Mo PV} {fs : PEnv → Mo (List PV)} {ga gb : PEnv → Mo Bool} {g g' : PEnv → Mo Fl} {op op' : PV → PV → Mo PV} {o1 : PV → Mo PV} {m : List PV → Mo PV}
@[simp] theorem bind_ok (a : α) (f : α → Mo β) : (Res.ok a st).bind f = f a st := (rfl)
@[simp] theorem bind_err (c : Str) (ks : List Str) (xs : List PV) (f : α → Mo β) : (Res.err c ks xs st : Res α).bind f = .err c ks xs st := (rfl)
@[simp] theorem bind_stuck (f : α → Mo β) : (Res.stuck : Res α).bind f = .stuck := (rfl)
@[simp] theorem bind_ite (p : Prop) [Decidable p] (a b : Res α) (f : α → Mo β) : (if p then a else b).bind f = if p then a.bind f else b.bind f := by split <;> rfl
@[simp] theorem q_mVar (i : Nat) : mVar i env st = (match env[i]? with | some (some x) => .ok x st | _ => .stuck) := (rfl)
@[simp] theorem q_mC (x : PV) : mC x env st = .ok x st := (rfl)
@[simp] theorem q_mOp : mOp op fa fb env st = (fa env st).bind fun x st1 => (fb env st1).bind fun y st2 => op x y st2 := (rfl)
@[simp] theorem q_mUn : mUn o1 fa env st = (fa env st).bind o1 := (rfl)
@[simp] theorem q_mB : mB fa env st = (fa env st).bind asB := (rfl)
@[simp] theorem q_asB (b : Bool) : asB (.bl b) st = .ok b st := (rfl)
@[simp] theorem q_chain : mChain op op' fa fb fc env st = (fa env st).bind fun x st1 => (fb env st1).bind fun y st2 => (op x y st2).bind fun k st3 => (asB k st3).bind fun b st4 => if b = true then (fc env st4).bind fun z st5 => op' y z st5 else .ok (.bl false) st4 := (rfl)
@[simp] theorem q_bAnd : bAnd ga gb env st = (ga env st).bind fun c st1 => if c = true then gb env st1 else .ok false st1 := (rfl)
@[simp] theorem q_bOr : bOr ga gb env st = (ga env st).bind fun c st1 => if c = true then .ok true st1 else gb env st1 := (rfl)
@[simp] theorem q_bNot : bNot ga env st = (ga env st).bind fun c st1 => .ok (!c) st1 := (rfl)
@[simp] theorem q_mAnd : mAnd fa fb env st = (fa env st).bind fun x st1 => (asB x st1).bind fun c st2 => if c = true then fb env st2 else .ok (.bl false) st2 := (rfl)
@[simp] theorem q_mOr : mOr fa fb env st = (fa env st).bind fun x st1 => (asB x st1).bind fun c st2 => if c = true then .ok (.bl true) st2 else fb env st2 := (rfl)
@[simp] theorem q_mNot : mNot fa env st = (fa env st).bind fun x st1 => (asB x st1).bind fun c st2 => .ok (.bl (!c)) st2 := (rfl)
@[simp] theorem q_mIf : mIf ga fa fb env st = (ga env st).bind fun c st1 => if c = true then fa env st1 else fb env st1 := (rfl)
@[simp] theorem q_aNil : aNil env st = .ok [] st := (rfl)
@[simp] theorem q_aCons : aCons fa fs env st = (fa env st).bind fun x st1 => (fs env st1).bind fun xs st2 => .ok (x :: xs) st2 := (rfl)
@[simp] theorem q_mTup : mTup fs env st = (fs env st).bind fun xs st1 => if xs.length ≤ lim then .ok (.tup xs) st1 else .stuck := (rfl)
@[simp] theorem q_mLst : mLst fs env st = (fs env st).bind fun xs st1 => if xs.length ≤ lim then .ok (.ref st1.length) (st1 ++ [.lst xs]) else .stuck := (rfl)
@[simp] theorem q_mSl (fl fu : PEnv → Mo (Option Int)) : mSl fa fl fu env st = (fa env st).bind fun x st1 => (fl env st1).bind fun l st2 => (fu env st2).bind fun u st3 => oSl x l u st3 := (rfl)
@[simp] theorem q_pNone : pNone env st = .ok none st := (rfl)
@[simp] theorem q_pSome : pSome fa env st = (fa env st).bind asI := (rfl)
@[simp] theorem q_asI (i : Int) : asI (.int i) st = .ok (some i) st := (rfl)
@[simp] theorem q_mCall : mCall m fs env st = (fs env st).bind m := (rfl)
@[simp] theorem q_opI (C : Int → Int → Bool) (f : Int → Int → Int) (i j : Int) : opI C f (.int i) (.int j) st = if C i j = true then .ok (.int (f i j)) st else .stuck := (rfl)
@[simp] theorem q_opB (f : Int → Int → Bool) (i j : Int) : opB f (.int i) (.int j) st = .ok (.bl (f i j)) st := (rfl)
@[simp] theorem q_oNeg (i : Int) : oNeg (.int i) st = .ok (.int (-i)) st := (rfl)
@[simp] theorem q_addI (i j : Int) : oAdd (.int i) (.int j) st = .ok (.int (i + j)) st := (rfl)
@[simp] theorem q_addS (x y : Str) : oAdd (.str x) (.str y) st = if x.length + y.length ≤ lim then .ok (.str (x ++ y)) st else .stuck := (rfl)
@[simp] theorem q_addT (xs ys : List PV) : oAdd (.tup xs) (.tup ys) st = if xs.length + ys.length ≤ lim then .ok (.tup (xs ++ ys)) st else .stuck := (rfl)
@[simp] theorem q_ixT (xs : List PV) (i : Int) : oIx (.tup xs) (.int i) st = optR (atI xs i) st := (rfl)
@[simp] theorem q_ixF (xs : List PV) (i : Int) : oIx (.frl xs) (.int i) st = optR (atI xs i) st := (rfl)
@[simp] theorem q_ixL (n : Nat) (i : Int) : oIx (.ref n) (.int i) st = withL st n fun xs => optR (atI xs i) st := (rfl)
@[simp] theorem q_optS (x : PV) : optR (some x) st = .ok x st := (rfl)
@[simp] theorem q_optN : optR none st = .stuck := (rfl)
@[simp] theorem q_slT (xs : List PV) (l u : Option Int) : oSl (.tup xs) l u st = .ok (.tup (cutP xs l u)) st := (rfl)
@[simp] theorem q_slF (xs : List PV) (l u : Option Int) : oSl (.frl xs) l u st = .ok (.ref st.length) (st ++ [.lst (cutP xs l u)]) := (rfl)
@[simp] theorem q_lenT (xs : List PV) : oLen [.tup xs] st = .ok (.int xs.length) st := (rfl)
@[simp] theorem q_lenF (xs : List PV) : oLen [.frl xs] st = .ok (.int xs.length) st := (rfl)
@[simp] theorem q_lenR (n : Nat) : oLen [.ref n] st = withL st n fun xs => .ok (.int xs.length) st := (rfl)
@[simp] theorem q_intI (i : Int) : oInt [.int i] st = .ok (.int i) st := (rfl)
@[simp] theorem q_intB (k : Bool) : oInt [.bl k] st = .ok (.int (if k then 1 else 0)) st := (rfl)
@[simp] theorem q_is (x : PV) : oIs x .non st = .ok (.bl (isNon x)) st := (rfl)
@[simp] theorem q_isnot (x : PV) : oIsNot x .non st = .ok (.bl (!isNon x)) st := (rfl)
@[simp] theorem q_oEq (x y : PV) : oEq x y st = if plain x = true ∧ plain y = true ∧ dep x ≤ 150 then .ok (.bl (eqP x y)) st else .stuck := (rfl)
@[simp] theorem q_oNe (x y : PV) : oNe x y st = if plain x = true ∧ plain y = true ∧ dep x ≤ 150 then .ok (.bl (!eqP x y)) st else .stuck := (rfl)
@[simp] theorem q_sNext : sNext env st = .ok (.nx env) st := (rfl)
@[simp] theorem q_sSeq : sSeq g g' env st = (g env st).bind (flowOn g') := (rfl)
@[simp] theorem q_flowN : flowOn g (.nx env) st = g env st := (rfl)
@[simp] theorem q_flowR (x : PV) : flowOn g (.rt x) st = .ok (.rt x) st := (rfl)
@[simp] theorem q_flowB (e : PEnv) : flowOn g (.bk e) st = .ok (.bk e) st := (rfl)
@[simp] theorem q_flowC (e : PEnv) : flowOn g (.ct e) st = .ok (.ct e) st := (rfl)
@[simp] theorem q_sSet (i : Nat) : sSet i fa env st = (fa env st).bind fun x st1 => .ok (.nx (env.set i (some x))) st1 := (rfl)
@[simp] theorem q_sExpr : sExpr fa env st = (fa env st).bind fun _ st1 => .ok (.nx env) st1 := (rfl)
@[simp] theorem q_sRet : sRet fa env st = (fa env st).bind fun x st1 => .ok (.rt x) st1 := (rfl)
@[simp] theorem q_sIf : sIf ga g g' env st = (ga env st).bind fun c st1 => if c = true then g env st1 else g' env st1 := (rfl)
@[simp] theorem q_sRaise (c f : Str) : sRaise c f fa env st = (fa env st).bind fun x st1 => .err c [f] [x] st1 := (rfl)
@[simp] theorem q_sTo (gt : PV → PEnv → Option PEnv) : sTo gt fa env st = (fa env st).bind fun x st1 => match gt x env with | some env' => .ok (.nx env') st1 | none => .stuck := (rfl)
@[simp] theorem q_g2 (i j : Nat) (x y : PV) : g2 i j (.tup [x, y]) env = some ((env.set i (some x)).set j (some y)) := (rfl)
@[simp] theorem q_gN (i : Nat) (x : PV) : gN i x env = some (env.set i (some x)) := (rfl)
@[simp] theorem q_endR (x : PV) : endOf (.rt x) st = .ok x st := (rfl)
@[simp] theorem q_endN (e : PEnv) : endOf (.nx e) st = .ok .non st := (rfl)
@[simp] theorem q_sAug (i : Nat) : sAug i op fa env st = (mVar i env st).bind fun x st0 => (fa env st0).bind fun y st1 => (op x y st1).bind fun z st2 => .ok (.nx (env.set i (some z))) st2 := (rfl)
@[simp] theorem q_ipAdd (i j : Int) : ipAdd (.int i) (.int j) st = .ok (.int (i + j)) st := (rfl)
@[simp] theorem q_iVal : iVal fa env st = (fa env st).bind seqOf := (rfl)
@[simp] theorem q_seqT (xs : List PV) : seqOf (.tup xs) st = .ok (.im xs) st := (rfl)
@[simp] theorem q_seqF (xs : List PV) : seqOf (.frl xs) st = .ok (.im xs) st := (rfl)
@[simp] theorem q_seqR (n : Nat) : seqOf (.ref n) st = withL st n fun _ => .ok (.rf n) st := (rfl)
@[simp] theorem q_iZip2 : iZip2 fs env st = (fs env st).bind zip2 := (rfl)
@[simp] theorem q_zip2 (xs ys : List PV) : zip2 [.tup xs, .tup ys] st = .ok (.im (zipP xs ys)) st := (rfl)
@[simp] theorem q_sFor (src : PEnv → Mo Sq) (gt : PV → PEnv → Option PEnv) : sFor src gt g env st = (src env st).bind fun q st1 => forS gt g q env st1 := (rfl)
@[simp] theorem q_forS (gt : PV → PEnv → Option PEnv) (xs : List PV) : forS gt g (.im xs) env st = forL gt g xs env st := (rfl)
@[simp] theorem q_forN (gt : PV → PEnv → Option PEnv) : forL gt g [] env st = .ok (.nx env) st := (rfl)
@[simp] theorem plain_non : Mi.plain .non = true := (rfl)
@[simp] theorem plain_bl (b : Bool) : Mi.plain (.bl b) = true := (rfl)
@[simp] theorem plain_int (i : Int) : Mi.plain (.int i) = true := (rfl)
@[simp] theorem plain_str (x : Str) : Mi.plain (.str x) = true := (rfl)
@[simp] theorem plain_tup (xs : List PV) : Mi.plain (.tup xs) = plains xs := (rfl)
@[simp] theorem plains_nil : plains [] = true := (rfl)
@[simp] theorem plains_cons (x : PV) (xs : List PV) : plains (x :: xs) = (Mi.plain x && plains xs) := (rfl)
@[simp] theorem dep_non : dep .non = 0 := (rfl)
@[simp] theorem dep_bl (b : Bool) : dep (.bl b) = 0 := (rfl)
@[simp] theorem dep_int (i : Int) : dep (.int i) = 0 := (rfl)
@[simp] theorem dep_str (x : Str) : dep (.str x) = 0 := (rfl)
@[simp] theorem dep_tup (xs : List PV) : dep (.tup xs) = deps xs + 1 := (rfl)
@[simp] theorem deps_nil : deps [] = 0 := (rfl)
@[simp] theorem deps_cons (x : PV) (xs : List PV) : deps (x :: xs) = max (dep x) (deps xs) := (rfl)
@[simp] theorem eqP_ii (a b : Int) : eqP (.int a) (.int b) = (a == b) := (rfl)
@[simp] theorem eqP_ss (a b : Str) : eqP (.str a) (.str b) = (a == b) := (rfl)
@[simp] theorem eqP_bb (a b : Bool) : eqP (.bl a) (.bl b) = (a == b) := (rfl)
@[simp] theorem eqP_tt (xs ys : List PV) : eqP (.tup xs) (.tup ys) = eqPs xs ys := (rfl)
@[simp] theorem eqPs_nn : eqPs [] [] = true := (rfl)
@[simp] theorem eqPs_cc (x y : PV) (xs ys : List PV) : eqPs (x :: xs) (y :: ys) = (eqP x y && eqPs xs ys) := (rfl)
@[simp] theorem eqPs_nc (y : PV) (ys : List PV) : eqPs [] (y :: ys) = false := (rfl)
@[simp] theorem eqPs_cn (y : PV) (ys : List PV) : eqPs (y :: ys) [] = false := (rfl)
@[simp] theorem q_sTry (i j : Nat) (cn : Str) : sTry i j cn fv g env st = (match fv env st with
  | .ok x st1 => .ok (.nx (env.set i (some x))) st1
  | .err c ks xs st1 => if c = cn ∧ ks ≠ [] then (noErr (g (env.set j (some (.exo c ks xs))) st1)).bind (trySuite j) else .stuck
  | .stuck => .stuck) := (rfl)
@[simp] theorem noErr_ok (a : α) : noErr (Res.ok a st) = .ok a st := (rfl)
@[simp] theorem q_trySuite (j : Nat) (e : PEnv) : trySuite j (.nx e) st = .ok (.nx (e.set j none)) st := (rfl)
@[simp] theorem isNon_non : isNon .non = true := (rfl)
@[simp] theorem isNon_exo (c : Str) (ks : List Str) (xs : List PV) : isNon (.exo c ks xs) = false := (rfl)
@[simp] theorem q_xMeth (name : Str) (tab : Str → Option (List PV → Mo PV)) : xMeth name tab fo fs env st = (noErr (fo env st)).bind fun o st1 => methAt name tab o st1 fun n m => (noErr (fs env st1)).bind fun ys st2 => m (.ref n :: ys) st2 := (rfl)
@[simp] theorem q_mMeth (name : Str) (tab : Str → Option (List PV → Mo PV)) : mMeth name tab fo fs env st = (fo env st).bind fun o st1 => methAt name tab o st1 fun n m => (fs env st1).bind fun ys st2 => m (.ref n :: ys) st2 := (rfl)
theorem withL_at {n : Nat} {xs : List PV} (h : st[n]? = some (.lst xs)) (k : List PV → Res α) : withL st n k = k xs := by unfold withL; rw [h]
@[simp] theorem withL_top (xs : List PV) (k : List PV → Res α) : withL (st ++ [.lst xs]) st.length k = k xs := withL_at (by simp) k
@[simp] theorem q_fldR (f : Str) (i x : Str → Bool) (n : Nat) : fldAt f i x (.ref n) st = withI st n fun c ks xs => if i c = true then optR ((ks.zip xs).lookup f) st else .stuck := (rfl)
@[simp] theorem q_fldX (f : Str) (i x : Str → Bool) (c : Str) (ks : List Str) (xs : List PV) : fldAt f i x (.exo c ks xs) st = if x c = true then optR ((ks.zip xs).lookup f) st else .stuck := (rfl)
@[simp] theorem q_kdAt (ks : List Str) (ps : List PV) (z : Str) : kdAt ks ps (.str z) st = optR ((ks.zip ps).lookup z) st := (rfl)
@[simp] theorem q_callV (tab : Str → Option (List PV → Mo PV)) : mCallV tab fa fs env st = (fa env st).bind fun f st1 => match f with | .fn x => (match tab x with | some m => (fs env st1).bind m | none => .stuck) | _ => .stuck := (rfl)
@[simp] theorem q_sFld (f : Str) (i : Str → Bool) : Mi.sFld f i fo fv env st = (fv env st).bind fun x st1 => (fo env st1).bind fun o st2 => (putAt f i x o st2).bind fun _ st3 => .ok (.nx env) st3 := (rfl)
@[simp] theorem q_mMut : mMut op fo fv env st = (fo env st).bind fun o st1 => (recL o st1).bind fun o st1 => (fv env st1).bind fun y st2 => op o y st2 := (rfl)
@[simp] theorem q_recL (n : Nat) : recL (.ref n) st = withL st n fun _ => .ok (.ref n) st := (rfl)
@[simp] theorem ofS_inj (a b : String) : (Str.ofString a = Str.ofString b) ↔ a = b := by
  constructor
  · intro h
    rw [Str.ofString_eq_byList] at h
    have h1 : (a.toList.map Char.toNat) = (b.toList.map Char.toNat) := by
      have := congrArg (fun z => z.cps.toList) h
      simpa [Str.ofStringByList] using this
    apply String.ext_iff.mpr
    exact (List.map_inj_right (fun c d e => Char.toNat_inj.mp e)).mp h1
  · intro h; rw [h]
@[simp] theorem ofS_beq (a b : String) : (Str.ofString a == Str.ofString b) = (a == b) := by
  rw [Bool.eq_iff_iff]; simp
theorem while_step (n : Nat) : whileF ga g (n + 1) env st = (ga env st).bind fun c st1 => if c = true then (g env st1).bind fun fl st2 => match fl with
      | .nx e => whileF ga g n e st2
      | .ct e => whileF ga g n e st2
      | .bk e => .ok (.nx e) st2
      | .rt v => .ok (.rt v) st2
    else .ok (.nx env) st1 := rfl
@[simp] theorem lim_eq : lim = 1000000 := (rfl)
@[simp] theorem q_putAt (f : Str) (i : Str → Bool) (x : PV) (n : Nat) : Mi.putAt f i x (.ref n) st = withI st n fun c ks xs => if i c = true ∧ ks.length < 1000 then .ok () (st.set n (.ins c (putK f x ks xs).1 (putK f x ks xs).2)) else .stuck := (rfl)
end
end Mi

set_option Elab.async false
set_option linter.all false
set_option maxRecDepth 100000
set_option maxHeartbeats 4000000
/-! the mirror: a text's facts out of what the walk reads off it -/
namespace Mi
open PySem L2 PySem.W PySem.Spec
section
variable {K : Frag} {mg : Str → Option Value} {h : Heap} {x : Str} {f C : Addr} {oc : Value} {od an : Option Addr} {osl : Array (Option Value)} {kV doc pm cdv ct : Value} {sm : Stmt} {ps : List Str}
theorem fnF_mk (X : K.In h) (G : h.Ns mainGlobals mg) (a : nsIn K mainGlobals x = some (some (.ref f))) (l : K.lookup f = some ⟨oc, od, .func (fnOf x x (defArgs sm) (defBody sm) (defScope sm) .none kV doc pm an cdv ct), osl⟩) (c : codeIn K cdv x = true) (k : keepIn K (.ref f) = true)
    (b : ∀ (kV doc pm : Value) (an : Option Addr) (cdv ct : Value) (us : List Value), us.length = ps.length → bindArgs (fnOf x x (defArgs sm) (defBody sm) (defScope sm) .none kV doc pm an cdv ct) ⟨us, []⟩ = pure (ps.zip us)) : FnF K mg x sm ps :=
  ⟨f, _, mg_of X G a, fun_mk l c k, (fun_mk l c k).binds b⟩
theorem all_cons {α : Type} {P : α → Prop} {a : α} {l : List α} (h : P a) (t : ∀ p ∈ l, P p) : ∀ p ∈ a :: l, P p := fun p hp => by
  rcases List.mem_cons.mp hp with rfl | hp
  · exact h
  · exact t p hp
end
end Mi
namespace Mi
open PySem L2 PySem.W PySem.Spec
/-- the law's own def, for the head -/
theorem law_of {P : Program} {w : World} {K : Frag} {mg : Str → Option Value} {x y : Str} {sm : Stmt} {fa : Addr} {k : Nat} {m : List PV → Mo PV} (h : FnF K mg x sm [y]) (hmg : mg x = some (.ref fa))
    (hb : ∀ (kV doc pm : Value) (an : Option Addr) (cdv ct : Value) (u : Value), bindArgs (fnOf x x (defArgs sm) (defBody sm) (defScope sm) .none kV doc pm an cdv ct) ⟨[u], []⟩ = pure [(y, u)])
    (hok : ∀ (f : Addr) (fd : FuncData), Fun K x x sm f fd → ∀ base : Heap, FnOk P w K mg base (CXe P w) k f fd [y] (spM K mg m)) (hp : ∀ ns : List Int, ns.length ≤ 63 → ∃ st, m [.frl (ns.map PV.int)] [] = .ok (.bl true) st) :
    ∃ fd : FuncData, (∀ (s : Shared) (u : Value), BindsTo s fd ⟨[u], []⟩ [(y, u)]) ∧ ∀ base : Heap, K.In base → base.Ns mainGlobals mg → FnOk P w K mg base (CXe P w) k fa fd [y] (spLaw K) := by
  obtain ⟨f, fd, hm, F, _⟩ := h
  rw [hmg] at hm
  cases hm
  refine ⟨fd, fun s u => ?_, fun base _ _ => law_imp (hok fa fd F base) hp⟩
  obtain ⟨oc, od, kV, doc, pm, an, cdv, ct, osl, rfl, _⟩ := F.ex
  exact .of_eq (hb kV doc pm an cdv ct u)
end Mi
namespace Mi
open PySem L2 PySem.W PySem.Spec
theorem b_mk {K : Frag} {mg : Str → Option Value} {h : Heap} {x : Str} (X : K.In h) (G : h.Ns mainGlobals mg) (a : nsIn K mainGlobals x = some none) : mg x = none := mg_none_of X G a
end Mi

set_option Elab.async false
set_option linter.all false
set_option maxRecDepth 100000
set_option maxHeartbeats 4000000
/-! the mirror: dicts by texts -/
namespace Mi
open PySem L2 PySem.W PySem.Spec
section
variable {X : Cx} {Er : XK} {K : Frag} {mg : Str → Option Value} {a b c e o : Expr} {es : List Expr} {pos p apos pos' : Pos} {fa fb fc fo : PEnv → Mo PV} {fs : PEnv → Mo (List PV)}
abbrev kz (ks : List Str) (vs : List V) : List (Key × V) := (ks.map Sum.inr).zip vs
theorem valV_kz {z : Str} : ∀ {ks : List Str} {vs : List V}, valV (kz ks vs) (Sum.inr z) = (ks.zip vs).lookup z
  | [], _ => by simp [kz, valV]
  | k :: ks, [] => by simp [kz, valV]
  | k :: ks, v :: vs => by
    have ih := valV_kz (z := z) (ks := ks) (vs := vs)
    by_cases h : k = z
    · subst h
      rw [show kz (k :: ks) (v :: vs) = (Sum.inr k, v) :: kz ks vs from rfl, valV_pos rfl]
      simp [List.lookup_cons]
    · rw [show kz (k :: ks) (v :: vs) = (Sum.inr k, v) :: kz ks vs from rfl, valV_neg (by simpa using h), ih]
      have : (z == k) = false := by simpa using fun q => h q.symm
      simp [List.lookup_cons, this]
theorem any_kz {z : Str} : ∀ {ks : List Str} {vs : List V}, ks.length = vs.length → ((kz ks vs).any fun kv => decide (kv.1 = Sum.inr z)) = ks.contains z
  | [], _, _ => by simp [kz]
  | k :: ks, [], h => by simp at h
  | k :: ks, v :: vs, h => by
    have ih := any_kz (z := z) (ks := ks) (vs := vs) (by simpa using h)
    rw [show kz (k :: ks) (v :: vs) = (Sum.inr k, v) :: kz ks vs from rfl, List.any_cons, ih, List.contains_cons]
    congr 1
    by_cases hz : k = z
    · subst hz; simp
    · have : (z == k) = false := by simpa using fun q => hz q.symm
      simp [hz, this]
/-- d[z] = x: in its place, or at the end -/
def repl {α : Type} (z : Str) (x : α) : List Str → List α → List α
  | k :: ks, y :: ys => (if k = z then x else y) :: repl z x ks ys
  | _, ys => ys
def dPut (z : Str) (x : PV) (ks : List Str) (xs : List PV) : List Str × List PV := if ks.contains z = true then (ks, repl z x ks xs) else (ks ++ [z], xs ++ [x])
theorem repl_kz {z : Str} {v : V} : ∀ {ks : List Str} {vs : List V}, (kz ks vs).map (fun kv => if kv.1 = Sum.inr z then (kv.1, v) else kv) = kz ks (repl z v ks vs)
  | [], _ => by simp [kz]
  | k :: ks, [] => by simp [kz, repl]
  | k :: ks, w :: vs => by
    rw [show kz (k :: ks) (w :: vs) = (Sum.inr k, w) :: kz ks vs from rfl, List.map_cons, repl_kz, show repl z v (k :: ks) (w :: vs) = (if k = z then v else w) :: repl z v ks vs from rfl, show ∀ u us, kz (k :: ks) (u :: us) = (Sum.inr k, u) :: kz ks us from fun _ _ => rfl]
    by_cases h : k = z
    · subst h; simp
    · rw [if_neg (by simpa using h), if_neg h]
theorem repl_R {ρ : List Addr} {H : Hp} {z : Str} {x : PV} {v : V} (r : R K mg ρ H x v) : ∀ {ks : List Str} {xs : List PV} {vs : List V}, Rs K mg ρ H xs vs → Rs K mg ρ H (repl z x ks xs) (repl z v ks vs)
  | [], xs, vs, h => by cases xs <;> cases vs <;> exact h
  | k :: ks, [], vs, h => by cases h; exact rfl
  | k :: ks, y :: ys, vs, h => by
    obtain ⟨w, ws, rfl, h1, h2⟩ := h
    refine ⟨_, _, rfl, ?_, repl_R r h2⟩
    split
    · exact r
    · exact h1
theorem repl_len {α : Type} {z : Str} {x : α} : ∀ {ks : List Str} {xs : List α}, (repl z x ks xs).length = xs.length
  | [], xs => by cases xs <;> rfl
  | k :: ks, [] => rfl
  | k :: ks, y :: ys => by simp [repl, repl_len (ks := ks)]
theorem dPut_R {ρ : List Addr} {H : Hp} {z : Str} {x : PV} {v : V} (r : R K mg ρ H x v) {ks : List Str} {xs : List PV} {vs : List V} (hl : ks.length = vs.length) (h : Rs K mg ρ H xs vs) : ∃ ws, L2.putK (kz ks vs) (Sum.inr z) v = kz (dPut z x ks xs).1 ws ∧ Rs K mg ρ H (dPut z x ks xs).2 ws ∧ (dPut z x ks xs).1.length = ws.length := by
  unfold L2.putK dPut
  rw [any_kz hl]
  by_cases hc : ks.contains z = true
  · rw [if_pos hc, if_pos hc]
    exact ⟨repl z v ks vs, repl_kz, repl_R r h, by rw [repl_len]; exact hl⟩
  · rw [if_neg hc, if_neg hc]
    refine ⟨vs ++ [v], ?_, h.append ⟨v, [], rfl, r, rfl⟩, by simp [hl]⟩
    show _ = (List.map Sum.inr (ks ++ [z])).zip (vs ++ [v])
    rw [List.map_append, List.zip_append (by simpa using hl)]
    rfl
/-! {} -/
def mDNew : PEnv → Mo PV := fun _ st => .ok (.ref st.length) (st ++ [.dic [] []])
theorem m_dnew : ME X Er (.Dict [] [] pos) mDNew := PE.weak pe_dnewK fun σ H Q ⟨env, st, ρ, re, rs, h⟩ => fun q hq =>
  h (ρ ++ [q]) _ (Ext.push hq) (rs.push hq ⟨[], upd_same, rfl, rfl⟩) _ ⟨q, rfl, by rw [← rs.len]; simp⟩
/-! d[k] -/
def oDGet : PV → PV → Mo PV
  | .ref n, .str z, st => withD st n fun ks xs => optR ((ks.zip xs).lookup z) st
  | _, _, _ => .stuck
/-- a place of a row, a list, a text; a dict's value -/
def oIxD : PV → PV → Mo PV
  | .ref n, .str z, st => oDGet (.ref n) (.str z) st
  | x, y, st => oIx x y st
def rDGet : R2 := fun x y H Q => ∃ a v, x = .ref a ∧ DGet H a y (some v) ∧ Q v H
theorem ix_dict (hu : X.A.units + 1 < cLine) : IxR X rDGet := by
  intro value slice pins s σ H x y v u Q I rx ry h hs
  obtain ⟨a, w, rfl, g, q⟩ := h
  obtain rfl : v = Value.ref a := rx
  exact PyProof.Rows.tail_any (dict_typeIs I g) PySem.F.slot_dict_getitem.lookup (d_getItem hu I g ry fun w' s' I' rw' => ⟨w, H, I', rw', q⟩) hs
theorem R.refD {ρ : List Addr} {H : Hp} {st : Sto} {n : Nat} {ks : List Str} {xs : List PV} {v : V} (s : StR K mg ρ H st) (r : R K mg ρ H (.ref n) v) (h : st[n]? = some (.dic ks xs)) : ∃ a vs, v = .ref a ∧ ρ[n]? = some a ∧ H a = some (.dK (kz ks vs)) ∧ Rs K mg ρ H xs vs ∧ ks.length = vs.length := by
  obtain ⟨a, rfl, ha⟩ := r
  obtain ⟨vs, h1, h2, h3⟩ := s.addr h ha
  exact ⟨a, vs, rfl, ha, h1, h2, h3⟩
theorem dget_of {H : Hp} {a : Addr} {ks : List Str} {vs : List V} {z : Str} (h : H a = some (.dK (kz ks vs))) : DGet H a (.str z) ((ks.zip vs).lookup z) := by
  have g := DGet.k (k := Sum.inr z) h
  rw [valV_kz] at g
  exact g
theorem ixD_ok (hu : X.A.units + 200 < cLine) : IxOk X oIxD := by
  obtain ⟨r, h1, h2⟩ := ix_ok (X := X)
  refine ⟨_, h1.or (ix_dict (by omega)), fun ρ H st x y v w Q E s rx ry h => ?_⟩
  by_cases hx : ∃ n z, x = .ref n ∧ y = .str z
  · obtain ⟨n, z, rfl, rfl⟩ := hx
    obtain ⟨ks, xs, e, h⟩ := withD_inv (show Out X.K X.mg ρ H (withD st n fun ks xs => optR ((ks.zip xs).lookup z) st) (gV X.K X.mg Q) E from h)
    obtain ⟨q, hq, h⟩ := optR_inv h
    obtain ⟨a, vs, rfl, _, k1, k2, _⟩ := R.refD s rx e
    cases ry
    obtain ⟨v, hv, rv⟩ := lookup_R k2 hq
    refine .inr ⟨a, v, rfl, ?_, h.now s _ rv⟩
    have g := dget_of (z := z) k1
    rw [hv] at g
    exact g
  · refine .inl (h2 ρ H st x y v w Q E s rx ry ?_)
    have : oIxD x y st = oIx x y st := by
      unfold oIxD
      split
      · rename_i n z; exact absurd ⟨n, z, rfl, rfl⟩ hx
      · rfl
    rw [this] at h
    exact h
/-! d[k] = v -/
def dPutAt (z x : PV) : PV → Mo Unit
  | .ref n, st => match z with
    | .str z => withD st n fun ks xs => if ks.length < lim then .ok () (st.set n (.dic (dPut z x ks xs).1 (dPut z x ks xs).2)) else .stuck
    | _ => .stuck
  | _, _ => .stuck
def sDPutM (fo fi fv : PEnv → Mo PV) : PEnv → Mo Fl := fun env st => (fv env st).bind fun x st1 => (fo env st1).bind fun o st2 => (fi env st2).bind fun z st3 => (dPutAt z x o st3).bind fun _ st4 => .ok (.nx env) st4
theorem ms_dput {i value : Expr} {fi fv : PEnv → Mo PV} (hu : X.A.units + 200 < cLine) (ho : ME X Er o fo) (hi : ME X Er i fi) (hv : ME X Er value fv) (hs : swapsWith value (some (.Subscript o i pos')) pos.line X.env = pure false := by rfl) : MS X Er (.Assign [.Subscript o i pos'] value pos) (sDPutM fo fi fv) :=
  PS.weak (ps_dput (by omega) ho hi hv hs) fun D σ H ⟨env, st, ρ, re, rs, h⟩ => ⟨env, st, ρ, re, rs, h.then fun ρ1 H1 x st1 e1 s1 h1 v rv => ⟨env, st1, ρ1, re.ext e1, s1, h1.then fun ρ2 H2 y st2 e2 s2 h2 w rw => ⟨env, st2, ρ2, (re.ext e1).ext e2, s2, h2.then fun ρ3 H3 zz st3 e3 s3 h3 u ru => by
    cases y with
    | ref n =>
      cases zz with
      | str z =>
        cases hn : st3[n]? with
        | none => simp only [dPutAt, withD, hn] at h3; exact False.elim h3
        | some so =>
          cases so with
          | lst _ => simp only [dPutAt, withD, hn] at h3; exact False.elim h3
          | ins _ _ _ => simp only [dPutAt, withD, hn] at h3; exact False.elim h3
          | dic ks xs =>
            simp only [dPutAt, withD, hn] at h3
            by_cases hc : ks.length < lim
            · rw [if_pos hc] at h3
              obtain ⟨a, vs, e4, ha, k1, k2, k3⟩ := R.refD s3 (R.ext e3 _ rw) hn
              subst e4
              cases ru
              obtain ⟨ws, q1, q2, q3⟩ := dPut_R (z := z) (R.ext e3 x (R.ext e2 x rv)) k3 k2
              have hlen : (kz ks vs).length < sizeLine := by
                have : (kz ks vs).length = ks.length := by simp [kz, k3]
                rw [this, sizeLine_eq]
                have : ks.length < 1000000 := hc
                omega
              have g := DPut.k (k := Sum.inr z) (v := v) k1 hlen
              have ew : Ext ρ3 H3 ρ3 (upd H3 a (.dK (L2.putK (kz ks vs) (Sum.inr z) v))) := Ext.write k1 rfl
              refine ⟨a, _, rfl, g, h3 ρ3 _ ew (s3.write ha ⟨ws, by rw [upd_same, q1], Rs.ext ew _ q2, q3⟩) σ ((((re.ext e1).ext e2).ext e3).ext ew)⟩
            · rw [if_neg hc] at h3; exact False.elim h3
      | _ => exact False.elim h3
    | _ => exact False.elim h3⟩⟩⟩
end
end Mi

set_option Elab.async false
set_option linter.all false
set_option maxRecDepth 100000
set_option maxHeartbeats 4000000
/-! the mirror: in, not in; bits -/
namespace Mi
open PySem L2 PySem.W PySem.Spec
open Classical in
/-- the items' answers by their values -/
noncomputable def eIn (K : Frag) (mg : Str → Option Value) (ρ : List Addr) (H : Hp) (ys : List PV) (x : PV) (u : Value) : Bool := decide (∃ y v, y ∈ ys ∧ R K mg ρ H y v ∧ RelV v u ∧ eqP y x = true)
section
variable {X : Cx} {Er : XK} {K : Frag} {mg : Str → Option Value} {ρ : List Addr} {pins : List (Addr × Obj)} {σ : L2.St} {H : Hp} {s : Shared}
def okIn (x : PV) (ys : List PV) : Prop := Mi.plain x = true ∧ plains ys = true ∧ deps ys ≤ 150
instance (x : PV) (ys : List PV) : Decidable (okIn x ys) := by unfold okIn; infer_instance
theorem Rs.mem : ∀ {xs : List PV} {vs : List V} {us : List Value} {u : Value}, Rs K mg ρ H xs vs → Vals vs us → u ∈ us → ∃ y v, y ∈ xs ∧ R K mg ρ H y v ∧ RelV v u
  | [], _, _, _, h, hv, hu => by cases h; cases hv; cases hu
  | x :: xs, _, _, u, h, hv, hu => by
    obtain ⟨v, r, rfl, h1, h2⟩ := h
    cases hv with
    | cons r1 r2 =>
      rcases List.mem_cons.mp hu with rfl | hu
      · exact ⟨x, v, by simp, h1, r1⟩
      · obtain ⟨y, w, q1, q2, q3⟩ := Rs.mem h2 r2 hu
        exact ⟨y, w, by simp [q1], q2, q3⟩
theorem Rs.mem' : ∀ {xs : List PV} {vs : List V} {us : List Value} {y : PV}, Rs K mg ρ H xs vs → Vals vs us → y ∈ xs → ∃ u v, u ∈ us ∧ R K mg ρ H y v ∧ RelV v u
  | [], _, _, _, _, _, hy => by cases hy
  | x :: xs, _, _, y, h, hv, hy => by
    obtain ⟨v, r, rfl, h1, h2⟩ := h
    cases hv with
    | cons r1 r2 =>
      rcases List.mem_cons.mp hy with rfl | hy
      · exact ⟨_, v, by simp, h1, r1⟩
      · obtain ⟨u, w, q1, q2, q3⟩ := Rs.mem' h2 r2 hy
        exact ⟨u, w, by simp [q1], q2, q3⟩
open Classical in
/-- x in a row or a list of trees; a text in a dict; a sign in a text -/
def oIn (neg : Bool) : PV → PV → Mo PV
  | x, .tup ys, st => if okIn x ys then .ok (.bl (neg.xor (ys.any fun y => eqP y x))) st else .stuck
  | x, .frl ys, st => if okIn x ys then .ok (.bl (neg.xor (ys.any fun y => eqP y x))) st else .stuck
  | x, .ref n, st => match st[n]?, x with
    | some (.lst ys), x => if okIn x ys then .ok (.bl (neg.xor (ys.any fun y => eqP y x))) st else .stuck
    | some (.dic ks xs), .str z => .ok (.bl (neg.xor ((ks.zip xs).lookup z).isSome)) st
    | _, _ => .stuck
  | .str ⟨⟨[c]⟩⟩, .str z, st => .ok (.bl (neg.xor (decide (c ∈ z.cps.toList)))) st
  | _, _, _ => .stuck
/-! bits -/
end
end Mi

set_option Elab.async false
set_option linter.all false
set_option maxRecDepth 100000
set_option maxHeartbeats 4000000
/-! the mirror: [elt for x in iter] -/
namespace Mi
open PySem L2 PySem.W PySem.Spec
section
variable {X : Cx} {Er : XK} {pos : Pos}
/-- no error flies -/
abbrev XN : XK := fun _ _ _ => False
theorem throws_XN : Throws2 X XN := fun _ _ _ _ _ _ _ _ _ q => q.elim
def compL (fe : PEnv → Mo PV) (env : PEnv) : List PV → List PV → Mo PV
  | [], ys, st => .ok (.ref st.length) (st ++ [.lst ys])
  | x :: xs, ys, st => (noErr (fe (some x :: env) st)).bind fun y st1 => compL fe env xs (ys ++ [y]) st1
def compR (fe : PEnv → Mo PV) (env : PEnv) (n : Nat) : Nat → Nat → List PV → Mo PV
  | 0, _, _, _ => .stuck
  | m + 1, i, ys, st => withL st n fun xs => match xs[i]? with
    | none => .ok (.ref st.length) (st ++ [.lst ys])
    | some x => (noErr (fe (some x :: env) st)).bind fun y st1 => compR fe env n m (i + 1) (ys ++ [y]) st1
def compS (fe : PEnv → Mo PV) (env : PEnv) : Sq → Mo PV
  | .im xs, st => if xs.length ≤ lim then compL fe env xs [] st else .stuck
  | .rf n, st => compR fe env n (lim + 1) 0 [] st
def mComp (src : PEnv → Mo Sq) (fe : PEnv → Mo PV) : PEnv → Mo PV := fun env st => (src env st).bind fun q st1 => compS fe env q st1
theorem Rs.snoc {K : Frag} {mg : Str → Option Value} {ρ : List Addr} {H : Hp} {x : PV} {v : V} (r : R K mg ρ H x v) : ∀ {xs : List PV} {vs : List V}, Rs K mg ρ H xs vs → Rs K mg ρ H (xs ++ [x]) (vs ++ [v])
  | [], _, h => by cases h; exact ⟨v, [], rfl, r, rfl⟩
  | y :: xs, _, h => by
    obtain ⟨w, q, rfl, h1, h2⟩ := h
    exact ⟨w, q ++ [v], rfl, h1, Rs.snoc r h2⟩
theorem m_comp {elt iter : Expr} {x : Str} {px : Pos} {scope : Scope} {src : PEnv → Mo Sq} {fe : PEnv → Mo PV} {N : List Str} (hc : X.calm = true) (S : CompSc X.env.scope scope x) (eN : X.N = N) (hN0 : ((".0" : Str) :: x :: N).Nodup)
    (hi : MI X Er (.Name x px) iter src) (he : ∀ cl C s₂ H₂ fp, ME (cxC X scope cl x C s₂ H₂ fp (fun _ _ => False)) XN elt fe)
    (hs : ∀ v, foldedSetIterable iter X.env v = pure v := by intro _; rfl) : ME X Er (.ListComp elt [⟨.Name x px, iter, [], 0⟩] scope pos) (mComp src fe) :=
  PE.weak (pe_comp (te := tM X.K X.mg XN fe) hc S eN hN0 hi (fun cl C s₂ H₂ fp => he cl C s₂ H₂ fp) hs) fun σ H Q ⟨env, st, ρ, re, rs, h⟩ => ⟨env, st, ρ, re, rs, h.then fun ρ0 H0 q st0 e0 s0 h0 J wk => by
    cases q with
    | im xs =>
      obtain ⟨hl, h0⟩ := Out.ifp h0
      obtain ⟨w1, w2, w3⟩ := wk
      refine ⟨fun i m ys H => m = xs.length - i ∧ i ≤ xs.length ∧ ys.length = i ∧ ∃ ps st ρ, Rs X.K X.mg ρ H ps ys ∧ StR X.K X.mg ρ H st ∧ Ext ρ0 H0 ρ H ∧ Out X.K X.mg ρ H (compL fe env (xs.drop i) ps st) (gV X.K X.mg Q) Er, ⟨xs.length, by simp, Nat.zero_le _, rfl, [], st0, ρ0, rfl, s0, Ext.refl, h0⟩, ?_⟩
      rintro i m ys H ⟨rfl, hi, hy, ps, st, ρ, rps, rs, ex, h⟩
      by_cases hlt : i < xs.length
      · refine .inr ⟨w1 i ρ H ex hlt, lim_line (by omega), fun v H' y => ?_⟩
        obtain ⟨x, hx, ex2, s2, rx⟩ := w3 i ρ H st v H' ex rs hlt y
        have hd : xs.drop i = x :: xs.drop (i + 1) := by
          rw [List.drop_eq_getElem_cons hlt]
          have := (List.getElem?_eq_some_iff.mp hx).2
          rw [this]
        rw [hd] at h
        simp only [compL] at h
        refine ⟨some x :: env, st, ρ, (re.ext (e0.trans (ex.trans ex2))).cons rx, s2, noErr_out (Out.ext h ex2) fun ρ3 H3 y st3 e3 s3 h3 v ry => ⟨xs.length - (i + 1), by omega, rfl, hlt, by simp [hy], ps ++ [y], st3, ρ3, Rs.snoc ry (Rs.ext (ex2.trans e3) ps rps), s3, (ex.trans ex2).trans e3, h3⟩⟩
      · have e : i = xs.length := by omega
        subst e
        rw [List.drop_length] at h
        exact .inl ⟨w2 _ ρ H ex (Nat.le_refl _), lim_line (by omega), fun l hl => Out.newList h rs rps hl⟩
    | rf n =>
      obtain ⟨a, ha, rfl⟩ := wk
      refine ⟨fun i m ys H => m + i = lim + 1 ∧ ys.length = i ∧ ∃ ps st ρ, Rs X.K X.mg ρ H ps ys ∧ StR X.K X.mg ρ H st ∧ Ext ρ0 H0 ρ H ∧ ρ[n]? = some a ∧ Out X.K X.mg ρ H (compR fe env n m i ps st) (gV X.K X.mg Q) Er, ⟨lim + 1, rfl, rfl, [], st0, ρ0, rfl, s0, Ext.refl, ha, h0⟩, ?_⟩
      rintro i m ys H ⟨hm, hy, ps, st, ρ, rps, rs, ex, ha, h⟩
      cases m with
      | zero => exact False.elim h
      | succ m =>
        obtain ⟨xs, hn, h⟩ := withL_inv h
        obtain ⟨vs, hH, hR⟩ := rs.addr hn ha
        cases hx : xs[i]? with
        | none =>
          simp only [hx] at h
          have : vs.length ≤ i := by rw [← hR.len]; exact List.getElem?_eq_none_iff.mp hx
          exact .inl ⟨⟨vs, SqL.of hH, this⟩, lim_line (by omega), fun l hl => Out.newList h rs rps hl⟩
        | some x =>
          simp only [hx] at h
          obtain ⟨v, hv, rv⟩ := hR.get hx
          refine .inr ⟨⟨vs, v, SqL.of hH, hv⟩, lim_line (by omega), fun v' H' y => ?_⟩
          obtain ⟨e1, y⟩ := y
          subst e1
          have e2 := y vs (SqL.of hH)
          rw [hv] at e2
          cases e2
          exact ⟨some x :: env, st, ρ, (re.ext (e0.trans ex)).cons rv, rs, noErr_out h fun ρ3 H3 y st3 e3 s3 h3 v ry => ⟨m, Nat.lt_succ_self m, by omega, by simp [hy], ps ++ [y], st3, ρ3, Rs.snoc ry (Rs.ext e3 ps rps), s3, ex.trans e3, e3.get ha, h3⟩⟩⟩
end
end Mi

set_option Elab.async false
set_option linter.all false
set_option maxRecDepth 100000
set_option maxHeartbeats 4000000
/-! the mirror: arguments by their kinds, quickly -/
namespace Mi
open PySem L2 PySem.W PySem.Spec
section
variable {env : Env} {es : List Expr} {pos : Pos}
abbrev St1 (e : Expr) (es : List Expr) (env : Env) : Prop := starEach (e :: es) env = (false, eval e env) :: starEach es env
theorem st_Constant {c j} : St1 (.Constant c j pos) es env := (rfl)
theorem st_Name {x} : St1 (.Name x pos) es env := (rfl)
theorem st_Call {f a k} : St1 (.Call f a k pos) es env := (rfl)
theorem st_BinOp {a o b} : St1 (.BinOp a o b pos) es env := (rfl)
theorem st_Compare {a o b} : St1 (.Compare a o b pos) es env := (rfl)
theorem st_Subscript {a b} : St1 (.Subscript a b pos) es env := (rfl)
theorem st_Tuple {a b} : St1 (.Tuple a b pos) es env := (rfl)
theorem st_ListComp {a b c} : St1 (.ListComp a b c pos) es env := (rfl)
theorem st_UnaryOp {a b} : St1 (.UnaryOp a b pos) es env := (rfl)
end
end Mi

set_option Elab.async false
set_option linter.all false
set_option maxRecDepth 100000
set_option maxHeartbeats 4000000
namespace L2
open PySem PySem.Spec PyProof.Rows PySem.W
end L2

set_option Elab.async false
set_option linter.all false
set_option maxRecDepth 100000
set_option maxHeartbeats 4000000
namespace L2
open PySem PySem.Spec PyProof.Rows PySem.W
abbrev ZB (h : Heap) (z TI TO T : Addr) (f : Bool) : Prop := h.get? z = some { cls := .type "zip", dict := none, data := .fields #[rawInt T, .bool f, .bool false, .ref TI, .ref TO], slots := #[] }
section
variable {prog : Program} {w : World} {A : Around} {E : Value → Shared → Prop} {s : Shared} {z TI TO T i1 i2 t1 t2 : Addr} {k : Nat} {xs ys : Array Value} {x y a b : Value} {S1 S2 : Nat → Heap → Prop} {f : Bool} {o : Obj}
end
end L2

set_option Elab.async false
set_option linter.all false
set_option maxRecDepth 100000
set_option maxHeartbeats 4000000
namespace L2
open PySem PySem.Spec PyProof.Rows PySem.W
/-- zip of two tuples at step k, whatever was handed out -/
structure ZS (z TI TO i1 i2 a b : Addr) (xs ys : Array Value) (k : Nat) (h : Heap) : Prop where
  zi : (IsZip h z TI TO .none ∧ ∃ u v, IsPair h TO u v) ∨ ∃ T f o, ZB h z TI TO T f ∧ h.get? T = some o
  ti : IsPair h TI (.ref i1) (.ref i2)
  s1 : StT i1 a xs k h
  s2 : StT i2 b ys k h
section
variable {prog : Program} {w : World} {A : Around} {E : Value → Shared → Prop} {s : Shared} {z TI TO i1 i2 a b : Addr} {k : Nat} {xs ys : Array Value} {x y : Value}
theorem ZS.type (st : ZS z TI TO i1 i2 a b xs ys k s.heap) : s.TypeIs (.ref z) "zip" := by
  rcases st.zi with ⟨hz, _⟩ | ⟨T, f, o, hz, _⟩ <;> exact ⟨_, hz, rfl⟩
end
end L2

set_option Elab.async false
set_option linter.all false
set_option maxRecDepth 100000
set_option maxHeartbeats 4000000
namespace L2
open PySem PySem.Spec PyProof.Rows PySem.W
structure Ap (d z TI TO i1 i2 a b : Addr) : Prop where
  z : d ≠ z
  TI : d ≠ TI
  TO : d ≠ TO
  i1 : d ≠ i1
  i2 : d ≠ i2
  a : d ≠ a
  b : d ≠ b
section
variable {prog : Program} {w : World} {A : Around} {R : Result → Shared → Prop} {z TI TO i1 i2 a b d : Addr} {xs ys : Array Value} {keys : List Key} {vals : List V}
theorem ZS.keep {k : Nat} {h h' : Heap} (st : ZS z TI TO i1 i2 a b xs ys k h) (P : Ap d z TI TO i1 i2 a b) (hs : Heap.SameBut d h h') (hd : ∃ o, h'.get? d = some o) : ZS z TI TO i1 i2 a b xs ys k h' := by
  have up : ∀ c o, c ≠ d → h.get? c = some o → h'.get? c = some o := fun c o n e => hs.extBut _ _ n e
  obtain ⟨⟨⟨o1, g1, r1⟩, ⟨p1, e1, t1⟩⟩, ⟨⟨o2, g2, r2⟩, ⟨p2, e2, t2⟩⟩⟩ := And.intro st.s1 st.s2
  refine ⟨?_, up _ _ P.TI.symm st.ti, ⟨⟨o1, up _ _ P.i1.symm g1, r1⟩, ⟨p1, up _ _ P.a.symm e1, t1⟩⟩, ⟨⟨o2, up _ _ P.i2.symm g2, r2⟩, ⟨p2, up _ _ P.b.symm e2, t2⟩⟩⟩
  rcases st.zi with ⟨hz, u, v, hTO⟩ | ⟨T, f, o, hz, hT⟩
  · exact .inl ⟨up _ _ P.z.symm hz, u, v, up _ _ P.TO.symm hTO⟩
  · by_cases e : T = d
    · obtain ⟨o', ho'⟩ := hd
      exact .inr ⟨T, f, o', up _ _ P.z.symm hz, by rw [e]; exact ho'⟩
    · exact .inr ⟨T, f, o, up _ _ P.z.symm hz, up _ _ e hT⟩
end
end L2

set_option Elab.async false
set_option linter.all false
set_option maxRecDepth 100000
set_option maxHeartbeats 4000000
namespace L2
open PySem PySem.Spec PyProof.Rows PySem.W
section
variable {prog : Program} {w : World} {A : Around} {E : Value → Shared → Prop} {s : Shared} {z TI TO i1 i2 a b : Addr} {xs ys : Array Value} {keys : List Key} {vals : List V}
theorem ZS.push {k : Nat} {h h' : Heap} (st : ZS z TI TO i1 i2 a b xs ys k h) (up : ∀ c o, h.get? c = some o → h'.get? c = some o) : ZS z TI TO i1 i2 a b xs ys k h' := by
  obtain ⟨⟨⟨o1, g1, r1⟩, ⟨p1, e1, t1⟩⟩, ⟨⟨o2, g2, r2⟩, ⟨p2, e2, t2⟩⟩⟩ := And.intro st.s1 st.s2
  refine ⟨?_, up _ _ st.ti, ⟨⟨o1, up _ _ g1, r1⟩, ⟨p1, up _ _ e1, t1⟩⟩, ⟨⟨o2, up _ _ g2, r2⟩, ⟨p2, up _ _ e2, t2⟩⟩⟩
  rcases st.zi with ⟨hz, u, v, hTO⟩ | ⟨T, f, o, hz, hT⟩
  · exact .inl ⟨up _ _ hz, u, v, up _ _ hTO⟩
  · exact .inr ⟨T, f, o, up _ _ hz, up _ _ hT⟩
end
end L2

set_option Elab.async false
set_option linter.all false
set_option maxRecDepth 100000
set_option maxHeartbeats 4000000
/-! try: value, a suite that may return; methods without arguments within try; x.pop(); o.f += e; dict(zip(x, y)) -/
namespace L2
open PySem PySem.Spec PyProof.Rows PySem.W
end L2
namespace Mi
open PySem L2 PySem.W PySem.Spec
section
variable {X : Cx} {K : Frag} {mg : Str → Option Value} {Er : XK} {e o : Expr} {es : List Expr} {pos p apos : Pos} {k : Nat} {x : Str} {m : List PV → Mo PV} {fs : PEnv → Mo (List PV)} {fo fa : PEnv → Mo PV}
end
end Mi

set_option Elab.async false
set_option linter.all false
set_option maxRecDepth 100000
set_option maxHeartbeats 4000000
namespace Mi
open PySem L2 PySem.W PySem.Spec
section
variable {X : Cx} {K : Frag} {mg : Str → Option Value} {Er : XK} {e o : Expr} {es : List Expr} {pos p apos : Pos} {fs : PEnv → Mo (List PV)} {fo fa : PEnv → Mo PV}
/-! x.pop() -/
theorem Rs.dropLast : ∀ {ρ : List Addr} {H : Hp} {xs : List PV} {vs : List V}, Rs K mg ρ H xs vs → Rs K mg ρ H xs.dropLast vs.dropLast := by
  intro ρ H xs vs h
  rw [List.dropLast_eq_take, List.dropLast_eq_take, h.len]
  exact h.take _
/-! o.f += e, numbers -/
/-! dict(zip(x, y)) -/
end
end Mi

set_option Elab.async false
set_option linter.all false
set_option maxRecDepth 100000
set_option maxHeartbeats 4000000
namespace L2
open PySem PySem.Spec PyProof.Rows PySem.W
end L2

set_option Elab.async false
set_option linter.all false
set_option maxRecDepth 100000
set_option maxHeartbeats 4000000
namespace Mi
open PySem L2 PySem.W PySem.Spec
section
variable {X : Cx} {Er : XK} {pos : Pos} {sts : List Stmt} {gb : PEnv → Mo Fl} {fs : PEnv → Mo (List PV)}
def forE (g : PV → PEnv → Option PEnv) (body : PEnv → Mo Fl) (n : Nat) : Nat → Nat → PEnv → Mo Fl
  | 0, _, _, _ => .stuck
  | m + 1, i, env, st => withL st n fun xs => match xs[i]? with
    | none => .ok (.nx env) st
    | some x => match g (.tup [.int i, x]) env with
      | none => .stuck
      | some env1 => (body env1 st).bind fun fl st2 => match fl with
        | .nx e => forE g body n m (i + 1) e st2
        | .ct e => forE g body n m (i + 1) e st2
        | .bk e => .ok (.nx e) st2
        | .rt v => .ok (.rt v) st2
def oneL : List PV → Mo Nat
  | [.ref n], st => withL st n fun _ => .ok n st
  | _, _ => .stuck
theorem oneL_inv {α : Type} {K : Frag} {mg : Str → Option Value} {ρ : List Addr} {H : Hp} {vs : List PV} {st : Sto} {f : Nat → Mo α} {good : List Addr → Hp → α → Sto → Prop} (h : Out K mg ρ H ((oneL vs st).bind f) good Er) : ∃ n xs, vs = [.ref n] ∧ st[n]? = some (.lst xs) ∧ Out K mg ρ H (f n st) good Er := by
  unfold oneL at h
  split at h
  · rename_i n
    unfold withL at h
    cases hn : st[n]? with
    | none => simp only [hn] at h; exact False.elim h
    | some so =>
      cases so with
      | lst xs => simp only [hn] at h; exact ⟨n, xs, rfl, hn, h⟩
      | _ => simp only [hn] at h; exact False.elim h
  · exact False.elim h
def sForE (fs : PEnv → Mo (List PV)) (g : PV → PEnv → Option PEnv) (body : PEnv → Mo Fl) : PEnv → Mo Fl := fun env st => (fs env st).bind fun vs st1 => (oneL vs st1).bind fun n st1 => forE g body n (lim + 1) 0 env st1
end
end Mi

set_option Elab.async false
set_option linter.all false
set_option maxRecDepth 100000
set_option maxHeartbeats 4000000
/-! comprehensions with several own names and a test -/
namespace L2
open PySem PySem.Spec PyProof.Rows PySem.W
structure CompSN (sc scope : Scope) (xs : List Str) : Prop where
  kind : scope.kind = .function
  ncell : ∀ y ∈ scope.names, y.2 ≠ .cell
  names : ∀ y ∈ scope.names, y.2 = .local → scope.names.lookup y.1 = some .local ∧ (y.1 ∈ xs ∨ y.1 = ".0")
  free : ∀ y ∈ scope.names, y.2 = .free → sc.names.lookup y.1 = some .cell
section
variable {X : Cx} {scope : Scope} {xs : List Str}
end
/-- the tests of a comprehension -/
def PTs (X : Cx) (ifs : List Expr) (t : TT) : Prop := ∀ (pins : List (Addr × Obj)) (s : Shared) (σ : St) (H : Hp) (Q : Bool → Hp → Prop), Inv X pins σ H s → t σ H Q →
  wpAny (model X.prog X.w) X.A (forIn ifs true fun c r => if r = true then do let ok ← isTrue c X.env (eval c X.env); pure (ForInStep.yield ok) else pure (ForInStep.yield r)) (TP X pins σ Q) X.xe s
theorem PTs.nox {X : Cx} {ifs : List Expr} {t : TT} (h : PTs X.nox ifs t) : PTs X ifs t := fun pins s σ H Q I hw =>
  wpAny_mono (h pins s σ H Q (I.wish _) hw) (fun b s' ⟨H', I', q⟩ => ⟨H', I'.unwish, q⟩) fun _ _ z => z.elim
end L2

set_option Elab.async false
set_option linter.all false
set_option maxRecDepth 100000
set_option maxHeartbeats 4000000
namespace Mi
open PySem L2 PySem.W PySem.Spec
section
variable {X : Cx} {Er : XK} {pos : Pos} {fs : PEnv → Mo (List PV)}
/-- [elt for x, y in enumerate(e) if c] -/
def compE (ft : PEnv → Mo Bool) (fe : PEnv → Mo PV) (env : PEnv) (n : Nat) : Nat → Nat → List PV → Mo PV
  | 0, _, _, _ => .stuck
  | m + 1, i, ys, st => withL st n fun xs => match xs[i]? with
    | none => .ok (.ref st.length) (st ++ [.lst ys])
    | some x => (noErr (ft (some (.int i) :: some x :: env) st)).bind fun b st1 => if b = true then (noErr (fe (some (.int i) :: some x :: env) st1)).bind fun y st2 => compE ft fe env n m (i + 1) (ys ++ [y]) st2
      else compE ft fe env n m (i + 1) ys st1
def mCompE (fs : PEnv → Mo (List PV)) (ft : PEnv → Mo Bool) (fe : PEnv → Mo PV) : PEnv → Mo PV := fun env st => (fs env st).bind fun vs st1 => (oneL vs st1).bind fun n st1 => compE ft fe env n (lim + 1) 0 [] st1
end
end Mi

set_option Elab.async false
set_option linter.all false
set_option maxRecDepth 100000
set_option maxHeartbeats 4000000
/-! sum, str of a number, a text times a number, isalpha, x[::-1], lists of written texts -/
namespace L2
open PySem PySem.Spec PyProof.Rows PySem.W
theorem ints_of_vals : ∀ {is : List Int} {its : List Value}, Vals (is.map V.int) its → (∀ v ∈ its, ∃ a t, v = Value.int a t) ∧ numsOf its = is
  | [], _, .nil => ⟨fun _ h => absurd h (by simp), rfl⟩
  | i :: is, _, .cons r rs => by
    obtain ⟨t, rfl⟩ := r
    obtain ⟨h1, h2⟩ := ints_of_vals rs
    refine ⟨fun v hv => ?_, by show i :: numsOf _ = _; rw [h2]⟩
    rcases List.mem_cons.mp hv with q | q
    · exact ⟨i, t, q⟩
    · exact h1 v q
theorem call_sumL {X : Cx} (hc : X.calm = true) : CallR X (.builtin "sum") (fun xs H Q => ∃ (a : Addr) (is : List Int), xs = [V.ref a] ∧ SqL X.K H a (is.map V.int) ∧ Q (.int is.sum) H) := by
  intro pins s σ H xs us Q I r h
  obtain ⟨a, is, rfl, hq, q⟩ := h
  obtain ⟨u, rfl, ru⟩ := r.one
  obtain rfl : u = Value.ref a := ru
  obtain ⟨its, rv, p, hz⟩ := I.list hq
  obtain ⟨h1, h2⟩ := ints_of_vals rv
  obtain ⟨ys, e⟩ := AllInts.items (vs := its.toArray) (fun v hv => h1 v (by simpa using hv))
  have hl := p.isList
  rw [e] at hl
  refine sum_intListG (I.ok.hd hc) hl fun h' tk t' hk => ?_
  have es : preSum (numAt ys) ys.size = is.sum := by
    rw [preSum_eq, List.take_of_length_le (by simp), ← nums_intItems, ← e]
    show (numsOf its).sum = _
    rw [h2]
  rw [es]
  exact ⟨.int is.sum, H, I.kept (t' := tk) hk, ⟨_, rfl⟩, q⟩
/-- a text so many times -/
def repS (z : Str) (n : Int) : Str := if n < 1 then Str.empty else if (n == 1 || z.length == 0) = true then z else ⟨(List.replicate n.toNat z.cps).foldl (· ++ ·) #[]⟩
theorem foldl_size (c : Array Nat) : ∀ (k : Nat) (a : Array Nat), ((List.replicate k c).foldl (· ++ ·) a).size = a.size + k * c.size
  | 0, a => by simp
  | k + 1, a => by
    rw [List.replicate_succ, List.foldl_cons, foldl_size c k, Array.size_append, Nat.succ_mul]
    omega
theorem repS_len (z : Str) (n : Int) : (repS z n).length = n.toNat * z.length := by
  unfold repS
  split
  · rename_i h
    have : n.toNat = 0 := by omega
    rw [this, Nat.zero_mul]; rfl
  · rename_i h
    split
    · rename_i h2
      simp only [Bool.or_eq_true, beq_iff_eq] at h2
      rcases h2 with h2 | h2
      · subst h2; simp
      · rw [h2]; simp
    · show ((List.replicate n.toNat z.cps).foldl (· ++ ·) #[]).size = _
      rw [foldl_size]
      show 0 + n.toNat * z.cps.size = _
      rw [Nat.zero_add]; rfl
def rMulS : R2 := fun x y H Q => ∃ z n, x = .str z ∧ y = .int n ∧ (0 ≤ n ∧ n ≤ 1000 ∧ z.length ≤ 1000) ∧ Q (.str (repS z n)) H
theorem op_mulS {X : Cx} : OpR X (binaryOp .Mult) rMulS := by
  intro pins s σ H x y v u Q I rx ry h
  obtain ⟨z, n, rfl, rfl, ⟨h0, h1, h2⟩, q⟩ := h
  obtain ⟨t, rfl⟩ := rx
  obtain ⟨t', rfl⟩ := ry
  have hb : n.toNat * z.length ≤ 1000000 := by
    have : n.toNat ≤ 1000 := by omega
    calc n.toNat * z.length ≤ 1000 * 1000 := Nat.mul_le_mul this h2
      _ = 1000000 := rfl
  have hsz := sizeLine_eq
  refine PySem.P.mul_str (by rw [decide_eq_false (by omega), decide_eq_false (by omega)]; rfl) (fun ha _ => ?_) (fun _ _ => ?_) ?_
  · have : (2 ^ 63 - 1 : Int) / n ≥ 1000 := by
      rw [ge_iff_le, Int.le_ediv_iff_mul_le (by omega)]
      omega
    omega
  · show decide _ = false
    rw [decide_eq_false_iff_not]
    have : z.length * n.toNat ≤ 1000000 := by rw [Nat.mul_comm]; exact hb
    rw [sizeLine_eq]; omega
  · by_cases c1 : n < 1
    · rw [if_pos c1]
      have e : repS z n = Str.empty := by unfold repS; rw [if_pos c1]
      rw [e] at q
      exact ⟨by decide, .str Str.empty, H, I.tok _, ⟨_, rfl⟩, q⟩
    · rw [if_neg c1]
      by_cases c2 : (n == 1 || z.length == 0) = true
      · rw [if_pos c2]
        have e : repS z n = z := by unfold repS; rw [if_neg c1, if_pos c2]
        rw [e] at q
        exact ⟨.str z, H, I, ⟨_, rfl⟩, q⟩
      · rw [if_neg c2]
        have e : repS z n = ⟨(List.replicate n.toNat z.cps).foldl (· ++ ·) #[]⟩ := by unfold repS; rw [if_neg c1, if_neg c2]
        have hl := repS_len z n
        rw [e] at q hl
        exact ⟨by rw [hl, sizeLine_eq]; omega, .str _, H, I.tok _, ⟨_, rfl⟩, q⟩
end L2
namespace Mi
open PySem L2 PySem.W PySem.Spec
section
variable {X : Cx} {K : Frag} {mg : Str → Option Value} {Er : XK} {e o : Expr} {es : List Expr} {pos apos : Pos} {fs : PEnv → Mo (List PV)} {fo fa : PEnv → Mo PV}
def oAlpha : PV → Mo PV := fun x st => match x with
  | .str z => .ok (.bl (Txt.isalpha z)) st
  | _ => .stuck
/-- * of numbers, of a text and a number -/
def oMulT : PV → PV → Mo PV
  | .int i, .int j, st => oMul (.int i) (.int j) st
  | .str z, .int n, st => if 0 ≤ n ∧ n ≤ 1000 ∧ z.length ≤ 1000 then .ok (.str (repS z n)) st else .stuck
  | _, _, _ => .stuck
theorem b_mulT : BinOk X .Mult oMulT := by
  obtain ⟨r, h1, h2⟩ := b_mul (X := X)
  refine ⟨fun x y H Q => r x y H Q ∨ rMulS x y H Q, h1.or op_mulS, fun ρ H st x y v w Q E s rx ry h => ?_⟩
  cases x with
  | int i =>
    cases y with
    | int j => exact .inl (h2 ρ H st (.int i) (.int j) v w Q E s rx ry h)
    | _ => exact False.elim h
  | str z =>
    cases y with
    | int n =>
      obtain ⟨c, h⟩ := Out.ifp h
      cases rx; cases ry
      exact .inr ⟨z, n, rfl, rfl, c, Out.now (x := PV.str (repS z n)) h s _ rfl⟩
    | _ => exact False.elim h
  | _ => exact False.elim h
def intsP : List PV → Option (List Int)
  | [] => some []
  | .int i :: r => (intsP r).map (i :: ·)
  | _ :: _ => none
theorem intsP_R {ρ : List Addr} {H : Hp} : ∀ {xs : List PV} {is : List Int} {vs : List V}, intsP xs = some is → Rs K mg ρ H xs vs → vs = is.map V.int
  | [], is, vs, e, h => by cases e; cases h; rfl
  | .int i :: r, is, vs, e, h => by
    simp only [intsP, Option.map_eq_some_iff] at e
    obtain ⟨ir, e1, rfl⟩ := e
    obtain ⟨v, r', rfl, h1, h2⟩ := h
    cases h1
    rw [intsP_R e1 h2]
    rfl
  | .non :: _, _, _, e, _ => by cases e
  | .bl _ :: _, _, _, e, _ => by cases e
  | .str _ :: _, _, _, e, _ => by cases e
  | .ty _ :: _, _, _, e, _ => by cases e
  | .tup _ :: _, _, _, e, _ => by cases e
  | .frl _ :: _, _, _, e, _ => by cases e
  | .ref _ :: _, _, _, e, _ => by cases e
  | .fn _ :: _, _, _, e, _ => by cases e
  | .kd _ _ :: _, _, _, e, _ => by cases e
  | .exo _ _ _ :: _, _, _, e, _ => by cases e
def oSum : List PV → Mo PV := fun vs st => (oneL vs st).bind fun n st => withL st n fun xs => match intsP xs with
  | some is => .ok (.int is.sum) st
  | none => .stuck
theorem f_sum (hc : X.calm = true) : BltOk X (.builtin "sum") oSum := ⟨_, call_sumL hc, fun ρ H st xs vs Q E s r h => by
  obtain ⟨n, ys, rfl, hn, h⟩ := oneL_inv h
  obtain ⟨xs', hn', h⟩ := withL_inv h
  obtain ⟨v, rfl, rv⟩ := r.one
  obtain ⟨a, rfl, ha⟩ := rv
  obtain ⟨ws, hH, hR⟩ := s.addr hn' ha
  cases hi : intsP xs' with
  | none => simp only [hi] at h; exact False.elim h
  | some is =>
    simp only [hi] at h
    have e := intsP_R hi hR
    subst e
    exact ⟨a, is, rfl, SqL.of hH, Out.now (x := PV.int is.sum) h s _ rfl⟩⟩
theorem bt_sum : bootBuiltins "sum" = some (.builtin "sum") := by decide +kernel
def oStr : List PV → Mo PV
  | [.int i], st => if i.natAbs.log2 < 1920 then .ok (.str (toString i)) st else .stuck
  | _, _ => .stuck
/-! x[::-1] -/
def oRev (o : PV) (k : Option Int) : Mo PV := fun st => match o, k with
  | .ref n, some (-1) => withL st n fun xs => .ok (.ref st.length) (st ++ [.lst xs.reverse])
  | _, _ => .stuck
def mRev (fa : PEnv → Mo PV) (fk : PEnv → Mo (Option Int)) : PEnv → Mo PV := fun env st => (fa env st).bind fun x st1 => (fk env st1).bind fun k st2 => oRev x k st2
theorem Rs.reverse {ρ : List Addr} {H : Hp} : ∀ {xs : List PV} {vs : List V}, Rs K mg ρ H xs vs → Rs K mg ρ H xs.reverse vs.reverse
  | [], _, h => by cases h; rfl
  | x :: xs, _, h => by
    obtain ⟨v, r, rfl, h1, h2⟩ := h
    rw [List.reverse_cons, List.reverse_cons]
    exact (Rs.reverse h2).append ⟨v, [], rfl, h1, rfl⟩
/-! a list of written texts -/
def aStrs (zs : List Str) : PEnv → Mo (List PV) := fun _ st => .ok (zs.map PV.str) st
end
end Mi

set_option Elab.async false
set_option linter.all false
set_option maxRecDepth 100000
set_option maxHeartbeats 4000000
/-! how the newer mirrors are reckoned -/
namespace Mi
open PySem L2 PySem.W PySem.Spec
section
variable {env : PEnv} {st : Sto} {fa fb fo fi fv fe : PEnv → Mo PV} {fs : PEnv → Mo (List PV)} {ft : PEnv → Mo Bool} {g : PEnv → Mo Fl} {src : PEnv → Mo Sq}
@[simp] theorem q_ixDT (xs : List PV) (i : Int) : oIxD (.tup xs) (.int i) st = optR (atI xs i) st := (rfl)
@[simp] theorem q_ixDF (xs : List PV) (i : Int) : oIxD (.frl xs) (.int i) st = optR (atI xs i) st := (rfl)
@[simp] theorem q_ixDR (n : Nat) (i : Int) : oIxD (.ref n) (.int i) st = withL st n fun xs => optR (atI xs i) st := (rfl)
@[simp] theorem q_ixDS (z : Str) (i : Int) : oIxD (.str z) (.int i) st = if z.length ≤ lim then optR ((atI z.cps.toList i).map fun c => .str ⟨#[c]⟩) st else .stuck := (rfl)
@[simp] theorem q_mComp : mComp src fe env st = (src env st).bind fun q st1 => compS fe env q st1 := (rfl)
@[simp] theorem q_compI (xs : List PV) : compS fe env (.im xs) st = if xs.length ≤ lim then compL fe env xs [] st else .stuck := (rfl)
@[simp] theorem q_iRng1 : iRng1 fs env st = (fs env st).bind rng1 := (rfl)
@[simp] theorem q_rng1 (j : Int) : rng1 [.int j] st = if cR j = true then .ok (.im (nums 0 j.toNat)) st else .stuck := (rfl)
@[simp] theorem q_mCompE : mCompE fs ft fe env st = (fs env st).bind fun vs st1 => (oneL vs st1).bind fun n st1 => compE ft fe env n (lim + 1) 0 [] st1 := (rfl)
@[simp] theorem q_sForE (gt : PV → PEnv → Option PEnv) : sForE fs gt g env st = (fs env st).bind fun vs st1 => (oneL vs st1).bind fun n st1 => forE gt g n (lim + 1) 0 env st1 := (rfl)
@[simp] theorem q_oneL (n : Nat) : oneL [.ref n] st = withL st n fun _ => .ok n st := (rfl)
@[simp] theorem q_aStrs (zs : List Str) : aStrs zs env st = .ok (zs.map PV.str) st := (rfl)
@[simp] theorem q_oStr (i : Int) : oStr [.int i] st = if i.natAbs.log2 < 1920 then .ok (.str (toString i)) st else .stuck := (rfl)
@[simp] theorem q_oAlpha (z : Str) : oAlpha (.str z) st = .ok (.bl (Txt.isalpha z)) st := (rfl)
@[simp] theorem q_mulTI (i j : Int) : oMulT (.int i) (.int j) st = if cMul i j = true then .ok (.int (i * j)) st else .stuck := (rfl)
@[simp] theorem q_mulTS (z : Str) (n : Int) : oMulT (.str z) (.int n) st = if 0 ≤ n ∧ n ≤ 1000 ∧ z.length ≤ 1000 then .ok (.str (repS z n)) st else .stuck := (rfl)
@[simp] theorem q_mRev (fk : PEnv → Mo (Option Int)) : mRev fa fk env st = (fa env st).bind fun x st1 => (fk env st1).bind fun k st2 => oRev x k st2 := (rfl)
@[simp] theorem q_oRev (n : Nat) : oRev (.ref n) (some (-1)) st = withL st n fun xs => .ok (.ref st.length) (st ++ [.lst xs.reverse]) := (rfl)
@[simp] theorem q_oSum (vs : List PV) : oSum vs st = (oneL vs st).bind fun n st => withL st n fun xs => match intsP xs with | some is => .ok (.int is.sum) st | none => .stuck := (rfl)
@[simp] theorem q_inT (neg : Bool) (x : PV) (ys : List PV) : oIn neg x (.tup ys) st = if okIn x ys then .ok (.bl (neg.xor (ys.any fun y => eqP y x))) st else .stuck := by unfold oIn; cases x <;> rfl
@[simp] theorem q_slR (n : Nat) (l u : Option Int) : oSl (.ref n) l u st = withL st n fun xs => .ok (.ref st.length) (st ++ [.lst (cutP xs l u)]) := (rfl)
@[simp] theorem q_tupR (n : Nat) : oTuple [.ref n] st = withL st n fun xs => .ok (.tup xs) st := (rfl)
@[simp] theorem q_append (n : Nat) (y : PV) : oAppend (.ref n) y st = withL st n fun xs => if xs.length < lim then .ok .non (st.set n (.lst (xs ++ [y]))) else .stuck := (rfl)
end
/-- a store that only grew -/
def Pre (a b : Sto) : Prop := ∃ d, b = a ++ d
theorem Pre.refl (st : Sto) : Pre st st := ⟨[], by simp⟩
theorem Pre.trans {a b c : Sto} (h : Pre a b) (h' : Pre b c) : Pre a c := by obtain ⟨d, rfl⟩ := h; obtain ⟨d', rfl⟩ := h'; exact ⟨d ++ d', by simp⟩
theorem Pre.of (st d : Sto) : Pre st (st ++ d) := ⟨d, rfl⟩
theorem Pre.get {a b : Sto} (h : Pre a b) {n : Nat} {so : SO} (e : a[n]? = some so) : b[n]? = some so := by
  obtain ⟨d, rfl⟩ := h
  rw [List.getElem?_append_left (List.getElem?_eq_some_iff.mp e).1]
  exact e
theorem top_get (st : Sto) (so : SO) : (st ++ [so])[st.length]? = some so := by simp
theorem compR_map {fe : PEnv → Mo PV} {env : PEnv} {f : PV → PV} {st : Sto} {n : Nat} {xs : List PV} (hn : st[n]? = some (.lst xs)) (h : ∀ x ∈ xs, fe (some x :: env) st = .ok (f x) st) :
    ∀ (k i : Nat) (m : Nat) (ys : List PV), xs.length - i = k → i ≤ xs.length → k < m → compR fe env n m i ys st = .ok (.ref st.length) (st ++ [.lst (ys ++ (xs.drop i).map f)]) := by
  intro k
  induction k with
  | zero =>
    intro i m ys hk hi hm
    obtain ⟨m', rfl⟩ : ∃ m', m = m' + 1 := ⟨m - 1, by omega⟩
    have hi' : i = xs.length := by omega
    subst hi'
    simp [compR, withL, hn]
  | succ k ih =>
    intro i m ys hk hi hm
    obtain ⟨m', rfl⟩ : ∃ m', m = m' + 1 := ⟨m - 1, by omega⟩
    have hlt : i < xs.length := by omega
    have e : xs[i]? = some xs[i] := by simp [hlt]
    simp only [compR, withL, hn, e, h xs[i] (List.getElem_mem hlt), noErr_ok, bind_ok]
    rw [ih (i + 1) m' _ (by omega) (by omega) (by omega), List.drop_eq_getElem_cons hlt]
    rw [List.map_cons, List.append_assoc, List.singleton_append]
/-- no class is asked for -/
theorem isF_none {K : Frag} {mg : Str → Option Value} {t : IsT} (hs : t.sub = fun _ _ => none) (hT : t.subT = fun _ _ => none) (hC : t.tyC = fun _ _ => none) : IsF K mg t where
  s c B b h := by rw [hs] at h; cases h
  tt c n b h := by rw [hT] at h; cases h
  u T B b h := by rw [hC] at h; cases h
  x c C h hm z := by
    rcases z with ⟨B, b, z⟩ | ⟨n, b, z⟩
    · rw [hs] at z; cases z
    · rw [hT] at z; cases z
  i c C h hm z := by
    rcases z with ⟨B, b, z⟩ | ⟨n, b, z⟩
    · rw [hs] at z; cases z
    · rw [hT] at z; cases z
end Mi

set_option Elab.async false
set_option linter.all false
set_option maxRecDepth 100000
set_option maxHeartbeats 4000000
/-! {'a': e, ..}, keys written texts -/
namespace Mi
open PySem L2 PySem.W PySem.Spec
section
variable {X : Cx} {Er : XK} {pos : Pos}
/-- keys and values of a display, read off the text -/
inductive MPs (X : Cx) (Er : XK) : List (Option Expr) → List Expr → List Str → List (PEnv → Mo PV) → Prop
  | nil : MPs X Er [] [] [] []
  | cons {z : Str} {j} {p : Pos} {v : Expr} {f : PEnv → Mo PV} {ks : List (Option Expr)} {vs : List Expr} {zs : List Str} {fs : List (PEnv → Mo PV)} (hv : ME X Er v f) (hr : MPs X Er ks vs zs fs) : MPs X Er (some (.Constant (.str z) j p) :: ks) (v :: vs) (z :: zs) (f :: fs)
theorem MPs.len {ks : List (Option Expr)} {vs : List Expr} {zs : List Str} {fs : List (PEnv → Mo PV)} (h : MPs X Er ks vs zs fs) : ks.length = vs.length ∧ zs.length = fs.length ∧ ks.length = zs.length ∧ ks.all (·.isSome) = true := by
  induction h with
  | nil => exact ⟨rfl, rfl, rfl, rfl⟩
  | cons hv hr ih => exact ⟨by simp [ih.1], by simp [ih.2.1], by simp [ih.2.2.1], by simpa using ih.2.2.2⟩
end
end Mi

set_option Elab.async false
set_option linter.all false
set_option maxRecDepth 100000
set_option maxHeartbeats 4000000
/-! min, max of two numbers -/
namespace Mi
open PySem L2 PySem.W PySem.Spec
section
variable {X : Cx}
def oMin : List PV → Mo PV
  | [.int i, .int j], st => .ok (.int (if j < i then j else i)) st
  | _, _ => .stuck
def oMax : List PV → Mo PV
  | [.int i, .int j], st => .ok (.int (if j > i then j else i)) st
  | _, _ => .stuck
theorem f_min (hc : X.calm = true) : BltOk X (.builtin "min") oMin := ⟨_, call_min2 hc, fun ρ H st xs vs Q E s r h => by
  unfold oMin at h
  split at h
  · rename_i st' i j
    obtain ⟨v, w, rfl, r1, r2⟩ := r.two
    cases r1; cases r2
    exact ⟨i, j, rfl, Out.now (x := PV.int (if j < i then j else i)) h s _ rfl⟩
  · exact False.elim h⟩
theorem f_max (hc : X.calm = true) : BltOk X (.builtin "max") oMax := ⟨_, call_max2 hc, fun ρ H st xs vs Q E s r h => by
  unfold oMax at h
  split at h
  · rename_i st' i j
    obtain ⟨v, w, rfl, r1, r2⟩ := r.two
    cases r1; cases r2
    exact ⟨i, j, rfl, Out.now (x := PV.int (if j > i then j else i)) h s _ rfl⟩
  · exact False.elim h⟩
theorem bt_min : bootBuiltins "min" = some (.builtin "min") := by decide +kernel
theorem bt_max : bootBuiltins "max" = some (.builtin "max") := by decide +kernel
@[simp] theorem q_oMin (i j : Int) (st : Sto) : oMin [.int i, .int j] st = .ok (.int (if j < i then j else i)) st := (rfl)
@[simp] theorem q_oMax (i j : Int) (st : Sto) : oMax [.int i, .int j] st = .ok (.int (if j > i then j else i)) st := (rfl)
end
end Mi

set_option Elab.async false
set_option linter.all false
set_option maxRecDepth 100000
set_option maxHeartbeats 4000000
/-! is, is not: of None, and of two truths -/
namespace Mi
open PySem L2 PySem.W PySem.Spec
section
variable {X : Cx}
def oIsB : PV → PV → Mo PV
  | .bl a, .bl b, st => .ok (.bl (a == b)) st
  | x, y, st => oIs x y st
def oIsNotB : PV → PV → Mo PV
  | .bl a, .bl b, st => .ok (.bl (!(a == b))) st
  | x, y, st => oIsNot x y st
@[simp] theorem q_isB (a b : Bool) (st : Sto) : oIsB (.bl a) (.bl b) st = .ok (.bl (a == b)) st := (rfl)
@[simp] theorem q_isnotB (a b : Bool) (st : Sto) : oIsNotB (.bl a) (.bl b) st = .ok (.bl (!(a == b))) st := (rfl)
end
end Mi

set_option Elab.async false
set_option linter.all false
set_option maxRecDepth 100000
set_option maxHeartbeats 4000000
/-! == of what stands in the store: lists, dicts by texts, and rows of such -/
namespace Mi
open PySem L2 PySem.W PySem.Spec
/-- item by item -/
def allE (f : PV → PV → Option Bool) : List PV → List PV → Option Bool
  | [], [] => some true
  | x :: xs, y :: ys => match f x y, allE f xs ys with
    | some a, some b => some (a && b)
    | _, _ => none
  | _, _ => some false
/-- what the keys of one dict find in another -/
def hitsE (f : PV → PV → Option Bool) (ks' : List Str) (xs' : List PV) : List Str → List PV → Option Bool
  | k :: ks, x :: xs => match (ks'.zip xs').lookup k with
    | none => some false
    | some y => match f x y, hitsE f ks' xs' ks xs with
      | some a, some b => some (a && b)
      | _, _ => none
  | _, _ => some true
theorem allE_some {f : PV → PV → Option Bool} : ∀ {xs ys : List PV} {b : Bool}, allE f xs ys = some b → ∃ e : Nat → Bool, (∀ j x y, xs[j]? = some x → ys[j]? = some y → f x y = some (e j)) ∧ ((List.range (min xs.length ys.length)).all e && xs.length == ys.length) = b
  | [], [], b, h => by cases h; exact ⟨fun _ => true, fun j x y h => by simp at h, by simp⟩
  | [], y :: ys, b, h => by cases h; exact ⟨fun _ => true, fun j x y h => by simp at h, by simp⟩
  | x :: xs, [], b, h => by cases h; exact ⟨fun _ => true, fun j x y _ h => by simp at h, by simp⟩
  | x :: xs, y :: ys, b, h => by
    simp only [allE] at h
    cases hf : f x y with
    | none => rw [hf] at h; cases h
    | some a =>
      cases hr : allE f xs ys with
      | none => rw [hf, hr] at h; cases h
      | some c =>
        rw [hf, hr] at h
        cases h
        obtain ⟨e, h1, h2⟩ := allE_some hr
        refine ⟨fun j => match j with | 0 => a | j + 1 => e j, fun j u v hu hv => ?_, ?_⟩
        · cases j with
          | zero => simp at hu hv; subst hu; subst hv; exact hf
          | succ j => simp at hu hv; exact h1 j u v hu hv
        · have e1 : min (x :: xs).length (y :: ys).length = min xs.length ys.length + 1 := by simp only [List.length_cons]; omega
          have e2 : ((x :: xs).length == (y :: ys).length) = (xs.length == ys.length) := by
            rw [Bool.eq_iff_iff]; simp
          rw [e1, e2, List.range_succ_eq_map, List.all_cons, List.all_map, ← h2, Bool.and_assoc]
          rfl
section
variable {X : Cx} {Er : XK} {K : Frag} {mg : Str → Option Value} {ρ : List Addr} {pins : List (Addr × Obj)} {σ : L2.St} {H : Hp} {s : Shared} {st : Sto}
theorem nodup_get {ρ : List Addr} (nd : ρ.Nodup) {n m : Nat} {a : Addr} (h : ρ[n]? = some a) (h' : ρ[m]? = some a) : n = m := by
  obtain ⟨h1, h2⟩ := List.getElem?_eq_some_iff.mp h
  obtain ⟨h3, h4⟩ := List.getElem?_eq_some_iff.mp h'
  have pw := List.pairwise_iff_getElem.mp nd
  rcases Nat.lt_trichotomy n m with c | c | c
  · exact absurd (h2.trans h4.symm) (pw n m h1 h3 c)
  · exact c
  · exact absurd (h4.trans h2.symm) (pw m n h3 h1 c)
theorem allE_same {f : PV → PV → Option Bool} (hf : ∀ x y v b, f x y = some b → R K mg ρ H x v → R K mg ρ H y v → b = true) : ∀ {xs ys : List PV} {vs : List V} {b : Bool}, allE f xs ys = some b → Rs K mg ρ H xs vs → Rs K mg ρ H ys vs → b = true
  | [], [], vs, b, h, _, _ => by cases h; rfl
  | [], y :: ys, vs, b, h, rx, ry => by cases rx; obtain ⟨_, _, e, _⟩ := ry; cases e
  | x :: xs, [], vs, b, h, rx, ry => by cases ry; obtain ⟨_, _, e, _⟩ := rx; cases e
  | x :: xs, y :: ys, vs, b, h, rx, ry => by
    obtain ⟨v, r, rfl, r1, r2⟩ := rx
    obtain ⟨v', r', e, r3, r4⟩ := ry
    cases e
    simp only [allE] at h
    cases h1 : f x y with
    | none => rw [h1] at h; cases h
    | some a =>
      cases h2 : allE f xs ys with
      | none => rw [h1, h2] at h; cases h
      | some c =>
        rw [h1, h2] at h
        cases h
        rw [hf x y v a h1 r1 r3, allE_same hf h2 r2 r4]
        rfl
theorem hits_same {f : PV → PV → Option Bool} (hf : ∀ x v b, f x x = some b → R K mg ρ H x v → b = true) {ks0 : List Str} {xs0 : List PV} : ∀ {ks : List Str} {xs : List PV} {vs : List V} {b : Bool}, (∀ k x, (k, x) ∈ ks.zip xs → (ks0.zip xs0).lookup k = some x) → hitsE f ks0 xs0 ks xs = some b → Rs K mg ρ H xs vs → b = true
  | [], xs, vs, b, _, h, _ => by cases xs <;> (cases h; rfl)
  | k :: ks, [], vs, b, _, h, _ => by cases h; rfl
  | k :: ks, x :: xs, vs, b, hm, h, rx => by
    obtain ⟨v, r, rfl, r1, r2⟩ := rx
    simp only [hitsE] at h
    rw [hm k x (by simp)] at h
    simp only at h
    cases h1 : f x x with
    | none => rw [h1] at h; cases h
    | some a =>
      cases h2 : hitsE f ks0 xs0 ks xs with
      | none => rw [h1, h2] at h; cases h
      | some c =>
        rw [h1, h2] at h
        cases h
        rw [hf x v a h1 r1, hits_same hf (fun k' x' h' => hm k' x' (by simp [h'])) h2 r2]
        rfl
theorem lookup_zip_nodup : ∀ {ks : List Str} {xs : List PV}, ks.Nodup → ∀ k x, (k, x) ∈ ks.zip xs → (ks.zip xs).lookup k = some x
  | [], _, _, k, x, h => by simp at h
  | _ :: _, [], _, k, x, h => by simp at h
  | k0 :: ks, x0 :: xs, nd, k, x, h => by
    rw [List.nodup_cons] at nd
    rw [List.zip_cons_cons] at h ⊢
    rcases List.mem_cons.mp h with e | h'
    · cases e; simp [List.lookup_cons]
    · have hk : k ∈ ks := (List.of_mem_zip h').1
      have ne : (k == k0) = false := by
        simp only [beq_eq_false_iff_ne]
        intro e; subst e; exact nd.1 hk
      rw [List.lookup_cons, ne]
      exact lookup_zip_nodup nd.2 k x h'
end
end Mi

set_option Elab.async false
set_option linter.all false
set_option maxRecDepth 100000
set_option maxHeartbeats 4000000
namespace Mi
open PySem L2 PySem.W PySem.Spec
/-! == of what stands in the store, in one program and one world -/
def EqW (P : Program) (W : World) (A : Around) (s : Shared) (u u' : Value) (b : Bool) : Prop := ∀ (E : Value → Shared → Prop) (Q : Bool → Shared → Prop), Q b s → wpAny (model P W) A (eqBool u u') Q E s
def RcW (P : Program) (W : World) (A : Around) (s : Shared) (u u' : Value) (b : Bool) : Prop := ∀ (E Q : Value → Shared → Prop), Q (.bool b) s → wpAny (model P W) A (richCompare .Eq u u') Q E s
section
variable {P : Program} {W : World} {A : Around} {s : Shared}
theorem EqW.of_refs {l b : Addr} {k : Bool} (hne : l ≠ b) (h : RcW P W A s (.ref l) (.ref b) k) : EqW P W A s (.ref l) (.ref b) k := fun E Q hq => by
  unfold eqBool
  refine wpAny_holding (wpAny_ite_split (fun hab => absurd (by have := eq_of_beq hab; injection this) hne) fun _ => ?_)
  exact wpAny_bind (h E _ (wpAny_truthy_bool hq))
theorem row_eqW {l b : Addr} {its its2 : Array Value} {n n2 : Nat} {dd dd2 : Option Addr} {sl sl2 : Array (Option Value)} {e : Nat → Bool} {E Q : Value → Shared → Prop}
    (hl : s.heap.get? l = some { cls := .type "tuple", dict := dd, data := .seq its n, slots := sl }) (hb : s.heap.get? b = some { cls := .type "tuple", dict := dd2, data := .seq its2 n2, slots := sl2 })
    (he : ∀ j (h1 : j < its.size) (h2 : j < its2.size), EqW P W A.in1 s its[j] its2[j] (e j)) (h : Q (.bool ((List.range (min its.size its2.size)).all e && its.size == its2.size)) s) :
    wpAny (model P W) A.in1 (Builtin.«tuple.__eq__» ⟨[.ref l, .ref b], []⟩) (fun fin s' => ∃ v, fin = .done (.ret v) ∧ Q v s') E s := by
  obtain ⟨hp, g, d, tk, os⟩ := s
  have f2 := AutoSeq1.sub_tuple_tuple
  have hZ : (its.toList.zip its2.toList).length = min its.size its2.size := by simp
  wp_walk using AutoSeq1.wpAny_loadPart' hl, AutoSeq1.wpAny_loadPart' hb, wpAny_forIn_list _ (fun rest b s' => b.1 = none ∧ s' = ⟨hp, g, d, tk, os⟩ ∧ ∃ i, rest = (its.toList.zip its2.toList).drop i ∧ Q (.bool (((List.range (min its.size its2.size)).drop i).all e && its.size == its2.size)) ⟨hp, g, d, tk, os⟩) _
  case turn =>
    rintro ⟨y, x⟩ rest b s' ⟨hb', rfl, i, hz, hR⟩
    have hlt : i < (its.toList.zip its2.toList).length := by
      rcases Nat.lt_or_ge i (its.toList.zip its2.toList).length with h' | h'
      · exact h'
      · rw [List.drop_of_length_le h'] at hz; cases hz
    have hm : i < min its.size its2.size := hZ ▸ hlt
    have h1 : i < its.size := by omega
    have h2 : i < its2.size := by omega
    rw [List.drop_eq_getElem_cons hlt] at hz
    injection hz with hyx hrest
    have hy : y = its[i] := by have := congrArg Prod.fst hyx; simpa using this
    have hx : x = its2[i] := by have := congrArg Prod.snd hyx; simpa using this
    subst hy hx
    have hd : (List.range (min its.size its2.size)).drop i = i :: (List.range (min its.size its2.size)).drop (i + 1) := by simp [List.drop_eq_getElem_cons, hm]
    rw [hd, List.all_cons] at hR
    refine wpAny_bind (he i h1 h2 _ _ ?_)
    cases hy : e i with
    | true =>
      rw [hy] at hR
      wp_walk
      exact ⟨rfl, rfl, i + 1, hrest, by simpa using hR⟩
    | false =>
      rw [hy] at hR
      wp_walk
      exact ⟨_, rfl, by simpa using hR⟩
  case fin =>
    rintro ⟨b1, b2⟩ s' ⟨hb', rfl, i, hz, hR⟩
    simp only at hb'
    subst hb'
    have hge : min its.size its2.size ≤ i := by
      rcases Nat.lt_or_ge i (its.toList.zip its2.toList).length with h' | h'
      · rw [List.drop_eq_getElem_cons h'] at hz; cases hz
      · exact hZ ▸ h'
    rw [List.drop_of_length_le (by simpa using hge)] at hR
    wp_walk
    exact ⟨_, rfl, by simpa [Builtin.Tuple.tupleCompareSizes] using hR⟩
  case h => exact ⟨rfl, rfl, 0, rfl, by simpa using h⟩
theorem RcW.tuples {l b : Addr} {its its2 : Array Value} {e : Nat → Bool} (hl : s.heap.IsTuple l its) (hb : s.heap.IsTuple b its2) (hu : A.units < cLine)
    (he : ∀ j (h1 : j < its.size) (h2 : j < its2.size), EqW P W A.in1 s its[j] its2[j] (e j)) : RcW P W A s (.ref l) (.ref b) ((List.range (min its.size its2.size)).all e && its.size == its2.size) := fun E Q h => by
  obtain ⟨⟨cls, dd, data, sl⟩, ho, hc, n, hd⟩ := id hl
  obtain ⟨⟨cls2, dd2, data2, sl2⟩, ho2, hc2, n2, hd2⟩ := id hb
  simp only at hc hd hc2 hd2
  subst hc hd hc2 hd2
  refine wpAny_richCompare_same_room (op := .Eq) ⟨_, ho, rfl⟩ ⟨_, ho2, rfl⟩ F.slot_tuple_eq (wpAny_call_entry F.slot_tuple_eq ⟨_, ho, rfl⟩ F.entry_tuple_eq (row_eqW (Q := fun v s' => v ≠ .notImplemented ∧ Q v s') ho ho2 he (show Value.bool ((List.range (min its.size its2.size)).all e && its.size == its2.size) ≠ Value.notImplemented ∧ Q (.bool ((List.range (min its.size its2.size)).all e && its.size == its2.size)) s from ⟨(fun x => nomatch x), h⟩)) (F.args_tuple_eq_2 _ _)) hu
end
section
variable {X : Cx} {Er : XK} {K : Frag} {mg : Str → Option Value} {ρ : List Addr} {pins : List (Addr × Obj)} {σ : L2.St} {H : Hp} {s : Shared} {st : Sto}
theorem kv_cons {k : Str} {ks : List Str} {v : V} {vs : List V} {us : List (Key × Value)} (h : KV (kz (k :: ks) (v :: vs)) us) : ∃ u r, us = (Sum.inr k, u) :: r ∧ RelV v u ∧ KV (kz ks vs) r := by
  cases h with
  | @cons p q ps qs h t =>
    obtain ⟨h1, h2⟩ := h
    obtain ⟨k', u⟩ := q
    have : k' = Sum.inr k := h1.symm
    subst this
    exact ⟨u, qs, rfl, h2, t⟩
theorem lookup_no {f : Str} : ∀ {ks : List Str} {xs : List PV} {vs : List V}, Rs K mg ρ H xs vs → (ks.zip xs).lookup f = none → (ks.zip vs).lookup f = none
  | [], _, _, _, _ => by simp
  | k :: ks, [], _, r, _ => by cases r; simp
  | k :: ks, y :: xs, _, r, h => by
    obtain ⟨v, r', rfl, h1, h2⟩ := r
    simp only [List.zip_cons_cons, List.lookup_cons] at h ⊢
    split at h
    · cases h
    · exact lookup_no h2 h
theorem items_of {f : PV → PV → Option Bool} {G : Value → Value → Bool → Prop} (hf : ∀ x y v w u u' b, f x y = some b → R K mg ρ H x v → R K mg ρ H y w → RelV v u → RelV w u' → G u u' b) {xs ys : List PV} {vs ws : List V} {its its2 : List Value} {e : Nat → Bool} (h2 : Rs K mg ρ H xs vs) (h4 : Rs K mg ρ H ys ws) (r1 : Vals vs its) (r2 : Vals ws its2) (he : ∀ j x y, xs[j]? = some x → ys[j]? = some y → f x y = some (e j)) :
    ∀ j (g1 : j < its.toArray.size) (g2 : j < its2.toArray.size), G its.toArray[j] its2.toArray[j] (e j) := by
  intro j g1 g2
  have l1 := h2.len
  have l2 := h4.len
  have l3 := r1.length
  have l4 := r2.length
  have k1 : j < xs.length := by rw [l1, l3]; simpa using g1
  have k2 : j < ys.length := by rw [l2, l4]; simpa using g2
  obtain ⟨v1, e1, rr1⟩ := h2.get (List.getElem?_eq_getElem k1)
  obtain ⟨v2, e2, rr2⟩ := h4.get (List.getElem?_eq_getElem k2)
  obtain ⟨u1, f1, ru1⟩ := r1.get e1
  obtain ⟨u2, f2, ru2⟩ := r2.get e2
  have w1 : its.toArray[j] = u1 := by
    obtain ⟨_, z⟩ := List.getElem?_eq_some_iff.mp f1
    simpa using z
  have w2 : its2.toArray[j] = u2 := by
    obtain ⟨_, z⟩ := List.getElem?_eq_some_iff.mp f2
    simpa using z
  rw [w1, w2]
  exact hf xs[j] ys[j] v1 v2 u1 u2 (e j) (he j _ _ (List.getElem?_eq_getElem k1) (List.getElem?_eq_getElem k2)) rr1 rr2 ru1 ru2
end
end Mi

set_option Elab.async false
set_option linter.all false
set_option maxRecDepth 100000
set_option maxHeartbeats 4000000
/-! list(d); isinstance by several own classes; a def that is not taken -/
namespace Mi
open PySem L2 PySem.W PySem.Spec
section
variable {X : Cx} {Er : XK} {K : Frag} {mg : Str → Option Value}
theorem vals_strs : ∀ {ks : List Str} {us : List Value}, us.length = ks.length → (∀ (j : Nat) v, us[j]? = some v → ∃ k, ks[j]? = some k ∧ ∃ t, v = Value.str k t) → Vals (ks.map V.str) us
  | [], [], _, _ => .nil
  | [], _ :: _, h, _ => by simp at h
  | _ :: _, [], h, _ => by simp at h
  | k :: ks, u :: us, h, hv => by
    obtain ⟨k', e, t, ev⟩ := hv 0 u rfl
    simp at e
    subst e
    exact .cons ⟨t, ev⟩ (vals_strs (by simpa using h) fun j v e => by simpa using hv (j + 1) v (by simpa using e))
/-! isinstance of instances, by several own classes -/
end
end Mi

set_option Elab.async false
set_option linter.all false
set_option maxRecDepth 100000
set_option maxHeartbeats 4000000
namespace Mi
open PySem L2 PySem.W PySem.Spec
section
variable {P : Program} {W : World} {A : Around} {s : Shared} {E : Value → Shared → Prop} {K : Type} [DecidableEq K] {knd : KeyKind P W K}
/-- a dict beside what is none -/
theorem dict_no {d : Addr} {kv : List (K × Value)} {x : Value} {T : String} {name : Str} (sl : Slot "dict" name "dict.__eq__") (hd : s.heap.DictOf knd d kv) (hx : s.TypeIs x T) (hs : isSubtype (.type T) (.type "dict") = pure false) (Q : Value → Shared → Prop) (h : Q .notImplemented s) :
    wpAny (model P W) A (call (.builtin "dict.__eq__") [.ref d, x]) Q E s := by
  refine wpAny_call_entry sl hd.typeIs PySem.F.entry_dict_eq ?_ (PySem.F.args_dict_eq_2 _ _)
  show wpAny _ _ (Builtin.Dict.dictSlotArgs "__eq__" ⟨[.ref d, x], []⟩ >>= _) _ _ s
  refine wpAny_bind ?_
  unfold Builtin.Dict.dictSlotArgs
  refine wpAny_bind (wpAny_notOrdered_dict hd.typeIs ?_)
  show wpAny _ _ (pure (Value.ref d, x)) _ _ s
  refine wpAny_pure ?_
  refine wpAny_bind (wpAny_isInstance hx hs ?_)
  simp only [Bool.not_false, if_true]
  exact wpAny_bind (wpAny_rule (wpAny_pure ⟨_, rfl, h⟩))
theorem num_no {d : Addr} {o : Obj} {b : Int} {u : Tok} {name : Str} (sl : Slot "int" name "int.__eq__") (ho : s.heap.get? d = some o) (hd : o.cls = .type "dict") {es : Array DictEntry} {ep : Nat} (hq' : o.data = .dict es ep) (Q : Value → Shared → Prop) (h : Q .notImplemented s) :
    wpAny (model P W) A (call (.builtin "int.__eq__") [.int b u, .ref d]) Q E s := by
  refine wpAny_call_entry sl (typeIs_int s b u) PySem.F.entry_int_eq ?_ (PySem.F.args_int_eq_2 _ _)
  obtain ⟨hp, g, dd, tk, os⟩ := s
  obtain ⟨c, d1, d2, d3⟩ := o
  cases hd
  cases hq'
  wp_walk using AutoSeq1.wpAny_loadPart' ho, wpAny_load ho
  exact ⟨_, rfl, h⟩
theorem txt_no {d : Addr} {o : Obj} {b : Str} {u : Tok} {name : Str} (sl : Slot "str" name "str.__eq__") (ho : s.heap.get? d = some o) (hd : o.cls = .type "dict") {es : Array DictEntry} {ep : Nat} (hq' : o.data = .dict es ep) (Q : Value → Shared → Prop) (h : Q .notImplemented s) :
    wpAny (model P W) A (call (.builtin "str.__eq__") [.str b u, .ref d]) Q E s := by
  refine wpAny_call_entry sl (typeIs_str s b u) PySem.F.entry_str_eq ?_ (PySem.F.args_str_eq_2 _ _)
  obtain ⟨hp, g, dd, tk, os⟩ := s
  obtain ⟨c, d1, d2, d3⟩ := o
  cases hd
  cases hq'
  wp_walk using AutoSeq1.wpAny_loadPart' ho, wpAny_load ho
  exact ⟨_, rfl, h⟩
theorem row_no {d t : Addr} {o ot : Obj} {its : Array Value} {n : Nat} {name : Str} (sl : Slot "tuple" name "tuple.__eq__") (ht : s.heap.get? t = some ot) (hc : ot.cls = .type "tuple") (hq : ot.data = .seq its n) (ho : s.heap.get? d = some o) (hd : o.cls = .type "dict") {es : Array DictEntry} {ep : Nat} (hq' : o.data = .dict es ep) (Q : Value → Shared → Prop) (h : Q .notImplemented s) :
    wpAny (model P W) A (call (.builtin "tuple.__eq__") [.ref t, .ref d]) Q E s := by
  refine wpAny_call_entry sl ⟨_, ht, hc⟩ PySem.F.entry_tuple_eq ?_ (PySem.F.args_tuple_eq_2 _ _)
  obtain ⟨hp, g, dd, tk, os⟩ := s
  obtain ⟨c, d1, d2, d3⟩ := o
  obtain ⟨c', d1', d2', d3'⟩ := ot
  cases hd
  cases hq'
  cases hc
  cases hq
  have f1 := PySem.F.sub_dict_tuple
  wp_walk using AutoSeq1.wpAny_loadPart' ht, AutoSeq1.wpAny_loadPart' ho
  exact ⟨_, rfl, h⟩
theorem EqW.of_ref {d : Addr} {u' : Value} {k : Bool} (hne : Value.ref d ≠ u') (h : RcW P W A s (.ref d) u' k) : EqW P W A s (.ref d) u' k := fun E Q hq => by
  unfold eqBool
  refine wpAny_holding (wpAny_ite_split (fun hab => absurd (eq_of_beq hab) hne) fun _ => ?_)
  exact wpAny_bind (h E _ (wpAny_truthy_bool hq))
theorem EqW.of_num {d : Addr} {b : Int} {u : Tok} {k : Bool} (h : RcW P W A s (.int b u) (.ref d) k) : EqW P W A s (.int b u) (.ref d) k := fun E Q hq => by
  unfold eqBool
  refine wpAny_holding (wpAny_ite_split (fun hab => absurd (eq_of_beq hab) nofun) fun _ => ?_)
  exact wpAny_bind (h E _ (wpAny_truthy_bool hq))
theorem EqW.of_txt {d : Addr} {b : Str} {u : Tok} {k : Bool} (h : RcW P W A s (.str b u) (.ref d) k) : EqW P W A s (.str b u) (.ref d) k := fun E Q hq => by
  unfold eqBool
  refine wpAny_holding (wpAny_ite_split (fun hab => absurd (eq_of_beq hab) nofun) fun _ => ?_)
  exact wpAny_bind (h E _ (wpAny_truthy_bool hq))
theorem RcW.rec_num {d : Addr} {kv : List (K × Value)} (hd : s.heap.DictOf knd d kv) (b : Int) (u : Tok) (hu : A.units < cLine) : RcW P W A s (.ref d) (.int b u) false := fun E Q h => by
  obtain ⟨o, es, ep, ho, hx, hda, _⟩ := id hd
  have ty := hd.typeIs
  obtain ⟨o', ho', hc⟩ := id ty
  rw [ho] at ho'
  cases ho'
  exact SeqAt.rc_eq_decline_or (k := false) ty (typeIs_int s b u) (by decide) PySem.F.sub_int_dict PySem.F.slot_dict_eq PySem.F.slot_int_eq_refl (dict_no PySem.F.slot_dict_eq hd (typeIs_int s b u) PySem.F.sub_int_dict) (num_no PySem.F.slot_int_eq_refl ho hc hda)
    (fun _ hq => wpAny_of_eq (rfl : isSame (.ref d) (.int b u) = pure false) hq) (.inr hu) h
theorem RcW.num_rec {d : Addr} {kv : List (K × Value)} (hd : s.heap.DictOf knd d kv) (b : Int) (u : Tok) (hu : A.units < cLine) : RcW P W A s (.int b u) (.ref d) false := fun E Q h => by
  obtain ⟨o, es, ep, ho, hx, hda, _⟩ := id hd
  have ty := hd.typeIs
  obtain ⟨o', ho', hc⟩ := id ty
  rw [ho] at ho'
  cases ho'
  exact SeqAt.rc_eq_decline_or (k := false) (typeIs_int s b u) ty (by decide) PySem.F.sub_dict_int PySem.F.slot_int_eq PySem.F.slot_dict_eq_refl (num_no PySem.F.slot_int_eq ho hc hda) (dict_no PySem.F.slot_dict_eq_refl hd (typeIs_int s b u) PySem.F.sub_int_dict)
    (fun _ hq => wpAny_of_eq (rfl : isSame (.int b u) (.ref d) = pure false) hq) (.inr hu) h
theorem RcW.rec_txt {d : Addr} {kv : List (K × Value)} (hd : s.heap.DictOf knd d kv) (b : Str) (u : Tok) (hu : A.units < cLine) : RcW P W A s (.ref d) (.str b u) false := fun E Q h => by
  obtain ⟨o, es, ep, ho, hx, hda, _⟩ := id hd
  have ty := hd.typeIs
  obtain ⟨o', ho', hc⟩ := id ty
  rw [ho] at ho'
  cases ho'
  exact SeqAt.rc_eq_decline_or (k := false) ty (typeIs_str s b u) (by decide) PySem.F.sub_str_dict PySem.F.slot_dict_eq PySem.F.slot_str_eq_refl (dict_no PySem.F.slot_dict_eq hd (typeIs_str s b u) PySem.F.sub_str_dict) (txt_no PySem.F.slot_str_eq_refl ho hc hda)
    (fun _ hq => wpAny_of_eq (rfl : isSame (.ref d) (.str b u) = pure false) hq) (.inr hu) h
theorem RcW.txt_rec {d : Addr} {kv : List (K × Value)} (hd : s.heap.DictOf knd d kv) (b : Str) (u : Tok) (hu : A.units < cLine) : RcW P W A s (.str b u) (.ref d) false := fun E Q h => by
  obtain ⟨o, es, ep, ho, hx, hda, _⟩ := id hd
  have ty := hd.typeIs
  obtain ⟨o', ho', hc⟩ := id ty
  rw [ho] at ho'
  cases ho'
  exact SeqAt.rc_eq_decline_or (k := false) (typeIs_str s b u) ty (by decide) PySem.F.sub_dict_str PySem.F.slot_str_eq PySem.F.slot_dict_eq_refl (txt_no PySem.F.slot_str_eq ho hc hda) (dict_no PySem.F.slot_dict_eq_refl hd (typeIs_str s b u) PySem.F.sub_str_dict)
    (fun _ hq => wpAny_of_eq (rfl : isSame (.str b u) (.ref d) = pure false) hq) (.inr hu) h
theorem rec_ne_row {d t : Addr} {kv : List (K × Value)} {its : Array Value} (hd : s.heap.DictOf knd d kv) (ht : s.heap.IsTuple t its) : d ≠ t := fun e => by
  subst e
  obtain ⟨o, ho, hc⟩ := hd.typeIs
  obtain ⟨o2, ho2, hc2, _⟩ := ht
  rw [ho] at ho2
  cases ho2
  rw [hc] at hc2
  exact absurd hc2 (by simp)
theorem RcW.rec_row {d t : Addr} {kv : List (K × Value)} {its : Array Value} (hd : s.heap.DictOf knd d kv) (ht : s.heap.IsTuple t its) (hu : A.units < cLine) : RcW P W A s (.ref d) (.ref t) false := fun E Q h => by
  have ne := rec_ne_row hd ht
  obtain ⟨o, es, ep, ho, hx, hda, _⟩ := id hd
  have ty := hd.typeIs
  obtain ⟨o', ho', hc⟩ := id ty
  rw [ho] at ho'
  cases ho'
  obtain ⟨ot, ht1, ht2, n, ht3⟩ := id ht
  exact SeqAt.rc_eq_decline_or (k := false) ty ⟨_, ht1, ht2⟩ (by decide) PySem.F.sub_tuple_dict PySem.F.slot_dict_eq PySem.F.slot_tuple_eq_refl (dict_no PySem.F.slot_dict_eq hd ⟨_, ht1, ht2⟩ PySem.F.sub_tuple_dict) (row_no PySem.F.slot_tuple_eq_refl ht1 ht2 ht3 ho hc hda)
    (fun _ hq => wpAny_isSame_ref_other ne ho ht1 (by rw [hc]; simp) hq) (.inr hu) h
theorem RcW.row_rec {d t : Addr} {kv : List (K × Value)} {its : Array Value} (hd : s.heap.DictOf knd d kv) (ht : s.heap.IsTuple t its) (hu : A.units < cLine) : RcW P W A s (.ref t) (.ref d) false := fun E Q h => by
  have ne := rec_ne_row hd ht
  obtain ⟨o, es, ep, ho, hx, hda, _⟩ := id hd
  have ty := hd.typeIs
  obtain ⟨o', ho', hc⟩ := id ty
  rw [ho] at ho'
  cases ho'
  obtain ⟨ot, ht1, ht2, n, ht3⟩ := id ht
  exact SeqAt.rc_eq_decline_or (k := false) ⟨_, ht1, ht2⟩ ty (by decide) PySem.F.sub_dict_tuple PySem.F.slot_tuple_eq PySem.F.slot_dict_eq_refl (row_no PySem.F.slot_tuple_eq ht1 ht2 ht3 ho hc hda) (dict_no PySem.F.slot_dict_eq_refl hd ⟨_, ht1, ht2⟩ PySem.F.sub_tuple_dict)
    (fun _ hq => SeqAt.wpAny_isSame_ref_other' ne.symm ht1 ho (by rw [hc]; simp) hq) (.inr hu) h
/-- what the pairs of one dict find in another, in one world -/
inductive HitsW (P : Program) (W : World) (A : Around) (s : Shared) (kb : List (K × Value)) : List (K × Value) → Bool → Prop
  | nil : HitsW P W A s kb [] true
  | miss {k : K} {v : Value} {r : List (K × Value)} (h : valueAt kb k = none) : HitsW P W A s kb ((k, v) :: r) false
  | hit {k : K} {v y : Value} {r : List (K × Value)} {e b : Bool} (h : valueAt kb k = some y) (he : EqW P W A s v y e) (hr : HitsW P W A s kb r b) : HitsW P W A s kb ((k, v) :: r) (e && b)
theorem HitsW.inv {kb r : List (K × Value)} {k : K} {v : Value} {b : Bool} (h : HitsW P W A s kb ((k, v) :: r) b) : (valueAt kb k = none ∧ b = false) ∨ ∃ y e c, valueAt kb k = some y ∧ EqW P W A s v y e ∧ HitsW P W A s kb r c ∧ b = (e && c) := by
  cases h with
  | miss h => exact .inl ⟨h, rfl⟩
  | hit h he hr => exact .inr ⟨_, _, _, h, he, hr, rfl⟩
theorem pairsW {nm : String} {a b : Addr} {ka kb : List (K × Value)} {r : Bool} {Q : Bool → Shared → Prop} (la : (a == sysModules) = false) (lb : (b == sysModules) = false) (da : s.heap.DictOf knd a ka) (db : s.heap.DictOf knd b kb)
    (hits : ka.length = kb.length → HitsW P W A s kb ka r) (h : Q (ka.length == kb.length && r) s) : wpAny (model P W) A (Builtin.Dict.samePairs nm a b) Q E s := by
  obtain ⟨oa, ea, na, ga, _, qa, ha, pa, _⟩ := da
  obtain ⟨ob, eb, nb, gb, _, qb, hb, pb, _⟩ := db
  have za : ka.length = ea.size := by rw [← pa.length]; exact Array.length_toList
  have zb : kb.length = eb.size := by rw [← pb.length]; exact Array.length_toList
  have look : ∀ k, findBy knd.is eb k = valueAt kb k := fun k => by
    rw [← pb.find k]
    clear zb pb hb qb gb
    obtain ⟨l⟩ := eb
    simp [findBy]
  rw [za, zb] at h
  unfold Builtin.Dict.samePairs Builtin.Dict.showsAll
  rw [if_neg (by rw [la]; decide), if_neg (by rw [lb]; decide)]
  refine wpAny_bind (wpAny_pure (wpAny_bind (wpAny_pure (wpAny_bind (wpAny_dictEntries ga qa ?_)))))
  dsimp only
  refine wpAny_bind (wpAny_dictEntries gb qb ?_)
  by_cases hz : ea.size = eb.size
  · have h' : Q r s := by simpa [hz] using h
    have hh := hits (by rw [za, zb]; exact hz)
    rw [if_neg (by rw [hz]; simp)]
    refine wpAny_bind (wpAny_dictEpoch ga qa (wpAny_bind ?_))
    rw [Std.Legacy.Range.forIn_eq_forIn_range']
    simp only [Std.Legacy.Range.size, Nat.sub_zero, Nat.add_sub_cancel, Nat.div_one]
    refine wpAny_forIn_list _ (fun rest q s' => s' = s ∧ q = (none, ()) ∧ ∃ i, rest = List.range' i (ea.size - i) ∧ i ≤ ea.size ∧ HitsW P W A s kb (ka.drop i) r) _ ?_ ?_ _ _ ⟨rfl, rfl, 0, by simp, Nat.zero_le _, hh⟩
    · rintro x rest q s' ⟨rfl, rfl, i, hr, hi, hp⟩
      have lt : i < ea.size := by
        rcases Nat.lt_or_ge i ea.size with c | c
        · exact c
        · rw [Nat.sub_eq_zero_of_le c] at hr; simp at hr
      have e0 : ea.size - i = (ea.size - (i + 1)) + 1 := by omega
      rw [e0, List.range'_succ] at hr
      injection hr with hx hrest
      subst hx
      refine wpAny_bind (wpAny_dictEntries ga qa ?_)
      rw [Array.getElem?_eq_getElem lt]
      have lt' : x < ka.length := by rw [za]; exact lt
      obtain ⟨k, v, hkv⟩ : ∃ k v, ka[x] = (k, v) := ⟨_, _, rfl⟩
      have hdrop : ka.drop x = (k, v) :: ka.drop (x + 1) := by rw [← hkv]; exact List.drop_eq_getElem_cons lt'
      obtain ⟨hkey, hval⟩ := pa.get? (i := x) (e := ea[x]) (k := k) (v := v) (by rw [Array.getElem?_toList]; exact Array.getElem?_eq_getElem lt) (by rw [List.getElem?_eq_getElem lt', hkv])
      obtain ⟨k', hk', hs⟩ := ha ea[x] (Array.getElem_mem lt)
      rw [knd.inj _ _ _ hk' hkey] at hs
      rw [hdrop] at hp
      show wpAny _ _ (holding [ea[x].key, ea[x].val] _ >>= _) _ _ _
      rw [hs]
      refine wpAny_bind (wpAny_holding (wpAny_bind (wpAny_dictFind_of hkey gb qb hb ?_)))
      cases hj : eb.findIdx? fun e => knd.is k e.key with
      | none =>
        have hn : valueAt kb k = none := by rw [← look k, findBy_of_findIdx?, hj]
        rcases hp.inv with ⟨_, er⟩ | ⟨y, _, _, hy, _⟩
        · rw [er] at h'
          refine wpAny_pure ?_
          show wpAny _ _ (if (!false) = true then _ else _) _ _ _
          rw [if_pos (by decide)]
          exact wpAny_pure (wpAny_pure h')
        · rw [hn] at hy; exact nomatch hy
      | some j =>
        obtain ⟨jl, _, _⟩ := Array.findIdx?_eq_some_iff_getElem.mp hj
        have hv' : valueAt kb k = some eb[j].val := by
          rw [← look k, findBy_of_findIdx?, hj]
          simp [Array.getElem?_eq_getElem jl]
        refine wpAny_bind (wpAny_dictEntries gb qb ?_)
        rw [Array.getElem?_eq_getElem jl]
        rcases hp.inv with ⟨hn, _⟩ | ⟨y, e, c, hy, he, hrr, er⟩
        · rw [hv'] at hn; exact nomatch hn
        · have ey : eb[j].val = y := Option.some.inj (hv'.symm.trans hy)
          rw [← ey, ← hval] at he
          refine wpAny_holding (he _ _ ?_)
          cases e with
          | false =>
            rw [er, Bool.false_and] at h'
            show wpAny _ _ (if (!false) = true then _ else _) _ _ _
            rw [if_pos (by decide)]
            exact wpAny_pure (wpAny_pure h')
          | true =>
            rw [Bool.true_and] at er
            rw [← er] at hrr
            show wpAny _ _ (if (!true) = true then _ else _) _ _ _
            rw [if_neg (by decide)]
            refine wpAny_bind (wpAny_dictEpoch ga qa ?_)
            rw [if_neg (by simp)]
            exact wpAny_pure ⟨rfl, rfl, x + 1, hrest, lt, hrr⟩
    · rintro q s' ⟨rfl, rfl, i, hr, hi, hp⟩
      have hin : i = ea.size := by
        rcases Nat.lt_or_ge i ea.size with c | c
        · have e : ea.size - i = (ea.size - (i + 1)) + 1 := by omega
          rw [e, List.range'_succ] at hr; exact nomatch hr
        · omega
      refine wpAny_pure ?_
      rw [hin, ← za, List.drop_length] at hp
      cases hp
      exact h'
  · rw [if_pos (by simpa using hz)]
    have hf : (ea.size == eb.size) = false := by simpa using hz
    rw [hf, Bool.false_and] at h
    exact wpAny_bind (wpAny_rule (wpAny_pure h))
theorem RcW.recs {a b : Addr} {ka kb : List (K × Value)} {r : Bool} (la : (a == sysModules) = false) (lb : (b == sysModules) = false) (da : s.heap.DictOf knd a ka) (db : s.heap.DictOf knd b kb) (hu : A.units < cLine)
    (hits : ka.length = kb.length → HitsW P W A.in1 s kb ka r) : RcW P W A s (.ref a) (.ref b) (ka.length == kb.length && r) := fun E Q h => by
  refine wpAny_richCompare_same_room (op := .Eq) da.typeIs db.typeIs PySem.F.slot_dict_eq (wpAny_call_entry PySem.F.slot_dict_eq da.typeIs PySem.F.entry_dict_eq ?_ (PySem.F.args_dict_eq_2 _ _)) hu
  show wpAny _ _ (Builtin.Dict.dictSlotArgs "__eq__" ⟨[.ref a, .ref b], []⟩ >>= _) _ _ s
  refine wpAny_bind ?_
  unfold Builtin.Dict.dictSlotArgs
  refine wpAny_bind (wpAny_notOrdered_dict da.typeIs ?_)
  show wpAny _ _ (pure (Value.ref a, Value.ref b)) _ _ s
  refine wpAny_pure (wpAny_bind (wpAny_isInstance (T := "dict") db.typeIs PySem.F.sub_dict_dict ?_))
  simp only [Bool.not_true, Bool.false_eq_true, if_false]
  refine wpAny_bind (wpAny_pure (wpAny_bind (wpAny_pure (wpAny_bind (pairsW la lb da db hits ?_)))))
  refine wpAny_pure ⟨_, rfl, (fun x => nomatch x), ?_⟩
  simpa using h
end
end Mi

set_option Elab.async false
set_option linter.all false
set_option maxRecDepth 100000
set_option maxHeartbeats 4000000
/-! in, not in of a list, in one program and one world -/
namespace Mi
open PySem L2 PySem.W PySem.Spec
section
variable {P : Program} {W : World}
/-- what a built-in's body does, in one world -/
def DoesW (P : Program) (W : World) (t : Sem Fin) (A : Around) (R : Result → Shared → Prop) (s : Shared) : Prop :=
  wpAny (model P W) A.in1 t (fun fin s' => match fin with | .done f => R (.ok f) s' | .again c' => c'.quiet = true ∧ codeAny (model P W) A c' R s') (fun e s' => R (.error e) s') s
theorem in_loopW (l : Addr) (its : Array Value) (n : Nat) (dd : Option Addr) (sl : Array (Option Value)) (x : Value) (e : Value → Bool) (A : Around) (R : Result → Shared → Prop) (s : Shared) (hl : s.heap.get? l = some { cls := .type "list", dict := dd, data := .seq its n, slots := sl })
    (he : ∀ y, y ∈ its → EqW P W A.in1 s y x (e y)) (k : Nat) : ∀ i : Nat, its.size - i = k → R (.ok (.ret (.bool ((its.toList.drop i).any e)))) s → DoesW P W (Builtin.«list.__contains__.loop» ⟨[.ref l, x, rawInt i], []⟩) A R s := by
  unfold DoesW
  induction k with
  | zero =>
    intro i hk h
    obtain ⟨hp, g, d, tk, os⟩ := s
    wp_walk using AutoSeq1.wpAny_loadPart' hl
    have hi : its[((i : Nat) : Int).toNat]? = none := by simp; omega
    have hd : its.toList.drop i = [] := by simp; omega
    rw [hd] at h
    rw [hi]
    wp_walk
    exact h
  | succ k ih =>
    intro i hk h
    have ih' := ih (i + 1) (by omega)
    obtain ⟨hp, g, d, tk, os⟩ := s
    wp_walk using AutoSeq1.wpAny_loadPart' hl
    have lt : i < its.size := by omega
    have hi : its[((i : Nat) : Int).toNat]? = some its[i] := by simp [lt]
    have hd : its.toList.drop i = its[i] :: its.toList.drop (i + 1) := by simp [List.drop_eq_getElem_cons, lt]
    rw [hd, List.any_cons] at h
    rw [hi]
    refine wpAny_bind (he _ (Array.getElem_mem lt) _ _ ?_)
    cases hb : e its[i] with
    | true =>
      rw [hb] at h
      wp_walk
      exact h
    | false =>
      rw [hb] at h
      have hc : ((i : Int) + 1) = ((i + 1 : Nat) : Int) := by push_cast; rfl
      wp_walk
      rw [hc]
      exact ⟨plainId_quiet MeetsSeq.plain_contains_loop _, codeAny_builtin MeetsSeq.entry_contains_loop (by
        rw [Around.under_plainId MeetsSeq.plain_contains_loop _]
        exact ih' (by simpa using h))⟩
theorem inW (l : Addr) (its : Array Value) (n : Nat) (dd : Option Addr) (sl : Array (Option Value)) (x : Value) (e : Value → Bool) (A : Around) (R : Result → Shared → Prop) (s : Shared) (hl : s.heap.get? l = some { cls := .type "list", dict := dd, data := .seq its n, slots := sl })
    (he : ∀ y, y ∈ its → EqW P W A.in1 s y x (e y)) (h : R (.ok (.ret (.bool (its.any e)))) s) : DoesW P W (Builtin.«list.__contains__» ⟨[.ref l, x], []⟩) A R s := by
  have lp := in_loopW l its n dd sl x e A R s hl he _ 0 rfl (by simpa using h)
  unfold DoesW at lp ⊢
  obtain ⟨hp, g, d, tk, os⟩ := s
  wp_walk using AutoSeq1.wpAny_loadPart' hl
  exact ⟨plainId_quiet MeetsSeq.plain_contains_loop _, codeAny_builtin MeetsSeq.entry_contains_loop (by
    rw [Around.under_plainId MeetsSeq.plain_contains_loop _]
    exact lp)⟩
theorem list_hasW {A : Around} {s : Shared} {E : Value → Shared → Prop} {l : Addr} {its : Array Value} {x : Value} (e : Value → Bool) (hl : s.heap.IsList l its) (he : ∀ y, y ∈ its → EqW P W A.in1 s y x (e y)) {Q : Bool → Shared → Prop} (h : Q (its.any e) s) :
    wpAny (model P W) A (contains (.ref l) x) Q E s := by
  obtain ⟨⟨cls, dd, data, sl⟩, ho, hc, n, hd⟩ := id hl
  simp only at hc hd
  subst hc hd
  refine wpAny_contains_slot ⟨_, ho, rfl⟩ F.slot_list_contains ?_
  refine wpAny_call (codeAny_call_builtin F.slot_list_contains.plain F.entry_list_contains (F.slot_list_contains.check _ _ _ _ _ _ _ _ ⟨_, ho, rfl⟩ (F.args_list_contains_2 _ _) (inW l its n dd sl x e A (wants (fun v s' => wpAny (model P W) A (truthy v) Q E s') E) s ho he ?_)))
  exact wpAny_truthy_bool h
theorem notInListW {A : Around} {s : Shared} {E : Value → Shared → Prop} {l : Addr} {its : Array Value} {x : Value} (e : Value → Bool) (hl : s.heap.IsList l its) (he : ∀ y, y ∈ its → EqW P W A.in1 s y x (e y)) {Q : Value → Shared → Prop} (h : Q (.bool (!its.any e)) s) :
    wpAny (model P W) A (compareOp .NotIn x (.ref l)) Q E s := by
  show wpAny _ A (do return .bool (!(← contains (.ref l) x))) Q E s
  exact wpAny_bind (list_hasW e hl he (wpAny_pure h))
end
end Mi

set_option Elab.async false
set_option linter.all false
set_option maxRecDepth 100000
set_option maxHeartbeats 4000000
/-! == of numbers, texts, rows and dicts by texts, as deep as one likes; in and not in of lists of such -/
namespace Mi
open PySem L2 PySem.W PySem.Spec
def isDic : Option SO → Bool
  | some (.dic _ _) => true
  | _ => false
/-- a number, a text, a row, a dict -/
def kindN (st : Sto) : PV → Option Nat
  | .int _ => some 0
  | .str _ => some 1
  | .tup _ => some 2
  | .ref a => if isDic st[a]? = true then some 3 else none
  | _ => none
def eqDD (f : PV → PV → Option Bool) : Option SO → Option SO → Option Bool
  | some (.dic ks xs), some (.dic ks' xs') => if ks.Nodup ∧ ks.length = xs.length then if ks.length = ks'.length then hitsE f ks' xs' ks xs else some false else none
  | _, _ => none
def eqN : Option Nat → Option Nat → Option Bool
  | some i, some j => if i = j then none else some false
  | _, _ => none
def eqT (st : Sto) : Nat → PV → PV → Option Bool
  | 0, _, _ => none
  | n + 1, x, y => match x, y with
    | .int a, .int b => some (a == b)
    | .str a, .str b => some (a == b)
    | .tup xs, .tup ys => allE (eqT st n) xs ys
    | .ref a, .ref b => eqDD (eqT st n) st[a]? st[b]?
    | x, y => eqN (kindN st x) (kindN st y)
section
variable {X : Cx} {Er : XK} {K : Frag} {mg : Str → Option Value} {ρ : List Addr} {pins : List (Addr × Obj)} {σ : L2.St} {H : Hp} {s : Shared} {st : Sto}
/-- the four kinds, by what they bear -/
inductive Kn (K : Frag) (mg : Str → Option Value) (ρ : List Addr) (H : Hp) (st : Sto) : PV → V → Nat → Prop
  | num (i : Int) : Kn K mg ρ H st (.int i) (.int i) 0
  | txt (z : Str) : Kn K mg ρ H st (.str z) (.str z) 1
  | row {xs : List PV} {a : Addr} {vs : List V} (h : SqT K H a vs) (r : Rs K mg ρ H xs vs) : Kn K mg ρ H st (.tup xs) (.ref a) 2
  | rec_ {n : Nat} {a : Addr} {ks : List Str} {xs : List PV} {vs : List V} (e : st[n]? = some (.dic ks xs)) (ha : ρ[n]? = some a) (h : H a = some (.dK (kz ks vs))) (r : Rs K mg ρ H xs vs) (l : ks.length = vs.length) : Kn K mg ρ H st (.ref n) (.ref a) 3
theorem Kn.of (S : StR K mg ρ H st) {x : PV} {v : V} {i : Nat} (r : R K mg ρ H x v) (h : kindN st x = some i) : Kn K mg ρ H st x v i := by
  cases x with
  | int j => cases h; cases r; exact .num j
  | str z => cases h; cases r; exact .txt z
  | tup xs => cases h; obtain ⟨a, vs, rfl, h1, h2⟩ := r; exact .row h1 h2
  | ref n =>
    simp only [kindN] at h
    split at h
    · rename_i hd
      cases h
      cases e : st[n]? with
      | none => rw [e] at hd; cases hd
      | some so =>
        cases so with
        | dic ks xs =>
          obtain ⟨a, vs, rfl, ha, k1, k2, k3⟩ := R.refD S r e
          exact .rec_ e ha k1 k2 k3
        | lst _ => rw [e] at hd; cases hd
        | ins _ _ _ => rw [e] at hd; cases hd
    · cases h
  | _ => cases h
/-- things of two kinds are apart -/
theorem kn_apart (I : Inv X pins σ H s) {x y : PV} {v : V} {i j : Nat} (hx : Kn X.K mg ρ H st x v i) (hy : Kn X.K mg ρ H st y v j) : i = j := by
  cases hx with
  | num => cases hy; rfl
  | txt => cases hy; rfl
  | row h1 r1 =>
    cases hy with
    | row => rfl
    | rec_ e ha h2 =>
      obtain ⟨_, _, kv, _, d⟩ := dk_rd I.hok (.inl h2)
      obtain ⟨its, _, p, _⟩ := I.tuple h1
      exact absurd rfl (rec_ne_row d p)
  | rec_ e ha h2 =>
    cases hy with
    | rec_ => rfl
    | row h1 r1 =>
      obtain ⟨_, _, kv, _, d⟩ := dk_rd I.hok (.inl h2)
      obtain ⟨its, _, p, _⟩ := I.tuple h1
      exact absurd rfl (rec_ne_row d p)
/-- beside each other, of two kinds -/
theorem kn_ne (I : Inv X pins σ H s) {x y : PV} {v w : V} {u u' : Value} {i j : Nat} {A : Around} (hx : Kn X.K mg ρ H st x v i) (hy : Kn X.K mg ρ H st y w j) (rv : RelV v u) (rw : RelV w u') (hij : i ≠ j) (hu : A.units < cLine) : EqW X.prog X.w A s u u' false ∧ RcW X.prog X.w A s u u' false := by
  cases hx with
  | num a =>
    obtain ⟨t, rfl⟩ := rv
    cases hy with
    | num => exact absurd rfl hij
    | txt b => obtain ⟨t', rfl⟩ := rw; exact ⟨fun E Q q => SeqAt.EqAt.int_str a t b t' _ _ E Q q, fun E Q q => SeqAt.RcAt.int_str a t b t' _ _ E Q q⟩
    | row h1 r1 =>
      cases rw
      obtain ⟨its, _, p, _⟩ := I.tuple h1
      exact ⟨fun E Q q => SeqAt.EqAt.int_tuple a t p hu _ _ E Q q, fun E Q q => SeqAt.RcAt.int_tuple a t p hu _ _ E Q q⟩
    | rec_ e ha h2 =>
      cases rw
      obtain ⟨_, _, kv, _, d⟩ := dk_rd I.hok (.inl h2)
      exact ⟨.of_num (.num_rec d a t hu), .num_rec d a t hu⟩
  | txt a =>
    obtain ⟨t, rfl⟩ := rv
    cases hy with
    | txt => exact absurd rfl hij
    | num b => obtain ⟨t', rfl⟩ := rw; exact ⟨fun E Q q => SeqAt.EqAt.str_int a t b t' _ _ E Q q, fun E Q q => SeqAt.RcAt.str_int a t b t' _ _ E Q q⟩
    | row h1 r1 =>
      cases rw
      obtain ⟨its, _, p, _⟩ := I.tuple h1
      exact ⟨fun E Q q => SeqAt.EqAt.str_tuple a t p hu _ _ E Q q, fun E Q q => SeqAt.RcAt.str_tuple a t p hu _ _ E Q q⟩
    | rec_ e ha h2 =>
      cases rw
      obtain ⟨_, _, kv, _, d⟩ := dk_rd I.hok (.inl h2)
      exact ⟨.of_txt (.txt_rec d a t hu), .txt_rec d a t hu⟩
  | row h0 r0 =>
    cases rv
    obtain ⟨its, _, p, _⟩ := I.tuple h0
    cases hy with
    | row => exact absurd rfl hij
    | num b => obtain ⟨t', rfl⟩ := rw; exact ⟨fun E Q q => SeqAt.EqAt.tuple_int b t' p hu _ _ E Q q, fun E Q q => SeqAt.RcAt.tuple_int b t' p hu _ _ E Q q⟩
    | txt b => obtain ⟨t', rfl⟩ := rw; exact ⟨fun E Q q => SeqAt.EqAt.tuple_str b t' p hu _ _ E Q q, fun E Q q => SeqAt.RcAt.tuple_str b t' p hu _ _ E Q q⟩
    | rec_ e ha h2 =>
      cases rw
      obtain ⟨_, _, kv, _, d⟩ := dk_rd I.hok (.inl h2)
      have ne := rec_ne_row d p
      exact ⟨.of_ref (fun z => ne (by injection z with z; exact z.symm)) (.row_rec d p hu), .row_rec d p hu⟩
  | rec_ e0 ha0 h0 =>
    cases rv
    obtain ⟨_, _, kv, _, d⟩ := dk_rd I.hok (.inl h0)
    cases hy with
    | rec_ => exact absurd rfl hij
    | num b => obtain ⟨t', rfl⟩ := rw; exact ⟨.of_ref nofun (.rec_num d b t' hu), .rec_num d b t' hu⟩
    | txt b => obtain ⟨t', rfl⟩ := rw; exact ⟨.of_ref nofun (.rec_txt d b t' hu), .rec_txt d b t' hu⟩
    | row h1 r1 =>
      cases rw
      obtain ⟨its, _, p, _⟩ := I.tuple h1
      have ne := rec_ne_row d p
      exact ⟨.of_ref (fun z => ne (by injection z)) (.rec_row d p hu), .rec_row d p hu⟩
theorem eqN_inv {a b : Option Nat} {k : Bool} (h : eqN a b = some k) : ∃ i j, a = some i ∧ b = some j ∧ i ≠ j ∧ k = false := by
  unfold eqN at h
  split at h
  · split at h
    · cases h
    · rename_i i j c; cases h; exact ⟨i, j, rfl, rfl, c, rfl⟩
  · cases h
/-- how == comes out -/
inductive EqC (st : Sto) (f : PV → PV → Option Bool) : PV → PV → Bool → Prop
  | num (a b : Int) : EqC st f (.int a) (.int b) (a == b)
  | txt (a b : Str) : EqC st f (.str a) (.str b) (a == b)
  | row {xs ys : List PV} {k : Bool} (h : allE f xs ys = some k) : EqC st f (.tup xs) (.tup ys) k
  | rec_ {a b : Nat} {k : Bool} (h : eqDD f st[a]? st[b]? = some k) : EqC st f (.ref a) (.ref b) k
  | apart {x y : PV} {i j : Nat} (hx : kindN st x = some i) (hy : kindN st y = some j) (h : i ≠ j) : EqC st f x y false
theorem eqT_case {n : Nat} {x y : PV} {k : Bool} (h : eqT st (n + 1) x y = some k) : EqC st (eqT st n) x y k := by
  unfold eqT at h
  split at h
  · cases h; exact .num _ _
  · cases h; exact .txt _ _
  · exact .row h
  · exact .rec_ h
  · obtain ⟨i, j, h1, h2, h3, rfl⟩ := eqN_inv h
    exact .apart h1 h2 h3
theorem eqDD_inv {f : PV → PV → Option Bool} {a b : Option SO} {k : Bool} (h : eqDD f a b = some k) : ∃ ks xs ks' xs', a = some (.dic ks xs) ∧ b = some (.dic ks' xs') ∧ ks.Nodup ∧ ks.length = xs.length ∧ ((ks.length = ks'.length ∧ hitsE f ks' xs' ks xs = some k) ∨ (ks.length ≠ ks'.length ∧ k = false)) := by
  unfold eqDD at h
  split at h
  · rename_i ks xs ks' xs'
    split at h
    · rename_i c
      split at h
      · rename_i c'; exact ⟨_, _, _, _, rfl, rfl, c.1, c.2, .inl ⟨c', h⟩⟩
      · rename_i c'; cases h; exact ⟨_, _, _, _, rfl, rfl, c.1, c.2, .inr ⟨c', rfl⟩⟩
    · cases h
  · cases h
theorem eqT_same (I : Inv X pins σ H s) (S : StR X.K mg ρ H st) : ∀ (n : Nat) (x y : PV) (v : V) (b : Bool), eqT st n x y = some b → R X.K mg ρ H x v → R X.K mg ρ H y v → b = true := by
  intro n
  induction n with
  | zero => intro x y v b h; cases h
  | succ n ih =>
    intro x y v b h rx ry
    cases eqT_case h with
    | num a c => cases rx; cases ry; simp
    | txt a c => cases rx; cases ry; simp
    | row h0 =>
      obtain ⟨a, vs, rfl, h1, h2⟩ := rx
      obtain ⟨a', ws, e, h3, h4⟩ := ry
      cases e
      have := I.tuple_inj h1 h3
      subst this
      exact allE_same (fun x y v b => ih x y v b) h0 h2 h4
    | @rec_ i j _ h0 =>
      obtain ⟨a, rfl, h1⟩ := rx
      obtain ⟨a', e, h2⟩ := ry
      cases e
      obtain rfl := nodup_get S.nd h1 h2
      obtain ⟨ks, xs, ks', xs', e1, e2, nd, hl, hc⟩ := eqDD_inv h0
      rw [e1] at e2
      cases e2
      obtain ⟨vs, _, k2, _⟩ := S.addr e1 h1
      rcases hc with ⟨_, hc⟩ | ⟨hc, _⟩
      · exact hits_same (fun x v b e r => ih x x v b e r r) (lookup_zip_nodup nd) hc k2
      · exact absurd rfl hc
    | apart hx hy hij => exact absurd (kn_apart I (Kn.of S rx hx) (Kn.of S ry hy)) hij
theorem hits_ofW {A : Around} {f : PV → PV → Option Bool} (hf : ∀ x y v w u u' b, f x y = some b → R K mg ρ H x v → R K mg ρ H y w → RelV v u → RelV w u' → EqW X.prog X.w A s u u' b) {ks' : List Str} {xs' : List PV} {ws : List V} {kb : List (Key × Value)} (r' : Rs K mg ρ H xs' ws) (kv' : KV (kz ks' ws) kb) :
    ∀ {ks : List Str} {xs : List PV} {vs : List V} {ka : List (Key × Value)} {b : Bool}, ks.length = vs.length → Rs K mg ρ H xs vs → KV (kz ks vs) ka → hitsE f ks' xs' ks xs = some b → HitsW X.prog X.w A s kb ka b
  | [], xs, [], ka, b, _, _, kv, h => by
    have : b = true := by cases xs <;> (cases h; rfl)
    subst this
    cases kv
    exact .nil
  | [], xs, _ :: _, ka, b, hl, _, _, _ => by simp at hl
  | k :: ks, xs, [], ka, b, hl, _, _, _ => by simp at hl
  | k :: ks, xs, v :: vs, ka, b, hl, r, kv, h => by
    obtain ⟨u, ka', rfl, ru, kv2⟩ := kv_cons kv
    cases xs with
    | nil => cases r
    | cons x xs =>
      obtain ⟨v', rs', e, r1, r2⟩ := r
      cases e
      simp only [hitsE] at h
      have hv := kv'.val (Sum.inr k)
      rw [valV_kz] at hv
      cases hl2 : (ks'.zip xs').lookup k with
      | none =>
        rw [hl2] at h
        cases h
        rw [lookup_no r' hl2] at hv
        cases hu : valueAt kb (Sum.inr k) with
        | none => exact .miss hu
        | some _ => rw [hu] at hv; exact (show False from hv).elim
      | some y =>
        rw [hl2] at h
        simp only at h
        cases h1 : f x y with
        | none => rw [h1] at h; cases h
        | some a =>
          cases h2 : hitsE f ks' xs' ks xs with
          | none => rw [h1, h2] at h; cases h
          | some c =>
            rw [h1, h2] at h
            cases h
            obtain ⟨w, hw, rw'⟩ := lookup_R r' hl2
            rw [hw] at hv
            cases hu : valueAt kb (Sum.inr k) with
            | none => rw [hu] at hv; exact (show False from hv).elim
            | some u' =>
              rw [hu] at hv
              exact .hit hu (hf x y v w u u' a h1 r1 rw' ru hv) (hits_ofW hf r' kv' (by simpa using hl) r2 kv2 h2)
theorem eqT_both (I : Inv X pins σ H s) (S : StR X.K mg ρ H st) : ∀ (n : Nat) (x y : PV) (v w : V) (u u' : Value) (b : Bool) (A : Around), eqT st n x y = some b → R X.K mg ρ H x v → R X.K mg ρ H y w → RelV v u → RelV w u' → A.units + n < cLine →
    EqW X.prog X.w A s u u' b ∧ RcW X.prog X.w A s u u' b := by
  intro n
  induction n with
  | zero => intro x y v w u u' b A h; cases h
  | succ n ih =>
    intro x y v w u u' b A h rx ry rv rw hu
    cases eqT_case h with
    | num a c => cases rx; cases ry; obtain ⟨t, rfl⟩ := rv; obtain ⟨t', rfl⟩ := rw; exact ⟨fun E Q q => SeqAt.EqAt.int_int a t c t' _ _ E Q q, fun E Q q => SeqAt.RcAt.int_int a t c t' _ _ E Q q⟩
    | txt a c => cases rx; cases ry; obtain ⟨t, rfl⟩ := rv; obtain ⟨t', rfl⟩ := rw; exact ⟨fun E Q q => SeqAt.EqAt.str_str a t c t' _ _ E Q q, fun E Q q => SeqAt.RcAt.str_str a t c t' _ _ E Q q⟩
    | row h0 =>
      obtain ⟨a, vs, rfl, h1, h2⟩ := id rx
      obtain ⟨a', ws, rfl, h3, h4⟩ := id ry
      cases rv
      cases rw
      obtain ⟨its, r1, p1, _⟩ := I.tuple h1
      obtain ⟨its2, r2, p2, _⟩ := I.tuple h3
      obtain ⟨e, he, hb⟩ := allE_some h0
      have it := items_of (G := EqW X.prog X.w A.in1 s) (fun x y v w u u' b e r1 r2 r3 r4 => (ih x y v w u u' b A.in1 e r1 r2 r3 r4 (by rw [in1_units]; omega)).1) h2 h4 r1 r2 he
      have eb : ((List.range (min its.toArray.size its2.toArray.size)).all e && its.toArray.size == its2.toArray.size) = b := by
        rw [h2.len, h4.len, r1.length, r2.length] at hb
        simpa using hb
      have rc : RcW X.prog X.w A s (.ref a) (.ref a') b := by
        rw [← eb]
        exact RcW.tuples (show s.heap.IsTuple a its.toArray from p1) (show s.heap.IsTuple a' its2.toArray from p2) (by omega) it
      refine ⟨?_, rc⟩
      by_cases hab : a = a'
      · subst hab
        rw [eqT_same I S (n + 1) _ _ _ _ h rx ry]
        exact fun E Q q => SeqAt.EqAt.same _ _ _ E Q q
      · exact .of_refs hab rc
    | @rec_ i j _ h0 =>
      obtain ⟨a, rfl, h1⟩ := id rx
      obtain ⟨a', rfl, h2⟩ := id ry
      cases rv
      cases rw
      obtain ⟨ks, xs, ks', xs', e1, e2, nd, hl, hc⟩ := eqDD_inv h0
      obtain ⟨vs, k1, k2, k3⟩ := S.addr e1 h1
      obtain ⟨ws, k4, k5, k6⟩ := S.addr e2 h2
      obtain ⟨_, s1, ka, kva, da⟩ := dk_rd I.hok (.inl k1)
      obtain ⟨_, s2, kb, kvb, db⟩ := dk_rd I.hok (.inl k4)
      have la : ka.length = ks.length := by rw [← kva.length]; simp [kz, k3]
      have lb : kb.length = ks'.length := by rw [← kvb.length]; simp [kz, k6]
      have both : RcW X.prog X.w A s (.ref a) (.ref a') b := by
        rcases hc with ⟨hkk, hc⟩ | ⟨hkk, rfl⟩
        · have hits : ka.length = kb.length → HitsW X.prog X.w A.in1 s kb ka b := fun _ => hits_ofW (fun x y v w u u' b e r1 r2 r3 r4 => (ih x y v w u u' b A.in1 e r1 r2 r3 r4 (by rw [in1_units]; omega)).1) k5 kvb k3 k2 kva hc
          have hbb : (ka.length == kb.length && b) = b := by rw [la, lb, hkk]; simp
          rw [← hbb]
          exact RcW.recs s1 s2 da db (by omega) hits
        · have hbb : (ka.length == kb.length && true) = false := by rw [la, lb]; simpa using hkk
          rw [← hbb]
          exact RcW.recs s1 s2 da db (by omega) fun z => absurd (by rw [← la, ← lb]; exact z) hkk
      refine ⟨?_, both⟩
      by_cases hab : a = a'
      · subst hab
        rw [eqT_same I S (n + 1) _ _ _ _ h rx ry]
        exact fun E Q q => SeqAt.EqAt.same _ _ _ E Q q
      · exact .of_refs hab both
    | apart hx hy hij => exact kn_ne I (Kn.of S rx hx) (Kn.of S ry hy) rv rw hij (by omega)
/-- == of trees and dicts -/
def oEqT : PV → PV → Mo PV := fun x y st => match eqT st 150 x y with
  | some b => .ok (.bl b) st
  | none => .stuck
def rEqT (K : Frag) (mg : Str → Option Value) : R2 := fun v w H Q => ∃ ρ st x y b, StR K mg ρ H st ∧ eqT st 150 x y = some b ∧ R K mg ρ H x v ∧ R K mg ρ H y w ∧ Q (.bl b) H
theorem op_eqTr (hu : X.A.units + 200 < cLine) : OpR X (compareOp .Eq) (rEqT X.K X.mg) := by
  intro pins s σ H x y v u Q I rx ry h
  obtain ⟨ρ, st, a, b, k, S, e, ra, rb, q⟩ := h
  exact (eqT_both I S 150 a b x y v u k X.A e ra rb rx ry (by omega)).2 _ _ ⟨.bl k, H, I, rfl, q⟩
theorem c_eqTr (hu : X.A.units + 200 < cLine) : CmpOk X .Eq oEqT := ⟨_, op_eqTr hu, fun ρ H st x y v w Q E s rx ry h => by
  unfold oEqT at h
  cases e : eqT st 150 x y with
  | none => rw [e] at h; exact False.elim h
  | some b => rw [e] at h; exact ⟨ρ, st, x, y, b, s, e, rx, ry, h.now s _ rfl⟩⟩
end
end Mi

set_option Elab.async false
set_option linter.all false
set_option maxRecDepth 100000
set_option maxHeartbeats 4000000
/-! not in, in of lists of trees and dicts; list(d.values()) -/
namespace Mi
open PySem L2 PySem.W PySem.Spec
section
variable {X : Cx} {Er : XK} {K : Frag} {mg : Str → Option Value} {ρ : List Addr} {pins : List (Addr × Obj)} {σ : L2.St} {H : Hp} {s : Shared} {st : Sto} {o : Expr} {fo : PEnv → Mo PV} {apos cpos p0 pos0 : Pos}
open Classical in
noncomputable def eInT (K : Frag) (mg : Str → Option Value) (ρ : List Addr) (H : Hp) (st : Sto) (ys : List PV) (x : PV) (u : Value) : Bool := decide (∃ y v, y ∈ ys ∧ R K mg ρ H y v ∧ RelV v u ∧ eqT st 150 y x = some true)
def okInT (st : Sto) (x : PV) (ys : List PV) : Bool := ys.all fun y => (eqT st 150 y x).isSome
def hasT (st : Sto) (x : PV) (ys : List PV) : Bool := ys.any fun y => eqT st 150 y x == some true
open Classical in
theorem in_factsT (I : Inv X pins σ H s) (S : StR X.K mg ρ H st) {A : Around} (hu : A.units + 200 < cLine) {ys : List PV} {vs : List V} {us : List Value} {x : PV} {w : V} {v : Value} (ok : okInT st x ys = true) (ry : Rs X.K mg ρ H ys vs) (rv : Vals vs us) (rx : R X.K mg ρ H x w) (rw : RelV w v) :
    (∀ u ∈ us, EqW X.prog X.w A.in1 s u v (eInT X.K mg ρ H st ys x u)) ∧ us.any (eInT X.K mg ρ H st ys x) = hasT st x ys := by
  have one : ∀ y v' u b, y ∈ ys → R X.K mg ρ H y v' → RelV v' u → eqT st 150 y x = some b → EqW X.prog X.w A.in1 s u v b := fun y v' u b hy r1 r2 e =>
    (eqT_both I S 150 y x v' w u v b A.in1 e r1 rx r2 rw (by rw [in1_units]; omega)).1
  refine ⟨fun u hu' => ?_, ?_⟩
  · obtain ⟨y, v', q1, q2, q3⟩ := Rs.mem ry rv hu'
    by_cases h : ∃ y v, y ∈ ys ∧ R X.K mg ρ H y v ∧ RelV v u ∧ eqT st 150 y x = some true
    · have e : eInT X.K mg ρ H st ys x u = true := by unfold eInT; exact decide_eq_true h
      obtain ⟨y2, v2, z1, z2, z3, z4⟩ := h
      rw [e]
      exact one y2 v2 u true z1 z2 z3 z4
    · have e : eInT X.K mg ρ H st ys x u = false := by unfold eInT; exact decide_eq_false h
      rw [e]
      have hs := List.all_eq_true.mp ok y q1
      obtain ⟨b, hb⟩ := Option.isSome_iff_exists.mp hs
      cases b with
      | false => exact one y v' u false q1 q2 q3 hb
      | true => exact absurd ⟨y, v', q1, q2, q3, hb⟩ h
  · rw [Bool.eq_iff_iff]
    simp only [hasT, List.any_eq_true]
    constructor
    · rintro ⟨u, hu', he⟩
      have h : ∃ y v, y ∈ ys ∧ R X.K mg ρ H y v ∧ RelV v u ∧ eqT st 150 y x = some true := by unfold eInT at he; exact of_decide_eq_true he
      obtain ⟨y, v', z1, _, _, z4⟩ := h
      exact ⟨y, z1, by simp [z4]⟩
    · rintro ⟨y, hy, he⟩
      obtain ⟨u, v', q1, q2, q3⟩ := Rs.mem' ry rv hy
      exact ⟨u, q1, by unfold eInT; exact decide_eq_true ⟨y, v', hy, q2, q3, by simpa using he⟩⟩
def oInT (neg : Bool) : PV → PV → Mo PV
  | x, .ref n, st => withL st n fun ys => if okInT st x ys = true then .ok (.bl (neg.xor (hasT st x ys))) st else .stuck
  | _, _, _ => .stuck
def rInT (K : Frag) (mg : Str → Option Value) (neg : Bool) : R2 := fun v w H Q => ∃ ρ st x ys vs p, StR K mg ρ H st ∧ okInT st x ys = true ∧ w = .ref p ∧ SqL K H p vs ∧ Rs K mg ρ H ys vs ∧ R K mg ρ H x v ∧ Q (.bl (neg.xor (hasT st x ys))) H
theorem op_notinT (hu : X.A.units + 200 < cLine) : OpR X (compareOp .NotIn) (rInT X.K X.mg true) := by
  intro pins s σ H x y v u Q I rx ry h
  obtain ⟨ρ, st, a, ys, vs, p, S, ok, rfl, hq, rys, ra, q⟩ := h
  obtain rfl : u = Value.ref p := ry
  obtain ⟨its, r, pl, _⟩ := I.list hq
  obtain ⟨f1, f2⟩ := in_factsT I S hu ok rys r ra rx
  refine notInListW (eInT X.K X.mg ρ H st ys a) pl.isList (fun w hw => f1 w (by simpa using hw)) ⟨.bl _, H, I, rfl, ?_⟩
  rw [show its.toArray.any (eInT X.K X.mg ρ H st ys a) = its.any (eInT X.K X.mg ρ H st ys a) by simp, f2]
  simpa using q
theorem inT_ok {neg : Bool} : OpM K mg (rInT K mg neg) (oInT neg) := fun ρ H st x y v w Q E s rx ry h => by
  cases y with
  | ref n =>
    obtain ⟨ys, e, h⟩ := withL_inv h
    obtain ⟨c, h⟩ := Out.ifp h
    obtain ⟨p, rfl, hp⟩ := ry
    obtain ⟨ws, h1, h2⟩ := s.addr e hp
    exact ⟨ρ, st, x, ys, ws, p, s, c, rfl, SqL.of h1, h2, rx, h.now s _ rfl⟩
  | _ => exact False.elim h
theorem c_notinT (hu : X.A.units + 200 < cLine) : CmpOk X .NotIn (oInT true) := ⟨_, op_notinT hu, inT_ok⟩
/-! list(d.values()) -/
theorem vals_snd : ∀ {ks : List Str} {vs : List V} {kv : List (Key × Value)}, ks.length = vs.length → KV (kz ks vs) kv → Vals vs (kv.map (·.2))
  | [], [], _, _, h => by cases h; exact .nil
  | [], _ :: _, _, hl, _ => by simp at hl
  | _ :: _, [], _, hl, _ => by simp at hl
  | k :: ks, v :: vs, kv, hl, h => by
    obtain ⟨u, r, rfl, h1, h2⟩ := kv_cons h
    exact .cons h1 (vals_snd (by simpa using hl) h2)
def tLV (to : TE) : TE := fun σ H Q => to σ H fun x H1 => ∃ a ks vs, x = .ref a ∧ H1 a = some (.dK (kz ks vs)) ∧ ks.length = vs.length ∧ ∀ l, H1 l = none → Q (.ref l) (upd H1 l (.lst vs))
theorem pe_listvals {to : TE} (hc : X.calm = true) (hg0 : Gl X "list") (hm0 : X.mg "list" = none) (ho : PE X o to) (hbase : attributeBase o "values" X.env (eval o X.env) = eval o X.env) (hline : (apos.endLine == cpos.line) = true) :
    PE X (.Call (.Name "list" p0) [.Call (.Attribute o "values" apos) [] [] cpos] [] pos0) (tLV to) := by
  intro pins s σ H Q I h
  refine PyProof.Rows.Call_ (ld_blt I hg0 hm0 bt_list (PyProof.Rows.callWith_type1 ?_ rfl rfl))
  show wpAny _ _ (spliced ((false, eval (.Call (.Attribute o "values" apos) [] [] cpos) X.env) :: backTo pos0 (starEach [] X.env))) _ _ s
  refine Calls.spliced_cons ?_
  refine wpAny_Call_method0_late hbase hline (thn (ho pins s σ H _ I h) fun v s1 ⟨x, H1, I1, r1, q1⟩ => ?_)
  obtain ⟨a, ks, vs, rfl, e, hl, q⟩ := q1
  obtain rfl : v = Value.ref a := r1
  obtain ⟨hz, lo, kv, kvr, hd⟩ := dk_rd I1.hok (.inl e)
  obtain ⟨ep, hat⟩ := hd.dictAt
  refine ⟨"dict", "dict.values", PySem.F.plainAttrs_dict, PySem.F.slot_dict_values, PySem.F.type_dict_values, ?_, ?_, Calls.callWith_builtin rfl (PySem.evalArgs_none (call_meetsIn PySem.F.slot_dict_values hd.typeIs PySem.F.entry_dict_values (PySem.F.args_dict_values_1 _) (meets_dict_values (mixKind X.prog X.w) a lo) ⟨⟨kv, hd⟩, ?_⟩))⟩
  · exact (tyV_is I1 (x := .ref a) rfl (.inr (.inr (.inl ⟨rfl, .inl ⟨_, e⟩⟩)))).1
  · exact (tyV_is I1 (x := .ref a) rfl (.inr (.inr (.inl ⟨rfl, .inl ⟨_, e⟩⟩)))).2
  refine Calls.spliced_nil ?_
  have hle : s1.heap.objs.size ≤ (s1.heap.push { cls := .type "dict_values", data := .fields #[.ref a] }).objs.size := by rw [Heap.size_push]; exact Nat.le_succ _
  refine kdl_call (s := { s1 with heap := s1.heap.push { cls := .type "dict_values", data := .fields #[.ref a] } }) (kdl_values (knd := mixKind X.prog X.w) (kvs := kv) (ep := ep)) (I.ok.hd hc) ⟨⟨_, Heap.get?_push_size _ rfl, rfl, rfl⟩, hat.push _⟩ (by rw [← kvr.length]; exact hz) fun h' tk acc' c' hk hS hitems => ?_
  have ev : acc'.toList = kv.map (·.2) := kdl_vals_eq _ (by rw [Array.length_toList]; exact hitems.1) fun j u e => hitems.2 j u (by rw [← Array.getElem?_toList]; exact e)
  have hv : Vals vs acc'.toList := by rw [ev]; exact vals_snd hl kvr
  have lv : vs.length ≤ sizeLine := by
    have : (kz ks vs).length = vs.length := by simp [kz, hl]
    rw [← this]; exact hz
  exact ⟨.ref _, _, I1.laid (t' := tk) (fun b ob eb => hk b ob (Heap.get?_push_of_some _ eb)) hle (show ObjOk X.prog X.w _ h' _ (.lst vs) from ⟨lv, acc'.toList, c', hv, by simpa using hS⟩), rfl, q _ (I1.hok.fresh hle)⟩
def oVals : PV → Mo PV
  | .ref n, st => withD st n fun _ xs => .ok (.ref st.length) (st ++ [.lst xs])
  | _, _ => .stuck
theorem m_listvals (hc : X.calm = true) (hm0 : X.mg "list" = none) (ho : ME X Er o fo) (hg0 : Gl X "list" := by rfl) (hbase : attributeBase o "values" X.env (eval o X.env) = eval o X.env := by rfl) (hline : (apos.endLine == cpos.line) = true := by rfl) :
    ME X Er (.Call (.Name "list" p0) [.Call (.Attribute o "values" apos) [] [] cpos] [] pos0) (mUn oVals fo) :=
  PE.weak (pe_listvals hc hg0 hm0 ho hbase hline) fun σ H Q ⟨env, st, ρ, re, rs, h⟩ => ⟨env, st, ρ, re, rs, h.then fun ρ1 H1 x st1 e1 s1 h1 v rv => by
    cases x with
    | ref n =>
      obtain ⟨ks, xs, e, h1⟩ := withD_inv h1
      obtain ⟨a, vs, rfl, _, k1, k2, k3⟩ := R.refD s1 rv e
      exact ⟨a, ks, vs, rfl, k1, k3, fun l hl => Out.newList (xs := xs) h1 s1 k2 hl⟩
    | _ => exact False.elim h1⟩
end
end Mi

set_option Elab.async false
set_option linter.all false
set_option maxRecDepth 100000
set_option maxHeartbeats 4000000
namespace L2
open PySem PySem.Spec PyProof.Rows
/-- name = [elt for x in iter] -/
def tSetComp (iy : Nat) (wi : TI) (te : TE) : TS := fun D σ H => wi σ H fun J H1 => CompW J te σ (fun v H2 => D.nx (σ.set iy (some v)) H2) H1
theorem ps_setcomp {X : Cx} {elt iter : Expr} {x y : Str} {px pos pos' spos : Pos} {scope : Scope} {wi : TI} {te : TE} {N : List Str} {iy : Nat} (hc : X.calm = true) (S : CompSc X.env.scope scope x) (eN : X.N = N) (hN0 : ((".0" : Str) :: x :: N).Nodup)
    (hi : PI X (.Name x px) iter wi) (he : ∀ cl C s₂ H₂ fp, PE (cxC X scope cl x C s₂ H₂ fp (fun _ _ => False)) elt te) (hNX : X.N.Nodup) (hiy : X.N[iy]? = some y) (hy : Loc X.env.scope y) (hfy : X.fn y = true ∨ X.env.scope.names.lookup y = some .local)
    (hsw : swapsWith (.ListComp elt [⟨.Name x px, iter, [], 0⟩] scope pos) (some (.Name y pos')) spos.line X.env = pure true) (hs : ∀ v, foldedSetIterable iter X.env v = pure v := by intro _; rfl) : PS X (.Assign [.Name y pos'] (.ListComp elt [⟨.Name x px, iter, [], 0⟩] scope pos) spos) (tSetComp iy wi te) := by
  intro pins s σ H Dn I h
  have hN : (x :: X.N).Nodup := by rw [eN]; exact (List.nodup_cons.mp hN0).2
  have h0N : (".0" : Str) ∉ X.N := by rw [eN]; exact fun z => (List.nodup_cons.mp hN0).1 (List.mem_cons_of_mem _ z)
  obtain ⟨cl, hclos, hcl1, hcl2⟩ := clo_of X.env scope fun p hp hf => I.ok.has p.1 (.inl (S.free p hp hf))
  have hkd : X.env.scope.kind = .function := I.ok.kind
  rw [exec_Assign_Name_used _ _ _ _ hsw]
  refine wpAny_bind (wpAny_standAt ?_)
  rw [arm_evalThenUse_ListComp]
  refine wpAny_bind (wpAny_bind (wpAny_comprehension_free (Q := fun _ s' => wpAny (model X.prog X.w) X.A (pure () : Sem Unit) (fun _ s' => wpAny (model X.prog X.w) X.A (pure .next : Sem Flow) (SP X pins Dn) X.xe s') X.xe s') (use := some (assign (.Name y pos') X.env)) rfl hs hclos S.kind (fun y hy hl => (S.names y hy hl).1) ?_))
  refine thn (hi pins s σ H _ I h) fun v s1 h1 => thn h1 fun itv s₂ h2 => ?_
  obtain ⟨it, fp, tn, J, H2, e, I2, T, st2, f2, W, ⟨m0, w0⟩, turn⟩ := h2
  subst e
  refine wpAny_newObj_type (wpAny_newFunctionEnv S.ncell (by intro y hy; simp at hy) (fun h₁ hns₁ hsb₁ => ?_) S.kind)
  dsimp only at hns₁ hsb₁ ⊢
  generalize hH2 : s₂.heap.push { cls := .type "list", dict := none, data := .seq ([] : List Value).toArray } = G2 at hns₁ hsb₁ ⊢
  have hC : G2.objs.size = s₂.heap.objs.size + 1 := by rw [← hH2, Heap.size_push]
  have hDC : s₂.heap.objs.size ≠ G2.objs.size := by rw [hC]; exact Nat.ne_of_lt (Nat.lt_succ_self _)
  have hCle : s₂.heap.objs.size ≤ G2.objs.size := by rw [hC]; exact Nat.le_succ _
  have old : ∀ b o, s₂.heap.get? b = some o → h₁.get? b = some o := fun b o e => by
    have hb : b ≠ G2.objs.size := by rw [hC]; exact Nat.ne_of_lt (Nat.lt_succ_of_lt (Heap.lt_size e))
    exact hsb₁.extBut b o hb (Heap.get?_push_of_some _ (hH2 ▸ Heap.get?_push_of_some _ e))
  have hacc : h₁.get? s₂.heap.objs.size = some { cls := .type "list", data := .seq (#[] : Array Value) 0 } := hsb₁.extBut _ _ hDC (Heap.get?_push_of_some _ (hH2 ▸ Heap.get?_push_size _ rfl))
  generalize hD : s₂.heap.objs.size = D at *
  generalize hCC : G2.objs.size = C at *
  have ltS : ∀ {b : Nat} {o : Obj}, s₂.heap.get? b = some o → b < D := fun e => by rw [← hD]; exact Heap.lt_size e
  have nofr : ∀ b, D ≤ b → b ∉ frs X.stack := fun b hb z => by
    rcases List.mem_cons.mp (I2.stkSub b z) with q | q
    · exact ar1 I2.lt hD hb q
    · exact I2.nofs (by rw [hD]; exact hb) q
  -- the block's context
  let E' : Value → Shared → Prop := notedBy (model X.prog X.w) X.A (compEnvC scope cl C X.env) fun e s' => compPost (model X.prog X.w) X.A X.xe (some (assign (.Name y pos') X.env)) (fun _ s' => wpAny (model X.prog X.w) X.A (pure () : Sem Unit) (fun _ s' => wpAny (model X.prog X.w) X.A (pure .next : Sem Flow) (SP X pins Dn) X.xe s') X.xe s') (.ref D) C (.error e) s'
  let Y : Cx := cxC X scope cl x C s₂ H2 fp E'
  have fpX : ∀ b ∈ fp, FpOk X pins H2 b := f2
  have okY : Y.Ok := by
    refine ⟨I2.ok.mod, S.kind, I2.ok.glob, I2.ok.blt, (by show s₂.heap.objs.size ≤ C; omega), fun y z c h1 h2 => ?_, fun y hy => ?_, fun y c hf => ?_, I2.ok.hd, I2.ok.frames, .inl rfl, fun b hb => ?_, I2.bs, Nat.le_trans I2.ok.bsz I2.sz, fun b o hb hx => ?_, fun b hb hx => ?_, I2.stack, I2.stkFree⟩
    · exact I2.ok.inj y z c (hcl1 y c h1) (hcl1 z c h2)
    · exact hcl2 y (rel_free S hkd hy)
    · cases hf
    · refine ⟨fun z => ?_, fun y c hy => (fpX b hb).2.2.2.2.1 y c (hcl1 y c hy)⟩
      obtain ⟨o, ho, _⟩ := T.obj 0 _ st2 b hb
      exact ar2 (ltS ho) hC z
    · rcases (fpX b hx).2.2.2.1 with z | z
      · exact I2.ok.noex b o hb z
      · exact ar3 (Heap.lt_size hb) I2.ok.bsz z
    · rcases List.mem_cons.mp (I2.stkSub b hx) with q | q
      · exact (fpX b hb).2.1 q
      · exact (fpX b hb).2.2.1 q
  have hpinD : ∀ {s' : Shared} {H' : Hp} {o : Obj}, s'.heap.get? D = some o → H' D = none → (∀ v, o.data ≠ .cell v) → ∀ p ∈ [(D, o)], s'.heap.get? p.1 = some p.2 ∧ H' p.1 = none ∧ p.1 ≠ Y.env.locals ∧ p.1 ∉ Y.fs ∧ ∀ v, p.2.data ≠ .cell v := fun {s' H' o} e1 e2 e3 p hp => by
    have ep : p = (D, o) := by simpa using hp
    subst ep
    exact ⟨e1, e2, hDC, nofr D (Nat.le_refl _), e3⟩
  have I0 : Inv Y [(D, { cls := .type "list", data := .seq (#[] : Array Value) 0 })] (none :: σ) H2 { s₂ with heap := h₁, toks := s₂.toks + ([] : List (Str × Value)).length } := by
    have fresh : ∀ b, D ≤ b → H2 b = none := fun b hb => I2.hok.fresh (by rw [hD]; exact hb)
    refine ⟨okY, rfl, I2.bare, Un.kept old, ⟨_, hns₁, fun i y v e1 e2 e3 => ?_⟩, fun y c hy => ?_, fresh C (by omega), fun y c hy => I2.freeC y c (hcl1 y c hy), fun p hp => hpinD hacc (fresh D (Nat.le_refl _)) (fun v z => by cases z) p hp, I2.hok.kept old, ?_⟩
    · cases i with
      | zero => simp at e2
      | succ i =>
        have e1' : X.N[i]? = some y := by simpa [Y, cxC] using e1
        have e2' : σ[i]? = some (some v) := by simpa using e2
        have hyx : ¬ (y = x ∨ y = ".0") := fun z => by
          have hm := List.mem_of_getElem? e1'
          rcases z with z | z
          · rw [z] at hm
            exact (List.nodup_cons.mp hN).1 hm
          · rw [z] at hm
            exact h0N hm
        have hfr : (y, NameKind.free) ∈ scope.names := by
          rcases e3 with e3 | e3 | e3
          · exact absurd (rel_local S e3) hyx
          · exact rel_free S hkd (.inl e3)
          · exact rel_free S hkd (.inr e3)
        have hkc : X.env.scope.names.lookup y = some .cell := S.free _ hfr rfl
        obtain ⟨m, hn, hl⟩ := I2.loc
        obtain ⟨u, r, l⟩ := hl i y v e1' e2' (.inr (.inl hkc))
        refine ⟨u, r, ?_⟩
        rcases l with ⟨hk, _⟩ | ⟨_, c, hcc, hcell⟩
        · have : X.env.kindOf y = some .cell := hkc
          rw [this] at hk; cases hk
        · obtain ⟨c', hc'⟩ := hcl2 y hfr
          have := hcl1 y c' hc'
          rw [hcc] at this
          cases this
          refine .inr ⟨?_, c, hc', ?_⟩
          · rcases e3 with e3 | e3 | e3
            · exact absurd (rel_local S e3) hyx
            · exact .inl e3
            · exact .inr e3
          · obtain ⟨o, ho, hd⟩ := hcell
            exact ⟨o, old c o ho, hd⟩
    · obtain ⟨v, o, ho, hd⟩ := I2.cell y c (hcl1 y c hy)
      exact ⟨v, o, old c o ho, hd⟩
    · show (none :: σ).length = (x :: X.N).length
      simp [I2.len]
  have fpY : ∀ {pl : List (Addr × Obj)} {H' : Hp}, (∀ p ∈ pl, p.1 = D) → (∀ b ∈ fp, H' b = none) → ∀ b ∈ fp, FpOk Y pl H' b := fun {pl H'} hpl hn b hb => by
    obtain ⟨o, ho, _⟩ := T.obj 0 _ st2 b hb
    refine ⟨hn b hb, fun z => ?_, ?_, .inl hb, (okY.exf b hb).2, fun p hp z => ?_⟩
    · exact ar2 (ltS ho) hC z
    · exact okY.exfs b hb
    · have hp' : p ∈ pl := by simpa [Y, cxC] using hp
      exact ar4 (ltS ho) (hpl p hp') z
  have loop : codeAny (model X.prog X.w) X.A (.compLoop (.ListComp elt [⟨.Name x px, iter, [], 0⟩] scope pos) 0 (.ref it) (.ref D) (compEnvC scope cl C X.env))
      (compPost (model X.prog X.w) X.A X.xe (some (assign (.Name y pos') X.env)) (fun _ s' => wpAny (model X.prog X.w) X.A (pure () : Sem Unit) (fun _ s' => wpAny (model X.prog X.w) X.A (pure .next : Sem Flow) (SP X pins Dn) X.xe s') X.xe s') (.ref D) C) { s₂ with heap := h₁, toks := s₂.toks + ([] : List (Str × Value)).length } := by
    refine compLoop_keep (fun n s' => ∃ i ys H' its k, Inv Y [(D, { cls := .type "list", data := .seq (its : List Value).toArray k })] (none :: σ) H' s' ∧ Vals ys its ∧ tn i s'.heap ∧ (∀ b ∈ fp, H' b = none) ∧ W i n ys H') ?_ m0
      ⟨0, [], H2, [], 0, I0, .nil, T.keep 0 _ _ st2 (fun b hb o e => old b o e), fun b hb => (fpX b hb).1, w0⟩
    rintro n s3 ⟨i, ys, H3, its, k, I3, rv, st3, fr3, w3⟩
    have pinl : ∀ {o : Obj}, ∀ p ∈ [(D, o)], p.1 = D := fun {o} p hp => by
      have ep : p = (D, o) := by simpa using hp
      rw [ep]
    obtain ⟨gD, nD, _, _, _⟩ := I3.pin (D, _) (List.mem_append_right _ List.mem_cons_self)
    rcases turn i n ys H3 w3 with ⟨stop, hz, q⟩ | ⟨go, hz, step⟩
    · refine thn (T.done Y rfl rfl rfl hc i _ s3 _ H3 E' I3 (fpY pinl fr3) st3 stop) fun r s4 ⟨hr, I4⟩ => ?_
      subst hr
      obtain ⟨gD4, nD4, _, _, _⟩ := I4.pin (D, _) (List.mem_append_right _ List.mem_cons_self)
      obtain ⟨m4, hn4, _⟩ := id I4.loc
      have fin : ∀ h', Heap.SameBut C s4.heap h' → Inv X pins σ (upd H3 D (.lst ys)) { s4 with heap := h' } := fun h' hsb => by
        have neC : ∀ {b : Addr} {u : HO}, H3 b = some u → b ≠ C := fun e z => by
          have : H3 C = none := I4.free
          rw [z, this] at e; cases e
        refine I2.call' (s' := { s4 with heap := h' }) (ch := fp) (H' := upd H3 D (.lst ys)) I4.os ?_ ?_ I4.bare fun b hb => ⟨(fpX b hb).2.2.2.1, (fpX b hb).2.1, (fpX b hb).2.2.2.2.1, (fpX b hb).2.2.2.2.2⟩
        · have B := I4.base
          have ltC : ∀ {b : Nat} {o : Obj}, s₂.heap.get? b = some o → b ≠ C := fun e z => ar2 (ltS e) hC z
          have neD : ∀ {b : Addr} {u : HO}, H3 b = some u → b ≠ D := fun e z => by rw [z, nD4] at e; cases e
          refine ⟨fun b o e nn hb hx => (hsb.2 b (ltC e)).trans (B.keep b o e nn hb hx), fun b o e nn hb hx => ?_, fun b o e nn hx => ?_, fun b o e hx => ?_, fun b xs e => ?_, fun b o u e => ?_, fun b ps e => ?_⟩
          · obtain ⟨sl, z⟩ := B.slot b o e nn hb hx
            exact ⟨sl, (hsb.2 b (ltC e)).trans z⟩
          · have hbD : b ≠ D := Nat.ne_of_lt (ltS e)
            rw [upd_ne hbD]
            exact B.free b o e nn hx
          · obtain ⟨o', z⟩ := B.there b o e hx
            exact ⟨o', (hsb.2 b (ltC e)).trans z⟩
          · have z := B.tups b xs e
            rw [upd_ne (neD z)]; exact z
          · have z := B.frzs b o u e
            rw [upd_ne (neD z)]; exact z
          · obtain ⟨more, z⟩ := B.tbls b ps e
            exact ⟨more, by rw [upd_ne (neD z)]; exact z⟩
        · intro a o e
          by_cases ha : a = D
          · subst ha
            rw [upd_same] at e
            cases e
            exact ⟨hz, its, k, rv, (hsb.2 _ hDC).trans gD4⟩
          · rw [upd_ne ha] at e
            have keepNe : ∀ b u, H3 b = some u → (upd H3 D (.lst ys)) b = some u := fun b u z => by
              have hb : b ≠ D := fun w => by rw [w, nD4] at z; cases z
              rw [upd_ne hb]; exact z
            refine (I4.hok a o e).stay (fun b u hb z => (hsb.2 b ?_).trans z) (fun b z => keepNe b _ z) fun b xs z => keepNe b _ z
            rcases hb with hb | hb
            · rw [hb]; exact neC e
            · exact neC hb
      have hCD : C ≠ D := fun z => hDC z.symm
      have IX := fin s4.heap ⟨rfl, fun _ _ => rfl⟩
      obtain ⟨oC, eC, pC, gC, rC⟩ := id hn4
      have hCn : upd H3 D (.lst ys) C = none := by rw [upd_ne hCD]; exact I4.free
      have hCe : ∀ b o, s₂.heap.get? b = some o → b ≠ C := fun b o e z => ar2 (ltS e) hC z
      have hCl : C ≠ X.env.locals := fun z => by
        obtain ⟨m2, hn2, _⟩ := id I2.loc
        obtain ⟨o2, _, _, g2, _⟩ := hn2
        exact hCe _ _ g2 z.symm
      have hCf : C ∉ X.fs := I2.nofs (by rw [hD]; omega)
      have IP : Inv X (pins ++ [(C, oC)]) σ (upd H3 D (.lst ys)) s4 := IX.pins_of fun p hp => by
        rcases List.mem_append.mp hp with hp | hp
        · exact IX.pin p (List.mem_append_right _ hp)
        · have ep : p = (C, oC) := by simpa using hp
          subst ep
          exact ⟨gC, hCn, hCl, hCf, fun v z => by rw [rC.1] at z; cases z⟩
      show wpAny _ _ (assign (.Name y pos') X.env (.ref D)) _ _ s4
      have hst : wpAny (model X.prog X.w) X.A (assign (.Name y pos') X.env (.ref D)) (fun _ s5 => Inv X (pins ++ [(C, oC)]) (σ.set iy (some (.ref D))) (upd H3 D (.lst ys)) s5) X.xe s4 := wpAny_assign_Name (store_ok IP hNX hiy hy (v := .ref D) rfl (fun s5 I5 => I5) hfy)
      refine thn hst fun _ s5 I5 => ?_
      have g5 := (I5.pin (C, oC) (List.mem_append_right _ (List.mem_append_right _ List.mem_cons_self))).1
      refine ⟨m4, ⟨oC, eC, pC, g5, rC⟩, fun h'' hsb => wpAny_pure (wpAny_pure ⟨_, _, ?_, q D nD4⟩)⟩
      exact (I5.pins_of (pins' := pins) fun p hp => I5.pin p (List.mem_append_right _ (List.mem_append_left _ hp))).turned (it := C) (t' := s5.toks) (fun b o hb e => (hsb.2 b hb).trans e) hCn hCl
        (.inr (by have := I2.sz; rw [hD] at this; omega)) (fun a c ha z => by
          obtain ⟨v', o', ho', _⟩ := I2.cell a c ha
          exact hCe _ _ ho' z) (fun p hp => hCe _ _ (I2.pin p hp).1)
    · refine thn (T.item Y rfl rfl rfl hc i _ s3 _ H3 E' I3 (fpY pinl fr3) st3 go) fun r s4 ⟨u, hr, h4⟩ => ?_
      subst hr
      refine thn h4 fun _ s5 ⟨z, H5, I5, r5, y5, st5, fr5⟩ => ?_
      have I5' := I5.pinned (fpY pinl fr5) (T.obj _ _ st5)
      have pgx : PG Y (.Name x px) (gName 0) := pg_name (X := Y) hN rfl (.inl (lookup_relabel_local S.hx)) (.inr (lookup_relabel_local S.hx))
      have peY : PE Y elt te := PE.nox (X := Y) (he cl C s₂ H2 fp)
      refine thn (pgx _ s5 (none :: σ) H5 z u (fun σ' H' => σ' = some z :: σ ∧ H' = H5) I5' r5 ⟨rfl, rfl⟩) fun _ s6 ⟨σ6, H6, I6, e1, e2⟩ => ?_
      subst e1 e2
      refine thn (peY _ s6 _ _ _ I6 (step z _ y5)) fun uy s7 ⟨y, H7, I7, ry, m', hm, w7⟩ => ?_
      obtain ⟨gD7, nD7, _, _, _⟩ := I7.pin (D, _) (List.mem_append_right _ (List.mem_append_left _ List.mem_cons_self))
      refine wpAny_list_append_plain ⟨k, gD7⟩ (fun h' hpl hsb => ?_) (by rw [List.size_toArray, ← rv.length]; exact hz)
      obtain ⟨k', gD'⟩ := hpl
      have I8 : Inv Y [] (some z :: σ) H7 { s7 with heap := h' } := (I7.pins_of (pins' := []) (fun p hp => nomatch hp)).turned (it := D) (t' := s7.toks) (fun b o hb e => (hsb.2 b hb).trans e) nD7 hDC
        (.inr (by show s₂.heap.objs.size ≤ D; omega)) (fun a c hy hz' => by
          obtain ⟨v', o', ho', _⟩ := I2.cell a c (hcl1 a c hy)
          exact Nat.ne_of_lt (ltS ho') hz') (fun p hp => by simp [Y, cxC] at hp)
      have I9 : Inv Y [] (none :: σ) H7 { s7 with heap := h' } := I8.weak (by simp) fun j v e => by
        cases j with
        | zero => simp at e
        | succ j => simpa using e
      have pinOf : ∀ b ∈ fp, ∃ o, s5.heap.get? b = some o ∧ s7.heap.get? b = some o ∧ H7 b = none := fun b hb => by
        obtain ⟨o, e, _⟩ := T.obj _ _ st5 b hb
        have q := I7.pin (b, o) (List.mem_append_right _ (List.mem_append_right _ (mem_pinsAt hb e)))
        exact ⟨o, e, q.1, q.2.1⟩
      have fpD : ∀ b ∈ fp, b ≠ D := fun b hb => by
        obtain ⟨o, ho, _⟩ := T.obj 0 _ st2 b hb
        exact Nat.ne_of_lt (ltS ho)
      have eT : its.toArray.push uy = (its ++ [uy]).toArray := by simp
      rw [eT] at gD'
      refine ⟨m', hm, i + 1, ys ++ [y], H7, its ++ [uy], k', I9.pins_of (hpinD gD' nD7 fun v e => by cases e), rv.append (.cons ry .nil), T.keep (i + 1) _ _ st5 fun b hb o e => ?_, fun b hb => ?_, w7⟩
      · obtain ⟨o', e1, e2, _⟩ := pinOf b hb
        rw [e] at e1
        cases e1
        exact (hsb.2 b (fpD b hb)).trans e2
      · obtain ⟨_, _, _, q⟩ := pinOf b hb
        exact q
  exact codeAny_compStart_list loop (T.self X.A 0 _ _ _ (T.keep 0 _ _ st2 (fun b hb o e => old b o e)) loop)
end L2

set_option Elab.async false
set_option linter.all false
set_option maxRecDepth 100000
set_option maxHeartbeats 4000000
/-! name = [elt for x in iter] -/
namespace Mi
open PySem L2 PySem.W PySem.Spec
section
variable {X : Cx} {Er : XK} {pos : Pos}
def tMI (X : Cx) (Er : XK) (src : PEnv → Mo Sq) : TI := fun σ H R => ∃ env st ρ, EnvR X.K X.mg ρ H env σ ∧ StR X.K X.mg ρ H st ∧ Out X.K X.mg ρ H (src env st) (fun ρ' H' q st' => ∀ J, Walk X.K X.mg J ρ' H' q → R J H') Er
theorem comp_weak {src : PEnv → Mo Sq} {fe : PEnv → Mo PV} (σ : L2.St) (H : Hp) (Q : VK) (hh : tM X.K X.mg Er (mComp src fe) σ H Q) : tComp (tMI X Er src) (tM X.K X.mg XN fe) σ H Q := by
  obtain ⟨env, st, ρ, re, rs, h⟩ := hh
  refine ⟨env, st, ρ, re, rs, h.then fun ρ0 H0 q st0 e0 s0 h0 J wk => ?_⟩
  cases q with
  | im xs =>
    obtain ⟨hl, h0⟩ := Out.ifp h0
    obtain ⟨w1, w2, w3⟩ := wk
    refine ⟨fun i m ys H => m = xs.length - i ∧ i ≤ xs.length ∧ ys.length = i ∧ ∃ ps st ρ, Rs X.K X.mg ρ H ps ys ∧ StR X.K X.mg ρ H st ∧ Ext ρ0 H0 ρ H ∧ Out X.K X.mg ρ H (compL fe env (xs.drop i) ps st) (gV X.K X.mg Q) Er, ⟨xs.length, by simp, Nat.zero_le _, rfl, [], st0, ρ0, rfl, s0, Ext.refl, h0⟩, ?_⟩
    rintro i m ys H ⟨rfl, hi, hy, ps, st, ρ, rps, rs, ex, h⟩
    by_cases hlt : i < xs.length
    · refine .inr ⟨w1 i ρ H ex hlt, lim_line (by omega), fun v H' y => ?_⟩
      obtain ⟨x, hx, ex2, s2, rx⟩ := w3 i ρ H st v H' ex rs hlt y
      have hd : xs.drop i = x :: xs.drop (i + 1) := by
        rw [List.drop_eq_getElem_cons hlt]
        have := (List.getElem?_eq_some_iff.mp hx).2
        rw [this]
      rw [hd] at h
      simp only [compL] at h
      refine ⟨some x :: env, st, ρ, (re.ext (e0.trans (ex.trans ex2))).cons rx, s2, noErr_out (Out.ext h ex2) fun ρ3 H3 y st3 e3 s3 h3 v ry => ⟨xs.length - (i + 1), by omega, rfl, hlt, by simp [hy], ps ++ [y], st3, ρ3, Rs.snoc ry (Rs.ext (ex2.trans e3) ps rps), s3, (ex.trans ex2).trans e3, h3⟩⟩
    · have e : i = xs.length := by omega
      subst e
      rw [List.drop_length] at h
      exact .inl ⟨w2 _ ρ H ex (Nat.le_refl _), lim_line (by omega), fun l hl => Out.newList h rs rps hl⟩
  | rf n =>
    obtain ⟨a, ha, rfl⟩ := wk
    refine ⟨fun i m ys H => m + i = lim + 1 ∧ ys.length = i ∧ ∃ ps st ρ, Rs X.K X.mg ρ H ps ys ∧ StR X.K X.mg ρ H st ∧ Ext ρ0 H0 ρ H ∧ ρ[n]? = some a ∧ Out X.K X.mg ρ H (compR fe env n m i ps st) (gV X.K X.mg Q) Er, ⟨lim + 1, rfl, rfl, [], st0, ρ0, rfl, s0, Ext.refl, ha, h0⟩, ?_⟩
    rintro i m ys H ⟨hm, hy, ps, st, ρ, rps, rs, ex, ha, h⟩
    cases m with
    | zero => exact False.elim h
    | succ m =>
      obtain ⟨xs, hn, h⟩ := withL_inv h
      obtain ⟨vs, hH, hR⟩ := rs.addr hn ha
      cases hx : xs[i]? with
      | none =>
        simp only [hx] at h
        have : vs.length ≤ i := by rw [← hR.len]; exact List.getElem?_eq_none_iff.mp hx
        exact .inl ⟨⟨vs, SqL.of hH, this⟩, lim_line (by omega), fun l hl => Out.newList h rs rps hl⟩
      | some x =>
        simp only [hx] at h
        obtain ⟨v, hv, rv⟩ := hR.get hx
        refine .inr ⟨⟨vs, v, SqL.of hH, hv⟩, lim_line (by omega), fun v' H' y => ?_⟩
        obtain ⟨e1, y⟩ := y
        subst e1
        have e2 := y vs (SqL.of hH)
        rw [hv] at e2
        cases e2
        exact ⟨some x :: env, st, ρ, (re.ext (e0.trans ex)).cons rv, rs, noErr_out h fun ρ3 H3 y st3 e3 s3 h3 v ry => ⟨m, Nat.lt_succ_self m, by omega, by simp [hy], ps ++ [y], st3, ρ3, Rs.snoc ry (Rs.ext e3 ps rps), s3, ex.trans e3, e3.get ha, h3⟩⟩
theorem ms_setcomp (i : Nat) {elt iter : Expr} {x y : Str} {px pos' spos : Pos} {scope : Scope} {src : PEnv → Mo Sq} {fe : PEnv → Mo PV} {N : List Str} (hc : X.calm = true) (S : CompSc X.env.scope scope x) (eN : X.N = N) (hN0 : ((".0" : Str) :: x :: N).Nodup)
    (hi : MI X Er (.Name x px) iter src) (he : ∀ cl C s₂ H₂ fp, ME (cxC X scope cl x C s₂ H₂ fp (fun _ _ => False)) XN elt fe) (hNX : X.N.Nodup) (hiy : X.N[i]? = some y) (hy : Loc X.env.scope y) (hfy : X.fn y = true ∨ X.env.scope.names.lookup y = some .local)
    (hsw : swapsWith (.ListComp elt [⟨.Name x px, iter, [], 0⟩] scope pos) (some (.Name y pos')) spos.line X.env = pure true) (hs : ∀ v, foldedSetIterable iter X.env v = pure v := by intro _; rfl) :
    MS X Er (.Assign [.Name y pos'] (.ListComp elt [⟨.Name x px, iter, [], 0⟩] scope pos) spos) (sSet i (mComp src fe)) :=
  PS.weak (ps_setcomp (te := tM X.K X.mg XN fe) hc S eN hN0 hi (fun cl C s₂ H₂ fp => he cl C s₂ H₂ fp) hNX hiy hy hfy hsw hs) fun D σ H ⟨env, st, ρ, re, rs, h⟩ => by
    refine comp_weak (X := X) (Er := Er) (src := src) (fe := fe) σ H (fun v H2 => D.nx (σ.set i (some v)) H2) ⟨env, st, ρ, re, rs, h.then fun ρ1 H1 x st1 e1 s1 h1 v rv => ?_⟩
    exact h1.now s1 (σ.set i (some v)) ((re.ext e1).set i rv)
end
end Mi

set_option Elab.async false
set_option linter.all false
set_option maxRecDepth 100000
set_option maxHeartbeats 4000000
namespace FK12
open PySem L2 PySem.W Mi
def top (i : Nat) : Stmt := PySem.Challenge.pw_foreknown_k12_weights.main.body.getD i (.Pass ⟨0, 0, 0, 0⟩)
abbrev s__law_cell : Stmt := top 7
abbrev s__law_word : Stmt := top 9
abbrev s__law_number : Stmt := top 8
abbrev s__law_leaf : Stmt := top 11
abbrev s__law_record : Stmt := top 10
abbrev s__law_built : Stmt := top 12
abbrev s__law_made : Stmt := top 13
abbrev s__law_count : Stmt := top 17
abbrev s_things_within : Stmt := top 1
abbrev s_all_within : Stmt := top 3
abbrev s_kind_of : Stmt := top 2
abbrev s_own_weight : Stmt := top 4
abbrev s_weight : Stmt := top 5
abbrev s__law_nearer : Stmt := top 14
abbrev s__law_pieces : Stmt := top 15
abbrev s__law_lighter : Stmt := top 16
abbrev s_law : Stmt := top 18
def isT : IsT where
  isx c := false
  sub c B :=  none
  subT c n :=  none
  tyC _ _ := none
structure Txt (w : World) (K : Frag) (mg : Str → Option Value) : Prop where
  f__law_cell : FnF K mg "_law_cell" s__law_cell ["_law_script", "_law_k"]
  f__law_word : FnF K mg "_law_word" s__law_word ["_law_cell_here"]
  f__law_number : FnF K mg "_law_number" s__law_number ["_law_cell_here"]
  f__law_leaf : FnF K mg "_law_leaf" s__law_leaf ["_law_cell_here", "_law_small"]
  f__law_record : FnF K mg "_law_record" s__law_record ["_law_cell_here", "_law_things"]
  f__law_built : FnF K mg "_law_built" s__law_built ["_law_script", "_law_size", "_law_small"]
  f__law_made : FnF K mg "_law_made" s__law_made ["_law_script"]
  f__law_count : FnF K mg "_law_count" s__law_count ["_law_found", "_law_due"]
  f_things_within : FnF K mg "things_within" s_things_within ["thing"]
  f_all_within : FnF K mg "all_within" s_all_within ["thing"]
  f_kind_of : FnF K mg "kind_of" s_kind_of ["value"]
  f_own_weight : FnF K mg "own_weight" s_own_weight ["part"]
  f_weight : FnF K mg "weight" s_weight ["value"]
  f__law_nearer : FnF K mg "_law_nearer" s__law_nearer ["_law_one"]
  f__law_pieces : FnF K mg "_law_pieces" s__law_pieces ["_law_value"]
  f__law_lighter : FnF K mg "_law_lighter" s__law_lighter ["_law_value", "_law_heavy"]
  f_law : FnF K mg "law" s_law ["_law_script"]
  b_bool : mg "bool" = none
  b_dict : mg "dict" = none
  b_int : mg "int" = none
  b_isinstance : mg "isinstance" = none
  b_len : mg "len" = none
  b_list : mg "list" = none
  b_max : mg "max" = none
  b_min : mg "min" = none
  b_range : mg "range" = none
  b_str : mg "str" = none
  b_sum : mg "sum" = none
  b_tuple : mg "tuple" = none
  is : IsF K mg isT
section
variable {P : Program} {w : World} {K : Frag} {mg : Str → Option Value} {base : Heap}
theorem sc__law_cell : FnScope ["_law_script", "_law_k", "_law_mixed", "_law_cell_here"] ["_law_script", "_law_k"] (defScope s__law_cell) := ⟨rfl, rfl, rfl, by decide +kernel, rfl, by decide +kernel, by decide +kernel⟩
def gt__law_cell_3 : PEnv → Mo Fl :=
    (sRet (mOp oMod (mOp oMulT (mVar 2) (mOp oAdd (mVar 1) (mC (.int 5)))) (mC (.int 1000000007))))
def gt__law_cell_2 : PEnv → Mo Fl :=
    sSeq (sFor (iVal (mSl (mVar 0) pNone (pSome (mC (.int 5))))) (gN 3)
    (sSet 2 (mOp oMod (mOp oAdd (mOp oMulT (mVar 2) (mC (.int 2011))) (mVar 3)) (mC (.int 998244353))))) gt__law_cell_3
def gt__law_cell_1 : PEnv → Mo Fl :=
    sSeq (sSet 2 (mOp oAdd (mOp oMulT (mC (.int 37)) (mVar 1)) (mC (.int 29)))) gt__law_cell_2
def g__law_cell : PEnv → Mo Fl :=
    sSeq (sIf (mB (mOp oLt (mVar 1) (mCall oLen (aCons (mVar 0) aNil))))
    (sRet (mOp oIxD (mVar 0) (mVar 1)))
    sNext) gt__law_cell_1
def m__law_cell : List PV → Mo PV := mirror 2 4 g__law_cell
theorem ok__law_cell (T : Txt w K mg) : FOk P w K mg base "_law_cell" 1 m__law_cell := T.f__law_cell.ok (k := 0) sc__law_cell fun f cdv A outer s H E hr =>
    by
    refine mss_cons ?_ ?_
    · refine ms_if ?_ ?_ ?_
      · refine m_cmpT c_lt ?_ ?_
        · exact (me_var 1)
        · refine m_blt f_len T.b_len bt_len ?_
          refine ma_cons ?_ ?_ st_Name
          · exact (me_var 0)
          · exact ma_nil
      · refine mss_one ?_
        refine ms_ret ?_
        refine m_ix (ixD_ok (hu200 hr)) ?_ ?_
        · exact (me_var 0)
        · exact (me_var 1)
      · exact mss_nil
    · refine mss_cons ?_ ?_
      · refine ms_set 2 ?_ ?_ ?_ ?_ ?_ ?_
        · refine m_bin b_add ?_ ?_
          · refine m_bin b_mulT ?_ ?_
            · exact me_int
            · exact (me_var 1)
          · exact me_int
        · exact sc__law_cell.nd
        · rfl
        · first | exact Or.inl rfl | exact Or.inr rfl
        · rfl
        · first | exact .inl rfl | exact .inr rfl | assumption
      · refine mss_cons ?_ ?_
        · refine ms_for (passes_XA rfl rfl) rfl ?_ ?_ ?_
          · refine mi_val ?_
            refine m_slice ?_ ?_ ?_
            · exact (me_var 0)
            · exact mo_none
            · refine mo_some ?_
              exact me_int
          · exact (mg_name 3 sc__law_cell.nd)
          · refine mss_one ?_
            refine ms_set 2 ?_ ?_ ?_ ?_ ?_ ?_
            · refine m_bin b_mod ?_ ?_
              · refine m_bin b_add ?_ ?_
                · refine m_bin b_mulT ?_ ?_
                  · exact (me_var 2)
                  · exact me_int
                · exact (me_var 3)
              · exact me_int
            · exact sc__law_cell.nd
            · rfl
            · first | exact Or.inl rfl | exact Or.inr rfl
            · rfl
            · first | exact .inl rfl | exact .inr rfl | assumption
        · refine mss_one ?_
          refine ms_ret ?_
          refine m_bin b_mod ?_ ?_
          · refine m_bin b_mulT ?_ ?_
            · exact (me_var 2)
            · refine m_bin b_add ?_ ?_
              · exact (me_var 1)
              · exact me_int
          · exact me_int
theorem sc__law_word : FnScope ["_law_cell_here", "_law_word_here", "_law_rest", "_law_k"] ["_law_cell_here"] (defScope s__law_word) := ⟨rfl, rfl, rfl, by decide +kernel, rfl, by decide +kernel, by decide +kernel⟩
def gt__law_word_3 : PEnv → Mo Fl :=
    (sRet (mVar 1))
def gt__law_word_2 : PEnv → Mo Fl :=
    sSeq (sFor (iRng1 (aCons (mOp oAdd (mC (.int 1)) (mOp oMod (mVar 0) (mC (.int 8)))) aNil)) (gN 3)
    (sSeq (sSet 1 (mOp oAdd (mVar 1) (mOp oIxD (mC (.str "nseatiorlduhmcgfypwbvkxjqz")) (mOp oMod (mVar 2) (mC (.int 26))))))
    (sSet 2 (mOp oMod (mOp oMulT (mVar 2) (mC (.int 16807))) (mC (.int 2147483647)))))) gt__law_word_3
def gt__law_word_1 : PEnv → Mo Fl :=
    sSeq (sSet 2 (mOp oMod (mOp oDiv (mVar 0) (mC (.int 8))) (mC (.int 2147483647)))) gt__law_word_2
def g__law_word : PEnv → Mo Fl :=
    sSeq (sSet 1 (mC (.str ""))) gt__law_word_1
def m__law_word : List PV → Mo PV := mirror 1 4 g__law_word
theorem ok__law_word (T : Txt w K mg) : FOk P w K mg base "_law_word" 1 m__law_word := T.f__law_word.ok (k := 0) sc__law_word fun f cdv A outer s H E hr =>
    by
    refine mss_cons ?_ ?_
    · refine ms_set 1 ?_ ?_ ?_ ?_ ?_ ?_
      · exact me_str
      · exact sc__law_word.nd
      · rfl
      · first | exact Or.inl rfl | exact Or.inr rfl
      · rfl
      · first | exact .inl rfl | exact .inr rfl | assumption
    · refine mss_cons ?_ ?_
      · refine ms_set 2 ?_ ?_ ?_ ?_ ?_ ?_
        · refine m_bin b_mod ?_ ?_
          · refine m_bin b_div ?_ ?_
            · exact (me_var 0)
            · exact me_int
          · exact me_int
        · exact sc__law_word.nd
        · rfl
        · first | exact Or.inl rfl | exact Or.inr rfl
        · rfl
        · first | exact .inl rfl | exact .inr rfl | assumption
      · refine mss_cons ?_ ?_
        · refine ms_for (passes_XA rfl rfl) rfl ?_ ?_ ?_
          · refine mi_range1 T.b_range ?_
            refine ma_cons ?_ ?_ st_BinOp
            · refine m_bin b_add ?_ ?_
              · exact me_int
              · refine m_bin b_mod ?_ ?_
                · exact (me_var 0)
                · exact me_int
            · exact ma_nil
          · exact (mg_name 3 sc__law_word.nd)
          · refine mss_cons ?_ ?_
            · refine ms_set 1 ?_ ?_ ?_ ?_ ?_ ?_
              · refine m_bin b_add ?_ ?_
                · exact (me_var 1)
                · refine m_ix (ixD_ok (hu200 hr)) ?_ ?_
                  · exact me_str
                  · refine m_bin b_mod ?_ ?_
                    · exact (me_var 2)
                    · exact me_int
              · exact sc__law_word.nd
              · rfl
              · first | exact Or.inl rfl | exact Or.inr rfl
              · rfl
              · first | exact .inl rfl | exact .inr rfl | assumption
            · refine mss_one ?_
              refine ms_set 2 ?_ ?_ ?_ ?_ ?_ ?_
              · refine m_bin b_mod ?_ ?_
                · refine m_bin b_mulT ?_ ?_
                  · exact (me_var 2)
                  · exact me_int
                · exact me_int
              · exact sc__law_word.nd
              · rfl
              · first | exact Or.inl rfl | exact Or.inr rfl
              · rfl
              · first | exact .inl rfl | exact .inr rfl | assumption
        · refine mss_one ?_
          refine ms_ret ?_
          exact (me_var 1)
theorem sc__law_number : FnScope ["_law_cell_here", "_law_far"] ["_law_cell_here"] (defScope s__law_number) := ⟨rfl, rfl, rfl, by decide +kernel, rfl, by decide +kernel, by decide +kernel⟩
def gt__law_number_4 : PEnv → Mo Fl :=
    (sRet (mOp oSub (mOp oMod (mOp oDiv (mVar 0) (mC (.int 5))) (mC (.int 9))) (mC (.int 2))))
def gt__law_number_3 : PEnv → Mo Fl :=
    sSeq (sIf (mB (mOp oEq (mOp oMod (mVar 0) (mC (.int 5))) (mC (.int 3))))
    (sRet (mOp oSub (mOp oMod (mOp oDiv (mVar 0) (mC (.int 5))) (mC (.int 2001))) (mC (.int 1000))))
    sNext) gt__law_number_4
def gt__law_number_2 : PEnv → Mo Fl :=
    sSeq (sIf (mB (mOp oEq (mOp oMod (mVar 0) (mC (.int 5))) (mC (.int 2))))
    (sRet (mOp oSub (mOp oMod (mOp oDiv (mVar 0) (mC (.int 5))) (mOp oAdd (mOp oMulT (mC (.int 2)) (mVar 1)) (mC (.int 1)))) (mVar 1)))
    sNext) gt__law_number_3
def gt__law_number_1 : PEnv → Mo Fl :=
    sSeq (sIf (mB (mOp oEq (mOp oMod (mVar 0) (mC (.int 5))) (mC (.int 1))))
    (sRet (mOp oIxD (mLst (aCons (mVar 1) (aCons (mUn oNeg (mVar 1)) aNil))) (mOp oMod (mOp oDiv (mVar 0) (mC (.int 5))) (mC (.int 2)))))
    sNext) gt__law_number_2
def g__law_number : PEnv → Mo Fl :=
    sSeq (sSet 1 (mOp oSub (mOp oPow (mC (.int 10)) (mC (.int 18))) (mC (.int 1)))) gt__law_number_1
def m__law_number : List PV → Mo PV := mirror 1 2 g__law_number
theorem ok__law_number (T : Txt w K mg) : FOk P w K mg base "_law_number" 1 m__law_number := T.f__law_number.ok (k := 0) sc__law_number fun f cdv A outer s H E hr =>
    by
    refine mss_cons ?_ ?_
    · refine ms_set 1 ?_ ?_ ?_ ?_ ?_ ?_
      · refine m_bin b_sub ?_ ?_
        · refine m_bin b_pow ?_ ?_
          · exact me_int
          · exact me_int
        · exact me_int
      · exact sc__law_number.nd
      · rfl
      · first | exact Or.inl rfl | exact Or.inr rfl
      · rfl
      · first | exact .inl rfl | exact .inr rfl | assumption
    · refine mss_cons ?_ ?_
      · refine ms_if ?_ ?_ ?_
        · refine m_cmpT (c_eq (hu200 hr)) ?_ ?_
          · refine m_bin b_mod ?_ ?_
            · exact (me_var 0)
            · exact me_int
          · exact me_int
        · refine mss_one ?_
          refine ms_ret ?_
          refine m_ix (ixD_ok (hu200 hr)) ?_ ?_
          · refine me_lst ?_
            refine ma_cons ?_ ?_ st_Name
            · exact (me_var 1)
            · refine ma_cons ?_ ?_ st_UnaryOp
              · refine m_un u_neg ?_
                exact (me_var 1)
              · exact ma_nil
          · refine m_bin b_mod ?_ ?_
            · refine m_bin b_div ?_ ?_
              · exact (me_var 0)
              · exact me_int
            · exact me_int
        · exact mss_nil
      · refine mss_cons ?_ ?_
        · refine ms_if ?_ ?_ ?_
          · refine m_cmpT (c_eq (hu200 hr)) ?_ ?_
            · refine m_bin b_mod ?_ ?_
              · exact (me_var 0)
              · exact me_int
            · exact me_int
          · refine mss_one ?_
            refine ms_ret ?_
            refine m_bin b_sub ?_ ?_
            · refine m_bin b_mod ?_ ?_
              · refine m_bin b_div ?_ ?_
                · exact (me_var 0)
                · exact me_int
              · refine m_bin b_add ?_ ?_
                · refine m_bin b_mulT ?_ ?_
                  · exact me_int
                  · exact (me_var 1)
                · exact me_int
            · exact (me_var 1)
          · exact mss_nil
        · refine mss_cons ?_ ?_
          · refine ms_if ?_ ?_ ?_
            · refine m_cmpT (c_eq (hu200 hr)) ?_ ?_
              · refine m_bin b_mod ?_ ?_
                · exact (me_var 0)
                · exact me_int
              · exact me_int
            · refine mss_one ?_
              refine ms_ret ?_
              refine m_bin b_sub ?_ ?_
              · refine m_bin b_mod ?_ ?_
                · refine m_bin b_div ?_ ?_
                  · exact (me_var 0)
                  · exact me_int
                · exact me_int
              · exact me_int
            · exact mss_nil
          · refine mss_one ?_
            refine ms_ret ?_
            refine m_bin b_sub ?_ ?_
            · refine m_bin b_mod ?_ ?_
              · refine m_bin b_div ?_ ?_
                · exact (me_var 0)
                · exact me_int
              · exact me_int
            · exact me_int
theorem sc__law_leaf : FnScope ["_law_cell_here", "_law_small", "_law_number_here"] ["_law_cell_here", "_law_small"] (defScope s__law_leaf) := ⟨rfl, rfl, rfl, by decide +kernel, rfl, by decide +kernel, by decide +kernel⟩
def gt__law_leaf_3 : PEnv → Mo Fl :=
    (sRet (mTup (aCons (mVar 2) (aCons (mOp oAdd (mC (.int 1)) (mCall oMax (aCons (mC (.int 0)) (aCons (mVar 2) aNil)))) aNil))))
def gt__law_leaf_2 : PEnv → Mo Fl :=
    sSeq (sIf (mB (mVar 1))
    (sSet 2 (mOp oSub (mOp oMod (mOp oDiv (mVar 0) (mC (.int 3))) (mC (.int 7))) (mC (.int 2))))
    sNext) gt__law_leaf_3
def gt__law_leaf_1 : PEnv → Mo Fl :=
    sSeq (sSet 2 (mCall m__law_number (aCons (mOp oDiv (mVar 0) (mC (.int 3))) aNil))) gt__law_leaf_2
def g__law_leaf : PEnv → Mo Fl :=
    sSeq (sIf (mB (mOp oEq (mOp oMod (mVar 0) (mC (.int 3))) (mC (.int 0))))
    (sRet (mTup (aCons (mCall m__law_word (aCons (mOp oDiv (mVar 0) (mC (.int 3))) aNil)) (aCons (mC (.int 1)) aNil))))
    sNext) gt__law_leaf_1
def m__law_leaf : List PV → Mo PV := mirror 2 3 g__law_leaf
theorem ok__law_leaf (T : Txt w K mg) : FOk P w K mg base "_law_leaf" 2 m__law_leaf := T.f__law_leaf.ok (k := 1) sc__law_leaf fun f cdv A outer s H E hr =>
    by
    refine mss_cons ?_ ?_
    · refine ms_if ?_ ?_ ?_
      · refine m_cmpT (c_eq (hu200 hr)) ?_ ?_
        · refine m_bin b_mod ?_ ?_
          · exact (me_var 0)
          · exact me_int
        · exact me_int
      · refine mss_one ?_
        refine ms_ret ?_
        refine me_tup ?_
        refine ma_cons ?_ ?_ st_Call
        · refine m_call (ok__law_word T) (hr.mono (by decide)) throws_XA ?_
          refine ma_cons ?_ ?_ st_BinOp
          · refine m_bin b_div ?_ ?_
            · exact (me_var 0)
            · exact me_int
          · exact ma_nil
        · refine ma_cons ?_ ?_ st_Constant
          · exact me_int
          · exact ma_nil
      · exact mss_nil
    · refine mss_cons ?_ ?_
      · refine ms_set 2 ?_ ?_ ?_ ?_ ?_ ?_
        · refine m_call (ok__law_number T) (hr.mono (by decide)) throws_XA ?_
          refine ma_cons ?_ ?_ st_BinOp
          · refine m_bin b_div ?_ ?_
            · exact (me_var 0)
            · exact me_int
          · exact ma_nil
        · exact sc__law_leaf.nd
        · rfl
        · first | exact Or.inl rfl | exact Or.inr rfl
        · rfl
        · first | exact .inl rfl | exact .inr rfl | assumption
      · refine mss_cons ?_ ?_
        · refine ms_if ?_ ?_ ?_
          · refine mt_val ?_
            exact (me_var 1)
          · refine mss_one ?_
            refine ms_set 2 ?_ ?_ ?_ ?_ ?_ ?_
            · refine m_bin b_sub ?_ ?_
              · refine m_bin b_mod ?_ ?_
                · refine m_bin b_div ?_ ?_
                  · exact (me_var 0)
                  · exact me_int
                · exact me_int
              · exact me_int
            · exact sc__law_leaf.nd
            · rfl
            · first | exact Or.inl rfl | exact Or.inr rfl
            · rfl
            · first | exact .inl rfl | exact .inr rfl | assumption
          · exact mss_nil
        · refine mss_one ?_
          refine ms_ret ?_
          refine me_tup ?_
          refine ma_cons ?_ ?_ st_Name
          · exact (me_var 2)
          · refine ma_cons ?_ ?_ st_BinOp
            · refine m_bin b_add ?_ ?_
              · exact me_int
              · refine m_blt (f_max rfl) T.b_max bt_max ?_
                refine ma_cons ?_ ?_ st_Constant
                · exact me_int
                · refine ma_cons ?_ ?_ st_Name
                  · exact (me_var 2)
                  · exact ma_nil
            · exact ma_nil
theorem sc__law_record : FnScope ["_law_cell_here", "_law_things", "_law_word_here", "_law_at", "_law_record_here", "_law_k", "_law_place", "_law_key"] ["_law_cell_here", "_law_things"] (defScope s__law_record) := ⟨rfl, rfl, rfl, by decide +kernel, rfl, by decide +kernel, by decide +kernel⟩
def gt__law_record_4 : PEnv → Mo Fl :=
    (sRet (mVar 4))
def gt__law_record_3 : PEnv → Mo Fl :=
    sSeq (sFor (iRng1 (aCons (mCall oLen (aCons (mVar 1) aNil)) aNil)) (gN 5)
    (sSeq (sSet 6 (mOp oMod (mOp oAdd (mOp oDiv (mVar 0) (mC (.int 11))) (mOp oMulT (mC (.int 5)) (mVar 5))) (mC (.int 26))))
    (sSeq (sSet 7 (mOp oAdd (mOp oAdd (mSl (mVar 2) pNone (pSome (mVar 3))) (mOp oIxD (mC (.str "abcdefghijklmnopqrstuvwxyz")) (mVar 6))) (mSl (mVar 2) (pSome (mVar 3)) pNone)))
    (sDPutM (mVar 4) (mVar 7) (mOp oIxD (mVar 1) (mVar 5)))))) gt__law_record_4
def gt__law_record_2 : PEnv → Mo Fl :=
    sSeq (sSet 4 mDNew) gt__law_record_3
def gt__law_record_1 : PEnv → Mo Fl :=
    sSeq (sSet 3 (mOp oMod (mOp oDiv (mVar 0) (mC (.int 5))) (mOp oAdd (mCall oLen (aCons (mVar 2) aNil)) (mC (.int 1))))) gt__law_record_2
def g__law_record : PEnv → Mo Fl :=
    sSeq (sSet 2 (mSl (mCall m__law_word (aCons (mVar 0) aNil)) pNone (pSome (mC (.int 7))))) gt__law_record_1
def m__law_record : List PV → Mo PV := mirror 2 8 g__law_record
theorem ok__law_record (T : Txt w K mg) : FOk P w K mg base "_law_record" 2 m__law_record := T.f__law_record.ok (k := 1) sc__law_record fun f cdv A outer s H E hr =>
    by
    refine mss_cons ?_ ?_
    · refine ms_set 2 ?_ ?_ ?_ ?_ ?_ ?_
      · refine m_slice ?_ ?_ ?_
        · refine m_call (ok__law_word T) (hr.mono (by decide)) throws_XA ?_
          refine ma_cons ?_ ?_ st_Name
          · exact (me_var 0)
          · exact ma_nil
        · exact mo_none
        · refine mo_some ?_
          exact me_int
      · exact sc__law_record.nd
      · rfl
      · first | exact Or.inl rfl | exact Or.inr rfl
      · rfl
      · first | exact .inl rfl | exact .inr rfl | assumption
    · refine mss_cons ?_ ?_
      · refine ms_set 3 ?_ ?_ ?_ ?_ ?_ ?_
        · refine m_bin b_mod ?_ ?_
          · refine m_bin b_div ?_ ?_
            · exact (me_var 0)
            · exact me_int
          · refine m_bin b_add ?_ ?_
            · refine m_blt f_len T.b_len bt_len ?_
              refine ma_cons ?_ ?_ st_Name
              · exact (me_var 2)
              · exact ma_nil
            · exact me_int
        · exact sc__law_record.nd
        · rfl
        · first | exact Or.inl rfl | exact Or.inr rfl
        · rfl
        · first | exact .inl rfl | exact .inr rfl | assumption
      · refine mss_cons ?_ ?_
        · refine ms_set 4 ?_ ?_ ?_ ?_ ?_ ?_
          · exact m_dnew
          · exact sc__law_record.nd
          · rfl
          · first | exact Or.inl rfl | exact Or.inr rfl
          · rfl
          · first | exact .inl rfl | exact .inr rfl | assumption
        · refine mss_cons ?_ ?_
          · refine ms_for (passes_XA rfl rfl) rfl ?_ ?_ ?_
            · refine mi_range1 T.b_range ?_
              refine ma_cons ?_ ?_ st_Call
              · refine m_blt f_len T.b_len bt_len ?_
                refine ma_cons ?_ ?_ st_Name
                · exact (me_var 1)
                · exact ma_nil
              · exact ma_nil
            · exact (mg_name 5 sc__law_record.nd)
            · refine mss_cons ?_ ?_
              · refine ms_set 6 ?_ ?_ ?_ ?_ ?_ ?_
                · refine m_bin b_mod ?_ ?_
                  · refine m_bin b_add ?_ ?_
                    · refine m_bin b_div ?_ ?_
                      · exact (me_var 0)
                      · exact me_int
                    · refine m_bin b_mulT ?_ ?_
                      · exact me_int
                      · exact (me_var 5)
                  · exact me_int
                · exact sc__law_record.nd
                · rfl
                · first | exact Or.inl rfl | exact Or.inr rfl
                · rfl
                · first | exact .inl rfl | exact .inr rfl | assumption
              · refine mss_cons ?_ ?_
                · refine ms_set 7 ?_ ?_ ?_ ?_ ?_ ?_
                  · refine m_bin b_add ?_ ?_
                    · refine m_bin b_add ?_ ?_
                      · refine m_slice ?_ ?_ ?_
                        · exact (me_var 2)
                        · exact mo_none
                        · refine mo_some ?_
                          exact (me_var 3)
                      · refine m_ix (ixD_ok (hu200 hr)) ?_ ?_
                        · exact me_str
                        · exact (me_var 6)
                    · refine m_slice ?_ ?_ ?_
                      · exact (me_var 2)
                      · refine mo_some ?_
                        exact (me_var 3)
                      · exact mo_none
                  · exact sc__law_record.nd
                  · rfl
                  · first | exact Or.inl rfl | exact Or.inr rfl
                  · rfl
                  · first | exact .inl rfl | exact .inr rfl | assumption
                · refine mss_one ?_
                  refine ms_dput (hu200 hr) ?_ ?_ ?_
                  · exact (me_var 4)
                  · exact (me_var 7)
                  · refine m_ix (ixD_ok (hu200 hr)) ?_ ?_
                    · exact (me_var 1)
                    · exact (me_var 5)
          · refine mss_one ?_
            refine ms_ret ?_
            exact (me_var 4)
theorem sc__law_built : FnScope ["_law_script", "_law_size", "_law_small", "_law_stack", "_law_deep", "_law_k", "_law_cell_here", "_law_many", "_law_held", "_law_heavy", "_law_things"] ["_law_script", "_law_size", "_law_small"] (defScope s__law_built) := ⟨rfl, rfl, rfl, by decide +kernel, rfl, by decide +kernel, by decide +kernel⟩
def gt__law_built_3 : PEnv → Mo Fl :=
    (sRet (mVar 3))
def gt__law_built_2 : PEnv → Mo Fl :=
    sSeq (sFor (iRng1 (aCons (mVar 1) aNil)) (gN 5)
    (sSeq (sSet 6 (mCall m__law_cell (aCons (mVar 0) (aCons (mOp oAdd (mC (.int 2)) (mVar 5)) aNil))))
    (sSeq (sSet 7 (mCall oMin (aCons (mOp oMod (mOp oDiv (mVar 6) (mC (.int 4))) (mC (.int 5))) (aCons (mCall oLen (aCons (mVar 3) aNil)) aNil))))
    (sSeq (sIf (mB (mVar 4))
    (sSet 7 (mCall oMin (aCons (mC (.int 1)) (aCons (mCall oLen (aCons (mVar 3) aNil)) aNil))))
    sNext)
    (sSeq (sSet 8 (mSl (mVar 3) (pSome (mOp oSub (mCall oLen (aCons (mVar 3) aNil)) (mVar 7))) pNone))
    (sSeq (sSet 9 (mOp oAdd (mC (.int 1)) (mCall oSum (aCons (mComp (iVal (mVar 8)) (mOp oIxD (mVar 0) (mC (.int 1)))) aNil))))
    (sIf (mB (mOp oLt (mOp oMod (mVar 6) (mC (.int 4))) (mC (.int 2))))
    (sExpr (mMut oAppend (mVar 3) (mCall m__law_leaf (aCons (mOp oDiv (mVar 6) (mC (.int 4))) (aCons (mVar 2) aNil)))))
    (sSeq (sSet 3 (mSl (mVar 3) pNone (pSome (mOp oSub (mCall oLen (aCons (mVar 3) aNil)) (mVar 7)))))
    (sSeq (sSet 10 (mComp (iVal (mVar 8)) (mOp oIxD (mVar 0) (mC (.int 0)))))
    (sIf (mB (mOp oEq (mOp oMod (mVar 6) (mC (.int 4))) (mC (.int 2))))
    (sExpr (mMut oAppend (mVar 3) (mTup (aCons (mCall oTuple (aCons (mVar 10) aNil)) (aCons (mOp oAdd (mVar 9) (mCall oLen (aCons (mVar 10) aNil))) aNil)))))
    (sExpr (mMut oAppend (mVar 3) (mTup (aCons (mCall m__law_record (aCons (mOp oDiv (mVar 6) (mC (.int 4))) (aCons (mVar 10) aNil))) (aCons (mVar 9) aNil))))))))))))))) gt__law_built_3
def gt__law_built_1 : PEnv → Mo Fl :=
    sSeq (sSet 4 (mOp oEq (mOp oMod (mCall m__law_cell (aCons (mVar 0) (aCons (mC (.int 1)) aNil))) (mC (.int 3))) (mC (.int 1)))) gt__law_built_2
def g__law_built : PEnv → Mo Fl :=
    sSeq (sSet 3 (mLst aNil)) gt__law_built_1
def m__law_built : List PV → Mo PV := mirror 3 11 g__law_built
theorem ok__law_built (T : Txt w K mg) : FOk P w K mg base "_law_built" 3 m__law_built := T.f__law_built.ok (k := 2) sc__law_built fun f cdv A outer s H E hr =>
    by
    refine mss_cons ?_ ?_
    · refine ms_set 3 ?_ ?_ ?_ ?_ ?_ ?_
      · refine me_lst ?_
        exact ma_nil
      · exact sc__law_built.nd
      · rfl
      · first | exact Or.inl rfl | exact Or.inr rfl
      · rfl
      · first | exact .inl rfl | exact .inr rfl | assumption
    · refine mss_cons ?_ ?_
      · refine ms_set 4 ?_ ?_ ?_ ?_ ?_ ?_
        · refine m_cmp (c_eq (hu200 hr)) ?_ ?_
          · refine m_bin b_mod ?_ ?_
            · refine m_call (ok__law_cell T) (hr.mono (by decide)) throws_XA ?_
              refine ma_cons ?_ ?_ st_Name
              · exact (me_var 0)
              · refine ma_cons ?_ ?_ st_Constant
                · exact me_int
                · exact ma_nil
            · exact me_int
          · exact me_int
        · exact sc__law_built.nd
        · rfl
        · first | exact Or.inl rfl | exact Or.inr rfl
        · rfl
        · first | exact .inl rfl | exact .inr rfl | assumption
      · refine mss_cons ?_ ?_
        · refine ms_for (passes_XA rfl rfl) rfl ?_ ?_ ?_
          · refine mi_range1 T.b_range ?_
            refine ma_cons ?_ ?_ st_Name
            · exact (me_var 1)
            · exact ma_nil
          · exact (mg_name 5 sc__law_built.nd)
          · refine mss_cons ?_ ?_
            · refine ms_set 6 ?_ ?_ ?_ ?_ ?_ ?_
              · refine m_call (ok__law_cell T) (hr.mono (by decide)) throws_XA ?_
                refine ma_cons ?_ ?_ st_Name
                · exact (me_var 0)
                · refine ma_cons ?_ ?_ st_BinOp
                  · refine m_bin b_add ?_ ?_
                    · exact me_int
                    · exact (me_var 5)
                  · exact ma_nil
              · exact sc__law_built.nd
              · rfl
              · first | exact Or.inl rfl | exact Or.inr rfl
              · rfl
              · first | exact .inl rfl | exact .inr rfl | assumption
            · refine mss_cons ?_ ?_
              · refine ms_set 7 ?_ ?_ ?_ ?_ ?_ ?_
                · refine m_blt (f_min rfl) T.b_min bt_min ?_
                  refine ma_cons ?_ ?_ st_BinOp
                  · refine m_bin b_mod ?_ ?_
                    · refine m_bin b_div ?_ ?_
                      · exact (me_var 6)
                      · exact me_int
                    · exact me_int
                  · refine ma_cons ?_ ?_ st_Call
                    · refine m_blt f_len T.b_len bt_len ?_
                      refine ma_cons ?_ ?_ st_Name
                      · exact (me_var 3)
                      · exact ma_nil
                    · exact ma_nil
                · exact sc__law_built.nd
                · rfl
                · first | exact Or.inl rfl | exact Or.inr rfl
                · rfl
                · first | exact .inl rfl | exact .inr rfl | assumption
              · refine mss_cons ?_ ?_
                · refine ms_if ?_ ?_ ?_
                  · refine mt_val ?_
                    exact (me_var 4)
                  · refine mss_one ?_
                    refine ms_set 7 ?_ ?_ ?_ ?_ ?_ ?_
                    · refine m_blt (f_min rfl) T.b_min bt_min ?_
                      refine ma_cons ?_ ?_ st_Constant
                      · exact me_int
                      · refine ma_cons ?_ ?_ st_Call
                        · refine m_blt f_len T.b_len bt_len ?_
                          refine ma_cons ?_ ?_ st_Name
                          · exact (me_var 3)
                          · exact ma_nil
                        · exact ma_nil
                    · exact sc__law_built.nd
                    · rfl
                    · first | exact Or.inl rfl | exact Or.inr rfl
                    · rfl
                    · first | exact .inl rfl | exact .inr rfl | assumption
                  · exact mss_nil
                · refine mss_cons ?_ ?_
                  · refine ms_set 8 ?_ ?_ ?_ ?_ ?_ ?_
                    · refine m_slice ?_ ?_ ?_
                      · exact (me_var 3)
                      · refine mo_some ?_
                        refine m_bin b_sub ?_ ?_
                        · refine m_blt f_len T.b_len bt_len ?_
                          refine ma_cons ?_ ?_ st_Name
                          · exact (me_var 3)
                          · exact ma_nil
                        · exact (me_var 7)
                      · exact mo_none
                    · exact sc__law_built.nd
                    · rfl
                    · first | exact Or.inl rfl | exact Or.inr rfl
                    · rfl
                    · first | exact .inl rfl | exact .inr rfl | assumption
                  · refine mss_cons ?_ ?_
                    · refine ms_set 9 ?_ ?_ ?_ ?_ ?_ ?_
                      · refine m_bin b_add ?_ ?_
                        · exact me_int
                        · refine m_blt (f_sum rfl) T.b_sum bt_sum ?_
                          refine ma_cons ?_ ?_ st_ListComp
                          · refine m_comp (N := ["_law_script", "_law_size", "_law_small", "_law_stack", "_law_deep", "_law_k", "_law_cell_here", "_law_many", "_law_held", "_law_heavy", "_law_things"]) rfl (by exact ⟨rfl, by decide +kernel, by decide +kernel, rfl, by show ∀ y : Str × NameKind, y ∈ _ → y.2 = NameKind.free → List.lookup y.1 (defScope s__law_built).names = some NameKind.cell; decide +kernel⟩) rfl (by decide +kernel) ?_ ?_
                            · refine mi_val ?_
                              exact (me_var 8)
                            · intro _ _ _ _ _
                              refine m_ix (ixD_ok (hu200 hr)) ?_ ?_
                              · exact (me_var 0)
                              · exact me_int
                          · exact ma_nil
                      · exact sc__law_built.nd
                      · rfl
                      · first | exact Or.inl rfl | exact Or.inr rfl
                      · rfl
                      · first | exact .inl rfl | exact .inr rfl | assumption
                    · refine mss_one ?_
                      refine ms_if ?_ ?_ ?_
                      · refine m_cmpT c_lt ?_ ?_
                        · refine m_bin b_mod ?_ ?_
                          · exact (me_var 6)
                          · exact me_int
                        · exact me_int
                      · refine mss_one ?_
                        refine ms_expr ?_
                        refine m_append ?_ ?_
                        · exact (me_var 3)
                        · refine m_call (ok__law_leaf T) (hr.mono (by decide)) throws_XA ?_
                          refine ma_cons ?_ ?_ st_BinOp
                          · refine m_bin b_div ?_ ?_
                            · exact (me_var 6)
                            · exact me_int
                          · refine ma_cons ?_ ?_ st_Name
                            · exact (me_var 2)
                            · exact ma_nil
                      · refine mss_cons ?_ ?_
                        · refine ms_set 3 ?_ ?_ ?_ ?_ ?_ ?_
                          · refine m_slice ?_ ?_ ?_
                            · exact (me_var 3)
                            · exact mo_none
                            · refine mo_some ?_
                              refine m_bin b_sub ?_ ?_
                              · refine m_blt f_len T.b_len bt_len ?_
                                refine ma_cons ?_ ?_ st_Name
                                · exact (me_var 3)
                                · exact ma_nil
                              · exact (me_var 7)
                          · exact sc__law_built.nd
                          · rfl
                          · first | exact Or.inl rfl | exact Or.inr rfl
                          · rfl
                          · first | exact .inl rfl | exact .inr rfl | assumption
                        · refine mss_cons ?_ ?_
                          · refine ms_setcomp 10 (N := ["_law_script", "_law_size", "_law_small", "_law_stack", "_law_deep", "_law_k", "_law_cell_here", "_law_many", "_law_held", "_law_heavy", "_law_things"]) rfl (by exact ⟨rfl, by decide +kernel, by decide +kernel, rfl, by show ∀ y : Str × NameKind, y ∈ _ → y.2 = NameKind.free → List.lookup y.1 (defScope s__law_built).names = some NameKind.cell; decide +kernel⟩) rfl (by decide +kernel) ?_ ?_ sc__law_built.nd rfl (by first | exact Or.inl rfl | exact Or.inr rfl) (by first | exact .inl rfl | exact .inr rfl | assumption) (by rfl)
                            · refine mi_val ?_
                              exact (me_var 8)
                            · intro _ _ _ _ _
                              refine m_ix (ixD_ok (hu200 hr)) ?_ ?_
                              · exact (me_var 0)
                              · exact me_int
                          · refine mss_one ?_
                            refine ms_if ?_ ?_ ?_
                            · refine m_cmpT (c_eq (hu200 hr)) ?_ ?_
                              · refine m_bin b_mod ?_ ?_
                                · exact (me_var 6)
                                · exact me_int
                              · exact me_int
                            · refine mss_one ?_
                              refine ms_expr ?_
                              refine m_append ?_ ?_
                              · exact (me_var 3)
                              · refine me_tup ?_
                                refine ma_cons ?_ ?_ st_Call
                                · refine m_bltT f_tuple T.b_tuple bt_tuple ?_
                                  refine ma_cons ?_ ?_ st_Name
                                  · exact (me_var 10)
                                  · exact ma_nil
                                · refine ma_cons ?_ ?_ st_BinOp
                                  · refine m_bin b_add ?_ ?_
                                    · exact (me_var 9)
                                    · refine m_blt f_len T.b_len bt_len ?_
                                      refine ma_cons ?_ ?_ st_Name
                                      · exact (me_var 10)
                                      · exact ma_nil
                                  · exact ma_nil
                            · refine mss_one ?_
                              refine ms_expr ?_
                              refine m_append ?_ ?_
                              · exact (me_var 3)
                              · refine me_tup ?_
                                refine ma_cons ?_ ?_ st_Call
                                · refine m_call (ok__law_record T) (hr.mono (by decide)) throws_XA ?_
                                  refine ma_cons ?_ ?_ st_BinOp
                                  · refine m_bin b_div ?_ ?_
                                    · exact (me_var 6)
                                    · exact me_int
                                  · refine ma_cons ?_ ?_ st_Name
                                    · exact (me_var 10)
                                    · exact ma_nil
                                · refine ma_cons ?_ ?_ st_Name
                                  · exact (me_var 9)
                                  · exact ma_nil
        · refine mss_one ?_
          refine ms_ret ?_
          exact (me_var 3)
theorem sc__law_made : FnScope ["_law_script", "_law_first", "_law_size", "_law_stack"] ["_law_script"] (defScope s__law_made) := ⟨rfl, rfl, rfl, by decide +kernel, rfl, by decide +kernel, by decide +kernel⟩
def gt__law_made_6 : PEnv → Mo Fl :=
    (sRet (mTup (aCons (mCall oTuple (aCons (mComp (iVal (mVar 3)) (mOp oIxD (mVar 0) (mC (.int 0)))) aNil)) (aCons (mOp oAdd (mOp oAdd (mC (.int 1)) (mCall oLen (aCons (mVar 3) aNil))) (mCall oSum (aCons (mComp (iVal (mVar 3)) (mOp oIxD (mVar 0) (mC (.int 1)))) aNil))) aNil))))
def gt__law_made_5 : PEnv → Mo Fl :=
    sSeq (sIf (bAnd (mB (mOp oGt (mCall oLen (aCons (mVar 3) aNil)) (mC (.int 0)))) (mB (mOp oEq (mOp oMod (mOp oDiv (mCall m__law_cell (aCons (mVar 0) (aCons (mC (.int 1)) aNil))) (mC (.int 3))) (mC (.int 2))) (mC (.int 1)))))
    (sRet (mOp oIxD (mVar 3) (mUn oNeg (mC (.int 1)))))
    sNext) gt__law_made_6
def gt__law_made_4 : PEnv → Mo Fl :=
    sSeq (sSet 3 (mCall m__law_built (aCons (mVar 0) (aCons (mVar 2) (aCons (mOp oEq (mOp oMod (mVar 1) (mC (.int 3))) (mC (.int 2))) aNil))))) gt__law_made_5
def gt__law_made_3 : PEnv → Mo Fl :=
    sSeq (sIf (mB (mOp oEq (mOp oMod (mVar 1) (mC (.int 3))) (mC (.int 2))))
    (sSet 2 (mOp oMod (mOp oDiv (mVar 1) (mC (.int 3))) (mC (.int 9))))
    sNext) gt__law_made_4
def gt__law_made_2 : PEnv → Mo Fl :=
    sSeq (sIf (mB (mOp oEq (mOp oMod (mVar 1) (mC (.int 3))) (mC (.int 1))))
    (sSet 2 (mOp oAdd (mC (.int 40)) (mOp oMod (mOp oDiv (mVar 1) (mC (.int 3))) (mC (.int 18)))))
    sNext) gt__law_made_3
def gt__law_made_1 : PEnv → Mo Fl :=
    sSeq (sSet 2 (mOp oMod (mOp oDiv (mVar 1) (mC (.int 3))) (mC (.int 12)))) gt__law_made_2
def g__law_made : PEnv → Mo Fl :=
    sSeq (sSet 1 (mCall m__law_cell (aCons (mVar 0) (aCons (mC (.int 0)) aNil)))) gt__law_made_1
def m__law_made : List PV → Mo PV := mirror 1 4 g__law_made
theorem ok__law_made (T : Txt w K mg) : FOk P w K mg base "_law_made" 4 m__law_made := T.f__law_made.ok (k := 3) sc__law_made fun f cdv A outer s H E hr =>
    by
    refine mss_cons ?_ ?_
    · refine ms_set 1 ?_ ?_ ?_ ?_ ?_ ?_
      · refine m_call (ok__law_cell T) (hr.mono (by decide)) throws_XA ?_
        refine ma_cons ?_ ?_ st_Name
        · exact (me_var 0)
        · refine ma_cons ?_ ?_ st_Constant
          · exact me_int
          · exact ma_nil
      · exact sc__law_made.nd
      · rfl
      · first | exact Or.inl rfl | exact Or.inr rfl
      · rfl
      · first | exact .inl rfl | exact .inr rfl | assumption
    · refine mss_cons ?_ ?_
      · refine ms_set 2 ?_ ?_ ?_ ?_ ?_ ?_
        · refine m_bin b_mod ?_ ?_
          · refine m_bin b_div ?_ ?_
            · exact (me_var 1)
            · exact me_int
          · exact me_int
        · exact sc__law_made.nd
        · rfl
        · first | exact Or.inl rfl | exact Or.inr rfl
        · rfl
        · first | exact .inl rfl | exact .inr rfl | assumption
      · refine mss_cons ?_ ?_
        · refine ms_if ?_ ?_ ?_
          · refine m_cmpT (c_eq (hu200 hr)) ?_ ?_
            · refine m_bin b_mod ?_ ?_
              · exact (me_var 1)
              · exact me_int
            · exact me_int
          · refine mss_one ?_
            refine ms_set 2 ?_ ?_ ?_ ?_ ?_ ?_
            · refine m_bin b_add ?_ ?_
              · exact me_int
              · refine m_bin b_mod ?_ ?_
                · refine m_bin b_div ?_ ?_
                  · exact (me_var 1)
                  · exact me_int
                · exact me_int
            · exact sc__law_made.nd
            · rfl
            · first | exact Or.inl rfl | exact Or.inr rfl
            · rfl
            · first | exact .inl rfl | exact .inr rfl | assumption
          · exact mss_nil
        · refine mss_cons ?_ ?_
          · refine ms_if ?_ ?_ ?_
            · refine m_cmpT (c_eq (hu200 hr)) ?_ ?_
              · refine m_bin b_mod ?_ ?_
                · exact (me_var 1)
                · exact me_int
              · exact me_int
            · refine mss_one ?_
              refine ms_set 2 ?_ ?_ ?_ ?_ ?_ ?_
              · refine m_bin b_mod ?_ ?_
                · refine m_bin b_div ?_ ?_
                  · exact (me_var 1)
                  · exact me_int
                · exact me_int
              · exact sc__law_made.nd
              · rfl
              · first | exact Or.inl rfl | exact Or.inr rfl
              · rfl
              · first | exact .inl rfl | exact .inr rfl | assumption
            · exact mss_nil
          · refine mss_cons ?_ ?_
            · refine ms_set 3 ?_ ?_ ?_ ?_ ?_ ?_
              · refine m_call (ok__law_built T) (hr.mono (by decide)) throws_XA ?_
                refine ma_cons ?_ ?_ st_Name
                · exact (me_var 0)
                · refine ma_cons ?_ ?_ st_Name
                  · exact (me_var 2)
                  · refine ma_cons ?_ ?_ st_Compare
                    · refine m_cmp (c_eq (hu200 hr)) ?_ ?_
                      · refine m_bin b_mod ?_ ?_
                        · exact (me_var 1)
                        · exact me_int
                      · exact me_int
                    · exact ma_nil
              · exact sc__law_made.nd
              · rfl
              · first | exact Or.inl rfl | exact Or.inr rfl
              · rfl
              · first | exact .inl rfl | exact .inr rfl | assumption
            · refine mss_cons ?_ ?_
              · refine ms_if ?_ ?_ ?_
                · refine mt_w ?_
                  refine mw_and ?_ ?_
                  · refine m_cmpT c_gt ?_ ?_
                    · refine m_blt f_len T.b_len bt_len ?_
                      refine ma_cons ?_ ?_ st_Name
                      · exact (me_var 3)
                      · exact ma_nil
                    · exact me_int
                  · refine mw_and1 ?_
                    refine m_cmpT (c_eq (hu200 hr)) ?_ ?_
                    · refine m_bin b_mod ?_ ?_
                      · refine m_bin b_div ?_ ?_
                        · refine m_call (ok__law_cell T) (hr.mono (by decide)) throws_XA ?_
                          refine ma_cons ?_ ?_ st_Name
                          · exact (me_var 0)
                          · refine ma_cons ?_ ?_ st_Constant
                            · exact me_int
                            · exact ma_nil
                        · exact me_int
                      · exact me_int
                    · exact me_int
                · refine mss_one ?_
                  refine ms_ret ?_
                  refine m_ix (ixD_ok (hu200 hr)) ?_ ?_
                  · exact (me_var 3)
                  · refine m_un u_neg ?_
                    exact me_int
                · exact mss_nil
              · refine mss_one ?_
                refine ms_ret ?_
                refine me_tup ?_
                refine ma_cons ?_ ?_ st_Call
                · refine m_bltT f_tuple T.b_tuple bt_tuple ?_
                  refine ma_cons ?_ ?_ st_ListComp
                  · refine m_comp (N := ["_law_script", "_law_first", "_law_size", "_law_stack"]) rfl (by exact ⟨rfl, by decide +kernel, by decide +kernel, rfl, by show ∀ y : Str × NameKind, y ∈ _ → y.2 = NameKind.free → List.lookup y.1 (defScope s__law_made).names = some NameKind.cell; decide +kernel⟩) rfl (by decide +kernel) ?_ ?_
                    · refine mi_val ?_
                      exact (me_var 3)
                    · intro _ _ _ _ _
                      refine m_ix (ixD_ok (hu200 hr)) ?_ ?_
                      · exact (me_var 0)
                      · exact me_int
                  · exact ma_nil
                · refine ma_cons ?_ ?_ st_BinOp
                  · refine m_bin b_add ?_ ?_
                    · refine m_bin b_add ?_ ?_
                      · exact me_int
                      · refine m_blt f_len T.b_len bt_len ?_
                        refine ma_cons ?_ ?_ st_Name
                        · exact (me_var 3)
                        · exact ma_nil
                    · refine m_blt (f_sum rfl) T.b_sum bt_sum ?_
                      refine ma_cons ?_ ?_ st_ListComp
                      · refine m_comp (N := ["_law_script", "_law_first", "_law_size", "_law_stack"]) rfl (by exact ⟨rfl, by decide +kernel, by decide +kernel, rfl, by show ∀ y : Str × NameKind, y ∈ _ → y.2 = NameKind.free → List.lookup y.1 (defScope s__law_made).names = some NameKind.cell; decide +kernel⟩) rfl (by decide +kernel) ?_ ?_
                        · refine mi_val ?_
                          exact (me_var 3)
                        · intro _ _ _ _ _
                          refine m_ix (ixD_ok (hu200 hr)) ?_ ?_
                          · exact (me_var 0)
                          · exact me_int
                      · exact ma_nil
                  · exact ma_nil
theorem sc__law_count : FnScope ["_law_found", "_law_due"] ["_law_found", "_law_due"] (defScope s__law_count) := ⟨rfl, rfl, rfl, by decide +kernel, rfl, by decide +kernel, by decide +kernel⟩
def g__law_count : PEnv → Mo Fl :=
    (sRet (mAnd (mCall (oIsi isT) (aCons (mVar 0) (aCons (mC (.ty "int")) aNil))) (mAnd (mNot (mCall (oIsi isT) (aCons (mVar 0) (aCons (mC (.ty "bool")) aNil)))) (mOp oEqT (mVar 0) (mVar 1)))))
def m__law_count : List PV → Mo PV := mirror 2 2 g__law_count
theorem ok__law_count (T : Txt w K mg) : FOk P w K mg base "_law_count" 1 m__law_count := T.f__law_count.ok (k := 0) sc__law_count fun f cdv A outer s H E hr =>
    by
    refine mss_one ?_
    refine ms_ret ?_
    refine me_and ?_ ?_
    · refine m_blt (f_isi T.is) T.b_isinstance bt_isinstance ?_
      refine ma_cons ?_ ?_ st_Name
      · exact (me_var 0)
      · refine ma_cons ?_ ?_ st_Name
        · exact (m_ty T.b_int bt_int)
        · exact ma_nil
    · refine me_and ?_ ?_
      · refine me_not ?_
        refine m_blt (f_isi T.is) T.b_isinstance bt_isinstance ?_
        refine ma_cons ?_ ?_ st_Name
        · exact (me_var 0)
        · refine ma_cons ?_ ?_ st_Name
          · exact (m_ty T.b_bool bt_bool)
          · exact ma_nil
      · refine me_one ?_
        refine m_cmp (c_eqTr (hu200 hr)) ?_ ?_
        · exact (me_var 0)
        · exact (me_var 1)
theorem sc_things_within : FnScope ["thing"] ["thing"] (defScope s_things_within) := ⟨rfl, rfl, rfl, by decide +kernel, rfl, by decide +kernel, by decide +kernel⟩
def gt_things_within_2 : PEnv → Mo Fl :=
    (sRet (mLst aNil))
def gt_things_within_1 : PEnv → Mo Fl :=
    sSeq (sIf (mB (mCall (oIsi isT) (aCons (mVar 0) (aCons (mC (.ty "dict")) aNil))))
    (sRet (mUn oVals (mVar 0)))
    sNext) gt_things_within_2
def g_things_within : PEnv → Mo Fl :=
    sSeq (sIf (mB (mCall (oIsi isT) (aCons (mVar 0) (aCons (mC (.ty "tuple")) aNil))))
    (sRet (mCall oList (aCons (mVar 0) aNil)))
    sNext) gt_things_within_1
def m_things_within : List PV → Mo PV := mirror 1 1 g_things_within
theorem ok_things_within (T : Txt w K mg) : FOk P w K mg base "things_within" 1 m_things_within := T.f_things_within.ok (k := 0) sc_things_within fun f cdv A outer s H E hr =>
    by
    refine mss_cons ?_ ?_
    · refine ms_if ?_ ?_ ?_
      · refine mt_val ?_
        refine m_blt (f_isi T.is) T.b_isinstance bt_isinstance ?_
        refine ma_cons ?_ ?_ st_Name
        · exact (me_var 0)
        · refine ma_cons ?_ ?_ st_Name
          · exact (m_ty T.b_tuple bt_tuple)
          · exact ma_nil
      · refine mss_one ?_
        refine ms_ret ?_
        refine m_bltT f_list T.b_list bt_list ?_
        refine ma_cons ?_ ?_ st_Name
        · exact (me_var 0)
        · exact ma_nil
      · exact mss_nil
    · refine mss_cons ?_ ?_
      · refine ms_if ?_ ?_ ?_
        · refine mt_val ?_
          refine m_blt (f_isi T.is) T.b_isinstance bt_isinstance ?_
          refine ma_cons ?_ ?_ st_Name
          · exact (me_var 0)
          · refine ma_cons ?_ ?_ st_Name
            · exact (m_ty T.b_dict bt_dict)
            · exact ma_nil
        · refine mss_one ?_
          refine ms_ret ?_
          refine m_listvals rfl T.b_list ?_
          exact (me_var 0)
        · exact mss_nil
      · refine mss_one ?_
        refine ms_ret ?_
        refine me_lst ?_
        exact ma_nil
theorem sc_all_within : FnScope ["thing", "found", "place"] ["thing"] (defScope s_all_within) := ⟨rfl, rfl, rfl, by decide +kernel, rfl, by decide +kernel, by decide +kernel⟩
def gt_all_within_3 : PEnv → Mo Fl :=
    (sRet (mVar 1))
def gt_all_within_2 : PEnv → Mo Fl :=
    sSeq (sWhile (mB (mOp oLt (mVar 2) (mCall oLen (aCons (mVar 1) aNil))))
    (sSeq (sExpr (mMut oExtend (mVar 1) (mCall m_things_within (aCons (mOp oIxD (mVar 1) (mVar 2)) aNil))))
    (sAug 2 ipAdd (mC (.int 1))))) gt_all_within_3
def gt_all_within_1 : PEnv → Mo Fl :=
    sSeq (sSet 2 (mC (.int 0))) gt_all_within_2
def g_all_within : PEnv → Mo Fl :=
    sSeq (sSet 1 (mLst (aCons (mVar 0) aNil))) gt_all_within_1
def m_all_within : List PV → Mo PV := mirror 1 3 g_all_within
theorem ok_all_within (T : Txt w K mg) : FOk P w K mg base "all_within" 2 m_all_within := T.f_all_within.ok (k := 1) sc_all_within fun f cdv A outer s H E hr =>
    by
    refine mss_cons ?_ ?_
    · refine ms_set 1 ?_ ?_ ?_ ?_ ?_ ?_
      · refine me_lst ?_
        refine ma_cons ?_ ?_ st_Name
        · exact (me_var 0)
        · exact ma_nil
      · exact sc_all_within.nd
      · rfl
      · first | exact Or.inl rfl | exact Or.inr rfl
      · rfl
      · first | exact .inl rfl | exact .inr rfl | assumption
    · refine mss_cons ?_ ?_
      · refine ms_set 2 ?_ ?_ ?_ ?_ ?_ ?_
        · exact me_int
        · exact sc_all_within.nd
        · rfl
        · first | exact Or.inl rfl | exact Or.inr rfl
        · rfl
        · first | exact .inl rfl | exact .inr rfl | assumption
      · refine mss_cons ?_ ?_
        · refine ms_while (passes_XA rfl rfl) ?_ ?_
          · refine m_cmpT c_lt ?_ ?_
            · exact (me_var 2)
            · refine m_blt f_len T.b_len bt_len ?_
              refine ma_cons ?_ ?_ st_Name
              · exact (me_var 1)
              · exact ma_nil
          · refine mss_cons ?_ ?_
            · refine ms_expr ?_
              refine m_extend ?_ ?_
              · exact (me_var 1)
              · refine m_call (ok_things_within T) (hr.mono (by decide)) throws_XA ?_
                refine ma_cons ?_ ?_ st_Subscript
                · refine m_ix (ixD_ok (hu200 hr)) ?_ ?_
                  · exact (me_var 1)
                  · exact (me_var 2)
                · exact ma_nil
            · refine mss_one ?_
              refine ms_aug 2 ip_addM ?_ sc_all_within.nd
              exact me_int
        · refine mss_one ?_
          refine ms_ret ?_
          exact (me_var 1)
theorem sc_kind_of : FnScope ["value"] ["value"] (defScope s_kind_of) := ⟨rfl, rfl, rfl, by decide +kernel, rfl, by decide +kernel, by decide +kernel⟩
def gt_kind_of_3 : PEnv → Mo Fl :=
    (sRet (mC (.str "number")))
def gt_kind_of_2 : PEnv → Mo Fl :=
    sSeq (sIf (mB (mCall (oIsi isT) (aCons (mVar 0) (aCons (mC (.ty "dict")) aNil))))
    (sRet (mC (.str "record")))
    sNext) gt_kind_of_3
def gt_kind_of_1 : PEnv → Mo Fl :=
    sSeq (sIf (mB (mCall (oIsi isT) (aCons (mVar 0) (aCons (mC (.ty "tuple")) aNil))))
    (sRet (mC (.str "row")))
    sNext) gt_kind_of_2
def g_kind_of : PEnv → Mo Fl :=
    sSeq (sIf (mB (mCall (oIsi isT) (aCons (mVar 0) (aCons (mC (.ty "str")) aNil))))
    (sRet (mC (.str "word")))
    sNext) gt_kind_of_1
def m_kind_of : List PV → Mo PV := mirror 1 1 g_kind_of
theorem ok_kind_of (T : Txt w K mg) : FOk P w K mg base "kind_of" 1 m_kind_of := T.f_kind_of.ok (k := 0) sc_kind_of fun f cdv A outer s H E hr =>
    by
    refine mss_cons ?_ ?_
    · refine ms_if ?_ ?_ ?_
      · refine mt_val ?_
        refine m_blt (f_isi T.is) T.b_isinstance bt_isinstance ?_
        refine ma_cons ?_ ?_ st_Name
        · exact (me_var 0)
        · refine ma_cons ?_ ?_ st_Name
          · exact (m_ty T.b_str bt_str)
          · exact ma_nil
      · refine mss_one ?_
        refine ms_ret ?_
        exact me_str
      · exact mss_nil
    · refine mss_cons ?_ ?_
      · refine ms_if ?_ ?_ ?_
        · refine mt_val ?_
          refine m_blt (f_isi T.is) T.b_isinstance bt_isinstance ?_
          refine ma_cons ?_ ?_ st_Name
          · exact (me_var 0)
          · refine ma_cons ?_ ?_ st_Name
            · exact (m_ty T.b_tuple bt_tuple)
            · exact ma_nil
        · refine mss_one ?_
          refine ms_ret ?_
          exact me_str
        · exact mss_nil
      · refine mss_cons ?_ ?_
        · refine ms_if ?_ ?_ ?_
          · refine mt_val ?_
            refine m_blt (f_isi T.is) T.b_isinstance bt_isinstance ?_
            refine ma_cons ?_ ?_ st_Name
            · exact (me_var 0)
            · refine ma_cons ?_ ?_ st_Name
              · exact (m_ty T.b_dict bt_dict)
              · exact ma_nil
          · refine mss_one ?_
            refine ms_ret ?_
            exact me_str
          · exact mss_nil
        · refine mss_one ?_
          refine ms_ret ?_
          exact me_str
theorem sc_own_weight : FnScope ["part", "kind"] ["part"] (defScope s_own_weight) := ⟨rfl, rfl, rfl, by decide +kernel, rfl, by decide +kernel, by decide +kernel⟩
def gt_own_weight_3 : PEnv → Mo Fl :=
    (sRet (mC (.int 1)))
def gt_own_weight_2 : PEnv → Mo Fl :=
    sSeq (sIf (mB (mOp oEq (mVar 1) (mC (.str "row"))))
    (sRet (mOp oAdd (mC (.int 1)) (mCall oLen (aCons (mVar 0) aNil))))
    sNext) gt_own_weight_3
def gt_own_weight_1 : PEnv → Mo Fl :=
    sSeq (sIf (mB (mOp oEq (mVar 1) (mC (.str "number"))))
    (sRet (mOp oAdd (mCall oMax (aCons (mVar 0) (aCons (mC (.int 0)) aNil))) (mC (.int 1))))
    sNext) gt_own_weight_2
def g_own_weight : PEnv → Mo Fl :=
    sSeq (sSet 1 (mCall m_kind_of (aCons (mVar 0) aNil))) gt_own_weight_1
def m_own_weight : List PV → Mo PV := mirror 1 2 g_own_weight
theorem ok_own_weight (T : Txt w K mg) : FOk P w K mg base "own_weight" 2 m_own_weight := T.f_own_weight.ok (k := 1) sc_own_weight fun f cdv A outer s H E hr =>
    by
    refine mss_cons ?_ ?_
    · refine ms_set 1 ?_ ?_ ?_ ?_ ?_ ?_
      · refine m_call (ok_kind_of T) (hr.mono (by decide)) throws_XA ?_
        refine ma_cons ?_ ?_ st_Name
        · exact (me_var 0)
        · exact ma_nil
      · exact sc_own_weight.nd
      · rfl
      · first | exact Or.inl rfl | exact Or.inr rfl
      · rfl
      · first | exact .inl rfl | exact .inr rfl | assumption
    · refine mss_cons ?_ ?_
      · refine ms_if ?_ ?_ ?_
        · refine m_cmpT (c_eq (hu200 hr)) ?_ ?_
          · exact (me_var 1)
          · exact me_str
        · refine mss_one ?_
          refine ms_ret ?_
          refine m_bin b_add ?_ ?_
          · refine m_blt (f_max rfl) T.b_max bt_max ?_
            refine ma_cons ?_ ?_ st_Name
            · exact (me_var 0)
            · refine ma_cons ?_ ?_ st_Constant
              · exact me_int
              · exact ma_nil
          · exact me_int
        · exact mss_nil
      · refine mss_cons ?_ ?_
        · refine ms_if ?_ ?_ ?_
          · refine m_cmpT (c_eq (hu200 hr)) ?_ ?_
            · exact (me_var 1)
            · exact me_str
          · refine mss_one ?_
            refine ms_ret ?_
            refine m_bin b_add ?_ ?_
            · exact me_int
            · refine m_blt f_len T.b_len bt_len ?_
              refine ma_cons ?_ ?_ st_Name
              · exact (me_var 0)
              · exact ma_nil
          · exact mss_nil
        · refine mss_one ?_
          refine ms_ret ?_
          exact me_int
theorem sc_weight : FnScope ["value"] ["value"] (defScope s_weight) := ⟨rfl, rfl, rfl, by decide +kernel, rfl, by decide +kernel, by decide +kernel⟩
def g_weight : PEnv → Mo Fl :=
    (sRet (mCall oSum (aCons (mComp (iVal (mCall m_all_within (aCons (mVar 0) aNil))) (mCall m_own_weight (aCons (mVar 0) aNil))) aNil)))
def m_weight : List PV → Mo PV := mirror 1 1 g_weight
theorem ok_weight (T : Txt w K mg) : FOk P w K mg base "weight" 3 m_weight := T.f_weight.ok (k := 2) sc_weight fun f cdv A outer s H E hr =>
    by
    refine mss_one ?_
    refine ms_ret ?_
    refine m_blt (f_sum rfl) T.b_sum bt_sum ?_
    refine ma_cons ?_ ?_ st_ListComp
    · refine m_comp (N := ["value"]) rfl (by exact ⟨rfl, by decide +kernel, by decide +kernel, rfl, by show ∀ y : Str × NameKind, y ∈ _ → y.2 = NameKind.free → List.lookup y.1 (defScope s_weight).names = some NameKind.cell; decide +kernel⟩) rfl (by decide +kernel) ?_ ?_
      · refine mi_val ?_
        refine m_call (ok_all_within T) (hr.mono (by decide)) throws_XA ?_
        refine ma_cons ?_ ?_ st_Name
        · exact (me_var 0)
        · exact ma_nil
      · intro _ _ _ _ _
        refine m_call (ok_own_weight T) (hr.mono (by decide)) throws_XN ?_
        refine ma_cons ?_ ?_ st_Name
        · exact (me_var 0)
        · exact ma_nil
    · exact ma_nil
theorem sc__law_nearer : FnScope ["_law_one"] ["_law_one"] (defScope s__law_nearer) := ⟨rfl, rfl, rfl, by decide +kernel, rfl, by decide +kernel, by decide +kernel⟩
def gt__law_nearer_3 : PEnv → Mo Fl :=
    (sRet (mLst aNil))
def gt__law_nearer_2 : PEnv → Mo Fl :=
    sSeq (sIf (bAnd (mB (mCall (oIsi isT) (aCons (mVar 0) (aCons (mC (.ty "int")) aNil)))) (mB (mOp oGt (mVar 0) (mC (.int 0)))))
    (sRet (mLst (aCons (mOp oSub (mVar 0) (mC (.int 1))) aNil)))
    sNext) gt__law_nearer_3
def gt__law_nearer_1 : PEnv → Mo Fl :=
    sSeq (sIf (mB (mCall (oIsi isT) (aCons (mVar 0) (aCons (mC (.ty "dict")) aNil))))
    (sRet (mUn oVals (mVar 0)))
    sNext) gt__law_nearer_2
def g__law_nearer : PEnv → Mo Fl :=
    sSeq (sIf (bAnd (mB (mCall (oIsi isT) (aCons (mVar 0) (aCons (mC (.ty "tuple")) aNil)))) (mB (mOp oGt (mCall oLen (aCons (mVar 0) aNil)) (mC (.int 0)))))
    (sRet (mOp oAdd (mLst (aCons (mSl (mVar 0) (pSome (mC (.int 1))) pNone) aNil)) (mCall oList (aCons (mVar 0) aNil))))
    sNext) gt__law_nearer_1
def m__law_nearer : List PV → Mo PV := mirror 1 1 g__law_nearer
theorem ok__law_nearer (T : Txt w K mg) : FOk P w K mg base "_law_nearer" 1 m__law_nearer := T.f__law_nearer.ok (k := 0) sc__law_nearer fun f cdv A outer s H E hr =>
    by
    refine mss_cons ?_ ?_
    · refine ms_if ?_ ?_ ?_
      · refine mt_w ?_
        refine mw_and ?_ ?_
        · refine mt_val ?_
          refine m_blt (f_isi T.is) T.b_isinstance bt_isinstance ?_
          refine ma_cons ?_ ?_ st_Name
          · exact (me_var 0)
          · refine ma_cons ?_ ?_ st_Name
            · exact (m_ty T.b_tuple bt_tuple)
            · exact ma_nil
        · refine mw_and1 ?_
          refine m_cmpT c_gt ?_ ?_
          · refine m_blt f_len T.b_len bt_len ?_
            refine ma_cons ?_ ?_ st_Name
            · exact (me_var 0)
            · exact ma_nil
          · exact me_int
      · refine mss_one ?_
        refine ms_ret ?_
        refine m_bin b_add ?_ ?_
        · refine me_lst ?_
          refine ma_cons ?_ ?_ st_Subscript
          · refine m_slice ?_ ?_ ?_
            · exact (me_var 0)
            · refine mo_some ?_
              exact me_int
            · exact mo_none
          · exact ma_nil
        · refine m_bltT f_list T.b_list bt_list ?_
          refine ma_cons ?_ ?_ st_Name
          · exact (me_var 0)
          · exact ma_nil
      · exact mss_nil
    · refine mss_cons ?_ ?_
      · refine ms_if ?_ ?_ ?_
        · refine mt_val ?_
          refine m_blt (f_isi T.is) T.b_isinstance bt_isinstance ?_
          refine ma_cons ?_ ?_ st_Name
          · exact (me_var 0)
          · refine ma_cons ?_ ?_ st_Name
            · exact (m_ty T.b_dict bt_dict)
            · exact ma_nil
        · refine mss_one ?_
          refine ms_ret ?_
          refine m_listvals rfl T.b_list ?_
          exact (me_var 0)
        · exact mss_nil
      · refine mss_cons ?_ ?_
        · refine ms_if ?_ ?_ ?_
          · refine mt_w ?_
            refine mw_and ?_ ?_
            · refine mt_val ?_
              refine m_blt (f_isi T.is) T.b_isinstance bt_isinstance ?_
              refine ma_cons ?_ ?_ st_Name
              · exact (me_var 0)
              · refine ma_cons ?_ ?_ st_Name
                · exact (m_ty T.b_int bt_int)
                · exact ma_nil
            · refine mw_and1 ?_
              refine m_cmpT c_gt ?_ ?_
              · exact (me_var 0)
              · exact me_int
          · refine mss_one ?_
            refine ms_ret ?_
            refine me_lst ?_
            refine ma_cons ?_ ?_ st_BinOp
            · refine m_bin b_sub ?_ ?_
              · exact (me_var 0)
              · exact me_int
            · exact ma_nil
          · exact mss_nil
        · refine mss_one ?_
          refine ms_ret ?_
          refine me_lst ?_
          exact ma_nil
theorem sc__law_pieces : FnScope ["_law_value", "_law_found", "_law_k", "_law_one"] ["_law_value"] (defScope s__law_pieces) := ⟨rfl, rfl, rfl, by decide +kernel, rfl, by decide +kernel, by decide +kernel⟩
def gt__law_pieces_3 : PEnv → Mo Fl :=
    (sRet (mVar 1))
def gt__law_pieces_2 : PEnv → Mo Fl :=
    sSeq (sWhile (mB (mOp oLt (mVar 2) (mCall oLen (aCons (mVar 1) aNil))))
    (sSeq (sFor (iVal (mCall m__law_nearer (aCons (mOp oIxD (mVar 1) (mVar 2)) aNil))) (gN 3)
    (sIf (mB (mOp (oInT true) (mVar 3) (mVar 1)))
    (sExpr (mMut oAppend (mVar 1) (mVar 3)))
    sNext))
    (sSet 2 (mOp oAdd (mVar 2) (mC (.int 1)))))) gt__law_pieces_3
def gt__law_pieces_1 : PEnv → Mo Fl :=
    sSeq (sSet 2 (mC (.int 0))) gt__law_pieces_2
def g__law_pieces : PEnv → Mo Fl :=
    sSeq (sSet 1 (mLst (aCons (mVar 0) aNil))) gt__law_pieces_1
def m__law_pieces : List PV → Mo PV := mirror 1 4 g__law_pieces
theorem ok__law_pieces (T : Txt w K mg) : FOk P w K mg base "_law_pieces" 2 m__law_pieces := T.f__law_pieces.ok (k := 1) sc__law_pieces fun f cdv A outer s H E hr =>
    by
    refine mss_cons ?_ ?_
    · refine ms_set 1 ?_ ?_ ?_ ?_ ?_ ?_
      · refine me_lst ?_
        refine ma_cons ?_ ?_ st_Name
        · exact (me_var 0)
        · exact ma_nil
      · exact sc__law_pieces.nd
      · rfl
      · first | exact Or.inl rfl | exact Or.inr rfl
      · rfl
      · first | exact .inl rfl | exact .inr rfl | assumption
    · refine mss_cons ?_ ?_
      · refine ms_set 2 ?_ ?_ ?_ ?_ ?_ ?_
        · exact me_int
        · exact sc__law_pieces.nd
        · rfl
        · first | exact Or.inl rfl | exact Or.inr rfl
        · rfl
        · first | exact .inl rfl | exact .inr rfl | assumption
      · refine mss_cons ?_ ?_
        · refine ms_while (passes_XA rfl rfl) ?_ ?_
          · refine m_cmpT c_lt ?_ ?_
            · exact (me_var 2)
            · refine m_blt f_len T.b_len bt_len ?_
              refine ma_cons ?_ ?_ st_Name
              · exact (me_var 1)
              · exact ma_nil
          · refine mss_cons ?_ ?_
            · refine ms_for (passes_XA rfl rfl) rfl ?_ ?_ ?_
              · refine mi_val ?_
                refine m_call (ok__law_nearer T) (hr.mono (by decide)) throws_XA ?_
                refine ma_cons ?_ ?_ st_Subscript
                · refine m_ix (ixD_ok (hu200 hr)) ?_ ?_
                  · exact (me_var 1)
                  · exact (me_var 2)
                · exact ma_nil
              · exact (mg_name 3 sc__law_pieces.nd)
              · refine mss_one ?_
                refine ms_if ?_ ?_ ?_
                · refine m_cmpT (c_notinT (hu200 hr)) ?_ ?_
                  · exact (me_var 3)
                  · exact (me_var 1)
                · refine mss_one ?_
                  refine ms_expr ?_
                  refine m_append ?_ ?_
                  · exact (me_var 1)
                  · exact (me_var 3)
                · exact mss_nil
            · refine mss_one ?_
              refine ms_set 2 ?_ ?_ ?_ ?_ ?_ ?_
              · refine m_bin b_add ?_ ?_
                · exact (me_var 2)
                · exact me_int
              · exact sc__law_pieces.nd
              · rfl
              · first | exact Or.inl rfl | exact Or.inr rfl
              · rfl
              · first | exact .inl rfl | exact .inr rfl | assumption
        · refine mss_one ?_
          refine ms_ret ?_
          exact (me_var 1)
theorem sc__law_lighter : FnScope ["_law_value", "_law_heavy", "_law_found", "_law_one"] ["_law_value", "_law_heavy"] (defScope s__law_lighter) := ⟨rfl, rfl, rfl, by decide +kernel, rfl, by decide +kernel, by decide +kernel⟩
def gt__law_lighter_2 : PEnv → Mo Fl :=
    (sRet (mOp oLe (mCall oLen (aCons (mVar 2) aNil)) (mVar 1)))
def gt__law_lighter_1 : PEnv → Mo Fl :=
    sSeq (sFor (iVal (mSl (mVar 2) (pSome (mC (.int 1))) pNone)) (gN 3)
    (sIf (mB (mOp oGe (mCall m_weight (aCons (mVar 3) aNil)) (mVar 1)))
    (sRet (mC (.bl false)))
    sNext)) gt__law_lighter_2
def g__law_lighter : PEnv → Mo Fl :=
    sSeq (sSet 2 (mCall m__law_pieces (aCons (mVar 0) aNil))) gt__law_lighter_1
def m__law_lighter : List PV → Mo PV := mirror 2 4 g__law_lighter
theorem ok__law_lighter (T : Txt w K mg) : FOk P w K mg base "_law_lighter" 4 m__law_lighter := T.f__law_lighter.ok (k := 3) sc__law_lighter fun f cdv A outer s H E hr =>
    by
    refine mss_cons ?_ ?_
    · refine ms_set 2 ?_ ?_ ?_ ?_ ?_ ?_
      · refine m_call (ok__law_pieces T) (hr.mono (by decide)) throws_XA ?_
        refine ma_cons ?_ ?_ st_Name
        · exact (me_var 0)
        · exact ma_nil
      · exact sc__law_lighter.nd
      · rfl
      · first | exact Or.inl rfl | exact Or.inr rfl
      · rfl
      · first | exact .inl rfl | exact .inr rfl | assumption
    · refine mss_cons ?_ ?_
      · refine ms_for (passes_XA rfl rfl) rfl ?_ ?_ ?_
        · refine mi_val ?_
          refine m_slice ?_ ?_ ?_
          · exact (me_var 2)
          · refine mo_some ?_
            exact me_int
          · exact mo_none
        · exact (mg_name 3 sc__law_lighter.nd)
        · refine mss_one ?_
          refine ms_if ?_ ?_ ?_
          · refine m_cmpT c_ge ?_ ?_
            · refine m_call (ok_weight T) (hr.mono (by decide)) throws_XA ?_
              refine ma_cons ?_ ?_ st_Name
              · exact (me_var 3)
              · exact ma_nil
            · exact (me_var 1)
          · refine mss_one ?_
            refine ms_ret ?_
            exact me_bl
          · exact mss_nil
      · refine mss_one ?_
        refine ms_ret ?_
        refine m_cmp c_le ?_ ?_
        · refine m_blt f_len T.b_len bt_len ?_
          refine ma_cons ?_ ?_ st_Name
          · exact (me_var 2)
          · exact ma_nil
        · exact (me_var 1)
theorem sc_law : FnScope ["_law_script", "_law_value", "_law_heavy"] ["_law_script"] (defScope s_law) := ⟨rfl, rfl, rfl, by decide +kernel, rfl, by decide +kernel, by decide +kernel⟩
def gt_law_4 : PEnv → Mo Fl :=
    (sRet (mAnd (mCall m__law_count (aCons (mCall m_weight (aCons (mVar 1) aNil)) (aCons (mVar 2) aNil))) (mOp oEqT (mVar 1) (mOp oIxD (mCall m__law_made (aCons (mVar 0) aNil)) (mC (.int 0))))))
def gt_law_3 : PEnv → Mo Fl :=
    sSeq (sIf (bAnd (mB (mOp oEq (mOp oMod (mCall m__law_cell (aCons (mVar 0) (aCons (mC (.int 0)) aNil))) (mC (.int 3))) (mC (.int 2)))) (bNot (mB (mCall m__law_lighter (aCons (mVar 1) (aCons (mCall m_weight (aCons (mVar 1) aNil)) aNil))))))
    (sRet (mC (.bl false)))
    sNext) gt_law_4
def gt_law_2 : PEnv → Mo Fl :=
    sSeq (sIf (bNot (mB (mCall m__law_count (aCons (mCall m_weight (aCons (mTup (aCons (mVar 1) (aCons (mC (.int 3)) aNil))) aNil)) (aCons (mOp oAdd (mVar 2) (mC (.int 7))) aNil)))))
    (sRet (mC (.bl false)))
    sNext) gt_law_3
def gt_law_1 : PEnv → Mo Fl :=
    sSeq (sIf (bNot (mB (mCall m__law_count (aCons (mCall m_weight (aCons (mVar 1) aNil)) (aCons (mVar 2) aNil)))))
    (sRet (mC (.bl false)))
    sNext) gt_law_2
def g_law : PEnv → Mo Fl :=
    sSeq (sTo (g2 1 2) (mCall m__law_made (aCons (mVar 0) aNil))) gt_law_1
def m_law : List PV → Mo PV := mirror 1 3 g_law
theorem okfn_law (T : Txt w K mg) {f : Addr} {fd : FuncData} (F : Fun K "law" "law" s_law f fd) : FnOk P w K mg base (CXe P w) 5 f fd ["_law_script"] (spM K mg m_law) := def_ok (k := 4) F sc_law fun cdv A outer s H E hr =>
    by
    refine mss_cons ?_ ?_
    · refine ms_to ?_ ?_
      · exact (mg_2 1 2 rfl sc_law.nd)
      · refine m_call (ok__law_made T) (hr.mono (by decide)) throws_XA ?_
        refine ma_cons ?_ ?_ st_Name
        · exact (me_var 0)
        · exact ma_nil
    · refine mss_cons ?_ ?_
      · refine ms_if ?_ ?_ ?_
        · refine mt_not ?_
          refine mt_val ?_
          refine m_call (ok__law_count T) (hr.mono (by decide)) throws_XA ?_
          refine ma_cons ?_ ?_ st_Call
          · refine m_call (ok_weight T) (hr.mono (by decide)) throws_XA ?_
            refine ma_cons ?_ ?_ st_Name
            · exact (me_var 1)
            · exact ma_nil
          · refine ma_cons ?_ ?_ st_Name
            · exact (me_var 2)
            · exact ma_nil
        · refine mss_one ?_
          refine ms_ret ?_
          exact me_bl
        · exact mss_nil
      · refine mss_cons ?_ ?_
        · refine ms_if ?_ ?_ ?_
          · refine mt_not ?_
            refine mt_val ?_
            refine m_call (ok__law_count T) (hr.mono (by decide)) throws_XA ?_
            refine ma_cons ?_ ?_ st_Call
            · refine m_call (ok_weight T) (hr.mono (by decide)) throws_XA ?_
              refine ma_cons ?_ ?_ st_Tuple
              · refine me_tup ?_
                refine ma_cons ?_ ?_ st_Name
                · exact (me_var 1)
                · refine ma_cons ?_ ?_ st_Constant
                  · exact me_int
                  · exact ma_nil
              · exact ma_nil
            · refine ma_cons ?_ ?_ st_BinOp
              · refine m_bin b_add ?_ ?_
                · exact (me_var 2)
                · exact me_int
              · exact ma_nil
          · refine mss_one ?_
            refine ms_ret ?_
            exact me_bl
          · exact mss_nil
        · refine mss_cons ?_ ?_
          · refine ms_if ?_ ?_ ?_
            · refine mt_w ?_
              refine mw_and ?_ ?_
              · refine m_cmpT (c_eq (hu200 hr)) ?_ ?_
                · refine m_bin b_mod ?_ ?_
                  · refine m_call (ok__law_cell T) (hr.mono (by decide)) throws_XA ?_
                    refine ma_cons ?_ ?_ st_Name
                    · exact (me_var 0)
                    · refine ma_cons ?_ ?_ st_Constant
                      · exact me_int
                      · exact ma_nil
                  · exact me_int
                · exact me_int
              · refine mw_and1 ?_
                refine mt_not ?_
                refine mt_val ?_
                refine m_call (ok__law_lighter T) (hr.mono (by decide)) throws_XA ?_
                refine ma_cons ?_ ?_ st_Name
                · exact (me_var 1)
                · refine ma_cons ?_ ?_ st_Call
                  · refine m_call (ok_weight T) (hr.mono (by decide)) throws_XA ?_
                    refine ma_cons ?_ ?_ st_Name
                    · exact (me_var 1)
                    · exact ma_nil
                  · exact ma_nil
            · refine mss_one ?_
              refine ms_ret ?_
              exact me_bl
            · exact mss_nil
          · refine mss_one ?_
            refine ms_ret ?_
            refine me_and ?_ ?_
            · refine m_call (ok__law_count T) (hr.mono (by decide)) throws_XA ?_
              refine ma_cons ?_ ?_ st_Call
              · refine m_call (ok_weight T) (hr.mono (by decide)) throws_XA ?_
                refine ma_cons ?_ ?_ st_Name
                · exact (me_var 1)
                · exact ma_nil
              · refine ma_cons ?_ ?_ st_Name
                · exact (me_var 2)
                · exact ma_nil
            · refine me_one ?_
              refine m_cmp (c_eqTr (hu200 hr)) ?_ ?_
              · exact (me_var 1)
              · refine m_ix (ixD_ok (hu200 hr)) ?_ ?_
                · refine m_call (ok__law_made T) (hr.mono (by decide)) throws_XA ?_
                  refine ma_cons ?_ ?_ st_Name
                  · exact (me_var 0)
                  · exact ma_nil
                · exact me_int
end
end FK12

set_option Elab.async false
set_option linter.all false
set_option maxRecDepth 100000
set_option maxHeartbeats 4000000
namespace FK12
open PySem L2 PySem.W Mi
theorem modP_pos (i j : Int) (h : 0 < j) : modP i j = i % j := by unfold modP; rw [if_pos h]
theorem divP_pos (i j : Int) (h : 0 < j) : divP i j = i / j := by unfold divP; rw [if_pos h]
/-- values as trees -/
inductive Tr where
  | num (i : Int) | word (z : Str) | row (ts : List Tr) | rec_ (ks : List Str) (ts : List Tr)
mutual
/-- a tree's weight -/
def wt : Tr → Int
  | .num i => (if 0 < i then i else 0) + 1
  | .word _ => 1
  | .row ts => 1 + ts.length + wts ts
  | .rec_ _ ts => 1 + wts ts
def wts : List Tr → Int
  | [] => 0
  | t :: ts => wt t + wts ts
end
mutual
/-- its parts, counted -/
def sz : Tr → Nat
  | .num _ => 1
  | .word _ => 1
  | .row ts => 1 + szs ts
  | .rec_ _ ts => 1 + szs ts
def szs : List Tr → Nat
  | [] => 0
  | t :: ts => sz t + szs ts
end
mutual
def dp : Tr → Nat
  | .num _ => 0
  | .word _ => 0
  | .row ts => 1 + dps ts
  | .rec_ _ ts => 1 + dps ts
def dps : List Tr → Nat
  | [] => 0
  | t :: ts => max (dp t) (dps ts)
end
mutual
/-- a value bears a tree, in a store -/
def TR (st : Sto) : Tr → PV → Prop
  | .num i, v => v = .int i
  | .word z, v => v = .str z
  | .row ts, v => ∃ xs, v = .tup xs ∧ TRs st ts xs
  | .rec_ ks ts, v => ∃ n xs, v = .ref n ∧ st[n]? = some (.dic ks xs) ∧ ks.Nodup ∧ ks.length = xs.length ∧ TRs st ts xs
def TRs (st : Sto) : List Tr → List PV → Prop
  | [], xs => xs = []
  | t :: ts, xs => ∃ x r, xs = x :: r ∧ TR st t x ∧ TRs st ts r
end
/-- the dicts of a store stay -/
def Dk (a b : Sto) : Prop := ∀ (n : Nat) (ks : List Str) (xs : List PV), a[n]? = some (SO.dic ks xs) → b[n]? = some (SO.dic ks xs)
theorem Dk.refl (a : Sto) : Dk a a := fun _ _ _ e => e
theorem Dk.trans {a b c : Sto} (h : Dk a b) (h' : Dk b c) : Dk a c := fun n ks xs e => h' n ks xs (h n ks xs e)
theorem dk_pre {a b : Sto} (h : Pre a b) : Dk a b := fun n ks xs e => h.get e
theorem dk_app (a d : Sto) : Dk a (a ++ d) := dk_pre (Pre.of a d)
theorem dk_set {a : Sto} {n : Nat} {xs ys : List PV} (h : a[n]? = some (.lst xs)) : Dk a (a.set n (.lst ys)) := fun m ks zs e => by
  have ne : n ≠ m := fun z => by subst z; rw [h] at e; cases e
  rw [List.getElem?_set_ne ne]; exact e
mutual
theorem TR.mono {a b : Sto} (d : Dk a b) : ∀ (t : Tr) {v : PV}, TR a t v → TR b t v
  | .num _, _, h => h
  | .word _, _, h => h
  | .row ts, _, h => by obtain ⟨xs, e, r⟩ := h; exact ⟨xs, e, TRs.mono d ts r⟩
  | .rec_ ks ts, _, h => by obtain ⟨n, xs, e, h1, h2, h3, r⟩ := h; exact ⟨n, xs, e, d _ _ _ h1, h2, h3, TRs.mono d ts r⟩
theorem TRs.mono {a b : Sto} (d : Dk a b) : ∀ (ts : List Tr) {xs : List PV}, TRs a ts xs → TRs b ts xs
  | [], _, h => h
  | t :: ts, _, h => by obtain ⟨x, r, e, h1, h2⟩ := h; exact ⟨x, r, e, TR.mono d t h1, TRs.mono d ts h2⟩
end
theorem TRs.len {st : Sto} : ∀ {ts : List Tr} {xs : List PV}, TRs st ts xs → ts.length = xs.length
  | [], _, h => by cases h; rfl
  | t :: ts, _, h => by obtain ⟨x, r, rfl, _, h2⟩ := h; simp [TRs.len h2]
theorem TRs.get {st : Sto} : ∀ {ts : List Tr} {xs : List PV} {i : Nat} {x : PV}, TRs st ts xs → xs[i]? = some x → ∃ t, ts[i]? = some t ∧ TR st t x
  | [], _, _, _, h, e => by cases h; simp at e
  | t :: ts, _, 0, x, h, e => by obtain ⟨y, r, rfl, h1, _⟩ := h; simp at e; subst e; exact ⟨t, by simp, h1⟩
  | t :: ts, _, i + 1, x, h, e => by obtain ⟨y, r, rfl, _, h2⟩ := h; simp at e; simpa using TRs.get h2 e
theorem TRs.append {st : Sto} : ∀ {ts us : List Tr} {xs ys : List PV}, TRs st ts xs → TRs st us ys → TRs st (ts ++ us) (xs ++ ys)
  | [], _, _, _, h, h' => by cases h; exact h'
  | t :: ts, _, _, _, h, h' => by obtain ⟨y, r, rfl, h1, h2⟩ := h; exact ⟨y, r ++ _, rfl, h1, TRs.append h2 h'⟩
theorem TRs.take {st : Sto} : ∀ {ts : List Tr} {xs : List PV} (n : Nat), TRs st ts xs → TRs st (ts.take n) (xs.take n)
  | [], _, n, h => by cases h; simp [TRs]
  | t :: ts, _, 0, h => by simp [TRs]
  | t :: ts, _, n + 1, h => by obtain ⟨y, r, rfl, h1, h2⟩ := h; exact ⟨y, _, rfl, h1, TRs.take n h2⟩
theorem TRs.drop {st : Sto} : ∀ {ts : List Tr} {xs : List PV} (n : Nat), TRs st ts xs → TRs st (ts.drop n) (xs.drop n)
  | [], _, n, h => by cases h; simp [TRs]
  | t :: ts, _, 0, h => h
  | t :: ts, _, n + 1, h => by obtain ⟨y, r, rfl, h1, h2⟩ := h; exact TRs.drop n h2
theorem wts_app : ∀ a b : List Tr, wts (a ++ b) = wts a + wts b
  | [], b => by simp [wts]
  | t :: a, b => by simp only [List.cons_append, wts, wts_app a b]; omega
theorem szs_app : ∀ a b : List Tr, szs (a ++ b) = szs a + szs b
  | [], b => by simp [szs]
  | t :: a, b => by simp only [List.cons_append, szs, szs_app a b]; omega
mutual
theorem sz_pos : ∀ t : Tr, 0 < sz t
  | .num _ => by simp [sz]
  | .word _ => by simp [sz]
  | .row ts => by simp only [sz]; omega
  | .rec_ _ ts => by simp only [sz]; omega
end
mutual
theorem dp_sz : ∀ t : Tr, dp t ≤ sz t
  | .num _ => by simp [sz, dp]
  | .word _ => by simp [sz, dp]
  | .row ts => by have := dps_szs ts; simp only [sz, dp]; omega
  | .rec_ _ ts => by have := dps_szs ts; simp only [sz, dp]; omega
theorem dps_szs : ∀ ts : List Tr, dps ts ≤ szs ts
  | [] => by simp [szs, dps]
  | t :: ts => by have := dp_sz t; have := dps_szs ts; simp only [szs, dps]; omega
end
theorem szs_mem : ∀ {ts : List Tr} {t : Tr}, t ∈ ts → sz t ≤ szs ts
  | u :: ts, t, h => by
    rcases List.mem_cons.mp h with rfl | h
    · simp only [szs]; omega
    · have := szs_mem h; simp only [szs]; omega
/-! == of trees -/
theorem lookup_TR {st : Sto} {z : Str} : ∀ {ks : List Str} {ts : List Tr} {xs : List PV} {y : PV}, TRs st ts xs → (ks.zip xs).lookup z = some y → ∃ t, (ks.zip ts).lookup z = some t ∧ TR st t y
  | [], _, _, _, _, h => by simp at h
  | k :: ks, [], _, _, r, h => by cases r; simp at h
  | k :: ks, t :: ts, _, y, r, h => by
    obtain ⟨x, r', rfl, h1, h2⟩ := r
    simp only [List.zip_cons_cons, List.lookup_cons] at h ⊢
    split at h
    · cases h; exact ⟨t, rfl, h1⟩
    · exact lookup_TR h2 h
theorem lookup_none_TR {st : Sto} {z : Str} : ∀ {ks : List Str} {ts : List Tr} {xs : List PV}, TRs st ts xs → (ks.zip xs).lookup z = none → (ks.zip ts).lookup z = none
  | [], _, _, _, h => by simp
  | k :: ks, [], _, r, h => by simp
  | k :: ks, t :: ts, _, r, h => by
    obtain ⟨x, r', rfl, h1, h2⟩ := r
    simp only [List.zip_cons_cons, List.lookup_cons] at h ⊢
    split at h
    · cases h
    · exact lookup_none_TR h2 h
theorem allE_tr {st : Sto} {f : PV → PV → Option Bool} : ∀ (ts ts' : List Tr) {xs ys : List PV}, (∀ t ∈ ts, ∀ t' v w, TR st t v → TR st t' w → ∃ b, f v w = some b ∧ (t = t' → b = true)) → TRs st ts xs → TRs st ts' ys → ∃ b, allE f xs ys = some b ∧ (ts = ts' → b = true)
  | [], [], _, _, _, h, h' => by cases h; cases h'; exact ⟨true, rfl, fun _ => rfl⟩
  | [], t' :: ts', _, _, _, h, h' => by cases h; obtain ⟨y, r, rfl, _⟩ := h'; exact ⟨false, rfl, fun e => nomatch e⟩
  | t :: ts, [], _, _, _, h, h' => by cases h'; obtain ⟨y, r, rfl, _⟩ := h; exact ⟨false, rfl, fun e => nomatch e⟩
  | t :: ts, t' :: ts', _, _, hf, h, h' => by
    obtain ⟨x, r, rfl, h1, h2⟩ := h
    obtain ⟨y, r', rfl, h3, h4⟩ := h'
    obtain ⟨a, ea, ha⟩ := hf t (List.mem_cons_self ..) t' x y h1 h3
    obtain ⟨b, eb, hb⟩ := allE_tr ts ts' (fun u hu => hf u (List.mem_cons_of_mem _ hu)) h2 h4
    refine ⟨a && b, by simp only [allE, ea, eb], fun e => ?_⟩
    injection e with e1 e2
    rw [ha e1, hb e2]; rfl
theorem hitsE_tr {st : Sto} {f : PV → PV → Option Bool} {ks' : List Str} {ts' : List Tr} {xs' : List PV} (r' : TRs st ts' xs') : ∀ (ks : List Str) (ts : List Tr) {xs : List PV}, (∀ t ∈ ts, ∀ t' v w, TR st t v → TR st t' w → ∃ b, f v w = some b ∧ (t = t' → b = true)) → TRs st ts xs →
    ∃ b, hitsE f ks' xs' ks xs = some b ∧ ((∀ k t, (k, t) ∈ ks.zip ts → (ks'.zip ts').lookup k = some t) → b = true)
  | [], ts, xs, _, _ => ⟨true, by cases xs <;> rfl, fun _ => rfl⟩
  | k :: ks, [], _, _, h => by cases h; exact ⟨true, rfl, fun _ => rfl⟩
  | k :: ks, t :: ts, _, hf, h => by
    obtain ⟨x, r, rfl, h1, h2⟩ := h
    obtain ⟨b, eb, hb⟩ := hitsE_tr (ks' := ks') r' ks ts (fun u hu => hf u (List.mem_cons_of_mem _ hu)) h2
    cases hl : (ks'.zip xs').lookup k with
    | none =>
      refine ⟨false, by simp only [hitsE, hl], fun e => ?_⟩
      have := e k t (by simp)
      rw [lookup_none_TR r' hl] at this
      cases this
    | some y =>
      obtain ⟨t', e1, e2⟩ := lookup_TR r' hl
      obtain ⟨a, ea, ha⟩ := hf t (List.mem_cons_self ..) t' x y h1 e2
      refine ⟨a && b, by simp only [hitsE, hl, ea, eb], fun e => ?_⟩
      have := e k t (by simp)
      rw [e1] at this
      cases this
      rw [ha rfl, hb fun k' t'' hm => e k' t'' (by simp [hm])]; rfl
theorem lookup_nodup {α : Type} : ∀ {ks : List Str} {xs : List α}, ks.Nodup → ∀ k x, (k, x) ∈ ks.zip xs → (ks.zip xs).lookup k = some x
  | [], _, _, k, x, h => by simp at h
  | _ :: _, [], _, k, x, h => by simp at h
  | k0 :: ks, x0 :: xs, nd, k, x, h => by
    rw [List.nodup_cons] at nd
    rw [List.zip_cons_cons] at h ⊢
    rcases List.mem_cons.mp h with e | h'
    · cases e; simp [List.lookup_cons]
    · have hk : k ∈ ks := (List.of_mem_zip h').1
      have ne : (k == k0) = false := by
        simp only [beq_eq_false_iff_ne]
        intro e; subst e; exact nd.1 hk
      rw [List.lookup_cons, ne]
      exact lookup_nodup nd.2 k x h'
theorem dps_mem : ∀ {ts : List Tr} {t : Tr}, t ∈ ts → dp t ≤ dps ts
  | u :: ts, t, h => by
    rcases List.mem_cons.mp h with rfl | h
    · simp only [dps]; omega
    · have := dps_mem h; simp only [dps]; omega
theorem eqT_tr {st : Sto} : ∀ (n : Nat) (t t' : Tr) (v w : PV), dp t < n → TR st t v → TR st t' w → ∃ b, eqT st n v w = some b ∧ (t = t' → b = true) := by
  intro n
  induction n with
  | zero => intro t t' v w h; omega
  | succ n ih =>
    intro t t' v w hd h h'
    cases t with
    | num i =>
      cases h
      cases t' with
      | num j => cases h'; exact ⟨i == j, rfl, fun e => by injection e with e; simp [e]⟩
      | word z => cases h'; exact ⟨false, rfl, fun e => nomatch e⟩
      | row ts => obtain ⟨xs, rfl, _⟩ := h'; exact ⟨false, rfl, fun e => nomatch e⟩
      | rec_ ks ts => obtain ⟨m, xs, rfl, hm, _⟩ := h'; exact ⟨false, by simp [eqT, kindN, hm, isDic, eqN], fun e => nomatch e⟩
    | word z =>
      cases h
      cases t' with
      | num j => cases h'; exact ⟨false, rfl, fun e => nomatch e⟩
      | word z' => cases h'; exact ⟨z == z', rfl, fun e => by injection e with e; simp [e]⟩
      | row ts => obtain ⟨xs, rfl, _⟩ := h'; exact ⟨false, rfl, fun e => nomatch e⟩
      | rec_ ks ts => obtain ⟨m, xs, rfl, hm, _⟩ := h'; exact ⟨false, by simp [eqT, kindN, hm, isDic, eqN], fun e => nomatch e⟩
    | row ts =>
      obtain ⟨xs, rfl, hr⟩ := h
      cases t' with
      | num j => cases h'; exact ⟨false, rfl, fun e => nomatch e⟩
      | word z' => cases h'; exact ⟨false, rfl, fun e => nomatch e⟩
      | row ts' =>
        obtain ⟨ys, rfl, hr'⟩ := h'
        simp only [dp] at hd
        obtain ⟨b, e, hb⟩ := allE_tr (f := eqT st n) ts ts' (fun u hu t' v w => ih u t' v w (by have := dps_mem hu; omega)) hr hr'
        exact ⟨b, by simpa only [eqT] using e, fun e => by injection e with e; exact hb e⟩
      | rec_ ks ts' => obtain ⟨m, xs, rfl, hm, _⟩ := h'; exact ⟨false, by simp [eqT, kindN, hm, isDic, eqN], fun e => nomatch e⟩
    | rec_ ks ts =>
      obtain ⟨a, xs, rfl, ha, nd, hl, hr⟩ := h
      cases t' with
      | num j => cases h'; exact ⟨false, by simp [eqT, kindN, ha, isDic, eqN], fun e => nomatch e⟩
      | word z' => cases h'; exact ⟨false, by simp [eqT, kindN, ha, isDic, eqN], fun e => nomatch e⟩
      | row ts' => obtain ⟨ys, rfl, hr'⟩ := h'; exact ⟨false, by simp [eqT, kindN, ha, isDic, eqN], fun e => nomatch e⟩
      | rec_ ks' ts' =>
        obtain ⟨a', xs', rfl, ha', nd', hl', hr'⟩ := h'
        simp only [dp] at hd
        obtain ⟨b, e, hb⟩ := hitsE_tr (f := eqT st n) (ks' := ks') hr' ks ts (fun u hu t' v w => ih u t' v w (by have := dps_mem hu; omega)) hr
        by_cases hk : ks.length = ks'.length
        · refine ⟨b, ?_, fun e => ?_⟩
          · simp only [eqT, ha, ha', eqDD]
            rw [if_pos ⟨nd, hl⟩, if_pos hk]
            exact e
          · injection e with e1 e2
            subst e1; subst e2
            exact hb (lookup_nodup nd)
        · refine ⟨false, ?_, fun e => ?_⟩
          · simp only [eqT, ha, ha', eqDD]
            rw [if_pos ⟨nd, hl⟩, if_neg hk]
          · injection e with e1 e2
            subst e1
            exact absurd rfl hk
end FK12

set_option Elab.async false
set_option linter.all false
set_option maxRecDepth 100000
set_option maxHeartbeats 4000000
namespace FK12
open PySem L2 PySem.W Mi
def ty : Tr → String
  | .num _ => "int"
  | .word _ => "str"
  | .row _ => "tuple"
  | .rec_ _ _ => "dict"
def kids : Tr → List Tr
  | .row ts => ts
  | .rec_ _ ts => ts
  | _ => []
def own : Tr → Int
  | .num i => (if 0 < i then i else 0) + 1
  | .row ts => 1 + ts.length
  | _ => 1
def owns : List Tr → Int
  | [] => 0
  | t :: ts => own t + owns ts
theorem owns_app : ∀ a b : List Tr, owns (a ++ b) = owns a + owns b
  | [], b => by simp [owns]
  | t :: a, b => by simp only [List.cons_append, owns, owns_app a b]; omega
theorem wt_own (t : Tr) : wt t = own t + wts (kids t) := by
  cases t <;> simp [wt, own, kids, wts]
theorem sz_kids (t : Tr) : sz t = 1 + szs (kids t) := by
  cases t <;> simp [sz, kids, szs]
theorem isi_tr {st : Sto} {t : Tr} {v : PV} (h : TR st t v) (n : String) : oIsi isT [v, .ty n] st = optB (tyb (ty t) n) st := by
  cases t with
  | num i => cases h; rfl
  | word z => cases h; rfl
  | row ts => obtain ⟨xs, rfl, _⟩ := h; rfl
  | rec_ ks ts =>
    obtain ⟨m, xs, rfl, hm, _⟩ := h
    show isiA isT st (.ty n) (soCls st[m]?) st = _
    rw [hm]
    rfl
@[simp] theorem q_optB (b : Bool) (st : Sto) : optB (some b) st = .ok (.bl b) st := (rfl)
theorem t1 : tyb "int" "str" = some false := rfl
theorem t2 : tyb "int" "tuple" = some false := rfl
theorem t3 : tyb "int" "dict" = some false := rfl
theorem t4 : tyb "int" "int" = some true := rfl
theorem t5 : tyb "str" "str" = some true := rfl
theorem t6 : tyb "str" "tuple" = some false := rfl
theorem t7 : tyb "str" "dict" = some false := rfl
theorem t8 : tyb "str" "int" = some false := rfl
theorem t9 : tyb "tuple" "str" = some false := rfl
theorem t10 : tyb "tuple" "tuple" = some true := rfl
theorem t11 : tyb "tuple" "dict" = some false := rfl
theorem t12 : tyb "tuple" "int" = some false := rfl
theorem t13 : tyb "dict" "str" = some false := rfl
theorem t14 : tyb "dict" "tuple" = some false := rfl
theorem t15 : tyb "dict" "dict" = some true := rfl
theorem t17 : tyb "int" "bool" = some false := rfl
def kn : Tr → Str
  | .num _ => "number"
  | .word _ => "word"
  | .row _ => "row"
  | .rec_ _ _ => "record"
theorem p_kind {st : Sto} {t : Tr} {v : PV} (h : TR st t v) : m_kind_of [v] st = .ok (.str (kn t)) st := by
  have e := isi_tr h
  cases t <;> simp [m_kind_of, mirror, g_kind_of, gt_kind_of_1, gt_kind_of_2, gt_kind_of_3, e, ty, t1, t2, t3, t5, t9, t10, t13, t14, t15, kn]
theorem p_own {st : Sto} {t : Tr} {v : PV} (h : TR st t v) : m_own_weight [v] st = .ok (.int (own t)) st := by
  have e := p_kind h
  cases t with
  | num i => cases h; simp [m_own_weight, mirror, g_own_weight, gt_own_weight_1, e, kn, own]; omega
  | word z => cases h; simp [m_own_weight, mirror, g_own_weight, gt_own_weight_1, gt_own_weight_2, gt_own_weight_3, e, kn, own]
  | row ts => obtain ⟨xs, rfl, hr⟩ := h; simp [m_own_weight, mirror, g_own_weight, gt_own_weight_1, gt_own_weight_2, gt_own_weight_3, e, kn, own, hr.len]
  | rec_ ks ts => obtain ⟨m, xs, rfl, hm, _⟩ := h; simp [m_own_weight, mirror, g_own_weight, gt_own_weight_1, gt_own_weight_2, gt_own_weight_3, e, kn, own]
theorem vals_at {st : Sto} {n : Nat} {ks : List Str} {xs : List PV} (h : st[n]? = some (.dic ks xs)) : oVals (.ref n) st = .ok (.ref st.length) (st ++ [.lst xs]) := by
  show withD st n _ = _
  unfold withD
  rw [h]
theorem p_things {st : Sto} {t : Tr} {v : PV} (h : TR st t v) : ∃ xs, m_things_within [v] st = .ok (.ref st.length) (st ++ [.lst xs]) ∧ TRs st (kids t) xs := by
  have e := isi_tr h
  cases t with
  | num i => exact ⟨[], by simp [m_things_within, mirror, g_things_within, gt_things_within_1, gt_things_within_2, e, ty, t2, t3], rfl⟩
  | word z => exact ⟨[], by simp [m_things_within, mirror, g_things_within, gt_things_within_1, gt_things_within_2, e, ty, t6, t7], rfl⟩
  | row ts => obtain ⟨xs, rfl, hr⟩ := h; exact ⟨xs, by simp [m_things_within, mirror, g_things_within, e, ty, t10, oList], hr⟩
  | rec_ ks ts => obtain ⟨m, xs, rfl, hm, nd, hl, hr⟩ := h; exact ⟨xs, by simp [m_things_within, mirror, g_things_within, gt_things_within_1, e, ty, t14, t15, vals_at hm], hr⟩
theorem szs_len : ∀ ts : List Tr, ts.length ≤ szs ts
  | [] => by simp [szs]
  | t :: ts => by have := sz_pos t; have := szs_len ts; simp only [szs, List.length_cons]; omega
abbrev tst : PEnv → Mo Bool := (mB (mOp oLt (mVar 2) (mCall oLen (aCons (mVar 1) aNil))))
abbrev bdy : PEnv → Mo Fl := (sSeq (sExpr (mMut oExtend (mVar 1) (mCall m_things_within (aCons (mOp oIxD (mVar 1) (mVar 2)) aNil))))
    (sAug 2 ipAdd (mC (.int 1))))
/-- all that was there stays -/
def Old (a b : Sto) : Prop := ∀ (n : Nat) so, a[n]? = some so → b[n]? = some so
theorem Old.refl (a : Sto) : Old a a := fun _ _ e => e
theorem Old.trans {a b c : Sto} (h : Old a b) (h' : Old b c) : Old a c := fun n so e => h' n so (h n so e)
theorem Old.dk {a b : Sto} (h : Old a b) : Dk a b := fun n ks xs e => h n _ e
theorem old_pre {a b : Sto} (h : Pre a b) : Old a b := fun n so e => h.get e
theorem old_app (a d : Sto) : Old a (a ++ d) := old_pre (Pre.of a d)
/-- all but one -/
def Ob (r : Nat) (a b : Sto) : Prop := ∀ (n : Nat) so, n ≠ r → a[n]? = some so → b[n]? = some so
theorem Ob.trans {r : Nat} {a b c : Sto} (h : Ob r a b) (h' : Ob r b c) : Ob r a c := fun n so ne e => h' n so ne (h n so ne e)
theorem ob_old {r : Nat} {a b : Sto} (h : Old a b) : Ob r a b := fun n so _ e => h n so e
theorem ob_set (r : Nat) (a : Sto) (so : SO) : Ob r a (a.set r so) := fun n s ne e => by rw [List.getElem?_set_ne (Ne.symm ne)]; exact e
theorem all_loop (v : PV) (r : Nat) : ∀ (m p fuel : Nat) (ts : List Tr) (xs : List PV) (st : Sto), st[r]? = some (.lst xs) → TRs st ts xs → p ≤ ts.length → szs (ts.drop p) = m → m < fuel → p + m ≤ 100000 →
    ∃ ts' xs' st', whileF tst bdy fuel [some v, some (.ref r), some (.int p)] st = .ok (.nx [some v, some (.ref r), some (.int ts'.length)]) st' ∧ st'[r]? = some (.lst xs') ∧ TRs st' ts' xs' ∧ (Dk st st' ∧ Ob r st st') ∧ owns ts' = owns (ts.take p) + wts (ts.drop p) ∧ ts'.length = p + m := by
  intro m
  induction m using Nat.strongRecOn with
  | _ m ih =>
    intro p fuel ts xs st hr ht hp hm hf hb
    obtain ⟨f', rfl⟩ : ∃ f', fuel = f' + 1 := ⟨fuel - 1, by omega⟩
    have hlen := ht.len
    by_cases he : p = ts.length
    · subst he
      refine ⟨ts, xs, st, ?_, hr, ht, ⟨Dk.refl _, fun _ _ _ e => e⟩, by simp [wts], ?_⟩
      · rw [while_step]
        simp [withL_at hr, hlen]
      · rw [List.drop_length] at hm
        simp [szs] at hm
        omega
    · have lt : p < ts.length := by omega
      have lt2 : p < xs.length := by omega
      obtain ⟨t, et, hx⟩ := ht.get (List.getElem?_eq_getElem lt2)
      have hd : ts.drop p = t :: ts.drop (p + 1) := by
        rw [List.drop_eq_getElem_cons lt]
        have := (List.getElem?_eq_some_iff.mp et).2
        rw [this]
      obtain ⟨ys, ey, hy⟩ := p_things hx
      have rl : r < st.length := (List.getElem?_eq_some_iff.mp hr).1
      have hr1 : (st ++ [SO.lst ys])[r]? = some (.lst xs) := (Pre.of st _).get hr
      have szt := sz_kids t
      rw [hd] at hm
      simp only [szs] at hm
      have d1 : Dk st (st ++ [SO.lst ys]) := dk_app _ _
      have d2 : Dk (st ++ [SO.lst ys]) ((st ++ [SO.lst ys]).set r (.lst (xs ++ ys))) := dk_set hr1
      have d12 := d1.trans d2
      have lk : ys.length ≤ szs (kids t) := by rw [← hy.len]; exact szs_len _
      have lx : xs.length ≤ p + m := by
        have := szs_len (ts.drop p)
        rw [hd] at this
        simp only [szs, List.length_cons, List.length_drop] at this
        omega
      have hdrop : (ts ++ kids t).drop (p + 1) = ts.drop (p + 1) ++ kids t := List.drop_append_of_le_length (by omega)
      have htake : (ts ++ kids t).take (p + 1) = ts.take p ++ [t] := by
        rw [List.take_append_of_le_length (by omega), ← List.take_append_getElem lt]
        have := (List.getElem?_eq_some_iff.mp et).2
        rw [this]
      have hm' : szs ((ts ++ kids t).drop (p + 1)) = m - 1 := by rw [hdrop, szs_app]; omega
      have hset : ((st ++ [SO.lst ys]).set r (SO.lst (xs ++ ys)))[r]? = some (SO.lst (xs ++ ys)) := by
        rw [List.getElem?_set_self]
        simp
        omega
      obtain ⟨ts', xs', st', e1, e2, e3, e4, e5, e6⟩ := ih (m - 1) (by omega) (p + 1) f' (ts ++ kids t) (xs ++ ys) ((st ++ [SO.lst ys]).set r (.lst (xs ++ ys))) hset ((ht.mono d12).append (hy.mono d12)) (by simp; omega) hm' (by omega) (by omega)
      refine ⟨ts', xs', st', ?_, e2, e3, ⟨d12.trans e4.1, ((ob_old (old_app _ _)).trans (ob_set r _ _)).trans e4.2⟩, ?_, by omega⟩
      · rw [while_step]
        have hat : atI xs (p : Int) = some xs[p] := by simp [atI, ixN, lt2]
        have hlim : xs.length + ys.length ≤ 1000000 := by omega
        have top : (st ++ [SO.lst ys])[st.length]? = some (.lst ys) := top_get _ _
        have ee : ((p : Int) + 1) = ((p + 1 : Nat) : Int) := by omega
        simp [withL_at hr, lt2, hat, ey, oExtend, withL_at hr1, withL_at top, hlim]
        rw [ee]
        exact e1
      · rw [e5, htake, hdrop, hd, owns_app, wts_app]
        have := wt_own t
        simp only [owns, wts]
        omega
theorem p_all {st : Sto} {t : Tr} {v : PV} (h : TR st t v) (hs : sz t ≤ 10000) : ∃ r ts xs st', m_all_within [v] st = .ok (.ref r) st' ∧ st'[r]? = some (.lst xs) ∧ TRs st' ts xs ∧ Old st st' ∧ owns ts = wt t ∧ ts.length = sz t := by
  obtain ⟨ts', xs', st', e1, e2, e3, e4, e5, e6⟩ := all_loop v st.length (sz t) 0 lim [t] [v] (st ++ [.lst [v]]) (top_get _ _) ⟨v, [], rfl, h.mono (dk_app _ _) , rfl⟩ (Nat.zero_le _) (by simp [szs]) (by show sz t < 1000000; omega) (by omega)
  refine ⟨st.length, ts', xs', st', ?_, e2, e3, fun n so e => e4.2 n so (by have := (List.getElem?_eq_some_iff.mp e).1; omega) (old_app _ _ n so e), by simpa [owns, wts] using e5, by omega⟩
  simp only [m_all_within, mirror, g_all_within, gt_all_within_1, gt_all_within_2, gt_all_within_3]
  simp
  have e1' : sWhile tst bdy [some v, some (.ref st.length), some (.int 0)] (st ++ [.lst [v]]) = .ok (.nx [some v, some (.ref st.length), some (.int ts'.length)]) st' := e1
  simp [e1']
end FK12

set_option Elab.async false
set_option linter.all false
set_option maxRecDepth 100000
set_option maxHeartbeats 4000000
namespace FK12
open PySem L2 PySem.W Mi
theorem ints_map (is : List Int) : intsP (is.map PV.int) = some is := by
  induction is with
  | nil => rfl
  | cons i r ih => simp [intsP, ih]
theorem owns_sum : ∀ ts : List Tr, (ts.map own).sum = owns ts
  | [] => rfl
  | t :: ts => by simp [owns, owns_sum ts]
def rOf (st : Sto) (m : List PV → Mo PV) (x : PV) : PV := match m [x] st with
  | .ok y _ => y
  | _ => .non
theorem own_map {st : Sto} : ∀ {ts : List Tr} {xs : List PV}, TRs st ts xs → xs.map (rOf st m_own_weight) = (ts.map own).map PV.int ∧ ∀ x ∈ xs, m_own_weight [x] st = .ok (rOf st m_own_weight x) st
  | [], _, h => by cases h; exact ⟨rfl, (fun x hx => nomatch hx)⟩
  | t :: ts, _, h => by
    obtain ⟨x, r, rfl, h1, h2⟩ := h
    obtain ⟨e1, e2⟩ := own_map h2
    have e := p_own h1
    have q : rOf st m_own_weight x = .int (own t) := by unfold rOf; rw [e]
    refine ⟨by simp [q, e1], fun y hy => ?_⟩
    rcases List.mem_cons.mp hy with rfl | hy
    · rw [q]; exact e
    · exact e2 y hy
theorem p_weight {st : Sto} {t : Tr} {v : PV} (h : TR st t v) (hs : sz t ≤ 10000) : ∃ st', m_weight [v] st = .ok (.int (wt t)) st' ∧ Old st st' := by
  obtain ⟨r, ts, xs, st1, e1, e2, e3, e4, e5, e6⟩ := p_all h hs
  obtain ⟨q1, q2⟩ := own_map e3
  have hl := e3.len
  have c := compR_map (fe := mCall m_own_weight (aCons (mVar 0) aNil)) (env := [some v]) (f := rOf st1 m_own_weight) e2 (fun x hx => by simp [q2 x hx]) xs.length 0 (lim + 1) [] (by omega) (Nat.zero_le _) (by show xs.length < 1000000 + 1; omega)
  refine ⟨st1 ++ [.lst ((ts.map own).map PV.int)], ?_, e4.trans (old_app _ _)⟩
  simp only [List.nil_append, List.drop_zero, q1] at c
  have ss := owns_sum ts
  rw [e5] at ss
  simp only [m_weight, mirror, g_weight]
  simp [e1, withL_at e2, compS]
  simp only [lim_eq] at c
  rw [c]
  have im := ints_map (ts.map own)
  rw [List.map_map] at im
  simp [im, ss]
theorem p_count (i : Int) (st : Sto) : m__law_count [.int i, .int i] st = .ok (.bl true) st := by
  have e := isi_tr (show TR st (.num i) (.int i) from rfl)
  simp [m__law_count, mirror, g__law_count, e, ty, t4, t17, oEqT, eqT]
/-! what the script's cells make -/
def mix (a : Int) : List Int → Int
  | [] => a
  | x :: r => mix (modP (a * 2011 + x) 998244353) r
theorem cell_loop (l : List Int) (n : Nat) (st : Sto) (hn : st[n]? = some (.lst (l.map PV.int))) (v0 v1 : Option PV) : ∀ (k i m : Nat) (a : Int) (v3 : Option PV), l.length - i = k → i ≤ l.length → k < m → ∃ v3',
    forR (gN 3) (sSet 2 (mOp oMod (mOp oAdd (mOp oMulT (mVar 2) (mC (.int 2011))) (mVar 3)) (mC (.int 998244353)))) n m i [v0, v1, some (.int a), v3] st = .ok (.nx [v0, v1, some (.int (mix a (l.drop i))), v3']) st := by
  intro k
  induction k with
  | zero =>
    intro i m a v3 hk hi hm
    obtain ⟨m', rfl⟩ : ∃ m', m = m' + 1 := ⟨m - 1, by omega⟩
    have hi' : i = l.length := by omega
    subst hi'
    exact ⟨v3, by simp [forR, withL, hn, mix]⟩
  | succ k ih =>
    intro i m a v3 hk hi hm
    obtain ⟨m', rfl⟩ : ∃ m', m = m' + 1 := ⟨m - 1, by omega⟩
    have hlt : i < l.length := by omega
    obtain ⟨v3', e⟩ := ih (i + 1) m' (modP (a * 2011 + l[i]) 998244353) (some (.int l[i])) (by omega) (by omega) (by omega)
    refine ⟨v3', ?_⟩
    rw [List.drop_eq_getElem_cons hlt]
    simp only [mix]
    rw [← e]
    have hi1 : (l.map PV.int)[i]? = some (.int l[i]) := by simp [hlt]
    have hc : cMul a 2011 = true := by simp [cMul]
    conv => lhs; unfold forR
    simp only [withL, hn, hi1, q_gN]
    simp [hc, cNz]
theorem cell_ex (ns : List Int) (k : Nat) (h9 : k < 1000) : ∃ c, ∀ st, ∃ st1, m__law_cell [.frl (ns.map PV.int), .int k] st = .ok (.int c) st1 ∧ Pre st st1 := by
  by_cases hk : k < ns.length
  · have e : atI (ns.map PV.int) (k : Int) = some (.int ns[k]) := by
      simp [atI, ixN, hk]
    exact ⟨ns[k], fun st => ⟨st, by simp [m__law_cell, mirror, g__law_cell, hk, e], Pre.refl _⟩⟩
  · have hcut : cutP (ns.map PV.int) none (some 5) = (ns.take 5).map PV.int := by
      unfold cutP
      simp [HT.sIx]
    refine ⟨modP (mix (37 * k + 29) (ns.take 5) * (k + 5)) 1000000007, fun st => ?_⟩
    have top := top_get st (SO.lst ((ns.take 5).map PV.int))
    obtain ⟨v3', e⟩ := cell_loop (ns.take 5) st.length (st ++ [.lst ((ns.take 5).map PV.int)]) top (some (.frl (ns.map PV.int))) (some (.int k)) (ns.take 5).length 0 (lim + 1) (37 * k + 29) none (by omega) (Nat.zero_le _) (by show (ns.take 5).length < 1000000 + 1; simp; omega)
    refine ⟨st ++ [.lst ((ns.take 5).map PV.int)], ?_, Pre.of _ _⟩
    have c1 : cMul 37 (k : Int) = true := by simp [cMul]
    have c2 : cMul (mix (37 * k + 29) (ns.take 5)) (k + 5) = true := by
      simp only [cMul, Bool.or_eq_true, Bool.and_eq_true, decide_eq_true_eq]
      exact .inr ⟨by omega, by omega⟩
    simp only [List.drop_zero] at e
    simp only [m__law_cell, mirror, g__law_cell, gt__law_cell_1, gt__law_cell_2, gt__law_cell_3]
    simp [hk, c1, hcut, forS]
    simp only [lim_eq, List.map_take, Nat.reduceAdd] at e
    rw [e]
    simp [c2, cNz]
end FK12

set_option Elab.async false
set_option linter.all false
set_option maxRecDepth 100000
set_option maxHeartbeats 4000000
namespace FK12
open PySem L2 PySem.W Mi
theorem num_ex (c : Int) : ∃ i, ∀ st, ∃ st1, m__law_number [.int c] st = .ok (.int i) st1 ∧ Pre st st1 := by
  have m5 : c % 5 = 1 ∨ c % 5 = 2 ∨ c % 5 = 3 ∨ (c % 5 ≠ 1 ∧ c % 5 ≠ 2 ∧ c % 5 ≠ 3) := by omega
  have em : modP c 5 = c % 5 := modP_pos _ _ (by decide)
  have pw : ((10 : Int) ^ (18 : Int).toNat) = 1000000000000000000 := by decide
  have cp : cPow 10 18 = true := by decide
  rcases m5 with h | h | h | ⟨h1, h2, h3⟩
  · have r : modP (divP c 5) 2 = 0 ∨ modP (divP c 5) 2 = 1 := by rw [modP_pos _ _ (by decide)]; omega
    rcases r with r | r
    · exact ⟨999999999999999999, fun st => ⟨st ++ [.lst [.int 999999999999999999, .int (-999999999999999999)]], by
        simp [m__law_number, mirror, g__law_number, gt__law_number_1, cp, pw, em, h, cNz, cDv, r, atI, ixN], Pre.of _ _⟩⟩
    · exact ⟨-999999999999999999, fun st => ⟨st ++ [.lst [.int 999999999999999999, .int (-999999999999999999)]], by
        simp [m__law_number, mirror, g__law_number, gt__law_number_1, cp, pw, em, h, cNz, cDv, r, atI, ixN], Pre.of _ _⟩⟩
  · exact ⟨modP (divP c 5) 1999999999999999999 - 999999999999999999, fun st => ⟨st, by
      simp [m__law_number, mirror, g__law_number, gt__law_number_1, gt__law_number_2, cp, pw, em, h, cNz, cDv, cMul], Pre.refl _⟩⟩
  · exact ⟨modP (divP c 5) 2001 - 1000, fun st => ⟨st, by
      simp [m__law_number, mirror, g__law_number, gt__law_number_1, gt__law_number_2, gt__law_number_3, cp, pw, em, h, cNz, cDv], Pre.refl _⟩⟩
  · exact ⟨modP (divP c 5) 9 - 2, fun st => ⟨st, by
      simp [m__law_number, mirror, g__law_number, gt__law_number_1, gt__law_number_2, gt__law_number_3, gt__law_number_4, cp, pw, em, h1, h2, h3, cNz, cDv], Pre.refl _⟩⟩
theorem atI_nat {α : Type} (l : List α) (k : Nat) (h : k < l.length) : atI l (k : Int) = some l[k] := by simp [atI, ixN, h]
theorem sign_at (z : Str) (n : Nat) (hz : z.cps.toList.length = n) (hn : n ≤ 1000) (i : Int) (h0 : 0 ≤ i) (h1 : i < n) : ∃ c, z.cps.toList[i.toNat]? = some c ∧ ∀ st, oIxD (.str z) (.int i) st = .ok (.str ⟨#[c]⟩) st := by
  have hl : z.length ≤ 1000000 := by show z.cps.size ≤ 1000000; rw [← Array.length_toList]; omega
  obtain ⟨k, rfl⟩ := Int.eq_ofNat_of_zero_le h0
  have lt : k < z.cps.toList.length := by omega
  refine ⟨z.cps.toList[k], by simpa using List.getElem?_eq_getElem lt, fun st => ?_⟩
  rw [q_ixDS, lim_eq, if_pos hl, atI_nat _ k lt]
  rfl
abbrev alpha : Str := "nseatiorlduhmcgfypwbvkxjqz"
abbrev wb : PEnv → Mo Fl := (sSeq (sSet 1 (mOp oAdd (mVar 1) (mOp oIxD (mC (.str "nseatiorlduhmcgfypwbvkxjqz")) (mOp oMod (mVar 2) (mC (.int 26))))))
    (sSet 2 (mOp oMod (mOp oMulT (mVar 2) (mC (.int 16807))) (mC (.int 2147483647)))))
theorem word_loop (v0 : Option PV) : ∀ (xs : List PV) (z : Str) (r : Int) (v3 : Option PV), z.length + xs.length ≤ 100 → ∃ z' r' v3', z'.length = z.length + xs.length ∧ ∀ st, forL (gN 3) wb xs [v0, some (.str z), some (.int r), v3] st = .ok (.nx [v0, some (.str z'), some (.int r'), v3']) st
  | [], z, r, v3, h => ⟨z, r, v3, by simp, fun st => by simp⟩
  | x :: xs, z, r, v3, h => by
    simp only [List.length_cons] at h
    have hm : 0 ≤ modP r 26 ∧ modP r 26 < (26 : Nat) := by
      rw [modP_pos _ _ (by decide)]
      exact ⟨Int.emod_nonneg _ (by decide), Int.emod_lt_of_pos _ (by decide)⟩
    obtain ⟨c, _, ec⟩ := sign_at alpha 26 (by decide +kernel) (by decide) (modP r 26) hm.1 hm.2
    have l1 : (⟨#[c]⟩ : Str).length = 1 := rfl
    have lz : (z ++ (⟨#[c]⟩ : Str)).length = z.length + 1 := by rw [Str.length_append, l1]
    obtain ⟨z', r', v3', hl, e⟩ := word_loop v0 xs (z ++ ⟨#[c]⟩) (modP (r * 16807) 2147483647) (some x) (by rw [lz]; omega)
    refine ⟨z', r', v3', by rw [hl, lz]; simp; omega, fun st => ?_⟩
    have hc : cMul r 16807 = true := by simp [cMul]
    have hlim : z.length + (⟨#[c]⟩ : Str).length ≤ 1000000 := by rw [l1]; omega
    rw [← e st]
    conv => lhs; unfold forL
    simp only [q_gN, q_sSeq, q_sSet, q_mOp, q_mVar, q_mC, q_opI]
    simp [cNz, hc, -q_ixDS, ec, hlim]
theorem word_ex (c : Int) : ∃ z : Str, z.length ≤ 8 ∧ 1 ≤ z.length ∧ ∀ st, m__law_word [.int c] st = .ok (.str z) st := by
  have hm : ∃ k : Nat, k < 8 ∧ modP c 8 = k := by
    rw [modP_pos _ _ (by decide)]
    have := Int.emod_nonneg c (show (8 : Int) ≠ 0 by decide)
    have := Int.emod_lt_of_pos c (show (0 : Int) < 8 by decide)
    exact ⟨(c % 8).toNat, by omega, by omega⟩
  obtain ⟨k, hk, ek⟩ := hm
  have l0 : ((("" : String) : Str)).length = 0 := rfl
  obtain ⟨z', r', v3', hl, e⟩ := word_loop (some (.int c)) (nums 0 (1 + k)) "" (modP (divP c 8) 2147483647) none (by rw [l0]; simp [nums]; omega)
  have hn : (nums 0 (1 + k)).length = 1 + k := by simp [nums]
  refine ⟨z', by rw [hl, l0, hn]; omega, by rw [hl, l0, hn]; omega, fun st => ?_⟩
  have hR : cR (1 + (k : Int)) = true := by simp [cR]; omega
  have tn : ((1 : Int) + (k : Int)).toNat = 1 + k := by omega
  simp only [m__law_word, mirror, g__law_word, gt__law_word_1, gt__law_word_2, gt__law_word_3]
  simp only [List.length_cons, List.length_nil, if_true, q_sSeq, q_sSet, q_mC, bind_ok, q_flowN, q_mOp, q_mVar, q_opI]
  simp [cNz, cDv, ek]
  rw [if_pos (by omega), tn, e st]
  simp
end FK12

set_option Elab.async false
set_option linter.all false
set_option maxRecDepth 100000
set_option maxHeartbeats 4000000
namespace FK12
open PySem L2 PySem.W Mi
mutual
/-- its numbers are at most 4 -/
def sm : Tr → Prop
  | .num i => i ≤ 4
  | .word _ => True
  | .row ts => sms ts
  | .rec_ _ ts => sms ts
def sms : List Tr → Prop
  | [] => True
  | t :: ts => sm t ∧ sms ts
end
mutual
theorem wt_sm : ∀ t : Tr, sm t → wt t + 1 ≤ 6 * sz t
  | .num i, h => by simp only [sm] at h; simp only [wt, sz]; split <;> omega
  | .word _, _ => by simp [wt, sz]
  | .row ts, h => by have := wts_sm ts h; simp only [wt, sz]; omega
  | .rec_ _ ts, h => by have := wts_sm ts h; simp only [wt, sz]; omega
theorem wts_sm : ∀ ts : List Tr, sms ts → wts ts + ts.length ≤ 6 * szs ts
  | [], _ => by simp [wts, szs]
  | t :: ts, h => by have := wt_sm t h.1; have := wts_sm ts h.2; simp only [wts, szs, List.length_cons]; omega
end
theorem sms_app : ∀ a b : List Tr, sms (a ++ b) ↔ sms a ∧ sms b
  | [], b => by simp [sms]
  | t :: a, b => by simp [sms, sms_app a b, and_assoc]
theorem leaf_ex (c : Int) (s : Bool) : ∃ t, sz t = 1 ∧ (s = true → sm t) ∧ ∀ st, ∃ v st1, m__law_leaf [.int c, .bl s] st = .ok (.tup [v, .int (wt t)]) st1 ∧ Pre st st1 ∧ TR st1 t v := by
  have em : modP c 3 = c % 3 := modP_pos _ _ (by decide)
  by_cases h : c % 3 = 0
  · obtain ⟨z, _, _, e⟩ := word_ex (divP c 3)
    refine ⟨.word z, rfl, fun _ => trivial, fun st => ⟨.str z, st, ?_, Pre.refl _, rfl⟩⟩
    simp [m__law_leaf, mirror, g__law_leaf, em, h, cNz, cDv, e, wt]
  · obtain ⟨i, hi⟩ := num_ex (divP c 3)
    cases s with
    | false =>
      refine ⟨.num i, rfl, fun z => (nomatch z), fun st => ?_⟩
      obtain ⟨st1, e, p⟩ := hi st
      refine ⟨.int i, st1, ?_, p, rfl⟩
      simp [m__law_leaf, mirror, g__law_leaf, gt__law_leaf_1, gt__law_leaf_2, gt__law_leaf_3, em, h, cNz, cDv, e, wt]
      omega
    | true =>
      refine ⟨.num (modP (divP c 3) 7 - 2), rfl, fun _ => ?_, fun st => ?_⟩
      · simp only [sm]
        rw [modP_pos _ _ (by decide)]
        have := Int.emod_lt_of_pos (divP c 3) (show (0 : Int) < 7 by decide)
        omega
      · obtain ⟨st1, e, p⟩ := hi st
        refine ⟨.int (modP (divP c 3) 7 - 2), st1, ?_, p, rfl⟩
        simp [m__law_leaf, mirror, g__law_leaf, gt__law_leaf_1, gt__law_leaf_2, gt__law_leaf_3, em, h, cNz, cDv, e, wt]
        split <;> omega
/-! records -/
abbrev abc : Str := "abcdefghijklmnopqrstuvwxyz"
abbrev rb : PEnv → Mo Fl := (sSeq (sSet 6 (mOp oMod (mOp oAdd (mOp oDiv (mVar 0) (mC (.int 11))) (mOp oMulT (mC (.int 5)) (mVar 5))) (mC (.int 26))))
    (sSeq (sSet 7 (mOp oAdd (mOp oAdd (mSl (mVar 2) pNone (pSome (mVar 3))) (mOp oIxD (mC (.str "abcdefghijklmnopqrstuvwxyz")) (mVar 6))) (mSl (mVar 2) (pSome (mVar 3)) pNone)))
    (sDPutM (mVar 4) (mVar 7) (mOp oIxD (mVar 1) (mVar 5)))))
def pl (c : Int) (k : Nat) : Int := modP (divP c 11 + 5 * (k : Int)) 26
theorem pl_in (c : Int) (k : Nat) : 0 ≤ pl c k ∧ pl c k < (26 : Nat) := by
  unfold pl
  rw [modP_pos _ _ (by decide)]
  exact ⟨Int.emod_nonneg _ (by decide), Int.emod_lt_of_pos _ (by decide)⟩
theorem pl_ne (c : Int) {i j : Nat} (hi : i < 20) (hj : j < 20) (h : i ≠ j) : pl c i ≠ pl c j := by
  unfold pl
  rw [modP_pos _ _ (by decide), modP_pos _ _ (by decide)]
  omega
theorem abc_nodup : abc.cps.toList.Nodup := by decide +kernel
theorem abc_len : abc.cps.toList.length = 26 := by decide +kernel
/-- the sign of a place -/
noncomputable def sg (c : Int) (k : Nat) : Nat := Classical.choose (sign_at abc 26 abc_len (by decide) (pl c k) (pl_in c k).1 (pl_in c k).2)
theorem sg_at (c : Int) (k : Nat) : abc.cps.toList[(pl c k).toNat]? = some (sg c k) ∧ ∀ st, oIxD (.str abc) (.int (pl c k)) st = .ok (.str ⟨#[sg c k]⟩) st := Classical.choose_spec (sign_at abc 26 abc_len (by decide) (pl c k) (pl_in c k).1 (pl_in c k).2)
theorem sg_ne (c : Int) {i j : Nat} (hi : i < 20) (hj : j < 20) (h : i ≠ j) : sg c i ≠ sg c j := fun e => by
  have a := (sg_at c i).1
  have b := (sg_at c j).1
  rw [e] at a
  have ne := pl_ne c hi hj h
  have p1 := pl_in c i
  have p2 := pl_in c j
  obtain ⟨h1, h2⟩ := List.getElem?_eq_some_iff.mp a
  obtain ⟨h3, h4⟩ := List.getElem?_eq_some_iff.mp b
  have pw := List.pairwise_iff_getElem.mp abc_nodup
  rcases Nat.lt_trichotomy (pl c i).toNat (pl c j).toNat with q | q | q
  · exact pw _ _ h1 h3 q (h2.trans h4.symm)
  · omega
  · exact pw _ _ h3 h1 q (h4.trans h2.symm)
/-- the key of a place -/
noncomputable def ky (c : Int) (z : Str) (a : Int) (k : Nat) : Str := Txt.slice z none (some a) ++ ⟨#[sg c k]⟩ ++ Txt.slice z (some a) none
theorem ky_ne (c : Int) (z : Str) (a : Int) {i j : Nat} (hi : i < 20) (hj : j < 20) (h : i ≠ j) : ky c z a i ≠ ky c z a j := fun e => by
  have e1 := congrArg (fun q : Str => q.cps.toList) e
  simp only [ky, Str.cps_append, Array.toList_append] at e1
  have := List.append_cancel_right e1
  have := List.append_cancel_left this
  exact sg_ne c hi hj h (by simpa using this)
end FK12

set_option Elab.async false
set_option linter.all false
set_option maxRecDepth 100000
set_option maxHeartbeats 4000000
namespace FK12
open PySem L2 PySem.W Mi
@[simp] theorem q_sDPutM {fo fi fv : PEnv → Mo PV} {env : PEnv} {st : Sto} : sDPutM fo fi fv env st = (fv env st).bind fun x st1 => (fo env st1).bind fun o st2 => (fi env st2).bind fun z st3 => (dPutAt z x o st3).bind fun _ st4 => .ok (.nx env) st4 := (rfl)
noncomputable def kys (c : Int) (z : Str) (a : Int) (i : Nat) : List Str := (List.range i).map (ky c z a)
theorem kys_succ (c : Int) (z : Str) (a : Int) (i : Nat) : kys c z a (i + 1) = kys c z a i ++ [ky c z a i] := by
  simp [kys, List.range_succ]
theorem kys_no (c : Int) (z : Str) (a : Int) (i : Nat) (h : i < 20) : ky c z a i ∉ kys c z a i := fun hm => by
  simp only [kys, List.mem_map, List.mem_range] at hm
  obtain ⟨j, hj, e⟩ := hm
  exact ky_ne c z a (by omega) h (by omega) e
theorem kys_nodup (c : Int) (z : Str) (a : Int) : ∀ i, i ≤ 20 → (kys c z a i).Nodup
  | 0, _ => by simp [kys]
  | i + 1, h => by
    rw [kys_succ]
    refine List.nodup_append.mpr ⟨kys_nodup c z a i (by omega), by simp, fun x hx y hy => ?_⟩
    have e : y = ky c z a i := by simpa using hy
    subst e
    exact fun e => kys_no c z a i (by omega) (e ▸ hx)
theorem kys_len (c : Int) (z : Str) (a : Int) (i : Nat) : (kys c z a i).length = i := by simp [kys]
theorem slice_len (z : Str) (h : z.length ≤ 8) (l u : Option Int) : (Txt.slice z l u).length ≤ 8 := by
  have := Txt.slice_le z l u
  omega
theorem rec_step (c a : Int) (z : Str) (hz : z.length ≤ 8) (n : Nat) (xs : List PV) (st0 : Sto) (hn : st0[n]? = some (.lst xs)) (hx : xs.length ≤ 19) (i : Nat) (hi : i < xs.length) (v6 v7 : Option PV) :
    rb [some (.int c), some (.ref n), some (.str z), some (.int a), some (.ref st0.length), some (.int i), v6, v7] (st0 ++ [.dic (kys c z a i) (xs.take i)]) = .ok (.nx [some (.int c), some (.ref n), some (.str z), some (.int a), some (.ref st0.length), some (.int i), some (.int (pl c i)), some (.str (ky c z a i))]) (st0 ++ [.dic (kys c z a (i + 1)) (xs.take (i + 1))]) := by
  have c5 : cMul 5 (i : Int) = true := by simp [cMul]
  have hp : modP (divP c 11 + 5 * (i : Int)) 26 = pl c i := rfl
  have sg1 := (sg_at c i).2
  have l1 : (⟨#[sg c i]⟩ : Str).length = 1 := rfl
  have s1 := slice_len z hz none (some a)
  have s2 := slice_len z hz (some a) none
  have s3 : (Txt.slice z none (some a) ++ (⟨#[sg c i]⟩ : Str)).length ≤ 9 := by rw [Str.length_append, l1]; omega
  have zl : z.length ≤ 1000000 := by omega
  have hn1 : (st0 ++ [SO.dic (kys c z a i) (xs.take i)])[n]? = some (.lst xs) := (Pre.of st0 _).get hn
  have hat := atI_nat xs i hi
  have htop : (st0 ++ [SO.dic (kys c z a i) (xs.take i)])[st0.length]? = some (.dic (kys c z a i) (xs.take i)) := top_get _ _
  have a1 : (Txt.slice z none (some a)).length + (⟨#[sg c i]⟩ : Str).length ≤ 1000000 := by rw [l1]; omega
  have a2 : (Txt.slice z none (some a) ++ (⟨#[sg c i]⟩ : Str)).length + (Txt.slice z (some a) none).length ≤ 1000000 := by omega
  have put : dPutAt (.str (ky c z a i)) xs[i] (.ref st0.length) (st0 ++ [.dic (kys c z a i) (xs.take i)]) = .ok () (st0 ++ [.dic (kys c z a (i + 1)) (xs.take (i + 1))]) := by
    have no := kys_no c z a i (by omega)
    have kl := kys_len c z a i
    simp only [dPutAt, withD, htop]
    rw [if_pos (by show (kys c z a i).length < 1000000; omega)]
    simp [dPut, no, kys_succ, List.take_append_getElem hi]
  simp only [rb, q_sSeq, q_sSet, q_mOp, q_mVar, q_mC, q_opI]
  simp [c5, cNz, cDv, hp, -q_ixDS, sg1, oSl, zl, a1, a2, withL_at hn1, hat]
  rw [show Txt.slice z none (some a) ++ (⟨#[sg c i]⟩ : Str) ++ Txt.slice z (some a) none = ky c z a i from rfl, put]
  simp
theorem rec_loop (c a : Int) (z : Str) (hz : z.length ≤ 8) (n : Nat) (xs : List PV) (st0 : Sto) (hn : st0[n]? = some (.lst xs)) (hx : xs.length ≤ 19) : ∀ (k i : Nat) (v5 v6 v7 : Option PV), i + k = xs.length → ∃ v5' v6' v7',
    forL (gN 5) rb ((List.range' i k).map fun j => PV.int (0 + (j : Nat))) [some (.int c), some (.ref n), some (.str z), some (.int a), some (.ref st0.length), v5, v6, v7] (st0 ++ [.dic (kys c z a i) (xs.take i)]) = .ok (.nx [some (.int c), some (.ref n), some (.str z), some (.int a), some (.ref st0.length), v5', v6', v7']) (st0 ++ [.dic (kys c z a xs.length) xs])
  | 0, i, v5, v6, v7, e => ⟨v5, v6, v7, by
      have : i = xs.length := by omega
      subst this
      simp⟩
  | k + 1, i, v5, v6, v7, e => by
    obtain ⟨w5, w6, w7, h⟩ := rec_loop c a z hz n xs st0 hn hx k (i + 1) (some (.int i)) (some (.int (pl c i))) (some (.str (ky c z a i))) (by omega)
    refine ⟨w5, w6, w7, ?_⟩
    have s := rec_step c a z hz n xs st0 hn hx i (by omega) v6 v7
    rw [List.range'_succ, List.map_cons]
    conv => lhs; unfold forL
    simp only [q_gN, Int.zero_add, List.set_cons_succ, List.set_cons_zero]
    rw [s]
    simp only [bind_ok]
    simpa using h
theorem nums_range (n : Nat) : nums 0 n = (List.range' 0 n).map fun j => PV.int (0 + (j : Nat)) := by
  unfold nums
  rw [List.range_eq_range']
theorem rec_ex (c : Int) (k : Nat) (hk : k ≤ 19) : ∃ ks : List Str, ks.Nodup ∧ ks.length = k ∧ ∀ (st : Sto) (n : Nat) (xs : List PV), st[n]? = some (.lst xs) → xs.length = k → m__law_record [.int c, .ref n] st = .ok (.ref st.length) (st ++ [.dic ks xs]) := by
  obtain ⟨w, h8, _, ew⟩ := word_ex c
  have hz := slice_len w h8 none (some 7)
  generalize hzz : Txt.slice w none (some 7) = z at hz
  refine ⟨kys c z (modP (divP c 5) ((z.length : Int) + 1)) k, kys_nodup _ _ _ k (by omega), kys_len _ _ _ k, fun st n xs hn hx => ?_⟩
  subst hx
  obtain ⟨w5, w6, w7, h⟩ := rec_loop c (modP (divP c 5) ((z.length : Int) + 1)) z hz n xs st hn hk xs.length 0 none none none (by omega)
  have zl : z.length ≤ 1000000 := by omega
  have wl : w.length ≤ 1000000 := by omega
  have nz : ((z.length : Int) + 1) ≠ 0 := by omega
  have hR : cR (xs.length : Int) = true := by simp [cR]; omega
  have hn1 : (st ++ [SO.dic [] []])[n]? = some (.lst xs) := (Pre.of st _).get hn
  have h0 : kys c z (modP (divP c 5) ((z.length : Int) + 1)) 0 = [] := by simp [kys]
  rw [h0, List.take_zero, ← nums_range] at h
  simp only [m__law_record, mirror, g__law_record, gt__law_record_1, gt__law_record_2, gt__law_record_3, gt__law_record_4]
  have e1 : (((xs.length : Nat) : Int)).toNat = xs.length := by omega
  simp only [List.length_cons, List.length_nil, if_true, q_sSeq, q_sSet, q_mSl, q_mCall, q_aCons, q_mVar, q_aNil, List.map_cons, List.map_nil]
  simp [ew, oSl, wl, hzz, oLen, zl, cDv, cNz, nz, mDNew, withL_at hn1]
  rw [if_pos (by omega), h]
  simp
end FK12

set_option Elab.async false
set_option linter.all false
set_option maxRecDepth 100000
set_option maxHeartbeats 4000000
namespace FK12
open PySem L2 PySem.W Mi
/-- rows of a value and its weight -/
def RWs (st : Sto) : List Tr → List PV → Prop
  | [], xs => xs = []
  | t :: ts, xs => ∃ v r, xs = .tup [v, .int (wt t)] :: r ∧ TR st t v ∧ RWs st ts r
theorem RWs.mono {a b : Sto} (d : Dk a b) : ∀ (ts : List Tr) {xs : List PV}, RWs a ts xs → RWs b ts xs
  | [], _, h => h
  | t :: ts, _, h => by obtain ⟨x, r, e, h1, h2⟩ := h; exact ⟨x, r, e, TR.mono d t h1, RWs.mono d ts h2⟩
theorem RWs.len {st : Sto} : ∀ {ts : List Tr} {xs : List PV}, RWs st ts xs → ts.length = xs.length
  | [], _, h => by cases h; rfl
  | t :: ts, _, h => by obtain ⟨x, r, rfl, _, h2⟩ := h; simp [RWs.len h2]
theorem RWs.append {st : Sto} : ∀ {ts us : List Tr} {xs ys : List PV}, RWs st ts xs → RWs st us ys → RWs st (ts ++ us) (xs ++ ys)
  | [], _, _, _, h, h' => by cases h; exact h'
  | t :: ts, _, _, _, h, h' => by obtain ⟨y, r, rfl, h1, h2⟩ := h; exact ⟨y, r ++ _, rfl, h1, RWs.append h2 h'⟩
theorem RWs.take {st : Sto} : ∀ {ts : List Tr} {xs : List PV} (n : Nat), RWs st ts xs → RWs st (ts.take n) (xs.take n)
  | [], _, n, h => by cases h; simp [RWs]
  | t :: ts, _, 0, h => by simp [RWs]
  | t :: ts, _, n + 1, h => by obtain ⟨y, r, rfl, h1, h2⟩ := h; exact ⟨y, _, rfl, h1, RWs.take n h2⟩
theorem RWs.drop {st : Sto} : ∀ {ts : List Tr} {xs : List PV} (n : Nat), RWs st ts xs → RWs st (ts.drop n) (xs.drop n)
  | [], _, n, h => by cases h; simp [RWs]
  | t :: ts, _, 0, h => h
  | t :: ts, _, n + 1, h => by obtain ⟨y, r, rfl, h1, h2⟩ := h; exact RWs.drop n h2
/-- the first and the second of a row -/
def fst1 : PV → PV
  | .tup (x :: _) => x
  | _ => .non
def snd1 : PV → PV
  | .tup (_ :: x :: _) => x
  | _ => .non
theorem RWs.fsts {st : Sto} : ∀ {ts : List Tr} {xs : List PV}, RWs st ts xs → TRs st ts (xs.map fst1) ∧ xs.map snd1 = (ts.map wt).map PV.int ∧ ∀ x ∈ xs, ∃ v w, x = .tup [v, w]
  | [], _, h => by cases h; exact ⟨rfl, rfl, fun x hx => nomatch hx⟩
  | t :: ts, _, h => by
    obtain ⟨v, r, rfl, h1, h2⟩ := h
    obtain ⟨a, b, c⟩ := RWs.fsts h2
    refine ⟨⟨v, _, rfl, h1, a⟩, by simp [snd1, b], fun x hx => ?_⟩
    rcases List.mem_cons.mp hx with rfl | hx
    · exact ⟨v, _, rfl⟩
    · exact c x hx
theorem wts_sum : ∀ ts : List Tr, (ts.map wt).sum = wts ts
  | [] => rfl
  | t :: ts => by simp [wts, wts_sum ts]
/-- [row[0] for row in list], [row[1] ..] -/
theorem comp_fst {st : Sto} {n : Nat} {ts : List Tr} {xs : List PV} (hn : st[n]? = some (.lst xs)) (h : RWs st ts xs) (hl : xs.length ≤ 1000) (env : PEnv) (i : Nat) (he : env[i]? = some (some (.ref n))) : mComp (iVal (mVar i)) (mOp oIxD (mVar 0) (mC (.int 0))) env st = .ok (.ref st.length) (st ++ [.lst (xs.map fst1)]) := by
  obtain ⟨_, _, c⟩ := h.fsts
  have q := compR_map (fe := mOp oIxD (mVar 0) (mC (.int 0))) (env := env) (f := fst1) hn (fun x hx => by obtain ⟨v, w, rfl⟩ := c x hx; simp [atI, ixN, fst1]) xs.length 0 (lim + 1) [] (by omega) (Nat.zero_le _) (by show xs.length < 1000000 + 1; omega)
  simp only [List.nil_append, List.drop_zero] at q
  simp [he, withL_at hn, compS]
  simpa using q
theorem comp_snd {st : Sto} {n : Nat} {ts : List Tr} {xs : List PV} (hn : st[n]? = some (.lst xs)) (h : RWs st ts xs) (hl : xs.length ≤ 1000) (env : PEnv) (i : Nat) (he : env[i]? = some (some (.ref n))) : mComp (iVal (mVar i)) (mOp oIxD (mVar 0) (mC (.int 1))) env st = .ok (.ref st.length) (st ++ [.lst ((ts.map wt).map PV.int)]) := by
  obtain ⟨_, b, c⟩ := h.fsts
  have q := compR_map (fe := mOp oIxD (mVar 0) (mC (.int 1))) (env := env) (f := snd1) hn (fun x hx => by obtain ⟨v, w, rfl⟩ := c x hx; simp [atI, ixN, snd1]) xs.length 0 (lim + 1) [] (by omega) (Nat.zero_le _) (by show xs.length < 1000000 + 1; omega)
  simp only [List.nil_append, List.drop_zero, b] at q
  simp [he, withL_at hn, compS]
  simpa using q
theorem sum_snd {st : Sto} {n : Nat} {ts : List Tr} {xs : List PV} (hn : st[n]? = some (.lst xs)) (h : RWs st ts xs) (hl : xs.length ≤ 1000) (env : PEnv) (i : Nat) (he : env[i]? = some (some (.ref n))) : mCall oSum (aCons (mComp (iVal (mVar i)) (mOp oIxD (mVar 0) (mC (.int 1)))) aNil) env st = .ok (.int (wts ts)) (st ++ [.lst ((ts.map wt).map PV.int)]) := by
  have c := comp_snd hn h hl env i he
  have im := ints_map (ts.map wt)
  have ss := wts_sum ts
  simp only [q_mCall, q_aCons, q_aNil, c, bind_ok, q_oSum, q_oneL]
  simp only [withL_top, bind_ok]
  rw [im]
  simp [ss]
end FK12

set_option Elab.async false
set_option linter.all false
set_option maxRecDepth 100000
set_option maxHeartbeats 4000000
namespace FK12
open PySem L2 PySem.W Mi
noncomputable def cel (ns : List Int) (k : Nat) (h : k < 1000) : Int := Classical.choose (cell_ex ns k h)
theorem cel_at (ns : List Int) (k : Nat) (h : k < 1000) (st : Sto) : ∃ st1, m__law_cell [.frl (ns.map PV.int), .int k] st = .ok (.int (cel ns k h)) st1 ∧ Pre st st1 := Classical.choose_spec (cell_ex ns k h) st
theorem cut_drop (xs : List PV) (k : Nat) (h : k ≤ xs.length) : cutP xs (some (k : Int)) none = xs.drop k := by
  unfold cutP
  rw [HT.sIx_nat, HT.sIx_none, Nat.min_eq_left h]
  exact List.take_of_length_le (by simp)
theorem cut_take (xs : List PV) (k : Nat) (h : k ≤ xs.length) : cutP xs none (some (k : Int)) = xs.take k := by
  unfold cutP
  rw [HT.sIx_nat, HT.sIx_none, Nat.min_eq_left h]
  simp
abbrev EB (ns : List Int) (sz : Int) (s : Bool) (r : Nat) (dp : Bool) (i : Nat) (x6 x7 x8 x9 x10 : Option PV) : PEnv := [some (.frl (ns.map PV.int)), some (.int sz), some (.bl s), some (.ref r), some (.bl dp), some (.int i), x6, x7, x8, x9, x10]
abbrev b1 : PEnv → Mo Fl := sSet 6 (mCall m__law_cell (aCons (mVar 0) (aCons (mOp oAdd (mC (.int 2)) (mVar 5)) aNil)))
abbrev b2 : PEnv → Mo Fl := sSet 7 (mCall oMin (aCons (mOp oMod (mOp oDiv (mVar 6) (mC (.int 4))) (mC (.int 5))) (aCons (mCall oLen (aCons (mVar 3) aNil)) aNil)))
abbrev b3 : PEnv → Mo Fl := (sIf (mB (mVar 4))
    (sSet 7 (mCall oMin (aCons (mC (.int 1)) (aCons (mCall oLen (aCons (mVar 3) aNil)) aNil))))
    sNext)
abbrev b4 : PEnv → Mo Fl := sSet 8 (mSl (mVar 3) (pSome (mOp oSub (mCall oLen (aCons (mVar 3) aNil)) (mVar 7))) pNone)
abbrev b5 : PEnv → Mo Fl := sSet 9 (mOp oAdd (mC (.int 1)) (mCall oSum (aCons (mComp (iVal (mVar 8)) (mOp oIxD (mVar 0) (mC (.int 1)))) aNil)))
abbrev b6 : PEnv → Mo Fl := (sExpr (mMut oAppend (mVar 3) (mCall m__law_leaf (aCons (mOp oDiv (mVar 6) (mC (.int 4))) (aCons (mVar 2) aNil)))))
abbrev b7 : PEnv → Mo Fl := (sSet 3 (mSl (mVar 3) pNone (pSome (mOp oSub (mCall oLen (aCons (mVar 3) aNil)) (mVar 7)))))
abbrev b8 : PEnv → Mo Fl := (sSet 10 (mComp (iVal (mVar 8)) (mOp oIxD (mVar 0) (mC (.int 0)))))
abbrev b9 : PEnv → Mo Fl := (sIf (mB (mOp oEq (mOp oMod (mVar 6) (mC (.int 4))) (mC (.int 2))))
    (sExpr (mMut oAppend (mVar 3) (mTup (aCons (mCall oTuple (aCons (mVar 10) aNil)) (aCons (mOp oAdd (mVar 9) (mCall oLen (aCons (mVar 10) aNil))) aNil)))))
    (sExpr (mMut oAppend (mVar 3) (mTup (aCons (mCall m__law_record (aCons (mOp oDiv (mVar 6) (mC (.int 4))) (aCons (mVar 10) aNil))) (aCons (mVar 9) aNil))))))
abbrev bb : PEnv → Mo Fl := (sSeq b1 (sSeq b2 (sSeq b3 (sSeq b4 (sSeq b5
    (sIf (mB (mOp oLt (mOp oMod (mVar 6) (mC (.int 4))) (mC (.int 2)))) b6 (sSeq b7 (sSeq b8 b9))))))))
section
variable {ns : List Int} {sz : Int} {s dp : Bool} {i r : Nat} {c : Int} {x6 x7 x8 x9 x10 : Option PV} {st : Sto} {xs : List PV} {ts : List Tr}
/-- how many are taken -/
def many (dp : Bool) (c : Int) (n : Nat) : Nat := if dp then min 1 n else min (c / 4 % 5).toNat n
theorem many_le (dp : Bool) (c : Int) (n : Nat) : many dp c n ≤ n ∧ many dp c n ≤ 4 := by
  unfold many
  have := Int.emod_lt_of_pos (c / 4) (show (0 : Int) < 5 by decide)
  split
  · omega
  · omega
theorem s23 (hr : st[r]? = some (.lst xs)) : ∃ y7, b2 (EB ns sz s r dp i (some (.int c)) x7 x8 x9 x10) st = .ok (.nx (EB ns sz s r dp i (some (.int c)) y7 x8 x9 x10)) st ∧ b3 (EB ns sz s r dp i (some (.int c)) y7 x8 x9 x10) st = .ok (.nx (EB ns sz s r dp i (some (.int c)) (some (.int (many dp c xs.length : Nat))) x8 x9 x10)) st := by
  have e4 : divP c 4 = c / 4 := divP_pos _ _ (by decide)
  have e5 : modP (c / 4) 5 = c / 4 % 5 := modP_pos _ _ (by decide)
  have h0 := Int.emod_nonneg (c / 4) (show (5 : Int) ≠ 0 by decide)
  refine ⟨some (.int (if (xs.length : Int) < c / 4 % 5 then xs.length else c / 4 % 5)), ?_, ?_⟩
  · simp [cDv, cNz, e4, e5, withL_at hr]
  · cases dp with
    | true =>
      simp [withL_at hr, many]
      split <;> omega
    | false =>
      simp [many]
      split <;> omega
theorem s4 (hr : st[r]? = some (.lst xs)) (m : Nat) (hm : m ≤ xs.length) : b4 (EB ns sz s r dp i x6 (some (.int (m : Nat))) x8 x9 x10) st = .ok (.nx (EB ns sz s r dp i x6 (some (.int (m : Nat))) (some (.ref st.length)) x9 x10)) (st ++ [.lst (xs.drop (xs.length - m))]) := by
  have e : ((xs.length : Int) - (m : Int)) = ((xs.length - m : Nat) : Int) := by omega
  have cd := cut_drop xs (xs.length - m) (by omega)
  simp [withL_at hr]
  rw [e, cd]
theorem s5 {n : Nat} {hs : List PV} {us : List Tr} (hn : st[n]? = some (.lst hs)) (h : RWs st us hs) (hl : hs.length ≤ 1000) : b5 (EB ns sz s r dp i x6 x7 (some (.ref n)) x9 x10) st = .ok (.nx (EB ns sz s r dp i x6 x7 (some (.ref n)) (some (.int (1 + wts us))) x10)) (st ++ [.lst ((us.map wt).map PV.int)]) := by
  have q := sum_snd hn h hl (EB ns sz s r dp i x6 x7 (some (.ref n)) x9 x10) 8 rfl
  simp only [b5, q_sSet, q_mOp, q_mC, bind_ok]
  rw [q]
  simp
theorem s7 (hr : st[r]? = some (.lst xs)) (m : Nat) (hm : m ≤ xs.length) : b7 (EB ns sz s r dp i x6 (some (.int (m : Nat))) x8 x9 x10) st = .ok (.nx (EB ns sz s st.length dp i x6 (some (.int (m : Nat))) x8 x9 x10)) (st ++ [.lst (xs.take (xs.length - m))]) := by
  have e : ((xs.length : Int) - (m : Int)) = ((xs.length - m : Nat) : Int) := by omega
  have cd := cut_take xs (xs.length - m) (by omega)
  simp [withL_at hr]
  rw [e, cd]
theorem s8 {n : Nat} {hs : List PV} {us : List Tr} (hn : st[n]? = some (.lst hs)) (h : RWs st us hs) (hl : hs.length ≤ 1000) : b8 (EB ns sz s r dp i x6 x7 (some (.ref n)) x9 x10) st = .ok (.nx (EB ns sz s r dp i x6 x7 (some (.ref n)) x9 (some (.ref st.length)))) (st ++ [.lst (hs.map fst1)]) := by
  have q := comp_fst hn h hl (EB ns sz s r dp i x6 x7 (some (.ref n)) x9 x10) 8 rfl
  simp only [b8, q_sSet]
  rw [q]
  simp
end
end FK12

set_option Elab.async false
set_option linter.all false
set_option maxRecDepth 100000
set_option maxHeartbeats 4000000
namespace FK12
open PySem L2 PySem.W Mi
theorem RWs.one {st : Sto} {t : Tr} {v : PV} (h : TR st t v) : RWs st [t] [.tup [v, .int (wt t)]] := ⟨v, [], rfl, h, rfl⟩
section
variable {ns : List Int} {sz0 : Int} {s dp : Bool} {i r : Nat} {c : Int} {x6 x7 x8 x9 x10 : Option PV} {st : Sto} {xs : List PV} {ts : List Tr}
theorem s6 {t : Tr} (ht : ∀ st, ∃ v st1, m__law_leaf [.int (divP c 4), .bl s] st = .ok (.tup [v, .int (wt t)]) st1 ∧ Pre st st1 ∧ TR st1 t v) (hr : st[r]? = some (.lst xs)) (h : RWs st ts xs) (hl : xs.length ≤ 1000) :
    ∃ xs' st', b6 (EB ns sz0 s r dp i (some (.int c)) x7 x8 x9 x10) st = .ok (.nx (EB ns sz0 s r dp i (some (.int c)) x7 x8 x9 x10)) st' ∧ st'[r]? = some (.lst xs') ∧ RWs st' (ts ++ [t]) xs' ∧ Dk st st' := by
  obtain ⟨v, st1, e1, p1, h1⟩ := ht st
  have hr1 := p1.get hr
  have rl : r < st1.length := (List.getElem?_eq_some_iff.mp hr1).1
  have d2 : Dk st1 (st1.set r (.lst (xs ++ [.tup [v, .int (wt t)]]))) := dk_set hr1
  have d : Dk st (st1.set r (.lst (xs ++ [.tup [v, .int (wt t)]]))) := (dk_pre p1).trans d2
  have hlim : xs.length < 1000000 := by omega
  refine ⟨xs ++ [.tup [v, .int (wt t)]], st1.set r (.lst (xs ++ [.tup [v, .int (wt t)]])), ?_, ?_, (h.mono d).append (RWs.one (h1.mono d2)), d⟩
  · simp [withL_at hr, cDv, e1, withL_at hr1, hlim]
  · rw [List.getElem?_set_self rl]
theorem s9row {n : Nat} {ys : List PV} {us : List Tr} (h2 : c % 4 = 2) (hn : st[n]? = some (.lst ys)) (hy : TRs st us ys) (hl2 : ys.length ≤ 1000) (hr : st[r]? = some (.lst xs)) (h : RWs st ts xs) (hl : xs.length ≤ 1000) :
    ∃ xs' st', b9 (EB ns sz0 s r dp i (some (.int c)) x7 x8 (some (.int (1 + wts us))) (some (.ref n))) st = .ok (.nx (EB ns sz0 s r dp i (some (.int c)) x7 x8 (some (.int (1 + wts us))) (some (.ref n)))) st' ∧ st'[r]? = some (.lst xs') ∧ RWs st' (ts ++ [.row us]) xs' ∧ Dk st st' := by
  have rl : r < st.length := (List.getElem?_eq_some_iff.mp hr).1
  have ew : (1 + wts us + (ys.length : Int)) = wt (.row us) := by simp only [wt, hy.len]; omega
  have d : Dk st (st.set r (.lst (xs ++ [.tup [.tup ys, .int (wt (.row us))]]))) := dk_set hr
  have hlim : xs.length < 1000000 := by omega
  have e4 : modP c 4 = 2 := by rw [modP_pos _ _ (by decide)]; exact h2
  refine ⟨xs ++ [.tup [.tup ys, .int (wt (.row us))]], st.set r (.lst (xs ++ [.tup [.tup ys, .int (wt (.row us))]])), ?_, ?_, (h.mono d).append (RWs.one (t := .row us) ⟨ys, rfl, hy.mono d⟩), d⟩
  · simp [withL_at hr, cNz, e4, withL_at hn, hlim, ew]
  · rw [List.getElem?_set_self rl]
theorem s9rec {n : Nat} {ys : List PV} {us : List Tr} {ks : List Str} (h2 : c % 4 ≠ 2) (nd : ks.Nodup) (kl : ks.length = us.length) (hrec : ∀ (st : Sto) (n : Nat) (xs : List PV), st[n]? = some (.lst xs) → xs.length = us.length → m__law_record [.int (divP c 4), .ref n] st = .ok (.ref st.length) (st ++ [.dic ks xs]))
    (hn : st[n]? = some (.lst ys)) (hy : TRs st us ys) (hr : st[r]? = some (.lst xs)) (h : RWs st ts xs) (hl : xs.length ≤ 1000) :
    ∃ xs' st', b9 (EB ns sz0 s r dp i (some (.int c)) x7 x8 (some (.int (1 + wts us))) (some (.ref n))) st = .ok (.nx (EB ns sz0 s r dp i (some (.int c)) x7 x8 (some (.int (1 + wts us))) (some (.ref n)))) st' ∧ st'[r]? = some (.lst xs') ∧ RWs st' (ts ++ [.rec_ ks us]) xs' ∧ Dk st st' := by
  have e1 := hrec st n ys hn hy.len.symm
  have p1 : Pre st (st ++ [SO.dic ks ys]) := Pre.of _ _
  have hr1 := p1.get hr
  have rl : r < (st ++ [SO.dic ks ys]).length := (List.getElem?_eq_some_iff.mp hr1).1
  have ew : wt (.rec_ ks us) = 1 + wts us := by simp [wt]
  have d2 : Dk (st ++ [SO.dic ks ys]) ((st ++ [SO.dic ks ys]).set r (.lst (xs ++ [.tup [.ref st.length, .int (wt (.rec_ ks us))]]))) := dk_set hr1
  have d : Dk st ((st ++ [SO.dic ks ys]).set r (.lst (xs ++ [.tup [.ref st.length, .int (wt (.rec_ ks us))]]))) := (dk_pre p1).trans d2
  have hlim : xs.length < 1000000 := by omega
  have e4 : ¬ modP c 4 = 2 := by rw [modP_pos _ _ (by decide)]; exact h2
  refine ⟨xs ++ [.tup [.ref st.length, .int (wt (.rec_ ks us))]], (st ++ [SO.dic ks ys]).set r (.lst (xs ++ [.tup [.ref st.length, .int (wt (.rec_ ks us))]])), ?_, ?_, (h.mono d).append (RWs.one (t := .rec_ ks us) ⟨st.length, ys, rfl, d2 _ _ _ (top_get _ _), nd, by rw [kl, hy.len], hy.mono d⟩), d⟩
  · simp [withL_at hr, cNz, cDv, e4, e1, withL_at hr1, hlim, ew]
  · rw [List.getElem?_set_self rl]
end
theorem szs_cut (ts : List Tr) (k : Nat) : szs (ts.take k) + szs (ts.drop k) = szs ts := by rw [← szs_app, List.take_append_drop]
theorem sms_cut (ts : List Tr) (k : Nat) (h : sms ts) : sms (ts.take k) ∧ sms (ts.drop k) := by
  rw [← sms_app, List.take_append_drop]; exact h
/-- one turn of the loop that builds -/
theorem step (ns : List Int) (sz0 : Int) (s dp : Bool) (i : Nat) (hi : i < 100) (ts : List Tr) (hl : szs ts ≤ i) : ∃ ts', szs ts' ≤ i + 1 ∧ (s = true → sms ts → sms ts') ∧ ∀ (r : Nat) (xs : List PV) (st : Sto) (x6 x7 x8 x9 x10 : Option PV), st[r]? = some (.lst xs) → RWs st ts xs →
    ∃ r' xs' st' y6 y7 y8 y9 y10, bb (EB ns sz0 s r dp i x6 x7 x8 x9 x10) st = .ok (.nx (EB ns sz0 s r' dp i y6 y7 y8 y9 y10)) st' ∧ st'[r']? = some (.lst xs') ∧ RWs st' ts' xs' ∧ Dk st st' := by
  have h9 : 2 + i < 1000 := by omega
  have tl := szs_len ts
  -- up to the branch
  have pre : ∀ (r : Nat) (xs : List PV) (st : Sto) (x6 x7 x8 x9 x10 : Option PV), st[r]? = some (.lst xs) → RWs st ts xs → ∃ st1 n, bb (EB ns sz0 s r dp i x6 x7 x8 x9 x10) st =
      (sIf (mB (mOp oLt (mOp oMod (mVar 6) (mC (.int 4))) (mC (.int 2)))) b6 (sSeq b7 (sSeq b8 b9))) (EB ns sz0 s r dp i (some (.int (cel ns (2 + i) h9))) (some (.int (many dp (cel ns (2 + i) h9) ts.length : Nat))) (some (.ref n)) (some (.int (1 + wts (ts.drop (ts.length - many dp (cel ns (2 + i) h9) ts.length))))) x10) st1 ∧
      st1[r]? = some (.lst xs) ∧ RWs st1 ts xs ∧ Dk st st1 ∧ st1[n]? = some (.lst (xs.drop (xs.length - many dp (cel ns (2 + i) h9) ts.length))) := by
    intro r xs st x6 x7 x8 x9 x10 hr h
    have len := h.len
    rw [len]
    obtain ⟨st1, e1, p1⟩ := cel_at ns (2 + i) h9 st
    generalize cel ns (2 + i) h9 = c at e1 ⊢
    have s1 : b1 (EB ns sz0 s r dp i x6 x7 x8 x9 x10) st = .ok (.nx (EB ns sz0 s r dp i (some (.int c)) x7 x8 x9 x10)) st1 := by
      have ec : ((2 : Int) + (i : Int)) = ((2 + i : Nat) : Int) := by omega
      simp only [b1, q_sSet, q_mCall, q_aCons, q_mVar, q_mOp, q_mC, q_aNil]
      simp only [EB, List.getElem?_cons_zero, List.getElem?_cons_succ, bind_ok, q_addI]
      rw [ec, e1]
      rfl
    have hr1 := p1.get hr
    have hw1 := h.mono (dk_pre p1)
    obtain ⟨y7, s2, s3⟩ := s23 (ns := ns) (sz := sz0) (s := s) (dp := dp) (i := i) (c := c) (x7 := x7) (x8 := x8) (x9 := x9) (x10 := x10) hr1
    have ml := many_le dp c xs.length
    generalize many dp c xs.length = m at s3 ml ⊢
    have s4' := s4 (ns := ns) (sz := sz0) (s := s) (dp := dp) (i := i) (x6 := some (.int c)) (x8 := x8) (x9 := x9) (x10 := x10) hr1 m ml.1
    have top := top_get st1 (SO.lst (xs.drop (xs.length - m)))
    have hw2 := hw1.mono (dk_app st1 [SO.lst (xs.drop (xs.length - m))])
    have hd := hw2.drop (xs.length - m)
    have s5' := s5 (ns := ns) (sz := sz0) (s := s) (r := r) (dp := dp) (i := i) (x6 := some (.int c)) (x7 := some (.int (m : Nat))) (x9 := x9) (x10 := x10) top hd (by simp; omega)
    have d3 := dk_app (st1 ++ [SO.lst (xs.drop (xs.length - m))]) [SO.lst (((ts.drop (xs.length - m)).map wt).map PV.int)]
    refine ⟨_, st1.length, ?_, (Pre.of _ _).get ((Pre.of _ _).get hr1), hw2.mono d3, ((dk_pre p1).trans (dk_app _ _)).trans d3, (Pre.of _ _).get top⟩
    simp only [bb, q_sSeq]
    rw [s1]
    simp only [bind_ok, q_flowN, q_sSeq]
    rw [s2]
    simp only [bind_ok, q_flowN, q_sSeq]
    rw [s3]
    simp only [bind_ok, q_flowN, q_sSeq]
    rw [s4']
    simp only [bind_ok, q_flowN, q_sSeq]
    rw [s5']
    simp only [bind_ok, q_flowN, q_sSeq]
  generalize cel ns (2 + i) h9 = c at pre
  have ml := many_le dp c ts.length
  have tl1000 : ts.length ≤ 100 := by omega
  have e4 : modP c 4 = c % 4 := modP_pos _ _ (by decide)
  by_cases hb : c % 4 < 2
  · obtain ⟨t, st1, hsm, ht⟩ := leaf_ex (divP c 4) s
    refine ⟨ts ++ [t], by rw [szs_app]; simp only [szs]; omega, fun hs h => (sms_app _ _).mpr ⟨h, hsm hs, trivial⟩, fun r xs st x6 x7 x8 x9 x10 hr h => ?_⟩
    obtain ⟨st1, n, e1, hr1, h1, d1, _⟩ := pre r xs st x6 x7 x8 x9 x10 hr h
    have len := h.len
    obtain ⟨xs', st', e2, e3, e5, d2⟩ := s6 (ns := ns) (sz0 := sz0) (s := s) (dp := dp) (i := i) (c := c) (x7 := some (.int (many dp c ts.length : Nat))) (x8 := some (.ref n)) (x9 := some (.int (1 + wts (ts.drop (ts.length - many dp c ts.length))))) (x10 := x10) ht hr1 h1 (by omega)
    exact ⟨r, xs', st', _, _, _, _, _, e1.trans (Eq.trans (by simp [cNz, e4, hb]) e2), e3, e5, d1.trans d2⟩
  · have go : ∀ (r : Nat) (xs : List PV) (st : Sto) (x6 x7 x8 x9 x10 : Option PV), st[r]? = some (.lst xs) → RWs st ts xs → ∃ st3 n r1 n1 ys zs, bb (EB ns sz0 s r dp i x6 x7 x8 x9 x10) st = b9 (EB ns sz0 s r1 dp i (some (.int c)) (some (.int (many dp c ts.length : Nat))) (some (.ref n)) (some (.int (1 + wts (ts.drop (ts.length - many dp c ts.length))))) (some (.ref n1))) st3 ∧
        st3[n1]? = some (.lst ys) ∧ TRs st3 (ts.drop (ts.length - many dp c ts.length)) ys ∧ st3[r1]? = some (.lst zs) ∧ RWs st3 (ts.take (ts.length - many dp c ts.length)) zs ∧ Dk st st3 := by
      intro r xs st x6 x7 x8 x9 x10 hr h
      obtain ⟨st1, n, e1, hr1, h1, d1, hn⟩ := pre r xs st x6 x7 x8 x9 x10 hr h
      have len := h.len
      rw [len] at e1 hn ⊢
      have ml' := many_le dp c xs.length
      generalize many dp c xs.length = m at e1 hn ml' ⊢
      have q7 := s7 (ns := ns) (sz := sz0) (s := s) (dp := dp) (i := i) (x6 := some (.int c)) (x8 := some (.ref n)) (x9 := some (.int (1 + wts (ts.drop (xs.length - m))))) (x10 := x10) hr1 m ml'.1
      have top1 := top_get st1 (SO.lst (xs.take (xs.length - m)))
      have da := dk_app st1 [SO.lst (xs.take (xs.length - m))]
      have hn2 : (st1 ++ [SO.lst (xs.take (xs.length - m))])[n]? = some (.lst (xs.drop (xs.length - m))) := (Pre.of _ _).get hn
      have hd := (h1.mono da).drop (xs.length - m)
      have q8 := s8 (ns := ns) (sz := sz0) (s := s) (r := st1.length) (dp := dp) (i := i) (x6 := some (.int c)) (x7 := some (.int (m : Nat))) (x9 := some (.int (1 + wts (ts.drop (xs.length - m))))) (x10 := x10) hn2 hd (by simp; omega)
      have db := dk_app (st1 ++ [SO.lst (xs.take (xs.length - m))]) [SO.lst ((xs.drop (xs.length - m)).map fst1)]
      refine ⟨_, n, st1.length, _, _, _, e1.trans ?_, top_get _ _, (hd.fsts.1).mono db, (Pre.of _ _).get top1, ((h1.mono da).take (xs.length - m)).mono db, (d1.trans da).trans db⟩
      have br : (sIf (mB (mOp oLt (mOp oMod (mVar 6) (mC (.int 4))) (mC (.int 2)))) b6 (sSeq b7 (sSeq b8 b9))) (EB ns sz0 s r dp i (some (.int c)) (some (.int (m : Nat))) (some (.ref n)) (some (.int (1 + wts (ts.drop (xs.length - m))))) x10) st1 = (sSeq b7 (sSeq b8 b9)) (EB ns sz0 s r dp i (some (.int c)) (some (.int (m : Nat))) (some (.ref n)) (some (.int (1 + wts (ts.drop (xs.length - m))))) x10) st1 := by
        simp only [q_sIf, q_mB, q_mOp, q_mVar, q_mC, q_opI, EB, List.getElem?_cons_zero, List.getElem?_cons_succ, bind_ok]
        simp only [cNz, e4, q_opB, q_asB, bind_ok]
        simp [hb]
      rw [br]
      simp only [q_sSeq]
      rw [q7]
      simp only [bind_ok, q_flowN, q_sSeq]
      rw [q8]
      simp only [bind_ok, q_flowN]
    have cut := szs_cut ts (ts.length - many dp c ts.length)
    have smc := sms_cut ts (ts.length - many dp c ts.length)
    have tkl : (ts.take (ts.length - many dp c ts.length)).length ≤ 100 := by simp; omega
    have drl : (ts.drop (ts.length - many dp c ts.length)).length ≤ 4 := by simp; omega
    generalize ts.take (ts.length - many dp c ts.length) = ta at go cut tkl smc
    generalize ts.drop (ts.length - many dp c ts.length) = tb at go cut drl smc
    by_cases h2 : c % 4 = 2
    · refine ⟨ta ++ [.row tb], by rw [szs_app]; simp only [szs, sz]; omega, fun _ h => (sms_app ta [.row tb]).mpr ⟨(smc h).1, show sms tb ∧ True from ⟨(smc h).2, trivial⟩⟩, fun r xs st x6 x7 x8 x9 x10 hr h => ?_⟩
      obtain ⟨st3, n, r1, n1, ys, zs, e, k1, k2, k3, k4, d⟩ := go r xs st x6 x7 x8 x9 x10 hr h
      have l2 := k2.len
      have l4 := k4.len
      obtain ⟨xs', st', e2, e3, e5, d2⟩ := s9row (ns := ns) (sz0 := sz0) (s := s) (dp := dp) (i := i) (x7 := some (.int (many dp c ts.length : Nat))) (x8 := some (.ref n)) h2 k1 k2 (by omega) k3 k4 (by omega)
      exact ⟨r1, xs', st', _, _, _, _, _, e.trans e2, e3, e5, d.trans d2⟩
    · obtain ⟨ks, nd, kl, hrec⟩ := rec_ex (divP c 4) tb.length (by omega)
      refine ⟨ta ++ [.rec_ ks tb], by rw [szs_app]; simp only [szs, sz]; omega, fun _ h => (sms_app ta [.rec_ ks tb]).mpr ⟨(smc h).1, show sms tb ∧ True from ⟨(smc h).2, trivial⟩⟩, fun r xs st x6 x7 x8 x9 x10 hr h => ?_⟩
      obtain ⟨st3, n, r1, n1, ys, zs, e, k1, k2, k3, k4, d⟩ := go r xs st x6 x7 x8 x9 x10 hr h
      have l4 := k4.len
      obtain ⟨xs', st', e2, e3, e5, d2⟩ := s9rec (ns := ns) (sz0 := sz0) (s := s) (dp := dp) (i := i) (x7 := some (.int (many dp c ts.length : Nat))) (x8 := some (.ref n)) h2 nd kl hrec k1 k2 k3 k4 (by omega)
      exact ⟨r1, xs', st', _, _, _, _, _, e.trans e2, e3, e5, d.trans d2⟩
end FK12

set_option Elab.async false
set_option linter.all false
set_option maxRecDepth 100000
set_option maxHeartbeats 4000000
namespace FK12
open PySem L2 PySem.W Mi
abbrev EX (ns : List Int) (sz : Int) (s : Bool) (r : Nat) (dp : Bool) (x5 x6 x7 x8 x9 x10 : Option PV) : PEnv := [some (.frl (ns.map PV.int)), some (.int sz), some (.bl s), some (.ref r), some (.bl dp), x5, x6, x7, x8, x9, x10]
theorem built_loop (ns : List Int) (sz0 : Int) (s dp : Bool) (n : Nat) (hn : n ≤ 100) : ∀ (k i : Nat) (ts : List Tr), i + k = n → szs ts ≤ i → ∃ ts', szs ts' ≤ n ∧ (s = true → sms ts → sms ts') ∧ ∀ (r : Nat) (xs : List PV) (st : Sto) (x5 x6 x7 x8 x9 x10 : Option PV), st[r]? = some (.lst xs) → RWs st ts xs →
    ∃ r' xs' st' y5 y6 y7 y8 y9 y10, forL (gN 5) bb ((List.range' i k).map fun j => PV.int (0 + (j : Nat))) (EX ns sz0 s r dp x5 x6 x7 x8 x9 x10) st = .ok (.nx (EX ns sz0 s r' dp y5 y6 y7 y8 y9 y10)) st' ∧ st'[r']? = some (.lst xs') ∧ RWs st' ts' xs' ∧ Dk st st'
  | 0, i, ts, e, h => ⟨ts, by omega, fun _ h => h, fun r xs st x5 x6 x7 x8 x9 x10 hr hw => ⟨r, xs, st, x5, x6, x7, x8, x9, x10, by simp, hr, hw, Dk.refl _⟩⟩
  | k + 1, i, ts, e, h => by
    obtain ⟨t1, a1, b1, c1⟩ := step ns sz0 s dp i (by omega) ts h
    obtain ⟨t2, a2, b2, c2⟩ := built_loop ns sz0 s dp n hn k (i + 1) t1 (by omega) a1
    refine ⟨t2, a2, fun hs h => b2 hs (b1 hs h), fun r xs st x5 x6 x7 x8 x9 x10 hr hw => ?_⟩
    obtain ⟨r1, xs1, st1, y6, y7, y8, y9, y10, e1, f1, g1, d1⟩ := c1 r xs st x6 x7 x8 x9 x10 hr hw
    obtain ⟨r2, xs2, st2, z5, z6, z7, z8, z9, z10, e2, f2, g2, d2⟩ := c2 r1 xs1 st1 (some (.int i)) y6 y7 y8 y9 y10 f1 g1
    refine ⟨r2, xs2, st2, z5, z6, z7, z8, z9, z10, ?_, f2, g2, d1.trans d2⟩
    rw [List.range'_succ, List.map_cons]
    conv => lhs; unfold forL
    simp only [EX, q_gN, Int.zero_add, List.set_cons_succ, List.set_cons_zero]
    have e1' : bb [some (.frl (ns.map PV.int)), some (.int sz0), some (.bl s), some (.ref r), some (.bl dp), some (.int i), x6, x7, x8, x9, x10] st = _ := e1
    rw [e1']
    simp only [bind_ok]
    simp only [Int.zero_add] at e2
    exact e2
theorem built_ex (ns : List Int) (n : Nat) (hn : n ≤ 100) (s : Bool) : ∃ ts, szs ts ≤ n ∧ (s = true → sms ts) ∧ ∀ st, ∃ r xs st', m__law_built [.frl (ns.map PV.int), .int n, .bl s] st = .ok (.ref r) st' ∧ st'[r]? = some (.lst xs) ∧ RWs st' ts xs ∧ Dk st st' := by
  obtain ⟨ts, h1, h2, h3⟩ := built_loop ns n s (decide (cel ns 1 (by decide) % 3 = 1)) n hn n 0 [] (by omega) (by simp [szs])
  refine ⟨ts, h1, fun hs => h2 hs trivial, fun st => ?_⟩
  obtain ⟨st1, e1, p1⟩ := cel_at ns 1 (by decide) (st ++ [.lst []])
  have hr : st1[st.length]? = some (.lst []) := p1.get (top_get _ _)
  obtain ⟨r, xs, st', y5, y6, y7, y8, y9, y10, e2, f2, g2, d2⟩ := h3 st.length [] st1 none none none none none none hr rfl
  refine ⟨r, xs, st', ?_, f2, g2, ((dk_app _ _).trans (dk_pre p1)).trans d2⟩
  have e3 : modP (cel ns 1 (by decide)) 3 = cel ns 1 (by decide) % 3 := modP_pos _ _ (by decide)
  have hR : cR (n : Int) = true := by simp [cR]; omega
  have e1' : m__law_cell [.frl (ns.map PV.int), .int 1] (st ++ [.lst []]) = .ok (.int (cel ns 1 (by decide))) st1 := e1
  rw [← nums_range n] at e2
  have sA : sSet 3 (mLst aNil) [some (.frl (ns.map PV.int)), some (.int n), some (.bl s), none, none, none, none, none, none, none, none] st = .ok (.nx [some (.frl (ns.map PV.int)), some (.int n), some (.bl s), some (.ref st.length), none, none, none, none, none, none, none]) (st ++ [.lst []]) := by simp
  have sB : sSet 4 (mOp oEq (mOp oMod (mCall m__law_cell (aCons (mVar 0) (aCons (mC (.int 1)) aNil))) (mC (.int 3))) (mC (.int 1))) [some (.frl (ns.map PV.int)), some (.int n), some (.bl s), some (.ref st.length), none, none, none, none, none, none, none] (st ++ [.lst []]) = .ok (.nx (EX ns n s st.length (decide (cel ns 1 (by decide) % 3 = 1)) none none none none none none)) st1 := by
    simp [e1', cNz, e3]
    rfl
  have sC : sFor (iRng1 (aCons (mVar 1) aNil)) (gN 5) bb (EX ns n s st.length (decide (cel ns 1 (by decide) % 3 = 1)) none none none none none none) st1 = .ok (.nx (EX ns n s r (decide (cel ns 1 (by decide) % 3 = 1)) y5 y6 y7 y8 y9 y10)) st' := by
    simp only [q_sFor, q_iRng1, q_aCons, q_mVar, q_aNil, EX, List.getElem?_cons_succ, List.getElem?_cons_zero, bind_ok, q_rng1, if_pos hR, q_forS]
    rw [show ((n : Int).toNat) = n by omega]
    exact e2
  show (g__law_built [some (.frl (ns.map PV.int)), some (.int n), some (.bl s), none, none, none, none, none, none, none, none] st).bind endOf = _
  simp only [g__law_built, q_sSeq]
  rw [sA]
  simp only [bind_ok, q_flowN, gt__law_built_1, q_sSeq]
  rw [sB]
  simp only [bind_ok, q_flowN, gt__law_built_2, q_sSeq]
  rw [sC]
  simp [gt__law_built_3]
end FK12

set_option Elab.async false
set_option linter.all false
set_option maxRecDepth 100000
set_option maxHeartbeats 4000000
namespace FK12
open PySem L2 PySem.W Mi
abbrev F (ns : List Int) : PV := .frl (ns.map PV.int)
def size (f : Int) : Int := if f % 3 = 1 then 40 + f / 3 % 18 else if f % 3 = 2 then f / 3 % 9 else f / 3 % 12
theorem size_nat (f : Int) : ∃ n : Nat, size f = n ∧ n ≤ 57 := by
  have a := Int.emod_nonneg (f / 3) (show (18 : Int) ≠ 0 by decide)
  have b := Int.emod_lt_of_pos (f / 3) (show (0 : Int) < 18 by decide)
  have a2 := Int.emod_nonneg (f / 3) (show (9 : Int) ≠ 0 by decide)
  have b2 := Int.emod_lt_of_pos (f / 3) (show (0 : Int) < 9 by decide)
  have a3 := Int.emod_nonneg (f / 3) (show (12 : Int) ≠ 0 by decide)
  have b3 := Int.emod_lt_of_pos (f / 3) (show (0 : Int) < 12 by decide)
  refine ⟨(size f).toNat, ?_, ?_⟩ <;> (unfold size; split; omega; split <;> omega)
theorem made_size (ns : List Int) (f : Int) (st : Sto) : gt__law_made_1 [some (F ns), some (.int f), none, none] st = gt__law_made_4 [some (F ns), some (.int f), some (.int (size f)), none] st := by
  have e3 : modP f 3 = f % 3 := modP_pos _ _ (by decide)
  have d3 : divP f 3 = f / 3 := divP_pos _ _ (by decide)
  have a : modP (f / 3) 12 = f / 3 % 12 := modP_pos _ _ (by decide)
  have b : modP (f / 3) 18 = f / 3 % 18 := modP_pos _ _ (by decide)
  have c : modP (f / 3) 9 = f / 3 % 9 := modP_pos _ _ (by decide)
  have m3 : f % 3 = 0 ∨ f % 3 = 1 ∨ f % 3 = 2 := by omega
  simp only [gt__law_made_1, gt__law_made_2, gt__law_made_3]
  rcases m3 with h | h | h <;> simp [cNz, cDv, e3, d3, a, b, c, h, size]
theorem made_ex (ns : List Int) : ∃ t, sz t ≤ 60 ∧ (cel ns 0 (by decide) % 3 = 2 → sm t) ∧ ∀ st, ∃ v st', m__law_made [F ns] st = .ok (.tup [v, .int (wt t)]) st' ∧ TR st' t v ∧ Dk st st' := by
  obtain ⟨n, en, hn⟩ := size_nat (cel ns 0 (by decide))
  obtain ⟨ts, h1, h2, h3⟩ := built_ex ns n (by omega) (decide (cel ns 0 (by decide) % 3 = 2))
  have tl := szs_len ts
  have hd : ∀ st, ∃ r xs st2, m__law_made [F ns] st = (gt__law_made_5 [some (F ns), some (.int (cel ns 0 (by decide))), some (.int n), some (.ref r)] st2).bind endOf ∧ st2[r]? = some (.lst xs) ∧ RWs st2 ts xs ∧ Dk st st2 := by
    intro st
    obtain ⟨st1, e1, p1⟩ := cel_at ns 0 (by decide) st
    obtain ⟨r, xs, st2, e2, f2, g2, d2⟩ := h3 st1
    refine ⟨r, xs, st2, ?_, f2, g2, (dk_pre p1).trans d2⟩
    have e1' : m__law_cell [F ns, .int 0] st = .ok (.int (cel ns 0 (by decide))) st1 := e1
    have sA : sSet 1 (mCall m__law_cell (aCons (mVar 0) (aCons (mC (.int 0)) aNil))) [some (F ns), none, none, none] st = .ok (.nx [some (F ns), some (.int (cel ns 0 (by decide))), none, none]) st1 := by simp [e1']
    have e3 : modP (cel ns 0 (by decide)) 3 = cel ns 0 (by decide) % 3 := modP_pos _ _ (by decide)
    have sB : sSet 3 (mCall m__law_built (aCons (mVar 0) (aCons (mVar 2) (aCons (mOp oEq (mOp oMod (mVar 1) (mC (.int 3))) (mC (.int 2))) aNil)))) [some (F ns), some (.int (cel ns 0 (by decide))), some (.int n), none] st1 = .ok (.nx [some (F ns), some (.int (cel ns 0 (by decide))), some (.int n), some (.ref r)]) st2 := by
      have bq : (cel ns 0 (by decide) % 3 == 2) = decide (cel ns 0 (by decide) % 3 = 2) := rfl
      simp [cNz, e3, bq, e2]
    show (g__law_made [some (F ns), none, none, none] st).bind endOf = _
    simp only [g__law_made, q_sSeq]
    rw [sA]
    simp only [bind_ok, q_flowN]
    rw [made_size, en]
    simp only [gt__law_made_4, q_sSeq]
    rw [sB]
    simp only [bind_ok, q_flowN]
  have e13 : divP (cel ns 1 (by decide)) 3 = cel ns 1 (by decide) / 3 := divP_pos _ _ (by decide)
  have e12 : modP (cel ns 1 (by decide) / 3) 2 = cel ns 1 (by decide) / 3 % 2 := modP_pos _ _ (by decide)
  by_cases hc : 0 < ts.length ∧ cel ns 1 (by decide) / 3 % 2 = 1
  · -- the last one
    have lt : ts.length - 1 < ts.length := by omega
    refine ⟨ts[ts.length - 1], ?_, fun h => ?_, fun st => ?_⟩
    · have := szs_mem (List.getElem_mem lt); omega
    · have q := sms_cut ts (ts.length - 1) (h2 (by simpa using h))
      rw [List.drop_eq_getElem_cons lt] at q
      exact q.2.1
    · obtain ⟨r, xs, st2, e, hr, hw, d⟩ := hd st
      obtain ⟨st3, e4, p4⟩ := cel_at ns 1 (by decide) st2
      have len := hw.len
      have q := hw.drop (ts.length - 1)
      rw [List.drop_eq_getElem_cons lt] at q
      obtain ⟨v, rr, e5, h5, _⟩ := q
      have hx : xs[xs.length - 1]? = some (.tup [v, .int (wt ts[ts.length - 1])]) := by
        have := congrArg List.head? e5
        rw [List.head?_drop] at this
        rw [← len]
        exact this
      have ha : atI xs (-1) = some (.tup [v, .int (wt ts[ts.length - 1])]) := by
        have : ixN xs.length (-1) = some (xs.length - 1) := by simp [ixN]; omega
        simp only [atI, this]
        exact hx
      refine ⟨v, st3, ?_, h5.mono (dk_pre p4), d.trans (dk_pre p4)⟩
      have e4' : m__law_cell [F ns, .int 1] st2 = .ok (.int (cel ns 1 (by decide))) st3 := e4
      have hxl : 0 < xs.length := by omega
      rw [e]
      simp only [gt__law_made_5]
      simp [withL_at hr, hxl, e4', cDv, cNz, e13, e12, hc.2, withL_at (p4.get hr), ha]
  · refine ⟨.row ts, by simp only [sz]; omega, fun h => h2 (by simpa using h), fun st => ?_⟩
    obtain ⟨r, xs, st2, e, hr, hw, d⟩ := hd st
    have len := hw.len
    -- the row of all
    have fin : ∀ st3, Pre st2 st3 → ∃ v st', gt__law_made_6 [some (F ns), some (.int (cel ns 0 (by decide))), some (.int n), some (.ref r)] st3 = .ok (.rt (.tup [v, .int (wt (.row ts))])) st' ∧ TR st' (.row ts) v ∧ Dk st3 st' := by
      intro st3 p3
      have hr3 := p3.get hr
      have hw3 := hw.mono (dk_pre p3)
      have c1 := comp_fst hr3 hw3 (by omega) [some (F ns), some (.int (cel ns 0 (by decide))), some (.int n), some (.ref r)] 3 rfl
      have p4 : Pre st3 (st3 ++ [SO.lst (xs.map fst1)]) := Pre.of _ _
      have c2 := sum_snd (p4.get hr3) (hw3.mono (dk_pre p4)) (by omega) [some (F ns), some (.int (cel ns 0 (by decide))), some (.int n), some (.ref r)] 3 rfl
      have d5 := dk_app (st3 ++ [SO.lst (xs.map fst1)]) [SO.lst ((ts.map wt).map PV.int)]
      refine ⟨.tup (xs.map fst1), _, ?_, ⟨_, rfl, (hw3.fsts.1.mono (dk_pre p4)).mono d5⟩, (dk_pre p4).trans d5⟩
      have ew : (1 + (xs.length : Int) + wts ts) = wt (.row ts) := by simp only [wt, len]
      simp only [gt__law_made_6, q_sRet, q_mTup, q_aCons, q_aNil]
      have t1 : mCall oTuple (aCons (mComp (iVal (mVar 3)) (mOp oIxD (mVar 0) (mC (.int 0)))) aNil) [some (F ns), some (.int (cel ns 0 (by decide))), some (.int n), some (.ref r)] st3 = .ok (.tup (xs.map fst1)) (st3 ++ [SO.lst (xs.map fst1)]) := by
        simp only [q_mCall, q_aCons, q_aNil]
        rw [c1]
        simp
      rw [t1]
      simp only [bind_ok, q_mOp, q_mC]
      have t2 : mCall oLen (aCons (mVar 3) aNil) [some (F ns), some (.int (cel ns 0 (by decide))), some (.int n), some (.ref r)] (st3 ++ [SO.lst (xs.map fst1)]) = .ok (.int xs.length) (st3 ++ [SO.lst (xs.map fst1)]) := by
        simp [withL_at (p4.get hr3)]
      rw [t2]
      simp only [bind_ok, q_addI]
      rw [c2]
      simp [ew]
    by_cases h0 : 0 < ts.length
    · obtain ⟨st3, e4, p4⟩ := cel_at ns 1 (by decide) st2
      have e4' : m__law_cell [F ns, .int 1] st2 = .ok (.int (cel ns 1 (by decide))) st3 := e4
      obtain ⟨v, st', e5, h5, d5⟩ := fin st3 p4
      have hxl : 0 < xs.length := by omega
      have nc : ¬ cel ns 1 (by decide) / 3 % 2 = 1 := fun z => hc ⟨h0, z⟩
      refine ⟨v, st', ?_, h5, (d.trans (dk_pre p4)).trans d5⟩
      rw [e]
      simp only [gt__law_made_5, q_sSeq]
      simp [withL_at hr, hxl, e4', cDv, cNz, e13, e12, nc]
      simpa using congrArg (fun q => q.bind endOf) e5
    · obtain ⟨v, st', e5, h5, d5⟩ := fin st2 (Pre.refl _)
      have hxl : ¬ 0 < xs.length := by omega
      refine ⟨v, st', ?_, h5, d.trans d5⟩
      rw [e]
      simp only [gt__law_made_5, q_sSeq]
      simp [withL_at hr, hxl]
      simpa using congrArg (fun q => q.bind endOf) e5
end FK12

set_option Elab.async false
set_option linter.all false
set_option maxRecDepth 100000
set_option maxHeartbeats 4000000
namespace FK12
open PySem L2 PySem.W Mi
/-- what is wanted of the part that looks for lighter ones -/
def Lighter : Prop := ∀ (t : Tr) (v : PV) (st : Sto), TR st t v → sz t ≤ 60 → sm t → ∃ st', m__law_lighter [v, .int (wt t)] st = .ok (.bl true) st' ∧ Dk st st'
theorem law_by (hl : Lighter) (ns : List Int) : ∃ st, m_law [.frl (ns.map PV.int)] [] = .ok (.bl true) st := by
  obtain ⟨t, hs, hsm, hm⟩ := made_ex ns
  obtain ⟨v, st1, e1, r1, _⟩ := hm []
  -- the weight
  obtain ⟨st2, e2, o2⟩ := p_weight r1 (by omega)
  have r2 := r1.mono o2.dk
  -- the weight of the pair with three
  have rp : TR st2 (.row [t, .num 3]) (.tup [v, .int 3]) := ⟨_, rfl, v, _, rfl, r2, _, _, rfl, rfl, rfl⟩
  obtain ⟨st3, e3, o3⟩ := p_weight rp (by simp only [sz, szs]; omega)
  have ew : wt (.row [t, .num 3]) = wt t + 7 := by simp [wt, wts]; omega
  rw [ew] at e3
  have r3 := r2.mono o3.dk
  obtain ⟨st4, e4, p4⟩ := cel_at ns 0 (by decide) st3
  have e4' : m__law_cell [F ns, .int 0] st3 = .ok (.int (cel ns 0 (by decide))) st4 := e4
  have r4 := r3.mono (dk_pre p4)
  have em : modP (cel ns 0 (by decide)) 3 = cel ns 0 (by decide) % 3 := modP_pos _ _ (by decide)
  -- the third if
  have third : ∃ st5, gt_law_3 [some (F ns), some v, some (.int (wt t))] st3 = gt_law_4 [some (F ns), some v, some (.int (wt t))] st5 ∧ Dk st4 st5 := by
    by_cases h2 : cel ns 0 (by decide) % 3 = 2
    · obtain ⟨s5, e5, o5⟩ := p_weight r4 (by omega)
      obtain ⟨s6, e6, d6⟩ := hl t v s5 (r4.mono o5.dk) hs (hsm h2)
      refine ⟨s6, ?_, o5.dk.trans d6⟩
      simp only [gt_law_3, q_sSeq]
      simp [e4', cNz, em, h2, e5, e6]
    · refine ⟨st4, ?_, Dk.refl _⟩
      simp only [gt_law_3, q_sSeq]
      simp [e4', cNz, em, h2]
  obtain ⟨st5, e5, d5⟩ := third
  have r5 := r4.mono d5
  -- the end
  obtain ⟨st6, e6, o6⟩ := p_weight r5 (by omega)
  have r6 := r5.mono o6.dk
  obtain ⟨w, st7, e7, r7, d7⟩ := hm st6
  obtain ⟨b, e8, hb⟩ := eqT_tr (st := st7) 150 t t v w (by have := dp_sz t; omega) (r6.mono d7) r7
  rw [hb rfl] at e8
  have q8 : oEqT v w st7 = .ok (.bl true) st7 := by unfold oEqT; rw [e8]
  refine ⟨st7, ?_⟩
  have c1 := p_count (wt t) st2
  have c2 := p_count (wt t + 7) st3
  have c3 := p_count (wt t) st6
  have sA : sTo (g2 1 2) (mCall m__law_made (aCons (mVar 0) aNil)) [some (F ns), none, none] [] = .ok (.nx [some (F ns), some v, some (.int (wt t))]) st1 := by simp [e1]
  show (g_law [some (F ns), none, none] []).bind endOf = _
  simp only [g_law, q_sSeq]
  rw [sA]
  simp only [bind_ok, q_flowN, gt_law_1, q_sSeq]
  have sB : sIf (bNot (mB (mCall m__law_count (aCons (mCall m_weight (aCons (mVar 1) aNil)) (aCons (mVar 2) aNil))))) (sRet (mC (.bl false))) sNext [some (F ns), some v, some (.int (wt t))] st1 = .ok (.nx [some (F ns), some v, some (.int (wt t))]) st2 := by simp [e2, c1]
  rw [sB]
  simp only [bind_ok, q_flowN, gt_law_2, q_sSeq]
  have sC : sIf (bNot (mB (mCall m__law_count (aCons (mCall m_weight (aCons (mTup (aCons (mVar 1) (aCons (mC (.int 3)) aNil))) aNil)) (aCons (mOp oAdd (mVar 2) (mC (.int 7))) aNil))))) (sRet (mC (.bl false))) sNext [some (F ns), some v, some (.int (wt t))] st2 = .ok (.nx [some (F ns), some v, some (.int (wt t))]) st3 := by simp [e3, c2]
  rw [sC]
  simp only [bind_ok, q_flowN]
  rw [e5]
  simp [gt_law_4, e6, c3, e7, atI, ixN, q8]
end FK12

set_option Elab.async false
set_option linter.all false
set_option maxRecDepth 100000
set_option maxHeartbeats 4000000
namespace FK12
open PySem L2 PySem.W Mi
def near : Tr → List Tr
  | .row (t :: ts) => .row ts :: t :: ts
  | .rec_ _ ts => ts
  | .num i => if 0 < i then [.num (i - 1)] else []
  | _ => []
theorem p_near {st : Sto} {t : Tr} {v : PV} (h : TR st t v) (hs : sz t ≤ 1000) : ∃ q ys st', m__law_nearer [v] st = .ok (.ref q) st' ∧ st'[q]? = some (.lst ys) ∧ TRs st' (near t) ys ∧ Pre st st' ∧ st.length ≤ q := by
  have e := isi_tr h
  cases t with
  | num i =>
    cases h
    by_cases hi : 0 < i
    · exact ⟨st.length, [.int (i - 1)], st ++ [.lst [.int (i - 1)]], by simp [m__law_nearer, mirror, g__law_nearer, gt__law_nearer_1, gt__law_nearer_2, e, ty, t2, t3, t4, hi], top_get _ _, by simp [near, hi]; exact ⟨_, _, rfl, rfl, rfl⟩, Pre.of _ _, by omega⟩
    · exact ⟨st.length, [], st ++ [.lst []], by simp [m__law_nearer, mirror, g__law_nearer, gt__law_nearer_1, gt__law_nearer_2, gt__law_nearer_3, e, ty, t2, t3, t4, hi], top_get _ _, by simp [near, hi, TRs], Pre.of _ _, by omega⟩
  | word z =>
    cases h
    exact ⟨st.length, [], st ++ [.lst []], by simp [m__law_nearer, mirror, g__law_nearer, gt__law_nearer_1, gt__law_nearer_2, gt__law_nearer_3, e, ty, t6, t7, t8], top_get _ _, by simp [near, TRs], Pre.of _ _, by omega⟩
  | row ts =>
    obtain ⟨xs, rfl, hr⟩ := h
    cases ts with
    | nil =>
      cases hr
      exact ⟨st.length, [], st ++ [.lst []], by simp [m__law_nearer, mirror, g__law_nearer, gt__law_nearer_1, gt__law_nearer_2, gt__law_nearer_3, e, ty, t10, t11, t12], top_get _ _, by simp [near, TRs], Pre.of _ _, by omega⟩
    | cons t ts =>
      obtain ⟨x, r, rfl, h1, h2⟩ := hr
      have len := h2.len
      have sl := szs_len ts
      simp only [sz, szs] at hs
      have cd : cutP (x :: r) (some 1) none = r := by
        have := cut_drop (x :: r) 1 (by simp)
        simpa using this
      have hlim : 1 + (r.length + 1) ≤ 1000000 := by omega
      refine ⟨st.length + 2, .tup r :: x :: r, st ++ [.lst [.tup r], .lst (x :: r), .lst (.tup r :: x :: r)], ?_, by simp, ⟨_, _, rfl, ⟨r, rfl, h2.mono (dk_app _ _)⟩, x, r, rfl, h1.mono (dk_app _ _), h2.mono (dk_app _ _)⟩, Pre.of _ _, by omega⟩
      have w1 : (st ++ [SO.lst [PV.tup r], SO.lst (x :: r)])[st.length]? = some (.lst [.tup r]) := by simp
      have w2 : (st ++ [SO.lst [PV.tup r], SO.lst (x :: r)])[st.length + 1]? = some (.lst (x :: r)) := by simp
      have pl : (0 : Int) < (r.length : Int) + 1 := by omega
      simp [m__law_nearer, mirror, g__law_nearer, e, ty, t10, cd, oList, oAdd, withL_at w1, withL_at w2, pl]
      omega
  | rec_ ks ts =>
    obtain ⟨m, xs, rfl, hm, nd, hl, hr⟩ := h
    exact ⟨st.length, xs, st ++ [.lst xs], by simp [m__law_nearer, mirror, g__law_nearer, gt__law_nearer_1, e, ty, t14, t15, vals_at hm], top_get _ _, hr.mono (dk_app _ _), Pre.of _ _, by omega⟩
/-! the closure -/
def cln : Nat → List Tr
  | 0 => [.num 0]
  | n + 1 => .num ((n : Int) + 1) :: cln n
def tls : List Tr → List Tr
  | [] => [.row []]
  | t :: ts => .row (t :: ts) :: tls ts
mutual
def cl : Tr → List Tr
  | .num i => if 0 < i then cln i.toNat else [.num i]
  | .word z => [.word z]
  | .row ts => tls ts ++ cls ts
  | .rec_ ks ts => .rec_ ks ts :: cls ts
def cls : List Tr → List Tr
  | [] => []
  | t :: ts => cl t ++ cls ts
end
theorem cln_len : ∀ n, (cln n).length = n + 1
  | 0 => rfl
  | n + 1 => by simp [cln, cln_len n]
theorem tls_len : ∀ ts, (tls ts).length = ts.length + 1
  | [] => rfl
  | t :: ts => by simp [tls, tls_len ts]
mutual
theorem cl_len : ∀ t, ((cl t).length : Int) = wt t
  | .num i => by simp only [cl, wt]; split <;> simp [cln_len]; omega
  | .word _ => by simp [cl, wt]
  | .row ts => by have := cls_len ts; simp only [cl, wt, List.length_append, tls_len]; omega
  | .rec_ _ ts => by have := cls_len ts; simp only [cl, wt, List.length_cons]; omega
theorem cls_len : ∀ ts, ((cls ts).length : Int) = wts ts
  | [] => by simp [cls, wts]
  | t :: ts => by have := cl_len t; have := cls_len ts; simp only [cls, wts, List.length_append]; omega
end
theorem cln_self : ∀ n : Nat, Tr.num n ∈ cln n
  | 0 => by simp [cln]
  | n + 1 => by simp [cln]
theorem tls_self : ∀ ts, Tr.row ts ∈ tls ts
  | [] => by simp [tls]
  | t :: ts => by simp [tls]
theorem cl_self (t : Tr) : t ∈ cl t := by
  cases t with
  | num i =>
    simp only [cl]
    split
    · have := cln_self i.toNat
      have e : ((i.toNat : Nat) : Int) = i := by omega
      rwa [e] at this
    · simp
  | word z => simp [cl]
  | row ts => simp only [cl]; exact List.mem_append_left _ (tls_self ts)
  | rec_ ks ts => simp [cl]
theorem cls_mem : ∀ {ts : List Tr} {t u : Tr}, t ∈ ts → u ∈ cl t → u ∈ cls ts
  | a :: ts, t, u, h, hu => by
    simp only [cls]
    rcases List.mem_cons.mp h with rfl | h
    · exact List.mem_append_left _ hu
    · exact List.mem_append_right _ (cls_mem h hu)
theorem cln_near : ∀ (n : Nat) (u w : Tr), u ∈ cln n → w ∈ near u → w ∈ cln n
  | 0, u, w, h, hw => by simp [cln] at h; subst h; simp [near] at hw
  | n + 1, u, w, h, hw => by
    simp only [cln] at h ⊢
    rcases List.mem_cons.mp h with rfl | h
    · have p : (0 : Int) < (n : Int) + 1 := by omega
      simp only [near, p, if_true, List.mem_singleton] at hw
      have e : (n : Int) + 1 - 1 = n := by omega
      rw [hw, e]
      exact List.mem_cons_of_mem _ (cln_self n)
    · exact List.mem_cons_of_mem _ (cln_near n u w h hw)
theorem tls_near : ∀ (ts : List Tr) (u w : Tr), u ∈ tls ts → w ∈ near u → w ∈ tls ts ∨ w ∈ ts
  | [], u, w, h, hw => by simp [tls] at h; subst h; simp [near] at hw
  | t :: ts, u, w, h, hw => by
    simp only [tls] at h ⊢
    rcases List.mem_cons.mp h with rfl | h
    · simp only [near] at hw
      rcases List.mem_cons.mp hw with rfl | hw
      · exact .inl (List.mem_cons_of_mem _ (tls_self ts))
      · exact .inr hw
    · rcases tls_near ts u w h hw with q | q
      · exact .inl (List.mem_cons_of_mem _ q)
      · exact .inr (List.mem_cons_of_mem _ q)
mutual
theorem cl_near : ∀ (t u w : Tr), u ∈ cl t → w ∈ near u → w ∈ cl t
  | .num i, u, w, h, hw => by
    simp only [cl] at h ⊢
    split at h
    · rename_i p; rw [if_pos p]; exact cln_near _ u w h hw
    · rename_i p
      simp at h; subst h
      simp [near, p] at hw
  | .word z, u, w, h, hw => by simp [cl] at h; subst h; simp [near] at hw
  | .row ts, u, w, h, hw => by
    simp only [cl] at h ⊢
    rcases List.mem_append.mp h with h | h
    · rcases tls_near ts u w h hw with q | q
      · exact List.mem_append_left _ q
      · exact List.mem_append_right _ (cls_mem q (cl_self w))
    · exact List.mem_append_right _ (cls_near ts u w h hw)
  | .rec_ ks ts, u, w, h, hw => by
    simp only [cl] at h ⊢
    rcases List.mem_cons.mp h with rfl | h
    · simp only [near] at hw
      exact List.mem_cons_of_mem _ (cls_mem hw (cl_self w))
    · exact List.mem_cons_of_mem _ (cls_near ts u w h hw)
theorem cls_near : ∀ (ts : List Tr) (u w : Tr), u ∈ cls ts → w ∈ near u → w ∈ cls ts
  | [], u, w, h, _ => by simp [cls] at h
  | t :: ts, u, w, h, hw => by
    simp only [cls] at h ⊢
    rcases List.mem_append.mp h with h | h
    · exact List.mem_append_left _ (cl_near t u w h hw)
    · exact List.mem_append_right _ (cls_near ts u w h hw)
end
mutual
theorem wt_pos : ∀ t, 0 < wt t
  | .num i => by simp only [wt]; split <;> omega
  | .word _ => by simp [wt]
  | .row ts => by have := wts_pos ts; simp only [wt]; omega
  | .rec_ _ ts => by have := wts_pos ts; simp only [wt]; omega
theorem wts_pos : ∀ ts, 0 ≤ wts ts
  | [] => by simp [wts]
  | t :: ts => by have := wt_pos t; have := wts_pos ts; simp only [wts]; omega
end
theorem wts_mem : ∀ {ts : List Tr} {t : Tr}, t ∈ ts → wt t ≤ wts ts
  | a :: ts, t, h => by
    rcases List.mem_cons.mp h with rfl | h
    · have := wts_pos ts; simp only [wts]; omega
    · have := wts_mem h; have := wt_pos a; simp only [wts]; omega
theorem near_lt {u w : Tr} (h : w ∈ near u) : wt w < wt u := by
  cases u with
  | num i =>
    simp only [near] at h
    split at h
    · simp at h; subst h; simp only [wt]; split <;> omega
    · cases h
  | word z => cases h
  | row ts =>
    cases ts with
    | nil => cases h
    | cons t ts =>
      simp only [near] at h
      rcases List.mem_cons.mp h with rfl | h
      · have := wt_pos t; simp only [wt, wts, List.length_cons]; omega
      · have := wts_mem h; simp only [wt, List.length_cons]; omega
  | rec_ ks ts => have := wts_mem (ts := ts) h; simp only [wt]; omega
theorem near_sz {u w : Tr} (h : w ∈ near u) : sz w ≤ sz u := by
  cases u with
  | num i => simp only [near] at h; split at h; simp at h; subst h; simp [sz]; cases h
  | word z => cases h
  | row ts =>
    cases ts with
    | nil => cases h
    | cons t ts =>
      simp only [near] at h
      rcases List.mem_cons.mp h with rfl | h
      · simp only [sz, szs]; omega
      · have := szs_mem h; simp only [sz]; omega
  | rec_ ks ts => have := szs_mem (ts := ts) h; simp only [sz]; omega
theorem cln_sz : ∀ (n : Nat) (u : Tr), u ∈ cln n → sz u ≤ 1
  | 0, u, h => by simp [cln] at h; subst h; simp [sz]
  | n + 1, u, h => by
    simp only [cln] at h
    rcases List.mem_cons.mp h with rfl | h
    · simp [sz]
    · exact cln_sz n u h
theorem tls_sz : ∀ (ts : List Tr) (u : Tr), u ∈ tls ts → sz u ≤ 1 + szs ts
  | [], u, h => by simp [tls] at h; subst h; simp [sz, szs]
  | t :: ts, u, h => by
    simp only [tls] at h
    rcases List.mem_cons.mp h with rfl | h
    · simp [sz]
    · have := tls_sz ts u h; simp only [szs]; omega
mutual
theorem cl_sz : ∀ (t u : Tr), u ∈ cl t → sz u ≤ sz t
  | .num i, u, h => by
    simp only [cl] at h
    split at h
    · exact cln_sz _ u h
    · simp at h; subst h; simp [sz]
  | .word z, u, h => by simp [cl] at h; subst h; simp
  | .row ts, u, h => by
    simp only [cl] at h
    simp only [sz]
    rcases List.mem_append.mp h with h | h
    · exact tls_sz ts u h
    · have := cls_sz ts u h; omega
  | .rec_ ks ts, u, h => by
    simp only [cl] at h
    rcases List.mem_cons.mp h with rfl | h
    · simp
    · have := cls_sz ts u h; simp only [sz]; omega
theorem cls_sz : ∀ (ts : List Tr) (u : Tr), u ∈ cls ts → sz u ≤ szs ts
  | [], u, h => by simp [cls] at h
  | t :: ts, u, h => by
    simp only [cls] at h
    simp only [szs]
    rcases List.mem_append.mp h with h | h
    · have := cl_sz t u h; omega
    · have := cls_sz ts u h; omega
end
theorem nd_len : ∀ {us C : List Tr}, us.Nodup → (∀ u ∈ us, u ∈ C) → us.length ≤ C.length
  | [], _, _, _ => by simp
  | u :: us, C, nd, h => by
    rw [List.nodup_cons] at nd
    obtain ⟨a, b, rfl⟩ := List.append_of_mem (h u (List.mem_cons_self ..))
    have := nd_len (us := us) (C := a ++ b) nd.2 fun w hw => by
      have q := h w (List.mem_cons_of_mem _ hw)
      rcases List.mem_append.mp q with q | q
      · exact List.mem_append_left _ q
      · rcases List.mem_cons.mp q with rfl | q
        · exact absurd hw nd.1
        · exact List.mem_append_right _ q
    simp at this ⊢
    omega
end FK12

set_option Elab.async false
set_option linter.all false
set_option maxRecDepth 100000
set_option maxHeartbeats 4000000
namespace FK12
open PySem L2 PySem.W Mi
theorem TRs.mem {st : Sto} : ∀ {ts : List Tr} {xs : List PV} {y : PV}, TRs st ts xs → y ∈ xs → ∃ u, u ∈ ts ∧ TR st u y
  | [], _, _, h, hy => by cases h; cases hy
  | t :: ts, _, y, h, hy => by
    obtain ⟨x, r, rfl, h1, h2⟩ := h
    rcases List.mem_cons.mp hy with rfl | hy
    · exact ⟨t, List.mem_cons_self .., h1⟩
    · obtain ⟨u, a, b⟩ := TRs.mem h2 hy; exact ⟨u, List.mem_cons_of_mem _ a, b⟩
theorem TRs.mem' {st : Sto} : ∀ {ts : List Tr} {xs : List PV} {u : Tr}, TRs st ts xs → u ∈ ts → ∃ y, y ∈ xs ∧ TR st u y
  | [], _, _, _, hu => by cases hu
  | t :: ts, _, u, h, hu => by
    obtain ⟨x, r, rfl, h1, h2⟩ := h
    rcases List.mem_cons.mp hu with rfl | hu
    · exact ⟨x, List.mem_cons_self .., h1⟩
    · obtain ⟨y, a, b⟩ := TRs.mem' h2 hu; exact ⟨y, List.mem_cons_of_mem _ a, b⟩
theorem TRs.one {st : Sto} {t : Tr} {v : PV} (h : TR st t v) : TRs st [t] [v] := ⟨v, [], rfl, h, rfl⟩
abbrev ib : PEnv → Mo Fl := (sIf (mB (mOp (oInT true) (mVar 3) (mVar 1)))
    (sExpr (mMut oAppend (mVar 1) (mVar 3)))
    sNext)
theorem in_one {st : Sto} {r : Nat} {xs : List PV} {us : List Tr} {w : Tr} {y v : PV} {p : Int} (hr : st[r]? = some (.lst xs)) (hu : TRs st us xs) (hw : TR st w y) (nd : us.Nodup) (hdp : ∀ u ∈ us, dp u < 150) (hl : us.length ≤ 1000) :
    ∃ us' xs' st', ib [some v, some (.ref r), some (.int p), some y] st = .ok (.nx [some v, some (.ref r), some (.int p), some y]) st' ∧ st'[r]? = some (.lst xs') ∧ TRs st' us' xs' ∧ us'.Nodup ∧ (us' = us ∨ us' = us ++ [w]) ∧ Dk st st' ∧ Ob r st st' := by
  have ok : okInT st y xs = true := List.all_eq_true.mpr fun x hx => by
    obtain ⟨u, mu, ru⟩ := hu.mem hx
    obtain ⟨b, e, _⟩ := eqT_tr 150 u w x y (hdp u mu) ru hw
    rw [e]; rfl
  cases hh : hasT st y xs with
  | true => exact ⟨us, xs, st, by simp [oInT, withL_at hr, ok, hh], hr, hu, nd, .inl rfl, Dk.refl _, fun _ _ _ e => e⟩
  | false =>
    have no : w ∉ us := fun hm => by
      obtain ⟨x, mx, rx⟩ := hu.mem' hm
      obtain ⟨b, e, hb⟩ := eqT_tr 150 w w x y (hdp w hm) rx hw
      rw [hb rfl] at e
      have : hasT st y xs = true := List.any_eq_true.mpr ⟨x, mx, by simp [e]⟩
      rw [hh] at this; cases this
    have len := hu.len
    have rl : r < st.length := (List.getElem?_eq_some_iff.mp hr).1
    have d : Dk st (st.set r (.lst (xs ++ [y]))) := dk_set hr
    have hlim : xs.length < 1000000 := by omega
    refine ⟨us ++ [w], xs ++ [y], st.set r (.lst (xs ++ [y])), ?_, ?_, (hu.mono d).append (TRs.one (hw.mono d)), ?_, .inr rfl, d, ob_set r st _⟩
    · simp [oInT, withL_at hr, ok, hh, hlim]
    · rw [List.getElem?_set_self rl]
    · refine List.nodup_append.mpr ⟨nd, by simp, fun a ha b hb => ?_⟩
      have e : b = w := by simpa using hb
      subst e
      exact fun e => no (e ▸ ha)
theorem in_loop (C : List Tr) (hC : C.length ≤ 1000) (hCd : ∀ u ∈ C, dp u < 150) (q r : Nat) (hqr : q ≠ r) (ws : List Tr) (hws : ∀ w ∈ ws, w ∈ C) (ys : List PV) (v : PV) (p : Int) : ∀ (k i m : Nat) (us : List Tr) (xs : List PV) (st : Sto) (x3 : Option PV), ys.length - i = k → i ≤ ys.length → k < m → st[q]? = some (.lst ys) → TRs st ws ys → st[r]? = some (.lst xs) → TRs st us xs → us.Nodup → (∀ u ∈ us, u ∈ C) →
    ∃ es xs' st' x3', forR (gN 3) ib q m i [some v, some (.ref r), some (.int p), x3] st = .ok (.nx [some v, some (.ref r), some (.int p), x3']) st' ∧ st'[r]? = some (.lst xs') ∧ TRs st' (us ++ es) xs' ∧ (us ++ es).Nodup ∧ (∀ u ∈ es, u ∈ ws) ∧ Dk st st' := by
  intro k
  induction k with
  | zero =>
    intro i m us xs st x3 hk hi hm hq hy hr hu nd hc
    obtain ⟨m', rfl⟩ : ∃ m', m = m' + 1 := ⟨m - 1, by omega⟩
    have : i = ys.length := by omega
    subst this
    exact ⟨[], xs, st, x3, by simp [forR, withL, hq], hr, by simpa using hu, by simpa using nd, (fun u h => nomatch h), Dk.refl _⟩
  | succ k ih =>
    intro i m us xs st x3 hk hi hm hq hy hr hu nd hc
    obtain ⟨m', rfl⟩ : ∃ m', m = m' + 1 := ⟨m - 1, by omega⟩
    have lt : i < ys.length := by omega
    obtain ⟨w, ew, rw'⟩ := hy.get (List.getElem?_eq_getElem lt)
    have mw : w ∈ ws := List.mem_of_getElem? ew
    have ul := nd_len nd hc
    obtain ⟨us1, xs1, st1, e1, f1, g1, n1, o1, d1, b1⟩ := in_one (v := v) (p := p) hr hu rw' nd (fun u h => hCd u (hc u h)) (by omega)
    have c1 : ∀ u ∈ us1, u ∈ C := fun u h => by
      rcases o1 with rfl | rfl
      · exact hc u h
      · rcases List.mem_append.mp h with h | h
        · exact hc u h
        · have e : u = w := by simpa using h
          rw [e]; exact hws w mw
    obtain ⟨es, xs', st', x3', e2, f2, g2, n2, o2, d2⟩ := ih (i + 1) m' us1 xs1 st1 (some ys[i]) (by omega) (by omega) (by omega) (b1 q _ hqr hq) (hy.mono d1) f1 g1 n1 c1
    have run : forR (gN 3) ib q (m' + 1) i [some v, some (.ref r), some (.int p), x3] st = .ok (.nx [some v, some (.ref r), some (.int p), x3']) st' := by
      rw [← e2]
      conv => lhs; unfold forR
      simp only [withL, hq, List.getElem?_eq_getElem lt, q_gN, List.set_cons_succ, List.set_cons_zero]
      rw [e1]
      simp only [bind_ok]
    rcases o1 with rfl | rfl
    · exact ⟨es, xs', st', x3', run, f2, g2, n2, o2, d1.trans d2⟩
    · refine ⟨w :: es, xs', st', x3', run, f2, by simpa using g2, by simpa using n2, fun u h => ?_, d1.trans d2⟩
      rcases List.mem_cons.mp h with rfl | h
      · exact mw
      · exact o2 u h
abbrev wtst : PEnv → Mo Bool := (mB (mOp oLt (mVar 2) (mCall oLen (aCons (mVar 1) aNil))))
abbrev wbdy : PEnv → Mo Fl := (sSeq (sFor (iVal (mCall m__law_nearer (aCons (mOp oIxD (mVar 1) (mVar 2)) aNil))) (gN 3) ib)
    (sSet 2 (mOp oAdd (mVar 2) (mC (.int 1)))))
theorem pc_loop (t : Tr) (ht : sz t ≤ 60) (hC : (cl t).length ≤ 1000) (v : PV) (r : Nat) : ∀ (k p fuel : Nat) (rest : List Tr) (xs : List PV) (st : Sto) (x3 : Option PV), (cl t).length - p = k → p ≤ (t :: rest).length → k < fuel → st[r]? = some (.lst xs) → TRs st (t :: rest) xs → (t :: rest).Nodup → (∀ u ∈ t :: rest, u ∈ cl t) → (∀ u ∈ rest, wt u < wt t ∧ sz u ≤ sz t) →
    ∃ rest' xs' st' p' x3', whileF wtst wbdy fuel [some v, some (.ref r), some (.int p), x3] st = .ok (.nx [some v, some (.ref r), some (.int p'), x3']) st' ∧ st'[r]? = some (.lst xs') ∧ TRs st' (t :: rest') xs' ∧ (t :: rest').Nodup ∧ (∀ u ∈ t :: rest', u ∈ cl t) ∧ (∀ u ∈ rest', wt u < wt t ∧ sz u ≤ sz t) ∧ Dk st st' := by
  intro k
  induction k using Nat.strongRecOn with
  | _ k ih =>
    intro p fuel rest xs st x3 hk hp hf hr hu nd hc hw
    obtain ⟨f', rfl⟩ : ∃ f', fuel = f' + 1 := ⟨fuel - 1, by omega⟩
    have len := hu.len
    have ul := nd_len nd hc
    by_cases he : p = (t :: rest).length
    · refine ⟨rest, xs, st, p, x3, ?_, hr, hu, nd, hc, hw, Dk.refl _⟩
      rw [while_step]
      have nl : ¬ p < xs.length := by omega
      simp [withL_at hr, nl]
    · have lt : p < xs.length := by omega
      obtain ⟨u, eu, ru⟩ := hu.get (List.getElem?_eq_getElem lt)
      have mu : u ∈ t :: rest := List.mem_of_getElem? eu
      have cu := hc u mu
      have su := cl_sz t u cu
      have wu : wt u ≤ wt t := by
        rcases List.mem_cons.mp mu with rfl | h
        · omega
        · have := (hw u h).1; omega
      obtain ⟨q, ys, st1, e1, hq, hy, p1, ql⟩ := p_near ru (by omega)
      have rl : r < st.length := (List.getElem?_eq_some_iff.mp hr).1
      have yl : ys.length ≤ 1000000 := by
        have := hy.len
        have : (near u).length ≤ 1000 := by
          have a1 : (near u).length ≤ sz u + 1 := by
            cases u with
            | num i => simp only [near]; split <;> simp
            | word z => simp [near]
            | row ts => cases ts with
              | nil => simp [near]
              | cons a b => have := szs_len (a :: b); simp only [near, sz, List.length_cons] at this ⊢; omega
            | rec_ ks ts => have := szs_len ts; simp only [near, sz]; omega
          omega
        omega
      have hr1 := p1.get hr
      have d1 := dk_pre p1
      obtain ⟨es, xs2, st2, x3', e2, hr2, hu2, nd2, oes, d2⟩ := in_loop (cl t) hC (fun w h => by have a := cl_sz t w h; have b := dp_sz w; omega) q r (by omega) (near u) (fun w h => cl_near t u w cu h) ys v p ys.length 0 (lim + 1) (t :: rest) xs st1 x3 (by omega) (Nat.zero_le _) (by show ys.length < 1000000 + 1; omega) hq hy hr1 (hu.mono d1) nd hc
      have hc2 : ∀ w ∈ t :: (rest ++ es), w ∈ cl t := fun w h => by
        have h' : w ∈ (t :: rest) ++ es := by simpa using h
        rcases List.mem_append.mp h' with h' | h'
        · exact hc w h'
        · exact cl_near t u w cu (oes w h')
      have hw2 : ∀ w ∈ rest ++ es, wt w < wt t ∧ sz w ≤ sz t := fun w h => by
        rcases List.mem_append.mp h with h | h
        · exact hw w h
        · have a := near_lt (oes w h); have b := near_sz (oes w h); exact ⟨by omega, by omega⟩
      have pl : p + 1 ≤ (t :: (rest ++ es)).length := by simp only [List.length_cons, List.length_append] at hp he ⊢; omega
      have kp : p < (cl t).length := by omega
      obtain ⟨rest', xs', st', p', y3, e3, f3, g3, n3, c3, w3, d3⟩ := ih (k - 1) (by omega) (p + 1) f' (rest ++ es) xs2 st2 x3' (by omega) pl (by omega) hr2 (by simpa using hu2) (by simpa using nd2) hc2 hw2
      refine ⟨rest', xs', st', p', y3, ?_, f3, g3, n3, c3, w3, (d1.trans d2).trans d3⟩
      rw [while_step]
      have hat := atI_nat xs p lt
      have ee : ((p : Int) + 1) = ((p + 1 : Nat) : Int) := by omega
      have sF : sFor (iVal (mCall m__law_nearer (aCons (mOp oIxD (mVar 1) (mVar 2)) aNil))) (gN 3) ib [some v, some (.ref r), some (.int p), x3] st = .ok (.nx [some v, some (.ref r), some (.int p), x3']) st2 := by
        simp only [q_sFor, q_iVal, q_mCall, q_aCons, q_mOp, q_mVar, q_aNil, List.getElem?_cons_succ, List.getElem?_cons_zero, bind_ok, q_ixDR, withL_at hr, hat, q_optS, e1, q_seqR, withL_at hq]
        exact e2
      have tt : wtst [some v, some (.ref r), some (.int p), x3] st = .ok true st := by simp [withL_at hr, lt]
      rw [tt]
      simp only [bind_ok, if_true, q_sSeq]
      rw [sF]
      simp only [bind_ok, q_flowN]
      have sS : sSet 2 (mOp oAdd (mVar 2) (mC (.int 1))) [some v, some (.ref r), some (.int p), x3'] st2 = .ok (.nx [some v, some (.ref r), some (.int ((p + 1 : Nat) : Int)), x3']) st2 := by
        simp
      rw [sS]
      simp only [bind_ok]
      exact e3
theorem p_pieces {st : Sto} {t : Tr} {v : PV} (h : TR st t v) (ht : sz t ≤ 60) (hC : (cl t).length ≤ 1000) : ∃ r rest xs st', m__law_pieces [v] st = .ok (.ref r) st' ∧ st'[r]? = some (.lst xs) ∧ TRs st' (t :: rest) xs ∧ (((t :: rest).length : Nat) : Int) ≤ wt t ∧ (∀ u ∈ rest, wt u < wt t ∧ sz u ≤ sz t) ∧ Dk st st' := by
  have d0 := dk_app st [SO.lst [v]]
  obtain ⟨rest, xs, st', p', x3, e1, f1, g1, n1, c1, w1, d1⟩ := pc_loop t ht hC v st.length (cl t).length 0 lim [] [v] (st ++ [.lst [v]]) none (by omega) (Nat.zero_le _) (by show (cl t).length < 1000000; omega) (top_get _ _) (TRs.one (h.mono d0)) (by simp) (fun u hu => (show u = t by simpa using hu) ▸ cl_self t) (fun u hu => nomatch hu)
  have ul := nd_len n1 c1
  have cln := cl_len t
  refine ⟨st.length, rest, xs, st', ?_, f1, g1, by omega, w1, d0.trans d1⟩
  have e1' : sWhile wtst wbdy [some v, some (.ref st.length), some (.int 0), none] (st ++ [.lst [v]]) = .ok (.nx [some v, some (.ref st.length), some (.int p'), x3]) st' := e1
  simp only [m__law_pieces, mirror, g__law_pieces, gt__law_pieces_1, gt__law_pieces_2, gt__law_pieces_3]
  simp
  simp [e1']
end FK12

set_option Elab.async false
set_option linter.all false
set_option maxRecDepth 100000
set_option maxHeartbeats 4000000
namespace FK12
open PySem L2 PySem.W Mi
abbrev lb : PEnv → Mo Fl := (sIf (mB (mOp oGe (mCall m_weight (aCons (mVar 3) aNil)) (mVar 1)))
    (sRet (mC (.bl false)))
    sNext)
theorem li_loop (W : Int) (v : PV) (r q : Nat) (us : List Tr) (hw : ∀ u ∈ us, wt u < W ∧ sz u ≤ 60) (ys : List PV) : ∀ (k i m : Nat) (st : Sto) (x3 : Option PV), ys.length - i = k → i ≤ ys.length → k < m → st[q]? = some (.lst ys) → TRs st us ys →
    ∃ st' x3', forR (gN 3) lb q m i [some v, some (.int W), some (.ref r), x3] st = .ok (.nx [some v, some (.int W), some (.ref r), x3']) st' ∧ Old st st' := by
  intro k
  induction k with
  | zero =>
    intro i m st x3 hk hi hm hq hu
    obtain ⟨m', rfl⟩ : ∃ m', m = m' + 1 := ⟨m - 1, by omega⟩
    have : i = ys.length := by omega
    subst this
    exact ⟨st, x3, by simp [forR, withL, hq], Old.refl _⟩
  | succ k ih =>
    intro i m st x3 hk hi hm hq hu
    obtain ⟨m', rfl⟩ : ∃ m', m = m' + 1 := ⟨m - 1, by omega⟩
    have lt : i < ys.length := by omega
    obtain ⟨u, eu, ru⟩ := hu.get (List.getElem?_eq_getElem lt)
    obtain ⟨hlt, hsz⟩ := hw u (List.mem_of_getElem? eu)
    obtain ⟨st1, e1, o1⟩ := p_weight ru (by omega)
    obtain ⟨st', x3', e2, o2⟩ := ih (i + 1) m' st1 (some ys[i]) (by omega) (by omega) (by omega) (o1 _ _ hq) (hu.mono o1.dk)
    refine ⟨st', x3', ?_, o1.trans o2⟩
    rw [← e2]
    conv => lhs; unfold forR
    simp only [withL, hq, List.getElem?_eq_getElem lt, q_gN, List.set_cons_succ, List.set_cons_zero]
    have one : lb [some v, some (.int W), some (.ref r), some ys[i]] st = .ok (.nx [some v, some (.int W), some (.ref r), some ys[i]]) st1 := by
      have ng : ¬ W ≤ wt u := by omega
      simp [e1, ng]
    rw [one]
    simp only [bind_ok]
theorem lighter : Lighter := by
  intro t v st h hs hsm
  have hw := wt_sm t hsm
  have cl0 := cl_len t
  obtain ⟨r, rest, xs, st1, e1, f1, g1, l1, w1, d1⟩ := p_pieces h hs (by omega)
  have len := g1.len
  have xl : 1 ≤ xs.length := by simp only [List.length_cons] at len; omega
  have cd := cut_drop xs 1 xl
  have p2 : Pre st1 (st1 ++ [SO.lst (xs.drop 1)]) := Pre.of _ _
  have g2 := (g1.mono (dk_pre p2)).drop 1
  have dl : (xs.drop 1).length ≤ 1000 := by simp; omega
  obtain ⟨st2, x3, e2, o2⟩ := li_loop (wt t) v r st1.length rest (fun u hu => ⟨(w1 u hu).1, by have := (w1 u hu).2; omega⟩) (xs.drop 1) (xs.drop 1).length 0 (lim + 1) (st1 ++ [.lst (xs.drop 1)]) none (by omega) (Nat.zero_le _) (by show (xs.drop 1).length < 1000000 + 1; omega) (top_get _ _) (by simpa using g2)
  refine ⟨st2, ?_, (d1.trans (dk_pre p2)).trans o2.dk⟩
  have f3 := o2 _ _ (p2.get f1)
  have sA : sSet 2 (mCall m__law_pieces (aCons (mVar 0) aNil)) [some v, some (.int (wt t)), none, none] st = .ok (.nx [some v, some (.int (wt t)), some (.ref r), none]) st1 := by simp [e1]
  have sB : sFor (iVal (mSl (mVar 2) (pSome (mC (.int 1))) pNone)) (gN 3) lb [some v, some (.int (wt t)), some (.ref r), none] st1 = .ok (.nx [some v, some (.int (wt t)), some (.ref r), x3]) st2 := by
    have cd' : cutP xs (some (1 : Int)) none = xs.drop 1 := cd
    simp only [q_sFor, q_iVal, q_mSl, q_mVar, q_mC, q_pSome, q_pNone, q_asI, List.getElem?_cons_succ, List.getElem?_cons_zero, bind_ok, q_slR, withL_at f1, cd', q_seqR, withL_top]
    exact e2
  have ll : (xs.length : Int) ≤ wt t := by omega
  show (g__law_lighter [some v, some (.int (wt t)), none, none] st).bind endOf = _
  simp only [g__law_lighter, q_sSeq]
  rw [sA]
  simp only [bind_ok, q_flowN, gt__law_lighter_1, q_sSeq]
  rw [sB]
  simp [gt__law_lighter_2, withL_at f3, ll]
theorem p_law (ns : List Int) : ∃ st, m_law [.frl (ns.map PV.int)] [] = .ok (.bl true) st := law_by lighter ns
end FK12

open PySem PySem.W PyProof.Rows
set_option maxRecDepth 100000
set_option maxHeartbeats 0
open_top hdT for PySem.Challenge.rw_foreknown_k12_weights
theorem PySem.Challenge.cw_foreknown_k12_weights_holds : PySem.Challenge.rw_foreknown_k12_weights.Holds :=
  hdT (by
  k_fill
  refine Mi.walkM (l := PySem.Challenge.rw_foreknown_k12_weights) (k := 5) (x := "_law_script") rfl rfl ⟨rfl, by decide, by decide⟩ (fun w h Y => PySem.W.kIn_of Y) ?F
  case F =>
    intro w mg fa h KX G hmg
    have f__law_cell : Mi.FnF (L2.KOf KX) mg "_law_cell" FK12.s__law_cell ["_law_script", "_law_k"] := by
      dsimp only [L2.KOf]
      refine' Mi.fnF_mk KX G ?a ?l ?c ?k ?b
      (case a => k_is)
      (case l => k_is)
      (case c => k_is)
      (case k => k_is)
      (case b => exact fun _ _ _ _ _ _ us hl => match us, hl with | [_, _], _ => rfl)
    have f__law_word : Mi.FnF (L2.KOf KX) mg "_law_word" FK12.s__law_word ["_law_cell_here"] := by
      dsimp only [L2.KOf]
      refine' Mi.fnF_mk KX G ?a ?l ?c ?k ?b
      (case a => k_is)
      (case l => k_is)
      (case c => k_is)
      (case k => k_is)
      (case b => exact fun _ _ _ _ _ _ us hl => match us, hl with | [_], _ => rfl)
    have f__law_number : Mi.FnF (L2.KOf KX) mg "_law_number" FK12.s__law_number ["_law_cell_here"] := by
      dsimp only [L2.KOf]
      refine' Mi.fnF_mk KX G ?a ?l ?c ?k ?b
      (case a => k_is)
      (case l => k_is)
      (case c => k_is)
      (case k => k_is)
      (case b => exact fun _ _ _ _ _ _ us hl => match us, hl with | [_], _ => rfl)
    have f__law_leaf : Mi.FnF (L2.KOf KX) mg "_law_leaf" FK12.s__law_leaf ["_law_cell_here", "_law_small"] := by
      dsimp only [L2.KOf]
      refine' Mi.fnF_mk KX G ?a ?l ?c ?k ?b
      (case a => k_is)
      (case l => k_is)
      (case c => k_is)
      (case k => k_is)
      (case b => exact fun _ _ _ _ _ _ us hl => match us, hl with | [_, _], _ => rfl)
    have f__law_record : Mi.FnF (L2.KOf KX) mg "_law_record" FK12.s__law_record ["_law_cell_here", "_law_things"] := by
      dsimp only [L2.KOf]
      refine' Mi.fnF_mk KX G ?a ?l ?c ?k ?b
      (case a => k_is)
      (case l => k_is)
      (case c => k_is)
      (case k => k_is)
      (case b => exact fun _ _ _ _ _ _ us hl => match us, hl with | [_, _], _ => rfl)
    have f__law_built : Mi.FnF (L2.KOf KX) mg "_law_built" FK12.s__law_built ["_law_script", "_law_size", "_law_small"] := by
      dsimp only [L2.KOf]
      refine' Mi.fnF_mk KX G ?a ?l ?c ?k ?b
      (case a => k_is)
      (case l => k_is)
      (case c => k_is)
      (case k => k_is)
      (case b => exact fun _ _ _ _ _ _ us hl => match us, hl with | [_, _, _], _ => rfl)
    have f__law_made : Mi.FnF (L2.KOf KX) mg "_law_made" FK12.s__law_made ["_law_script"] := by
      dsimp only [L2.KOf]
      refine' Mi.fnF_mk KX G ?a ?l ?c ?k ?b
      (case a => k_is)
      (case l => k_is)
      (case c => k_is)
      (case k => k_is)
      (case b => exact fun _ _ _ _ _ _ us hl => match us, hl with | [_], _ => rfl)
    have f__law_count : Mi.FnF (L2.KOf KX) mg "_law_count" FK12.s__law_count ["_law_found", "_law_due"] := by
      dsimp only [L2.KOf]
      refine' Mi.fnF_mk KX G ?a ?l ?c ?k ?b
      (case a => k_is)
      (case l => k_is)
      (case c => k_is)
      (case k => k_is)
      (case b => exact fun _ _ _ _ _ _ us hl => match us, hl with | [_, _], _ => rfl)
    have f_things_within : Mi.FnF (L2.KOf KX) mg "things_within" FK12.s_things_within ["thing"] := by
      dsimp only [L2.KOf]
      refine' Mi.fnF_mk KX G ?a ?l ?c ?k ?b
      (case a => k_is)
      (case l => k_is)
      (case c => k_is)
      (case k => k_is)
      (case b => exact fun _ _ _ _ _ _ us hl => match us, hl with | [_], _ => rfl)
    have f_all_within : Mi.FnF (L2.KOf KX) mg "all_within" FK12.s_all_within ["thing"] := by
      dsimp only [L2.KOf]
      refine' Mi.fnF_mk KX G ?a ?l ?c ?k ?b
      (case a => k_is)
      (case l => k_is)
      (case c => k_is)
      (case k => k_is)
      (case b => exact fun _ _ _ _ _ _ us hl => match us, hl with | [_], _ => rfl)
    have f_kind_of : Mi.FnF (L2.KOf KX) mg "kind_of" FK12.s_kind_of ["value"] := by
      dsimp only [L2.KOf]
      refine' Mi.fnF_mk KX G ?a ?l ?c ?k ?b
      (case a => k_is)
      (case l => k_is)
      (case c => k_is)
      (case k => k_is)
      (case b => exact fun _ _ _ _ _ _ us hl => match us, hl with | [_], _ => rfl)
    have f_own_weight : Mi.FnF (L2.KOf KX) mg "own_weight" FK12.s_own_weight ["part"] := by
      dsimp only [L2.KOf]
      refine' Mi.fnF_mk KX G ?a ?l ?c ?k ?b
      (case a => k_is)
      (case l => k_is)
      (case c => k_is)
      (case k => k_is)
      (case b => exact fun _ _ _ _ _ _ us hl => match us, hl with | [_], _ => rfl)
    have f_weight : Mi.FnF (L2.KOf KX) mg "weight" FK12.s_weight ["value"] := by
      dsimp only [L2.KOf]
      refine' Mi.fnF_mk KX G ?a ?l ?c ?k ?b
      (case a => k_is)
      (case l => k_is)
      (case c => k_is)
      (case k => k_is)
      (case b => exact fun _ _ _ _ _ _ us hl => match us, hl with | [_], _ => rfl)
    have f__law_nearer : Mi.FnF (L2.KOf KX) mg "_law_nearer" FK12.s__law_nearer ["_law_one"] := by
      dsimp only [L2.KOf]
      refine' Mi.fnF_mk KX G ?a ?l ?c ?k ?b
      (case a => k_is)
      (case l => k_is)
      (case c => k_is)
      (case k => k_is)
      (case b => exact fun _ _ _ _ _ _ us hl => match us, hl with | [_], _ => rfl)
    have f__law_pieces : Mi.FnF (L2.KOf KX) mg "_law_pieces" FK12.s__law_pieces ["_law_value"] := by
      dsimp only [L2.KOf]
      refine' Mi.fnF_mk KX G ?a ?l ?c ?k ?b
      (case a => k_is)
      (case l => k_is)
      (case c => k_is)
      (case k => k_is)
      (case b => exact fun _ _ _ _ _ _ us hl => match us, hl with | [_], _ => rfl)
    have f__law_lighter : Mi.FnF (L2.KOf KX) mg "_law_lighter" FK12.s__law_lighter ["_law_value", "_law_heavy"] := by
      dsimp only [L2.KOf]
      refine' Mi.fnF_mk KX G ?a ?l ?c ?k ?b
      (case a => k_is)
      (case l => k_is)
      (case c => k_is)
      (case k => k_is)
      (case b => exact fun _ _ _ _ _ _ us hl => match us, hl with | [_, _], _ => rfl)
    have f_law : Mi.FnF (L2.KOf KX) mg "law" FK12.s_law ["_law_script"] := by
      dsimp only [L2.KOf]
      refine' Mi.fnF_mk KX G ?a ?l ?c ?k ?b
      (case a => k_is)
      (case l => k_is)
      (case c => k_is)
      (case k => k_is)
      (case b => exact fun _ _ _ _ _ _ us hl => match us, hl with | [_], _ => rfl)
    have b_bool : mg "bool" = none := by
      refine' Mi.b_mk KX G ?a
      (case a => k_is)
    have b_dict : mg "dict" = none := by
      refine' Mi.b_mk KX G ?a
      (case a => k_is)
    have b_int : mg "int" = none := by
      refine' Mi.b_mk KX G ?a
      (case a => k_is)
    have b_isinstance : mg "isinstance" = none := by
      refine' Mi.b_mk KX G ?a
      (case a => k_is)
    have b_len : mg "len" = none := by
      refine' Mi.b_mk KX G ?a
      (case a => k_is)
    have b_list : mg "list" = none := by
      refine' Mi.b_mk KX G ?a
      (case a => k_is)
    have b_max : mg "max" = none := by
      refine' Mi.b_mk KX G ?a
      (case a => k_is)
    have b_min : mg "min" = none := by
      refine' Mi.b_mk KX G ?a
      (case a => k_is)
    have b_range : mg "range" = none := by
      refine' Mi.b_mk KX G ?a
      (case a => k_is)
    have b_str : mg "str" = none := by
      refine' Mi.b_mk KX G ?a
      (case a => k_is)
    have b_sum : mg "sum" = none := by
      refine' Mi.b_mk KX G ?a
      (case a => k_is)
    have b_tuple : mg "tuple" = none := by
      refine' Mi.b_mk KX G ?a
      (case a => k_is)
    have is : Mi.IsF (L2.KOf KX) mg FK12.isT := by
      exact Mi.isF_none rfl rfl rfl
    have T : FK12.Txt w (L2.KOf KX) mg := ⟨f__law_cell, f__law_word, f__law_number, f__law_leaf, f__law_record, f__law_built, f__law_made, f__law_count, f_things_within, f_all_within, f_kind_of, f_own_weight, f_weight, f__law_nearer, f__law_pieces, f__law_lighter, f_law, b_bool, b_dict, b_int, b_isinstance, b_len, b_list, b_max, b_min, b_range, b_str, b_sum, b_tuple, is⟩
    exact Mi.law_of T.f_law hmg (fun _ _ _ _ _ _ _ => rfl) (fun f fd F base => FK12.okfn_law T F) (fun ns _ => FK12.p_law ns))
