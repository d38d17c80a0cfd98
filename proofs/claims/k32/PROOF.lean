import PyProof.Rows.All
import Wide.All
import OpenK.AllK
import Wide.FinOn
import Lean
import PyProof.EqAt
import PyProof.EqKinds
import PyProof.TupleCall
import PySem.Challenge.RW_foreknown_k32_ifs_and_fails
set_option Elab.async false
set_option linter.all false
set_option maxRecDepth 100000
namespace L2
open PySem PySem.Spec PyProof.Rows
abbrev Key := Sum Int Str
def keyIs : Key → Value → Bool
  | .inl k, v => Value.isInt k v
  | .inr x, v => Value.isStrOf x v
def keyH (w : World) : Key → Int
  | .inl k => hashInt k
  | .inr x => hashStr w x
theorem zR : ∀ {k : Key} {v : Value}, keyIs k v = true → (∃ i t, k = Sum.inl i ∧ v = Value.int i t) ∨ (∃ x t, k = Sum.inr x ∧ v = Value.str x t)
  | .inl i, v, h => by
    obtain ⟨t, e⟩ := Value.isInt_shape (k := i) (v := v) h
    exact .inl ⟨i, t, rfl, e⟩
  | .inr x, v, h => by
    obtain ⟨t, e⟩ := Value.isStrOf_shape (x := x) (v := v) h
    exact .inr ⟨x, t, rfl, e⟩
theorem zgO (i : Int) (t : Tok) : keyIs (.inl i) (.int i t) = true := by simp [keyIs, Value.isInt]
theorem zgP (x : Str) (t : Tok) : keyIs (.inr x) (.str x t) = true := by simp [keyIs, Value.isStrOf]
theorem zln (a b : Int) : decide ((Sum.inl a : Key) = Sum.inl b) = (a == b) := by
  by_cases e : a = b
  · subst e; simp
  · have h : ¬ (Sum.inl a : Key) = Sum.inl b := fun q => e (Sum.inl.inj q)
    rw [decide_eq_false h]
    exact (beq_eq_false_iff_ne.mpr e).symm
theorem zlo (a b : Str) : decide ((Sum.inr a : Key) = Sum.inr b) = decide (a = b) := by
  by_cases e : a = b
  · subst e; simp
  · have h : ¬ (Sum.inr a : Key) = Sum.inr b := fun q => e (Sum.inr.inj q)
    rw [decide_eq_false h, decide_eq_false e]
theorem zlp (a : Int) (b : Str) : decide ((Sum.inl a : Key) = Sum.inr b) = false := decide_eq_false (fun q => nomatch q)
theorem zlq (a : Str) (b : Int) : decide ((Sum.inr a : Key) = Sum.inl b) = false := decide_eq_false (fun q => nomatch q)
def mixKind (prog : Program) (w : World) : PySem.KeyKind prog w Key where
  is := keyIs
  hash := keyH w
  inj := fun v a b ha hb => by
    rcases zR ha with ⟨i, t, rfl, rfl⟩ | ⟨x, t, rfl, rfl⟩
    · rcases zR hb with ⟨j, u, rfl, e⟩ | ⟨y, u, rfl, e⟩
      · injection e with e1 _; rw [e1]
      · exact nomatch e
    · rcases zR hb with ⟨j, u, rfl, e⟩ | ⟨y, u, rfl, e⟩
      · exact nomatch e
      · injection e with e1 _; rw [e1]
  byValue := fun k v h => by
    rcases zR h with ⟨i, t, rfl, rfl⟩ | ⟨x, t, rfl, rfl⟩ <;> rfl
  pyHash := fun hv h => by
    rcases zR hv with ⟨i, t, rfl, rfl⟩ | ⟨x, t, rfl, rfl⟩
    · exact wpAny_pyHash_int h
    · exact wpAny_pyHash_str h
  eqBool := fun hu hv h => by
    rcases zR hu with ⟨i, t, rfl, rfl⟩ | ⟨x, t, rfl, rfl⟩
    · rcases zR hv with ⟨j, u, rfl, rfl⟩ | ⟨y, u, rfl, rfl⟩
      · rw [zln] at h; exact wpAny_eqBool_int h
      · rw [zlp] at h; exact SeqAt.EqAt.int_str i t y u _ _ _ _ h
    · rcases zR hv with ⟨j, u, rfl, rfl⟩ | ⟨y, u, rfl, rfl⟩
      · rw [zlq] at h; exact SeqAt.EqAt.str_int x t j u _ _ _ _ h
      · rw [zlo] at h; exact wpAny_eqBool_str h
  «strs» := fun k x t v h => by
    rcases zR h with ⟨i, u, rfl, e⟩ | ⟨y, u, rfl, e⟩
    · exact nomatch e
    · injection e with e1 _
      subst e1
      cases v <;> rfl
theorem zfn (prog : Program) (w : World) (i : Int) (t : Tok) : (mixKind prog w).is (.inl i) (.int i t) = true := zgO i t
theorem zfo (prog : Program) (w : World) (x : Str) (t : Tok) : (mixKind prog w).is (.inr x) (.str x t) = true := zgP x t
end L2
namespace L2
open PySem PySem.Spec PyProof.Rows
inductive V where
  | non | bl (b : Bool) | int (i : Int) | str (x : Str) | byt (b : Array UInt8) | flt (b : UInt64) | ref (a : Addr) | ty (n : String)
  deriving DecidableEq
def RelV : V → Value → Prop
  | .non, u => u = Value.none
  | .bl b, u => u = Value.bool b
  | .int i, u => ∃ t, u = Value.int i t
  | .str x, u => ∃ t, u = Value.str x t
  | .byt b, u => ∃ t, u = Value.bytes b t
  | .flt b, u => ∃ t, u = Value.float b t
  | .ref a, u => u = Value.ref a
  | .ty n, u => u = Value.type n
abbrev Vals : List V → List Value → Prop := Paired RelV
theorem Vals.length {xs : List V} {us : List Value} (r : Vals xs us) : xs.length = us.length := Paired.length r
theorem Vals.get : ∀ {xs : List V} {us : List Value} {i : Nat} {x : V}, Vals xs us → xs[i]? = some x → ∃ u, us[i]? = some u ∧ RelV x u
  | _, _, _, _, .nil, e => by simp at e
  | _, _, 0, _, .cons r _, e => by simp at e; subst e; exact ⟨_, rfl, r⟩
  | _, _, i + 1, x, .cons _ t, e => by
    obtain ⟨u, h1, h2⟩ := Vals.get (i := i) (x := x) t (by simpa using e)
    exact ⟨u, by simpa using h1, h2⟩
theorem Vals.append : ∀ {xs ys : List V} {us ws : List Value}, Vals xs us → Vals ys ws → Vals (xs ++ ys) (us ++ ws)
  | _, _, _, _, .nil, s => s
  | _, _, _, _, .cons r t, s => .cons r (Vals.append t s)
theorem Vals.take : ∀ {xs : List V} {us : List Value} (n : Nat), Vals xs us → Vals (xs.take n) (us.take n)
  | _, _, 0, _ => .nil
  | _, _, _ + 1, .nil => .nil
  | _, _, n + 1, .cons r t => .cons r (Vals.take n t)
theorem Vals.drop : ∀ {xs : List V} {us : List Value} (n : Nat), Vals xs us → Vals (xs.drop n) (us.drop n)
  | _, _, 0, r => r
  | _, _, _ + 1, .nil => .nil
  | _, _, n + 1, .cons _ t => Vals.drop n t
def RelO : Option V → Option Value → Prop
  | some v, some u => RelV v u
  | none, none => True
  | _, _ => False
def KV {κ : Type} : List (κ × V) → List (κ × Value) → Prop := Paired fun (p : κ × V) (q : κ × Value) => p.1 = q.1 ∧ RelV p.2 q.2
def kV : Key → V
  | .inl i => .int i
  | .inr x => .str x
inductive HO where
  | lst (xs : List V)
  | tup (xs : List V)
  | dK (kvs : List (Key × V)) | dT (kvs : List (List Key × V))
  | set (S : Int → Bool) (n : Nat)
  | ins (C dx : Addr) (fs : List (Str × V))
  | own (x : Addr)
  | xd (fs : List (Str × V))
  | met (f x : Addr)
  | rng (lo hi : Int)
  | frz (o : Obj) (u : HO)
  | tbl (ps : Array Value)
  | ext (φ : Heap → Prop)
abbrev Hp := Addr → Option HO
def upd (H : Hp) (a : Addr) (o : HO) : Hp := fun b => if b = a then some o else H b
theorem zu {H : Hp} {a : Addr} {o : HO} : upd H a o a = some o := by unfold upd; rw [if_pos rfl]
theorem zq {H : Hp} {a b : Addr} {o : HO} (h : b ≠ a) : upd H a o b = H b := by unfold upd; rw [if_neg h]
theorem zjX {H : Hp} {a : Addr} {o u : HO} : upd (upd H a o) a u = upd H a u := by
  funext b; unfold upd; split <;> rfl
theorem zmZ {H : Hp} {a b : Addr} {o u : HO} (h : H a = some o) (h' : H b = some u) (d : o ≠ u) : a ≠ b := by
  intro e; subst e; rw [h] at h'; exact d (Option.some.inj h')
theorem zT {H : Hp} {a b : Addr} {o : HO} (h : H a = some o) (h' : H b = none) : a ≠ b := by
  intro e; subst e; rw [h] at h'; cases h'
section
variable (P : Program) (w : World)
def ObjOk (H : Hp) (h : Heap) (a : Addr) : HO → Prop
  | .lst xs => xs.length ≤ sizeLine ∧ ∃ (its : List Value) (n : Nat), Vals xs its ∧ h.get? a = some { cls := .type "list", data := .seq its.toArray n }
  | .tup xs => xs.length ≤ sizeLine ∧ ∃ its : List Value, Vals xs its ∧ IsTup h a its.toArray
  | .dK kvs => kvs.length ≤ sizeLine ∧ (a == sysModules) = false ∧ ∃ vs, KV kvs vs ∧ h.DictOf (mixKind P w) a vs
  | .dT kvs => kvs.length ≤ sizeLine ∧ (a == sysModules) = false ∧ ∃ xs : List (List Key × Addr × Value),
      Paired (fun (p : List Key × V) (q : List Key × Addr × Value) => p.1 = q.1 ∧ H q.2.1 = some (.tup (p.1.map kV)) ∧ RelV p.2 q.2.2) kvs xs ∧
      ∃ o es ep, h.get? a = some o ∧ o.ExactDict ∧ o.data = .dict es ep ∧ es.toList = xs.map (entryOfKey (tupleKind (mixKind P w))) ∧ (xs.map (·.1)).Nodup
  | .set S n => h.SetOf (intKind P w) a S n
  | .ins C dx fs => H dx = some (.own a) ∧ fs.length ≤ 1000 ∧ dx ≠ a ∧ h.get? a = some (PySem.W.instObj C dx) ∧
      ∃ mA, h.Ns1 dx mA ∧ (∀ f, RelO (fs.lookup f) (mA f)) ∧ PySem.Within mA (fs.map (·.1))
  | .own _ => ∃ o, h.get? a = some o
  | .xd fs => ∃ mA, h.Ns1 a mA ∧ ∀ f, RelO (fs.lookup f) (mA f)
  | .rng lo hi => ∃ t u v, h.get? a = some { cls := .type "range", data := .fields #[.int lo t, .int hi u, .int 1 v] }
  | .frz o u => h.get? a = some o ∧ ObjOk H h a u
  | .tbl ps => h.get? a = some { cls := .none, data := .fields ps }
  | .met f x => h.get? a = some (PySem.W.methodObj (.ref f) (.ref x))
  | .ext φ => φ h ∧ (∃ o, h.get? a = some o) ∧ ∀ h1 h2 : Heap, φ h1 → (∀ o, h1.get? a = some o → h2.get? a = some o) → φ h2
def HOk (H : Hp) (h : Heap) : Prop := ∀ a o, H a = some o → ObjOk P w H h a o
end
section
variable {P : Program} {w : World} {H H' : Hp} {h h' : Heap} {a : Addr} {o : HO}
theorem ObjOk.lt (x : ObjOk P w H h a o) : a < h.objs.size := by
  cases o with
  | lst xs => obtain ⟨_, _, _, _, e⟩ := x; exact Heap.lt_size e
  | tup xs => obtain ⟨_, _, _, p⟩ := x; exact p.lt
  | dK kvs => obtain ⟨_, _, _, _, o, _, _, e, _⟩ := x; exact Heap.lt_size e
  | dT kvs => obtain ⟨_, _, _, _, o, _, _, e, _⟩ := x; exact Heap.lt_size e
  | set S n => obtain ⟨o, _, _, _, e, _⟩ := x; exact Heap.lt_size e
  | ins C dx fs => obtain ⟨_, _, _, e, _⟩ := x; exact Heap.lt_size e
  | own y => obtain ⟨_, e⟩ := x; exact Heap.lt_size e
  | xd fs => obtain ⟨_, ⟨_, _, _, e, _⟩, _⟩ := x; exact Heap.lt_size e
  | rng lo hi => obtain ⟨_, _, _, e⟩ := x; exact Heap.lt_size e
  | frz ob u => obtain ⟨e, _⟩ := x; exact Heap.lt_size e
  | tbl ps => exact Heap.lt_size (show h.get? a = some _ from x)
  | met f y => exact Heap.lt_size (show h.get? a = some _ from x)
  | ext φ => obtain ⟨_, ⟨_, e⟩, _⟩ := x; exact Heap.lt_size e
theorem Paired.mapP {α β : Type} {F G : α → β → Prop} : ∀ {l₁ : List α} {l₂ : List β}, Paired F l₁ l₂ → (∀ a b, F a b → G a b) → Paired G l₁ l₂
  | _, _, .nil, _ => .nil
  | _, _, .cons r t, f => .cons (f _ _ r) (Paired.mapP t f)
theorem ObjOk.stay (x : ObjOk P w H h a o) (k : ∀ b u, (b = a ∨ H b = some (.own a)) → h.get? b = some u → h'.get? b = some u)
    (ho : ∀ b, H b = some (.own a) → H' b = some (.own a)) (ht : ∀ b xs, H b = some (.tup xs) → H' b = some (.tup xs)) : ObjOk P w H' h' a o := by
  induction o with
  | lst xs => obtain ⟨z, its, n, r, e⟩ := x; exact ⟨z, its, n, r, k _ _ (.inl rfl) e⟩
  | tup xs => obtain ⟨z, its, r, ob, e, c⟩ := x; exact ⟨z, its, r, ob, k _ _ (.inl rfl) e, c⟩
  | dK kvs => obtain ⟨z, y, vs, r, ob, es, ep, e, c⟩ := x; exact ⟨z, y, vs, r, ob, es, ep, k _ _ (.inl rfl) e, c⟩
  | dT kvs =>
    obtain ⟨z, y, xs, r, ob, es, ep, e, c⟩ := x
    exact ⟨z, y, xs, Paired.mapP r fun p q z => ⟨z.1, ht _ _ z.2.1, z.2.2⟩, ob, es, ep, k _ _ (.inl rfl) e, c⟩
  | set S n => obtain ⟨ob, es, ep, t, e, c⟩ := x; exact ⟨ob, es, ep, t, k _ _ (.inl rfl) e, c⟩
  | ins C dx fs =>
    obtain ⟨d, z, ne, e, mA, ⟨od, es, ep, e2, c⟩, r⟩ := x
    exact ⟨ho _ d, z, ne, k _ _ (.inl rfl) e, mA, ⟨od, es, ep, k _ _ (.inr d) e2, c⟩, r⟩
  | own y => obtain ⟨ob, e⟩ := x; exact ⟨ob, k _ _ (.inl rfl) e⟩
  | xd fs => obtain ⟨mA, ⟨od, es, ep, e, c⟩, r⟩ := x; exact ⟨mA, ⟨od, es, ep, k _ _ (.inl rfl) e, c⟩, r⟩
  | rng lo hi => obtain ⟨t, u, v, e⟩ := x; exact ⟨t, u, v, k _ _ (.inl rfl) e⟩
  | frz ob u ih => obtain ⟨e, q⟩ := x; exact ⟨k _ _ (.inl rfl) e, ih q⟩
  | tbl ps =>
    have e : h.get? a = some { cls := .none, data := .fields ps } := x
    show h'.get? a = some { cls := .none, data := .fields ps }
    exact k a _ (.inl rfl) e
  | met f y =>
    have e : h.get? a = some (PySem.W.methodObj (.ref f) (.ref y)) := x
    show h'.get? a = some (PySem.W.methodObj (.ref f) (.ref y))
    exact k a _ (.inl rfl) e
  | ext φ => obtain ⟨p, ⟨o, e⟩, st⟩ := x; exact ⟨st _ _ p fun o q => k _ _ (.inl rfl) q, ⟨o, k _ _ (.inl rfl) e⟩, st⟩
theorem HOk.lt (x : HOk P w H h) (e : H a = some o) : a < h.objs.size := (x a o e).lt
theorem HOk.fresh (x : HOk P w H h) (e : h.objs.size ≤ a) : H a = none := by
  cases q : H a with
  | none => rfl
  | some u => exact absurd (Nat.lt_of_lt_of_le (x.lt q) e) (Nat.lt_irrefl _)
theorem HOk.kept (x : HOk P w H h) (k : ∀ b u, h.get? b = some u → h'.get? b = some u) : HOk P w H h' := fun a o e =>
  (x a o e).stay (fun b u _ q => k b u q) (fun _ q => q) fun _ _ q => q
theorem HOk.laid (x : HOk P w H h) (k : ∀ b u, h.get? b = some u → h'.get? b = some u) (hp : h.objs.size ≤ a) (new : ObjOk P w (upd H a o) h' a o) : HOk P w (upd H a o) h' := fun b u e => by
  have hn := x.fresh hp
  by_cases hb : b = a
  · subst hb; rw [zu] at e; cases e; exact new
  · rw [zq hb] at e
    exact (x b u e).stay (fun c v _ q => k c v q) (fun c q => by rw [zq (zT q hn)]; exact q) fun c xs q => by rw [zq (zT q hn)]; exact q
end
def Rd (H : Hp) (a : Addr) (u : HO) : Prop := H a = some u ∨ ∃ o, H a = some (.frz o u)
theorem Rd.ok {P : Program} {w : World} {H : Hp} {h : Heap} {a : Addr} {u : HO} (r : Rd H a u) (x : HOk P w H h) : ObjOk P w H h a u := by
  rcases r with r | ⟨o, r⟩
  · exact x a u r
  · obtain ⟨_, q⟩ := x a _ r
    exact q
def Mut : Option HO → Prop
  | some (.lst _) => True
  | some (.dK _) => True
  | some (.dT _) => True
  | some (.set _ _) => True
  | some (.ins _ _ _) => True
  | some (.ext _) => True
  | _ => False
section
variable {P : Program} {w : World} {H : Hp} {h h' : Heap} {x e : Addr} {o' : HO}
theorem HOk.write (ok : HOk P w H h) (mu : Mut (H x)) (he : e = x ∨ H e = some (.own x)) (k : ∀ b u, b ≠ e → h.get? b = some u → h'.get? b = some u) (heo : ∃ u, h'.get? e = some u)
    (new : ObjOk P w (upd H x o') h' x o') : HOk P w (upd H x o') h' := fun b u q => by
  have nown : ∀ c y, H c = some (.own y) → c ≠ x := fun c y r z => by subst z; rw [r] at mu; exact mu
  have ntup : ∀ c xs, H c = some (.tup xs) → c ≠ x := fun c xs r z => by subst z; rw [r] at mu; exact mu
  by_cases hb : b = x
  · subst hb; rw [zu] at q; cases q; exact new
  · rw [zq hb] at q
    by_cases hbe : b = e
    · have q' : H b = some (.own x) := by
        rcases he with z | z
        · exact absurd (hbe.trans z) hb
        · rw [hbe]; exact z
      rw [q] at q'; cases q'
      obtain ⟨v, hv⟩ := heo
      exact ⟨v, by rw [hbe]; exact hv⟩
    · refine (ok b u q).stay (fun c v hc r => k c v ?_ r) (fun c r => by rw [zq (nown c b r)]; exact r) fun c xs r => by rw [zq (ntup c xs r)]; exact r
      rcases hc with rfl | hc
      · exact hbe
      · rintro rfl
        rcases he with z | z
        · exact nown c b hc z
        · rw [hc] at z; cases z; exact hb rfl
end
structure Un (fs ex : List Addr) (H H' : Hp) (h h' : Heap) : Prop where
  keep : ∀ b o, h.get? b = some o → H b = none → b ∉ fs → b ∉ ex → h'.get? b = some o
  slot : ∀ b o, h.get? b = some o → H b = none → b ∈ fs → b ∉ ex → ∃ sl, h'.get? b = some { o with slots := sl }
  free : ∀ b o, h.get? b = some o → H b = none → b ∉ ex → H' b = none
  there : ∀ b o, h.get? b = some o → b ∉ ex → ∃ o', h'.get? b = some o'
  tups : ∀ b xs, H b = some (.tup xs) → H' b = some (.tup xs)
  frzs : ∀ b o u, H b = some (.frz o u) → H' b = some (.frz o u)
  tbls : ∀ b ps, H b = some (.tbl ps) → ∃ more, H' b = some (.tbl (ps ++ more))
section
variable {fs fs' ex ex' : List Addr} {H H1 H2 : Hp} {h h1 h2 h' : Heap} {a x e : Addr} {o : HO}
theorem Un.any (u : Un fs ex H H1 h h1) {b : Addr} {ob : Obj} (q : h.get? b = some ob) (n : H b = none) (hx : b ∉ ex) : ∃ sl, h1.get? b = some { ob with slots := sl } := by
  by_cases hb : b ∈ fs
  · exact u.slot b ob q n hb hx
  · exact ⟨ob.slots, u.keep b ob q n hb hx⟩
theorem Un.trans (a : Un fs ex H H1 h h1) (b : Un fs ex H1 H2 h1 h2) : Un fs ex H H2 h h2 where
  keep := fun c ob q n hc hx => b.keep c ob (a.keep c ob q n hc hx) (a.free c ob q n hx) hc hx
  slot := fun c ob q n hc hx => by
    obtain ⟨sl, e1⟩ := a.slot c ob q n hc hx
    obtain ⟨sl', e2⟩ := b.slot c _ e1 (a.free c ob q n hx) hc hx
    exact ⟨sl', e2⟩
  free := fun c ob q n hx => by
    obtain ⟨o', e1⟩ := a.there c ob q hx
    exact b.free c o' e1 (a.free c ob q n hx) hx
  there := fun c ob q hx => by
    obtain ⟨o', e1⟩ := a.there c ob q hx
    exact b.there c o' e1 hx
  tups := fun c xs q => b.tups c xs (a.tups c xs q)
  frzs := fun c ob xs q => b.frzs c ob xs (a.frzs c ob xs q)
  tbls := fun c ps q => by
    obtain ⟨m1, e1⟩ := a.tbls c ps q
    obtain ⟨m2, e2⟩ := b.tbls c _ e1
    exact ⟨m1 ++ m2, by rw [e2, Array.append_assoc]⟩
theorem Un.kept (k : ∀ b u, h.get? b = some u → h'.get? b = some u) : Un fs ex H H h h' :=
  ⟨fun b ob q _ _ _ => k b ob q, fun b ob q _ _ _ => ⟨ob.slots, k b ob q⟩, fun _ _ _ n _ => n, fun b ob q _ => ⟨ob, k b ob q⟩, fun _ _ q => q, fun _ _ _ q => q, fun _ ps q => ⟨#[], by rw [q]; simp⟩⟩
theorem Un.refl : Un fs ex H H h h := Un.kept fun _ _ q => q
theorem Un.laid (k : ∀ b u, h.get? b = some u → h'.get? b = some u) (hp : h.objs.size ≤ a) (hn : H a = none) : Un fs ex H (upd H a o) h h' where
  keep := fun b u q _ _ _ => k b u q
  slot := fun b u q _ _ _ => ⟨u.slots, k b u q⟩
  free := fun b u q n _ => by rw [zq (Nat.ne_of_lt (Nat.lt_of_lt_of_le (Heap.lt_size q) hp))]; exact n
  there := fun b u q _ => ⟨u, k b u q⟩
  tups := fun b xs q => by rw [zq (zT q hn)]; exact q
  frzs := fun b u xs q => by rw [zq (zT q hn)]; exact q
  tbls := fun b ps q => ⟨#[], by rw [zq (zT q hn), q]; simp⟩
theorem Un.write (mu : Mut (H x)) (he : e = x ∨ H e = some (.own x)) (k : ∀ b u, b ≠ e → h.get? b = some u → h'.get? b = some u) (heo : ∃ u, h'.get? e = some u) : Un fs ex H (upd H x o) h h' := by
  have hx : ∀ b, H b = none → b ≠ x := fun b n z => by subst z; rw [n] at mu; exact mu
  have hb : ∀ b, H b = none → b ≠ e := fun b n z => by
    subst z
    rcases he with r | r
    · exact hx b n r
    · rw [n] at r; cases r
  have hm : ∀ b u, H b = some u → ¬ Mut (some u) → b ≠ x := fun b u q nm z => by subst z; rw [q] at mu; exact nm mu
  refine ⟨fun b u q n _ _ => k b u (hb b n) q, fun b u q n _ _ => ⟨u.slots, k b u (hb b n) q⟩, fun b u q n _ => by rw [zq (hx b n)]; exact n, fun b u q _ => ?_,
    fun b xs q => by rw [zq (hm b _ q fun z => z)]; exact q, fun b u xs q => by rw [zq (hm b _ q fun z => z)]; exact q, fun b ps q => ⟨#[], by rw [zq (hm b _ q fun z => z), q]; simp⟩⟩
  by_cases hbe : b = e
  · subst hbe; exact heo
  · exact ⟨u, k b u hbe q⟩
end
def trk (h : Heap) (H : Hp) : List Addr := (List.range h.objs.size).filter fun a => (H a).isSome
def hidT (h : Heap) (H : Hp) : Heap := PySem.W.hideAll h (trk h H)
theorem zgQ (h : Heap) (H : Hp) : (hidT h H).objs.size = h.objs.size := PySem.W.hideAll_size _ _
theorem zii {h : Heap} {H : Hp} {b : Addr} {o : Obj} (e : h.get? b = some o) (n : H b = none) : (hidT h H).get? b = some o :=
  PySem.W.hideAll_get _ e fun hm => by
    have q : (H b).isSome = true := (List.mem_filter.mp hm).2
    rw [n] at q; simp at q
theorem zjY {h : Heap} {H : Hp} {b : Addr} {o : Obj} (e : (hidT h H).get? b = some o) : h.get? b = some o ∧ H b = none := by
  have e' : h.get? b = some o := PySem.W.of_hideAll (trk h H) e
  refine ⟨e', ?_⟩
  cases q : H b with
  | none => rfl
  | some x =>
    have hm : b ∈ trk h H := List.mem_filter.mpr ⟨List.mem_range.mpr (Heap.lt_size e'), by simp [q]⟩
    have z : (hidT h H).get? b = none := PySem.W.hideAll_none (trk h H) hm
    rw [z] at e; cases e
def allNews (g h : Heap) (L : Addr) : List (Addr × Obj) := (List.range h.objs.size).filterMap fun a => if a = L ∨ (g.get? a).isSome = true then none else (h.get? a).map fun o => (a, o)
def rest (g h : Heap) (L d : Addr) : List (Addr × Obj) := (allNews g h L).filter fun p => decide (p.1 ≠ d)
end L2
namespace L2
open PySem PySem.Spec PyProof.Rows
structure Mod (K : PySem.W.Frag) (mg : Str → Option Value) (base : Heap) : Prop where
  kin : K.In base
  glob : base.Ns mainGlobals mg
  blt : ∃ mb, base.Ns builtinsNs mb ∧ ∀ x : Str, x ≠ "__name__" → mb x = bootBuiltins x
  nolimit : base.NoLimit
structure Cx where
  prog : Program
  w : World
  K : PySem.W.Frag
  mg : Str → Option Value
  base : Heap
  A : Around
  N : List Str
  s₀ : Shared
  H₀ : Hp
  env : Env
  outer : List Env
  stack : List Env
  ex : List Addr
  fn : Str → Bool
  calm : Bool
  pn : List (Addr × Obj)
  xe : Value → Shared → Prop
def frs (l : List Env) : List Addr := l.filterMap (·.frame)
abbrev Cx.fs (X : Cx) : List Addr := frs X.outer
def Vis (sc : Scope) (x : Str) : Prop := sc.names.lookup x = some .local ∨ sc.names.lookup x = some .cell ∨ sc.names.lookup x = some .free
def Loc (sc : Scope) (x : Str) : Prop := sc.names.lookup x = some .local ∨ sc.names.lookup x = some .cell
def Look (env : Env) (h : Heap) (m : Str → Option Value) (x : Str) (u : Value) : Prop :=
  (env.kindOf x = some .local ∧ m x = some u) ∨ ((env.kindOf x = some .cell ∨ env.kindOf x = some .free) ∧ ∃ c, env.cells.lookup x = some c ∧ h.IsCell c (some u))
structure Cx.Ok (X : Cx) : Prop where
  mod : Mod X.K X.mg X.base
  kind : X.env.scope.kind = .function
  glob : X.env.globals = mainGlobals
  blt : X.env.builtins = builtinsNs
  above : X.s₀.heap.objs.size ≤ X.env.locals
  inj : ∀ x y c, X.env.cells.lookup x = some c → X.env.cells.lookup y = some c → x = y
  has : ∀ x, (X.env.kindOf x = some .cell ∨ X.env.kindOf x = some .free) → ∃ c, X.env.cells.lookup x = some c
  cab : ∀ x c, X.fn x = true → X.env.cells.lookup x = some c → X.s₀.heap.objs.size ≤ c
  hd : X.calm = true → X.A.handled = none
  frames : X.A.frames = some X.stack
  stk : X.stack = X.outer ∨ (X.stack = X.env :: X.outer ∧ X.env.frame = some X.env.locals)
  exf : ∀ b ∈ X.ex, b ≠ X.env.locals ∧ ∀ x c, X.env.cells.lookup x = some c → c ≠ b
  bs : ∀ b o, X.base.get? b = some o → X.s₀.heap.get? b = some o ∧ X.H₀ b = none
  bsz : X.base.objs.size ≤ X.s₀.heap.objs.size
  noex : ∀ b o, X.base.get? b = some o → b ∉ X.ex
  exfs : ∀ b ∈ X.ex, b ∉ X.fs
  funs : X.s₀.heap.FunFrames X.base X.outer
  frf : ∀ b ∈ X.fs, X.H₀ b = none
structure Inv (X : Cx) (pins : List (Addr × Obj)) (σ : List (Option V)) (H : Hp) (s : Shared) : Prop where
  ok : X.Ok
  os : s.os = X.s₀.os
  bare : AllBare s.gens
  base : Un X.fs X.ex X.H₀ H X.s₀.heap s.heap
  loc : ∃ m, s.heap.Ns X.env.locals m ∧ ∀ (i : Nat) (x : Str) (v : V), X.N[i]? = some x → σ[i]? = some (some v) → Vis X.env.scope x → ∃ u, RelV v u ∧ Look X.env s.heap m x u
  cell : ∀ x c, X.env.cells.lookup x = some c → ∃ v, s.heap.IsCell c v
  free : H X.env.locals = none
  freeC : ∀ x c, X.env.cells.lookup x = some c → H c = none
  pin : ∀ p ∈ X.pn ++ pins, s.heap.get? p.1 = some p.2 ∧ H p.1 = none ∧ p.1 ≠ X.env.locals ∧ p.1 ∉ X.fs ∧ ∀ v, p.2.data ≠ .cell v
  hok : HOk X.prog X.w H s.heap
  len : σ.length = X.N.length
section
variable {X : Cx} {pins : List (Addr × Obj)} {σ : List (Option V)} {H H' : Hp} {s : Shared} {h' : Heap}
theorem Cx.Ok.nofr (ok : X.Ok) {b : Addr} {o : Obj} (e : X.base.get? b = some o) : b ∉ X.fs := fun hb => by
  have := (ok.funs.mem hb).1
  rw [e] at this; cases this
theorem Inv.bs (I : Inv X pins σ H s) : ∀ b o, X.base.get? b = some o → s.heap.get? b = some o ∧ H b = none := fun b o e =>
  ⟨I.base.keep b o (I.ok.bs b o e).1 (I.ok.bs b o e).2 (I.ok.nofr e) (I.ok.noex b o e), I.base.free b o (I.ok.bs b o e).1 (I.ok.bs b o e).2 (I.ok.noex b o e)⟩
theorem Inv.bk (I : Inv X pins σ H s) : ∀ b o, X.base.get? b = some o → s.heap.get? b = some o := fun b o e => (I.bs b o e).1
theorem Inv.mod (I : Inv X pins σ H s) : Mod X.K X.mg X.base := I.ok.mod
theorem Inv.kIn (I : Inv X pins σ H s) : X.K.In s.heap := I.ok.mod.kin.keeps I.bk
theorem Inv.fr (I : Inv X pins σ H s) : ∃ m, Fr X.base X.env.locals s.heap m :=
  let ⟨m, hn, _⟩ := I.loc
  ⟨m, hn, I.bk, Nat.le_trans I.ok.bsz I.ok.above⟩
theorem Inv.lt (I : Inv X pins σ H s) : X.env.locals < s.heap.objs.size := let ⟨_, hn, _⟩ := I.loc; hn.lt
theorem Inv.sz (I : Inv X pins σ H s) : X.s₀.heap.objs.size ≤ s.heap.objs.size := Nat.le_trans I.ok.above (Nat.le_of_lt I.lt)
theorem Inv.nofs (I : Inv X pins σ H s) {a : Addr} (h : s.heap.objs.size ≤ a) : a ∉ X.fs := fun hb => by
  obtain ⟨_, o, ho, _⟩ := I.ok.funs.mem hb
  exact absurd (Nat.lt_of_lt_of_le (Heap.lt_size ho) (Nat.le_trans I.sz h)) (Nat.lt_irrefl _)
theorem Inv.cne (I : Inv X pins σ H s) : ∀ x c, X.env.cells.lookup x = some c → c ≠ X.env.locals := fun x c e z => by
  obtain ⟨v, o, ho, hd⟩ := I.cell x c e
  obtain ⟨m, ⟨o', es, ep, ho', hd', _⟩, _⟩ := I.loc
  rw [z, ho'] at ho; cases ho; rw [hd'] at hd; cases hd
theorem Inv.funs (I : Inv X pins σ H s) : s.heap.FunFrames X.base X.outer := by
  have all : ∀ (l : List Env), (∀ b ∈ frs l, b ∈ X.fs) → X.s₀.heap.FunFrames X.base l → s.heap.FunFrames X.base l := by
    intro l
    induction l with
    | nil => intro _ _; trivial
    | cons env r ih =>
      intro hs hl
      obtain ⟨hk, ⟨L, o, hf, hn, ho, hd⟩, hr⟩ := hl
      have hL : L ∈ X.fs := hs L (by unfold frs; rw [List.filterMap_cons, hf]; exact List.mem_cons_self)
      obtain ⟨sl, e⟩ := I.base.slot L o ho (I.ok.frf L hL) hL fun z => I.ok.exfs L z hL
      exact ⟨hk, ⟨L, _, hf, hn, e, hd⟩, ih (fun b hb => hs b (by unfold frs; rw [List.filterMap_cons, hf]; exact List.mem_cons_of_mem _ hb)) hr⟩
  exact all X.outer (fun _ hb => hb) I.ok.funs
theorem Inv.stack (I : Inv X pins σ H s) : s.heap.FunFrames X.base X.stack := by
  rcases I.ok.stk with e | ⟨e, hf⟩
  · rw [e]; exact I.funs
  · rw [e]
    obtain ⟨m, hn, _⟩ := I.loc
    refine .cons (by rw [I.ok.kind]; decide) hf hn ?_ I.funs
    exact Heap.get?_none_of_le (Nat.le_trans I.ok.bsz I.ok.above)
theorem Inv.stkSub (I : Inv X pins σ H s) : ∀ b ∈ frs X.stack, b ∈ X.env.locals :: X.fs := fun b hb => by
  rcases I.ok.stk with e | ⟨e, hf⟩
  · rw [e] at hb; exact List.mem_cons_of_mem _ hb
  · rw [e] at hb
    unfold frs at hb
    rw [List.filterMap_cons, hf] at hb
    exact hb
theorem Inv.stkFree (I : Inv X pins σ H s) : ∀ b ∈ frs X.stack, H b = none := fun b hb => by
  rcases List.mem_cons.mp (I.stkSub b hb) with e | hb
  · rw [e]; exact I.free
  · obtain ⟨_, o, ho, _⟩ := I.ok.funs.mem hb
    exact I.base.free b o ho (I.ok.frf b hb) fun z => I.ok.exfs b z hb
theorem Inv.step {g' : Array GenState} {t' : Nat} {d' : Drawn} {ch : List Addr} (I : Inv X pins σ H s)
    (hch : ∀ b ∈ ch, (b ∈ X.ex ∨ X.s₀.heap.objs.size ≤ b) ∧ b ≠ X.env.locals ∧ (∀ x c, X.env.cells.lookup x = some c → c ≠ b) ∧ ∀ p ∈ X.pn ++ pins, p.1 ≠ b)
    (keep : ∀ b o, b ≠ X.env.locals → b ∉ X.fs → b ∉ ch → s.heap.get? b = some o → H b = none → h'.get? b = some o)
    (slot : ∀ b o, b ≠ X.env.locals → b ∈ X.fs → b ∉ ch → s.heap.get? b = some o → H b = none → ∃ sl, h'.get? b = some { o with slots := sl }) (free : ∀ b o, b ∉ ch → s.heap.get? b = some o → H b = none → H' b = none)
    (there : ∀ b o, b ∉ ch → s.heap.get? b = some o → ∃ o', h'.get? b = some o')
    (tups : ∀ b xs, H b = some (.tup xs) → H' b = some (.tup xs)) (frzs : ∀ b o u, H b = some (.frz o u) → H' b = some (.frz o u)) (tbls : ∀ b ps, H b = some (.tbl ps) → ∃ more, H' b = some (.tbl (ps ++ more)))
    (ns : ∀ m, s.heap.Ns X.env.locals m → h'.Ns X.env.locals m) (hok : HOk X.prog X.w H' h') (hg : AllBare g') :
    Inv X pins σ H' { s with heap := h', gens := g', drawn := d', toks := t' } := by
  have neL : ∀ b o, X.s₀.heap.get? b = some o → b ≠ X.env.locals := fun b o e => Nat.ne_of_lt (Nat.lt_of_lt_of_le (Heap.lt_size e) I.ok.above)
  have neC : ∀ b o, X.s₀.heap.get? b = some o → b ∉ X.ex → b ∉ ch := fun b o e hx hb => by
    rcases (hch b hb).1 with z | z
    · exact hx z
    · exact absurd (Nat.lt_of_lt_of_le (Heap.lt_size e) z) (Nat.lt_irrefl _)
  have cellK : ∀ x c, X.env.cells.lookup x = some c → ∀ v, s.heap.IsCell c v → h'.IsCell c v := fun x c e v ⟨o, ho, hd⟩ => by
    have nch : c ∉ ch := fun z => (hch c z).2.2.1 x c e rfl
    by_cases hc : c ∈ X.fs
    · obtain ⟨sl, q⟩ := slot c o (I.cne x c e) hc nch ho (I.freeC x c e)
      exact ⟨_, q, hd⟩
    · exact ⟨o, keep c o (I.cne x c e) hc nch ho (I.freeC x c e), hd⟩
  refine ⟨I.ok, I.os, hg, ⟨fun b o e n hb hx => ?_, fun b o e n hb hx => ?_, fun b o e n hx => ?_, fun b o e hx => ?_, fun b xs e => tups b xs (I.base.tups b xs e), fun b o xs e => frzs b o xs (I.base.frzs b o xs e), fun b ps e => ?_⟩, ?_, fun x c e => ?_, ?_, fun x c e => ?_, fun p hp => ?_, hok, I.len⟩
  · exact keep b o (neL b o e) hb (neC b o e hx) (I.base.keep b o e n hb hx) (I.base.free b o e n hx)
  · obtain ⟨sl, e1⟩ := I.base.slot b o e n hb hx
    obtain ⟨sl', e2⟩ := slot b _ (neL b o e) hb (neC b o e hx) e1 (I.base.free b o e n hx)
    exact ⟨sl', e2⟩
  · obtain ⟨o', e1⟩ := I.base.there b o e hx
    exact free b o' (neC b o e hx) e1 (I.base.free b o e n hx)
  · obtain ⟨o', e1⟩ := I.base.there b o e hx
    exact there b o' (neC b o e hx) e1
  · obtain ⟨m1, e1⟩ := I.base.tbls b ps e
    obtain ⟨m2, e2⟩ := tbls b _ e1
    exact ⟨m1 ++ m2, by rw [e2, Array.append_assoc]⟩
  · obtain ⟨m, hn, hl⟩ := I.loc
    refine ⟨m, ns m hn, fun i x v e1 e2 e3 => ?_⟩
    obtain ⟨u, r, l⟩ := hl i x v e1 e2 e3
    refine ⟨u, r, ?_⟩
    rcases l with l | ⟨k, c, e, z⟩
    · exact .inl l
    · exact .inr ⟨k, c, e, cellK x c e _ z⟩
  · obtain ⟨v, z⟩ := I.cell x c e
    exact ⟨v, cellK x c e v z⟩
  · obtain ⟨m, ⟨o, _, _, ho, _⟩, _⟩ := I.loc
    exact free _ o (fun z => (hch _ z).2.1 rfl) ho I.free
  · obtain ⟨v, o, ho, hd⟩ := I.cell x c e
    exact free c o (fun z => (hch c z).2.2.1 x c e rfl) ho (I.freeC x c e)
  · obtain ⟨e, n, ne, nf, d⟩ := I.pin p hp
    have nch : p.1 ∉ ch := fun z => (hch p.1 z).2.2.2 p hp rfl
    exact ⟨keep p.1 p.2 ne nf nch e n, free p.1 p.2 nch e n, ne, nf, d⟩
theorem Inv.un {t' : Nat} (I : Inv X pins σ H s) (u : Un X.fs [] H H' s.heap h') (hok : HOk X.prog X.w H' h') : Inv X pins σ H' { s with heap := h', toks := t' } := by
  obtain ⟨m, ⟨o, es, ep, ho, r⟩, _⟩ := id I.loc
  obtain ⟨sl, hL⟩ := u.any ho I.free (by simp)
  exact I.step (g' := s.gens) (d' := s.drawn) (ch := []) (fun _ z => nomatch z) (fun b o _ hb _ e n => u.keep b o e n hb (by simp)) (fun b o _ hb _ e n => u.slot b o e n hb (by simp)) (fun b o _ e n => u.free b o e n (by simp)) (fun b o _ e => u.there b o e (by simp)) u.tups u.frzs u.tbls (fun m' hm => by
    obtain ⟨o', es', ep', ho', r'⟩ := hm
    rw [ho] at ho'; cases ho'
    exact ⟨_, es', ep', hL, r'⟩) hok I.bare
theorem Inv.call {g' : Array GenState} {t' : Nat} {d' : Drawn} {ch : List Addr} (I : Inv X pins σ H s) (u : Un (frs X.stack) ch H H' s.heap h') (hok : HOk X.prog X.w H' h') (hg : AllBare g')
    (hch : ∀ b ∈ ch, (b ∈ X.ex ∨ X.s₀.heap.objs.size ≤ b) ∧ b ≠ X.env.locals ∧ (∀ x c, X.env.cells.lookup x = some c → c ≠ b) ∧ ∀ p ∈ X.pn ++ pins, p.1 ≠ b) :
    Inv X pins σ H' { s with heap := h', gens := g', drawn := d', toks := t' } := by
  obtain ⟨m, ⟨o, es, ep, ho, r⟩, _⟩ := id I.loc
  obtain ⟨sl, hL⟩ := u.any ho I.free fun z => (hch _ z).2.1 rfl
  exact I.step (ch := ch) hch (fun b o hL hb hc e n => u.keep b o e n (fun z => (List.mem_cons.mp (I.stkSub b z)).elim hL hb) hc) (fun b o _ _ hc e n => u.any e n hc) (fun b o hc e n => u.free b o e n hc) (fun b o hc e => u.there b o e hc) u.tups u.frzs u.tbls (fun m' hm => by
    obtain ⟨o', es', ep', ho', r'⟩ := hm
    rw [ho] at ho'; cases ho'
    exact ⟨_, es', ep', hL, r'⟩) hok hg
theorem Inv.turned {t' : Nat} {it : Addr} (I : Inv X pins σ H s) (k : ∀ b o, b ≠ it → s.heap.get? b = some o → h'.get? b = some o) (hn : H it = none) (hL : it ≠ X.env.locals)
    (h1 : it ∈ X.ex ∨ X.s₀.heap.objs.size ≤ it) (h2 : ∀ x c, X.env.cells.lookup x = some c → c ≠ it) (h3 : ∀ p ∈ X.pn ++ pins, p.1 ≠ it) : Inv X pins σ H { s with heap := h', toks := t' } := by
  have nit : ∀ b u, H b = some u → b ≠ it := fun b u e z => by rw [z, hn] at e; cases e
  refine I.step (g' := s.gens) (d' := s.drawn) (ch := [it]) (fun b hb => ?_) (fun b o _ _ hc e _ => k b o (fun z => hc (by simp [z])) e) (fun b o _ _ hc e _ => ⟨o.slots, k b o (fun z => hc (by simp [z])) e⟩) (fun _ _ _ _ n => n)
    (fun b o hc e => ⟨o, k b o (fun z => hc (by simp [z])) e⟩) (fun _ _ e => e) (fun _ _ _ e => e) (fun b ps e => ⟨#[], by rw [e]; simp⟩) (fun m hm => ?_) (fun b u e => ?_) I.bare
  · have e : b = it := by simpa using hb
    subst e
    exact ⟨h1, hL, h2, h3⟩
  · obtain ⟨o, es, ep, ho, r⟩ := hm
    exact ⟨o, es, ep, k _ o (Ne.symm hL) ho, r⟩
  · refine (I.hok b u e).stay (fun c v hc q => k c v ?_ q) (fun _ q => q) fun _ _ q => q
    rcases hc with z | z
    · rw [z]; exact nit b u e
    · exact nit c _ z
theorem Inv.tok (I : Inv X pins σ H s) (t : Nat) : Inv X pins σ H { s with toks := t } := I.un (h' := s.heap) (t' := t) Un.refl I.hok
theorem Inv.kept {t' : Nat} (I : Inv X pins σ H s) (k : ∀ b u, s.heap.get? b = some u → h'.get? b = some u) : Inv X pins σ H { s with heap := h', toks := t' } := I.un (Un.kept k) (I.hok.kept k)
theorem Inv.laid {a : Addr} {o : HO} {t' : Nat} (I : Inv X pins σ H s) (k : ∀ b u, s.heap.get? b = some u → h'.get? b = some u) (hp : s.heap.objs.size ≤ a) (new : ObjOk X.prog X.w (upd H a o) h' a o) :
    Inv X pins σ (upd H a o) { s with heap := h', toks := t' } := I.un (Un.laid k hp (I.hok.fresh hp)) (I.hok.laid k hp new)
theorem Inv.write {x e : Addr} {o : HO} {t' : Nat} (I : Inv X pins σ H s) (mu : Mut (H x)) (he : e = x ∨ H e = some (.own x)) (k : ∀ b u, b ≠ e → s.heap.get? b = some u → h'.get? b = some u) (heo : ∃ u, h'.get? e = some u)
    (new : ObjOk X.prog X.w (upd H x o) h' x o) : Inv X pins σ (upd H x o) { s with heap := h', toks := t' } := I.un (Un.write mu he k heo) (I.hok.write mu he k heo new)
theorem Inv.weak {σ' : List (Option V)} (I : Inv X pins σ H s) (hl : σ'.length = σ.length) (w : ∀ (i : Nat) v, σ'[i]? = some (some v) → σ[i]? = some (some v)) : Inv X pins σ' H s :=
  ⟨I.ok, I.os, I.bare, I.base, let ⟨m, hn, hl'⟩ := I.loc; ⟨m, hn, fun i x v e1 e2 e3 => hl' i x v e1 (w i v e2) e3⟩, I.cell, I.free, I.freeC, I.pin, I.hok, hl.trans I.len⟩
theorem Inv.pins_of {pins' : List (Addr × Obj)} (I : Inv X pins σ H s) (h : ∀ p ∈ pins', s.heap.get? p.1 = some p.2 ∧ H p.1 = none ∧ p.1 ≠ X.env.locals ∧ p.1 ∉ X.fs ∧ ∀ v, p.2.data ≠ .cell v) : Inv X pins' σ H s :=
  ⟨I.ok, I.os, I.bare, I.base, I.loc, I.cell, I.free, I.freeC, fun p hp => (List.mem_append.mp hp).elim (fun z => I.pin p (List.mem_append_left _ z)) (h p), I.hok, I.len⟩
theorem zec {N : List Str} (hN : N.Nodup) {i j : Nat} {x : Str} (a : N[i]? = some x) (b : N[j]? = some x) : i = j := by
  obtain ⟨h1, e1⟩ := List.getElem?_eq_some_iff.mp a
  obtain ⟨h2, e2⟩ := List.getElem?_eq_some_iff.mp b
  exact (List.getElem_inj hN).mp (e1.trans e2.symm)
theorem zgR {M : Model} {A : Around} {E : Value → Shared → Prop} {i : Nat} {x : Str} {v : V} {u : Value} {Q : Unit → Shared → Prop} (I : Inv X pins σ H s) (hN : X.N.Nodup) (hi : X.N[i]? = some x) (hx : Loc X.env.scope x) (r : RelV v u)
    (h : ∀ s', Inv X pins (σ.set i (some v)) H s' → (∃ a, Heap.SameBut a s.heap s'.heap ∧ (a = X.env.locals ∨ X.env.cells.lookup x = some a)) → Q () s') (hf : X.fn x = true ∨ X.env.scope.names.lookup x = some .local := by first | exact .inl rfl | exact .inr rfl | assumption) : wpAny M A (storeName X.env x u) Q E s := by
  obtain ⟨m, hn, hl⟩ := id I.loc
  have hcls : (X.env.scope.kind == .class || (X.env.scope.kind == .module && X.env.locals != X.env.globals)) = false := by rw [I.ok.kind]; rfl
  have hiσ : i < σ.length := by rw [I.len]; exact (List.getElem?_eq_some_iff.mp hi).1
  have cne := I.cne
  have tracked : ∀ {a : Addr} {h' : Heap}, (∃ o, s.heap.get? a = some o ∧ H a = none) → Heap.SameBut a s.heap h' → HOk X.prog X.w H h' := fun {a h'} ha hs b ob e => by
    obtain ⟨_, _, hfree⟩ := ha
    refine (I.hok b ob e).stay (fun c w' hc q => (hs.2 c ?_).trans q) (fun _ q => q) fun _ _ q => q
    rintro rfl
    rcases hc with rfl | hc
    · rw [hfree] at e; cases e
    · rw [hfree] at hc; cases hc
  rcases hx with hk | hk
  · refine wpAny_storeName_local hk hn (fun h' hn' hs => ?_) hcls
    obtain ⟨oL, _, _, hoL, _⟩ := id hn
    refine h _ ⟨I.ok, I.os, I.bare, ⟨fun b o e n hb hx => ?_, fun b o e n hb hx => ?_, I.base.free, fun b o e hx => ?_, I.base.tups, I.base.frzs, I.base.tbls⟩, ⟨_, hn', fun j y v' e1 e2 e3 => ?_⟩, fun y c e => ?_, I.free, I.freeC, fun p hp => ?_, tracked ⟨oL, hoL, I.free⟩ hs, by simpa using I.len⟩ ⟨_, hs, .inl rfl⟩
    · exact (hs.2 b (Nat.ne_of_lt (Nat.lt_of_lt_of_le (Heap.lt_size e) I.ok.above))).trans (I.base.keep b o e n hb hx)
    · obtain ⟨sl, e1⟩ := I.base.slot b o e n hb hx
      exact ⟨sl, (hs.2 b (Nat.ne_of_lt (Nat.lt_of_lt_of_le (Heap.lt_size e) I.ok.above))).trans e1⟩
    · obtain ⟨o', e1⟩ := I.base.there b o e hx
      exact ⟨o', (hs.2 b (Nat.ne_of_lt (Nat.lt_of_lt_of_le (Heap.lt_size e) I.ok.above))).trans e1⟩
    · by_cases hj : j = i
      · subst hj
        rw [hi] at e1; cases e1
        rw [List.getElem?_set_self hiσ] at e2
        cases e2
        exact ⟨u, r, .inl ⟨hk, by simp⟩⟩
      · rw [List.getElem?_set_ne (Ne.symm hj)] at e2
        obtain ⟨u', r', q⟩ := hl j y v' e1 e2 e3
        refine ⟨u', r', ?_⟩
        rcases q with ⟨k, e⟩ | ⟨k, c, e, z⟩
        · refine .inl ⟨k, ?_⟩
          have : y ≠ x := fun e => hj (zec hN e1 (e ▸ hi))
          simp [this, e]
        · exact .inr ⟨k, c, e, z.sameBut hs (cne y c e)⟩
    · obtain ⟨w', z⟩ := I.cell y c e
      exact ⟨w', z.sameBut hs (cne y c e)⟩
    · obtain ⟨e, n, ne, nf, d⟩ := I.pin p hp
      exact ⟨(hs.2 p.1 ne).trans e, n, ne, nf, d⟩
  · have hfn : X.fn x = true := by
      rcases hf with z | z
      · exact z
      · rw [z] at hk; cases hk
    obtain ⟨c, hc⟩ := I.ok.has x (.inl hk)
    obtain ⟨w', z⟩ := I.cell x c hc
    refine wpAny_storeName_cell I.ok.kind hk hc z (fun h' hc' hs => ?_)
    obtain ⟨oc, hoc, hocd⟩ := id z
    refine h { s with heap := h' } ⟨I.ok, I.os, I.bare, ⟨fun b o e n hb hx => ?_, fun b o e n hb hx => ?_, I.base.free, fun b o e hx => ?_, I.base.tups, I.base.frzs, I.base.tbls⟩, ⟨m, hn.sameBut hs (Ne.symm (cne x c hc)), fun j y v' e1 e2 e3 => ?_⟩, fun y c' e => ?_, I.free, I.freeC, fun p hp => ?_, tracked ⟨oc, hoc, I.freeC x c hc⟩ hs, by simpa using I.len⟩ ⟨c, hs, .inr hc⟩
    · exact (hs.2 b (Nat.ne_of_lt (Nat.lt_of_lt_of_le (Heap.lt_size e) (I.ok.cab x c hfn hc)))).trans (I.base.keep b o e n hb hx)
    · obtain ⟨sl, e1⟩ := I.base.slot b o e n hb hx
      exact ⟨sl, (hs.2 b (Nat.ne_of_lt (Nat.lt_of_lt_of_le (Heap.lt_size e) (I.ok.cab x c hfn hc)))).trans e1⟩
    · obtain ⟨o', e1⟩ := I.base.there b o e hx
      exact ⟨o', (hs.2 b (Nat.ne_of_lt (Nat.lt_of_lt_of_le (Heap.lt_size e) (I.ok.cab x c hfn hc)))).trans e1⟩
    · by_cases hj : j = i
      · subst hj
        rw [hi] at e1; cases e1
        rw [List.getElem?_set_self hiσ] at e2
        cases e2
        exact ⟨u, r, .inr ⟨.inl hk, c, hc, hc'⟩⟩
      · rw [List.getElem?_set_ne (Ne.symm hj)] at e2
        obtain ⟨u', r', q⟩ := hl j y v' e1 e2 e3
        refine ⟨u', r', ?_⟩
        rcases q with q | ⟨k, c', e, z'⟩
        · exact .inl q
        · refine .inr ⟨k, c', e, z'.sameBut hs ?_⟩
          rintro rfl
          exact hj (zec hN e1 (I.ok.inj _ _ _ e hc ▸ hi))
    · by_cases hcc : c' = c
      · subst hcc; exact ⟨_, hc'⟩
      · obtain ⟨w2, z2⟩ := I.cell y c' e
        exact ⟨w2, z2.sameBut hs hcc⟩
    · obtain ⟨e, n, ne, nf, d⟩ := I.pin p hp
      refine ⟨(hs.2 p.1 ?_).trans e, n, ne, nf, d⟩
      intro q
      rw [q, hoc] at e
      have q' : oc = p.2 := Option.some.inj e
      exact d w' (by rw [← q']; exact hocd)
theorem zcz {M : Model} {A : Around} {E : Value → Shared → Prop} {i : Nat} {x : Str} {v : V} {u : Value} {Q : Unit → Shared → Prop} (I : Inv X pins σ H s) (hN : X.N.Nodup) (hi : X.N[i]? = some x) (hx : Loc X.env.scope x) (r : RelV v u)
    (h : ∀ s', Inv X pins (σ.set i (some v)) H s' → Q () s') (hf : X.fn x = true ∨ X.env.scope.names.lookup x = some .local := by first | exact .inl rfl | exact .inr rfl | assumption) : wpAny M A (storeName X.env x u) Q E s :=
  zgR I hN hi hx r (fun s' I' _ => h s' I') hf
theorem Inv.call' {s' : Shared} {ch : List Addr} (I : Inv X pins σ H s) (ho : s'.os = s.os) (u : Un (frs X.stack) ch H H' s.heap s'.heap) (hok : HOk X.prog X.w H' s'.heap) (hg : AllBare s'.gens)
    (hch : ∀ b ∈ ch, (b ∈ X.ex ∨ X.s₀.heap.objs.size ≤ b) ∧ b ≠ X.env.locals ∧ (∀ x c, X.env.cells.lookup x = some c → c ≠ b) ∧ ∀ p ∈ X.pn ++ pins, p.1 ≠ b) : Inv X pins σ H' s' := by
  obtain ⟨h', g', d', t', o'⟩ := s'
  have e : o' = s.os := ho
  subst e
  exact I.call (g' := g') (t' := t') (d' := d') u hok hg hch
end
abbrev XK := Value → Option Addr → Hp → Prop
abbrev St := List (Option V)
abbrev VK := V → Hp → Prop
abbrev TE := St → Hp → VK → Prop
abbrev TT := St → Hp → (Bool → Hp → Prop) → Prop
abbrev TA := St → Hp → (List V → Hp → Prop) → Prop
structure Ends where
  nx : St → Hp → Prop
  rt : VK
  bk : St → Hp → Prop := fun _ _ => False
  ct : St → Hp → Prop := fun _ _ => False
abbrev TS := Ends → St → Hp → Prop
def EP (X : Cx) (pins : List (Addr × Obj)) (σ : St) (Q : VK) (u : Value) (s' : Shared) : Prop := ∃ v H', Inv X pins σ H' s' ∧ RelV v u ∧ Q v H'
def TP (X : Cx) (pins : List (Addr × Obj)) (σ : St) (Q : Bool → Hp → Prop) (b : Bool) (s' : Shared) : Prop := ∃ H', Inv X pins σ H' s' ∧ Q b H'
def AP (X : Cx) (pins : List (Addr × Obj)) (σ : St) (Q : List V → Hp → Prop) (us : List Value) (s' : Shared) : Prop := ∃ vs H', Inv X pins σ H' s' ∧ Vals vs us ∧ Q vs H'
def SP (X : Cx) (pins : List (Addr × Obj)) (D : Ends) (f : Flow) (s' : Shared) : Prop :=
  match f with
  | .next => ∃ σ' H', Inv X pins σ' H' s' ∧ D.nx σ' H'
  | .brk => ∃ σ' H', Inv X pins σ' H' s' ∧ D.bk σ' H'
  | .cont => ∃ σ' H', Inv X pins σ' H' s' ∧ D.ct σ' H'
  | .ret u => ∃ v σ' H', Inv X pins σ' H' s' ∧ RelV v u ∧ D.rt v H'
def PE (X : Cx) (e : Expr) (t : TE) : Prop :=
  ∀ (pins : List (Addr × Obj)) (s : Shared) (σ : St) (H : Hp) (Q : VK), Inv X pins σ H s → t σ H Q → wpAny (model X.prog X.w) X.A (eval e X.env) (EP X pins σ Q) X.xe s
def PT (X : Cx) (e : Expr) (t : TT) : Prop :=
  ∀ (pins : List (Addr × Obj)) (s : Shared) (σ : St) (H : Hp) (Q : Bool → Hp → Prop), Inv X pins σ H s → t σ H Q → wpAny (model X.prog X.w) X.A (isTrue e X.env (eval e X.env)) (TP X pins σ Q) X.xe s
def PW (X : Cx) (e : Expr) (t : TT) : Prop :=
  ∀ (whole : Sem Value) (pins : List (Addr × Obj)) (s : Shared) (σ : St) (H : Hp) (Q : Bool → Hp → Prop), Inv X pins σ H s → t σ H Q → wpAny (model X.prog X.w) X.A (isTrue e X.env whole) (TP X pins σ Q) X.xe s
theorem PW.pt {X : Cx} {e : Expr} {t : TT} (h : PW X e t) : PT X e t := h _
def PA (X : Cx) (es : List Expr) (t : TA) : Prop :=
  ∀ (pos : Pos) (pins : List (Addr × Obj)) (s : Shared) (σ : St) (H : Hp) (Q : List V → Hp → Prop), Inv X pins σ H s → t σ H Q → wpAny (model X.prog X.w) X.A (spliced (backTo pos (starEach es X.env))) (AP X pins σ Q) X.xe s
def PS (X : Cx) (st : Stmt) (t : TS) : Prop :=
  ∀ (pins : List (Addr × Obj)) (s : Shared) (σ : St) (H : Hp) (D : Ends), Inv X pins σ H s → t D σ H → wpAny (model X.prog X.w) X.A (exec st X.env) (SP X pins D) X.xe s
def PSs (X : Cx) (st : List Stmt) (t : TS) : Prop :=
  ∀ (pins : List (Addr × Obj)) (s : Shared) (σ : St) (H : Hp) (D : Ends), Inv X pins σ H s → t D σ H → wpAny (model X.prog X.w) X.A (execs st X.env) (SP X pins D) X.xe s
theorem thn {α : Type} {t : Sem α} {Q Q' : α → Shared → Prop} {M : Model} {A : Around} {E : Value → Shared → Prop} {s : Shared} (h : wpAny M A t Q E s) (hQ : ∀ a s, Q a s → Q' a s) : wpAny M A t Q' E s := wpAny_mono h hQ fun _ _ x => x
end L2
namespace L2
open PySem PySem.Spec PyProof.Rows
section
variable {X : Cx}
def tVar (i : Nat) : TE := fun σ H Q => ∃ v, σ[i]? = some (some v) ∧ Q v H
def tC (v : V) : TE := fun _ H Q => Q v H
theorem zjq {i : Nat} {x : Str} {pos : Pos} (hN : X.N[i]? = some x) (hv : Vis X.env.scope x) (hd : (x == ("__debug__" : Str)) = false := by decide) (hcd : (x == ("__classdict__" : Str)) = false := by decide) : PE X (.Name x pos) (tVar i) := by
  intro pins s σ H Q I h
  obtain ⟨v, e, h⟩ := h
  obtain ⟨m, hn, hl⟩ := I.loc
  obtain ⟨u, r, l⟩ := hl i x v hN e hv
  have fin : EP X pins σ Q u s := ⟨v, H, I, r, h⟩
  rcases l with ⟨hk, hm⟩ | ⟨hk, c, hc, hcell⟩
  · exact wpAny_Name (wpAny_loadName_local I.ok.kind hk hn hm fin) hd
  · rcases hk with hk | hk
    · exact wpAny_Name (wpAny_loadName_cell I.ok.kind hk hc hcell fin) hd
    · exact wpAny_Name (wpAny_loadName_free I.ok.kind hk hc hcell fin hcd) hd
theorem zlr {i j pos} : PE X (.Constant (.int i) j pos) (tC (.int i)) := fun _ _ _ H _ I h => wpAny_Constant_int ⟨.int i, H, I.tok _, ⟨_, rfl⟩, h⟩
theorem zm0 {b j pos} : PE X (.Constant (.bool b) j pos) (tC (.bl b)) := fun _ _ _ H _ I h => Constant_bool ⟨.bl b, H, I, rfl, h⟩
theorem zls {j pos} : PE X (.Constant .none j pos) (tC .non) := fun _ _ _ H _ I h => Constant_none ⟨.non, H, I, rfl, h⟩
theorem zjr {x j pos} : PE X (.Constant (.str x) j pos) (tC (.str x)) := fun _ _ _ H _ I h => Calls.Constant_str ⟨.str x, H, I.tok _, ⟨_, rfl⟩, h⟩
def Gl (X : Cx) (x : Str) : Prop := X.env.kindOf x = some .globalImplicit
theorem zdt {E : Value → Shared → Prop} {pins : List (Addr × Obj)} {s : Shared} {σ : St} {H : Hp} {x : Str} {u : Value} {pos : Pos} {Q : Value → Shared → Prop} (I : Inv X pins σ H s) (hg : Gl X x) (hm : X.mg x = some u) (h : Q u s)
    (hd : (x == ("__debug__" : Str)) = false := by decide) : wpAny (model X.prog X.w) X.A (eval (.Name x pos) X.env) Q E s :=
  Calls.Name_function_global I.ok.kind hg (Calls.loadGlobal_global (by rw [I.ok.glob]; exact I.mod.glob.keeps I.bk) hm h) hd
theorem zcA {E : Value → Shared → Prop} {pins : List (Addr × Obj)} {s : Shared} {σ : St} {H : Hp} {x : Str} {u : Value} {pos : Pos} {Q : Value → Shared → Prop} (I : Inv X pins σ H s) (hg : Gl X x) (hm : X.mg x = none) (hv : bootBuiltins x = some u) (h : Q u s)
    (hn : x ≠ "__name__" := by decide) (hd : (x == ("__debug__" : Str)) = false := by decide) : wpAny (model X.prog X.w) X.A (eval (.Name x pos) X.env) Q E s := by
  obtain ⟨mb, h1, h2⟩ := I.mod.blt
  exact Calls.Name_function_global I.ok.kind hg (Calls.loadGlobal_builtin (by rw [I.ok.glob]; exact I.mod.glob.keeps I.bk) hm (by rw [I.ok.blt]; exact h1.keeps I.bk) ((h2 x hn).trans hv) h) hd
theorem zfp {x : Str} {v : V} {u : Value} {pos : Pos} (hg : Gl X x) (hm : X.mg x = some u) (r : RelV v u) (hd : (x == ("__debug__" : Str)) = false := by decide) : PE X (.Name x pos) (tC v) :=
  fun _ _ _ H _ I h => zdt I hg hm ⟨v, H, I, r, h⟩ hd
theorem zjZ {x : Str} {v : V} {u : Value} {pos : Pos} (hg : Gl X x) (hm : X.mg x = none) (hv : bootBuiltins x = some u) (r : RelV v u) (hn : x ≠ "__name__" := by decide) (hd : (x == ("__debug__" : Str)) = false := by decide) : PE X (.Name x pos) (tC v) :=
  fun _ _ _ H _ I h => zcA I hg hm hv ⟨v, H, I, r, h⟩ hn hd
variable {a b : Expr} {ta tb : TE} {pos : Pos}
def tB (t : TE) : TT := fun σ H Q => t σ H fun x H1 => ∃ c, x = .bl c ∧ Q c H1
theorem zlt {e : Expr} {t : TE} (h : PE X e t) (he : ∀ whole, isTrue e X.env whole = (do let v ← whole; standAt e.pos; holding [v] (truthy v)) := by intro _; rfl) : PT X e (tB t) := by
  intro pins s σ H Q I hw
  refine isTrue_plain (thn (h pins s σ H _ I hw) fun v s1 ⟨x, H1, I1, r1, q1⟩ => ?_) (he _)
  obtain ⟨d, rfl, q⟩ := q1
  cases r1
  exact wpAny_truthy_bool ⟨H1, I1, q⟩
variable {tA tB' : TT} {rest : List Expr}
def tAnd (t u : TT) : TT := fun σ H Q => t σ H fun c H1 => if c = true then u σ H1 Q else Q false H1
def tOr (t u : TT) : TT := fun σ H Q => t σ H fun c H1 => if c = true then Q true H1 else u σ H1 Q
def tNot (t : TT) : TT := fun σ H Q => t σ H fun c H1 => Q (!c) H1
theorem zj0 (ha : PT X a tA) : PW X (.BoolOp .And [a] pos) tA := by
  intro wh pins s σ H Q I h
  refine isTrue_and (thn (ha pins s σ H Q I h) fun c s1 e => ?_)
  cases c with
  | true => exact isTrue_and_nil e
  | false => exact e
theorem zlu (ha : PT X a tA) : PW X (.BoolOp .Or [a] pos) tA := by
  intro wh pins s σ H Q I h
  refine isTrue_or (thn (ha pins s σ H Q I h) fun c s1 e => ?_)
  cases c with
  | false => exact isTrue_or_nil e
  | true => exact e
theorem zlv (ha : PT X a tA) (hb : PW X (.BoolOp .And (b :: rest) pos) tB') : PW X (.BoolOp .And (a :: b :: rest) pos) (tAnd tA tB') := by
  intro wh pins s σ H Q I h
  refine isTrue_and (thn (ha pins s σ H _ I h) fun c s1 ⟨H1, I1, q1⟩ => ?_)
  cases c with
  | true => exact hb wh pins s1 σ H1 Q I1 q1
  | false => exact ⟨H1, I1, q1⟩
theorem zm1 (ha : PT X a tA) (hb : PW X (.BoolOp .Or (b :: rest) pos) tB') : PW X (.BoolOp .Or (a :: b :: rest) pos) (tOr tA tB') := by
  intro wh pins s σ H Q I h
  refine isTrue_or (thn (ha pins s σ H _ I h) fun c s1 ⟨H1, I1, q1⟩ => ?_)
  cases c with
  | true => exact ⟨H1, I1, q1⟩
  | false => exact hb wh pins s1 σ H1 Q I1 q1
theorem zlw (ha : PT X a tA) : PT X (.UnaryOp .Not a pos) (tNot tA) := by
  intro pins s σ H Q I h
  exact isTrue_not (ha pins s σ H (fun c H1 => Q (!c) H1) I h)
def tAndV (ta tb : TE) : TE := fun σ H Q => ta σ H fun x H1 => ∃ c, x = .bl c ∧ if c = true then tb σ H1 Q else Q (.bl false) H1
theorem zlx {op} {t : TE} (h : PE X a t) : PE X (.BoolOp op [a] pos) t := fun pins s σ H Q I hw => BoolOp_one (h pins s σ H Q I hw)
theorem zly (ha : PE X a ta) (hb : PE X (.BoolOp .And (b :: rest) pos) tb) : PE X (.BoolOp .And (a :: b :: rest) pos) (tAndV ta tb) := by
  intro pins s σ H Q I h
  refine BoolOp_and (thn (ha pins s σ H _ I h) fun v s1 ⟨x, H1, I1, r1, q1⟩ => ?_)
  obtain ⟨c, rfl, q1⟩ := q1
  cases r1
  refine wpAny_truthy_bool ?_
  cases c with
  | true => exact hb pins s1 σ H1 Q I1 q1
  | false => exact ⟨.bl false, H1, I1, rfl, q1⟩
def tIf (t : TT) (ta tb : TE) : TE := fun σ H Q => t σ H fun c H1 => if c = true then ta σ H1 Q else tb σ H1 Q
theorem zij {c : Expr} (hc : PT X c tA) (ha : PE X a ta) (hb : PE X b tb) : PE X (.IfExp c a b pos) (tIf tA ta tb) := by
  intro pins s σ H Q I h
  refine wpAny_IfExp (thn (hc pins s σ H _ I h) fun d s1 ⟨H1, I1, q1⟩ => ?_)
  cases d with
  | true => exact ha pins s1 σ H1 Q I1 q1
  | false => exact hb pins s1 σ H1 Q I1 q1
end
end L2
namespace L2
open PySem PySem.Spec PyProof.Rows
def SqL (K : PySem.W.Frag) (H : Hp) (a : Addr) (xs : List V) : Prop :=
  Rd H a (.lst xs) ∨
    ∃ (o : Obj) (its : Array Value) (n : Nat), K.lookup a = some o ∧ o.cls = .type "list" ∧ o.dict = none ∧ o.data = .seq its n ∧ its.size ≤ sizeLine ∧ Vals xs its.toList
def SqT (K : PySem.W.Frag) (H : Hp) (a : Addr) (xs : List V) : Prop :=
  Rd H a (.tup xs) ∨
    ∃ (o : Obj) (its : Array Value) (n : Nat), K.lookup a = some o ∧ o.cls = .type "tuple" ∧ o.data = .seq its n ∧ its.size ≤ sizeLine ∧ Vals xs its.toList
def absV : Value → Option V
  | .none => some .non
  | .bool b => some (.bl b)
  | .int i _ => some (.int i)
  | .str x _ => some (.str x)
  | .bytes b _ => some (.byt b)
  | .float b _ => some (.flt b)
  | .ref a => some (.ref a)
  | .type n => some (.ty n)
  | _ => none
theorem RelV.abs {x : V} {u : Value} (r : RelV x u) : absV u = some x := by
  cases x with
  | non => cases r; rfl
  | bl _ => cases r; rfl
  | int _ => obtain ⟨t, rfl⟩ := r; rfl
  | str _ => obtain ⟨t, rfl⟩ := r; rfl
  | byt _ => obtain ⟨t, rfl⟩ := r; rfl
  | flt _ => obtain ⟨t, rfl⟩ := r; rfl
  | ref _ => cases r; rfl
  | ty _ => cases r; rfl
theorem RelV.inj {x y : V} {u : Value} (r : RelV x u) (q : RelV y u) : x = y := Option.some.inj (r.abs.symm.trans q.abs)
theorem Vals.inj : ∀ {xs ys : List V} {us : List Value}, Vals xs us → Vals ys us → xs = ys
  | _, _, _, .nil, .nil => rfl
  | _, _, _, .cons r t, .cons r' t' => by rw [r.inj r', Vals.inj t t']
section
variable {X : Cx} {pins : List (Addr × Obj)} {σ : St} {H : Hp} {s : Shared} {a : Addr} {xs ys : List V}
theorem SqL.of {K : PySem.W.Frag} (h : H a = some (.lst xs)) : SqL K H a xs := .inl (.inl h)
theorem SqT.of {K : PySem.W.Frag} (h : H a = some (.tup xs)) : SqT K H a xs := .inl (.inl h)
theorem Inv.list (I : Inv X pins σ H s) (h : SqL X.K H a xs) : ∃ its : List Value, Vals xs its ∧ PlainL s.heap a its.toArray ∧ xs.length ≤ sizeLine := by
  rcases h with h | ⟨o, its, n, hk, hc, hd, hs, hz, r⟩
  · obtain ⟨z, its, n, r, e⟩ := h.ok I.hok
    exact ⟨its, r, ⟨_, n, e, rfl, rfl, rfl⟩, z⟩
  · refine ⟨its.toList, r, ⟨o, n, I.kIn a o hk, hc, hd, by simpa using hs⟩, ?_⟩
    have e := r.length
    simp only [Array.length_toList] at e
    omega
theorem Inv.tuple (I : Inv X pins σ H s) (h : SqT X.K H a xs) : ∃ its : List Value, Vals xs its ∧ IsTup s.heap a its.toArray ∧ xs.length ≤ sizeLine := by
  rcases h with h | ⟨o, its, n, hk, hc, hs, hz, r⟩
  · obtain ⟨z, its, r, p⟩ := h.ok I.hok
    exact ⟨its, r, p, z⟩
  · refine ⟨its.toList, r, ⟨o, I.kIn a o hk, hc, n, by simpa using hs⟩, ?_⟩
    have e := r.length
    simp only [Array.length_toList] at e
    omega
theorem Inv.list_inj (I : Inv X pins σ H s) (h : SqL X.K H a xs) (h' : SqL X.K H a ys) : xs = ys := by
  obtain ⟨its, r, ⟨o, n, e, _, _, d⟩, _⟩ := I.list h
  obtain ⟨its', r', ⟨o', n', e', _, _, d'⟩, _⟩ := I.list h'
  rw [e] at e'; cases e'
  rw [d] at d'
  injection d' with d1 _
  have : its = its' := by simpa using congrArg Array.toList d1
  subst this
  exact r.inj r'
theorem Inv.tuple_inj (I : Inv X pins σ H s) (h : SqT X.K H a xs) (h' : SqT X.K H a ys) : xs = ys := by
  obtain ⟨its, r, ⟨o, e, _, n, d⟩, _⟩ := I.tuple h
  obtain ⟨its', r', ⟨o', e', _, n', d'⟩, _⟩ := I.tuple h'
  rw [e] at e'; cases e'
  rw [d] at d'
  injection d' with d1 _
  have : its = its' := by simpa using congrArg Array.toList d1
  subst this
  exact r.inj r'
end
abbrev Cx.wish (X : Cx) (E : Value → Shared → Prop) : Cx := { X with xe := E }
abbrev Cx.nox (X : Cx) : Cx := X.wish fun _ _ => False
theorem Cx.Ok.wish {X : Cx} (ok : X.Ok) (E : Value → Shared → Prop) : (X.wish E).Ok :=
  ⟨ok.mod, ok.kind, ok.glob, ok.blt, ok.above, ok.inj, ok.has, ok.cab, ok.hd, ok.frames, ok.stk, ok.exf, ok.bs, ok.bsz, ok.noex, ok.exfs, ok.funs, ok.frf⟩
theorem Cx.Ok.unwish {X : Cx} {E : Value → Shared → Prop} (ok : (X.wish E).Ok) : X.Ok :=
  ⟨ok.mod, ok.kind, ok.glob, ok.blt, ok.above, ok.inj, ok.has, ok.cab, ok.hd, ok.frames, ok.stk, ok.exf, ok.bs, ok.bsz, ok.noex, ok.exfs, ok.funs, ok.frf⟩
section
variable {X : Cx} {pins : List (Addr × Obj)} {σ : St} {H : Hp} {s : Shared} {E : Value → Shared → Prop}
theorem Inv.wish (I : Inv X pins σ H s) (E : Value → Shared → Prop) : Inv (X.wish E) pins σ H s := ⟨I.ok.wish E, I.os, I.bare, I.base, I.loc, I.cell, I.free, I.freeC, I.pin, I.hok, I.len⟩
theorem Inv.unwish (I : Inv (X.wish E) pins σ H s) : Inv X pins σ H s := ⟨I.ok.unwish, I.os, I.bare, I.base, I.loc, I.cell, I.free, I.freeC, I.pin, I.hok, I.len⟩
theorem SP.unwish {D : Ends} {f : Flow} {s' : Shared} (h : SP (X.wish E) pins D f s') : SP X pins D f s' := by
  cases f with
  | next => obtain ⟨σ', H', I, q⟩ := h; exact ⟨σ', H', I.unwish, q⟩
  | brk => obtain ⟨σ', H', I, q⟩ := h; exact ⟨σ', H', I.unwish, q⟩
  | cont => obtain ⟨σ', H', I, q⟩ := h; exact ⟨σ', H', I.unwish, q⟩
  | ret u => obtain ⟨v, σ', H', I, r, q⟩ := h; exact ⟨v, σ', H', I.unwish, r, q⟩
theorem PE.nox {e : Expr} {t : TE} (h : PE X.nox e t) : PE X e t := fun pins s σ H Q I hw =>
  wpAny_mono (h pins s σ H Q (I.wish _) hw) (fun _ _ ⟨v, H', I', r, q⟩ => ⟨v, H', I'.unwish, r, q⟩) fun _ _ z => False.elim z
theorem PT.nox {e : Expr} {t : TT} (h : PT X.nox e t) : PT X e t := fun pins s σ H Q I hw =>
  wpAny_mono (h pins s σ H Q (I.wish _) hw) (fun _ _ ⟨H', I', q⟩ => ⟨H', I'.unwish, q⟩) fun _ _ z => False.elim z
theorem PSs.nox {st : List Stmt} {t : TS} (h : PSs X.nox st t) : PSs X st t := fun pins s σ H D I hw =>
  wpAny_mono (h pins s σ H D (I.wish _) hw) (fun _ _ q => q.unwish) fun _ _ z => False.elim z
end
section
variable {X : Cx} {st : Stmt} {rest : List Stmt} {t u : TS} {e : Expr} {te : TE} {pos : Pos}
def tNext : TS := fun D σ H => D.nx σ H
def tSeq (t u : TS) : TS := fun D σ H => t { D with nx := u D } σ H
theorem zj1 : PSs X [] tNext := fun _ _ σ H _ I h => wpAny_execs_nil ⟨σ, H, I, h⟩
theorem zik (h1 : PS X st t) (h2 : PSs X rest u) : PSs X (st :: rest) (tSeq t u) := by
  intro pins s σ H D I h
  refine wpAny_execs_cons (thn (h1 pins s σ H { D with nx := u D } I h) fun f s1 q => ?_)
  cases f with
  | next =>
    obtain ⟨σ', H', I', q⟩ := q
    exact h2 pins s1 σ' H' D I' q
  | ret v => exact q
  | brk => exact q
  | cont => exact q
theorem zfq (h1 : PS X st t) : PSs X [st] t := by
  intro pins s σ H D I h
  refine wpAny_execs_cons (thn (h1 pins s σ H D I h) fun f s1 q => ?_)
  cases f with
  | next => exact wpAny_execs_nil q
  | ret v => exact q
  | brk => exact q
  | cont => exact q
theorem Inv.quiet {pins : List (Addr × Obj)} {σ : St} {H : Hp} {s : Shared} (I : Inv X pins σ H s) : interactive X.env = false := by simp [interactive, I.ok.kind]
def tDrop (te : TE) : TS := fun D σ H => te σ H fun _ H1 => D.nx σ H1
theorem zj2 (he : PE X e te) (hs : swapsWith e none pos.line X.env = pure false := by rfl) : PS X (.Expr e pos) (tDrop te) := by
  intro pins s σ H D I h
  exact wpAny_Expr_any (thn (he pins s σ H _ I h) fun v s1 ⟨x, H1, I1, r1, q1⟩ => ⟨σ, H1, I1, q1⟩) I.quiet hs
def tRet (te : TE) : TS := fun D σ H => te σ H D.rt
theorem zlz (he : PE X e te) : PS X (.Return (some e) pos) (tRet te) := by
  intro pins s σ H D I h
  exact wpAny_Return_some (thn (he pins s σ H _ I h) fun v s1 ⟨x, H1, I1, r1, q1⟩ => ⟨x, σ, H1, I1, r1, q1⟩)
def tIfS (c : TT) (t u : TS) : TS := fun D σ H => c σ H fun b H1 => if b = true then t D σ H1 else u D σ H1
theorem zm2 {c : Expr} {a b : List Stmt} {tc : TT} (hc : PT X c tc) (ha : PSs X a t) (hb : PSs X b u) : PS X (.If c a b pos) (tIfS tc t u) := by
  intro pins s σ H D I h
  refine wpAny_If (thn (hc pins s σ H _ I h) fun d s1 ⟨H1, I1, q1⟩ => ?_)
  cases d with
  | true => exact ha pins s1 σ H1 D I1 q1
  | false => exact hb pins s1 σ H1 D I1 q1
end
abbrev TG := V → St → Hp → (St → Hp → Prop) → Prop
abbrev TGs := List V → St → Hp → (St → Hp → Prop) → Prop
def PG (X : Cx) (target : Expr) (t : TG) : Prop :=
  ∀ (pins : List (Addr × Obj)) (s : Shared) (σ : St) (H : Hp) (v : V) (u : Value) (Q : St → Hp → Prop), Inv X pins σ H s → RelV v u → t v σ H Q →
    wpAny (model X.prog X.w) X.A (assign target X.env u) (fun _ s' => ∃ σ' H', Inv X pins σ' H' s' ∧ Q σ' H') X.xe s
def PGs (X : Cx) (ts : List Expr) (t : TGs) : Prop :=
  ∀ (pins : List (Addr × Obj)) (s : Shared) (σ : St) (H : Hp) (vs : List V) (us : List Value) (Q : St → Hp → Prop), Inv X pins σ H s → Vals vs us → t vs σ H Q →
    wpAny (model X.prog X.w) X.A (assignInOrder ((assignEach ts X.env).map (·.2)) us) (fun _ s' => ∃ σ' H', Inv X pins σ' H' s' ∧ Q σ' H') X.xe s
abbrev TIp := V → V → Hp → VK → Prop
def PIp (X : Cx) (op : Operator) (t : TIp) : Prop :=
  ∀ (pins : List (Addr × Obj)) (s : Shared) (σ : St) (H : Hp) (x y : V) (v u : Value) (Q : VK), Inv X pins σ H s → RelV x v → RelV y u → t x y H Q →
    wpAny (model X.prog X.w) X.A (inplaceOp op v u) (EP X pins σ Q) X.xe s
section
variable {X : Cx} {pos : Pos}
def gName (i : Nat) : TG := fun v σ H Q => Q (σ.set i (some v)) H
theorem zdu {i : Nat} {x : Str} (hN : X.N.Nodup) (hi : X.N[i]? = some x) (hx : Loc X.env.scope x) (hf : X.fn x = true ∨ X.env.scope.names.lookup x = some .local := by first | exact .inl rfl | exact .inr rfl | assumption) : PG X (.Name x pos) (gName i) := by
  intro pins s σ H v u Q I r h
  exact wpAny_assign_Name (zcz I hN hi hx r (fun s' I' => ⟨_, H, I', h⟩) hf)
def gNil : TGs := fun vs σ H Q => vs = [] ∧ Q σ H
def gCons (t : TG) (u : TGs) : TGs := fun vs σ H Q => ∃ v r, vs = v :: r ∧ t v σ H fun σ' H' => u r σ' H' Q
theorem zj3 : PGs X [] gNil := by
  intro pins s σ H vs us Q I r h
  obtain ⟨e, h⟩ := h
  subst e
  cases r
  exact assignInOrder_nil ⟨σ, H, I, h⟩
theorem zfM {e : Expr} {es : List Expr} {t : TG} {u : TGs} (h1 : PG X e t) (h2 : PGs X es u)
    (hs : (assignEach (e :: es) X.env).map (·.2) = assign e X.env :: (assignEach es X.env).map (·.2) := by rfl) : PGs X (e :: es) (gCons t u) := by
  intro pins s σ H vs us Q I r h
  obtain ⟨v, vr, e1, h⟩ := h
  subst e1
  cases r with
  | cons r rr =>
    rw [hs]
    refine assignInOrder_cons (thn (h1 pins s σ H _ _ _ I r h) fun _ s1 ⟨σ1, H1, I1, q1⟩ => ?_)
    exact h2 pins s1 σ1 H1 _ _ Q I1 rr q1
def gTup (K : PySem.W.Frag) (n : Nat) (t : TGs) : TG := fun v σ H Q => ∃ a xs, v = .ref a ∧ SqT K H a xs ∧ xs.length = n ∧ t xs σ H Q
theorem zlA {es : List Expr} {k : Nat} {t : TGs} {n : Nat} (hc : X.calm = true) (h : PGs X es t)
    (hn : (assignEach es X.env).length = n := by rfl) (hst : (assignEach es X.env).findIdx? (·.1) = none := by rfl) : PG X (.Tuple es k pos) (gTup X.K n t) := by
  intro pins s σ H v u Q I r hw
  obtain ⟨a, xs, e1, hq, hl, hw⟩ := hw
  subst e1
  cases r
  obtain ⟨its, rv, ht, hz⟩ := I.tuple hq
  refine assign_Tuple_tuple (I.ok.hd hc) ht (by simp [hn, ← hl, rv.length]) hst fun h' hx => ?_
  have I1 : Inv X pins σ H { s with heap := h' } := I.kept (t' := s.toks) fun b o e => hx b o (Nat.ne_of_lt (Heap.lt_size e)) e
  exact h pins _ σ H xs _ Q I1 (by simpa using rv) hw
def tAsg (te : TE) (g : TG) : TS := fun D σ H => te σ H fun x H1 => g x σ H1 D.nx
theorem zlB {i : Nat} {x : Str} {e : Expr} {te : TE} {pos' : Pos} (hN : X.N.Nodup) (hi : X.N[i]? = some x) (hx : Loc X.env.scope x) (he : PE X e te) (hs : swapsWith e (some (.Name x pos')) pos.line X.env = pure false := by rfl) (hf : X.fn x = true ∨ X.env.scope.names.lookup x = some .local := by first | exact .inl rfl | exact .inr rfl | assumption) :
    PS X (.Assign [.Name x pos'] e pos) (tAsg te (gName i)) := by
  intro pins s σ H D I h
  refine wpAny_Assign_Name (thn (he pins s σ H _ I h) fun v s1 ⟨y, H1, I1, r1, q1⟩ => ?_) hs
  exact zcz I1 hN hi hx r1 (fun s2 I2 => ⟨_, H1, I2, q1⟩) hf
def tAug (i : Nat) (te : TE) (ti : TIp) : TS := fun D σ H => ∃ x, σ[i]? = some (some x) ∧ te σ H fun y H1 => ti x y H1 fun z H2 => D.nx (σ.set i (some z)) H2
theorem zlC {i : Nat} {x : Str} {e : Expr} {te : TE} {op : Operator} {ti : TIp} {pos' : Pos} (hN : X.N.Nodup) (hi : X.N[i]? = some x) (hx : Loc X.env.scope x) (he : PE X e te) (ho : PIp X op ti) (hf : X.fn x = true ∨ X.env.scope.names.lookup x = some .local := by first | exact .inl rfl | exact .inr rfl | assumption) :
    PS X (.AugAssign (.Name x pos') op e pos) (tAug i te ti) := by
  intro pins s σ H D I h
  obtain ⟨v, e1, h⟩ := h
  obtain ⟨m, hn, hl⟩ := I.loc
  have vis : Vis X.env.scope x := by rcases hx with k | k; exact .inl k; exact .inr (.inl k)
  obtain ⟨u, r, l⟩ := hl i x v hi e1 vis
  refine wpAny_AugAssign_Name ?_
  have go : wpAny (model X.prog X.w) X.A (eval e X.env) (fun w s₂ => wpAny (model X.prog X.w) X.A (inplaceOp op u w) (fun r s₃ => wpAny (model X.prog X.w) X.A (storeName X.env x r) (fun _ => SP X pins D .next) X.xe s₃) X.xe s₂) X.xe s := by
    refine thn (he pins s σ H _ I h) fun w s1 ⟨y, H1, I1, r1, q1⟩ => ?_
    refine thn (ho pins s1 σ H1 v y u w _ I1 r r1 q1) fun z s2 ⟨zv, H2, I2, r2, q2⟩ => ?_
    exact zcz I2 hN hi hx r2 (fun s3 I3 => ⟨_, H2, I3, q2⟩) hf
  rcases l with ⟨hk, hm⟩ | ⟨hk, c, hc, hcell⟩
  · exact wpAny_loadName_local I.ok.kind hk hn hm go
  · rcases hk with hk | hk
    · exact wpAny_loadName_cell I.ok.kind hk hc hcell go
    · rcases hx with k | k
      · have : X.env.scope.names.lookup x = some .free := hk
        rw [k] at this; cases this
      · have : X.env.scope.names.lookup x = some .free := hk
        rw [k] at this; cases this
def ipI (f : Int → Int → Int) : TIp := fun x y H Q => ∃ i j, x = .int i ∧ y = .int j ∧ Q (.int (f i j)) H
theorem zlD : PIp X .Add (ipI fun i j => i + j) := by
  intro pins s σ H x y v u Q I r1 r2 h
  obtain ⟨i, j, e1, e2, q⟩ := h
  subst e1; subst e2
  obtain ⟨t, rfl⟩ := r1
  obtain ⟨t', rfl⟩ := r2
  exact iadd_int ⟨.int _, H, I.tok _, ⟨_, rfl⟩, q⟩
end
section
variable {X : Cx} {pos : Pos}
def tWhile (c : TT) (tb : TS) : TS := fun D σ H => ∃ W : Nat → St → Hp → Prop, (∃ m, W m σ H) ∧ ∀ m σ H, W m σ H →
  c σ H fun b H1 => if b = true then ∃ N : St → Hp → Prop, (∀ σ' H', N σ' H' → ∃ m', m' < m ∧ W m' σ' H') ∧ tb { D with nx := N, ct := N, bk := D.nx } σ H1 else D.nx σ H1
theorem zil {c : Expr} {body : List Stmt} {tc : TT} {tb : TS} (hp : PassesOwn (model X.prog X.w) X.A X.env X.xe) (hc : PT X c tc) (hb : PSs X body tb) : PS X (.While c body [] pos) (tWhile tc tb) := by
  intro pins s σ H D I h
  obtain ⟨W, ⟨m0, w0⟩, turn⟩ := h
  refine wpAny_While (codeAny_whileLoop (fun n s' => ∃ σ' H', Inv X pins σ' H' s' ∧ W n σ' H') ?_ m0 ⟨σ, H, I, w0⟩)
  rintro n s1 ⟨σ1, H1, I1, w1⟩
  refine wpAny_passesOwn hp (thn (hc pins s1 σ1 H1 _ I1 (turn n σ1 H1 w1)) fun b s2 ⟨H2, I2, q2⟩ => ?_)
  cases b with
  | true =>
    obtain ⟨N, hN, q2⟩ := q2
    rw [if_pos rfl]
    refine wpAny_passesOwn hp (thn (hb pins s2 σ1 H2 _ I2 q2) fun f s3 q3 => ?_)
    cases f with
    | next =>
      obtain ⟨σ3, H3, I3, n3⟩ := q3
      obtain ⟨m', hm, w3⟩ := hN σ3 H3 n3
      exact ⟨m', hm, σ3, H3, I3, w3⟩
    | cont =>
      obtain ⟨σ3, H3, I3, n3⟩ := q3
      obtain ⟨m', hm, w3⟩ := hN σ3 H3 n3
      exact ⟨m', hm, σ3, H3, I3, w3⟩
    | brk => exact q3
    | ret v => exact q3
  | false =>
    rw [if_neg Bool.false_ne_true]
    exact wpAny_execs_nil ⟨σ1, H2, I2, q2⟩
end
structure It where
  go : Nat → Hp → Prop
  yld : Nat → Hp → V → Hp → Prop
  stop : Nat → Hp → Prop
def FpOk (X : Cx) (pins : List (Addr × Obj)) (H : Hp) (b : Addr) : Prop :=
  H b = none ∧ b ≠ X.env.locals ∧ b ∉ X.fs ∧ (b ∈ X.ex ∨ X.s₀.heap.objs.size ≤ b) ∧ (∀ x c, X.env.cells.lookup x = some c → c ≠ b) ∧ ∀ p ∈ X.pn ++ pins, p.1 ≠ b
theorem Inv.fpOk {X : Cx} {pins : List (Addr × Obj)} {σ : St} {H H' : Hp} {s : Shared} {b : Addr} (I : Inv X pins σ H s) (hb : s.heap.objs.size ≤ b) (hn : H' b = none) : FpOk X pins H' b := by
  refine ⟨hn, Nat.ne_of_gt (Nat.lt_of_lt_of_le I.lt hb), I.nofs hb, .inr (Nat.le_trans I.sz hb), fun x c e z => ?_, fun p hp z => ?_⟩
  · obtain ⟨v, q⟩ := I.cell x c e
    exact absurd (Nat.lt_of_lt_of_le q.lt (by rw [z]; exact hb)) (Nat.lt_irrefl _)
  · exact absurd (Nat.lt_of_lt_of_le (Heap.lt_size (I.pin p hp).1) (by rw [z]; exact hb)) (Nat.lt_irrefl _)
structure Turn (P : Program) (w : World) (K : PySem.W.Frag) (tg : Expr) (J : It) (fp : List Addr) (it : Addr) (tn : Nat → Heap → Prop) : Prop where
  mem : it ∈ fp
  obj : ∀ i h, tn i h → ∀ b ∈ fp, ∃ o, h.get? b = some o ∧ ∀ v, o.data ≠ .cell v
  keep : ∀ i h h', tn i h → (∀ b ∈ fp, ∀ o, h.get? b = some o → h'.get? b = some o) → tn i h'
  item : ∀ (X : Cx), X.prog = P → X.w = w → X.K = K → X.calm = true → ∀ (i : Nat) (pins : List (Addr × Obj)) (s : Shared) (σ : St) (H : Hp) (E : Value → Shared → Prop), Inv X pins σ H s → (∀ b ∈ fp, FpOk X pins H b) → tn i s.heap → J.go i H →
    wpAny (model P w) X.A (pyNext (.ref it)) (fun r s1 => ∃ u, r = some u ∧
      wpAny (model P w) X.A (letOwnedTupleGo tg (.ref it) u) (fun _ s2 => ∃ x H', Inv X pins σ H' s2 ∧ RelV x u ∧ J.yld i H x H' ∧ tn (i + 1) s2.heap ∧ ∀ b ∈ fp, H' b = none) E s1) E s
  done : ∀ (X : Cx), X.prog = P → X.w = w → X.K = K → X.calm = true → ∀ (i : Nat) (pins : List (Addr × Obj)) (s : Shared) (σ : St) (H : Hp) (E : Value → Shared → Prop), Inv X pins σ H s → (∀ b ∈ fp, FpOk X pins H b) → tn i s.heap → J.stop i H →
    wpAny (model P w) X.A (pyNext (.ref it)) (fun r s1 => r = none ∧ Inv X pins σ H s1) E s
  self : ∀ (A : Around) (i : Nat) (s : Shared) (Q : Value → Shared → Prop) (E : Value → Shared → Prop), tn i s.heap → Q (.ref it) s → wpAny (model P w) A (pyIter (.ref it)) Q E s
abbrev TI := St → Hp → (It → Hp → Prop) → Prop
def PIE (X : Cx) (pins : List (Addr × Obj)) (σ : St) (tg : Expr) (R : It → Hp → Prop) (itv : Value) (s2 : Shared) : Prop :=
  ∃ (it : Addr) (fp : List Addr) (tn : Nat → Heap → Prop) (J : It) (H' : Hp), itv = .ref it ∧ Inv X pins σ H' s2 ∧ Turn X.prog X.w X.K tg J fp it tn ∧ tn 0 s2.heap ∧ (∀ b ∈ fp, FpOk X pins H' b) ∧ R J H'
def PI (X : Cx) (tg iter : Expr) (wi : TI) : Prop :=
  ∀ (pins : List (Addr × Obj)) (s : Shared) (σ : St) (H : Hp) (R : It → Hp → Prop), Inv X pins σ H s → wi σ H R →
    wpAny (model X.prog X.w) X.A (eval iter X.env) (fun v s1 => wpAny (model X.prog X.w) X.A (pyIter v) (PIE X pins σ tg R) X.xe s1) X.xe s
theorem zim {M : Model} {A : Around} {E : Value → Shared → Prop} {s : Shared} {tg : Expr} {it : Addr} {u : Value} {o : Obj} {n : String} {vs : Array Value} {Q : Unit → Shared → Prop} (ho : s.heap.get? it = some o) (hc : o.cls = .type n) (hd : o.data = .fields vs)
    (hn : ["enumerate", "zip", "dict_itemiterator", "dict_reverseitemiterator", "odict_iterator", "itertools.zip_longest", "itertools.pairwise"].contains n = false) (hQ : Q () s) : wpAny M A (letOwnedTupleGo tg (.ref it) u) Q E s := by
  unfold letOwnedTupleGo
  cases tg <;> first
    | exact wpAny_pure hQ
    | (cases u <;> first
        | exact wpAny_pure hQ
        | (refine wpAny_bind (wpAny_load ho ?_)
           rw [hc, hd]
           show wpAny M A (if (["enumerate", "zip", "dict_itemiterator", "dict_reverseitemiterator", "odict_iterator", "itertools.zip_longest", "itertools.pairwise"].contains n && vs[0]? == some (rawInt _)) = true then _ else _) Q E s
           rw [if_neg (by intro h; rw [hn, Bool.false_and] at h; cases h)]
           exact wpAny_pure hQ))
def Itl (K : PySem.W.Frag) (a : Addr) : It :=
  ⟨fun i H => ∃ xs x, SqL K H a xs ∧ xs[i]? = some x, fun i H x H' => H' = H ∧ ∀ xs, SqL K H a xs → xs[i]? = some x, fun i H => ∃ xs, SqL K H a xs ∧ xs.length ≤ i⟩
def Itt (K : PySem.W.Frag) (a : Addr) : It :=
  ⟨fun i H => ∃ xs x, SqT K H a xs ∧ xs[i]? = some x, fun i H x H' => H' = H ∧ ∀ xs, SqT K H a xs → xs[i]? = some x, fun i H => ∃ xs, SqT K H a xs ∧ xs.length ≤ i⟩
def Itr (lo : Int) (n : Nat) : It := ⟨fun i _ => i < n, fun i H x H' => H' = H ∧ x = .int (lo + i), fun i _ => n ≤ i⟩
theorem zgS {P : Program} {w : World} {K : PySem.W.Frag} {tg : Expr} (a it : Addr) : Turn P w K tg (Itl K a) [it] it (fun i h => h.IsListIter it a i) where
  mem := by simp
  obj := fun i h st b hb => by
    have e : b = it := by simpa using hb
    subst e
    obtain ⟨o, e, c, d⟩ := st
    exact ⟨o, e, fun v z => by rw [d] at z; cases z⟩
  keep := fun i h h' st k => st.at fun o e => k it (by simp) o e
  item := by
    intro X hP hw hK hc i pins s σ H E I hf st hg
    subst hP hw hK
    obtain ⟨xs, x, hq, hx⟩ := hg
    obtain ⟨its, rv, p, hz⟩ := I.list hq
    obtain ⟨u, hu, ru⟩ := rv.get hx
    obtain ⟨f0, f1, f2, f3, f4, f5⟩ := hf it (by simp)
    refine wpAny_pyNext_list_item st p.isList (x := u) (by simpa using hu) fun h' st' sb => ?_
    have I1 : Inv X pins σ H { s with heap := h' } := I.turned (t' := s.toks) (fun b o hb e => (sb.2 b hb).trans e) f0 f1 f3 f4 f5
    obtain ⟨o, e, c, d⟩ := id st'
    exact ⟨u, rfl, zim (s := { s with heap := h' }) e c d (by decide) ⟨x, H, I1, ru, ⟨rfl, fun ys hy => by rw [I.list_inj hy hq]; exact hx⟩, st', fun b hb => (hf b hb).1⟩⟩
  done := by
    intro X hP hw hK hc i pins s σ H E I hf st hg
    subst hP hw hK
    obtain ⟨xs, hq, hx⟩ := hg
    obtain ⟨its, rv, p, hz⟩ := I.list hq
    obtain ⟨f0, f1, f2, f3, f4, f5⟩ := hf it (by simp)
    have hl := rv.length
    exact wpAny_pyNext_list_end (I.ok.hd hc) st p.isList (by simp; omega) fun h' eb => ⟨rfl, I.turned (t' := s.toks) (fun b o hb e => eb b o hb e) f0 f1 f3 f4 f5⟩
  self := fun _ _ _ _ _ st h => wpAny_pyIter_listiter st h
theorem zgs {P : Program} {w : World} {K : PySem.W.Frag} {tg : Expr} (a it : Addr) : Turn P w K tg (Itt K a) [it] it (fun i h => h.IsTupleIter it a i) where
  mem := by simp
  obj := fun i h st b hb => by
    have e : b = it := by simpa using hb
    subst e
    obtain ⟨o, e, c, d⟩ := st
    exact ⟨o, e, fun v z => by rw [d] at z; cases z⟩
  keep := fun i h h' st k => st.at fun o e => k it (by simp) o e
  item := by
    intro X hP hw hK hc i pins s σ H E I hf st hg
    subst hP hw hK
    obtain ⟨xs, x, hq, hx⟩ := hg
    obtain ⟨its, rv, p, hz⟩ := I.tuple hq
    obtain ⟨u, hu, ru⟩ := rv.get hx
    obtain ⟨f0, f1, f2, f3, f4, f5⟩ := hf it (by simp)
    refine wpAny_pyNext_tuple_item st (show s.heap.IsTuple a its.toArray from p) (x := u) (by simpa using hu) fun h' st' sb => ?_
    have I1 : Inv X pins σ H { s with heap := h' } := I.turned (t' := s.toks) (fun b o hb e => (sb.2 b hb).trans e) f0 f1 f3 f4 f5
    obtain ⟨o, e, c, d⟩ := id st'
    exact ⟨u, rfl, zim (s := { s with heap := h' }) e c d (by decide) ⟨x, H, I1, ru, ⟨rfl, fun ys hy => by rw [I.tuple_inj hy hq]; exact hx⟩, st', fun b hb => (hf b hb).1⟩⟩
  done := by
    intro X hP hw hK hc i pins s σ H E I hf st hg
    subst hP hw hK
    obtain ⟨xs, hq, hx⟩ := hg
    obtain ⟨its, rv, p, hz⟩ := I.tuple hq
    obtain ⟨f0, f1, f2, f3, f4, f5⟩ := hf it (by simp)
    have hl := rv.length
    exact wpAny_pyNext_tuple_end (I.ok.hd hc) st (show s.heap.IsTuple a its.toArray from p) (by simp; omega) fun h' eb => ⟨rfl, I.turned (t' := s.toks) (fun b o hb e => eb b o hb e) f0 f1 f3 f4 f5⟩
  self := fun _ _ _ _ _ st h => wpAny_pyIter_tupleiter st h
theorem zgt {P : Program} {w : World} {K : PySem.W.Frag} {tg : Expr} (it : Addr) (lo : Int) (n : Nat) : Turn P w K tg (Itr lo n) [it] it (fun i h => IsRangeIter h it (lo + (i : Nat) * 1) ((n : Int) - (i : Nat)) 1) where
  mem := by simp
  obj := fun i h st b hb => by
    have e : b = it := by simpa using hb
    subst e
    exact ⟨_, st, fun v z => by
      have z' : Data.fields _ = Data.cell v := z
      cases z'⟩
  keep := fun i h h' st k => k it (by simp) _ st
  item := by
    intro X hP hw hK hc i pins s σ H E I hf st hg
    subst hP hw hK
    obtain ⟨f0, f1, f2, f3, f4, f5⟩ := hf it (by simp)
    have W := Walks.range (prog := X.prog) (w := X.w) (I.ok.hd hc) it lo 1 n
    refine W.item i s _ _ hg st fun v h' tk hv st' kk => ?_
    obtain ⟨t, rfl⟩ := hv
    have I1 : Inv X pins σ H { s with heap := h', toks := tk } := I.turned (fun b o hb e => kk b o (by simpa using hb) e) f0 f1 f3 f4 f5
    refine ⟨_, rfl, zim (s := { s with heap := h', toks := tk }) (n := "range_iterator") st' rfl rfl (by decide) ⟨.int (lo + i), H, I1, ⟨t, ?_⟩, ⟨rfl, rfl⟩, st', fun b hb => (hf b hb).1⟩⟩
    rw [Int.mul_one]
  done := by
    intro X hP hw hK hc i pins s σ H E I hf st hg
    subst hP hw hK
    obtain ⟨f0, f1, f2, f3, f4, f5⟩ := hf it (by simp)
    exact wpAny_pyNext_range_end (I.ok.hd hc) st (by have : n ≤ i := hg; omega) fun h' eb => ⟨rfl, I.turned (t' := s.toks) (fun b o hb e => eb b o hb e) f0 f1 f3 f4 f5⟩
  self := fun _ _ _ _ _ st h => wpAny_pyIter_rangeiter st h
end L2
namespace L2
open PySem PySem.Spec PyProof.Rows
section
variable {X : Cx} {tg : Expr}
theorem zin {pins : List (Addr × Obj)} {σ : St} {H : Hp} {s : Shared} {R : It → Hp → Prop} {E : Value → Shared → Prop} {lo hi : Int} {t u v : Tok} {tk : Nat} (I : Inv X pins σ H s) (h1 : -(2 ^ 62) ≤ lo) (h2 : lo < 2 ^ 62) (h3 : -(2 ^ 62) ≤ hi) (h4 : hi < 2 ^ 62)
    (q : R (Itr lo (hi - lo).toNat) H) : wpAny (model X.prog X.w) X.A (pyIter (.ref s.heap.objs.size)) (PIE X pins σ tg R) E { s with heap := s.heap.push { cls := .type "range", data := .fields #[.int lo t, .int hi u, .int 1 v] }, toks := tk } := by
  refine wpAny_pyIter_range (IsRange.new ..) (small_one h1 h2 h3 h4) ?_
  have I1 : Inv X pins σ H { s with heap := s.heap.push { cls := .type "range", data := .fields #[.int lo t, .int hi u, .int 1 v] }, toks := tk } := I.kept fun b o e => Heap.get?_push_of_some _ e
  refine ⟨(s.heap.push { cls := .type "range", data := .fields #[.int lo t, .int hi u, .int 1 v] }).objs.size, [(s.heap.push { cls := .type "range", data := .fields #[.int lo t, .int hi u, .int 1 v] }).objs.size], _, _, H, rfl,
    I1.kept (t' := tk) fun b o e => Heap.get?_push_of_some _ e, zgt _ lo (hi - lo).toNat, ?_, fun b hb => ?_, q⟩
  · have e1 : lo + ((0 : Nat) : Int) * 1 = lo := by simp
    have e2 : (((hi - lo).toNat : Nat) : Int) - ((0 : Nat) : Int) = Builtin.Range.rangeSize lo hi 1 := by rw [rangeSize_one]; split <;> omega
    show IsRangeIter _ _ (lo + ((0 : Nat) : Int) * 1) ((((hi - lo).toNat : Nat) : Int) - ((0 : Nat) : Int)) 1
    rw [e1, e2]
    exact Heap.get?_push_size _ rfl
  · have e : b = (s.heap.push { cls := .type "range", data := .fields #[.int lo t, .int hi u, .int 1 v] }).objs.size := by simpa using hb
    subst e
    exact I1.fpOk (Nat.le_refl _) (I1.hok.fresh (Nat.le_refl _))
def iRng1 (ta : TA) : TI := fun σ H R => ta σ H fun vs H1 => ∃ j : Int, vs = [.int j] ∧ -(2 ^ 62) ≤ j ∧ j < 2 ^ 62 ∧ R (Itr 0 j.toNat) H1
def iRng2 (ta : TA) : TI := fun σ H R => ta σ H fun vs H1 => ∃ i j : Int, vs = [.int i, .int j] ∧ (-(2 ^ 62) ≤ i ∧ i < 2 ^ 62 ∧ -(2 ^ 62) ≤ j ∧ j < 2 ^ 62) ∧ R (Itr i (j - i).toNat) H1
theorem zgT {a : Expr} {ta : TA} {p pos : Pos} (hg : Gl X "range") (hm : X.mg "range" = none) (ha : PA X [a] ta) (hs : starEach [a] X.env = [(false, eval a X.env)] := by rfl) : PI X tg (.Call (.Name "range" p) [a] [] pos) (iRng1 ta) := by
  intro pins s σ H R I h
  refine Call_ (zcA I hg hm boot_range (PyProof.Rows.callWith_type1 (thn (ha pos pins s σ H _ I h) fun us s1 ⟨vs, H1, I1, r1, q1⟩ => ?_) hs rfl))
  obtain ⟨j, e, q1, q2, q⟩ := q1
  subst e
  cases r1 with
  | cons r rr =>
    cases rr
    obtain ⟨t, rfl⟩ := r
    exact call_range_1 (zin I1 (by omega) (by omega) q1 q2 (by simpa using q))
def tFor (wi : TI) (g : TG) (tb : TS) : TS := fun D σ H => wi σ H fun J H1 => ∃ W : Nat → Nat → St → Hp → Prop, (∃ m, W 0 m σ H1) ∧ ∀ i m σ H, W i m σ H →
  (J.stop i H ∧ D.nx σ H) ∨ (J.go i H ∧ ∃ N : St → Hp → Prop, (∀ σ' H', N σ' H' → ∃ m', m' < m ∧ W (i + 1) m' σ' H') ∧ ∀ x H', J.yld i H x H' → g x σ H' fun σ2 H2 => tb { D with nx := N, ct := N, bk := D.nx } σ2 H2)
def pinsAt (fp : List Addr) (h : Heap) : List (Addr × Obj) := fp.filterMap fun b => (h.get? b).map fun o => (b, o)
theorem zb8 {fp : List Addr} {h : Heap} {b : Addr} {o : Obj} (hb : b ∈ fp) (e : h.get? b = some o) : (b, o) ∈ pinsAt fp h := List.mem_filterMap.mpr ⟨b, hb, by rw [e]; rfl⟩
theorem zgU {fp : List Addr} {h : Heap} {p : Addr × Obj} (hp : p ∈ pinsAt fp h) : p.1 ∈ fp ∧ h.get? p.1 = some p.2 := by
  obtain ⟨b, hb, e⟩ := List.mem_filterMap.mp hp
  cases q : h.get? b with
  | none => rw [q] at e; cases e
  | some o =>
    rw [q] at e
    have e' : (b, o) = p := Option.some.inj e
    subst e'
    exact ⟨hb, q⟩
theorem Inv.pinned {pins : List (Addr × Obj)} {σ : St} {H : Hp} {s : Shared} {fp : List Addr} (I : Inv X pins σ H s) (hf : ∀ b ∈ fp, FpOk X pins H b) (ho : ∀ b ∈ fp, ∃ o, s.heap.get? b = some o ∧ ∀ v, o.data ≠ .cell v) : Inv X (pins ++ pinsAt fp s.heap) σ H s :=
  I.pins_of fun p hp => (List.mem_append.mp hp).elim (fun z => I.pin p (List.mem_append_right _ z)) fun z => by
    obtain ⟨hb, e⟩ := zgU z
    obtain ⟨f0, f1, f2, _⟩ := hf p.1 hb
    obtain ⟨o, e', d⟩ := ho p.1 hb
    rw [e] at e'; cases e'
    exact ⟨e, f0, f1, f2, d⟩
theorem Inv.unpinned {pins pl : List (Addr × Obj)} {σ : St} {H : Hp} {s : Shared} (I : Inv X (pins ++ pl) σ H s) : Inv X pins σ H s := I.pins_of fun p hp => I.pin p (List.mem_append_right _ (List.mem_append_left _ hp))
theorem zjs {iter : Expr} {body : List Stmt} {wi : TI} {g : TG} {tb : TS} {pos : Pos} (hp : PassesOwn (model X.prog X.w) X.A X.env X.xe) (hc : X.calm = true) (hi : PI X tg iter wi) (hg : PG X tg g) (hb : PSs X body tb)
    (hs : ∀ x, foldedSetIterable iter X.env x = pure x := by intro _; rfl) : PS X (.For tg iter body [] pos) (tFor wi g tb) := by
  intro pins s σ H D I h
  refine wpAny_For (thn (hi pins s σ H _ I h) fun v s1 h1 => thn h1 fun itv s2 h2 => ?_) hs
  obtain ⟨it, fp, tn, J, H2, e, I2, T, st2, f2, W, ⟨m0, w0⟩, turn⟩ := h2
  subst e
  have stat : ∀ {H' : Hp}, (∀ b ∈ fp, H' b = none) → ∀ b ∈ fp, FpOk X pins H' b := fun hn b hb => ⟨hn b hb, (f2 b hb).2⟩
  refine codeAny_forLoop_any (fun n s' => ∃ i σ' H', Inv X pins σ' H' s' ∧ tn i s'.heap ∧ (∀ b ∈ fp, H' b = none) ∧ W i n σ' H') ?_ m0 ⟨0, σ, H2, I2, st2, fun b hb => (f2 b hb).1, w0⟩
  rintro n s3 ⟨i, σ3, H3, I3, st3, fr3, w3⟩
  rcases turn i n σ3 H3 w3 with ⟨stop, qn⟩ | ⟨go, N, hN, step⟩
  · refine wpAny_passesOwn hp (thn (T.done X rfl rfl rfl hc i pins s3 σ3 H3 X.xe I3 (stat fr3) st3 stop) fun r s4 ⟨hr, I4⟩ => ?_)
    subst hr
    exact wpAny_execs_nil ⟨σ3, H3, I4, qn⟩
  · refine wpAny_passesOwn hp (thn (T.item X rfl rfl rfl hc i pins s3 σ3 H3 X.xe I3 (stat fr3) st3 go) fun r s4 ⟨u, hr, h4⟩ => ?_)
    subst hr
    refine wpAny_passesOwn hp (thn h4 fun _ s5 ⟨x, H5, I5, r5, y5, st5, fr5⟩ => ?_)
    have I5' := I5.pinned (stat fr5) (T.obj _ _ st5)
    refine wpAny_passesOwn hp (thn (hg _ s5 σ3 H5 x u _ I5' r5 (step x H5 y5)) fun _ s6 ⟨σ6, H6, I6, q6⟩ => ?_)
    refine wpAny_passesOwn hp (thn (hb _ s6 σ6 H6 _ I6 q6) fun f s7 q7 => ?_)
    have again : ∀ {σ7 : St} {H7 : Hp}, Inv X (pins ++ pinsAt fp s5.heap) σ7 H7 s7 → N σ7 H7 → ∃ m, m < n ∧ ∃ i σ' H', Inv X pins σ' H' s7 ∧ tn i s7.heap ∧ (∀ b ∈ fp, H' b = none) ∧ W i m σ' H' := fun {σ7 H7} I7 n7 => by
      obtain ⟨m', hm, w7⟩ := hN σ7 H7 n7
      refine ⟨m', hm, i + 1, σ7, H7, I7.unpinned, T.keep _ _ _ st5 fun b hb o e => (I7.pin (b, o) (List.mem_append_right _ (List.mem_append_right _ (zb8 hb e)))).1, fun b hb => ?_, w7⟩
      obtain ⟨o, e, d⟩ := T.obj _ _ st5 b hb
      exact (I7.pin (b, o) (List.mem_append_right _ (List.mem_append_right _ (zb8 hb e)))).2.1
    cases f with
    | next => obtain ⟨σ7, H7, I7, n7⟩ := q7; exact again I7 n7
    | cont => obtain ⟨σ7, H7, I7, n7⟩ := q7; exact again I7 n7
    | brk => obtain ⟨σ7, H7, I7, q7⟩ := q7; exact ⟨σ7, H7, I7.unpinned, q7⟩
    | ret v => obtain ⟨x7, σ7, H7, I7, r7, q7⟩ := q7; exact ⟨x7, σ7, H7, I7.unpinned, r7, q7⟩
end
end L2
namespace L2
open PySem PySem.Spec PyProof.Rows
abbrev R2 := V → V → Hp → VK → Prop
def OpR (X : Cx) (f : Value → Value → Sem Value) (r : R2) : Prop :=
  ∀ (pins : List (Addr × Obj)) (s : Shared) (σ : St) (H : Hp) (x y : V) (v u : Value) (Q : VK), Inv X pins σ H s → RelV x v → RelV y u → r x y H Q →
    wpAny (model X.prog X.w) X.A (f v u) (EP X pins σ Q) X.xe s
def UnR (X : Cx) (f : Value → Sem Value) (r : V → Hp → VK → Prop) : Prop :=
  ∀ (pins : List (Addr × Obj)) (s : Shared) (σ : St) (H : Hp) (x : V) (v : Value) (Q : VK), Inv X pins σ H s → RelV x v → r x H Q →
    wpAny (model X.prog X.w) X.A (f v) (EP X pins σ Q) X.xe s
def CallR (X : Cx) (f : Value) (r : List V → Hp → VK → Prop) : Prop :=
  ∀ (pins : List (Addr × Obj)) (s : Shared) (σ : St) (H : Hp) (xs : List V) (us : List Value) (Q : VK), Inv X pins σ H s → Vals xs us → r xs H Q →
    wpAny (model X.prog X.w) X.A (call f us) (EP X pins σ Q) X.xe s
def tOp (r : R2) (ta tb : TE) : TE := fun σ H Q => ta σ H fun x H1 => tb σ H1 fun y H2 => r x y H2 Q
def tUn (r : V → Hp → VK → Prop) (ta : TE) : TE := fun σ H Q => ta σ H fun x H1 => r x H1 Q
def rI (C : Int → Int → Prop) (g : Int → Int → V) : R2 := fun x y H Q => ∃ i j, x = .int i ∧ y = .int j ∧ C i j ∧ Q (g i j) H
def rI0 (g : Int → Int → V) : R2 := fun x y H Q => ∃ i j, x = .int i ∧ y = .int j ∧ Q (g i j) H
def rU (g : Int → V) : V → Hp → VK → Prop := fun x H Q => ∃ i, x = .int i ∧ Q (g i) H
section
variable {X : Cx} {a b c : Expr} {ta tb tc : TE} {pos : Pos}
theorem binT (ha : PE X a ta) (hb : PE X b tb) {pins : List (Addr × Obj)} {s : Shared} {σ : St} {H : Hp} {R : V → V → Hp → Prop} (I : Inv X pins σ H s)
    (h : ta σ H fun x H1 => tb σ H1 fun y H2 => R x y H2) {Q : Value → Shared → Prop} {f : Value → Value → Sem Value}
    (hf : ∀ v u s2 x y H2, Inv X pins σ H2 s2 → RelV x v → RelV y u → R x y H2 → wpAny (model X.prog X.w) X.A (f v u) Q X.xe s2) :
    wpAny (model X.prog X.w) X.A (eval a X.env) (fun v s₁ => wpAny (model X.prog X.w) X.A (eval b X.env) (fun u s₂ => wpAny (model X.prog X.w) X.A (f v u) Q X.xe s₂) X.xe s₁) X.xe s := by
  refine thn (ha pins s σ H _ I h) fun v s1 ⟨x, H1, I1, r1, q1⟩ => ?_
  refine thn (hb pins s1 σ H1 _ I1 q1) fun u s2 ⟨y, H2, I2, r2, q2⟩ => ?_
  exact hf v u s2 x y H2 I2 r1 r2 q2
theorem zm3 {op : Operator} {r : R2} (ho : OpR X (binaryOp op) r) (ha : PE X a ta) (hb : PE X b tb) : PE X (.BinOp a op b pos) (tOp r ta tb) := by
  intro pins s σ H Q I h
  exact wpAny_BinOp (binT ha hb I h fun v u s2 x y H2 I2 rx ry q => ho pins s2 σ H2 x y v u Q I2 rx ry q)
theorem zm4 {op : UnaryOp} {r : V → Hp → VK → Prop} (ho : UnR X (unaryOp op) r) (ha : PE X a ta) : PE X (.UnaryOp op a pos) (tUn r ta) := by
  intro pins s σ H Q I h
  exact UnaryOp_ (thn (ha pins s σ H _ I h) fun v s1 ⟨x, H1, I1, r1, q1⟩ => ho pins s1 σ H1 x v Q I1 r1 q1)
theorem opI {f : Value → Value → Sem Value} {C : Int → Int → Prop} {g : Int → Int → Int}
    (rule : ∀ (i j : Int) (t u : Tok) (s : Shared) (Q : Value → Shared → Prop) (E : Value → Shared → Prop), C i j → Q (.int (g i j) s.toks) { s with toks := s.toks + 1 } → wpAny (model X.prog X.w) X.A (f (.int i t) (.int j u)) Q E s) :
    OpR X f (rI C fun i j => .int (g i j)) := by
  intro pins s σ H x y v u Q I rx ry h
  obtain ⟨i, j, rfl, rfl, hc, q⟩ := h
  obtain ⟨t, rfl⟩ := rx
  obtain ⟨t', rfl⟩ := ry
  exact rule i j t t' s _ _ hc ⟨.int (g i j), H, I.tok _, ⟨_, rfl⟩, q⟩
theorem znJ {f : Value → Value → Sem Value} {g : Int → Int → Int}
    (rule : ∀ (i j : Int) (t u : Tok) (s : Shared) (Q : Value → Shared → Prop) (E : Value → Shared → Prop), Q (.int (g i j) s.toks) { s with toks := s.toks + 1 } → wpAny (model X.prog X.w) X.A (f (.int i t) (.int j u)) Q E s) :
    OpR X f (rI0 fun i j => .int (g i j)) := by
  intro pins s σ H x y v u Q I rx ry h
  obtain ⟨i, j, rfl, rfl, q⟩ := h
  obtain ⟨t, rfl⟩ := rx
  obtain ⟨t', rfl⟩ := ry
  exact rule i j t t' s _ _ ⟨.int (g i j), H, I.tok _, ⟨_, rfl⟩, q⟩
theorem znK {f : Value → Value → Sem Value} {g : Int → Int → Bool}
    (rule : ∀ (i j : Int) (t u : Tok) (s : Shared) (Q : Value → Shared → Prop) (E : Value → Shared → Prop), Q (.bool (g i j)) s → wpAny (model X.prog X.w) X.A (f (.int i t) (.int j u)) Q E s) :
    OpR X f (rI0 fun i j => .bl (g i j)) := by
  intro pins s σ H x y v u Q I rx ry h
  obtain ⟨i, j, rfl, rfl, q⟩ := h
  obtain ⟨t, rfl⟩ := rx
  obtain ⟨t', rfl⟩ := ry
  exact rule i j t t' s _ _ ⟨.bl (g i j), H, I, rfl, q⟩
def CPow (i j : Int) : Prop := 0 ≤ j ∧ j ≤ 1000000 ∧ i.natAbs < 2 ^ 64
def CMul (i j : Int) : Prop := (-(2 ^ 64) < i ∧ i < 2 ^ 64) ∨ (-(2 ^ 64) < j ∧ j < 2 ^ 64)
theorem CMul.ok {i j : Int} (h : CMul i j) : IntMulOk i j := by
  rcases h with ⟨h1, h2⟩ | ⟨h1, h2⟩
  · exact .of_left (intBits_le_64 h1 h2)
  · exact .of_right (intBits_le_64 h1 h2)
theorem zlE : OpR X (binaryOp .Add) (rI0 fun i j => .int (i + j)) := znJ fun _ _ _ _ _ _ _ q => add_int q
theorem zlF : OpR X (binaryOp .Sub) (rI0 fun i j => .int (i - j)) := znJ fun _ _ _ _ _ _ _ q => sub_int q
theorem zlG : OpR X (binaryOp .Mult) (rI CMul fun i j => .int (i * j)) := opI fun _ _ _ _ _ _ _ hc q => mul_int q hc.ok
theorem zj4 : OpR X (binaryOp .Mod) (rI (fun _ j => j ≠ 0) fun i j => .int (i.fmod j)) := opI fun _ _ _ _ _ _ _ hc q => mod_int' hc q
theorem zlH : OpR X (binaryOp .Pow) (rI CPow fun i j => .int (i ^ j.toNat)) := opI fun _ _ _ _ _ _ _ hc q => pow_int_small hc.1 hc.2.1 hc.2.2 q
theorem unI {f : Value → Sem Value} {g : Int → Int}
    (rule : ∀ (i : Int) (t : Tok) (s : Shared) (Q : Value → Shared → Prop) (E : Value → Shared → Prop), Q (.int (g i) s.toks) { s with toks := s.toks + 1 } → wpAny (model X.prog X.w) X.A (f (.int i t)) Q E s) :
    UnR X f (rU fun i => .int (g i)) := by
  intro pins s σ H x v Q I rx h
  obtain ⟨i, rfl, q⟩ := h
  obtain ⟨t, rfl⟩ := rx
  exact rule i t s _ _ ⟨.int (g i), H, I.tok _, ⟨_, rfl⟩, q⟩
theorem zlI : UnR X (unaryOp .USub) (rU fun i => .int (-i)) := unI fun _ _ _ _ _ q => neg_int q
end
section
variable {X : Cx} {a b c : Expr} {ta tb tc : TE} {pos : Pos}
theorem zm5 : OpR X (compareOp .Lt) (rI0 fun i j => .bl (decide (i < j))) := znK fun _ _ _ _ _ _ _ q => lt_int q
theorem zm6 : OpR X (compareOp .Gt) (rI0 fun i j => .bl (decide (j < i))) := znK fun _ _ _ _ _ _ _ q => gt_int q
theorem OpR.or {f : Value → Value → Sem Value} {r r' : R2} (h : OpR X f r) (h' : OpR X f r') : OpR X f (fun x y H Q => r x y H Q ∨ r' x y H Q) := by
  intro pins s σ H x y v u Q I rx ry q
  rcases q with q | q
  · exact h pins s σ H x y v u Q I rx ry q
  · exact h' pins s σ H x y v u Q I rx ry q
theorem nomark (b : Expr) {op : CmpOp} (h : op ≠ .In := by decide) (h2 : op ≠ .NotIn := by decide) : behindInMarks op b = false := by
  have e1 : (op == CmpOp.In) = false := by cases op <;> first | rfl | exact absurd rfl h
  have e2 : (op == CmpOp.NotIn) = false := by cases op <;> first | rfl | exact absurd rfl h2
  cases b <;> simp [behindInMarks, e1, e2]
theorem zj5 {op : CmpOp} {r : R2} (ho : OpR X (compareOp op) r) (ha : PE X a ta) (hb : PE X b tb) (hm : behindInMarks op b = false) : PE X (.Compare a [op] [b] pos) (tOp r ta tb) := by
  intro pins s σ H Q I h
  exact wpAny_Compare1 (binT ha hb I h fun v u s2 x y H2 I2 rx ry q => ho pins s2 σ H2 x y v u Q I2 rx ry q) hm
def tTest (t : TE) : TT := fun σ H Q => t σ H fun x H' => ∃ k, x = .bl k ∧ Q k H'
theorem zgV {op : CmpOp} {r : R2} (ho : OpR X (compareOp op) r) (ha : PE X a ta) (hb : PE X b tb) (hm : behindInMarks op b = false) : PT X (.Compare a [op] [b] pos) (tTest (tOp r ta tb)) := by
  intro pins s σ H Q I h
  refine wpAny_isTrue_Compare1 (thn (ha pins s σ H _ I h) fun v s1 ⟨x, H1, I1, r1, q1⟩ => thn (hb pins s1 σ H1 _ I1 q1) fun u s2 ⟨y, H2, I2, r2, q2⟩ =>
    thn (ho pins s2 σ H2 x y v u _ I2 r1 r2 q2) fun c s3 ⟨z, H3, I3, r3, k, e, q3⟩ => ?_) hm
  subst e
  cases r3
  exact wpAny_truthy_bool ⟨H3, I3, q3⟩
theorem zfN : (sizeLine : Nat) < 2 ^ 63 := by rw [sizeLine_eq]; decide
theorem zgu : OpR X (binaryOp .Add) (fun x y H Q => ∃ i j, x = .str i ∧ y = .str j ∧ i.length + j.length ≤ sizeLine ∧ Q (.str (i ++ j)) H) := by
  intro pins s σ H x y v u Q I rx ry h
  obtain ⟨i, j, rfl, rfl, hz, q⟩ := h
  obtain ⟨t, rfl⟩ := rx
  obtain ⟨t', rfl⟩ := ry
  exact add_str (fun t' tk => ⟨.str (i ++ j), H, I.tok _, ⟨_, rfl⟩, q⟩) hz
theorem zgv {x : V} {us : List Value} (r : Vals [x] us) : ∃ u, us = [u] ∧ RelV x u := by
  cases r with
  | cons r1 r2 => cases r2; exact ⟨_, rfl, r1⟩
theorem zj6 {x y : V} {us : List Value} (r : Vals [x, y] us) : ∃ u w', us = [u, w'] ∧ RelV x u ∧ RelV y w' := by
  cases r with
  | cons r1 r2 =>
    cases r2 with
    | cons r3 r4 => cases r4; exact ⟨_, _, rfl, r1, r3⟩
theorem zgW : CallR X (.type "int") (fun xs H Q => (∃ i, xs = [.int i] ∧ Q (.int i) H) ∨ ∃ k, xs = [.bl k] ∧ Q (.int (if k then 1 else 0)) H) := by
  intro pins s σ H xs us Q I r h
  rcases h with ⟨i, rfl, q⟩ | ⟨k, rfl, q⟩
  · obtain ⟨u, rfl, t, rfl⟩ := zgv r
    exact call_int_int ⟨.int i, H, I, ⟨_, rfl⟩, q⟩
  · obtain ⟨u, rfl, r1⟩ := zgv r
    cases r1
    exact call_int_bool ⟨.int (if k then 1 else 0), H, I.tok _, ⟨_, rfl⟩, q⟩
theorem zey : CallR X (.type "str") (fun xs H Q => ∃ i, xs = [.int i] ∧ i.natAbs.log2 < 1920 ∧ Q (.str (toString i)) H) := by
  intro pins s σ H xs us Q I r h
  obtain ⟨i, rfl, hz, q⟩ := h
  obtain ⟨u, rfl, t, rfl⟩ := zgv r
  exact PySem.P.str_of_int hz ⟨.str _, H, I.tok _, ⟨_, rfl⟩, q⟩
def LenV (K : PySem.W.Frag) (x : V) (H : Hp) (n : Nat) : Prop :=
  match x with
  | .str y => y.length ≤ sizeLine ∧ n = y.length
  | .byt y => y.size ≤ sizeLine ∧ n = y.size
  | .ref p => (∃ xs, SqL K H p xs ∧ n = xs.length) ∨ ∃ xs, SqT K H p xs ∧ n = xs.length
  | _ => False
theorem zio : CallR X (.builtin "len") (fun xs H Q => ∃ x n, xs = [x] ∧ LenV X.K x H n ∧ Q (.int n) H) := by
  intro pins s σ H xs us Q I r h
  obtain ⟨x, n, rfl, e, q⟩ := h
  obtain ⟨u, rfl, rx⟩ := zgv r
  have hl := zfN
  have hs : sizeLine = 16777216 := sizeLine_eq
  cases x with
  | str y =>
    obtain ⟨t, rfl⟩ := rx
    obtain ⟨hy, e'⟩ : y.length ≤ sizeLine ∧ n = y.length := e
    subst e'
    exact len_str (by omega) ⟨.int _, H, I.tok _, ⟨_, rfl⟩, q⟩
  | byt y =>
    obtain ⟨t, rfl⟩ := rx
    obtain ⟨hy, e'⟩ : y.size ≤ sizeLine ∧ n = y.size := e
    subst e'
    exact PySem.W.len_bytes (by omega) ⟨.int _, H, I.tok _, ⟨_, rfl⟩, q⟩
  | ref p =>
    cases rx
    have e' : (∃ xs, SqL X.K H p xs ∧ n = xs.length) ∨ ∃ xs, SqT X.K H p xs ∧ n = xs.length := e
    rcases e' with ⟨xs, hx, e'⟩ | ⟨xs, hx, e'⟩
    · subst e'
      obtain ⟨its, r', pl, hz⟩ := I.list hx
      have hlen := r'.length
      exact Calls.call_len_list pl.isList (by simp only [List.size_toArray]; omega) ⟨.int xs.length, H, I.tok _, ⟨_, by simp only [List.size_toArray]; rw [hlen]⟩, q⟩
    · subst e'
      obtain ⟨its, r', pl, hz⟩ := I.tuple hx
      have hlen := r'.length
      exact len_tuple pl (by simp only [List.size_toArray]; omega) ⟨.int xs.length, H, I.tok _, ⟨_, by simp only [List.size_toArray]; rw [hlen]⟩, q⟩
  | _ => exact (show False from e).elim
end
end L2
namespace L2
open PySem PySem.Spec PyProof.Rows
structure ObjM (h : Heap) (x dx C : Addr) (mA : Str → Option Value) : Prop where
  obj : h.get? x = some (PySem.W.instObj C dx)
  ns : h.Ns1 dx mA
  ne : dx ≠ x
theorem zez {h : Heap} {dx : Addr} {mA : Str → Option Value} (n : h.Ns1 dx mA) : ∃ od, h.get? dx = some od ∧ ∀ name, PySem.W.lookIn name od = some (mA name) := by
  obtain ⟨o, es, ep, ho, hd, hk, _, hm⟩ := n
  refine ⟨o, ho, fun name => ?_⟩
  have e := hm name
  unfold nsFind findBy at e
  rw [← Array.find?_toList] at e
  unfold PySem.W.lookIn
  rw [hd]
  dsimp only
  split
  · rename_i y q
    rw [q] at e
    exact congrArg some e
  · rename_i q
    rw [q] at e
    have a : es.toList.any (·.refKey) = false := by
      rw [List.any_eq_false]
      intro y hy
      obtain ⟨z, t, hkey⟩ := hk y (Array.mem_toList_iff.mp hy)
      simp [DictEntry.refKey, hkey]
    have a' : ¬ es.toList.any (·.refKey) = true := by rw [a]; exact Bool.false_ne_true
    rw [if_neg a']
    exact congrArg some e
theorem ObjM.look {h : Heap} {x dx C : Addr} {mA : Str → Option Value} (I : ObjM h x dx C mA) : ∃ od, PySem.W.InstAt h x (PySem.W.instObj C dx) C (some od) ∧ ∀ name, PySem.W.lookIn name od = some (mA name) :=
  let ⟨od, ho, hl⟩ := zez I.ns
  ⟨od, ⟨I.obj, rfl, rfl, ho⟩, hl⟩
section
variable {prog : Program} {w : World} {A : Around} {E : Value → Shared → Prop} {s : Shared} {K : PySem.W.Frag} {x dx C f : Addr} {mA : Str → Option Value} {name : Str} {v : Value}
theorem zj7 {expr : Bool} {Q : Value → Shared → Prop} (X : K.In s.heap) (I : ObjM s.heap x dx C mA) (hg : PySem.W.plainGet K C name = true) (hh : PySem.W.hasDictIn K C = true)
    (ha : PySem.W.findIn K (.ref C) name = some none) (hv : mA name = some v) (hv' : PySem.W.handedIn v = true) (h : Q v { s with toks := s.toks + 1 }) :
    wpAny (model prog w) A (getAttr (.ref x) name expr) Q E s := by
  obtain ⟨od, J, hl⟩ := I.look
  exact PySem.W.get_value X J (PySem.W.plainGet_of hg).1 (PySem.W.findObj_own hh ha rfl (by rw [hl, hv])) hv' h
theorem ziq {pl : Sem Bool} {Q : Value × List Value → Shared → Prop} (X : K.In s.heap) (I : ObjM s.heap x dx C mA) (hg : PySem.W.plainGet K C name = true)
    (hf : PySem.W.findIn K (.ref C) name = some (some (.ref f))) (ht : PySem.W.isFn K (.ref f) = true) (hv : mA name = none) (h : Q (.ref f, [.ref x]) s) :
    wpAny (model prog w) A (getMethod (.ref x) name pl) Q E s := by
  obtain ⟨od, J, hl⟩ := I.look
  exact PySem.W.method_fn X J (PySem.W.plainGet_of hg).1 (PySem.W.plainGet_of hg).2 hf (beq_iff_eq.mp ht) (by show (PySem.W.lookIn name od).map (·.isSome) = some false; rw [hl, hv]; rfl) h
theorem zj8 {ns : List Str} {Q : Unit → Shared → Prop} (X : K.In s.heap) (I : ObjM s.heap x dx C mA)
    (hs : PySem.W.findIn K (.ref C) "__setattr__" = some (some (.builtin "object.__setattr__"))) (hp : PySem.W.plainOver K C = true) (ht : PySem.W.takerIn K C name = some none) (hh : PySem.W.hasDictIn K C = true)
    (hw : PySem.Within mA ns) (hsz : ns.length ≤ sizeLine)
    (h : ∀ h', ObjM h' x dx C (fun y => if y = name then some v else mA y) → Heap.SameBut dx s.heap h' → Q () { s with heap := h', toks := s.toks + 2 }) :
    wpAny (model prog w) A (setAttr (.ref x) name v) Q E s := by
  obtain ⟨od, J, hl⟩ := I.look
  refine PySem.W.set_plain X J hs (PySem.W.osa_open (s := { s with toks := s.toks + 1 }) (r := none) X J hp ht fun b => ?_)
  obtain ⟨cd, hc, hd'⟩ := PySem.W.any_some hh
  have hx : s.heap.get? x = some ⟨.ref C, some dx, .plain, #[]⟩ := I.obj
  refine wpAny_bind (wpAny_pure (wpAny_bind (wpAny_bind (wpAny_loadPart hx (wpAny_bind (PySem.W.Looks.here (s := { s with toks := s.toks + 1 }) (PySem.W.looks_clsIn X hc) ?_))))))
  rw [hd']
  refine wpAny_pure (a := some dx) (wpAny_bind (wpAny_pure (wpAny_bind ?_)))
  refine wpAny_nsSet1 (s := { s with toks := s.toks + 1 }) I.ns fun h' hn2 hs2 => ?_
  obtain ⟨oD, esD, epD, hoD, hdD, hcD⟩ := hn2.count (PySem.Within.cons name v hw)
  refine wpAny_bind (wpAny_lookBehind hoD (by rw [hdD]; exact pastItsLine_dict (Nat.le_trans hcD (by rw [List.length_cons]; omega))) ?_)
  exact wpAny_pure (h _ ⟨(hs2.2 _ (Ne.symm I.ne)).trans I.obj, hn2, I.ne⟩ hs2)
theorem zir {R : Result → Shared → Prop} {vs : List Value} {kw : List (Str × Value)} (X : K.In s.heap) (hm : PySem.W.makesIn K C = true)
    (hi : PySem.W.findIn K (.ref C) "__init__" = some (some (.ref f))) (hf : PySem.W.typeIn K (.ref f) = some (.type "function"))
    (h : codeAny (model prog w) (A.under (.builtin "type.__call__" ⟨.ref C :: vs, kw⟩)) (.call (.ref f) ⟨.ref (s.heap.objs.size + 1) :: vs, kw⟩) (PySem.W.InitBack (s.heap.objs.size + 1) R)
      { s with heap := (s.heap.push PySem.W.emptyDict).push (PySem.W.instObj C s.heap.objs.size) }) :
    codeAny (model prog w) A (.call (.ref C) ⟨vs, kw⟩) R s := by
  obtain ⟨hh, g, d, t, os⟩ := s
  exact PySem.W.make_core (PySem.W.makes_of X hm) (PySem.W.looks_findIn X hi) (fun self => PySem.W.bind_fn X self hf) (.inl rfl) h
end
def putF (f : Str) (v : V) : List (Str × V) → List (Str × V)
  | [] => [(f, v)]
  | (g, x) :: r => if g = f then (g, v) :: r else (g, x) :: putF f v r
theorem zdv (f g : Str) (v : V) : ∀ fs : List (Str × V), (putF f v fs).lookup g = if g = f then some v else fs.lookup g
  | [] => by
    show List.lookup g [(f, v)] = _
    by_cases h : g = f
    · have hb : (g == f) = true := beq_iff_eq.mpr h
      simp only [List.lookup, hb, if_pos h]
    · have hb : (g == f) = false := beq_eq_false_iff_ne.mpr h
      simp only [List.lookup, hb, if_neg h]
  | (k, x) :: r => by
    have ih := zdv f g v r
    rw [show putF f v ((k, x) :: r) = (if k = f then (k, v) :: r else (k, x) :: putF f v r) from rfl]
    by_cases hk : k = f
    · rw [if_pos hk]
      by_cases h : g = k
      · have hb : (g == k) = true := beq_iff_eq.mpr h
        simp only [List.lookup, hb, if_pos (h.trans hk)]
      · have hb : (g == k) = false := beq_eq_false_iff_ne.mpr h
        simp only [List.lookup, hb, if_neg (fun e : g = f => h (e.trans hk.symm))]
    · rw [if_neg hk]
      by_cases h : g = k
      · have hb : (g == k) = true := beq_iff_eq.mpr h
        simp only [List.lookup, hb, if_neg (fun e : g = f => hk (h.symm.trans e))]
      · have hb : (g == k) = false := beq_eq_false_iff_ne.mpr h
        simp only [List.lookup, hb]
        exact ih
theorem zdw (f : Str) (v : V) : ∀ fs : List (Str × V), f ∈ (putF f v fs).map (·.1) ∧ ∀ g, g ∈ fs.map (·.1) → g ∈ (putF f v fs).map (·.1)
  | [] => ⟨by simp [putF], fun g h => by simp at h⟩
  | (k, x) :: r => by
    obtain ⟨i1, i2⟩ := zdw f v r
    rw [show putF f v ((k, x) :: r) = (if k = f then (k, v) :: r else (k, x) :: putF f v r) from rfl]
    by_cases hk : k = f
    · rw [if_pos hk]
      subst hk
      exact ⟨by simp, fun g h => by simpa using h⟩
    · rw [if_neg hk]
      refine ⟨?_, fun g h => ?_⟩
      · rw [List.map_cons]
        exact List.mem_cons_of_mem _ i1
      · rw [List.map_cons] at h ⊢
        rcases List.mem_cons.mp h with e | e
        · exact List.mem_cons.mpr (.inl e)
        · exact List.mem_cons_of_mem _ (i2 g e)
theorem zdx (f : Str) (v : V) : ∀ fs : List (Str × V), (putF f v fs).length ≤ fs.length + 1
  | [] => by simp [putF]
  | (k, x) :: r => by
    have ih := zdx f v r
    rw [show putF f v ((k, x) :: r) = (if k = f then (k, v) :: r else (k, x) :: putF f v r) from rfl]
    by_cases hk : k = f
    · rw [if_pos hk, List.length_cons, List.length_cons]; omega
    · rw [if_neg hk, List.length_cons, List.length_cons]; omega
theorem RelO.some_of {v : V} {o : Option Value} (r : RelO (some v) o) : ∃ u, o = some u ∧ RelV v u := by
  cases o with
  | none => exact (show False from r).elim
  | some u => exact ⟨u, rfl, r⟩
theorem RelO.none_of {o : Option Value} (r : RelO none o) : o = none := by
  cases o with
  | none => rfl
  | some u => exact (show False from r).elim
theorem zeA {v : V} {u : Value} (r : RelV v u) : PySem.W.handedIn u = true := by
  cases v with
  | non => cases (show u = Value.none from r); rfl
  | bl b => cases (show u = Value.bool b from r); rfl
  | int i => obtain ⟨t, e⟩ := (show ∃ t, u = Value.int i t from r); cases e; rfl
  | str x => obtain ⟨t, e⟩ := (show ∃ t, u = Value.str x t from r); cases e; rfl
  | byt b => obtain ⟨t, e⟩ := (show ∃ t, u = Value.bytes b t from r); cases e; rfl
  | flt b => obtain ⟨t, e⟩ := (show ∃ t, u = Value.float b t from r); cases e; rfl
  | ref a => cases (show u = Value.ref a from r); rfl
  | ty n => cases (show u = Value.type n from r); rfl
section
variable {P : Program} {w : World} {H H' : Hp} {h h' : Heap} {a C dx : Addr} {fs fs' : List (Str × V)}
theorem zed (hok : HOk P w H h) (e : H a = some (.ins C dx fs)) : ∃ mA, ObjM h a dx C mA ∧ (∀ f, RelO (fs.lookup f) (mA f)) ∧ PySem.Within mA (fs.map (·.1)) ∧ fs.length ≤ 1000 ∧ H dx = some (.own a) := by
  obtain ⟨d, z, ne, ob, mA, n, r, q⟩ := (show ObjOk P w H h a (.ins C dx fs) from hok a _ e)
  exact ⟨mA, ⟨ob, n, ne⟩, r, q, z, d⟩
end
structure Cls (K : PySem.W.Frag) (C : Addr) : Prop where
  pg : PySem.W.plainGet K C Str.empty = true
  hd : PySem.W.hasDictIn K C = true
  po : PySem.W.plainOver K C = true
  sa : PySem.W.findIn K (.ref C) "__setattr__" = some (some (.builtin "object.__setattr__"))
theorem Cls.get {K : PySem.W.Frag} {C : Addr} (c : Cls K C) (f : Str) : PySem.W.plainGet K C f = true := c.pg
def NoAttr (K : PySem.W.Frag) (C : Addr) (f : Str) : Prop := PySem.W.findIn K (.ref C) f = some none
theorem NoAttr.taker {K : PySem.W.Frag} {C : Addr} {f : Str} (n : NoAttr K C f) : PySem.W.takerIn K C f = some none := by
  unfold PySem.W.takerIn
  rw [show PySem.W.findIn K (.ref C) f = some none from n]
  rfl
structure Con (K : PySem.W.Frag) (C : Addr) (f : Str) (v : V) (u : Value) : Prop where
  at_ : PySem.W.findIn K (.ref C) f = some (some u)
  rel : RelV v u
  get : PySem.W.specialIn K u "__get__" = some none
  cp : PySem.W.copiedNames.contains f = false
structure Meth (K : PySem.W.Frag) (C : Addr) (m : Str) (f : Addr) : Prop where
  at_ : PySem.W.findIn K (.ref C) m = some (some (.ref f))
  fn : PySem.W.isFn K (.ref f) = true
  kp : PySem.W.keepIn K (.ref f) = true
section
variable {X : Cx} {pins : List (Addr × Obj)} {σ : St} {H : Hp} {s : Shared} {a C dx : Addr} {fs : List (Str × V)} {f : Str} {v : V} {A : Around} {E : Value → Shared → Prop}
theorem zd1 {b : Bool} {Q : Value → Shared → Prop} (I : Inv X pins σ H s) (e : H a = some (.ins C dx fs)) (c : Cls X.K C) (n : NoAttr X.K C f) (l : fs.lookup f = some v)
    (h : ∀ u s', Inv X pins σ H s' → RelV v u → Q u s') : wpAny (model X.prog X.w) A (getAttr (.ref a) f b) Q E s := by
  obtain ⟨mA, O, r, _, _, _⟩ := zed I.hok e
  obtain ⟨u, hu, ru⟩ := RelO.some_of (v := v) (o := mA f) (by rw [← l]; exact r f)
  exact zj7 I.kIn O (c.get f) c.hd n hu (zeA ru) (h u _ (I.tok _) ru)
theorem zcX {m : Str} {g : Addr} {pl : Sem Bool} {Q : Value × List Value → Shared → Prop} (I : Inv X pins σ H s) (e : H a = some (.ins C dx fs)) (c : Cls X.K C) (k : Meth X.K C m g) (l : fs.lookup m = none)
    (h : Q (.ref g, [.ref a]) s) : wpAny (model X.prog X.w) A (getMethod (.ref a) m pl) Q E s := by
  obtain ⟨mA, O, r, _, _, _⟩ := zed I.hok e
  have hn : mA m = none := RelO.none_of (by rw [← l]; exact r m)
  exact ziq I.kIn O (c.get m) k.at_ k.fn hn h
theorem zd2 {y : V} {u : Value} {Q : Unit → Shared → Prop} (I : Inv X pins σ H s) (e : H a = some (.ins C dx fs)) (c : Cls X.K C) (n : NoAttr X.K C f) (hl : fs.length < 1000) (ry : RelV y u)
    (h : ∀ s', Inv X pins σ (upd H a (.ins C dx (putF f y fs))) s' → Q () s') : wpAny (model X.prog X.w) A (setAttr (.ref a) f u) Q E s := by
  obtain ⟨mA, O, r, wi, _, ho⟩ := zed I.hok e
  have hz : (fs.map (·.1)).length ≤ sizeLine := by rw [List.length_map, sizeLine_eq]; omega
  refine zj8 I.kIn O c.sa c.po n.taker c.hd wi hz fun h' O' sb => h _ ?_
  have hd : ∃ o, h'.get? dx = some o := let ⟨o, _, _, e', _⟩ := O'.ns; ⟨o, e'⟩
  refine I.write (x := a) (e := dx) (by rw [e]; exact True.intro) (.inr ho) (fun b q hb z => (sb.2 b hb).trans z) hd ?_
  refine ⟨by rw [zq O.ne]; exact ho, ?_, O.ne, O'.obj, _, O'.ns, fun g => ?_, fun g hg => ?_⟩
  · have := zdx f y fs; omega
  · show RelO ((putF f y fs).lookup g) (if g = f then some u else mA g)
    rw [zdv]
    by_cases q : g = f
    · rw [if_pos q, if_pos q]; exact ry
    · rw [if_neg q, if_neg q]; exact r g
  · by_cases q : g = f
    · rw [q]; exact (zdw f y fs).1
    · refine (zdw f y fs).2 g (wi g fun z => hg ?_)
      show (if g = f then some u else mA g) = none
      rw [if_neg q]; exact z
theorem Inv.made (I : Inv X pins σ H s) : Inv X pins σ (upd (upd H s.heap.objs.size (.own (s.heap.objs.size + 1))) (s.heap.objs.size + 1) (.ins C s.heap.objs.size []))
    { s with heap := (s.heap.push PySem.W.emptyDict).push (PySem.W.instObj C s.heap.objs.size) } := by
  have e1 : (s.heap.push PySem.W.emptyDict).get? s.heap.objs.size = some PySem.W.emptyDict := Heap.get?_push_size s.heap rfl
  have e2 : ((s.heap.push PySem.W.emptyDict).push (PySem.W.instObj C s.heap.objs.size)).get? (s.heap.objs.size + 1) = some (PySem.W.instObj C s.heap.objs.size) := by
    have := Heap.get?_push_size (s.heap.push PySem.W.emptyDict) (o := PySem.W.instObj C s.heap.objs.size) rfl
    rwa [Heap.size_push] at this
  have e3 : (s.heap.push PySem.W.emptyDict).Ns s.heap.objs.size (fun _ => none) := ⟨PySem.W.emptyDict, #[], _, e1, rfl, (fun e he => absurd he (by simp)), fun _ => rfl⟩
  have I1 := I.laid (a := s.heap.objs.size) (o := .own (s.heap.objs.size + 1)) (h' := s.heap.push PySem.W.emptyDict) (t' := s.toks) (fun b u q => Heap.get?_push_of_some _ q) (Nat.le_refl _) ⟨_, e1⟩
  refine I1.laid (a := s.heap.objs.size + 1) (o := .ins C s.heap.objs.size []) (t' := s.toks) (fun b u q => Heap.get?_push_of_some _ q) (Nat.le_of_eq (Heap.size_push _ _)) ?_
  have ne : s.heap.objs.size ≠ s.heap.objs.size + 1 := Nat.ne_of_lt (Nat.lt_succ_self _)
  refine ⟨by rw [zq ne, zu], Nat.zero_le _, ne, e2, fun _ => none, (Heap.Ns1.of_empty e3).at fun o q => Heap.get?_push_of_some _ q, fun _ => True.intro, fun y hy => absurd rfl hy⟩
theorem zj9 {prog : Program} {w : World} {env : Env} {e : Expr} {f : Str} {pos : Pos} {s : Shared} {Q : Value → Shared → Prop} (hb : attributeBase e f env (eval e env) = eval e env)
    (h : wpAny (model prog w) A (eval e env) (fun o s₁ => wpAny (model prog w) A (getAttr o f true) Q E s₁) E s) : wpAny (model prog w) A (eval (.Attribute e f pos) env) Q E s :=
  Attribute_any_ h (by rw [arm_eval_Attribute, hb])
end
def sFld (K : PySem.W.Frag) (ta tv : TE) (f : Str) : TS := fun D σ H => tv σ H fun y H1 => ta σ H1 fun x H2 => ∃ a C dx fs, x = .ref a ∧ H2 a = some (.ins C dx fs) ∧ Cls K C ∧ NoAttr K C f ∧ fs.length < 1000 ∧
  D.nx σ (upd H2 a (.ins C dx (putF f y fs)))
def InOp (X : Cx) (op : Operator) (rd : V → V → Hp → VK → Prop) : Prop :=
  ∀ (pins : List (Addr × Obj)) (s : Shared) (σ : St) (H : Hp) (x y : V) (u v : Value) (Q : VK), Inv X pins σ H s → RelV x u → RelV y v → rd x y H Q → wpAny (model X.prog X.w) X.A (inplaceOp op u v) (EP X pins σ Q) X.xe s
def sFldAug (K : PySem.W.Frag) (ta tv : TE) (rd : V → V → Hp → VK → Prop) (f : Str) : TS := fun D σ H => ta σ H fun x H1 => ∃ a C dx fs v, x = .ref a ∧ H1 a = some (.ins C dx fs) ∧ Cls K C ∧ NoAttr K C f ∧ fs.lookup f = some v ∧
  tv σ H1 fun y H2 => rd v y H2 fun z H3 => ∃ dx' fs', H3 a = some (.ins C dx' fs') ∧ fs'.length < 1000 ∧ D.nx σ (upd H3 a (.ins C dx' (putF f z fs')))
section
variable {X : Cx} {o e value : Expr} {f : Str} {pos pos' tpos : Pos} {ta tv : TE}
theorem zlJ (ha : PE X o ta) (hv : PE X value tv) (hs : swapsWith value (some (.Attribute o f pos')) pos.line X.env = pure false) : PS X (.Assign [.Attribute o f pos'] value pos) (sFld X.K ta tv f) := by
  intro pins s σ H D I h
  refine plainObj_wpAny_Assign_Attribute (thn (hv pins s σ H _ I h) fun u s1 ⟨y, H1, I1, ry, q⟩ => thn (ha pins s1 σ H1 _ I1 q) fun ov s2 ⟨x, H2, I2, rx, a, C, dx, fs, ex, ea, c, n, l, q2⟩ => ?_) hs
  subst ex
  obtain rfl : ov = Value.ref a := rx
  exact zd2 I2 ea c n l ry fun s3 I3 => ⟨σ, _, I3, q2⟩
theorem zgX {op : Operator} {rd : V → V → Hp → VK → Prop} (ha : PE X o ta) (hv : PE X value tv) (hop : InOp X op rd) : PS X (.AugAssign (.Attribute o f tpos) op value pos) (sFldAug X.K ta tv rd f) := by
  intro pins s σ H D I h
  refine wpAny_AugAssign_AttributeAny (thn (ha pins s σ H _ I h) fun ov s1 ⟨x, H1, I1, rx, a, C, dx, fs, v, ex, ea, c, n, l, q⟩ => ?_)
  subst ex
  obtain rfl : ov = Value.ref a := rx
  refine zd1 I1 ea c n l fun u s2 I2 ru => thn (hv pins s2 σ H1 _ I2 q) fun w3 s3 ⟨y, H2, I3, ry, q3⟩ => thn (hop pins s3 σ H2 v y u w3 _ I3 ru ry q3) fun w4 s4 ⟨z, H3, I4, rz, dx', fs', ea', l', q4⟩ => ?_
  exact zd2 I4 ea' c n l' rz fun s5 I5 => ⟨σ, _, I5, q4⟩
def rAdd : V → V → Hp → VK → Prop := fun x y H Q => ∃ i j, x = .int i ∧ y = .int j ∧ Q (.int (i + j)) H
theorem zlK : InOp X .Add rAdd := by
  rintro pins s σ H x y u v Q I rx ry ⟨i, j, rfl, rfl, q⟩
  obtain ⟨t, rfl⟩ := (show ∃ t, u = Value.int i t from rx)
  obtain ⟨t', rfl⟩ := (show ∃ t', v = Value.int j t' from ry)
  exact PyProof.Rows.iadd_int ⟨.int (i + j), H, I.tok _, ⟨_, rfl⟩, q⟩
end
section
variable {X : Cx} {pins : List (Addr × Obj)} {σ : St} {H : Hp} {s : Shared} {A : Around} {E : Value → Shared → Prop} {Q : Value → Shared → Prop} {c : Value} {b : Bool}
inductive TyOf (K : PySem.W.Frag) (H : Hp) : V → Value → Prop where
  | non : TyOf K H .non (.type "NoneType")
  | bl (x : Bool) : TyOf K H (.bl x) (.type "bool")
  | int (i : Int) : TyOf K H (.int i) (.type "int")
  | str (x : Str) : TyOf K H (.str x) (.type "str")
  | flt (x : UInt64) : TyOf K H (.flt x) (.type "float")
  | lst {a : Addr} {xs : List V} (e : H a = some (.lst xs)) : TyOf K H (.ref a) (.type "list")
  | frz {a : Addr} {o : Obj} {xs : List V} (e : H a = some (.frz o (.lst xs))) : TyOf K H (.ref a) (.type "list")
  | tup {a : Addr} {xs : List V} (e : H a = some (.tup xs)) : TyOf K H (.ref a) (.type "tuple")
  | dK {a : Addr} {kvs : List (Key × V)} (e : H a = some (.dK kvs)) : TyOf K H (.ref a) (.type "dict")
  | dT {a : Addr} {kvs : List (List Key × V)} (e : H a = some (.dT kvs)) : TyOf K H (.ref a) (.type "dict")
  | ins {a C dx : Addr} {fs : List (Str × V)} (e : H a = some (.ins C dx fs)) (cl : Cls K C) (ha : PySem.W.findIn K (.ref C) "__class__" = some (some (.builtin "object.__class__")))
      (hn : PySem.W.specialIn K (.builtin "object.__class__") "__get__" = some (some (.builtin "getset_descriptor.__get__"))) (htk : PySem.W.takesIn K (.builtin "object.__class__") = some true)
      (hm : PySem.W.mroIn K C (.type "object") = some true) : TyOf K H (.ref a) (.ref C)
theorem zgY {x : V} {u t : Value} (I : Inv X pins σ H s) (rx : RelV x u) (ty : TyOf X.K H x t) (e : PySem.W.kitOne X.K t c = some b) (h : ∀ tk, Q (.bool b) { s with toks := tk }) :
    wpAny (model X.prog X.w) A (call (.builtin "isinstance") [u, c]) Q E s := by
  cases ty with
  | non => cases (show u = Value.none from rx); exact PySem.W.kia_one PySem.W.kitx_none I.kIn True.intro e (fun z => nomatch z) h
  | bl y => cases (show u = Value.bool y from rx); exact PySem.W.kia_one PySem.W.kitx_bool I.kIn True.intro e (fun z => nomatch z) h
  | int i => obtain ⟨t, q⟩ := (show ∃ t, u = Value.int i t from rx); cases q; exact PySem.W.kia_one PySem.W.kitx_int I.kIn True.intro e (fun z => nomatch z) h
  | str y => obtain ⟨t, q⟩ := (show ∃ t, u = Value.str y t from rx); cases q; exact PySem.W.kia_one PySem.W.kitx_str I.kIn True.intro e (fun z => nomatch z) h
  | flt y => obtain ⟨t, q⟩ := (show ∃ t, u = Value.float y t from rx); cases q; exact PySem.W.kia_one PySem.W.kitx_float I.kIn True.intro e (fun z => nomatch z) h
  | @lst a xs ea =>
    cases (show u = Value.ref a from rx)
    obtain ⟨_, _, n, _, h1⟩ := (show ObjOk X.prog X.w H s.heap a (.lst xs) from I.hok a _ ea)
    exact PySem.W.kia_one PySem.W.kitx_list I.kIn ⟨_, h1, rfl⟩ e (fun z => nomatch z) h
  | @frz a ob xs ea =>
    cases (show u = Value.ref a from rx)
    obtain ⟨_, _, _, n, _, h1⟩ := (show ObjOk X.prog X.w H s.heap a (.frz ob (.lst xs)) from I.hok a _ ea)
    exact PySem.W.kia_one PySem.W.kitx_list I.kIn ⟨_, h1, rfl⟩ e (fun z => nomatch z) h
  | @tup a xs ea =>
    cases (show u = Value.ref a from rx)
    obtain ⟨_, _, _, p⟩ := (show ObjOk X.prog X.w H s.heap a (.tup xs) from I.hok a _ ea)
    obtain ⟨o, h1, h2, _⟩ := p
    exact PySem.W.kia_one PySem.W.kitx_tuple I.kIn ⟨o, h1, h2⟩ e (fun z => nomatch z) h
  | @dK a kvs ea =>
    cases (show u = Value.ref a from rx)
    obtain ⟨_, _, vs, _, p⟩ := (show ObjOk X.prog X.w H s.heap a (.dK kvs) from I.hok a _ ea)
    obtain ⟨o, es, ep, h1, h2, _⟩ := p
    exact PySem.W.kia_one PySem.W.kitx_dict I.kIn ⟨o, h1, h2.1⟩ e (fun z => nomatch z) h
  | @dT a kvs ea =>
    cases (show u = Value.ref a from rx)
    obtain ⟨_, _, xs, _, o, es, ep, h1, h2, _⟩ := (show ObjOk X.prog X.w H s.heap a (.dT kvs) from I.hok a _ ea)
    exact PySem.W.kia_one PySem.W.kitx_dict I.kIn ⟨o, h1, h2.1⟩ e (fun z => nomatch z) h
  | @ins a C dx fs ea cl ha hn htk hm =>
    cases (show u = Value.ref a from rx)
    obtain ⟨mA, O, _⟩ := zed I.hok ea
    obtain ⟨od, J, _⟩ := O.look
    exact PySem.W.kia_one (PySem.W.kitx_own (cl.get _) cl.hd ha hn htk hm) I.kIn J e (fun z => nomatch z) h
end
end L2
namespace L2
open PySem PySem.Spec PyProof.Rows
structure Room (k : Nat) (A : Around) : Prop where
  hd : A.handled = none
  dp : A.depth + 3 * k + 5 < recursionLimit
  un : A.units + 16 * k + 200 < cLine
theorem Room.mono {j k : Nat} {A : Around} (r : Room k A) (h : j ≤ k) : Room j A := ⟨r.hd, by have := r.dp; omega, by have := r.un; omega⟩
theorem Room.deeper {k : Nat} {A : Around} (r : Room (k + 1) A) (env : Env) : Room k (A.deeper env) :=
  ⟨r.hd, by have := r.dp; show A.depth + 1 + 3 * k + 5 < _; omega, by have := r.un; show A.units + 3 + 16 * k + 200 < _; omega⟩
theorem zgw {A : Around} {C : Addr} {us : List Value} {kw : List (Str × Value)} : (A.under (.builtin "type.__call__" ⟨.ref C :: us, kw⟩)).depth = A.depth + 1 := by
  first | rfl | simp [Around.under, Code.weight, Code.isCreation, Code.isGuard, Code.isCaller, Code.frames, Code.isFrame, guardIds]
theorem zgx {A : Around} {C : Addr} {us : List Value} {kw : List (Str × Value)} : (A.under (.builtin "type.__call__" ⟨.ref C :: us, kw⟩)).units = A.units + 1 := by
  first | rfl | simp [Around.under, Code.cUnits, Code.frames, Code.isFrame]
theorem Room.make {k : Nat} {A : Around} (r : Room (k + 1) A) (C : Addr) (us : List Value) (kw : List (Str × Value)) : Room k (A.under (.builtin "type.__call__" ⟨.ref C :: us, kw⟩)) :=
  ⟨r.hd, by have := r.dp; rw [zgw]; omega, by have := r.un; rw [zgx]; omega⟩
theorem Room.depth {k : Nat} {A : Around} (r : Room k A) : A.depth < recursionLimit := by have := r.dp; omega
def tNil : TA := fun _ H Q => Q [] H
def tCons (ta : TE) (tr : TA) : TA := fun σ H Q => ta σ H fun x H1 => tr σ H1 fun xs H2 => Q (x :: xs) H2
section
variable {X : Cx} {e : Expr} {es : List Expr} {te : TE} {t : TA} {pos : Pos}
theorem zgZ : PA X [] tNil := fun _ _ _ _ H Q I h => Calls.spliced_nil ⟨[], H, I, .nil, h⟩
theorem zfr (ha : PE X e te) (hr : PA X es t) (hs : starEach (e :: es) X.env = (false, eval e X.env) :: starEach es X.env := by rfl) : PA X (e :: es) (tCons te t) := by
  intro pos pins s σ H Q I h
  rw [hs]
  show wpAny _ _ (spliced ((false, eval e X.env) :: backTo pos (starEach es X.env))) _ _ s
  refine Calls.spliced_cons (thn (ha pins s σ H _ I h) fun u s1 ⟨x, H1, I1, r1, q1⟩ => ?_)
  exact thn (hr pos pins s1 σ H1 _ I1 q1) fun us s2 ⟨xs, H2, I2, r2, q2⟩ => ⟨x :: xs, H2, I2, .cons r1 r2, q2⟩
def tTup (t : TA) : TE := fun σ H Q => t σ H fun xs H1 => xs.length ≤ sizeLine ∧ ∀ p, H1 p = none → Q (.ref p) (upd H1 p (.tup xs))
def tLst (t : TA) : TE := fun σ H Q => t σ H fun xs H1 => xs.length ≤ sizeLine ∧ ∀ p, H1 p = none → Q (.ref p) (upd H1 p (.lst xs))
theorem zlL {x1} (h : PA X es t) : PE X (.Tuple es x1 pos) (tTup t) := by
  intro pins s σ H Q I hq
  refine wpAny_Tuple_spliced (thn (h pos pins s σ H _ I hq) fun us s1 ⟨xs, H1, I1, r, z, q⟩ => ⟨by rw [← r.length]; exact z, ?_⟩)
  have hf : H1 s1.heap.objs.size = none := I1.hok.fresh (Nat.le_refl _)
  refine ⟨.ref s1.heap.objs.size, upd H1 s1.heap.objs.size (.tup xs), I1.laid (t' := s1.toks) (fun b u e => Heap.get?_push_of_some _ e) (Nat.le_refl _) ?_, rfl, q _ hf⟩
  exact ⟨z, us, r, ⟨_, Heap.get?_push_size _ rfl, rfl, _, rfl⟩⟩
theorem zlM (h : PA X es t) : PE X (.List es pos) (tLst t) := by
  intro pins s σ H Q I hq
  refine wpAny_List_spliced (thn (h pos pins s σ H _ I hq) fun us s1 ⟨xs, H1, I1, r, z, q⟩ => ⟨by rw [← r.length]; exact z, ?_⟩)
  have hf : H1 s1.heap.objs.size = none := I1.hok.fresh (Nat.le_refl _)
  refine ⟨.ref s1.heap.objs.size, upd H1 s1.heap.objs.size (.lst xs), I1.laid (t' := s1.toks) (fun b u e => Heap.get?_push_of_some _ e) (Nat.le_refl _) ?_, rfl, q _ hf⟩
  exact ⟨z, us, 0, r, Heap.get?_push_size _ rfl⟩
end
abbrev Sp := List V → Hp → VK → XK → Prop
abbrev CXT := List Env → Hp → Shared → XK → Value → Shared → Prop
structure Env0 (P : Program) (w : World) (K : PySem.W.Frag) (mg : Str → Option Value) (base : Heap) (A : Around) (outer : List Env) (s : Shared) (H : Hp) : Prop where
  frames : A.frames = some outer
  mod : Mod K mg base
  bs : ∀ b o, base.get? b = some o → s.heap.get? b = some o ∧ H b = none
  bsz : base.objs.size ≤ s.heap.objs.size
  funs : s.heap.FunFrames base outer
  frf : ∀ b ∈ frs outer, H b = none
  hok : HOk P w H s.heap
  bare : AllBare s.gens
def CE (outer : List Env) (P : Program) (w : World) (H : Hp) (s : Shared) (Q : VK) (u : Value) (s' : Shared) : Prop :=
  ∃ v H', s'.os = s.os ∧ AllBare s'.gens ∧ Un (frs outer) [] H H' s.heap s'.heap ∧ HOk P w H' s'.heap ∧ RelV v u ∧ Q v H'
def CR (CX : CXT) (outer : List Env) (P : Program) (w : World) (H : Hp) (s : Shared) (Q : VK) (E : XK) (r : Result) (s' : Shared) : Prop :=
  match r with
  | .ok (.ret u) => CE outer P w H s Q u s'
  | .ok _ => False
  | .error e => CX outer H s E e s'
structure FnOk (P : Program) (w : World) (K : PySem.W.Frag) (mg : Str → Option Value) (base : Heap) (CX : CXT) (k : Nat) (f : Addr) (fd : FuncData) (ps : List Str) (sp : Sp) : Prop where
  len : ∀ vs H Q E, sp vs H Q E → vs.length = ps.length
  run : ∀ (A : Around) (outer : List Env) (s : Shared) (H : Hp) (args : Args) (us : List Value) (vs : List V) (Q : VK) (E : XK), Room k A → Env0 P w K mg base A outer s H → BindsTo s fd args (ps.zip us) → Vals vs us → sp vs H Q E →
    codeAny (model P w) A (.call (.ref f) args) (CR CX outer P w H s Q E) s
theorem FnOk.mono {P : Program} {w : World} {K : PySem.W.Frag} {mg : Str → Option Value} {base : Heap} {CX : CXT} {j k : Nat} {f : Addr} {fd : FuncData} {ps : List Str} {sp : Sp} (F : FnOk P w K mg base CX j f fd ps sp) (h : j ≤ k) :
    FnOk P w K mg base CX k f fd ps sp := ⟨F.len, fun A outer s H args us vs Q E hr => F.run A outer s H args us vs Q E (hr.mono h)⟩
theorem FnOk.imp {P : Program} {w : World} {K : PySem.W.Frag} {mg : Str → Option Value} {base : Heap} {CX : CXT} {k : Nat} {f : Addr} {fd : FuncData} {ps : List Str} {sp sp' : Sp} (F : FnOk P w K mg base CX k f fd ps sp)
    (h : ∀ vs H Q E, sp' vs H Q E → sp vs H Q E) : FnOk P w K mg base CX k f fd ps sp' :=
  ⟨fun vs H Q E q => F.len vs H Q E (h _ _ _ _ q), fun A outer s H args us vs Q E hr he hb hv hs => F.run A outer s H args us vs Q E hr he hb hv (h _ _ _ _ hs)⟩
theorem Env0.make {P : Program} {w : World} {K : PySem.W.Frag} {mg : Str → Option Value} {base : Heap} {A : Around} {outer : List Env} {s : Shared} {H : Hp} (e : Env0 P w K mg base A outer s H) (C : Addr) (us : List Value) (kw : List (Str × Value)) :
    Env0 P w K mg base (A.under (.builtin "type.__call__" ⟨.ref C :: us, kw⟩)) outer s H := ⟨by first | exact e.frames | (simpa [Around.under, Code.envs, Code.isFrame, pushEnvs] using e.frames), e.mod, e.bs, e.bsz, e.funs, e.frf, e.hok, e.bare⟩
section
variable {X : Cx} {pins : List (Addr × Obj)} {σ : St} {H : Hp} {s s' : Shared}
theorem Inv.env0 (I : Inv X pins σ H s) : Env0 X.prog X.w X.K X.mg X.base X.A X.stack s H :=
  ⟨I.ok.frames, I.ok.mod, I.bs, Nat.le_trans I.ok.bsz I.sz, I.stack, I.stkFree, I.hok, I.bare⟩
theorem Inv.after {Q : VK} {u : Value} (I : Inv X pins σ H s) (h : CE X.stack X.prog X.w H s Q u s') : EP X pins σ Q u s' := by
  obtain ⟨v, H', os, bare, un, hok, r, q⟩ := h
  obtain ⟨hh, g, d, t, os'⟩ := s'
  obtain rfl : os' = s.os := os
  exact ⟨v, H', I.call (h' := hh) (g' := g) (d' := d) (t' := t) (ch := []) un hok bare (fun b z => absurd z (by simp)), r, q⟩
end
def tCall (sp : Sp) (dvs : List V) (E : XK) (t : TA) : TE := fun σ H Q => t σ H fun vs H1 => sp (vs ++ dvs) H1 Q E
def tMake (C : Addr) (sp : Sp) (dvs : List V) (E : XK) (t : TA) : TE := fun σ H Q => t σ H fun vs H1 => ∀ x dx, H1 x = none → H1 dx = none → dx ≠ x →
  sp (.ref x :: (vs ++ dvs)) (upd (upd H1 dx (.own x)) x (.ins C dx [])) (fun v H2 => v = .non ∧ Q (.ref x) H2) E
def Binds (K : PySem.W.Frag) (fd : FuncData) (ps : List Str) (ds : List Value) : Prop :=
  ∀ (s : Shared) (us : List Value), K.In s.heap → (us ++ ds).length = ps.length → BindsTo s fd ⟨us, []⟩ (ps.zip (us ++ ds))
theorem Binds.all {K : PySem.W.Frag} {fd : FuncData} {ps : List Str} (h : ∀ us : List Value, us.length = ps.length → bindArgs fd ⟨us, []⟩ = pure (ps.zip us)) : Binds K fd ps [] := fun s us _ hl => by
  rw [List.append_nil] at hl ⊢
  exact .of_eq (h us hl)
def Passes (CX : CXT) (X : Cx) (E : XK) : Prop := ∀ (pins : List (Addr × Obj)) (σ : St) (H : Hp) (s : Shared) (e : Value) (s' : Shared), Inv X pins σ H s → CX X.stack H s E e s' → X.xe e s'
section
variable {X : Cx} {CX : CXT} {k : Nat} {f C : Addr} {fd : FuncData} {ps : List Str} {sp : Sp} {dvs : List V} {ds : List Value} {E : XK} {x m : Str} {p pos apos : Pos} {e o : Expr} {es : List Expr} {ta : TE} {t : TA}
theorem zfO {pins : List (Addr × Obj)} {σ : St} {H : Hp} {s : Shared} {Q : VK} {us : List Value} {vs : List V} (F : FnOk X.prog X.w X.K X.mg X.base CX k f fd ps sp) (hr : Room k X.A) (hb : Binds X.K fd ps ds) (hd : Vals dvs ds) (hx : Passes CX X E)
    (I : Inv X pins σ H s) (r : Vals vs us) (h : sp (vs ++ dvs) H Q E) : wpAny (model X.prog X.w) X.A (call (.ref f) us) (EP X pins σ Q) X.xe s := by
  have r2 : Vals (vs ++ dvs) (us ++ ds) := r.append hd
  have hl : (us ++ ds).length = ps.length := by rw [← r2.length]; exact F.len _ _ _ _ h
  refine wpAny_call (codeAny_mono (F.run X.A X.stack s H ⟨us, []⟩ (us ++ ds) (vs ++ dvs) Q E hr I.env0 (hb s us I.kIn hl) r2 h) fun r s' hq => ?_)
  cases r with
  | error e => exact hx pins σ H s e s' I hq
  | ok fl =>
    cases fl with
    | ret u => exact I.after hq
    | next => exact False.elim hq
    | brk => exact False.elim hq
    | cont => exact False.elim hq
theorem zka (F : FnOk X.prog X.w X.K X.mg X.base CX k f fd ps sp) (hr : Room k X.A) (hg : Gl X x) (hm : X.mg x = some (.ref f)) (hk : PySem.W.keepIn X.K (.ref f) = true) (hb : Binds X.K fd ps ds) (hd : Vals dvs ds) (hx : Passes CX X E)
    (ha : PA X (e :: es) t) (hdb : (x == ("__debug__" : Str)) = false := by decide) (he : starEach (e :: es) X.env = (false, eval e X.env) :: starEach es X.env := by rfl) (hpl : (backTo pos (starEach es X.env)).any (·.1) = false := by rfl) :
    PE X (.Call (.Name x p) (e :: es) [] pos) (tCall sp dvs E t) := by
  intro pins s σ H Q I h
  refine wpAny_Call_Name_kw (zdt I hg hm ?_ hdb)
  refine PySem.W.callWith_K (h₀ := X.base) I.ok.mod.kin hk (thn (ha pos pins s σ H _ I h) fun us s1 ⟨vs, H1, I1, r, q⟩ => ⟨I1.kIn, ?_⟩) he hpl
  exact zfO F hr hb hd hx I1 r q
structure Mk (K : PySem.W.Frag) (C f : Addr) : Prop where
  makes : PySem.W.makesIn K C = true
  init : PySem.W.findIn K (.ref C) "__init__" = some (some (.ref f))
  fn : PySem.W.isFn K (.ref f) = true
  kp : PySem.W.keepIn K (.ref C) = true
theorem zis {pins : List (Addr × Obj)} {σ : St} {H : Hp} {s : Shared} {Q : VK} {us : List Value} {vs : List V} (M : Mk X.K C f) (F : FnOk X.prog X.w X.K X.mg X.base CX k f fd ps sp) (hr : Room (k + 1) X.A) (hb : Binds X.K fd ps ds) (hd : Vals dvs ds)
    (hx : Passes CX X E) (I : Inv X pins σ H s) (r : Vals vs us)
    (h : ∀ x dx, H x = none → H dx = none → dx ≠ x → sp (.ref x :: (vs ++ dvs)) (upd (upd H dx (.own x)) x (.ins C dx [])) (fun v H2 => v = .non ∧ Q (.ref x) H2) E) :
    wpAny (model X.prog X.w) X.A (call (.ref C) us) (EP X pins σ Q) X.xe s := by
  have hq := h (s.heap.objs.size + 1) s.heap.objs.size (I.hok.fresh (Nat.le_succ _)) (I.hok.fresh (Nat.le_refl _)) (Nat.ne_of_lt (Nat.lt_succ_self _))
  have I2 := Inv.made (C := C) I
  have r2 : Vals (V.ref (s.heap.objs.size + 1) :: (vs ++ dvs)) (Value.ref (s.heap.objs.size + 1) :: (us ++ ds)) := .cons rfl (r.append hd)
  have hl : (Value.ref (s.heap.objs.size + 1) :: us ++ ds).length = ps.length := by
    have e := r2.length
    rw [F.len _ _ _ _ hq] at e
    exact e.symm
  refine wpAny_call (zir (f := f) I.kIn M.makes M.init (beq_iff_eq.mp M.fn) (codeAny_mono (F.run _ X.stack _ _ ⟨Value.ref (s.heap.objs.size + 1) :: us, []⟩ (Value.ref (s.heap.objs.size + 1) :: (us ++ ds)) _ _ E (hr.make C us [])
    (I2.env0.make C us []) (hb _ (Value.ref (s.heap.objs.size + 1) :: us) I2.kIn hl) r2 hq) fun r s' hq' => ?_))
  cases r with
  | error e => exact hx pins σ _ _ e s' I2 hq'
  | ok fl =>
    cases fl with
    | ret u =>
      obtain ⟨v, H', I3, rv, ev, q3⟩ := I2.after hq'
      subst ev
      exact ⟨rv, ⟨V.ref (s.heap.objs.size + 1), H', I3, rfl, q3⟩⟩
    | next => exact False.elim hq'
    | brk => exact False.elim hq'
    | cont => exact False.elim hq'
theorem zkb (M : Mk X.K C f) (F : FnOk X.prog X.w X.K X.mg X.base CX k f fd ps sp) (hr : Room (k + 1) X.A) (hg : Gl X x) (hm : X.mg x = some (.ref C)) (hb : Binds X.K fd ps ds) (hd : Vals dvs ds) (hx : Passes CX X E)
    (ha : PA X (e :: es) t) (hdb : (x == ("__debug__" : Str)) = false := by decide) (he : starEach (e :: es) X.env = (false, eval e X.env) :: starEach es X.env := by rfl) (hpl : (backTo pos (starEach es X.env)).any (·.1) = false := by rfl) :
    PE X (.Call (.Name x p) (e :: es) [] pos) (tMake C sp dvs E t) := by
  intro pins s σ H Q I h
  refine wpAny_Call_Name_kw (zdt I hg hm ?_ hdb)
  refine PySem.W.callWith_K (h₀ := X.base) I.ok.mod.kin M.kp (thn (ha pos pins s σ H _ I h) fun us s1 ⟨vs, H1, I1, r, q⟩ => ⟨I1.kIn, ?_⟩) he hpl
  exact zis M F hr hb hd hx I1 r q
end
section
variable {X : Cx} {CX : CXT} {k : Nat} {f C : Addr} {fd : FuncData} {ps ks : List Str} {sp : Sp} {E : XK} {x m : Str} {p pos apos kpos : Pos} {e o : Expr} {es : List Expr} {kws : List Keyword} {te ta : TE} {t tk : TA} {nm : Option Str}
structure KBinds (K : PySem.W.Frag) (fd : FuncData) (ps ks : List Str) (g : List Value → List Value → List Value) (gV : List V → List V → List V) : Prop where
  to : ∀ (s : Shared) (us ws : List Value), K.In s.heap → (g us ws).length = ps.length → BindsTo s fd ⟨us, ks.zip ws⟩ (ps.zip (g us ws))
  rel : ∀ {vs : List V} {us : List Value} {zs : List V} {ws : List Value}, Vals vs us → Vals zs ws → Vals (gV vs zs) (g us ws)
variable {g : List Value → List Value → List Value} {gV : List V → List V → List V}
end
structure FnScope (N P : List Str) (sc : Scope) : Prop where
  kind : sc.kind = .function
  co : sc.isCoroutine = false
  gen : sc.isGenerator = false
  nd : N.Nodup
  pre : N.take P.length = P
  par : ∀ x ∈ P, sc.names.lookup x = some .local ∨ sc.names.lookup x = some .cell
  nofree : ∀ y ∈ sc.names, y.2 ≠ .free
theorem zeB {kindOf : Str → Option NameKind} {x : Str} : ∀ {binds : List (Str × Value)} {m : Str → Option Value}, (∀ v, (x, v) ∉ binds) → bindL kindOf binds m x = m x
  | [], _, _ => rfl
  | (n, v) :: r, m, h => by
    unfold bindL
    rw [zeB fun w hw => h w (List.mem_cons_of_mem _ hw)]
    split
    · have : x ≠ n := by rintro rfl; exact h v List.mem_cons_self
      simp [this]
    · rfl
theorem zeC {kindOf : Str → Option NameKind} {x : Str} : ∀ {binds : List (Str × Value)} {m : Str → Option Value}, (∀ v, (x, v) ∉ binds) → bindC kindOf binds m x = m x
  | [], _, _ => rfl
  | (n, v) :: r, m, h => by
    unfold bindC
    rw [zeC fun w hw => h w (List.mem_cons_of_mem _ hw)]
    split
    · rfl
    · have : x ≠ n := by rintro rfl; exact h v List.mem_cons_self
      simp [this]
theorem zeD {kindOf : Str → Option NameKind} {x : Str} {v : Value} : ∀ {P : List Str} {vs : List Value} {i : Nat} {m : Str → Option Value}, P.Nodup → P[i]? = some x → vs[i]? = some v → kindOf x = some .local →
    bindL kindOf (P.zip vs) m x = some v
  | [], _, _, _, _, h, _, _ => by simp at h
  | _ :: _, [], _, _, _, _, h, _ => by simp at h
  | p :: P, w :: vs, 0, m, nd, h1, h2, hk => by
    simp at h1 h2; subst h1; subst h2
    show bindL kindOf ((p, w) :: P.zip vs) m p = _
    unfold bindL
    rw [zeB fun v hv => (List.nodup_cons.mp nd).1 (List.of_mem_zip hv).1, if_pos hk]
    simp
  | p :: P, w :: vs, i + 1, m, nd, h1, h2, hk => by
    show bindL kindOf ((p, w) :: P.zip vs) m x = _
    unfold bindL
    exact zeD (i := i) (List.nodup_cons.mp nd).2 (by simpa using h1) (by simpa using h2) hk
theorem zeE {kindOf : Str → Option NameKind} {x : Str} {v : Value} : ∀ {P : List Str} {vs : List Value} {i : Nat} {m : Str → Option Value}, P.Nodup → P[i]? = some x → vs[i]? = some v → kindOf x ≠ some .local →
    bindC kindOf (P.zip vs) m x = some v
  | [], _, _, _, _, h, _, _ => by simp at h
  | _ :: _, [], _, _, _, _, h, _ => by simp at h
  | p :: P, w :: vs, 0, m, nd, h1, h2, hk => by
    simp at h1 h2; subst h1; subst h2
    show bindC kindOf ((p, w) :: P.zip vs) m p = _
    unfold bindC
    rw [zeC fun v hv => (List.nodup_cons.mp nd).1 (List.of_mem_zip hv).1, if_neg hk]
    simp
  | p :: P, w :: vs, i + 1, m, nd, h1, h2, hk => by
    show bindC kindOf ((p, w) :: P.zip vs) m x = _
    unfold bindC
    exact zeE (i := i) (List.nodup_cons.mp nd).2 (by simpa using h1) (by simpa using h2) hk
def start (N : List Str) (vs : List V) : St := vs.map some ++ List.replicate (N.length - vs.length) none
def cxOf (CX : CXT) (P : Program) (w : World) (K : PySem.W.Frag) (mg : Str → Option Value) (base : Heap) (N : List Str) (qual : Str) (scope : Scope) (f : Addr) (cd : Value) (A : Around) (outer : List Env) (s : Shared) (H : Hp) (E : XK) : Cx where
  prog := P
  w := w
  K := K
  mg := mg
  base := base
  A := A.deeper (envOfC qual scope s.heap.objs.size f cd)
  N := N
  s₀ := s
  H₀ := H
  env := envOfC qual scope s.heap.objs.size f cd
  outer := outer
  stack := envOfC qual scope s.heap.objs.size f cd :: outer
  ex := []
  calm := true
  fn := fun _ => true
  pn := []
  xe := fun e s' => wpAny (model P w) (A.deeper (envOfC qual scope s.heap.objs.size f cd)) (leaving (envOfC qual scope s.heap.objs.size f cd) e) (fun _ s'' => CX outer H s E e s'') (fun e' s'' => CX outer H s E e' s'') s'
theorem zfP {sc : Scope} {n : Nat} {x : Str} (h : sc.names.lookup x = some .cell) : ∃ c, (cellsFrom n sc.names []).lookup x = some c := by
  have q := PySem.W.cellsFrom_some sc.names n [] (.inl h)
  exact Option.isSome_iff_exists.mp q
theorem zg0 {CX : CXT} {P : Program} {w : World} {K : PySem.W.Frag} {mg : Str → Option Value} {base : Heap} {N ps : List Str} {qual : Str} {scope : Scope} {f : Addr} {cd : Value} {A : Around} {outer : List Env} {s s1 : Shared} {H : Hp} {E : XK} {us : List Value} {vs : List V}
    (S : FnScope N ps scope) (hd : A.handled = none) (e0 : Env0 P w K mg base A outer s H) (hl : vs.length = ps.length) (r : Vals vs us)
    (x : InCallC s s.heap.objs.size (bindL (envOfC qual scope s.heap.objs.size f cd).kindOf (ps.zip us) fun _ => none) (cellsFrom (s.heap.objs.size + 1) scope.names []) (bindC (envOfC qual scope s.heap.objs.size f cd).kindOf (ps.zip us) fun _ => none) s1) :
    Inv (cxOf CX P w K mg base N qual scope f cd A outer s H E) [] (start N vs) H s1 := by
  have hpl : ps.length ≤ N.length := by have := congrArg List.length S.pre; rw [List.length_take] at this; omega
  obtain ⟨h1, tk, rfl, hk⟩ := x.done
  have noA : ∀ b : Addr, b ∉ (cxOf CX P w K mg base N qual scope f cd A outer s H E).ex := fun b z => absurd (show b ∈ ([] : List Addr) from z) (by simp)
  refine ⟨⟨e0.mod, S.kind, rfl, rfl, Nat.le_refl _, fun y z c h1 h2 => ?_, fun y hy => ?_, fun y c _ h => ?_, fun _ => hd, Around.frames_deeper e0.frames, .inr ⟨rfl, rfl⟩, fun b z => absurd z (noA b), e0.bs, e0.bsz, fun b _ _ => noA b, fun b z => absurd z (noA b), e0.funs, e0.frf⟩,
    rfl, e0.bare, Un.kept hk, ⟨_, x.toInCall.ns, fun i y v h1 h2 h3 => ?_⟩, fun y c h => ⟨_, x.cell y c h⟩, e0.hok.fresh (Nat.le_refl _), fun y c h => ?_, fun p hp => absurd (show p ∈ ([] : List (Addr × Obj)) from hp) (by simp), e0.hok.kept hk, ?_⟩
  · exact name_of_addr x.apart (PySem.mem_of_lookup h1) (PySem.mem_of_lookup h2)
  · have hy : scope.names.lookup y = some .cell ∨ scope.names.lookup y = some .free := hy
    rcases hy with hy | hy
    · exact zfP hy
    · exact absurd rfl (S.nofree _ (PySem.mem_of_lookup hy))
  · exact Nat.le_of_lt (x.above y c (PySem.mem_of_lookup h))
  · have hi : i < vs.length := by
      unfold start at h2
      by_cases hi : i < vs.length
      · exact hi
      · rw [List.getElem?_append_right (by simpa using hi)] at h2
        rw [List.getElem?_replicate] at h2
        split at h2 <;> cases h2
    have ha : vs[i]? = some v := by
      unfold start at h2
      rw [List.getElem?_append_left (by simpa using hi), List.getElem?_map] at h2
      cases e : vs[i]? with
      | none => rw [e] at h2; cases h2
      | some a => rw [e] at h2; cases h2; rfl
    obtain ⟨u, hu, rv⟩ := r.get ha
    have hp : ps[i]? = some y := by
      rw [← S.pre, List.getElem?_take_of_lt (by omega)]; exact h1
    have ndP : ps.Nodup := by rw [← S.pre]; exact S.nd.sublist (List.take_sublist _ _)
    refine ⟨u, rv, ?_⟩
    rcases S.par y (List.mem_of_getElem? hp) with k | k
    · exact .inl ⟨k, zeD ndP hp hu k⟩
    · obtain ⟨c, e⟩ := zfP (n := s.heap.objs.size + 1) k
      refine .inr ⟨.inl k, c, e, ?_⟩
      have q := x.cell y c e
      rw [zeE ndP hp hu (by show scope.names.lookup y ≠ _; rw [k]; decide)] at q
      exact q
  · exact e0.hok.fresh (Nat.le_of_lt (x.above y c (PySem.mem_of_lookup h)))
  · unfold start
    show _ = N.length
    rw [List.length_append, List.length_map, List.length_replicate]
    omega
theorem zlN {CX : CXT} {P : Program} {w : World} {K : PySem.W.Frag} {mg : Str → Option Value} {base : Heap} {k : Nat} {f : Addr} {name qual : Str} {params : Arguments} {body : List Stmt} {scope : Scope} {dV kV doc pm cdv ct oc : Value} {an od : Option Addr}
    {osl : Array (Option Value)} {N ps : List Str} {sp : Sp} (lk : K.lookup f = some ⟨oc, od, .func (PySem.W.fnOf name qual params body scope dV kV doc pm an cdv ct), osl⟩) (hcd : PySem.W.codeIn K cdv qual = true) (S : FnScope N ps scope)
    (len : ∀ vs H Q E, sp vs H Q E → vs.length = ps.length)
    (hbody : ∀ (A : Around) (outer : List Env) (s : Shared) (H : Hp) (vs : List V) (Q : VK) (E : XK), Room k (A.deeper (envOfC qual scope s.heap.objs.size f cdv)) → sp vs H Q E →
      ∃ t, PSs (cxOf CX P w K mg base N qual scope f cdv A outer s H E) body t ∧ t { nx := fun _ H' => Q .non H', rt := Q } (start N vs) H) :
    FnOk P w K mg base CX (k + 1) f (PySem.W.fnOf name qual params body scope dV kV doc pm an cdv ct) ps sp := by
  refine ⟨len, fun A outer s H args us vs Q E hr e0 hb r hsp => ?_⟩
  have hl := len _ _ _ _ hsp
  have KX : K.In s.heap := e0.mod.kin.keeps fun b o e => (e0.bs b o e).1
  have lim : s.heap.NoLimit := e0.mod.nolimit.keeps fun b o e => (e0.bs b o e).1
  have hkind : ∀ y ∈ ps.zip us, scope.names.lookup y.1 = some .local ∨ (scope.names.lookup y.1 = some .cell ∧ ((cellsFrom (s.heap.objs.size + 1) scope.names []).lookup y.1).isSome = true) := fun ⟨n, v⟩ hy => by
    rcases S.par n (List.of_mem_zip hy).1 with q | q
    · exact .inl q
    · exact .inr ⟨q, PySem.W.cellsFrom_some _ _ _ (.inl q)⟩
  refine codeAny_call_function hr.depth (KX _ _ lk) rfl S.co S.gen rfl (PySem.W.codeRec_of KX hcd) (hb _ _ _ _ ?_)
  refine wpAny_newFunctionEnv_cells S.kind hkind fun env he s1 x => ?_
  subst he
  refine ⟨lim.keeps x.toInCall.keep, codeAny_func ?_⟩
  obtain ⟨t, ht, hq⟩ := hbody A outer s H vs Q E (hr.deeper _) hsp
  have I : Inv (cxOf CX P w K mg base N qual scope f cdv A outer s H E) [] (start N vs) H s1 := zg0 S hr.hd e0 hl r x
  refine wpAny_mono (ht [] s1 (start N vs) H _ I hq) (fun fl s' hs => ?_) fun e s' hs => hs
  have fin : ∀ {σ' : St} {H' : Hp} {v : V} {u : Value}, Inv (cxOf CX P w K mg base N qual scope f cdv A outer s H E) [] σ' H' s' → RelV v u → Q v H' → CE outer P w H s Q u s' :=
    fun {σ' H' v u} J rv q => ⟨v, H', J.os, J.bare, J.base, J.hok, rv, q⟩
  cases fl with
  | ret u =>
    obtain ⟨v, σ', H', J, rv, q⟩ := hs
    exact fin J rv q
  | next =>
    obtain ⟨σ', H', J, q⟩ := hs
    exact fin (v := V.non) (u := Value.none) J rfl q
  | brk =>
    obtain ⟨_, _, _, q⟩ := hs
    exact False.elim q
  | cont =>
    obtain ⟨_, _, _, q⟩ := hs
    exact False.elim q
end L2
namespace L2
open PySem PySem.Spec PyProof.Rows
section
variable {X : Cx} {x : Str} {p pos : Pos} {e : Expr} {es : List Expr} {t : TA} {id T : String} {r : List V → Hp → VK → Prop}
def tCB (r : List V → Hp → VK → Prop) (t : TA) : TE := fun σ H Q => t σ H fun vs H1 => r vs H1 Q
theorem zit (hc : CallR X (.builtin id) r) (hg : Gl X x) (hm : X.mg x = none) (hv : bootBuiltins x = some (.builtin id)) (ha : PA X (e :: es) t) (hn : x ≠ "__name__" := by decide) (hdb : (x == ("__debug__" : Str)) = false := by decide)
    (he : starEach (e :: es) X.env = (false, eval e X.env) :: starEach es X.env := by rfl) (hpl : (backTo pos (starEach es X.env)).any (·.1) = false := by rfl) : PE X (.Call (.Name x p) (e :: es) [] pos) (tCB r t) := by
  intro pins s σ H Q I h
  refine wpAny_Call_Name_kw (zcA I hg hm hv ?_ hn hdb)
  exact PyProof.Rows.callWith_builtin1 (thn (ha pos pins s σ H _ I h) fun us s1 ⟨vs, H1, I1, r1, q1⟩ => hc pins s1 σ H1 vs us Q I1 r1 q1) he hpl
theorem zg1 (hc : CallR X (.type T) r) (hg : Gl X x) (hm : X.mg x = none) (hv : bootBuiltins x = some (.type T)) (ha : PA X (e :: es) t) (hn : x ≠ "__name__" := by decide) (hdb : (x == ("__debug__" : Str)) = false := by decide)
    (he : starEach (e :: es) X.env = (false, eval e X.env) :: starEach es X.env := by rfl) (hpl : (backTo pos (starEach es X.env)).any (·.1) = false := by rfl) : PE X (.Call (.Name x p) (e :: es) [] pos) (tCB r t) := by
  intro pins s σ H Q I h
  refine wpAny_Call_Name_kw (zcA I hg hm hv ?_ hn hdb)
  exact PyProof.Rows.callWith_type1 (thn (ha pos pins s σ H _ I h) fun us s1 ⟨vs, H1, I1, r1, q1⟩ => hc pins s1 σ H1 vs us Q I1 r1 q1) he hpl
end
end L2
namespace HT
open PySem PyProof.Rows
section
open PySem.SeqAt
open PySem.AutoSeq1 (wpAny_loadPart')
open PySem.MeetsSeq PySem.MeetsSeq2 PySem.MeetsSeq3
end
section
variable {prog : Program} {w : World} {A : Around} {E : Value → Shared → Prop} {s : Shared}
theorem cat_tup {t b : Addr} {vs ws : List Value} {Q : Value → Shared → Prop} (ht : IsTup s.heap t vs.toArray) (hb : IsTup s.heap b ws.toArray) (hv : vs ≠ [])
    (h1 : ws = [] → Q (.ref t) s) (h2 : ws ≠ [] → Q (.ref s.heap.objs.size) { s with heap := s.heap.push { cls := .type "tuple", data := .seq (vs ++ ws).toArray } })
    (hsz : vs.length + ws.length ≤ sizeLine) : wpAny (model prog w) A (binaryOp .Add (.ref t) (.ref b)) Q E s := by
  obtain ⟨⟨cls, dd, data, sl⟩, ho, hc, n, hd⟩ := id ht
  obtain ⟨⟨cls2, dd2, data2, sl2⟩, ho2, hc2, n2, hd2⟩ := id hb
  simp only at hc hd hc2 hd2
  subst hc hd hc2 hd2
  have e : vs.toArray ++ ws.toArray = (vs ++ ws).toArray := by simp
  by_cases hw : ws = []
  · exact concat_meets ⟨_, ho, rfl⟩ ⟨_, ho2, rfl⟩ noFill_tuple_add seq_tuple_add PySem.F.slot_tuple_add PySem.F.entry_tuple_add (PySem.F.args_tuple_add_2 _ _)
      (tuple_addW1 t b vs.toArray ws.toArray n n2 dd dd2 sl sl2 (by simpa using hv) (by simp [hw])) ⟨ho, ho2, h1 hw⟩
  · refine concat_meets ⟨_, ho, rfl⟩ ⟨_, ho2, rfl⟩ noFill_tuple_add seq_tuple_add PySem.F.slot_tuple_add PySem.F.entry_tuple_add (PySem.F.args_tuple_add_2 _ _)
      (tuple_addW2 t b vs.toArray ws.toArray n n2 dd dd2 sl sl2 (by simpa using hv) (by simpa using hw) (by rw [List.size_toArray, List.size_toArray]; exact hsz)) ⟨ho, ho2, ?_⟩
    rw [e]
    exact h2 hw
end
end HT
namespace L2
open PySem PySem.Spec PyProof.Rows
abbrev TO := St → Hp → (Option Int → Hp → Prop) → Prop
section
variable {X : Cx} {e : Expr} {te : TE} {lo hi : Option Expr} {tl th : TO} {pos p2 : Pos}
def rCatT (K : PySem.W.Frag) : R2 := fun x y H Q => ∃ a b xs ys, x = .ref a ∧ y = .ref b ∧ SqT K H a xs ∧ SqT K H b ys ∧ xs ≠ [] ∧ xs.length + ys.length ≤ sizeLine ∧
  (ys = [] → Q (.ref a) H) ∧ (ys ≠ [] → ∀ p, H p = none → Q (.ref p) (upd H p (.tup (xs ++ ys))))
theorem Vals.nil_iff {xs : List V} {us : List Value} (r : Vals xs us) : us = [] ↔ xs = [] := by
  cases r with
  | nil => simp
  | cons _ _ => simp
theorem zkc : OpR X (binaryOp .Add) (rCatT X.K) := by
  intro pins s σ H x y v u Q I rx ry h
  obtain ⟨a, b, xs, ys, rfl, rfl, ha, hb, hx, hz, q1, q2⟩ := h
  cases rx
  cases ry
  obtain ⟨its, r1, p1, _⟩ := I.tuple ha
  obtain ⟨its2, r2, p2, _⟩ := I.tuple hb
  refine HT.cat_tup p1 p2 (fun z => hx (r1.nil_iff.mp z)) (fun z => ⟨.ref a, H, I, rfl, q1 (r2.nil_iff.mp z)⟩) (fun z => ?_) (by rw [← r1.length, ← r2.length]; exact hz)
  refine ⟨.ref s.heap.objs.size, _, I.laid (t' := s.toks) (o := .tup (xs ++ ys)) (fun b ob q => Heap.get?_push_of_some _ q) (Nat.le_refl _) ?_, rfl, q2 (fun w => z (r2.nil_iff.mpr w)) _ (I.hok.fresh (Nat.le_refl _))⟩
  exact ⟨by rw [List.length_append]; exact hz, _, r1.append r2, IsTup.new _ _⟩
end
end L2
namespace L2
open PySem PySem.Spec PyProof.Rows
def ixN (n : Nat) (i : Int) : Option Nat := if 0 ≤ i then (if i < n then some i.toNat else none) else if -(n : Int) ≤ i then some (i + n).toNat else none
def atI {α : Type} (xs : List α) (i : Int) : Option α := (ixN xs.length i).bind fun j => xs[j]?
theorem zkd {n : Nat} {i : Int} {j : Nat} (h : ixN n i = some j) : seqIndex? i n = some j ∧ j < n ∧ -(n : Int) ≤ i ∧ i < n := by
  unfold ixN at h
  by_cases h0 : 0 ≤ i
  · rw [if_pos h0] at h
    by_cases h1 : i < n
    · rw [if_pos h1] at h
      have e : i.toNat = j := Option.some.inj h
      exact ⟨by rw [seqIndex_of h0 h1, e], by omega, by omega, h1⟩
    · rw [if_neg h1] at h; cases h
  · rw [if_neg h0] at h
    by_cases h1 : -(n : Int) ≤ i
    · rw [if_pos h1] at h
      have e : (i + n).toNat = j := Option.some.inj h
      exact ⟨by rw [seqIndex_neg (by omega) h1, e], by omega, h1, by omega⟩
    · rw [if_neg h1] at h; cases h
theorem atI_get {α : Type} {xs : List α} {i : Int} {v : α} (h : atI xs i = some v) : ∃ j, seqIndex? i xs.length = some j ∧ xs[j]? = some v ∧ j < xs.length ∧ -(xs.length : Int) ≤ i ∧ i < xs.length := by
  unfold atI at h
  cases e : ixN xs.length i with
  | none => rw [e] at h; cases h
  | some j =>
    rw [e] at h
    obtain ⟨h1, h2, h3, h4⟩ := zkd e
    exact ⟨j, h1, h, h2, h3, h4⟩
theorem atI_nat {α : Type} {xs : List α} {j : Nat} {v : α} (h : xs[j]? = some v) : atI xs (j : Int) = some v := by
  have hj : j < xs.length := (List.getElem?_eq_some_iff.mp h).1
  have e : ixN xs.length (j : Int) = some j := by
    unfold ixN
    rw [if_pos (by omega), if_pos (by omega)]; simp
  unfold atI; rw [e]; exact h
def PlainIx (b : Expr) : Prop := ∀ o i, subscripted b false o i = operate [o, i] (getItem o i)
def IxR (X : Cx) (r : R2) : Prop :=
  ∀ (value slice : Expr) (pins : List (Addr × Obj)) (s : Shared) (σ : St) (H : Hp) (x y : V) (v u : Value) (Q : VK), Inv X pins σ H s → RelV x v → RelV y u → r x y H Q →
    subscripted slice false v u = operate [v, u] (getItem v u) → wpAny (model X.prog X.w) X.A (subscriptTail value slice v u) (EP X pins σ Q) X.xe s
def MtR (X : Cx) (id : String) (r : V → List V → Hp → VK → Prop) : Prop :=
  ∀ (pins : List (Addr × Obj)) (s : Shared) (σ : St) (H : Hp) (x : V) (xs : List V) (v : Value) (us : List Value) (Q : VK), Inv X pins σ H s → RelV x v → Vals xs us → r x xs H Q →
    wpAny (model X.prog X.w) X.A (call (.builtin id) (v :: us)) (EP X pins σ Q) X.xe s
section
variable {X : Cx} {a b : Expr} {ta tb : TE} {pos : Pos}
theorem IxR.or {r r' : R2} (h : IxR X r) (h' : IxR X r') : IxR X (fun x y H Q => r x y H Q ∨ r' x y H Q) := by
  intro value slice pins s σ H x y v u Q I rx ry q hs
  rcases q with q | q
  · exact h value slice pins s σ H x y v u Q I rx ry q hs
  · exact h' value slice pins s σ H x y v u Q I rx ry q hs
theorem zlO {r : R2} (hr : IxR X r) (ha : PE X a ta) (hb : PE X b tb) (hs : PlainIx b) : PE X (.Subscript a b pos) (tOp r ta tb) := by
  intro pins s σ H Q I h
  exact Subscript_ (binT ha hb I h fun v u s2 x y H2 I2 rx ry q => hr a b pins s2 σ H2 x y v u Q I2 rx ry q (hs _ _))
def rIxL (K : PySem.W.Frag) : R2 := fun x y H Q => ∃ p xs i v, x = .ref p ∧ y = .int i ∧ SqL K H p xs ∧ atI xs i = some v ∧ Q v H
def rIxT (K : PySem.W.Frag) : R2 := fun x y H Q => ∃ p xs i v, x = .ref p ∧ y = .int i ∧ SqT K H p xs ∧ atI xs i = some v ∧ Q v H
def rIxS : R2 := fun x y H Q => ∃ z i c, x = .str z ∧ y = .int i ∧ z.length ≤ sizeLine ∧ atI z.cps.toList i = some c ∧ Q (.str ⟨#[c]⟩) H
theorem zke : IxR X (rIxL X.K) := by
  intro value slice pins s σ H x y v u Q I rx ry h hs
  obtain ⟨p, xs, i, z, rfl, rfl, hq, he, q⟩ := h
  cases rx
  obtain ⟨t, rfl⟩ := ry
  obtain ⟨its, r, pl, hz⟩ := I.list hq
  obtain ⟨j, h1, h2, h3, h4, h5⟩ := atI_get he
  obtain ⟨w, ew, rw'⟩ := r.get h2
  have hl := r.length
  have hn := zfN
  have fin : EP X pins σ Q w s := ⟨z, H, I, rw', q⟩
  by_cases h0 : 0 ≤ i
  · have hj : i.toNat = j := by
      rw [seqIndex_of h0 h5] at h1
      exact Option.some.inj h1
    exact item_listR pl.isList h0 (by omega) (by rw [hj]; simpa using ew) fin hs
  · have hj : (i + (its.toArray.size : Int)).toNat = j := by
      rw [seqIndex_neg (by omega) h4] at h1
      rw [List.size_toArray, ← hl]
      exact Option.some.inj h1
    exact subscriptTail_builtinR (x := w) pl.isList.typeIs slot_list_getitem.lookup
      (wpAny_getItem_list_neg (Q := fun r s' => r = w ∧ EP X pins σ Q r s') pl.isList (by omega) (by rw [List.size_toArray] <;> omega) (by omega) (by rw [hj]; simpa using ew) ⟨rfl, fin⟩) hs
theorem zlP : IxR X (rIxT X.K) := by
  intro value slice pins s σ H x y v u Q I rx ry h hs
  obtain ⟨p, xs, i, z, rfl, rfl, hq, he, q⟩ := h
  cases rx
  obtain ⟨t, rfl⟩ := ry
  obtain ⟨its, r, pl, hz⟩ := I.tuple hq
  obtain ⟨j, h1, h2, h3, h4, h5⟩ := atI_get he
  obtain ⟨w, ew, rw'⟩ := r.get h2
  have hl := r.length
  have hn := zfN
  have fin : EP X pins σ Q w s := ⟨z, H, I, rw', q⟩
  exact subscriptTail_builtinR (x := w) pl.typeIs slot_tuple_getitem.lookup
    (getItem_tuple (j := j) (Q := fun r s' => r = w ∧ EP X pins σ Q r s') pl (by omega) (by omega) (by rw [List.size_toArray, ← hl]; exact h1) (by simpa using ew) ⟨rfl, fin⟩) hs
theorem zlQ : IxR X rIxS := by
  intro value slice pins s σ H x y v u Q I rx ry h hs
  obtain ⟨z, i, c, rfl, rfl, hz, he, q⟩ := h
  obtain ⟨t, rfl⟩ := rx
  obtain ⟨t', rfl⟩ := ry
  obtain ⟨j, h1, h2, h3, h4, h5⟩ := atI_get he
  have hl : z.cps.toList.length = z.length := by simp [Str.length]
  rw [hl] at h1 h4 h5
  have hn := zfN
  exact tail_any (typeIs_str s z t) slot_str_getitem.lookup (getItem_str (c := c) (by
    have e1 : decide (i < -(2 ^ 63 : Int)) = false := decide_eq_false (by omega)
    have e2 : decide (i ≥ 2 ^ 63) = false := decide_eq_false (by omega)
    rw [e1, e2, Bool.or_false]) (by rw [h1]; simpa using h2) ⟨.str ⟨#[c]⟩, H, I.tok _, ⟨_, rfl⟩, q⟩) hs
def rIx (K : PySem.W.Frag) : R2 := fun x y H Q => rIxL K x y H Q ∨ rIxT K x y H Q ∨ rIxS x y H Q
theorem zlR : IxR X (rIx X.K) := zke.or (zlP.or zlQ)
theorem zeF : CallR X (.type "list") (fun xs H Q => ∃ p ys, xs = [.ref p] ∧ (SqL X.K H p ys ∨ SqT X.K H p ys) ∧ ∀ l, H l = none → Q (.ref l) (upd H l (.lst ys))) := by
  intro pins s σ H xs us Q I r h
  obtain ⟨p, ys, rfl, hq, q⟩ := h
  obtain ⟨u, rfl, rx⟩ := zgv r
  cases rx
  have fin : ∀ (its : List Value), Vals ys its → ys.length ≤ sizeLine → ∀ (h' : Heap) (c' : Nat), (∀ b o', s.heap.get? b = some o' → h'.get? b = some o') →
      h'.get? s.heap.objs.size = some { cls := .type "list", dict := none, data := .seq its.toArray c', slots := #[] } → EP X pins σ Q (.ref s.heap.objs.size) { s with heap := h' } := fun its r' hz h' c' kp e =>
    ⟨.ref s.heap.objs.size, _, I.laid (t' := s.toks) kp (Nat.le_refl _) (show ObjOk X.prog X.w _ h' _ (.lst ys) from ⟨hz, its, c', r', e⟩), rfl, q _ (I.hok.fresh (Nat.le_refl _))⟩
  rcases hq with hq | hq
  · obtain ⟨its, r', pl, hz⟩ := I.list hq
    have hlen := r'.length
    obtain ⟨o, ho, hc, n, hd⟩ := pl.isList
    exact call_list_seq p (.inl rfl) ho hc hd (fun h' c' kp e => fin its r' hz h' c' kp e) (by simp only [List.size_toArray] <;> omega)
  · obtain ⟨its, r', pl, hz⟩ := I.tuple hq
    have hlen := r'.length
    obtain ⟨o, ho, hc, n, hd⟩ := pl
    exact call_list_seq p (.inr rfl) ho hc hd (fun h' c' kp e => fin its r' hz h' c' kp e) (by simp only [List.size_toArray] <;> omega)
theorem zee : CallR X (.type "tuple") (fun xs H Q => ∃ p ys, xs = [.ref p] ∧ ((SqL X.K H p ys ∧ ∀ l, H l = none → Q (.ref l) (upd H l (.tup ys))) ∨ (SqT X.K H p ys ∧ Q (.ref p) H))) := by
  intro pins s σ H xs us Q I r h
  obtain ⟨p, ys, rfl, h⟩ := h
  obtain ⟨u, rfl, rx⟩ := zgv r
  cases rx
  rcases h with ⟨hq, q⟩ | ⟨hq, q⟩
  · obtain ⟨its, r', pl, hz⟩ := I.list hq
    have hlen := r'.length
    refine call_tuple_list pl.isList (fun h' kp => ?_) (by simp only [List.size_toArray] <;> omega)
    have I1 : Inv X pins σ H { s with heap := h' } := I.kept (t' := s.toks) kp
    have I2 : Inv X pins σ (upd H h'.objs.size (.tup ys)) { s with heap := h'.push { cls := .type "tuple", data := .seq its.toArray } } :=
      I1.laid (t' := s.toks) (fun b o e => Heap.get?_push_of_some _ e) (Nat.le_refl _) (show ObjOk X.prog X.w _ _ _ (.tup ys) from ⟨hz, its, r', IsTup.new _ _⟩)
    exact ⟨.ref h'.objs.size, _, I2, rfl, q _ (I1.hok.fresh (Nat.le_refl _))⟩
  · obtain ⟨its, r', pl, hz⟩ := I.tuple hq
    exact call_tuple_same pl ⟨.ref p, H, I, rfl, q⟩
def tyV (K : PySem.W.Frag) (T : String) (x : V) (H : Hp) : Prop := match x with
  | .str _ => T = "str"
  | .int _ => T = "int"
  | .ref p => (T = "list" ∧ ∃ xs, SqL K H p xs) ∨ (T = "tuple" ∧ ∃ o, K.lookup p = some o ∧ o.cls = .type "tuple" ∧ o.dict = none) ∨
      (T = "dict" ∧ ((∃ kvs, H p = some (.dK kvs)) ∨ ∃ kvs, H p = some (.dT kvs))) ∨ (T = "set" ∧ ∃ S n, H p = some (.set S n))
  | _ => False
theorem zfQ {pins : List (Addr × Obj)} {σ : St} {H : Hp} {s : Shared} {T : String} {x : V} {v : Value} (I : Inv X pins σ H s) (r : RelV x v) (ty : tyV X.K T x H) :
    s.TypeIs v T ∧ ∀ a, v = .ref a → ∃ ob, s.heap.get? a = some ob ∧ ob.dict = none := by
  cases x with
  | str z =>
    obtain ⟨t, rfl⟩ := r
    cases (show T = "str" from ty)
    exact ⟨typeIs_str s z t, fun _ e => nomatch e⟩
  | int i =>
    obtain ⟨t, rfl⟩ := r
    cases (show T = "int" from ty)
    exact ⟨typeIs_int s i t, fun _ e => nomatch e⟩
  | ref p =>
    cases r
    rcases ty with ⟨rfl, xs, hq⟩ | ⟨rfl, o, hk, hc, hd⟩ | ⟨rfl, hk⟩ | ⟨rfl, S, n, hk⟩
    · obtain ⟨its, _, pl, _⟩ := I.list hq
      refine ⟨pl.isList.typeIs, fun a e => ?_⟩
      cases e
      obtain ⟨o, n, e, c, hd, _⟩ := pl
      exact ⟨o, e, hd⟩
    · refine ⟨⟨o, I.kIn p o hk, hc⟩, fun a e => ?_⟩
      cases e
      exact ⟨o, I.kIn _ o hk, hd⟩
    · have z : ∃ o, s.heap.get? p = some o ∧ o.ExactDict := by
        rcases hk with ⟨kvs, hk⟩ | ⟨kvs, hk⟩
        · obtain ⟨_, _, _, _, o, _, _, e, ex, _⟩ := I.hok p _ hk
          exact ⟨o, e, ex⟩
        · obtain ⟨_, _, _, _, o, _, _, e, ex, _⟩ := I.hok p _ hk
          exact ⟨o, e, ex⟩
      obtain ⟨o, e, ex⟩ := z
      refine ⟨⟨o, e, ex.1⟩, fun a e2 => ?_⟩
      cases e2
      exact ⟨o, e, ex.2.1⟩
    · obtain ⟨o, _, _, _, e, ex, _⟩ := I.hok p _ hk
      refine ⟨⟨o, e, ex.1⟩, fun a e2 => ?_⟩
      cases e2
      exact ⟨o, e, ex.2.1⟩
  | _ => exact False.elim ty
def zok (K : PySem.W.Frag) (T : String) (r : V → List V → Hp → VK → Prop) (to : TE) : TE := fun σ H Q => to σ H fun x H1 => tyV K T x H1 ∧ r x [] H1 Q
def tBM (K : PySem.W.Frag) (T : String) (r : V → List V → Hp → VK → Prop) (to : TE) (t : TA) : TE := fun σ H Q => to σ H fun x H1 => tyV K T x H1 ∧ t σ H1 fun xs H2 => r x xs H2 Q
variable {o e : Expr} {es : List Expr} {to : TE} {t : TA} {name : Str} {apos cpos : Pos} {T id : String} {r : V → List V → Hp → VK → Prop}
theorem zlS (pa : PlainAttrs T) (slot : Slot T name id) (hty : typeOf (.builtin id) = pure (.type "method_descriptor")) (hm : MtR X id r) (ho : PE X o to)
    (hbase : attributeBase o name X.env (eval o X.env) = eval o X.env := by rfl) (hline : (apos.endLine == cpos.line) = true := by rfl) : PE X (.Call (.Attribute o name apos) [] [] cpos) (zok X.K T r to) := by
  intro pins s σ H Q I h
  refine wpAny_Call_method0_late hbase hline (thn (ho pins s σ H _ I h) fun v s1 ⟨x, H1, I1, r1, ty, q1⟩ => ?_)
  obtain ⟨h1, h2⟩ := zfQ I1 r1 ty
  exact ⟨T, id, pa, slot, hty, h1, h2, Calls.callWith_builtin rfl (PySem.evalArgs_none (hm pins s1 σ H1 x [] v [] Q I1 r1 .nil q1))⟩
theorem zlT (pa : PlainAttrs T) (slot : Slot T name id) (hty : typeOf (.builtin id) = pure (.type "method_descriptor")) (hm : MtR X id r) (ho : PE X o to) (ha : PA X (e :: es) t)
    (hbase : attributeBase o name X.env (eval o X.env) = eval o X.env := by rfl)
    (hfew : ((backTo cpos (starEach (e :: es) X.env)).all (fun x => !x.1) && (backToKw cpos (keywordEach [] X.env)).all (fun x => x.1.isSome)
      && decide ((e :: es).length + ([] : List Keyword).length + (if ([] : List Keyword).isEmpty then 0 else 1) < 30)) = true := by rfl)
    (hline : (apos.endLine == cpos.line) = true := by rfl) (hs : starEach (e :: es) X.env = (false, eval e X.env) :: starEach es X.env := by rfl) (hplain : (backTo cpos (starEach es X.env)).any (·.1) = false := by rfl) :
    PE X (.Call (.Attribute o name apos) (e :: es) [] cpos) (tBM X.K T r to t) := by
  intro pins s σ H Q I h
  refine wpAny_Call_method_late hbase hfew hline rfl (thn (ho pins s σ H _ I h) fun v s1 ⟨x, H1, I1, r1, ty, q1⟩ => ?_)
  obtain ⟨h1, h2⟩ := zfQ I1 r1 ty
  refine ⟨T, id, pa, slot, hty, h1, h2, ?_⟩
  have hA := ha cpos pins s1 σ H1 _ I1 q1
  rw [hs] at hA ⊢
  refine Calls.callWith_builtin (by show (false || (backTo cpos (starEach es X.env)).any (·.1)) = false; rw [hplain] <;> rfl) (Calls.evalArgs_plain ?_)
  exact thn hA fun us s2 ⟨vs, H2, I2, r2, q2⟩ => hm pins s2 σ H2 x vs v us Q I2 r1 r2 q2
end
end L2
namespace L2
open PySem PySem.Spec PyProof.Rows
def MtM (X : Cx) (id : String) (r : V → List V → Hp → VK → Prop) : Prop :=
  ∀ (pins : List (Addr × Obj)) (s : Shared) (σ : St) (H : Hp) (x : V) (xs : List V) (v : Value) (us : List Value) (Q : VK), Inv X pins σ H s → RelV x v → Vals xs us → r x xs H Q →
    wpAny (model X.prog X.w) X.A (call (.builtin id) (v :: us)) (EP X pins σ Q) X.xe s
theorem Vals.one : ∀ {x : V} {us : List Value}, Vals [x] us → ∃ u, us = [u] ∧ RelV x u
  | _, _, .cons r .nil => ⟨_, rfl, r⟩
theorem Vals.zero : ∀ {us : List Value}, Vals [] us → us = []
  | _, .nil => rfl
theorem Vals.dropLast {xs : List V} {us : List Value} (h : Vals xs us) : Vals xs.dropLast us.dropLast := by
  induction h with
  | nil => exact .nil
  | cons r t ih =>
    cases t with
    | nil => exact .nil
    | cons q t' => exact .cons r ih
theorem zgy {α : Type} (l : List α) : l.eraseIdx (l.length - 1) = l.dropLast := by
  induction l with
  | nil => rfl
  | cons a r ih =>
    cases r with
    | nil => rfl
    | cons b r =>
      have e : (a :: b :: r).length - 1 = ((b :: r).length - 1) + 1 := by
        have h1 : (a :: b :: r).length = r.length + 2 := rfl
        have h2 : (b :: r).length = r.length + 1 := rfl
        omega
      rw [e, List.eraseIdx_cons_succ, ih]
      all_goals rfl
section
variable {X : Cx} {pins : List (Addr × Obj)} {σ : St} {H : Hp} {s : Shared} {l b : Addr} {xs ys zs : List V}
theorem Inv.lset {its its' : List Value} {n : Nat} {f : Array Value → Array Value} {t' : Nat} (I : Inv X pins σ H s) (hH : H l = some (.lst xs))
    (e : s.heap.get? l = some { cls := .type "list", data := .seq its.toArray n }) (hf : f its.toArray = its'.toArray) (hv : Vals ys its') (hz : ys.length ≤ sizeLine) :
    Inv X pins σ (upd H l (.lst ys)) { s with heap := s.heap.update l (Obj.mapSeq f), toks := t' } := by
  have q := PySem.IsL.update e f
  rw [hf] at q
  refine I.write (x := l) (e := l) (by rw [hH]; exact trivial) (.inl rfl) (fun b' u hb hu => (Heap.get?_update_other s.heap (Obj.mapSeq f) (Ne.symm hb)).trans hu) ⟨_, q⟩ ?_
  exact ⟨hz, its', _, hv, q⟩
theorem Inv.lnew {its : List Value} {t' : Nat} (I : Inv X pins σ H s) (hv : Vals ys its) (hz : ys.length ≤ sizeLine) :
    Inv X pins σ (upd H s.heap.objs.size (.lst ys)) { s with heap := s.heap.push { cls := .type "list", data := .seq its.toArray }, toks := t' } :=
  I.laid (fun _ _ q => Heap.get?_push_of_some _ q) (Nat.le_refl _) ⟨hz, its, 0, hv, Heap.get?_push_size _ rfl⟩
theorem Inv.fresh (I : Inv X pins σ H s) : H s.heap.objs.size = none := I.hok.fresh (Nat.le_refl _)
theorem Inv.lstM (I : Inv X pins σ H s) (hH : H l = some (.lst xs)) : xs.length ≤ sizeLine ∧ ∃ (its : List Value) (n : Nat), Vals xs its ∧ xs.length = its.length ∧ s.heap.get? l = some { cls := .type "list", data := .seq its.toArray n } := by
  obtain ⟨z, its, n, r, e⟩ := I.hok l _ hH
  exact ⟨z, its, n, r, r.length, e⟩
theorem notLongL {n : Nat} (h : n ≤ sizeLine) : Builtin.List.listTooLong n = false := by
  unfold Builtin.List.listTooLong
  exact decide_eq_false (by omega)
end
section
variable {X : Cx}
def rAppend : V → List V → Hp → VK → Prop := fun x vs H Q => ∃ l xs y, x = .ref l ∧ vs = [y] ∧ H l = some (.lst xs) ∧ xs.length < sizeLine ∧ Q .non (upd H l (.lst (xs ++ [y])))
theorem zg2 : MtM X "list.append" rAppend := by
  intro pins s σ H x vs v us Q I rx rv h
  obtain ⟨l, xs, y, rfl, rfl, hH, hz, q⟩ := h
  cases rx
  obtain ⟨u, rfl, ru⟩ := rv.one
  obtain ⟨z, its, n, r, hl, e⟩ := I.lstM hH
  refine call_meets F.slot_list_append ⟨_, e, rfl⟩ F.entry_list_append (F.args_list_append_2 _ _) (PySem.list_append l its.toArray n u (by rw [List.size_toArray]; omega)) ⟨e, ?_⟩
  refine ⟨.non, _, I.lset (its' := its ++ [u]) hH e (by simp) (r.append (.cons ru .nil)) ?_, rfl, q⟩
  rw [List.length_append, List.length_singleton]
  omega
def rExtend : V → List V → Hp → VK → Prop := fun x vs H Q => ∃ l b xs zs, x = .ref l ∧ vs = [.ref b] ∧ H l = some (.lst xs) ∧ H b = some (.lst zs) ∧ xs.length + zs.length ≤ sizeLine ∧ Q .non (upd H l (.lst (xs ++ zs)))
theorem zg3 : MtM X "list.extend" rExtend := by
  intro pins s σ H x vs v us Q I rx rv h
  obtain ⟨l, b, xs, zs, rfl, rfl, hH, hB, hz, q⟩ := h
  cases rx
  obtain ⟨u, rfl, ru⟩ := rv.one
  cases ru
  obtain ⟨z, its, n, r, hl, e⟩ := I.lstM hH
  obtain ⟨z2, its2, n2, r2, hl2, e2⟩ := I.lstM hB
  have hsz : its.toArray.size + its2.toArray.size ≤ sizeLine := by rw [List.size_toArray, List.size_toArray]; omega
  have hlong : ¬ (!its.toArray.isEmpty && Builtin.List.listTooLong (its.toArray.size + its2.toArray.size)) = true := by
    rw [notLongL hsz, Bool.and_false]
    exact Bool.false_ne_true
  refine call_meets F.slot_list_extend ⟨_, e, rfl⟩ F.entry_list_extend (F.args_list_extend_2 _ _)
    (AutoSeq1.list_extend_list_list_0 l its.toArray n b its2.toArray n2 hlong (by rw [List.size_toArray]; omega) (by omega)) ⟨e, e2, ?_⟩
  refine ⟨.non, _, I.lset (its' := its ++ its2) hH e (by simp) (r.append r2) ?_, rfl, q⟩
  rw [List.length_append]
  omega
def rPop : V → List V → Hp → VK → Prop := fun x vs H Q => ∃ l xs y, x = .ref l ∧ vs = [] ∧ H l = some (.lst xs) ∧ xs[xs.length - 1]? = some y ∧ Q y (upd H l (.lst xs.dropLast))
theorem zlU : MtM X "list.pop" rPop := by
  intro pins s σ H x vs v us Q I rx rv h
  obtain ⟨l, xs, y, rfl, rfl, hH, hy, q⟩ := h
  cases rx
  have hus := rv.zero
  subst hus
  obtain ⟨z, its, n, r, hl, e⟩ := I.lstM hH
  obtain ⟨u, hu, ru⟩ := r.get hy
  have hy' : its.toArray[its.toArray.size - 1]? = some u := by
    show its.toArray[its.length - 1]? = some u
    rw [← Array.getElem?_toList, ← hl]
    exact hu
  refine call_meets F.slot_list_pop ⟨_, e, rfl⟩ F.entry_list_pop (F.args_list_pop_1 _) (MeetsSeq.list_pop_last l its.toArray n u hy' (by rw [List.size_toArray]; omega)) ⟨e, ?_⟩
  refine ⟨y, _, I.lset (its' := its.dropLast) hH e ?_ r.dropLast ?_, ru, q⟩
  · show its.toArray.eraseIdxIfInBounds (its.toArray.size - 1) = its.dropLast.toArray
    rw [List.size_toArray, List.eraseIdxIfInBounds_toArray, zgy]
  · rw [List.length_dropLast]
    omega
def rCat : R2 := fun x y H Q => ∃ l b xs zs, x = .ref l ∧ y = .ref b ∧ H l = some (.lst xs) ∧ H b = some (.lst zs) ∧ xs.length + zs.length ≤ sizeLine ∧ ∀ p, H p = none → Q (.ref p) (upd H p (.lst (xs ++ zs)))
theorem zlV : OpR X (binaryOp .Add) rCat := by
  intro pins s σ H x y v u Q I rx ry h
  obtain ⟨l, b, xs, zs, rfl, rfl, hH, hB, hz, q⟩ := h
  cases rx
  cases ry
  obtain ⟨z, its, n, r, hl, e⟩ := I.lstM hH
  obtain ⟨z2, its2, n2, r2, hl2, e2⟩ := I.lstM hB
  refine PySem.P.add_list e e2 ?_ (by rw [List.size_toArray, List.size_toArray]; omega)
  have ea : its.toArray ++ its2.toArray = (its ++ its2).toArray := by simp
  rw [ea]
  exact ⟨.ref _, _, I.lnew (t' := s.toks) (r.append r2) (by rw [List.length_append]; omega), rfl, q _ I.fresh⟩
end
section
variable {prog : Program} {w : World} {A : Around} {E : Value → Shared → Prop} {s : Shared}
end
section
variable {X : Cx}
end
end L2
namespace Att
open PySem PySem.W PySem.Calls PyProof.Rows
theorem zdy {P : Params} {h : Heap} : ∀ (ns : List Int) (vs : List Value), WellAll P h vs (ns.map WData.int) → IntsAre vs ns := by
  intro ns
  induction ns with
  | nil =>
    intro vs w
    rw [List.map_nil] at w
    cases w
    exact .nil
  | cons n ns ih =>
    intro vs w
    rw [List.map_cons] at w
    cases w with
    | cons a b =>
      cases a
      exact .cons _ _ (ih _ b)
theorem zg4 {l : OpenLaw} {n : Nat} (hn : l.most = some n) {P : Params} {h : Heap} {args : List WData} {vals : List Value}
    (hpre : l.row.toRowW.claim.pre args = true) (hwl : WellAll P h vals args) :
    ∃ a vs ns, vals = [Value.ref a] ∧ args = [WData.list (ns.map WData.int)] ∧ h.get? a = some { cls := .type "list", data := .seq vs.toArray } ∧ IntsAre vs ns ∧ ns.length ≤ n := by
  have hsh : WShape.hasAll [] args [.list .int] = true := (pre_splitW hpre).1
  have hc : l.pre.holds [] { args := args } = true := (pre_splitW hpre).2
  obtain ⟨d, r, rfl, h1, h2⟩ := hasAllW_cons hsh
  obtain rfl := hasAllW_nil h2
  obtain ⟨xs, rfl, h3⟩ := hasW_list h1
  obtain ⟨ns, rfl⟩ := items_int h3
  have hlen : ns.length ≤ n := by
    unfold OpenLaw.pre at hc
    have h4 : (WTm.not (.lt (.lit (.int (n : Int))) (.len (.arg 0)))).holds [] { args := [.list (ns.map .int)] } = true := by
      have h4 := (holds_andW hc).1
      rw [hn] at h4
      exact h4
    have h5 := condW_of h4 (w_not (w_lt w_lit (w_len_list (w_arg rfl))))
    rw [List.length_map] at h5
    refine Nat.le_of_not_lt fun q => ?_
    have q' : (n : Int) < ((ns.length : Nat) : Int) := by omega
    first
      | (rw [decide_eq_true q'] at h5; exact absurd h5 (by decide))
      | (simp at h5; omega)
  cases hwl with
  | cons w1 w2 =>
    cases w2
    cases w1 with
    | list ho hall => exact ⟨_, _, ns, rfl, rfl, ho, zdy ns _ hall, hlen⟩
theorem zg5 (l : OpenLaw) (args : List WData) : l.row.toRowW.claim.post args (.bool true) args = true :=
  postW_of (r := l.row.toRowW) (X := (true == true))
    (show WShape.has [] (.bool true) .bool = true by first | rfl | decide | simp [WShape.has, WShape.arms, WShape.armsAll])
    (show (WTm.eq .res (.lit (.bool true))).value [] { args := args, res := some (.bool true), after := args } = some (.bool (true == true)) from w_eq_bool (w_res rfl) w_lit) rfl
theorem attach_call {l : OpenLaw} {n : Nat} {q : Program} {loose : List Str} {XP : (Str → Option Value) → Heap → Prop} {YP : World → Heap → Prop} {d : DefRec}
    (hn : l.most = some n) (hdf : d.params.defaults = [])
    (call : ∀ (w : World) (s₀ s₁ : Shared) (mg mb : Str → Option Value) (fa : Addr) (o : Obj) (pm cd doc : Value) (a : Addr) (vs : List Value) (ns : List Int),
      Ground q loose [] XP w s₀ mg mb s₁.heap → YP w s₁.heap →
      s₁.heap.get? fa = some o → o.data = .func (docDef d.name d.params d.body d.scope pm cd doc) → s₁.heap.CodeRec cd d.name → mg d.name = some (.ref fa) →
      s₁.heap.get? a = some { cls := .type "list", data := .seq vs.toArray } → IntsAre vs ns → ns.length ≤ n → s₁.gens = #[] →
      codeAny (model l.prog w) callerA (.call (.ref fa) ⟨[.ref a], []⟩) (fun r s' => r = .ok (.ret (.bool true)) ∧ OldK s₁.heap s'.heap ∧ s'.os = s₁.os ∧ AllBare s'.gens) s₁) :
    WalkO q loose XP YP l.row.toRowW d [] (fun f vs => PySem.call f vs) := by
  intro w s₀ s₁ mg mb G Y fa o pm cd doc dV kV ho hd hcd hD hmg hg args vals as hpre hlay hrd hwl hlo
  obtain rfl : dV = .none := Dflts.none hD hdf
  obtain rfl : kV = .none := Dflts.noKw hD
  obtain ⟨a, vs, ns, rfl, rfl, hobj, hints, hlen⟩ := zg4 hn hpre hwl
  refine enter_call (codeAny_mono (call w s₀ s₁ mg mb fa o pm cd doc a vs ns G Y ho (fd_plain hd) hcd hmg hobj hints hlen hg) fun r s' hq => ?_)
  obtain ⟨rfl, h2, h3, h4⟩ := hq
  exact ⟨.inl ⟨.bool true, .bool true, [], rfl, fun _ => rfl, .bool true, zg5 l _, fun _ => ⟨List.Pairwise.nil, fun _ hm => (nomatch hm)⟩⟩, h2, h3, h4⟩
section
variable {prog : Program} {w : World} {A : Around} {E : Value → Shared → Prop} {s : Shared} {K : Frag}
end
end Att
namespace L2
open PySem PySem.Spec PyProof.Rows
theorem zeG : ∀ {vs : List Value} {ns : List Int}, IntsAre vs ns → Vals (ns.map V.int) vs
  | _, _, .nil => .nil
  | _, _, .cons n t h => .cons ⟨t, rfl⟩ (zeG h)
def Only (H : Hp) : Prop := ∀ b, H b = none ∨ ∃ o xs, H b = some (.frz o (.lst xs))
theorem ziu {P : Program} {w : World} {K : PySem.W.Frag} {mg mb : Str → Option Value} {CX : CXT} {k : Nat} {fa a : Addr} {fd : FuncData} {x : Str} {sp : Sp} {s₁ : Shared} {vs : List Value} {ns : List Int}
    (KX : K.In s₁.heap) (hns : s₁.heap.Ns mainGlobals mg) (hb : s₁.heap.Ns builtinsNs mb) (hbb : ∀ x : Str, x ≠ "__name__" → mb x = bootBuiltins x) (hlim : s₁.heap.NoLimit) (hg : s₁.gens = #[])
    (ha : s₁.heap.get? a = some { cls := .type "list", data := .seq vs.toArray }) (hi : IntsAre vs ns) (hl : ns.length ≤ sizeLine) (hr : Room k callerA)
    (F : ∀ base : Heap, K.In base → base.Ns mainGlobals mg → FnOk P w K mg base CX k fa fd [x] sp) (hbind : ∀ (s : Shared) (u : Value), BindsTo s fd ⟨[u], []⟩ [(x, u)])
    (hsp : ∀ H : Hp, Only H → SqL K H a (ns.map V.int) → sp [.ref a] H (fun v _ => v = .bl true) fun _ _ _ => False)
    (hCX : ∀ H e s', CX [] H s₁ (fun _ _ _ => False) e s' → False) :
    codeAny (model P w) callerA (.call (.ref fa) ⟨[.ref a], []⟩) (fun r s' => r = .ok (.ret (.bool true)) ∧ OldK s₁.heap s'.heap ∧ s'.os = s₁.os ∧ AllBare s'.gens) s₁ := by
  have rv := zeG hi
  have lenV := hi.length
  have core : ∀ H : Hp, Only H → SqL K H a (ns.map V.int) → HOk P w H s₁.heap → (∀ b, H b ≠ none → b = a) → (H a ≠ none → K.lookup a = none) →
      codeAny (model P w) callerA (.call (.ref fa) ⟨[.ref a], []⟩) (fun r s' => r = .ok (.ret (.bool true)) ∧ OldK s₁.heap s'.heap ∧ s'.os = s₁.os ∧ AllBare s'.gens) s₁ := by
    intro H hO hS hok hA hK
    have base_of : ∀ {b : Addr} {o : Obj}, s₁.heap.get? b = some o → H b = none → (hidT s₁.heap H).get? b = some o := fun e n => zii e n
    have noA : ∀ {b : Addr} {o : Obj} {es : Array DictEntry} {ep : Nat}, s₁.heap.get? b = some o → o.data = .dict es ep → H b = none := fun {b o es ep} e d => by
      cases q : H b with
      | none => rfl
      | some u =>
        have e' : b = a := hA b (by rw [q]; simp)
        subst e'
        rw [ha] at e; cases e
        have d' : Data.seq vs.toArray _ = Data.dict es ep := d
        cases d'
    have nsK : ∀ {b : Addr} {m : Str → Option Value}, s₁.heap.Ns b m → (hidT s₁.heap H).Ns b m := fun {b m} ⟨o, es, ep, e, d, r⟩ => ⟨o, es, ep, base_of e (noA e d), d, r⟩
    have hKb : K.In (hidT s₁.heap H) := fun b o e => base_of (KX b o e) (by
      cases q : H b with
      | none => rfl
      | some u =>
        have e' : b = a := hA b (by rw [q]; simp)
        subst e'
        rw [hK (by rw [q]; simp)] at e; cases e)
    have hM : Mod K mg (hidT s₁.heap H) := ⟨hKb, nsK hns, ⟨mb, nsK hb, hbb⟩, let ⟨mc, h1, h2⟩ := hlim; ⟨mc, nsK h1, h2⟩⟩
    have e0 : Env0 P w K mg (hidT s₁.heap H) callerA [] s₁ H := ⟨rfl, hM, fun b o e => zjY e, Nat.le_of_eq (zgQ _ _), trivial, fun b hb => absurd (show b ∈ ([] : List Addr) from hb) (by simp), hok, .of_eq hg⟩
    refine codeAny_mono ((F _ hKb (nsK hns)).run callerA [] s₁ H ⟨[.ref a], []⟩ [.ref a] [.ref a] _ _ hr e0 (hbind s₁ (.ref a)) (.cons rfl .nil) (hsp H hO hS)) fun r s' h => ?_
    cases r with
    | error e => exact (hCX H e s' h).elim
    | ok fl =>
      cases fl with
      | next => exact False.elim h
      | brk => exact False.elim h
      | cont => exact False.elim h
      | ret u =>
        obtain ⟨v, H', os, bare, un, hok', r', q⟩ := h
        have q' : v = .bl true := q
        subst q'
        obtain rfl : u = Value.bool true := r'
        refine ⟨rfl, OldK.of_keep fun b o e => ?_, os, bare⟩
        cases q : H b with
        | none => exact un.keep b o e q (by intro z; exact absurd (show b ∈ ([] : List Addr) from z) (by simp)) (by simp)
        | some u =>
          rcases hO b with z | ⟨ob, xs, z⟩
          · rw [q] at z; cases z
          · have z2 := un.frzs b ob _ z
            obtain ⟨e1, _⟩ := hok b _ z
            obtain ⟨e2, _⟩ := hok' b _ z2
            rw [e] at e1; cases e1
            exact e2
  cases hk : K.lookup a with
  | some o =>
    have e := KX a o hk
    rw [ha] at e
    cases e
    refine core (fun _ => none) (fun _ => .inl rfl) (.inr ⟨_, vs.toArray, _, hk, rfl, rfl, rfl, by rw [List.size_toArray, lenV]; exact hl, by simpa using rv⟩) (fun b u z => by have z' : (none : Option HO) = some u := z; cases z') (fun b z => absurd rfl z) fun z => absurd rfl z
  | none =>
    refine core (fun b => if b = a then some (.frz { cls := .type "list", data := .seq vs.toArray } (.lst (ns.map V.int))) else none) (fun b => ?_) (.inl (.inr ⟨{ cls := .type "list", data := .seq vs.toArray }, if_pos rfl⟩)) (fun b u z => ?_) (fun b z => ?_) fun _ => hk
    · by_cases hb : b = a
      · exact .inr ⟨_, _, if_pos hb⟩
      · exact .inl (if_neg hb)
    · by_cases hb : b = a
      · have z' := (if_pos hb).symm.trans z
        cases z'
        subst hb
        exact ⟨ha, by rw [List.length_map]; exact hl, vs, _, rv, ha⟩
      · have z' := (if_neg hb).symm.trans z
        cases z'
    · by_cases hb : b = a
      · exact hb
      · exact absurd (if_neg hb) z
end L2
namespace L2
open PySem PySem.Spec PyProof.Rows
abbrev KOf {K : PySem.W.Frag} {h : Heap} (_ : K.In h) : PySem.W.Frag := K
theorem zkf {l : PySem.W.OpenLaw} {n k : Nat} {q : Program} {loose : List Str} {XP : (Str → Option Value) → Heap → Prop} {YP : World → Heap → Prop} {d : DefRec} {K : Params → PySem.W.Frag} {CX : World → CXT} {sp : World → Sp} {x : Str}
    (hn : l.most = some n) (hn2 : n ≤ sizeLine) (hdf : d.params.defaults = []) (hr : Room k callerA)
    (hY : ∀ (w : World) (h : Heap), YP w h → (K w.params).In h)
    (F : ∀ (w : World) (mg : Str → Option Value) (fa : Addr) (h : Heap), (K w.params).In h → h.Ns mainGlobals mg → mg d.name = some (.ref fa) →
      ∃ fd : FuncData, (∀ (s : Shared) (u : Value), BindsTo s fd ⟨[u], []⟩ [(x, u)]) ∧
        ∀ base : Heap, (K w.params).In base → base.Ns mainGlobals mg → FnOk l.prog w (K w.params) mg base (CX w) k fa fd [x] (sp w))
    (hsp : ∀ (w : World) (H : Hp) (a : Addr) (ns : List Int), ns.length ≤ n → Only H → SqL (K w.params) H a (ns.map V.int) → sp w [.ref a] H (fun v _ => v = .bl true) fun _ _ _ => False)
    (hCX : ∀ (w : World) (H : Hp) (s : Shared) (e : Value) (s' : Shared), CX w [] H s (fun _ _ _ => False) e s' → False) :
    PySem.W.WalkO q loose XP YP l.row.toRowW d [] (fun f vs => PySem.call f vs) := by
  refine Att.attach_call hn hdf fun w s₀ s₁ mg mb fa o pm cd doc a vs ns G Y ho hd hcd hmg hobj hints hlen hg => ?_
  have KX := hY w _ Y
  obtain ⟨fd, hb, hF⟩ := F w mg fa _ KX G.T.g hmg
  exact ziu KX G.T.g G.T.b G.T.builtins G.T.nolimit hg hobj hints (Nat.le_trans hlen hn2) hr hF hb (fun H hO hS => hsp w H a ns hlen hO hS) fun H e s' => hCX w H s₁ e s'
end L2
namespace L2
open PySem PySem.Spec PyProof.Rows
def inClass (s : Stmt) (j : Nat) : Stmt := match s with
  | .ClassDef _ _ _ body _ _ _ _ _ _ _ => body.getD j (.Pass ⟨0, 0, 0, 0⟩)
  | _ => .Pass ⟨0, 0, 0, 0⟩
def defArgs (s : Stmt) : Arguments := match s with
  | .FunctionDef _ a _ _ _ _ _ _ _ _ => a
  | _ => { posonlyargs := [], args := [], vararg := none, kwonlyargs := [], kw_defaults := [], kwarg := none, defaults := [] }
def defBody (s : Stmt) : List Stmt := match s with
  | .FunctionDef _ _ b _ _ _ _ _ _ _ => b
  | _ => []
def defScope (s : Stmt) : Scope := match s with
  | .FunctionDef _ _ _ _ _ _ sc _ _ _ => sc
  | _ => { kind := .function, names := [], isGenerator := false, isCoroutine := false }
abbrev CX0 : CXT := fun _ _ _ _ _ _ => False
abbrev E0 : XK := fun _ _ _ => False
structure Fun (K : PySem.W.Frag) (x qual : Str) (st : Stmt) (f : Addr) (fd : FuncData) : Prop where
  ex : ∃ (oc : Value) (od : Option Addr) (kV doc pm : Value) (an : Option Addr) (cdv ct : Value) (osl : Array (Option Value)),
    fd = PySem.W.fnOf x qual (defArgs st) (defBody st) (defScope st) .none kV doc pm an cdv ct ∧ K.lookup f = some ⟨oc, od, .func fd, osl⟩ ∧ PySem.W.codeIn K cdv qual = true
  kp : PySem.W.keepIn K (.ref f) = true
section
variable {P : Program} {w : World} {K : PySem.W.Frag} {mg : Str → Option Value} {base : Heap}
theorem Fun.ok {x qual : Str} {st : Stmt} {f : Addr} {fd : FuncData} {N ps : List Str} {k : Nat} {sp : Sp} (F : Fun K x qual st f fd) (S : FnScope N ps (defScope st)) (len : ∀ vs H Q E, sp vs H Q E → vs.length = ps.length)
    (hbody : ∀ (cdv : Value) (A : Around) (outer : List Env) (s : Shared) (H : Hp) (vs : List V) (Q : VK) (E : XK), Room k (A.deeper (envOfC qual (defScope st) s.heap.objs.size f cdv)) → sp vs H Q E →
      ∃ t, PSs (cxOf CX0 P w K mg base N qual (defScope st) f cdv A outer s H E).nox (defBody st) t ∧ t { nx := fun _ H' => Q .non H', rt := Q } (start N vs) H) : FnOk P w K mg base CX0 (k + 1) f fd ps sp := by
  obtain ⟨oc, od, kV, doc, pm, an, cdv, ct, osl, rfl, lk, hcd⟩ := F.ex
  refine zlN lk hcd S len fun A outer s H vs Q E hr hsp => ?_
  obtain ⟨t, h, q⟩ := hbody cdv A outer s H vs Q E hr hsp
  exact ⟨t, h.nox, q⟩
theorem Fun.binds {x qual : Str} {st : Stmt} {f : Addr} {fd : FuncData} {ps : List Str} (F : Fun K x qual st f fd)
    (h : ∀ (kV doc pm : Value) (an : Option Addr) (cdv ct : Value) (us : List Value), us.length = ps.length → bindArgs (PySem.W.fnOf x qual (defArgs st) (defBody st) (defScope st) .none kV doc pm an cdv ct) ⟨us, []⟩ = pure (ps.zip us)) : Binds K fd ps [] := by
  obtain ⟨oc, od, kV, doc, pm, an, cdv, ct, osl, rfl, lk, hcd⟩ := F.ex
  exact .all (h kV doc pm an cdv ct)
theorem zdf {x qual : Str} {st : Stmt} {f : Addr} {oc : Value} {od an : Option Addr} {osl : Array (Option Value)} {kV doc pm cdv ct : Value} (l : K.lookup f = some ⟨oc, od, .func (PySem.W.fnOf x qual (defArgs st) (defBody st) (defScope st) .none kV doc pm an cdv ct), osl⟩)
    (c : PySem.W.codeIn K cdv qual = true) (k : PySem.W.keepIn K (.ref f) = true) : Fun K x qual st f (PySem.W.fnOf x qual (defArgs st) (defBody st) (defScope st) .none kV doc pm an cdv ct) := ⟨⟨oc, od, kV, doc, pm, an, cdv, ct, osl, rfl, l, c⟩, k⟩
end
section
variable {X : Cx}
theorem pv (i : Nat) {x : Str} {pos : Pos} (hN : X.N[i]? = some x := by rfl) (hv : Vis X.env.scope x := by first | exact Or.inl rfl | exact Or.inr (Or.inl rfl) | exact Or.inr (Or.inr rfl)) (hd : (x == ("__debug__" : Str)) = false := by decide)
    (hcd : (x == ("__classdict__" : Str)) = false := by decide) : PE X (.Name x pos) (tVar i) := zjq hN hv hd hcd
end
def Same (H H' : Hp) : Prop := ∀ b o, H b = some o → H' b = some o
theorem Same.trans {H H1 H2 : Hp} (a : Same H H1) (b : Same H1 H2) : Same H H2 := fun c o h => b c o (a c o h)
theorem Same.free {H H' : Hp} (e : Same H H') {l : Addr} (h : H' l = Option.none) : H l = Option.none := by
  cases q : H l with
  | none => rfl
  | some o =>
    rw [e l o q] at h
    cases h
end L2
set_option maxHeartbeats 4000000
namespace L2
open PySem PySem.Spec PyProof.Rows
theorem ar1 {l z D b : Nat} (h1 : l < z) (h2 : z = D) (h3 : D ≤ b) (h4 : b = l) : False := by omega
theorem ar2 {b D C : Nat} (h1 : b < D) (h2 : C = D + 1) (h3 : b = C) : False := by omega
theorem ar3 {b e d : Nat} (h1 : b < e) (h2 : e ≤ d) (h3 : d ≤ b) : False := by omega
theorem ar4 {b D p : Nat} (h1 : b < D) (h2 : p = D) (h3 : p = b) : False := by omega
theorem zg6 (env : Env) : ∀ (l : List (Str × NameKind)) (acc : List (Str × Addr)), (∀ p ∈ l, p.2 = .free → ∃ c, env.cells.lookup p.1 = some c) →
    ∃ cl, (forIn l acc (fun (x : Str × NameKind) (cs : List (Str × Addr)) => if (x.snd == NameKind.free) = true then do
              let a ← cellOf env x.fst
              pure (ForInStep.yield ((x.fst, a) :: cs))
            else pure (ForInStep.yield cs)) : Sem (List (Str × Addr))) = pure cl ∧
      (∀ y c, (y, c) ∈ cl → (y, c) ∈ acc ∨ (env.cells.lookup y = some c ∧ (y, NameKind.free) ∈ l)) ∧ (∀ p ∈ acc, p ∈ cl) ∧ (∀ y, (y, NameKind.free) ∈ l → ∃ c, (y, c) ∈ cl)
  | [], acc, _ => ⟨acc, rfl, fun _ _ h => .inl h, fun _ h => h, fun _ h => nomatch h⟩
  | (n, k) :: r, acc, hall => by
    by_cases hk : k = .free
    · subst hk
      obtain ⟨c, hc⟩ := hall (n, .free) List.mem_cons_self rfl
      obtain ⟨cl, e, h1, h2, h3⟩ := zg6 env r ((n, c) :: acc) fun p hp => hall p (List.mem_cons_of_mem _ hp)
      refine ⟨cl, ?_, fun y d hy => ?_, fun p hp => h2 p (List.mem_cons_of_mem _ hp), fun y hy => ?_⟩
      · rw [List.forIn_cons]
        simp only [beq_self_eq_true, if_true]
        have : cellOf env n = pure c := by unfold cellOf; rw [hc]
        rw [this]
        exact e
      · rcases h1 y d hy with q | q
        · rcases List.mem_cons.mp q with q | q
          · cases q
            exact .inr ⟨hc, List.mem_cons_self⟩
          · exact .inl q
        · exact .inr ⟨q.1, List.mem_cons_of_mem _ q.2⟩
      · rcases List.mem_cons.mp hy with q | q
        · cases q
          exact ⟨c, h2 _ List.mem_cons_self⟩
        · exact h3 y q
    · obtain ⟨cl, e, h1, h2, h3⟩ := zg6 env r acc fun p hp => hall p (List.mem_cons_of_mem _ hp)
      refine ⟨cl, ?_, fun y d hy => ?_, h2, fun y hy => ?_⟩
      · rw [List.forIn_cons]
        have : (k == NameKind.free) = false := by simpa using hk
        simp only [this, Bool.false_eq_true, if_false]
        exact e
      · rcases h1 y d hy with q | q
        · exact .inl q
        · exact .inr ⟨q.1, List.mem_cons_of_mem _ q.2⟩
      · rcases List.mem_cons.mp hy with q | q
        · cases q
          exact absurd rfl hk
        · exact h3 y q
theorem zdz {β : Type} {y : Str} : ∀ {l : List (Str × β)} {c : β}, (y, c) ∈ l → ∃ d, l.lookup y = some d
  | (n, b) :: r, c, h => by
    rw [List.lookup_cons]
    cases e : y == n with
    | true => exact ⟨b, rfl⟩
    | false =>
      rcases List.mem_cons.mp h with q | q
      · cases q
        simp at e
      · exact zdz q
theorem zjt (env : Env) (scope : Scope) (hall : ∀ p ∈ scope.names, p.2 = .free → ∃ c, env.cells.lookup p.1 = some c) :
    ∃ cl, closureFor scope env = pure cl ∧ (∀ y c, cl.lookup y = some c → env.cells.lookup y = some c) ∧ (∀ y, (y, NameKind.free) ∈ scope.names → ∃ c, cl.lookup y = some c) := by
  obtain ⟨cl, e, h1, _, h3⟩ := zg6 env scope.names [] hall
  refine ⟨cl, ?_, fun y c hy => ?_, fun y hy => ?_⟩
  · simp only [closureFor]
    rw [e]
    rfl
  · rcases h1 y c (PySem.mem_of_lookup hy) with z | z
    · cases z
    · exact z.1
  · obtain ⟨c, hc⟩ := h3 y hy
    exact zdz hc
structure CompSc (sc scope : Scope) (x : Str) : Prop where
  kind : scope.kind = .function
  ncell : ∀ y ∈ scope.names, y.2 ≠ .cell
  names : ∀ y ∈ scope.names, y.2 = .local → scope.names.lookup y.1 = some .local ∧ (y.1 = x ∨ y.1 = ".0")
  hx : scope.names.lookup x = some .local
  free : ∀ y ∈ scope.names, y.2 = .free → sc.names.lookup y.1 = some .cell
def cxH (X : Cx) (M : List Str) (scope : Scope) (cl : List (Str × Addr)) (x : Str) (C : Addr) (s₂ : Shared) (H₂ : Hp) (fp : List Addr) (E : Value → Shared → Prop) : Cx :=
  { X with N := x :: M, s₀ := s₂, H₀ := H₂, env := compEnvC scope cl C X.env, outer := X.stack, ex := fp, fn := fun _ => false, pn := [], xe := E }
def Hid (scope : Scope) (M N : List Str) : Prop := M.length = N.length ∧ ∀ p ∈ M.zip N, p.1 = p.2 ∨ p.1 ∉ scope.names.map Prod.fst
theorem Hid.refl {scope : Scope} {N : List Str} : Hid scope N N := ⟨rfl, fun p hp => .inl (by
  obtain ⟨i, hi, e⟩ := List.getElem_of_mem hp
  rw [List.getElem_zip] at e
  rw [← e])⟩
theorem Hid.get {scope : Scope} {M N : List Str} (h : Hid scope M N) {i : Nat} {y : Str} (e : M[i]? = some y) : N[i]? = some y ∨ y ∉ scope.names.map Prod.fst := by
  obtain ⟨hi, ei⟩ := List.getElem?_eq_some_iff.mp e
  have hj : i < N.length := h.1 ▸ hi
  have hm : (M[i], N[i]) ∈ M.zip N := List.mem_of_getElem? (i := i) (by rw [List.getElem?_zip_eq_some]; exact ⟨List.getElem?_eq_getElem hi, List.getElem?_eq_getElem hj⟩)
  rcases h.2 _ hm with q | q
  · exact .inl (by rw [List.getElem?_eq_getElem hj, ← ei]; exact congrArg some q.symm)
  · exact .inr (by rw [← ei]; exact q)
def cxC (X : Cx) (scope : Scope) (cl : List (Str × Addr)) (x : Str) (C : Addr) (s₂ : Shared) (H₂ : Hp) (fp : List Addr) (E : Value → Shared → Prop) : Cx :=
  { X with N := x :: X.N, s₀ := s₂, H₀ := H₂, env := compEnvC scope cl C X.env, outer := X.stack, ex := fp, fn := fun _ => false, pn := [], xe := E }
section
variable {X : Cx} {scope : Scope} {cl : List (Str × Addr)} {x : Str}
theorem zdA {env : Env} {y : Str} {k : NameKind} (h : (relabel scope env).names.lookup y = some k) : ∃ k0, (y, k0) ∈ scope.names ∧ ((k0 = .free ∧ env.kindOf y = some .cell ∧ k = .cell) ∨ (k = k0 ∧ ¬ (k0 = .free ∧ env.scope.kind = .function ∧ env.kindOf y = some .cell))) := by
  have hm := PySem.mem_of_lookup h
  obtain ⟨⟨n, k0⟩, hn, e⟩ := List.mem_map.mp hm
  by_cases hc : (k0 == NameKind.free && env.scope.kind == .function && env.kindOf n == some .cell) = true
  · have e' : (n, NameKind.cell) = (y, k) := by rw [← e]; simp only [hc, if_true]
    cases e'
    simp only [Bool.and_eq_true, beq_iff_eq] at hc
    exact ⟨_, hn, .inl ⟨hc.1.1, hc.2, rfl⟩⟩
  · have e' : (n, k0) = (y, k) := by rw [← e]; simp only [hc, if_false]; rfl
    cases e'
    refine ⟨_, hn, .inr ⟨rfl, fun ⟨a, b, c⟩ => hc ?_⟩⟩
    simp [a, b, c]
theorem zcB (S : CompSc X.env.scope scope x) {y : Str} (h : (relabel scope X.env).names.lookup y = some .local) : y = x ∨ y = ".0" := by
  obtain ⟨k0, hm, ⟨_, _, e⟩ | ⟨e, _⟩⟩ := zdA h
  · cases e
  · subst e
    exact (S.names _ hm rfl).2
theorem zb9 (S : CompSc X.env.scope scope x) (hk : X.env.scope.kind = .function) {y : Str} (h : (relabel scope X.env).names.lookup y = some .cell ∨ (relabel scope X.env).names.lookup y = some .free) : (y, NameKind.free) ∈ scope.names := by
  rcases h with h | h
  · obtain ⟨k0, hm, ⟨e, _, _⟩ | ⟨e, _⟩⟩ := zdA h
    · subst e; exact hm
    · subst e; exact absurd rfl (S.ncell _ hm)
  · obtain ⟨k0, hm, ⟨_, _, e⟩ | ⟨e, n⟩⟩ := zdA h
    · cases e
    · subst e
      exact hm
end
theorem zcC {P : Program} {wd : World} {B : Around} {Z : Result → Shared → Prop} {u0 : Shared} {el tg iter : Expr} {sc : Scope} {ps : Pos} {iv ac : Value} {ev : Env} (J0 : Nat → Shared → Prop)
    (turn : ∀ k u, J0 k u → wpAny (model P wd) B (pyNext iv) (fun r u1 => match r with | none => Z (.ok .next) u1 | some v => wpAny (model P wd) B (letOwnedTupleGo tg iv v) (fun _ u2 =>
      wpAny (model P wd) B (assign tg ev v) (fun _ u3 => wpAny (model P wd) B (eval el ev) (fun y u4 => wpAny (model P wd) B (call (.builtin "list.append") [ac, y]) (fun _ u5 => ∃ m, m < k ∧ J0 m u5)
        (notedBy (model P wd) B ev fun e u => Z (.error e) u) u4) (notedBy (model P wd) B ev fun e u => Z (.error e) u) u3) (notedBy (model P wd) B ev fun e u => Z (.error e) u) u2) (notedBy (model P wd) B ev fun e u => Z (.error e) u) u1)
      (notedBy (model P wd) B ev fun e u => Z (.error e) u) u)
    (k0 : Nat) (start0 : J0 k0 u0) : codeAny (model P wd) B (.compLoop (.ListComp el [⟨tg, iter, [], 0⟩] sc ps) 0 iv ac ev) Z u0 := by
  refine codeAny_loop rfl J0 (fun k u hJ => wpAny_noted (E := fun e u => Z (.error e) u) (env := ev) (m := compTurn (.ListComp el [⟨tg, iter, [], 0⟩] sc ps) 0 iv ac ev) ?_) k0 start0
  rw [compTurn_list1]
  have one := turn k u hJ
  refine wpAny_bind (wpAny_standAt (wpAny_bind (wpAny_mono one (fun r u1 q1 => ?_) fun _ _ z => z)))
  cases r with
  | none => exact wpAny_pure q1
  | some v =>
    refine wpAny_bind (wpAny_mono q1 (fun _ u2 q2 => wpAny_bind (wpAny_mono q2 (fun _ u3 q3 => ?_) fun _ _ z => z)) fun _ _ z => z)
    exact wpAny_bind (wpAny_bind (wpAny_mono q3 (fun y u4 q4 => wpAny_bind (wpAny_mono q4 (fun _ u5 q5 => wpAny_pure (wpAny_pure ⟨rfl, q5⟩)) fun _ _ z => z)) fun _ _ z => z))
def CompW (J : It) (te : TE) (σ : St) (Q : VK) (H1 : Hp) : Prop := ∃ W : Nat → Nat → List V → Hp → Prop, (∃ m, W 0 m [] H1) ∧ ∀ i m ys H, W i m ys H →
  (J.stop i H ∧ ys.length ≤ sizeLine ∧ ∀ l, H l = none → Q (.ref l) (upd H l (.lst ys))) ∨
  (J.go i H ∧ ys.length ≤ sizeLine ∧ ∀ z H', J.yld i H z H' → te (some z :: σ) H' fun y H2 => ∃ m', m' < m ∧ W (i + 1) m' (ys ++ [y]) H2)
def tComp (wi : TI) (te : TE) : TE := fun σ H Q => wi σ H fun J H1 => CompW J te σ Q H1
theorem ziv {X : Cx} {elt iter : Expr} {x : Str} {px pos : Pos} {scope : Scope} {wi : TI} {te : TE} {M : List Str} (hc : X.calm = true) (S : CompSc X.env.scope scope x) (eN : Hid scope M X.N) (hN0 : ((".0" : Str) :: x :: M).Nodup)
    (hi : PI X (.Name x px) iter wi) (he : ∀ cl C s₂ H₂ fp, PE (cxH X M scope cl x C s₂ H₂ fp (fun _ _ => False)) elt te)
    (hs : ∀ v, foldedSetIterable iter X.env v = pure v := by intro _; rfl) : PE X (.ListComp elt [⟨.Name x px, iter, [], 0⟩] scope pos) (tComp wi te) := by
  intro pins s σ H Q I h
  have hN : (x :: M).Nodup := (List.nodup_cons.mp hN0).2
  have h0N : (".0" : Str) ∉ M := fun z => (List.nodup_cons.mp hN0).1 (List.mem_cons_of_mem _ z)
  obtain ⟨cl, hclos, hcl1, hcl2⟩ := zjt X.env scope fun p hp hf => I.ok.has p.1 (.inl (S.free p hp hf))
  have hkd : X.env.scope.kind = .function := I.ok.kind
  rw [eval_ListComp]
  refine wpAny_comprehension_free (use := none) rfl hs hclos S.kind (fun y hy hl => (S.names y hy hl).1) ?_
  refine thn (hi pins s σ H _ I h) fun v s1 h1 => thn h1 fun itv s₂ h2 => ?_
  obtain ⟨it, fp, tn, J, H2, e, I2, T, st2, f2, W, ⟨m0, w0⟩, turn⟩ := h2
  subst e
  refine wpAny_newObj_type (wpAny_newFunctionEnv S.ncell (by intro y hy; simp at hy) (fun h₁ hns₁ hsb₁ => ?_) S.kind)
  dsimp only at hns₁ hsb₁ ⊢
  generalize hH2 : s₂.heap.push { cls := .type "list", dict := none, data := .seq ([] : List Value).toArray } = G2 at hns₁ hsb₁ ⊢
  have hC : G2.objs.size = s₂.heap.objs.size + 1 := by rw [← hH2, Heap.size_push]
  have hDC : s₂.heap.objs.size ≠ G2.objs.size := by rw [hC]; exact Nat.ne_of_lt (Nat.lt_succ_self _)
  have hCle : s₂.heap.objs.size ≤ G2.objs.size := by rw [hC]; exact Nat.le_succ _
  have old : ∀ b o, s₂.heap.get? b = some o → h₁.get? b = some o := fun b o e => by
    have hb : b ≠ G2.objs.size := by rw [hC]; exact Nat.ne_of_lt (Nat.lt_succ_of_lt (Heap.lt_size e))
    exact hsb₁.extBut b o hb (Heap.get?_push_of_some _ (hH2 ▸ Heap.get?_push_of_some _ e))
  have hacc : h₁.get? s₂.heap.objs.size = some { cls := .type "list", data := .seq (#[] : Array Value) 0 } := hsb₁.extBut _ _ hDC (Heap.get?_push_of_some _ (hH2 ▸ Heap.get?_push_size _ rfl))
  generalize hD : s₂.heap.objs.size = D at *
  generalize hCC : G2.objs.size = C at *
  have ltS : ∀ {b : Nat} {o : Obj}, s₂.heap.get? b = some o → b < D := fun e => by rw [← hD]; exact Heap.lt_size e
  have nofr : ∀ b, D ≤ b → b ∉ frs X.stack := fun b hb z => by
    rcases List.mem_cons.mp (I2.stkSub b z) with q | q
    · exact ar1 I2.lt hD hb q
    · exact I2.nofs (by rw [hD]; exact hb) q
  let E' : Value → Shared → Prop := notedBy (model X.prog X.w) X.A (compEnvC scope cl C X.env) fun e s' => compPost (model X.prog X.w) X.A X.xe none (EP X pins σ Q) (.ref D) C (.error e) s'
  let Y : Cx := cxH X M scope cl x C s₂ H2 fp E'
  have fpX : ∀ b ∈ fp, FpOk X pins H2 b := f2
  have okY : Y.Ok := by
    refine ⟨I2.ok.mod, S.kind, I2.ok.glob, I2.ok.blt, (by show s₂.heap.objs.size ≤ C; omega), fun y z c h1 h2 => ?_, fun y hy => ?_, fun y c hf => ?_, I2.ok.hd, I2.ok.frames, .inl rfl, fun b hb => ?_, I2.bs, Nat.le_trans I2.ok.bsz I2.sz, fun b o hb hx => ?_, fun b hb hx => ?_, I2.stack, I2.stkFree⟩
    · exact I2.ok.inj y z c (hcl1 y c h1) (hcl1 z c h2)
    · exact hcl2 y (zb9 S hkd hy)
    · cases hf
    · refine ⟨fun z => ?_, fun y c hy => (fpX b hb).2.2.2.2.1 y c (hcl1 y c hy)⟩
      obtain ⟨o, ho, _⟩ := T.obj 0 _ st2 b hb
      exact ar2 (ltS ho) hC z
    · rcases (fpX b hx).2.2.2.1 with z | z
      · exact I2.ok.noex b o hb z
      · exact ar3 (Heap.lt_size hb) I2.ok.bsz z
    · rcases List.mem_cons.mp (I2.stkSub b hx) with q | q
      · exact (fpX b hb).2.1 q
      · exact (fpX b hb).2.2.1 q
  have hpinD : ∀ {s' : Shared} {H' : Hp} {o : Obj}, s'.heap.get? D = some o → H' D = none → (∀ v, o.data ≠ .cell v) → ∀ p ∈ [(D, o)], s'.heap.get? p.1 = some p.2 ∧ H' p.1 = none ∧ p.1 ≠ Y.env.locals ∧ p.1 ∉ Y.fs ∧ ∀ v, p.2.data ≠ .cell v := fun {s' H' o} e1 e2 e3 p hp => by
    have ep : p = (D, o) := by simpa using hp
    subst ep
    exact ⟨e1, e2, hDC, nofr D (Nat.le_refl _), e3⟩
  have I0 : Inv Y [(D, { cls := .type "list", data := .seq (#[] : Array Value) 0 })] (none :: σ) H2 { s₂ with heap := h₁, toks := s₂.toks + ([] : List (Str × Value)).length } := by
    have fresh : ∀ b, D ≤ b → H2 b = none := fun b hb => I2.hok.fresh (by rw [hD]; exact hb)
    refine ⟨okY, rfl, I2.bare, Un.kept old, ⟨_, hns₁, fun i y v e1 e2 e3 => ?_⟩, fun y c hy => ?_, fresh C (by omega), fun y c hy => I2.freeC y c (hcl1 y c hy), fun p hp => hpinD hacc (fresh D (Nat.le_refl _)) (fun v z => by cases z) p hp, I2.hok.kept old, ?_⟩
    · cases i with
      | zero => simp at e2
      | succ i =>
        have e0' : M[i]? = some y := by simpa [Y, cxH] using e1
        have e1' : X.N[i]? = some y := by
          rcases eN.get e0' with q | q
          · exact q
          · refine absurd ?_ q
            rcases e3 with e3 | e3 | e3 <;> (obtain ⟨k0, hm, _⟩ := zdA e3; exact List.mem_map.mpr ⟨_, hm, rfl⟩)
        have e2' : σ[i]? = some (some v) := by simpa using e2
        have hyx : ¬ (y = x ∨ y = ".0") := fun z => by
          have hm := List.mem_of_getElem? e0'
          rcases z with z | z
          · rw [z] at hm
            exact (List.nodup_cons.mp hN).1 hm
          · rw [z] at hm
            exact h0N hm
        have hfr : (y, NameKind.free) ∈ scope.names := by
          rcases e3 with e3 | e3 | e3
          · exact absurd (zcB S e3) hyx
          · exact zb9 S hkd (.inl e3)
          · exact zb9 S hkd (.inr e3)
        have hkc : X.env.scope.names.lookup y = some .cell := S.free _ hfr rfl
        obtain ⟨m, hn, hl⟩ := I2.loc
        obtain ⟨u, r, l⟩ := hl i y v e1' e2' (.inr (.inl hkc))
        refine ⟨u, r, ?_⟩
        rcases l with ⟨hk, _⟩ | ⟨_, c, hcc, hcell⟩
        · have : X.env.kindOf y = some .cell := hkc
          rw [this] at hk; cases hk
        · obtain ⟨c', hc'⟩ := hcl2 y hfr
          have := hcl1 y c' hc'
          rw [hcc] at this
          cases this
          refine .inr ⟨?_, c, hc', ?_⟩
          · rcases e3 with e3 | e3 | e3
            · exact absurd (zcB S e3) hyx
            · exact .inl e3
            · exact .inr e3
          · obtain ⟨o, ho, hd⟩ := hcell
            exact ⟨o, old c o ho, hd⟩
    · obtain ⟨v, o, ho, hd⟩ := I2.cell y c (hcl1 y c hy)
      exact ⟨v, o, old c o ho, hd⟩
    · show (none :: σ).length = (x :: M).length
      simp [I2.len, eN.1]
  have fpY : ∀ {pl : List (Addr × Obj)} {H' : Hp}, (∀ p ∈ pl, p.1 = D) → (∀ b ∈ fp, H' b = none) → ∀ b ∈ fp, FpOk Y pl H' b := fun {pl H'} hpl hn b hb => by
    obtain ⟨o, ho, _⟩ := T.obj 0 _ st2 b hb
    refine ⟨hn b hb, fun z => ?_, ?_, .inl hb, (okY.exf b hb).2, fun p hp z => ?_⟩
    · exact ar2 (ltS ho) hC z
    · exact okY.exfs b hb
    · have hp' : p ∈ pl := by simpa [Y, cxH] using hp
      exact ar4 (ltS ho) (hpl p hp') z
  have loop : codeAny (model X.prog X.w) X.A (.compLoop (.ListComp elt [⟨.Name x px, iter, [], 0⟩] scope pos) 0 (.ref it) (.ref D) (compEnvC scope cl C X.env))
      (compPost (model X.prog X.w) X.A X.xe none (EP X pins σ Q) (.ref D) C) { s₂ with heap := h₁, toks := s₂.toks + ([] : List (Str × Value)).length } := by
    refine zcC (fun n s' => ∃ i ys H' its k, Inv Y [(D, { cls := .type "list", data := .seq (its : List Value).toArray k })] (none :: σ) H' s' ∧ Vals ys its ∧ tn i s'.heap ∧ (∀ b ∈ fp, H' b = none) ∧ W i n ys H') ?_ m0
      ⟨0, [], H2, [], 0, I0, .nil, T.keep 0 _ _ st2 (fun b hb o e => old b o e), fun b hb => (fpX b hb).1, w0⟩
    rintro n s3 ⟨i, ys, H3, its, k, I3, rv, st3, fr3, w3⟩
    have pinl : ∀ {o : Obj}, ∀ p ∈ [(D, o)], p.1 = D := fun {o} p hp => by
      have ep : p = (D, o) := by simpa using hp
      rw [ep]
    obtain ⟨gD, nD, _, _, _⟩ := I3.pin (D, _) (List.mem_append_right _ List.mem_cons_self)
    rcases turn i n ys H3 w3 with ⟨stop, hz, q⟩ | ⟨go, hz, step⟩
    · refine thn (T.done Y rfl rfl rfl hc i _ s3 _ H3 E' I3 (fpY pinl fr3) st3 stop) fun r s4 ⟨hr, I4⟩ => ?_
      subst hr
      obtain ⟨gD4, nD4, _, _, _⟩ := I4.pin (D, _) (List.mem_append_right _ List.mem_cons_self)
      obtain ⟨m4, hn4, _⟩ := id I4.loc
      refine ⟨m4, hn4, fun h' hsb => ?_⟩
      refine ⟨.ref D, upd H3 D (.lst ys), ?_, rfl, q D nD4⟩
      have neC : ∀ {b : Addr} {u : HO}, H3 b = some u → b ≠ C := fun e z => by
        have : H3 C = none := I4.free
        rw [z, this] at e; cases e
      refine I2.call' (s' := { s4 with heap := h' }) (ch := fp) (H' := upd H3 D (.lst ys)) I4.os ?_ ?_ I4.bare fun b hb => ⟨(fpX b hb).2.2.2.1, (fpX b hb).2.1, (fpX b hb).2.2.2.2.1, (fpX b hb).2.2.2.2.2⟩
      · have B := I4.base
        have ltC : ∀ {b : Nat} {o : Obj}, s₂.heap.get? b = some o → b ≠ C := fun e z => ar2 (ltS e) hC z
        have neD : ∀ {b : Addr} {u : HO}, H3 b = some u → b ≠ D := fun e z => by rw [z, nD4] at e; cases e
        refine ⟨fun b o e nn hb hx => (hsb.2 b (ltC e)).trans (B.keep b o e nn hb hx), fun b o e nn hb hx => ?_, fun b o e nn hx => ?_, fun b o e hx => ?_, fun b xs e => ?_, fun b o u e => ?_, fun b ps e => ?_⟩
        · obtain ⟨sl, z⟩ := B.slot b o e nn hb hx
          exact ⟨sl, (hsb.2 b (ltC e)).trans z⟩
        · have hbD : b ≠ D := Nat.ne_of_lt (ltS e)
          rw [zq hbD]
          exact B.free b o e nn hx
        · obtain ⟨o', z⟩ := B.there b o e hx
          exact ⟨o', (hsb.2 b (ltC e)).trans z⟩
        · have z := B.tups b xs e
          rw [zq (neD z)]; exact z
        · have z := B.frzs b o u e
          rw [zq (neD z)]; exact z
        · obtain ⟨more, z⟩ := B.tbls b ps e
          exact ⟨more, by rw [zq (neD z)]; exact z⟩
      · intro a o e
        by_cases ha : a = D
        · subst ha
          rw [zu] at e
          cases e
          exact ⟨hz, its, k, rv, (hsb.2 _ hDC).trans gD4⟩
        · rw [zq ha] at e
          have keepNe : ∀ b u, H3 b = some u → (upd H3 D (.lst ys)) b = some u := fun b u z => by
            have hb : b ≠ D := fun w => by rw [w, nD4] at z; cases z
            rw [zq hb]; exact z
          refine (I4.hok a o e).stay (fun b u hb z => (hsb.2 b ?_).trans z) (fun b z => keepNe b _ z) fun b xs z => keepNe b _ z
          rcases hb with hb | hb
          · rw [hb]; exact neC e
          · exact neC hb
    · refine thn (T.item Y rfl rfl rfl hc i _ s3 _ H3 E' I3 (fpY pinl fr3) st3 go) fun r s4 ⟨u, hr, h4⟩ => ?_
      subst hr
      refine thn h4 fun _ s5 ⟨z, H5, I5, r5, y5, st5, fr5⟩ => ?_
      have I5' := I5.pinned (fpY pinl fr5) (T.obj _ _ st5)
      have pgx : PG Y (.Name x px) (gName 0) := zdu (X := Y) hN rfl (.inl (lookup_relabel_local S.hx)) (.inr (lookup_relabel_local S.hx))
      have peY : PE Y elt te := PE.nox (X := Y) (he cl C s₂ H2 fp)
      refine thn (pgx _ s5 (none :: σ) H5 z u (fun σ' H' => σ' = some z :: σ ∧ H' = H5) I5' r5 ⟨rfl, rfl⟩) fun _ s6 ⟨σ6, H6, I6, e1, e2⟩ => ?_
      subst e1 e2
      refine thn (peY _ s6 _ _ _ I6 (step z _ y5)) fun uy s7 ⟨y, H7, I7, ry, m', hm, w7⟩ => ?_
      obtain ⟨gD7, nD7, _, _, _⟩ := I7.pin (D, _) (List.mem_append_right _ (List.mem_append_left _ List.mem_cons_self))
      refine wpAny_list_append_plain ⟨k, gD7⟩ (fun h' hpl hsb => ?_) (by rw [List.size_toArray, ← rv.length]; exact hz)
      obtain ⟨k', gD'⟩ := hpl
      have I8 : Inv Y [] (some z :: σ) H7 { s7 with heap := h' } := (I7.pins_of (pins' := []) (fun p hp => nomatch hp)).turned (it := D) (t' := s7.toks) (fun b o hb e => (hsb.2 b hb).trans e) nD7 hDC
        (.inr (by show s₂.heap.objs.size ≤ D; omega)) (fun a c hy hz' => by
          obtain ⟨v', o', ho', _⟩ := I2.cell a c (hcl1 a c hy)
          exact Nat.ne_of_lt (ltS ho') hz') (fun p hp => by simp [Y, cxH] at hp)
      have I9 : Inv Y [] (none :: σ) H7 { s7 with heap := h' } := I8.weak (by simp) fun j v e => by
        cases j with
        | zero => simp at e
        | succ j => simpa using e
      have pinOf : ∀ b ∈ fp, ∃ o, s5.heap.get? b = some o ∧ s7.heap.get? b = some o ∧ H7 b = none := fun b hb => by
        obtain ⟨o, e, _⟩ := T.obj _ _ st5 b hb
        have q := I7.pin (b, o) (List.mem_append_right _ (List.mem_append_right _ (zb8 hb e)))
        exact ⟨o, e, q.1, q.2.1⟩
      have fpD : ∀ b ∈ fp, b ≠ D := fun b hb => by
        obtain ⟨o, ho, _⟩ := T.obj 0 _ st2 b hb
        exact Nat.ne_of_lt (ltS ho)
      have eT : its.toArray.push uy = (its ++ [uy]).toArray := by simp
      rw [eT] at gD'
      refine ⟨m', hm, i + 1, ys ++ [y], H7, its ++ [uy], k', I9.pins_of (hpinD gD' nD7 fun v e => by cases e), rv.append (.cons ry .nil), T.keep (i + 1) _ _ st5 fun b hb o e => ?_, fun b hb => ?_, w7⟩
      · obtain ⟨o', e1, e2, _⟩ := pinOf b hb
        rw [e] at e1
        cases e1
        exact (hsb.2 b (fpD b hb)).trans e2
      · obtain ⟨_, _, _, q⟩ := pinOf b hb
        exact q
  exact codeAny_compStart_list loop (T.self X.A 0 _ _ _ (T.keep 0 _ _ st2 (fun b hb o e => old b o e)) loop)
end L2
namespace L2
open PySem PySem.Spec PyProof.Rows
def Its (z : Str) : It := ⟨fun i _ => i < z.cps.size, fun i H v H' => H' = H ∧ ∃ c, z.cps[i]? = some c ∧ v = .str ⟨#[c]⟩, fun i _ => z.cps.size ≤ i⟩
theorem zfR {P : Program} {w : World} {K : PySem.W.Frag} {tg : Expr} (z : Str) (t : Tok) (it : Addr) (ty : String) (hty : ty = "str_ascii_iterator" ∨ ty = "str_iterator") : Turn P w K tg (Its z) [it] it (fun i h => h.IsStrIter it ty z t i) where
  mem := by simp
  obj := fun i h st b hb => by
    have e : b = it := by simpa using hb
    subst e
    obtain ⟨o, e, c, d⟩ := st
    exact ⟨o, e, fun v z => by rw [d] at z; cases z⟩
  keep := fun i h h' st k => by
    obtain ⟨o, e, r⟩ := st
    exact ⟨o, k it (by simp) o e, r⟩
  item := by
    intro X hP hw hK hc i pins s σ H E I hf st hg
    subst hP hw hK
    obtain ⟨f0, f1, f2, f3, f4, f5⟩ := hf it (by simp)
    have W : Walks X.prog X.w X.A it [it] [it] z.cps.size (SignAt z) (fun i h => h.IsStrIter it ty z t i) := by
      rcases hty with e | e
      · rw [e]; exact Walks.strAscii (I.ok.hd hc) it z t
      · rw [e]; exact Walks.strWide (I.ok.hd hc) it z t
    refine W.item i s _ _ hg st fun v h' tk hv st' kk => ?_
    obtain ⟨c, u, hcx, rfl⟩ := hv
    have I1 : Inv X pins σ H { s with heap := h', toks := tk } := I.turned (fun b o hb e => kk b o (by simpa using hb) e) f0 f1 f3 f4 f5
    obtain ⟨o, e, cc, d⟩ := id st'
    exact ⟨_, rfl, zim (s := { s with heap := h', toks := tk }) e cc d (by rcases hty with e | e <;> rw [e] <;> decide) ⟨.str ⟨#[c]⟩, H, I1, ⟨u, rfl⟩, ⟨rfl, c, hcx, rfl⟩, st', fun b hb => (hf b hb).1⟩⟩
  done := by
    intro X hP hw hK hc i pins s σ H E I hf st hg
    subst hP hw hK
    obtain ⟨f0, f1, f2, f3, f4, f5⟩ := hf it (by simp)
    have hn : z.cps[i]? = none := by
      have hg' : z.cps.size ≤ i := hg
      simpa using hg'
    rcases hty with e | e
    · rw [e] at st
      exact wpAny_pyNext_ascii_end (I.ok.hd hc) st hn fun h' eb => ⟨rfl, I.turned (t' := s.toks) (fun b o hb e => eb b o hb e) f0 f1 f3 f4 f5⟩
    · rw [e] at st
      exact wpAny_pyNext_wide_end (I.ok.hd hc) st hn fun h' eb => ⟨rfl, I.turned (t' := s.toks) (fun b o hb e => eb b o hb e) f0 f1 f3 f4 f5⟩
  self := fun A i s Q E st h => by
    rcases hty with e | e
    · rw [e] at st; exact wpAny_pyIter_striter_ascii st h
    · rw [e] at st; exact wpAny_pyIter_striter_wide st h
section
variable {X : Cx}
end
end L2
namespace L2
open PySem PySem.Spec PyProof.Rows
section
variable {κ : Type} [DecidableEq κ]
def valV (kvs : List (κ × V)) (k : κ) : Option V := (kvs.find? fun kv => decide (kv.1 = k)).map (·.2)
def putK (kvs : List (κ × V)) (k : κ) (v : V) : List (κ × V) :=
  if (kvs.any fun kv => decide (kv.1 = k)) = true then kvs.map (fun kv => if kv.1 = k then (kv.1, v) else kv) else kvs ++ [(k, v)]
def dropK (kvs : List (κ × V)) (k : κ) : List (κ × V) := kvs.filter fun kv => decide (kv.1 ≠ k)
theorem zdo {p : κ × V} {r : List (κ × V)} {k : κ} (e : p.1 = k) : valV (p :: r) k = some p.2 := by simp [valV, List.find?_cons, e]
theorem zdp {p : κ × V} {r : List (κ × V)} {k : κ} (e : ¬ p.1 = k) : valV (p :: r) k = valV r k := by simp [valV, List.find?_cons, e]
theorem zfS (k : κ) : ∀ kvs : List (κ × V), (kvs.any fun kv => decide (kv.1 = k)) = (valV kvs k).isSome
  | [] => rfl
  | p :: r => by
    rw [List.any_cons]
    by_cases e : p.1 = k
    · simp only [zdo e, decide_eq_true e, Bool.true_or, Option.isSome_some]
    · rw [zdp e, decide_eq_false e, Bool.false_or]; exact zfS k r
theorem zaX (kvs : List (κ × V)) (k : κ) (v : V) : (putK kvs k v).length ≤ kvs.length + 1 := by
  unfold putK
  split
  · rw [List.length_map]; omega
  · rw [List.length_append, List.length_cons, List.length_nil]; omega
theorem RelO.isSome_eq {o : Option V} {u : Option Value} (r : RelO o u) : o.isSome = u.isSome := by
  cases o with
  | none => cases u with
    | none => rfl
    | some _ => exact (show False from r).elim
  | some _ => cases u with
    | none => exact (show False from r).elim
    | some _ => rfl
theorem KV.val {kvs : List (κ × V)} {vs : List (κ × Value)} (r : KV kvs vs) (k : κ) : RelO (valV kvs k) (valueAt vs k) := by
  unfold KV at r
  induction r with
  | nil => exact True.intro
  | @cons p q ps qs h t ih =>
    obtain ⟨h1, h2⟩ := h
    by_cases e : p.1 = k
    · have e' : q.1 = k := h1.symm.trans e
      have b : valueAt (q :: qs) k = some q.2 := by simp [valueAt, List.find?_cons, e']
      rw [zdo e, b]; exact h2
    · have e' : ¬ q.1 = k := fun z => e (h1.trans z)
      have b : valueAt (q :: qs) k = valueAt qs k := by simp [valueAt, List.find?_cons, e']
      rw [zdp e, b]; exact ih
theorem KV.any {kvs : List (κ × V)} {vs : List (κ × Value)} (r : KV kvs vs) (k : κ) : (kvs.any fun kv => decide (kv.1 = k)) = vs.any fun kv => decide (kv.1 = k) := by
  unfold KV at r
  induction r with
  | nil => rfl
  | cons h t ih => rw [List.any_cons, List.any_cons, ih, h.1]
theorem KV.repl {kvs : List (κ × V)} {vs : List (κ × Value)} (r : KV kvs vs) (k : κ) {y : V} {u : Value} (ry : RelV y u) :
    KV (kvs.map fun kv => if kv.1 = k then (kv.1, y) else kv) (vs.map fun kv => if kv.1 = k then (kv.1, u) else kv) := by
  unfold KV at r ⊢
  induction r with
  | nil => exact .nil
  | @cons p q ps qs h t ih =>
    rw [List.map_cons, List.map_cons]
    refine .cons ?_ ih
    obtain ⟨h1, h2⟩ := h
    by_cases e : p.1 = k
    · rw [if_pos e, if_pos (h1.symm.trans e)]; exact ⟨h1, ry⟩
    · rw [if_neg e, if_neg (fun z => e (h1.trans z))]; exact ⟨h1, h2⟩
theorem KV.put {kvs : List (κ × V)} {vs : List (κ × Value)} (r : KV kvs vs) (k : κ) {y : V} {u : Value} (ry : RelV y u) : KV (putK kvs k y) (stored vs k u) := by
  unfold putK stored
  rw [r.any k]
  by_cases e : (vs.any fun kv => decide (kv.1 = k)) = true
  · rw [if_pos e, if_pos e]; exact r.repl k ry
  · rw [if_neg e, if_neg e]; exact Paired.snoc r ⟨rfl, ry⟩
theorem KV.drop {kvs : List (κ × V)} {vs : List (κ × Value)} (r : KV kvs vs) (k : κ) : KV (dropK kvs k) (without vs k) := by
  unfold KV at r ⊢
  unfold dropK without
  induction r with
  | nil => exact .nil
  | @cons p q ps qs h t ih =>
    obtain ⟨h1, h2⟩ := h
    rw [List.filter_cons, List.filter_cons]
    by_cases e : p.1 = k
    · have a : ¬ decide (p.1 ≠ k) = true := by simp [e]
      have b : ¬ decide (q.1 ≠ k) = true := by simp [h1.symm.trans e]
      rw [if_neg a, if_neg b]; exact ih
    · have e' : ¬ q.1 = k := fun z => e (h1.trans z)
      have a : decide (p.1 ≠ k) = true := by simp [e]
      have b : decide (q.1 ≠ k) = true := by simp [e']
      rw [if_pos a, if_pos b]; exact .cons ⟨h1, h2⟩ ih
theorem KV.length {kvs : List (κ × V)} {vs : List (κ × Value)} (r : KV kvs vs) : kvs.length = vs.length := Paired.length r
end
theorem zg7 {P : Program} {w : World} {k : Key} {u : Value} (r : RelV (kV k) u) : (mixKind P w).is k u = true := by
  cases k with
  | inl i => obtain ⟨t, e⟩ := (show ∃ t, u = Value.int i t from r); subst e; exact zfn P w i t
  | inr x => obtain ⟨t, e⟩ := (show ∃ t, u = Value.str x t from r); subst e; exact zfo P w x t
theorem zeH {P : Program} {w : World} : ∀ {ks : List Key} {us : List Value}, Vals (ks.map kV) us → ItemsAre (mixKind P w) ks us
  | [], _, r => by rw [List.map_nil] at r; cases r; exact .nil
  | k :: ks, _, r => by
    rw [List.map_cons] at r
    cases r with
    | cons h t => exact .cons (zg7 h) (zeH t)
abbrev KT (H : Hp) : List (List Key × V) → List (List Key × Addr × Value) → Prop := Paired fun p q => p.1 = q.1 ∧ H q.2.1 = some (.tup (p.1.map kV)) ∧ RelV p.2 q.2.2
theorem KT.val {H : Hp} {kvs : List (List Key × V)} {xs : List (List Key × Addr × Value)} (r : KT H kvs xs) (k : List Key) : RelO (valV kvs k) ((atKey xs k).map (·.2)) := by
  induction r with
  | nil => exact True.intro
  | @cons p q ps qs h t ih =>
    obtain ⟨h1, _, h2⟩ := h
    by_cases e : p.1 = k
    · have e' : q.1 = k := h1.symm.trans e
      have b : atKey (q :: qs) k = some q.2 := by simp [atKey, List.find?_cons, e']
      rw [zdo e, b]; exact h2
    · have e' : ¬ q.1 = k := fun z => e (h1.trans z)
      have b : atKey (q :: qs) k = atKey qs k := by simp [atKey, List.find?_cons, e']
      rw [zdp e, b]; exact ih
theorem KT.repl {H : Hp} {kvs : List (List Key × V)} {xs : List (List Key × Addr × Value)} (r : KT H kvs xs) (k : List Key) {y : V} {u : Value} (ry : RelV y u) :
    KT H (kvs.map fun kv => if kv.1 = k then (kv.1, y) else kv) (xs.map (putAt k u)) := by
  induction r with
  | nil => exact .nil
  | @cons p q ps qs h t ih =>
    rw [List.map_cons, List.map_cons]
    refine .cons ?_ ih
    obtain ⟨h1, h2, h3⟩ := h
    unfold putAt
    by_cases e : p.1 = k
    · rw [if_pos e, if_pos (h1.symm.trans e)]; exact ⟨h1, h2, ry⟩
    · rw [if_neg e, if_neg (fun z => e (h1.trans z))]; exact ⟨h1, h2, h3⟩
theorem KT.put {H : Hp} {kvs : List (List Key × V)} {xs : List (List Key × Addr × Value)} (r : KT H kvs xs) (k : List Key) {b : Addr} {y : V} {u : Value} (hb : H b = some (.tup (k.map kV))) (ry : RelV y u) :
    KT H (putK kvs k y) (storedH xs k b u) := by
  have e : (kvs.any fun kv => decide (kv.1 = k)) = (atKey xs k).isSome := by
    rw [zfS, (r.val k).isSome_eq, Option.isSome_map]
  unfold putK storedH
  rw [e]
  by_cases q : (atKey xs k).isSome = true
  · rw [if_pos q, if_pos q]; exact r.repl k ry
  · rw [if_neg q, if_neg q]; exact Paired.snoc r ⟨rfl, hb, ry⟩
theorem KT.keeps {H H' : Hp} {kvs : List (List Key × V)} {xs : List (List Key × Addr × Value)} (r : KT H kvs xs) (ht : ∀ b ys, H b = some (.tup ys) → H' b = some (.tup ys)) : KT H' kvs xs :=
  Paired.mapP r fun _ _ z => ⟨z.1, ht _ _ z.2.1, z.2.2⟩
section
variable {P : Program} {w : World} {H : Hp} {h : Heap} {a : Addr}
theorem zlW {u : HO} (ok : HOk P w H h) (e : Rd H a u) : ObjOk P w H h a u := e.ok ok
theorem zdi {kvs : List (Key × V)} (ok : HOk P w H h) (e : Rd H a (.dK kvs)) : kvs.length ≤ sizeLine ∧ (a == sysModules) = false ∧ ∃ vs, KV kvs vs ∧ h.DictOf (mixKind P w) a vs :=
  show ObjOk P w H h a (.dK kvs) from zlW ok e
theorem zlX {kvs : List (Key × V)} (ok : HOk P w H h) (e : H a = some (.dK kvs)) : kvs.length ≤ sizeLine ∧ (a == sysModules) = false ∧ ∃ vs, KV kvs vs ∧ h.DictOf (mixKind P w) a vs := zdi ok (.inl e)
theorem zg8 {ks : List Key} (ok : HOk P w H h) (e : H a = some (.tup (ks.map kV))) : (tupleKind (mixKind P w)).is h ks a := by
  obtain ⟨_, its, r, o, h1, h2, n, h3⟩ := (show ObjOk P w H h a (.tup (ks.map kV)) from ok a _ e)
  exact ⟨o, its.toArray, n, h1, h2, h3, by simpa using zeH r⟩
theorem zkg {kvs : List (List Key × V)} (ok : HOk P w H h) (e : Rd H a (.dT kvs)) : kvs.length ≤ sizeLine ∧ (a == sysModules) = false ∧
    ∃ xs, KT H kvs xs ∧ h.DictOfH (tupleKind (mixKind P w)) a xs := by
  obtain ⟨z, y, xs, r, o, es, ep, h1, h2, h3, h4, h5⟩ := (show ObjOk P w H h a (.dT kvs) from zlW ok e)
  refine ⟨z, y, xs, r, o, es, ep, h1, h2, h3, h4, fun x hx => ?_, h5⟩
  have all : ∀ {l : List (List Key × V)} {m : List (List Key × Addr × Value)}, KT H l m → ∀ x ∈ m, (tupleKind (mixKind P w)).is h x.1 x.2.1 := by
    intro l m q
    induction q with
    | nil => intro x hx; exact nomatch hx
    | @cons p q ps qs hq t ih =>
      intro x hx
      rcases List.mem_cons.mp hx with e | hx
      · subst e
        exact zg8 ok (by rw [← hq.1]; exact hq.2.1)
      · exact ih x hx
  exact all r x hx
theorem zm7 {kvs : List (List Key × V)} (ok : HOk P w H h) (e : H a = some (.dT kvs)) : kvs.length ≤ sizeLine ∧ (a == sysModules) = false ∧
    ∃ xs, KT H kvs xs ∧ h.DictOfH (tupleKind (mixKind P w)) a xs := zkg ok (.inl e)
end
def DGet (H : Hp) (a : Addr) (y : V) (r : Option V) : Prop :=
  (∃ kvs k, Rd H a (.dK kvs) ∧ y = kV k ∧ r = valV kvs k) ∨ ∃ kvs k b, Rd H a (.dT kvs) ∧ y = .ref b ∧ H b = some (.tup (k.map kV)) ∧ r = valV kvs k
def DPut (H : Hp) (a : Addr) (y v : V) (H' : Hp) : Prop :=
  (∃ kvs k, H a = some (.dK kvs) ∧ y = kV k ∧ kvs.length < sizeLine ∧ H' = upd H a (.dK (putK kvs k v))) ∨
  ∃ kvs k b, H a = some (.dT kvs) ∧ y = .ref b ∧ H b = some (.tup (k.map kV)) ∧ kvs.length < sizeLine ∧ H' = upd H a (.dT (putK kvs k v))
theorem DGet.k {H : Hp} {a : Addr} {kvs : List (Key × V)} {k : Key} (e : H a = some (.dK kvs)) : DGet H a (kV k) (valV kvs k) := .inl ⟨kvs, k, .inl e, rfl, rfl⟩
theorem DGet.t {H : Hp} {a b : Addr} {kvs : List (List Key × V)} {k : List Key} (e : H a = some (.dT kvs)) (eb : H b = some (.tup (k.map kV))) : DGet H a (.ref b) (valV kvs k) := .inr ⟨kvs, k, b, .inl e, rfl, eb, rfl⟩
theorem DPut.k {H : Hp} {a : Addr} {kvs : List (Key × V)} {k : Key} {v : V} (e : H a = some (.dK kvs)) (hl : kvs.length < sizeLine) : DPut H a (kV k) v (upd H a (.dK (putK kvs k v))) := .inl ⟨kvs, k, e, rfl, hl, rfl⟩
theorem DPut.t {H : Hp} {a b : Addr} {kvs : List (List Key × V)} {k : List Key} {v : V} (e : H a = some (.dT kvs)) (eb : H b = some (.tup (k.map kV))) (hl : kvs.length < sizeLine) :
    DPut H a (.ref b) v (upd H a (.dT (putK kvs k v))) := .inr ⟨kvs, k, b, e, rfl, eb, hl, rfl⟩
section
variable {X : Cx} {pins : List (Addr × Obj)} {σ : St} {H : Hp} {s : Shared} {a : Addr} {y v : V} {u r : Value} {o : Option V} {A : Around} {E : Value → Shared → Prop}
theorem Inv.big (I : Inv X pins σ H s) : sysModules < s.heap.objs.size := by
  have h : mainGlobals < s.heap.objs.size := (I.mod.glob.keeps I.bk).lt
  exact Nat.lt_trans (by decide) h
theorem zg9 {Q : Value → Shared → Prop} (hu : A.units + 1 < cLine) (I : Inv X pins σ H s) (g : DGet H a y (some v)) (ry : RelV y u) (h : ∀ w' s', Inv X pins σ H s' → RelV v w' → Q w' s') :
    wpAny (model X.prog X.w) A (getItem (.ref a) u) Q E s := by
  rcases g with ⟨kvs, k, e, ey, l⟩ | ⟨kvs, k, b, e, ey, eb, l⟩
  · subst ey
    obtain ⟨z, hd, vs, rel, dd⟩ := zdi I.hok e
    obtain ⟨w', hw, rw'⟩ := RelO.some_of (v := v) (o := valueAt vs k) (by rw [l]; exact rel.val k)
    exact wpAny_getItem_of (zg7 ry) dd.mapOf hw (h w' _ (I.tok _) rw')
  · subst ey
    cases (show u = Value.ref b from ry)
    obtain ⟨z, hd, xs, rel, dd⟩ := zkg I.hok e
    obtain ⟨w', hw, rw'⟩ := RelO.some_of (v := v) (o := (atKey xs k).map (·.2)) (by rw [l]; exact rel.val k)
    obtain ⟨p, hp, hp2⟩ := Option.map_eq_some_iff.mp hw
    refine wpAny_getItem_heap (tupleKind_room_in1 hu) (zg8 I.hok eb) dd hp ?_
    rw [hp2]
    exact h w' _ (I.tok _) rw'
theorem zfs {h' : Heap} {t' : Nat} {ob : HO} (I : Inv X pins σ H s) (mu : Mut (H a)) (hs : Heap.SameBut a s.heap h') (he : ∃ q, h'.get? a = some q) (new : ObjOk X.prog X.w (upd H a ob) h' a ob) :
    Inv X pins σ (upd H a ob) { s with heap := h', toks := t' } :=
  I.write (x := a) (e := a) mu (.inl rfl) (fun b q hb z => (hs.2 b hb).trans z) he new
theorem zha {P : Program} {w : World} {H' : Hp} {h' : Heap} {kvs : List (Key × V)} {vs : List (Key × Value)} (z : kvs.length ≤ sizeLine) (hd : (a == sysModules) = false) (rel : KV kvs vs) (dd : h'.DictOf (mixKind P w) a vs) :
    ObjOk P w H' h' a (.dK kvs) := ⟨z, hd, vs, rel, dd⟩
theorem zhb {H' : Hp} {Q : Unit → Shared → Prop} (hu : A.units + 1 < cLine) (I : Inv X pins σ H s) (g : DPut H a y v H') (ry : RelV y u) (rv : RelV v r) (h : ∀ s', Inv X pins σ H' s' → Q () s') :
    wpAny (model X.prog X.w) A (setItem (.ref a) u r) Q E s := by
  rcases g with ⟨kvs, k, e, ey, l, eH⟩ | ⟨kvs, k, b, e, ey, eb, l, eH⟩
  · subst ey eH
    obtain ⟨z, hd, vs, rel, dd⟩ := zlX I.hok e
    have hz : vs.length ≤ sizeLine := by rw [← rel.length]; exact z
    have hl : (putK kvs k v).length ≤ sizeLine := by have := zaX kvs k v; omega
    refine wpAny_setItem_pairs (hsz := hz) (zg7 ry) dd fun h' dd' hs => h _ ?_
    have he : ∃ q, h'.get? a = some q := let ⟨q, _, _, hq, _⟩ := dd'; ⟨q, hq⟩
    exact zfs I (by rw [e]; exact True.intro) hs he (zha hl hd (rel.put k rv) dd')
  · subst ey eH
    cases (show u = Value.ref b from ry)
    obtain ⟨z, hd, xs, rel, dd⟩ := zm7 I.hok e
    have hz : xs.length ≤ sizeLine := by rw [← Paired.length rel]; exact z
    have hl : (putK kvs k v).length ≤ sizeLine := by have := zaX kvs k v; omega
    refine wpAny_setItem_heap (hsz := hz) (tupleKind_room_in1 hu) (zg8 I.hok eb) dd fun h' dd' hs => h _ ?_
    obtain ⟨q, es, ep, hq, h2, h3, h4, _, h5⟩ := dd'
    refine zfs I (by rw [e]; exact True.intro) hs ⟨q, hq⟩ ⟨hl, hd, _, (rel.put k eb rv).keeps fun c ys ec => ?_, q, es, ep, hq, h2, h3, h4, h5⟩
    rw [zq (zmZ ec e (fun z => nomatch z))]
    exact ec
end
section
variable {X : Cx} {pins : List (Addr × Obj)} {σ : St} {H : Hp} {s : Shared} {a : Addr} {kvs : List (Key × V)} {k : Key} {u : Value} {A : Around} {E : Value → Shared → Prop}
end
theorem zft {X : Cx} {pins : List (Addr × Obj)} {σ : St} {H : Hp} {s : Shared} {a : Addr} {y : V} {o : Option V} (I : Inv X pins σ H s) (g : DGet H a y o) : s.TypeIs (.ref a) "dict" := by
  rcases g with ⟨kvs, k, e, _, _⟩ | ⟨kvs, k, b, e, _, _, _⟩
  · obtain ⟨_, _, vs, _, dd⟩ := zdi I.hok e
    exact dd.typeIs
  · obtain ⟨_, _, xs, _, dd⟩ := zkg I.hok e
    exact dd.typeIs
def sDPut (td ty tv : TE) : TS := fun D σ H => tv σ H fun v H1 => td σ H1 fun x H2 => ty σ H2 fun y H3 => ∃ a H4, x = .ref a ∧ DPut H3 a y v H4 ∧ D.nx σ H4
section
variable {X : Cx} {o i e value : Expr} {pos pos' tpos : Pos} {td ty tv : TE}
theorem zkh (hu : X.A.units + 1 < cLine) (ho : PE X o td) (hi : PE X i ty) (hv : PE X value tv) (hs : swapsWith value (some (.Subscript o i pos')) pos.line X.env = pure false) :
    PS X (.Assign [.Subscript o i pos'] value pos) (sDPut td ty tv) := by
  intro pins s σ H D I h
  refine wpAny_Assign_Subscript (thn (hv pins s σ H _ I h) fun r s1 ⟨v, H1, I1, rv, q1⟩ => thn (ho pins s1 σ H1 _ I1 q1) fun u s2 ⟨x, H2, I2, rx, q2⟩ => thn (hi pins s2 σ H2 _ I2 q2) fun iv s3 ⟨y, H3, I3, ry, a, H4, ex, g, q3⟩ => ?_) hs
  subst ex
  obtain rfl : u = Value.ref a := rx
  exact zhb hu I3 g ry rv fun s4 I4 => ⟨σ, H4, I4, q3⟩
end
theorem zfT {P : Program} {w : World} {H : Hp} (h : Heap) (hb : sysModules < h.objs.size) : ObjOk P w H (h.push { cls := .type "dict", data := .dict #[] }) h.objs.size (.dK []) :=
  ⟨Nat.zero_le _, beq_eq_false_iff_ne.mpr (Ne.symm (Nat.ne_of_lt hb)), [], .nil, Heap.DictOf.new h⟩
def tDNewK : TE := fun _ H Q => ∀ p, H p = none → Q (.ref p) (upd H p (.dK []))
section
variable {X : Cx} {pos : Pos}
theorem ziw : PE X (.Dict [] [] pos) tDNewK := fun pins s σ H Q I h =>
  wpAny_Dict_empty ⟨.ref s.heap.objs.size, _, I.laid (a := s.heap.objs.size) (o := .dK []) (t' := s.toks) (fun _ _ q => Heap.get?_push_of_some _ q) (Nat.le_refl _) (zfT s.heap I.big), rfl, h _ (I.hok.fresh (Nat.le_refl _))⟩
end
def tPairs : List (TE × TE) → St → Hp → (List (V × V) → Hp → Prop) → Prop
  | [], _, H, Q => Q [] H
  | (tk, tv) :: r, σ, H, Q => tk σ H fun x H1 => tv σ H1 fun y H2 => tPairs r σ H2 fun ps H3 => Q ((x, y) :: ps) H3
abbrev VV : List (V × V) → List (Value × Value) → Prop := Paired fun p q => RelV p.1 q.1 ∧ RelV p.2 q.2
def PPs (X : Cx) (pos : Pos) (keys : List (Option Expr)) (values : List Expr) (trs : List (TE × TE)) : Prop :=
  ∀ (pins : List (Addr × Obj)) (s : Shared) (σ : St) (H : Hp) (Q : List (V × V) → Hp → Prop), Inv X pins σ H s → tPairs trs σ H Q →
    wpAny (model X.prog X.w) X.A (evalPairs (pairTrees keys values X.env pos)) (fun vs s' => ∃ ps H', Inv X pins σ H' s' ∧ VV ps vs ∧ Q ps H') X.xe s
theorem zki {X : Cx} {pos : Pos} : PPs X pos [] [] [] := fun pins s σ H Q I h => pairTrees_nil_walk ⟨[], H, I, .nil, h⟩
theorem zix {X : Cx} {pos : Pos} {k v : Expr} {ks : List (Option Expr)} {vs : List Expr} {tk tv : TE} {trs : List (TE × TE)} (hk : PE X k tk) (hv : PE X v tv) (hr : PPs X pos ks vs trs) :
    PPs X pos (some k :: ks) (v :: vs) ((tk, tv) :: trs) := fun pins s σ H Q I h =>
  pairTrees_cons_walk (thn (hk pins s σ H _ I h) fun u s1 ⟨x, H1, I1, rx, q1⟩ => thn (hv pins s1 σ H1 _ I1 q1) fun w2 s2 ⟨y, H2, I2, ry, q2⟩ =>
    thn (hr pins s2 σ H2 _ I2 q2) fun ws s3 ⟨ps, H3, I3, rel, q3⟩ => ⟨(x, y) :: ps, H3, I3, .cons ⟨rx, ry⟩ rel, q3⟩)
def mergeK (kvs more : List (Key × V)) : List (Key × V) := more.foldl (fun acc kv => putK acc kv.1 kv.2) kvs
theorem KV.merge : ∀ {more : List (Key × V)} {rs : List (Key × Value)} {kvs : List (Key × V)} {vs : List (Key × Value)}, KV more rs → KV kvs vs → KV (mergeK kvs more) (merged vs rs) := by
  intro more rs kvs vs r
  unfold KV at r
  induction r generalizing kvs vs with
  | nil => intro q; exact q
  | @cons p q ps qs h t ih =>
    intro r0
    have e : KV (putK kvs p.1 p.2) (stored vs q.1 q.2) := by
      have := r0.put p.1 h.2
      rw [← h.1]; exact this
    exact ih e
theorem zcD : ∀ (more kvs : List (Key × V)), (mergeK kvs more).length ≤ kvs.length + more.length
  | [], kvs => by show kvs.length ≤ kvs.length + 0; omega
  | p :: r, kvs => by
    have h1 := zcD r (putK kvs p.1 p.2)
    have h2 := zaX kvs p.1 p.2
    show (mergeK (putK kvs p.1 p.2) r).length ≤ _
    rw [List.length_cons]; omega
theorem zd3 {P : Program} {w : World} : ∀ {kvs : List (Key × V)} {ws : List (Value × Value)}, VV (kvs.map fun kv => (kV kv.1, kv.2)) ws → ∃ rs, Carries (mixKind P w) ws rs ∧ KV kvs rs
  | [], _, r => by rw [List.map_nil] at r; cases r; exact ⟨[], True.intro, .nil⟩
  | p :: kvs, _, r => by
    rw [List.map_cons] at r
    cases r with
    | @cons a b as bs h t =>
      obtain ⟨rs, c, q⟩ := zd3 (P := P) (w := w) t
      obtain ⟨b1, b2⟩ := b
      exact ⟨(p.1, b2) :: rs, ⟨zg7 h.1, rfl, c⟩, .cons ⟨rfl, h.2⟩ q⟩
def tDisp (trs : List (TE × TE)) : TE := fun σ H Q => ∀ p, H p = none → tPairs trs σ (upd H p (.dK [])) fun ps H2 => H2 p = some (.dK []) ∧ ∃ kvs : List (Key × V), ps = kvs.map (fun kv => (kV kv.1, kv.2)) ∧ kvs.length ≤ 15 ∧ Q (.ref p) (upd H2 p (.dK (mergeK [] kvs)))
theorem zkj {X : Cx} {pos : Pos} {keys : List (Option Expr)} {values : List Expr} {trs : List (TE × TE)} (h : PPs X pos keys values trs) (hall : keys.all (·.isSome) = true) (hl : keys.length = values.length) (h0 : keys ≠ [])
    (h15 : keys.length ≤ 15) : PE X (.Dict keys values pos) (tDisp trs) := by
  intro pins s σ H Q I q
  have hn := I.hok.fresh (Nat.le_refl s.heap.objs.size)
  have I1 := I.laid (a := s.heap.objs.size) (o := .dK []) (h' := s.heap.push { cls := .type "dict", data := .dict #[] }) (t' := s.toks) (fun _ _ q => Heap.get?_push_of_some _ q) (Nat.le_refl _) (zfT s.heap I.big)
  refine wpAny_Dict_walk (knd := mixKind X.prog X.w) hall hl h0 h15 (thn (h pins _ σ _ _ I1 (q _ hn)) fun ws s2 ⟨ps, H2, I2, rel, e, kvs, ep, lk, q2⟩ => ?_)
  subst ep
  obtain ⟨rs, c, rk⟩ := zd3 (P := X.prog) (w := X.w) rel
  obtain ⟨z, hd, vs0, r0, dd⟩ := zlX I2.hok e
  cases r0
  refine ⟨rs, c, dd, fun h' dd' hs => ⟨.ref s.heap.objs.size, _, ?_, rfl, q2⟩⟩
  have hz : (mergeK [] kvs).length ≤ sizeLine := by
    have h1 := zcD kvs []
    rw [List.length_nil] at h1
    rw [sizeLine_eq]; omega
  have he : ∃ q, h'.get? s.heap.objs.size = some q := let ⟨q, _, _, hq, _⟩ := dd'; ⟨q, hq⟩
  exact zfs I2 (by rw [e]; exact True.intro) hs he (zha hz hd (rk.merge .nil) dd')
structure M1 (X : Cx) (o : Expr) (m : Str) (apos : Pos) (e : Expr) (cpos : Pos) : Prop where
  base : attributeBase o m X.env (eval o X.env) = eval o X.env
  few : ((backTo cpos (starEach [e] X.env)).all (fun x => !x.1) && (backToKw cpos (keywordEach [] X.env)).all (fun x => x.1.isSome)
    && decide (([e] : List Expr).length + ([] : List Keyword).length + (if ([] : List Keyword).isEmpty then 0 else 1) < 30)) = true
  line : (apos.endLine == cpos.line) = true
  trees : backTo cpos (starEach [e] X.env) = [(false, eval e X.env)]
structure M2 (X : Cx) (o : Expr) (m : Str) (apos : Pos) (e f : Expr) (cpos : Pos) : Prop where
  base : attributeBase o m X.env (eval o X.env) = eval o X.env
  few : ((backTo cpos (starEach [e, f] X.env)).all (fun x => !x.1) && (backToKw cpos (keywordEach [] X.env)).all (fun x => x.1.isSome)
    && decide (([e, f] : List Expr).length + ([] : List Keyword).length + (if ([] : List Keyword).isEmpty then 0 else 1) < 30)) = true
  line : (apos.endLine == cpos.line) = true
  trees : backTo cpos (starEach [e, f] X.env) = [(false, eval e X.env), (false, eval f X.env)]
section
variable {X : Cx} {pins : List (Addr × Obj)} {σ : St} {H : Hp} {s : Shared} {a : Addr} {y d : V} {u r : Value} {o : Option V} {A : Around} {E : Value → Shared → Prop}
end
section
variable {X : Cx} {o e f : Expr} {apos cpos : Pos} {td ty tx : TE}
end
section
variable {X : Cx} {pins : List (Addr × Obj)} {σ : St} {H : Hp} {s : Shared} {a : Addr} {kvs : List (Key × V)} {A : Around} {E : Value → Shared → Prop}
end
section
variable {X : Cx} {pins : List (Addr × Obj)} {σ : St} {H : Hp} {s : Shared} {a : Addr} {y : V} {u : Value} {A : Around} {E : Value → Shared → Prop}
end
end L2
namespace L2
open PySem PySem.Spec PyProof.Rows
def XO (h : Heap) (a : Addr) (C : Value) (d : Option Addr) (head : Value) : Prop :=
  ∃ oe vs, h.get? a = some oe ∧ oe.cls = C ∧ oe.dict = d ∧ oe.data = .fields vs ∧ vs.size = 6 ∧ vs[1]? = some head
def TB (h : Heap) (T : Addr) (fl : Value) : Prop := ∃ oT ts, h.get? T = some oT ∧ oT.data = .fields ts ∧ ts[3]? = some fl
theorem zdV (o : Obj) (f) : (o.mapFields f).dict = o.dict := by
  obtain ⟨c, d, dt, sl⟩ := o
  cases dt <;> rfl
theorem XO.keeps {h h' : Heap} {a : Addr} {C : Value} {d : Option Addr} {head : Value} (x : XO h a C d head) (k : ∀ o, h.get? a = some o → h'.get? a = some o) : XO h' a C d head := by
  obtain ⟨oe, vs, e, r⟩ := x
  exact ⟨oe, vs, k _ e, r⟩
theorem TB.keeps {h h' : Heap} {T : Addr} {fl : Value} (x : TB h T fl) (k : ∀ o, h.get? T = some o → h'.get? T = some o) : TB h' T fl := by
  obtain ⟨oT, ts, e, r⟩ := x
  exact ⟨oT, ts, k _ e, r⟩
theorem XO.set1 {h : Heap} {a : Addr} {C : Value} {d : Option Addr} {head : Value} (x : XO h a C d head) (u : Value) : XO (h.update a (Obj.mapFields (·.setIfInBounds 1 u))) a C d u := by
  obtain ⟨oe, vs, e, hc, hdi, hd, hz, h1⟩ := x
  have hd' := Obj.data_mapFields hd (·.setIfInBounds 1 u)
  refine ⟨_, _, Heap.get?_update_self _ e (Obj.isFreed_of_fields hd'), (Obj.cls_mapFields _ _).trans hc, (zdV _ _).trans hdi, hd', ?_, ?_⟩
  · rw [Array.size_setIfInBounds]; exact hz
  · have : 1 < vs.size := by omega
    simp [this]
theorem TB.set3 {h : Heap} {T : Addr} {fl : Value} (x : TB h T fl) (u : Value) : TB (h.update T (Obj.mapFields (·.setIfInBounds 3 u))) T u := by
  obtain ⟨oT, ts, e, hd, h3⟩ := x
  have hd' := Obj.data_mapFields hd (·.setIfInBounds 3 u)
  refine ⟨_, _, Heap.get?_update_self _ e (Obj.isFreed_of_fields hd'), hd', ?_⟩
  have : 3 < ts.size := (Array.getElem?_eq_some_iff.mp h3).1
  simp [this]
section
variable {M : Model} {A : Around} {E : Value → Shared → Prop} {s : Shared} {base : Heap} {env : Env} {outer : List Env} {L a : Addr} {C : Value} {d : Option Addr} {head : Value} {Q : Unit → Shared → Prop}
theorem zeI {b2 : Bool} (hfr : A.frames = some (env :: outer)) (hl : s.heap.FunFrames base (env :: outer)) (hf : env.frame = some L) (x : XO s.heap a C d head)
    (h : ∀ h' T, s.heap.objs.size ≤ T → XO h' a C d (.ref T) → TB h' T (rawInt L) → (∀ b o, b ≠ a → b ∉ frs (env :: outer) → s.heap.get? b = some o → h'.get? b = some o) →
      (∀ b o, b ≠ a → b ∈ frs (env :: outer) → s.heap.get? b = some o → ∃ sl, h'.get? b = some { o with slots := sl }) → Q () { s with heap := h' }) :
    wpAny M A (do let fr ← frameOf env; let pl ← entryPlaceOf L b2; let tb ← EntryCells.newEntry head fr .none (rawInt L) .none pl; setField (.ref a) 1 tb) Q E s := by
  obtain ⟨oe, vs, e, hc, hdi, hd, hz, h1⟩ := id x
  have aN : a ∉ frs (env :: outer) := fun hm => by
    obtain ⟨_, o, ho, nf⟩ := hl.mem hm
    rw [e] at ho
    cases ho
    exact nf vs hd
  refine wpAny_bind (wpAny_frameOf_fun hfr hl hf fun g1 sl1 => wpAny_bind (wpAny_entryPlaceOf fun pl ipl => ?_))
  unfold EntryCells.newEntry newFields
  refine wpAny_bind (wpAny_newObj_type ?_ (ipl.sizeOk5 _ _ _ _ _))
  have x1 : XO g1 a C d head := ⟨oe, vs, (sl1.2.1 a aN).trans e, hc, hdi, hd, hz, h1⟩
  generalize hob : ({ cls := .type "traceback", dict := none, data := .fields ([head, .ref L, .none, rawInt L, .none] ++ (if pl.isEmpty then List.replicate 6 Value.none else pl)).toArray } : Obj) = ob
  have x2 : XO (g1.push ob) a C d head := x1.keeps fun o q => Heap.get?_push_of_some _ q
  obtain ⟨oe2, vs2, e2, _, _, hd2, hz2, _⟩ := id x2
  refine wpAny_setField e2 hd2 (by omega) ?_
  have aT : g1.objs.size ≠ a := fun z => by
    obtain ⟨_, _, q, _⟩ := x1
    have := Heap.lt_size q
    rw [← z] at this
    exact Nat.lt_irrefl _ this
  have szle : s.heap.objs.size ≤ g1.objs.size := Nat.le_of_eq sl1.1.symm
  refine h _ g1.objs.size szle (x2.set1 _) ?_ (fun b o nb nf q => ?_) (fun b o nb nf q => ?_)
  · have t0 : TB (g1.push ob) g1.objs.size (rawInt L) := by
      refine ⟨ob, _, Heap.get?_push_size _ (by rw [← hob]; rfl), by rw [← hob], ?_⟩
      rcases ipl with rfl | ⟨_, _, _, _, _, _, _, rfl⟩ <;> simp
    exact t0.keeps fun o q => (Heap.get?_update_other _ _ (Ne.symm aT)).trans q
  · exact (Heap.get?_update_other _ _ (Ne.symm nb)).trans (Heap.get?_push_of_some _ ((sl1.2.1 b nf).trans q))
  · obtain ⟨sl, z⟩ := sl1.2.2 b o q
    exact ⟨sl, (Heap.get?_update_other _ _ (Ne.symm nb)).trans (Heap.get?_push_of_some _ z)⟩
theorem zkk (hfr : A.frames = some (env :: outer)) (hl : s.heap.FunFrames base (env :: outer)) (hf : env.frame = some L) (x : XO s.heap a C d head)
    (ht : head = .none ∨ ∃ T0, head = .ref T0 ∧ T0 ≠ a ∧ TB s.heap T0 .none)
    (h : ∀ h' T, s.heap.objs.size ≤ T → XO h' a C d (.ref T) → TB h' T (rawInt L) → (∀ b o, b ≠ a → .ref b ≠ head → b ∉ frs (env :: outer) → s.heap.get? b = some o → h'.get? b = some o) →
      (∀ b o, b ∈ frs (env :: outer) → s.heap.get? b = some o → ∃ sl, h'.get? b = some { o with slots := sl }) → Q () { s with heap := h' }) :
    wpAny M A (noteFrame (.ref a) env) Q E s := by
  obtain ⟨oe, vs, e, hc, hdi, hd, hz, h1⟩ := id x
  have aN : a ∉ frs (env :: outer) := fun hm => by
    obtain ⟨_, o, ho, nf⟩ := hl.mem hm
    rw [e] at ho
    cases ho
    exact nf vs hd
  unfold noteFrame
  simp only [hf]
  refine wpAny_bind (wpAny_field e hd h1 ?_)
  rcases ht with rfl | ⟨T0, rfl, nT, t0⟩
  · rw [if_neg (by decide)]
    exact zeI hfr hl hf x fun h' T k1 k2 k3 k4 k5 => h h' T k1 k2 k3 (fun b o nb _ nf q => k4 b o nb nf q) fun b o hb q => k5 b o (fun z => aN (z ▸ hb)) hb q
  · obtain ⟨oT, ts, eT, hdT, h3⟩ := id t0
    have TN : T0 ∉ frs (env :: outer) := fun hm => by
      obtain ⟨_, o, ho, nf⟩ := hl.mem hm
      rw [eT] at ho
      cases ho
      exact nf ts hdT
    rw [if_pos (show (Value.ref T0 != Value.none) = true from by simp)]
    refine wpAny_bind (wpAny_field eT hdT h3 ?_)
    rw [if_neg (show ¬ ((Value.none == rawInt L) = true) from by simp [rawInt])]
    refine wpAny_bind (wpAny_setField eT hdT (Array.getElem?_eq_some_iff.mp h3).1 ?_)
    have oth : ∀ b, b ≠ T0 → (s.heap.update T0 (Obj.mapFields (·.setIfInBounds 3 Value.none))).get? b = s.heap.get? b := fun b hb => Heap.get?_update_other _ _ (Ne.symm hb)
    refine zeI (s := { s with heap := s.heap.update T0 (Obj.mapFields (·.setIfInBounds 3 Value.none)) }) hfr (hl.of_keeps fun b o hb nf => ⟨o, (oth b fun q => ?_).trans hb, rfl⟩) hf (x.keeps fun o q => (oth a (Ne.symm nT)).trans q) fun h' T k1 k2 k3 k4 k5 =>
      h h' T (by simpa using k1) k2 k3 (fun b o nb nh nf q => k4 b o nb nf ((oth b fun z => nh (by rw [z])).trans q)) fun b o hb q => k5 b o (fun z => aN (z ▸ hb)) hb ((oth b fun z => TN (z ▸ hb)).trans q)
    rw [q, eT] at hb
    cases hb
    exact nf ts hdT
theorem zhc {T : Addr} {fl : Value} (x : XO s.heap a C d (.ref T)) (t : TB s.heap T fl) (ne : T ≠ a)
    (h : ∀ h', XO h' a C d (.ref T) → TB h' T .none → (∀ b o, b ≠ T → s.heap.get? b = some o → h'.get? b = some o) → h'.objs.size = s.heap.objs.size → Q () { s with heap := h' }) : wpAny M A (setFlight (.ref a) none) Q E s := by
  obtain ⟨oe, vs, e, _, _, hd, _, h1⟩ := id x
  obtain ⟨oT, ts, eT, hdT, h3⟩ := id t
  unfold setFlight
  refine wpAny_bind (wpAny_field e hd h1 ?_)
  rw [if_pos (show (Value.ref T != Value.none) = true from by simp)]
  refine wpAny_setField eT hdT (Array.getElem?_eq_some_iff.mp h3).1 ?_
  exact h _ (x.keeps fun o q => (Heap.get?_update_other _ _ ne).trans q) (t.set3 _) (fun b o nb q => (Heap.get?_update_other _ _ (Ne.symm nb)).trans q) (by simp)
end
end L2
namespace L2
open PySem PySem.Spec PyProof.Rows
def OwnRec (X : Cx) (pins : List (Addr × Obj)) (H : Hp) (b : Addr) : Prop :=
  H b = none ∧ X.s₀.heap.objs.size ≤ b ∧ b ≠ X.env.locals ∧ (∀ x c, X.env.cells.lookup x = some c → c ≠ b) ∧ ∀ p ∈ X.pn ++ pins, p.1 ≠ b
theorem OwnRec.new {X : Cx} {pins : List (Addr × Obj)} {σ : St} {H H' : Hp} {s : Shared} {b : Addr} (I : Inv X pins σ H s) (hb : s.heap.objs.size ≤ b) (hn : H' b = none) : OwnRec X pins H' b := by
  obtain ⟨f0, f1, f2, f3, f4, f5⟩ := I.fpOk (H' := H') hb hn
  exact ⟨hn, Nat.le_trans I.sz hb, f1, f4, f5⟩
def Fly (X : Cx) (pins : List (Addr × Obj)) (H : Hp) (h : Heap) (a C : Addr) (d : Option Addr) : Prop :=
  ∃ head, XO h a (.ref C) d head ∧ OwnRec X pins H a ∧ (head = .none ∨ ∃ T, head = .ref T ∧ T ≠ a ∧ TB h T .none ∧ OwnRec X pins H T)
def Throws (X : Cx) (E : XK) : Prop := ∀ (pins : List (Addr × Obj)) (σ : St) (H : Hp) (s : Shared) (a C : Addr) (d : Option Addr), Inv X pins σ H s → Fly X pins H s.heap a C d → E (.ref C) d H → X.xe (.ref a) s
def CXe (P : Program) (w : World) : CXT := fun outer H s E e s' => ∃ (a C T : Addr) (d : Option Addr) (H' : Hp), e = .ref a ∧ s'.os = s.os ∧ AllBare s'.gens ∧ Un (frs outer) [] H H' s.heap s'.heap ∧ HOk P w H' s'.heap ∧
  XO s'.heap a (.ref C) d (.ref T) ∧ T ≠ a ∧ TB s'.heap T .none ∧ (s.heap.objs.size ≤ a ∧ H' a = none) ∧ (s.heap.objs.size ≤ T ∧ H' T = none) ∧ E (.ref C) d H'
theorem zhd {X : Cx} {E : XK} (t : Throws X E) : Passes (CXe X.prog X.w) X E := by
  rintro pins σ H s e s' I ⟨a, C, T, d, H', rfl, os, bare, un, hok, x, ne, tb, ⟨a1, a2⟩, ⟨t1, t2⟩, q⟩
  have I' : Inv X pins σ H' s' := I.call' (ch := []) os un hok bare fun b z => absurd z (by simp)
  exact t pins σ H' s' a C d I' ⟨_, x, OwnRec.new I a1 a2, .inr ⟨T, rfl, ne, tb, OwnRec.new I t1 t2⟩⟩ q
def chOf (a : Addr) : Value → List Addr
  | .ref T0 => [a, T0]
  | _ => [a]
theorem zju (a : Addr) (v : Value) : a ∈ chOf a v := by cases v <;> simp [chOf]
theorem zjv (a T0 : Addr) : T0 ∈ chOf a (.ref T0) := by simp [chOf]
section
variable {X : Cx} {pins : List (Addr × Obj)} {σ : St} {H : Hp} {s : Shared} {a C : Addr} {d : Option Addr} {A : Around} {E : Value → Shared → Prop} {Q : Unit → Shared → Prop}
theorem zfU (I : Inv X pins σ H s) (hfr : A.frames = some X.stack) (hst : X.stack = X.env :: X.outer) (hf : X.env.frame = some X.env.locals) (F : Fly X pins H s.heap a C d)
    (h : ∀ s' T, Inv X pins σ H s' → XO s'.heap a (.ref C) d (.ref T) → T ≠ a → TB s'.heap T (rawInt X.env.locals) → OwnRec X pins H a → OwnRec X pins H T → Q () s') : wpAny (model X.prog X.w) A (noteFrame (.ref a) X.env) Q E s := by
  obtain ⟨head, x, oa, ht⟩ := F
  have hl : s.heap.FunFrames X.base (X.env :: X.outer) := hst ▸ I.stack
  have hfr' : A.frames = some (X.env :: X.outer) := hfr.trans (congrArg some hst)
  have efr : frs (X.env :: X.outer) = X.env.locals :: X.fs := by
    unfold frs
    rw [List.filterMap_cons, hf]
    rfl
  have hfree : ∀ b ∈ X.env.locals :: X.fs, H b = none := fun b hb => I.stkFree b (by rw [hst, efr]; exact hb)
  have headN : ∀ b u, H b = some u → Value.ref b ≠ head := fun b u e z => by
    rcases ht with rfl | ⟨T0, rfl, _, _, r⟩
    · cases z
    · cases z
      rw [r.1] at e
      cases e
  refine zkk hfr' hl hf x (ht.imp id fun ⟨T0, e1, e2, e3, _⟩ => ⟨T0, e1, e2, e3⟩) fun h' T k1 k2 k3 k4 k5 => ?_
  rw [efr] at k4 k5
  have oT : OwnRec X pins H T := OwnRec.new I k1 (I.hok.fresh k1)
  have neT : T ≠ a := fun z => by
    obtain ⟨_, _, e, _⟩ := x
    have := Heap.lt_size e
    rw [← z] at this
    exact Nat.lt_irrefl _ (Nat.lt_of_lt_of_le this k1)
  refine h { s with heap := h' } T ?_ k2 neT k3 oa oT
  refine I.step (g' := s.gens) (t' := s.toks) (d' := s.drawn) (ch := chOf a head) (fun b hb => ?_) (fun b o n1 n2 n3 e n => k4 b o (fun z => n3 ?_) (fun z => n3 ?_) (fun z => (List.mem_cons.mp z).elim n1 n2) e)
    (fun b o n1 n2 n3 e n => k5 b o (List.mem_cons_of_mem _ n2) e) (fun _ _ _ _ n => n) (fun b o n3 e => ?_) (fun _ _ e => e) (fun _ _ _ e => e) (fun b ps e => ⟨#[], by rw [e]; simp⟩) (fun m hm => ?_) (fun b u e => ?_) I.bare
  · have own : OwnRec X pins H b := by
      rcases ht with rfl | ⟨T0, rfl, _, _, r⟩
      · have z : b = a := by simpa [chOf] using hb
        rw [z]; exact oa
      · have z : b = a ∨ b = T0 := by simpa [chOf] using hb
        rcases z with z | z
        · rw [z]; exact oa
        · rw [z]; exact r
    exact ⟨.inr own.2.1, own.2.2.1, own.2.2.2.1, own.2.2.2.2⟩
  · rw [z]
    exact zju a head
  · rw [← z]
    exact zjv a b
  · by_cases hb : b ∈ X.env.locals :: X.fs
    · obtain ⟨sl, z⟩ := k5 b o hb e
      exact ⟨_, z⟩
    · exact ⟨o, k4 b o (fun z => n3 (by rw [z]; exact zju a head)) (fun z => n3 (by rw [← z]; exact zjv a b)) hb e⟩
  · obtain ⟨o, es, ep, ho, r⟩ := hm
    obtain ⟨sl, z⟩ := k5 _ o List.mem_cons_self ho
    exact ⟨_, es, ep, z, r⟩
  · refine (I.hok b u e).stay (fun c v hc q => ?_) (fun _ q => q) fun _ _ q => q
    have tr : ∃ u', H c = some u' := by
      rcases hc with z | z
      · exact ⟨u, by rw [z]; exact e⟩
      · exact ⟨_, z⟩
    obtain ⟨u', eu⟩ := tr
    exact k4 c v (fun z => by rw [z, oa.1] at eu; cases eu) (headN c u' eu) (fun z => by rw [hfree c z] at eu; cases eu) q
theorem zef {T : Addr} {fl : Value} (I : Inv X pins σ H s) (x : XO s.heap a (.ref C) d (.ref T)) (ne : T ≠ a) (tb : TB s.heap T fl) (oa : OwnRec X pins H a) (oT : OwnRec X pins H T)
    (h : ∀ s', Inv X pins σ H s' → XO s'.heap a (.ref C) d (.ref T) → TB s'.heap T .none → Q () s') : wpAny (model X.prog X.w) A (setFlight (.ref a) none) Q E s := by
  refine zhc x tb ne fun h' k1 k2 k3 _ => h { s with heap := h' } ?_ k1 k2
  exact I.turned (t' := s.toks) (it := T) (fun b o nb e => k3 b o nb e) oT.1 oT.2.2.1 (.inr oT.2.1) oT.2.2.2.1 oT.2.2.2.2
end
section
variable {P : Program} {w : World} {K : PySem.W.Frag} {mg : Str → Option Value} {base : Heap}
theorem Fun.okX {x qual : Str} {st : Stmt} {f : Addr} {fd : FuncData} {N ps : List Str} {k : Nat} {sp : Sp} (F : Fun K x qual st f fd) (S : FnScope N ps (defScope st)) (len : ∀ vs H Q E, sp vs H Q E → vs.length = ps.length)
    (hbody : ∀ (cdv : Value) (A : Around) (outer : List Env) (s : Shared) (H : Hp) (vs : List V) (Q : VK) (E : XK), Room k (A.deeper (envOfC qual (defScope st) s.heap.objs.size f cdv)) → sp vs H Q E →
      ∃ t, PSs (cxOf (CXe P w) P w K mg base N qual (defScope st) f cdv A outer s H E) (defBody st) t ∧ t { nx := fun _ H' => Q .non H', rt := Q } (start N vs) H) : FnOk P w K mg base (CXe P w) (k + 1) f fd ps sp := by
  obtain ⟨oc, od, kV, doc, pm, an, cdv, ct, osl, rfl, lk, hcd⟩ := F.ex
  exact zlN lk hcd S len fun A outer s H vs Q E hr hsp => hbody cdv A outer s H vs Q E hr hsp
end
end L2
namespace L2
open PySem PySem.Spec PyProof.Rows PySem.W PySem.Builtin PySem.Builtin.ObjectAttr
theorem zgz (self : Value) : refuseLoop self "__setattr__" [.type "ValueError", .type "Exception", .type "BaseException", .type "object"] = pure () := by kernel_rfl
def valLine : List Value → Bool
  | [.type a, .type b, .type c, .type d] => a == "ValueError" && b == "Exception" && c == "BaseException" && d == "object"
  | .ref _ :: r => valLine r
  | _ => false
theorem zdB (self : Value) : ∀ {l : List Value}, valLine l = true → refuseLoop self "__setattr__" l = pure ()
  | [.type a, .type b, .type c, .type d], e => by
    simp only [valLine, Bool.and_eq_true, beq_iff_eq] at e
    obtain ⟨⟨⟨rfl, rfl⟩, rfl⟩, rfl⟩ := e
    exact zgz self
  | .ref c :: r, e => by
    rw [refuseLoop_ref]
    exact zdB self (by cases r <;> first | exact e | cases e)
theorem zfV : ∀ {l : List Value}, valLine l = true → l.contains (.type "object") = true
  | [.type a, .type b, .type c, .type d], e => by
    simp only [valLine, Bool.and_eq_true, beq_iff_eq] at e
    obtain ⟨⟨⟨rfl, rfl⟩, rfl⟩, rfl⟩ := e
    simp
  | .ref c :: r, e => by
    rw [List.contains_cons, zfV (l := r) (by cases r <;> first | exact e | cases e), Bool.or_true]
def lineIn (K : Frag) (C : Addr) : Bool := (clsIn K C).any fun cd => valLine cd.mro
section
variable {prog : Program} {w : World} {A : Around} {E : Value → Shared → Prop} {K : Frag} {x C : Addr} {s : Shared} {R : Result → Shared → Prop}
theorem ziy {ox : Obj} {od : Option Obj} {name : Str} {tk : Tok} {v : Value} (X : K.In s.heap) (I : InstAt s.heap x ox C od) (hp : lineIn K C = true) (ht : takerIn K C name = some none)
    (h : ∀ b, wpAny (model prog w) A.in1 (storeInOwnDict (.ref x) (.ref C) (.str name tk) name v b)
      (fun fin s' => match fin with | .done f => R (.ok f) s' | .again c' => c'.quiet = true ∧ codeAny (model prog w) A c' R s') (fun e s' => R (.error e) s') s) :
    codeAny (model prog w) A (.call (.builtin "object.__setattr__") ⟨[.ref x, .str name tk, v], []⟩) R s := by
  have SO := PySem.F.store_object
  obtain ⟨cd, hc, ho⟩ := any_some hp
  have ne : cd.mro.isEmpty = false := by
    cases q : cd.mro with
    | nil => rw [q] at ho; cases ho
    | cons _ _ => rfl
  have isO : Looks (model prog w) s.heap (isInstance (.ref x) (.type "object")) true := I.type.andThen (looks_mroIn X (by unfold mroIn; rw [hc, Option.bind_some, if_neg (by rw [ne]; decide), zfV ho]))
  refine codeAny_call_builtin SO.slot.plain SO.entry (@check_slot (model prog w) _ _ s "object.__setattr__" "object" "__setattr__" (.ref x) [.str name tk, v] [] _ SO.kind SO.split isO (SO.args (.ref x) (.str name tk) v) ?_)
  obtain ⟨attr, ha, hr⟩ := Option.bind_eq_some_iff.mp ht
  have mr : Looks (model prog w) s.heap (mroOf (.ref C)) cd.mro := (looks_clsIn X hc).andThen .now
  have tk0 : Looks (model prog w) s.heap (storeTaker? attr) none := by
    cases attr with
    | none => exact .now
    | some a =>
      obtain ⟨b, hb, e⟩ := Option.map_eq_some_iff.mp hr
      refine (looks_takesIn X hb).andThen ?_
      cases b with
      | true => cases e
      | false => exact .now
  rw [osa_eq, refuse_eq]
  refine wpAny_bind (wpAny_bind (I.type.here (wpAny_bind (mr.here ?_))))
  rw [zdB _ ho]
  refine wpAny_pure (wpAny_bind (I.type.here (wpAny_bind ((looks_findIn X ha).here (wpAny_bind (tk0.here ?_))))))
  exact h _
theorem zkl {t : Addr} {name : Str} {v : Value} {Q : Unit → Shared → Prop} (X : K.In s.heap) (he : s.heap.get? x = some { cls := .ref C, data := .fields #[.ref t, .none, .none, .none, .bool false, .none] })
    (hs : findIn K (.ref C) "__setattr__" = some (some (.builtin "object.__setattr__"))) (hp : lineIn K C = true) (ht : takerIn K C name = some none) (hh : hasDictIn K C = true)
    (h : ∀ h', h'.get? x = some { cls := .ref C, dict := some s.heap.objs.size, data := .fields #[.ref t, .none, .none, .none, .bool false, .none] } → h'.Ns1 s.heap.objs.size (fun y => if y = name then some v else none) →
      (∀ b o, b ≠ x → s.heap.get? b = some o → h'.get? b = some o) → ∀ tk, Q () { s with heap := h', toks := tk }) : wpAny (model prog w) A (setAttr (.ref x) name v) Q E s := by
  have J : InstAt s.heap x { cls := .ref C, data := .fields #[.ref t, .none, .none, .none, .bool false, .none] } C none := ⟨he, rfl, rfl, trivial⟩
  refine set_plain X J hs (ziy (s := { s with toks := s.toks + 1 }) X J hp ht fun b => ?_)
  obtain ⟨cd, hc, hd'⟩ := any_some hh
  have xl := Heap.lt_size he
  refine wpAny_bind (wpAny_pure (wpAny_bind (wpAny_bind (wpAny_loadPart he (wpAny_bind (Looks.here (s := { s with toks := s.toks + 1 }) (looks_clsIn X hc) ?_))))))
  rw [hd']
  show wpAny (model prog w) A.in1 (do
    let d ← alloc { cls := .type "dict", data := .dict #[] }
    update x fun o => { o with dict := some d }
    dictMade (.ref C) x d) _ _ _
  refine wpAny_bind (wpAny_alloc (wpAny_bind (wpAny_update (Heap.get?_push_of_some _ he) ?_)))
  refine wpAny_pure (a := some s.heap.objs.size) (wpAny_bind (wpAny_pure (wpAny_bind ?_)))
  have xn : s.heap.objs.size ≠ x := Nat.ne_of_gt xl
  have ex : ((s.heap.push { cls := .type "dict", data := .dict #[] }).update x fun o => { o with dict := some s.heap.objs.size }).get? x = some { cls := .ref C, dict := some s.heap.objs.size, data := .fields #[.ref t, .none, .none, .none, .bool false, .none] } :=
    Heap.get?_update_self _ (Heap.get?_push_of_some _ he) rfl
  have ed : ((s.heap.push { cls := .type "dict", data := .dict #[] }).update x fun o => { o with dict := some s.heap.objs.size }).get? s.heap.objs.size = some { cls := .type "dict", data := .dict #[] } :=
    (Heap.get?_update_other _ _ (Ne.symm xn)).trans (Heap.get?_push_size _ rfl)
  have en : ((s.heap.push { cls := .type "dict", data := .dict #[] }).update x fun o => { o with dict := some s.heap.objs.size }).Ns1 s.heap.objs.size (fun _ => none) :=
    Heap.Ns1.of_empty ⟨_, #[], _, ed, rfl, (fun e he => absurd he (by simp)), fun _ => rfl⟩
  refine wpAny_nsSet1 (s := { s with heap := (s.heap.push { cls := .type "dict", data := .dict #[] }).update x fun o => { o with dict := some s.heap.objs.size }, toks := s.toks + 1 }) en fun h' hn2 hs2 => ?_
  obtain ⟨oD, esD, epD, hoD, hdD, hcD⟩ := hn2.count (PySem.Within.cons (ns := []) name v fun y hy => absurd rfl hy)
  refine wpAny_bind (wpAny_lookBehind hoD (by rw [hdD]; exact pastItsLine_dict (Nat.le_trans hcD (by simp))) ?_)
  refine wpAny_pure (h h' ((hs2.2 x (Ne.symm xn)).trans ex) hn2 (fun b o nb e => (hs2.2 b (Nat.ne_of_lt (Heap.lt_size e))).trans ((Heap.get?_update_other _ _ (Ne.symm nb)).trans (Heap.get?_push_of_some _ e))) _)
end
end L2
namespace L2
open PySem PySem.Spec PyProof.Rows PySem.W PySem.Builtin PySem.Builtin.ObjectAttr
section
variable {prog : Program} {w : World} {A : Around} {h : Heap} {g : Array GenState} {d : Drawn} {t : Nat} {os : OsState} {R : Result → Shared → Prop}
variable {nm q : Str} {C N f : Addr} {bs bm bmB : List Value} {hdct : Bool} {sn : List Str} {sub : List Value} {ab : Bool} {col : Option Bool} {dd : Option Addr} {k0 k1 k2 k3 k5 : Option Value} {B newId initId : String}
theorem ziz (F : ExcBaseFacts B newId initId bmB) (T : OwnTail h bmB bm) {mN : Str → Option Value} {rest : List Value}
    (hC : h.get? C = some (excClassObj nm q C N bs bm hdct sn sub ab col dd k0 k1 k2 k3 k5 newId)) (hn : h.Ns N mN) (hi : mN "__init__" = some (.ref f))
    (hb : ∀ self, Looks (model prog w) h (bindSpecial (.ref f) self) (.ref f, [self])) (hrest : rest.length ≤ sizeLine)
    (hq : codeAny (model prog w) (A.under (.builtin "type.__call__" ⟨.ref C :: rest, []⟩)) (.call (.ref f) ⟨.ref (h.objs.size + 1) :: rest, []⟩) (InitBack (h.objs.size + 1) R)
      ⟨(h.push { cls := .type "tuple", data := .seq rest.toArray }).push { cls := .ref C, data := .fields #[.ref h.objs.size, .none, .none, .none, .bool false, .none] }, g, d, t, os⟩) :
    codeAny (model prog w) A (.call (.ref C) ⟨rest, []⟩) R ⟨h, g, d, t, os⟩ := by
  have u1 := tc_lookup
  have u2 := tc_bind (.ref C)
  have hT : (⟨h, g, d, t, os⟩ : Shared).TypeIs (.ref C) "type" := ⟨_, hC, rfl⟩
  refine codeAny_of_tree ?_
  show wpAny _ _ (callAny (.ref C) _) _ _ _
  repeat (any_goals (first | assumption | with_reducible refine wpAny_loadPart_at hC ?_ | wp_step))
  refine ⟨rfl, codeAny_call_builtin_at (Code.quiet_builtin _ (by decide +kernel)) entry_typeCall (wpAny_check_type_call_sub hC ?_)⟩
  repeat (first | with_reducible refine wpAny_loadPart_at hC ?_ | with_reducible refine wpAny_madeBy_exc hC ?_ | wp_step)
  refine codeAny_call_builtin_code (Code.quiet_builtin _ F.quiet) (wpAny_check_new_subT F T hC (codeAny_exc_new_subT F T hC ?_ hrest))
  change wpAny (model prog w) (A.under (.builtin "type.__call__" ⟨.ref C :: rest, []⟩)) _ _ _ ⟨(h.push { cls := .type "tuple", data := .seq rest.toArray }).push { cls := .ref C, data := .fields #[.ref h.objs.size, .none, .none, .none, .bool false, .none] }, g, d, t, os⟩
  generalize hg2 : (h.push { cls := .type "tuple", data := .seq rest.toArray }).push { cls := .ref C, data := .fields #[.ref h.objs.size, .none, .none, .none, .bool false, .none] } = h2 at hq ⊢
  have kp : ∀ b o, h.get? b = some o → h2.get? b = some o := fun b o e => hg2 ▸ Heap.get?_push_of_some _ (Heap.get?_push_of_some _ e)
  have gx : h2.get? (h.objs.size + 1) = some { cls := .ref C, data := .fields #[.ref h.objs.size, .none, .none, .none, .bool false, .none] } := by
    rw [← hg2]
    heap_get
  have C2 := kp _ _ hC
  have T2 := T.keeps kp
  have n2 := hn.keeps kp
  have cC : (Value.ref C :: bm).contains (.ref C) = true := by simp
  unfold isInstance
  repeat (first | with_reducible refine wpAny_loadPart_at gx ?_ | (with_reducible refine wpAny_isSubtype_exc C2 ?_; rw [cC]) | wp_step)
  show wpAny _ _ (typeLookup (.ref C) _) _ _ _
  refine wpAny_typeLookup_tail C2 n2 T2 F.mroIs F.init.lookup ?_
  rw [hi]
  refine wpAny_holding (wpAny_bind (((hb _).keeps kp).here (s := ⟨h2, g, d, t, os⟩) (wpAny_bind (wpAny_call (codeAny_mono hq fun r s' z => ?_)))))
  cases r with
  | error e => exact z
  | ok fl =>
    cases fl with
    | ret v =>
      obtain ⟨rfl, z⟩ := z
      exact wpAny_pure (wpAny_pure z)
    | next => exact z.elim
    | brk => exact z.elim
    | cont => exact z.elim
end
def exO (C t : Addr) (d : Option Addr) (a : Addr) : HO := .ext fun h => h.get? a = some { cls := .ref C, dict := d, data := .fields #[.ref t, .none, .none, .none, .bool false, .none] }
structure ExCls (K : PySem.W.Frag) (C : Addr) (f : Str) : Prop where
  sa : PySem.W.findIn K (.ref C) "__setattr__" = some (some (.builtin "object.__setattr__"))
  line : lineIn K C = true
  no : PySem.W.takerIn K C f = some none
  hd : PySem.W.hasDictIn K C = true
def sFldE (K : PySem.W.Frag) (ta tv : TE) (f : Str) : TS := fun D σ H => tv σ H fun y H1 => ta σ H1 fun x H2 => ∃ a C t, x = .ref a ∧ H2 a = some (exO C t none a) ∧ ExCls K C f ∧
  ∀ d, H2 d = none → D.nx σ (upd (upd H2 d (.xd [(f, y)])) a (exO C t (some d) a))
theorem zhe {X : Cx} {o value : Expr} {f : Str} {pos pos' : Pos} {ta tv : TE} (ha : PE X o ta) (hv : PE X value tv) (hs : swapsWith value (some (.Attribute o f pos')) pos.line X.env = pure false) : PS X (.Assign [.Attribute o f pos'] value pos) (sFldE X.K ta tv f) := by
  intro pins s σ H D I h
  refine plainObj_wpAny_Assign_Attribute (thn (hv pins s σ H _ I h) fun u s1 ⟨y, H1, I1, ry, q⟩ => thn (ha pins s1 σ H1 _ I1 q) fun ov s2 ⟨x, H2, I2, rx, a, C, t, ex, ea, c, q2⟩ => ?_) hs
  subst ex
  obtain rfl : ov = Value.ref a := rx
  have he : s2.heap.get? a = some { cls := .ref C, dict := none, data := .fields #[.ref t, .none, .none, .none, .bool false, .none] } := (I2.hok a _ ea).1
  refine zkl I2.kIn he c.sa c.line c.no c.hd fun h' g1 g2 g3 tk => ?_
  have fr : H2 s2.heap.objs.size = none := I2.hok.fresh (Nat.le_refl _)
  have na : a ≠ s2.heap.objs.size := Nat.ne_of_lt (Heap.lt_size he)
  refine ⟨σ, _, ?_, q2 s2.heap.objs.size fr⟩
  have old : ∀ b o, s2.heap.get? b = some o → b ≠ s2.heap.objs.size := fun b o e => Nat.ne_of_lt (Heap.lt_size e)
  have ne_a : ∀ b, H2 b = none → b ≠ a := fun b n z => by rw [z, ea] at n; cases n
  have upEq : ∀ b, b ≠ a → b ≠ s2.heap.objs.size → (upd (upd H2 s2.heap.objs.size (.xd [(f, y)])) a (exO C t (some s2.heap.objs.size) a)) b = H2 b := fun b n1 n2 => by rw [zq n1, zq n2]
  have isN : ∀ b u, H2 b = some u → b ≠ s2.heap.objs.size := fun b u e z => by rw [z, fr] at e; cases e
  refine I2.un (t' := tk) ⟨fun b o e n _ _ => g3 b o (ne_a b n) e, fun b o e n _ _ => ⟨o.slots, g3 b o (ne_a b n) e⟩, fun b o e n _ => by rw [upEq b (ne_a b n) (old b o e)]; exact n, fun b o e _ => ?_, fun b xs e => ?_, fun b o u e => ?_, fun b ps e => ?_⟩ fun b uo e => ?_
  · by_cases z : b = a
    · exact ⟨_, z ▸ g1⟩
    · exact ⟨o, g3 b o z e⟩
  · have z : b ≠ a := fun z => by rw [z, ea] at e; cases e
    rw [upEq b z (isN b _ e)]; exact e
  · have z : b ≠ a := fun z => by rw [z, ea] at e; cases e
    rw [upEq b z (isN b _ e)]; exact e
  · have z : b ≠ a := fun z => by rw [z, ea] at e; cases e
    exact ⟨#[], by rw [upEq b z (isN b _ e), e]; simp⟩
  · by_cases z : b = a
    · rw [z] at e ⊢
      rw [zu] at e
      cases e
      exact ⟨g1, ⟨_, g1⟩, fun h1 h2 p k => k _ p⟩
    · rw [zq z] at e
      by_cases z2 : b = s2.heap.objs.size
      · rw [z2] at e ⊢
        rw [zu] at e
        cases e
        refine ⟨_, g2, fun n => ?_⟩
        show RelO (List.lookup n [(f, y)]) (if n = f then some u else none)
        rw [List.lookup_cons]
        by_cases w' : n = f
        · rw [if_pos w', w', beq_self_eq_true]
          exact ry
        · rw [if_neg w', beq_eq_false_iff_ne.mpr w']
          exact True.intro
      · rw [zq z2] at e
        refine (I2.hok b uo e).stay (fun c v hc w' => g3 c v ?_ w') (fun c w' => ?_) fun c xs w' => ?_
        · rcases hc with w2 | w2
          · rw [w2]; exact z
          · intro w3
            rw [w3, ea] at w2
            cases w2
        · have n1 : c ≠ a := fun w3 => by rw [w3, ea] at w'; cases w'
          rw [upEq c n1 (isN c _ w')]; exact w'
        · have n1 : c ≠ a := fun w3 => by rw [w3, ea] at w'; cases w'
          rw [upEq c n1 (isN c _ w')]; exact w'
end L2
namespace L2
open PySem PySem.Spec PyProof.Rows PySem.W PySem.Builtin PySem.Builtin.ObjectAttr
abbrev veLine : List Value := [.type "ValueError", .type "Exception", .type "BaseException", .type "object"]
theorem zgA {K : Frag} {h : Heap} {N : Addr} {mN : Str → Option Value} {n : Str} {v : Value} (X : K.In h) (G : h.Ns N mN) (e : nsIn K N n = some (some v)) : mN n = some v := by
  obtain ⟨o, es, ep, ho, hd, _, hf⟩ := G
  unfold nsIn at e
  split at e
  · rename_i q
    have := X _ _ q
    rw [ho] at this
    cases this
    cases hd
    split at e
    · rename_i he
      cases e
      rw [← hf]
      unfold nsFind findBy
      rw [← Array.find?_toList, he]
      rfl
    · split at e <;> cases e
  · cases e
structure ExOf (K : Frag) (C : Addr) : Prop where
  ob : ∃ nm q N bs bm hdct sn sub ab col dd k0 k1 k2 k3 k5, K.lookup C = some (excClassObj nm q C N bs bm hdct sn sub ab col dd k0 k1 k2 k3 k5 "ValueError.__new__") ∧ tailIn K veLine bm = true ∧ nsOkIn K N = true
  kp : keepIn K (.ref C) = true
structure ExMk (K : Frag) (C f : Addr) : Prop where
  ob : ∃ nm q N bs bm hdct sn sub ab col dd k0 k1 k2 k3 k5, K.lookup C = some (excClassObj nm q C N bs bm hdct sn sub ab col dd k0 k1 k2 k3 k5 "ValueError.__new__") ∧ tailIn K veLine bm = true ∧ nsOkIn K N = true ∧ nsIn K N "__init__" = some (some (.ref f))
  fn : isFn K (.ref f) = true
  kp : keepIn K (.ref C) = true
theorem ExMk.of {K : Frag} {C f : Addr} (x : ExMk K C f) : ExOf K C := by
  obtain ⟨⟨nm, q, N, bs, bm, hdct, sn, sub, ab, col, dd, k0, k1, k2, k3, k5, a, b, c, _⟩, _, k⟩ := x
  exact ⟨⟨nm, q, N, bs, bm, hdct, sn, sub, ab, col, dd, k0, k1, k2, k3, k5, a, b, c⟩, k⟩
def del (H : Hp) (a : Addr) : Hp := fun b => if b = a then none else H b
theorem zeg {H : Hp} {a : Addr} : del H a a = none := if_pos rfl
theorem zdC {H : Hp} {a b : Addr} (h : b ≠ a) : del H a b = H b := if_neg h
theorem zkm {H : Hp} {a : Addr} {o : HO} (h : H a = none) : del (upd H a o) a = H := by
  funext b
  by_cases z : b = a
  · rw [z, zeg, h]
  · rw [zdC z, zq z]
theorem ziA {H : Hp} {a b : Addr} {o o' : HO} (n : a ≠ b) : upd (upd H a o) b o' = upd (upd H b o') a o := by
  funext c
  by_cases z : c = a
  · rw [z, zq n, zu, zu]
  · by_cases z2 : c = b
    · rw [z2, zu, zq (Ne.symm n), zu]
    · rw [zq z2, zq z, zq z, zq z2]
theorem Inv.drop {X : Cx} {pins : List (Addr × Obj)} {σ : St} {H : Hp} {s : Shared} {a : Addr} {φ : Heap → Prop} (I : Inv X pins σ H s) (ha : H a = some (.ext φ)) : Inv X pins σ (del H a) s := by
  have ne : ∀ b u, H b = some u → (∀ φ, u ≠ .ext φ) → b ≠ a := fun b u e n z => by
    rw [z, ha] at e
    cases e
    exact n _ rfl
  have t : Inv X pins σ (del H a) { s with heap := s.heap, toks := s.toks } := I.un ⟨fun b o e _ _ _ => e, fun b o e _ _ _ => ⟨o.slots, e⟩, fun b o e n _ => ?_, fun b o e _ => ⟨o, e⟩, fun b xs e => ?_, fun b o u e => ?_, fun b ps e => ?_⟩ fun b u e => ?_
  · exact t
  · unfold del
    split <;> first | rfl | exact n
  · rw [zdC (ne b _ e fun _ z => by cases z)]; exact e
  · rw [zdC (ne b _ e fun _ z => by cases z)]; exact e
  · exact ⟨#[], by rw [zdC (ne b _ e fun _ z => by cases z), e]; simp⟩
  · have z : b ≠ a := fun z => by rw [z, zeg] at e; cases e
    rw [zdC z] at e
    refine (I.hok b u e).stay (fun _ _ _ q => q) (fun c q => ?_) fun c xs q => ?_
    · rw [zdC (ne c _ q fun _ z => by cases z)]; exact q
    · rw [zdC (ne c _ q fun _ z => by cases z)]; exact q
section
variable {M : Model} {A : Around} {E : Value → Shared → Prop} {env : Env} {s : Shared}
theorem zgB {K : Frag} {x : Sem Value} {Q : Flow → Shared → Prop} (hh : A.handled = none)
    (h : wpAny M A x (fun v s₁ => ∃ e C t d, v = .ref e ∧ K.In s₁.heap ∧ ExOf K C ∧ s₁.heap.get? e = some { cls := .ref C, dict := d, data := .fields #[.ref t, .none, .none, .none, .bool false, .none] } ∧ E (.ref e) s₁) E s) : wpAny M A (raiseStmt env (some x) none) Q E s := by
  unfold raiseStmt
  refine wpAny_bind (wpAny_mono h (fun v s₁ h₁ => ?_) fun _ _ x => x)
  obtain ⟨e, C, tt, dx, rfl, kin, ⟨⟨nm, q, N, bs, bm, hdct, sn, sub, ab, col, dd, k0, k1, k2, k3, k5, hC, ht, _⟩, _⟩, he, hE⟩ := h₁
  have hC := kin _ _ hC
  have hbase : bm.contains (.type "BaseException") = true := (tail_of_in kin ht).hasType (by decide)
  have hcB : (Value.ref C :: bm).contains (.type "BaseException") = true := by rw [List.contains_cons, hbase, Bool.or_true]
  obtain ⟨hp, g, d, tk, os⟩ := s₁
  repeat (first | with_reducible refine wpAny_loadPart_at he ?_ | with_reducible refine wpAny_loadPart_at hC ?_ | (with_reducible refine wpAny_isSubtype_exc hC ?_; rw [hcB]) | wp_step)
  exact wpAny_raiseNew_none hh hE
end
section
variable {X : Cx} {CX : CXT} {k : Nat} {f C : Addr} {fd : FuncData} {ps : List Str} {sp : Sp} {E : XK}
theorem zgC {pins : List (Addr × Obj)} {σ : St} {H : Hp} {s : Shared} {Q : VK} {us : List Value} {vs : List V} (M : ExMk X.K C f) (F : FnOk X.prog X.w X.K X.mg X.base CX k f fd ps sp) (hr : Room (k + 1) X.A) (hb : Binds X.K fd ps [])
    (hx : Passes CX X E) (I : Inv X pins σ H s) (r : Vals vs us) (hz : us.length ≤ sizeLine)
    (h : ∀ x t, OwnRec X pins H x → sp (.ref x :: vs) (upd H x (exO C t none x)) (fun v H2 => v = .non ∧ Q (.ref x) H2) E) :
    wpAny (model X.prog X.w) X.A (call (.ref C) us) (EP X pins σ Q) X.xe s := by
  obtain ⟨⟨nm, q, N, bs, bm, hdct, sn, sub, ab, col, dd, k0, k1, k2, k3, k5, hC, ht, hok, hi⟩, hfn, _⟩ := M
  have szl : s.heap.objs.size ≤ s.heap.objs.size + 1 := Nat.le_succ _
  have fr1 : H (s.heap.objs.size + 1) = none := I.hok.fresh szl
  have hq := h (s.heap.objs.size + 1) s.heap.objs.size (OwnRec.new I szl fr1)
  let o1 : Obj := { cls := .type "tuple", data := .seq us.toArray }
  let o2 : Obj := { cls := .ref C, data := .fields #[.ref s.heap.objs.size, .none, .none, .none, .bool false, .none] }
  have e2 : ((s.heap.push o1).push o2).get? (s.heap.objs.size + 1) = some o2 := by
    have := Heap.get?_push_size (s.heap.push o1) (o := o2) rfl
    rwa [Heap.size_push] at this
  have I1 : Inv X pins σ H { s with heap := s.heap.push o1, toks := s.toks } := I.kept fun b u q => Heap.get?_push_of_some _ q
  have I2 : Inv X pins σ (upd H (s.heap.objs.size + 1) (exO C s.heap.objs.size none (s.heap.objs.size + 1))) { s with heap := (s.heap.push o1).push o2 } :=
    I1.laid (a := s.heap.objs.size + 1) (o := exO C s.heap.objs.size none (s.heap.objs.size + 1)) (t' := s.toks) (fun b u q => Heap.get?_push_of_some _ q) (Nat.le_of_eq (Heap.size_push _ _)) ⟨e2, ⟨_, e2⟩, fun h1 h2 p k => k _ p⟩
  have r2 : Vals (V.ref (s.heap.objs.size + 1) :: vs) (Value.ref (s.heap.objs.size + 1) :: us) := .cons rfl r
  have hl : (Value.ref (s.heap.objs.size + 1) :: us ++ []).length = ps.length := by
    have e := r2.length
    rw [F.len _ _ _ _ hq] at e
    rw [List.append_nil]
    exact e.symm
  have hbd := hb { s with heap := (s.heap.push o1).push o2 } (Value.ref (s.heap.objs.size + 1) :: us) I2.kIn hl
  rw [List.append_nil] at hbd
  obtain ⟨hp, g, d, tk, os⟩ := s
  refine wpAny_call (ziz (f := f) PySem.F.excBase_ValueError (tail_of_in I.kIn ht) (I.kIn _ _ hC) (.of_isNs (isNs_of_in I.kIn hok)) (zgA I.kIn (.of_isNs (isNs_of_in I.kIn hok)) hi)
    (fun self => bind_fn I.kIn self (beq_iff_eq.mp hfn)) hz (codeAny_mono (F.run _ X.stack _ _ ⟨Value.ref (hp.objs.size + 1) :: us, []⟩ (Value.ref (hp.objs.size + 1) :: us) _ _ E (hr.make C us [])
    (I2.env0.make C us []) hbd r2 hq) fun r s' hq' => ?_))
  cases r with
  | error e => exact hx pins σ _ _ e s' I2 hq'
  | ok fl =>
    cases fl with
    | ret u =>
      obtain ⟨v, H', I3, rv, ev, q3⟩ := I2.after hq'
      subst ev
      exact ⟨rv, ⟨V.ref (hp.objs.size + 1), H', I3, rfl, q3⟩⟩
    | next => exact False.elim hq'
    | brk => exact False.elim hq'
    | cont => exact False.elim hq'
def zlY (C : Addr) (f : Str) : Sp := fun vs H Q _ => ∃ a t y, vs = [.ref a, y] ∧ H a = some (exO C t none a) ∧ ∀ d, H d = none → Q .non (upd (upd H d (.xd [(f, y)])) a (exO C t (some d) a))
def zkn (C : Addr) (f : Str) (te : TE) (Er : XK) : TS := fun _ σ H => te σ H fun y H1 => ∀ d, H1 d = none → Er (.ref C) (some d) (upd H1 d (.xd [(f, y)]))
theorem zhf {x fld : Str} {e : Expr} {te : TE} {np cpos pos : Pos} {Er : XK} (he : PE X e te) (M : ExMk X.K C f) (F : FnOk X.prog X.w X.K X.mg X.base CX k f fd ps (zlY C fld)) (hr : Room (k + 1) X.A) (hg : Gl X x) (hm : X.mg x = some (.ref C))
    (hb : Binds X.K fd ps []) (hx : Passes CX X Er) (ht : Throws X Er) (hc : X.calm = true) (hdb : (x == ("__debug__" : Str)) = false := by decide)
    (hs : starEach [e] X.env = (false, eval e X.env) :: starEach [] X.env := by rfl) : PS X (.Raise (some (.Call (.Name x np) [e] [] cpos)) none pos) (zkn C fld te Er) := by
  intro pins s σ H D I h
  rw [arm_exec_Raise]
  refine wpAny_bind (wpAny_standAt ?_)
  refine zgB (K := X.K) (I.ok.hd hc) ?_
  refine wpAny_bind (thn (Q := EP X pins σ fun v H2 => ∃ a t d, v = .ref a ∧ OwnRec X pins (del H2 a) a ∧ H2 a = some (exO C t (some d) a) ∧ Er (.ref C) (some d) (del H2 a)) ?_ fun u s1 ⟨v, H2, I2, rv, a, t, d, ev, ow, ha, q⟩ => wpAny_bind (wpAny_standAt (wpAny_pure ?_)))
  · refine wpAny_Call_Name_kw (zdt I hg hm ?_ hdb)
    refine PySem.W.callWith_K (h₀ := X.base) I.ok.mod.kin M.kp (spliced_more (thn (he pins s σ H _ I h) fun u s1 ⟨y, H1, I1, ry, q⟩ => ?_) hs) hs rfl
    refine spliced_none ⟨I1.kIn, ?_⟩
    refine zgC (vs := [y]) M F hr hb hx I1 (.cons ry .nil) (show 1 ≤ sizeLine by decide) fun a t ow => ⟨a, t, y, rfl, zu, fun d hd => ⟨rfl, a, t, d, rfl, ?_, zu, ?_⟩⟩
    · exact ⟨zeg, ow.2⟩
    · have n : d ≠ a := fun z => by rw [z, zu] at hd; cases hd
      rw [zq n] at hd
      have e1 : del (upd (upd (upd H1 a (exO C t none a)) d (.xd [(fld, y)])) a (exO C t (some d) a)) a = upd H1 d (.xd [(fld, y)]) := by
        rw [ziA (Ne.symm n), zjX]
        exact zkm (by rw [zq (Ne.symm n)]; exact ow.1)
      rw [e1]
      exact q d hd
  · subst ev
    obtain rfl : u = Value.ref a := rv
    have he : s1.heap.get? a = some { cls := .ref C, dict := some d, data := .fields #[.ref t, .none, .none, .none, .bool false, .none] } := (I2.hok a _ ha).1
    exact ⟨a, C, t, some d, rfl, I2.kIn, M.of, he, ht pins σ _ s1 a C (some d) (Inv.drop I2 ha) ⟨.none, ⟨_, _, he, rfl, rfl, rfl, rfl, rfl⟩, ow, .inl rfl⟩ q⟩
end
end L2
namespace L2
open PySem PySem.Spec PyProof.Rows PySem.W PySem.Builtin PySem.Builtin.ObjectAttr
def XP (X : Cx) (pins : List (Addr × Obj)) (σ : St) (E : XK) (u : Value) (s' : Shared) : Prop := ∃ (a C : Addr) (d : Option Addr) (H' : Hp), u = .ref a ∧ Inv X pins σ H' s' ∧ Fly X pins H' s'.heap a C d ∧ E (.ref C) d H'
abbrev TX := St → Hp → VK → XK → Prop
def PX (X : Cx) (e : Expr) (t : TX) : Prop :=
  ∀ (pins : List (Addr × Obj)) (s : Shared) (σ : St) (H : Hp) (Q : VK) (E : XK), Inv X pins σ H s → t σ H Q E → wpAny (model X.prog X.w) X.A (eval e X.env) (EP X pins σ Q) (XP X pins σ E) s
section
variable {X : Cx} {k : Nat} {f C : Addr} {fd : FuncData} {ps : List Str} {sp : Sp} {dvs : List V} {ds : List Value} {E : XK} {x m : Str} {p pos apos : Pos} {e o : Expr} {es : List Expr} {ta : TE} {t : TA}
theorem zko {pins : List (Addr × Obj)} {σ : St} {H : Hp} {s : Shared} {Q : VK} {us : List Value} {vs : List V} (F : FnOk X.prog X.w X.K X.mg X.base (CXe X.prog X.w) k f fd ps sp) (hr : Room k X.A) (hb : Binds X.K fd ps ds) (hd : Vals dvs ds)
    (I : Inv X pins σ H s) (r : Vals vs us) (h : sp (vs ++ dvs) H Q E) : wpAny (model X.prog X.w) X.A (call (.ref f) us) (EP X pins σ Q) (XP X pins σ E) s := by
  have r2 : Vals (vs ++ dvs) (us ++ ds) := r.append hd
  have hl : (us ++ ds).length = ps.length := by rw [← r2.length]; exact F.len _ _ _ _ h
  refine wpAny_call (codeAny_mono (F.run X.A X.stack s H ⟨us, []⟩ (us ++ ds) (vs ++ dvs) Q E hr I.env0 (hb s us I.kIn hl) r2 h) fun r s' hq => ?_)
  cases r with
  | error e =>
    obtain ⟨a, C, T, d, H', rfl, os, bare, un, hok, x, ne, tb, ⟨a1, a2⟩, ⟨t1, t2⟩, q⟩ := hq
    have I' : Inv X pins σ H' s' := I.call' (ch := []) os un hok bare fun b z => absurd z (by simp)
    exact ⟨a, C, d, H', rfl, I', ⟨_, x, OwnRec.new I a1 a2, .inr ⟨T, rfl, ne, tb, OwnRec.new I t1 t2⟩⟩, q⟩
  | ok fl =>
    cases fl with
    | ret u => exact I.after hq
    | next => exact False.elim hq
    | brk => exact False.elim hq
    | cont => exact False.elim hq
end
def exC (C : Addr) (d : Option Addr) (a : Addr) : HO := .ext fun h => ∃ T : Addr, XO h a (.ref C) d (.ref T)
abbrev Cx.caught (X : Cx) (a : Addr) : Cx := { X with A := X.A.mark (some (.ref a)), calm := false, xe := fun _ _ => False }
section
variable {X : Cx} {pins : List (Addr × Obj)} {σ : St} {H : Hp} {s : Shared} {a C : Addr} {d : Option Addr}
theorem Inv.caught (I : Inv X pins σ H s) (a : Addr) : Inv (X.caught a) pins σ H s :=
  ⟨⟨I.ok.mod, I.ok.kind, I.ok.glob, I.ok.blt, I.ok.above, I.ok.inj, I.ok.has, I.ok.cab, (fun z => nomatch z), I.ok.frames, I.ok.stk, I.ok.exf, I.ok.bs, I.ok.bsz, I.ok.noex, I.ok.exfs, I.ok.funs, I.ok.frf⟩, I.os, I.bare, I.base, I.loc, I.cell, I.free, I.freeC, I.pin, I.hok, I.len⟩
theorem Inv.uncaught (J : X.Ok) (I : Inv (X.caught a) pins σ H s) : Inv X pins σ H s := ⟨J, I.os, I.bare, I.base, I.loc, I.cell, I.free, I.freeC, I.pin, I.hok, I.len⟩
theorem Inv.track {o : HO} (I : Inv X pins σ H s) (ow : OwnRec X pins H a) (new : ObjOk X.prog X.w (upd H a o) s.heap a o) : Inv X pins σ (upd H a o) s := by
  have ne : ∀ b u, H b = some u → b ≠ a := fun b u e z => by rw [z, ow.1] at e; cases e
  have t := I.step (h' := s.heap) (H' := upd H a o) (g' := s.gens) (t' := s.toks) (d' := s.drawn) (ch := [a]) (fun b hb => ?_) (fun b u _ _ _ e _ => e) (fun b u _ _ _ e _ => ⟨u.slots, e⟩) (fun b u nb e n => ?_) (fun b u _ e => ⟨u, e⟩) (fun b xs e => ?_) (fun b u v e => ?_) (fun b ps e => ?_) (fun m hm => hm) (fun b u e => ?_) I.bare
  · exact t
  · have z : b = a := by simpa using hb
    rw [z]
    exact ⟨.inr ow.2.1, ow.2.2.1, ow.2.2.2.1, ow.2.2.2.2⟩
  · rw [zq (fun z => nb (by simp [z]))]; exact n
  · rw [zq (ne b _ e)]; exact e
  · rw [zq (ne b _ e)]; exact e
  · exact ⟨#[], by rw [zq (ne b _ e), e]; simp⟩
  · by_cases z : b = a
    · rw [z] at e ⊢
      rw [zu] at e
      cases e
      exact new
    · rw [zq z] at e
      exact (I.hok b u e).stay (fun _ _ _ q => q) (fun c q => by rw [zq (ne c _ q)]; exact q) fun c xs q => by rw [zq (ne c _ q)]; exact q
theorem Inv.catch {T : Addr} (I : Inv X pins σ H s) (ow : OwnRec X pins H a) (x : XO s.heap a (.ref C) d (.ref T)) : Inv X pins σ (upd H a (exC C d a)) s :=
  Inv.track I ow ⟨⟨T, x⟩, (let ⟨oe, _, e, _⟩ := x; ⟨oe, e⟩), fun h1 h2 p k => let ⟨T, z⟩ := p; ⟨T, z.keeps fun o q => k o q⟩⟩
theorem zhg {M : Model} {A : Around} {E : Value → Shared → Prop} {j : Nat} {n : Str} {pos : Pos} {Q : Unit → Shared → Prop} (I : Inv X pins σ H s) (hN : X.N.Nodup) (hj : X.N[j]? = some n) (hk : X.env.scope.names.lookup n = some .local)
    (h : ∀ s', Inv X pins (σ.set j none) H s' → Q () s') : wpAny M A (do bindName X.env n .none; unbindBehindTheSuite X.env n pos) Q E s := by
  obtain ⟨m, hn, hl⟩ := id I.loc
  have hcls : (X.env.scope.kind == .class || (X.env.scope.kind == .module && X.env.locals != X.env.globals)) = false := by rw [I.ok.kind]; rfl
  have hiσ : j < σ.length := by rw [I.len]; exact (List.getElem?_eq_some_iff.mp hj).1
  have cne := I.cne
  obtain ⟨oL, _, _, hoL, _⟩ := id hn
  refine wpAny_nameGoes_keeps hk hn hcls fun h' v hn' hs => ?_
  refine h _ ⟨I.ok, I.os, I.bare, ⟨fun b o e n hb hx => ?_, fun b o e n hb hx => ?_, I.base.free, fun b o e hx => ?_, I.base.tups, I.base.frzs, I.base.tbls⟩, ⟨_, hn', fun i y v' e1 e2 e3 => ?_⟩, fun y c e => ?_, I.free, I.freeC, fun p hp => ?_, fun b ob e => ?_, by simpa using I.len⟩
  · exact (hs.2 b (Nat.ne_of_lt (Nat.lt_of_lt_of_le (Heap.lt_size e) I.ok.above))).trans (I.base.keep b o e n hb hx)
  · obtain ⟨sl, e1⟩ := I.base.slot b o e n hb hx
    exact ⟨sl, (hs.2 b (Nat.ne_of_lt (Nat.lt_of_lt_of_le (Heap.lt_size e) I.ok.above))).trans e1⟩
  · obtain ⟨o', e1⟩ := I.base.there b o e hx
    exact ⟨o', (hs.2 b (Nat.ne_of_lt (Nat.lt_of_lt_of_le (Heap.lt_size e) I.ok.above))).trans e1⟩
  · by_cases hi : i = j
    · subst hi
      rw [List.getElem?_set_self hiσ] at e2
      cases e2
    · rw [List.getElem?_set_ne (Ne.symm hi)] at e2
      obtain ⟨u', r', q⟩ := hl i y v' e1 e2 e3
      refine ⟨u', r', ?_⟩
      rcases q with ⟨k, e⟩ | ⟨k, c, e, z⟩
      · refine .inl ⟨k, ?_⟩
        have : y ≠ n := fun e => hi (zec hN e1 (e ▸ hj))
        simp [this, e]
      · exact .inr ⟨k, c, e, z.sameBut hs (cne y c e)⟩
  · obtain ⟨w', z⟩ := I.cell y c e
    exact ⟨w', z.sameBut hs (cne y c e)⟩
  · obtain ⟨e, n, ne, nf, d⟩ := I.pin p hp
    exact ⟨(hs.2 p.1 ne).trans e, n, ne, nf, d⟩
  · refine (I.hok b ob e).stay (fun c w' hc q => (hs.2 c ?_).trans q) (fun _ q => q) fun _ _ q => q
    rintro rfl
    rcases hc with rfl | hc
    · rw [I.free] at e; cases e
    · rw [I.free] at hc; cases hc
end
end L2
namespace L2
open PySem PySem.Spec PyProof.Rows PySem.W PySem.Builtin PySem.Builtin.ObjectAttr
section
variable {X : Cx} {pins : List (Addr × Obj)} {σ : St} {H : Hp} {s : Shared} {a C d : Addr} {fs : List (Str × V)} {A : Around} {E : Value → Shared → Prop}
theorem zjw (I : Inv X pins σ H s) (ha : H a = some (exC C (some d) a)) (hd : H d = some (.xd fs)) : ∃ ox od, InstAt s.heap a ox C (some od) ∧ ∀ n, ∃ o, lookIn n od = some o ∧ RelO (fs.lookup n) o := by
  obtain ⟨T, oe, vs, e, hc, hdi, hdt, _⟩ := (show ObjOk X.prog X.w H s.heap a (exC C (some d) a) from I.hok a _ ha).1
  obtain ⟨mA, hn, r⟩ := (show ObjOk X.prog X.w H s.heap d (.xd fs) from I.hok d _ hd)
  obtain ⟨od, ho, hl⟩ := zez hn
  refine ⟨oe, od, ⟨e, hc, by unfold notCls; rw [hdt], by rw [hdi]; exact ho⟩, fun n => ⟨mA n, hl n, r n⟩⟩
end
theorem ExMk.mk' {K : Frag} {C B N f : Addr} {nm q : Str} {bs : List Value} {hdct : Bool} {sn : List Str} {sub : List Value} {ab : Bool} {col : Option Bool} {dd : Option Addr} {k0 k1 k2 k3 k5 : Option Value} {c : Value} {d : Option Addr} {es : Array DictEntry} {n : Nat} {sl : Array (Option Value)}
    (hC : K.lookup C = some (excClassObj nm q C N bs (.ref B :: veLine) hdct sn sub ab col dd k0 k1 k2 k3 k5 "ValueError.__new__")) (hB : excIn K B veLine "ValueError.__new__" = true)
    (hN : K.lookup N = some ⟨c, d, .dict es n, sl⟩) (he : (es.all fun e => match e.key with | .str _ _ => true | _ => false) = true) (hi : nsIn K N "__init__" = some (some (.ref f))) (fn : isFn K (.ref f) = true) (kp : keepIn K (.ref C) = true) : ExMk K C f := by
  refine ⟨⟨nm, q, N, bs, _, hdct, sn, sub, ab, col, dd, k0, k1, k2, k3, k5, hC, ?_, ?_, hi⟩, fn, kp⟩
  · unfold excIn at hB
    split at hB
    · rename_i dd cd sl ho
      split at hB
      · simp only [Bool.and_eq_true, beq_iff_eq, Bool.not_eq_true'] at hB
        obtain ⟨⟨_, hok⟩, hni⟩ := hB
        unfold tailIn
        dsimp only
        rw [ho]
        have t0 : tailIn K veLine veLine = true := by unfold tailIn; rw [beq_self_eq_true, Bool.true_or]
        simp only [hok, hni, beq_self_eq_true, Bool.true_and, t0, Bool.or_true]
      · cases hB
    · cases hB
  · unfold nsOkIn
    rw [hN]
    exact he
end L2
namespace L2
open PySem PySem.Spec PyProof.Rows PySem.W PySem.Builtin PySem.Builtin.ObjectAttr
def Has (X : Cx) (CX : CXT) (k : Nat) (f : Addr) (sp : Sp) : Prop := ∃ fd ps, FnOk X.prog X.w X.K X.mg X.base CX k f fd ps sp ∧ keepIn X.K (.ref f) = true ∧ Binds X.K fd ps []
def tCallV (X : Cx) (CX : CXT) (k : Nat) (E : XK) (tf : TE) (t : TA) : TE := fun σ H Q => tf σ H fun v H0 => ∃ f sp, v = .ref f ∧ Has X CX k f sp ∧ t σ H0 fun vs H1 => sp vs H1 Q E
theorem ziB {X : Cx} {CX : CXT} {k : Nat} {E : XK} {x : Str} {p pos : Pos} {e : Expr} {es : List Expr} {tf : TE} {t : TA} (hf : PE X (.Name x p) tf) (hr : Room k X.A) (hx : Passes CX X E) (ha : PA X (e :: es) t)
    (he : starEach (e :: es) X.env = (false, eval e X.env) :: starEach es X.env := by rfl) (hpl : (backTo pos (starEach es X.env)).any (·.1) = false := by rfl) : PE X (.Call (.Name x p) (e :: es) [] pos) (tCallV X CX k E tf t) := by
  intro pins s σ H Q I h
  refine wpAny_Call_Name_kw (thn (hf pins s σ H _ I h) fun u s1 ⟨v, H0, I0, rv, f, sp, ev, ⟨fd, ps, F, hk, hb⟩, q⟩ => ?_)
  subst ev
  obtain rfl : u = Value.ref f := rv
  refine PySem.W.callWith_K (h₀ := X.base) I.ok.mod.kin hk (thn (ha pos pins s1 σ H0 _ I0 q) fun us s2 ⟨vs, H1, I1, r, q1⟩ => ⟨I1.kIn, ?_⟩) he hpl
  exact zfO F hr hb .nil hx I1 r (by rw [List.append_nil]; exact q1)
section
variable {prog : Program} {w : World} {A : Around} {E : Value → Shared → Prop} {h : Heap} {g : Array GenState} {d : Drawn} {t : Nat} {os : OsState}
variable {nm q : Str} {C N : Addr} {bs bm bmB : List Value} {hdct : Bool} {sn : List Str} {sub : List Value} {ab : Bool} {col : Option Bool} {dd : Option Addr} {k0 k1 k2 k3 k5 : Option Value} {B newId initId : String}
end
def sRaise0 (C : Addr) (Er : XK) : TS := fun _ _ H => Er (.ref C) none H
end L2
namespace L2
open PySem PySem.Spec PyProof.Rows PySem.W
def Noted (X : Cx) (pins : List (Addr × Obj)) (H : Hp) (h : Heap) (a C : Addr) (d : Option Addr) : Prop :=
  ∃ T, XO h a (.ref C) d (.ref T) ∧ T ≠ a ∧ TB h T (rawInt X.env.locals) ∧ OwnRec X pins H a ∧ OwnRec X pins H T
def zm8 (X : Cx) (pins : List (Addr × Obj)) (H : Hp) (h : Heap) (a C : Addr) (d : Option Addr) : Prop := Fly X pins H h a C d ∨ Noted X pins H h a C d
def zav (X : Cx) (E : XK) : Prop := ∀ (pins : List (Addr × Obj)) (σ : St) (H : Hp) (s : Shared) (a C : Addr) (d : Option Addr), Inv X pins σ H s → zm8 X pins H s.heap a C d → E (.ref C) d H → X.xe (.ref a) s
theorem zav.one {X : Cx} {E : XK} (t : zav X E) : Throws X E := fun pins σ H s a C d I F q => t pins σ H s a C d I (.inl F) q
def XA (X : Cx) (Er : XK) (e : Value) (s : Shared) : Prop := ∃ (pins : List (Addr × Obj)) (σ : St) (H : Hp) (a C : Addr) (d : Option Addr), e = .ref a ∧ Inv X pins σ H s ∧ zm8 X pins H s.heap a C d ∧ Er (.ref C) d H
section
variable {X : Cx} {pins : List (Addr × Obj)} {σ : St} {H : Hp} {s : Shared} {a C : Addr} {d : Option Addr} {A : Around} {E : Value → Shared → Prop} {Q : Unit → Shared → Prop} {Er : XK}
theorem zl : zav (X.wish (XA X Er)) Er := fun pins σ H s a C d I F q => ⟨pins, σ, H, a, C, d, rfl, I.unwish, F, q⟩
theorem zeJ (I : Inv X pins σ H s) (hfr : A.frames = some X.stack) (hst : X.stack = X.env :: X.outer) (hf : X.env.frame = some X.env.locals) (F : zm8 X pins H s.heap a C d)
    (h : ∀ s' T, Inv X pins σ H s' → XO s'.heap a (.ref C) d (.ref T) → T ≠ a → TB s'.heap T (rawInt X.env.locals) → OwnRec X pins H a → OwnRec X pins H T → Q () s') : wpAny (model X.prog X.w) A (noteFrame (.ref a) X.env) Q E s := by
  rcases F with F | ⟨T, x, ne, tb, oa, oT⟩
  · exact zfU I hfr hst hf F h
  · obtain ⟨oe, vs, e, _, _, hd, _, h1⟩ := id x
    obtain ⟨ot, ts, et, hdt, h3⟩ := id tb
    unfold noteFrame
    simp only [hf]
    refine wpAny_bind (wpAny_field e hd h1 ?_)
    rw [if_pos (show (Value.ref T != Value.none) = true by simp)]
    refine wpAny_bind (wpAny_field et hdt h3 ?_)
    rw [if_pos (by simp)]
    exact wpAny_pure (h s T I x ne tb oa oT)
theorem zfu {T f : Addr} {fl : Value} (x : XO s.heap a (.ref C) d (.ref T)) (t : TB s.heap T fl) (ne : T ≠ a)
    (h : ∀ h', XO h' a (.ref C) d (.ref T) → TB h' T (rawInt f) → (∀ b o, b ≠ T → s.heap.get? b = some o → h'.get? b = some o) → Q () { s with heap := h' }) {M : Model} : wpAny M A (setFlight (.ref a) (some f)) Q E s := by
  obtain ⟨oe, vs, e, _, _, hd, _, h1⟩ := id x
  obtain ⟨oT, ts, eT, hdT, h3⟩ := id t
  unfold setFlight
  refine wpAny_bind (wpAny_field e hd h1 ?_)
  rw [if_pos (show (Value.ref T != Value.none) = true by simp)]
  refine wpAny_setField eT hdT (Array.getElem?_eq_some_iff.mp h3).1 ?_
  exact h _ (x.keeps fun o q => (Heap.get?_update_other _ _ ne).trans q) (t.set3 _) fun b o nb q => (Heap.get?_update_other _ _ (Ne.symm nb)).trans q
theorem zam (hst : X.stack = X.env :: X.outer) (hf : X.env.frame = some X.env.locals) : PassesOwn (model X.prog X.w) X.A X.env (XA X Er) := by
  rintro e s ⟨pins, σ, H, a, C, d, rfl, I, F, q⟩
  unfold notedBy
  refine zeJ I I.ok.frames hst hf F fun s2 T I2 x2 ne tb2 oa oT => ?_
  unfold cameBackBy
  obtain ⟨oe, vs, e2, _, _, hd, _, h1⟩ := id x2
  refine wpAny_bind (wpAny_field e2 hd h1 ?_)
  rw [if_neg (show ¬ ((Value.ref T == Value.none) = true) by simp), hf]
  refine zfu x2 tb2 ne fun h' x3 tb3 k3 => ⟨pins, σ, H, a, C, d, rfl, ?_, .inr ⟨T, x3, ne, tb3, oa, oT⟩, q⟩
  exact I2.turned (t' := s2.toks) (it := T) (fun b o nb e => k3 b o nb e) oT.1 oT.2.2.1 (.inr oT.2.1) oT.2.2.2.1 oT.2.2.2.2
theorem PSs.throwing {st : List Stmt} {t : TS} (h : PSs (X.wish (XA X Er)) st t) (ht : zav X Er) : PSs X st t := fun pins s σ H D I hw =>
  wpAny_mono (h pins s σ H D (I.wish _) hw) (fun _ _ q => q.unwish) fun e s' ⟨pins, σ, H, a, C, d, ee, I1, F, q⟩ => ee ▸ ht pins σ H s' a C d I1 F q
theorem zcY (t : zav X Er) : Passes (CXe X.prog X.w) X Er := zhd t.one
end
theorem zeK {P : Program} {w : World} {K : PySem.W.Frag} {mg : Str → Option Value} {base : Heap} {N : List Str} {qual : Str} {scope : Scope} {f : Addr} {cd : Value} {A : Around} {outer : List Env} {s : Shared} {H : Hp} {E : XK} :
    zav (cxOf (CXe P w) P w K mg base N qual scope f cd A outer s H E) E := by
  intro pins σ H1 s1 a C d I F q
  show wpAny (model P w) (A.deeper (envOfC qual scope s.heap.objs.size f cd)) (leaving (envOfC qual scope s.heap.objs.size f cd) (.ref a)) _ _ s1
  unfold leaving
  refine wpAny_bind (zeJ I I.ok.frames rfl rfl F fun s2 T I2 x ne tb oa oT => zef I2 x ne tb oa oT fun s3 I3 x3 tb3 => ?_)
  exact ⟨a, C, T, d, H1, rfl, I3.os, I3.bare, I3.base, I3.hok, x3, ne, tb3, ⟨oa.2.1, oa.1⟩, ⟨oT.2.1, oT.1⟩, q⟩
section
variable {P : Program} {w : World} {K : PySem.W.Frag} {mg : Str → Option Value} {base : Heap}
theorem Fun.okT {x qual : Str} {st : Stmt} {f : Addr} {fd : FuncData} {N ps : List Str} {k : Nat} {sp : Sp} (F : Fun K x qual st f fd) (S : FnScope N ps (defScope st)) (len : ∀ vs H Q E, sp vs H Q E → vs.length = ps.length)
    (hbody : ∀ (cdv : Value) (A : Around) (outer : List Env) (s : Shared) (H : Hp) (vs : List V) (Q : VK) (E : XK), Room k (A.deeper (envOfC qual (defScope st) s.heap.objs.size f cdv)) → sp vs H Q E →
      ∃ t, PSs ((cxOf (CXe P w) P w K mg base N qual (defScope st) f cdv A outer s H E).wish (XA (cxOf (CXe P w) P w K mg base N qual (defScope st) f cdv A outer s H E) E)) (defBody st) t ∧ t { nx := fun _ H' => Q .non H', rt := Q } (start N vs) H) : FnOk P w K mg base (CXe P w) (k + 1) f fd ps sp :=
  Fun.okX F S len fun cdv A outer s H vs Q E hr hs => let ⟨t, h1, h2⟩ := hbody cdv A outer s H vs Q E hr hs; ⟨t, PSs.throwing h1 zeK, h2⟩
end
end L2
namespace L2
open PySem PySem.Spec PyProof.Rows PySem.W PySem.Builtin PySem.Builtin.ObjectAttr
section
variable {prog : Program} {w : World} {A : Around} {E : Value → Shared → Prop} {K : Frag} {x C : Addr} {s : Shared} {ox : Obj} {od : Option Obj} {name : Str} {tk : Tok}
structure ExGa (K : Frag) (C : Addr) : Prop where
  ga : findIn K (.ref C) "__getattribute__" = some (some (.builtin "BaseException.__getattribute__"))
  hk : findIn K (.ref C) "__getattr__" = some none
  hB : mroIn K C (.type "BaseException") = some true
theorem zjx {fill expr : Bool} {Q : Value → Shared → Prop} (X : K.In s.heap) (I : InstAt s.heap x ox C od) (G : ExGa K C)
    (h : wpAny (model prog w) A.in1 (Builtin.«object.__getattribute__» ⟨[.ref x, .str name tk], []⟩) (fun fin s' => ∃ v, fin = .done (.ret v) ∧ handedIn v = true ∧ Q v s') (fun _ _ => False) s) :
    wpAny (model prog w) A (getAttrBy (.ref x) (.str name tk) fill expr) Q E s := by
  have L0 := I.type (M := model prog w)
  have L1 := looks_findIn (M := model prog w) X G.ga
  have L2 := looks_findIn (M := model prog w) X G.hk
  have isB : Looks (model prog w) s.heap (isInstance (.ref x) (.type "BaseException")) true := I.type.andThen (looks_mroIn X G.hB)
  unfold getAttrBy
  refine wpAny_holding (wpAny_bind (L0.here (wpAny_bind (L1.here ?_))))
  dsimp only
  rw [if_neg (show ¬ ((onTheHeap (Value.ref C) && Value.builtin "BaseException.__getattribute__" == Value.builtin "object.__getattribute__") = true) by
    rw [show (Value.builtin "BaseException.__getattribute__" == Value.builtin "object.__getattribute__") = false by decide +kernel, Bool.and_false]; exact Bool.false_ne_true)]
  unfold getAttrByItsOwn hookBefore
  rw [if_pos (show onTheHeap (Value.ref C) = true from rfl)]
  refine wpAny_bind (L2.here (wpAny_bind (wpAny_attempt (wpAny_holding ?_))))
  unfold callGetattribute
  rw [if_neg (show ¬ ((expr && onTheHeap (Value.builtin "BaseException.__getattribute__")) = true) by cases expr <;> exact Bool.false_ne_true)]
  unfold boundAndCalled
  refine wpAny_bind (wpAny_of_eq (PySem.F.excAttr_ValueError.ga.bind (.ref x)) ?_)
  refine wpAny_call (codeAny_call_builtin PySem.F.excAttr_ValueError.ga.plain PySem.F.entry_bexc_ga (@check_slot (model prog w) _ _ s "BaseException.__getattribute__" "BaseException" "__getattribute__" (.ref x) [.str name tk] [] _ (by decide +kernel) (by decide +kernel) isB (PySem.F.args_bexc_ga (.ref x) (.str name tk)) ?_))
  refine wpAny_mono h (fun fin s' ⟨v, ef, hv, q⟩ => ?_) fun _ _ z => z.elim
  subst ef
  show wpAny _ _ (handedOut v) _ _ _
  rw [handedOut_of hv]
  exact wpAny_pure q
theorem zhh {v : Value} {Q : Fin → Shared → Prop} (X : K.In s.heap) (I : InstAt s.heap x ox C od) (hf : findObj K C od name = some (.value v)) (h : Q (.done (.ret v)) s) :
    wpAny (model prog w) A (Builtin.«object.__getattribute__» ⟨[.ref x, .str name tk], []⟩) Q E s := by
  have L0 := I.type (M := model prog w)
  have L1 := looks_find (M := model prog w) X I hf
  exact wpAny_bind (wpAny_pure (wpAny_bind (wpAny_pure (wpAny_bind (L0.here (wpAny_bind (L1.here (wpAny_pure h))))))))
theorem zkp {Q : Fin → Shared → Prop} (X : K.In s.heap) (I : InstAt s.heap x ox C od) (hf : findObj K C od "__class__" = some (.bind (.builtin "getset_descriptor.__get__") (.builtin "object.__class__"))) (hm : mroIn K C (.type "object") = some true)
    (h : Q (.done (.ret (.ref C))) s) : wpAny (model prog w) A (Builtin.«object.__getattribute__» ⟨[.ref x, .str "__class__" tk], []⟩) Q E s := by
  have L0 := I.type (M := model prog w)
  have L1 := looks_find (M := model prog w) X I hf
  refine wpAny_bind (wpAny_pure (wpAny_bind (wpAny_pure (wpAny_bind (L0.here (wpAny_bind (L1.here ?_)))))))
  show wpAny _ _ (holding [.builtin "object.__class__"] (call (.builtin "getset_descriptor.__get__") [.builtin "object.__class__", .ref x, .ref C]) >>= ret) _ _ _
  exact wpAny_bind (wpAny_holding (wpAny_call (class_get (ox := ox) (od := od) X I hm (wpAny_pure h))))
end
end L2
namespace L2
open PySem PySem.Spec PyProof.Rows PySem.W PySem.Builtin PySem.Builtin.ObjectAttr
theorem ziC {K : Frag} {x D : Addr} {ox : Obj} {od : Option Obj} (G : ExGa K D) (hcl : (clsIn K D).isSome = true) (hf : findObj K D od "__class__" = some (.bind (.builtin "getset_descriptor.__get__") (.builtin "object.__class__"))) (hm : mroIn K D (.type "object") = some true) :
    KitX K (.ref x) (.ref D) (fun h => InstAt h x ox D od) := by
  obtain ⟨cd, hc⟩ := Option.isSome_iff_exists.mp hcl
  unfold clsIn at hc
  split at hc
  · rename_i c' d' cd' sl' ho
    refine ⟨fun _ _ _ I => I.type, fun M h X _ => ?_, fun h tp dd its n sl X htp => ?_, fun {prog w A E Q s} X I k => ?_⟩
    · intro A' Q' E' s' k q
      unfold isType loadHead
      exact wpAny_bind (wpAny_loadPart (k _ _ (X _ _ ho)) (wpAny_pure q))
    · refine Bool.eq_false_iff.mpr fun q => ?_
      obtain rfl : D = tp := Value.ref.inj (beq_iff_eq.mp q)
      have z := (X _ _ ho).symm.trans htp
      cases z
    · unfold getAttr? getAttrBy?
      refine wpAny_bind (wpAny_mkText (wpAny_bind (wpAny_attempt ?_)))
      exact zjx (s := { s with toks := s.toks + 1 }) X I G (zkp (s := { s with toks := s.toks + 1 }) X I hf hm ⟨_, rfl, rfl, wpAny_pure k⟩)
  · cases hc
structure ExIs (K : Frag) (C : Addr) : Prop where
  g : ExGa K C
  hd : hasDictIn K C = true
  ha : findIn K (.ref C) "__class__" = some (some (.builtin "object.__class__"))
  hn : specialIn K (.builtin "object.__class__") "__get__" = some (some (.builtin "getset_descriptor.__get__"))
  tk : takesIn K (.builtin "object.__class__") = some true
  hm : mroIn K C (.type "object") = some true
section
variable {X : Cx} {pins : List (Addr × Obj)} {σ : St} {H : Hp} {s : Shared} {a C d : Addr} {fs : List (Str × V)} {A : Around} {E : Value → Shared → Prop}
theorem zkq {b : Bool} {f : Str} {v : V} {Q : Value → Shared → Prop} (I : Inv X pins σ H s) (ha : H a = some (exC C (some d) a)) (hd : H d = some (.xd fs)) (g : ExGa X.K C) (hh : hasDictIn X.K C = true) (no : findIn X.K (.ref C) f = some none) (l : fs.lookup f = some v)
    (h : ∀ u s', Inv X pins σ H s' → RelV v u → Q u s') : wpAny (model X.prog X.w) A (getAttr (.ref a) f b) Q E s := by
  obtain ⟨ox, od, J, hl⟩ := zjw I ha hd
  obtain ⟨o, ho, r⟩ := hl f
  rw [l] at r
  obtain ⟨u, rfl, ru⟩ := RelO.some_of (v := v) (o := o) r
  unfold getAttr
  refine wpAny_bind (wpAny_mkText ?_)
  exact zjx (s := { s with toks := s.toks + 1 }) I.kIn J g (zhh (s := { s with toks := s.toks + 1 }) I.kIn J (findObj_own hh no rfl ho) ⟨u, rfl, zeA ru, h u _ (I.tok _) ru⟩)
theorem zm9 {c : Value} {b : Bool} {Q : Value → Shared → Prop} (I : Inv X pins σ H s) (ha : H a = some (exC C (some d) a)) (hd : H d = some (.xd fs)) (k : ExIs X.K C) (e : kitOne X.K (.ref C) c = some b) (h : ∀ tk, Q (.bool b) { s with toks := tk }) :
    wpAny (model X.prog X.w) A (call (.builtin "isinstance") [.ref a, c]) Q E s := by
  obtain ⟨ox, od, J, _⟩ := zjw I ha hd
  have cl : (clsIn X.K C).isSome = true := by obtain ⟨cd, hc, _⟩ := any_some k.hd; rw [hc]; rfl
  exact kia_one (ziC k.g cl (findObj_data cl k.ha k.hn k.tk) k.hm) I.kIn J e (fun z => nomatch z) h
end
end L2
namespace L2
open PySem PySem.Spec PyProof.Rows PySem.W
structure Ste (prog : Program) (w : World) (it src : Addr) (xs : Array Value) (St : Nat → Heap → Prop) : Prop where
  at_ : ∀ {k h h'}, St k h → (∀ o, h.get? it = some o → h'.get? it = some o) → (∀ o, h.get? src = some o → h'.get? src = some o) → St k h'
  lt : ∀ {k h}, St k h → it < h.objs.size
  item : ∀ {A : Around} {E : Value → Shared → Prop} {s : Shared} {k : Nat} {x : Value} {Q : Value → Shared → Prop}, St k s.heap → xs[k]? = some x → (∀ h', St (k + 1) h' → Heap.SameBut it s.heap h' → Q x { s with heap := h' }) →
    wpAny (model prog w) A (Builtin.SmallTypes.nextOf (.ref it)) Q E s
  stop : ∀ {A : Around} {E : Value → Shared → Prop} {s : Shared} {k : Nat} {Q : Value → Shared → Prop}, A.handled = none → St k s.heap → xs[k]? = none →
    (∀ h' e, Heap.ExtBut it s.heap h' → (∃ o, h'.get? e = some o ∧ o.cls = .type "StopIteration") → E (.ref e) { s with heap := h' }) → wpAny (model prog w) A (Builtin.SmallTypes.nextOf (.ref it)) Q E s
def StT (it t : Addr) (xs : Array Value) (k : Nat) (h : Heap) : Prop := IsTupIter h it t k ∧ IsTup h t xs
theorem zaG {prog : Program} {w : World} {it t : Addr} {xs : Array Value} (ne : t ≠ it) : Ste prog w it t xs (StT it t xs) where
  at_ := fun {k h h'} q k1 k2 => by
    obtain ⟨⟨o, ho, r⟩, ⟨o', ho', r'⟩⟩ := q
    exact ⟨⟨o, k1 o ho, r⟩, ⟨o', k2 o' ho', r'⟩⟩
  lt := fun q => let ⟨⟨_, ho, _⟩, _⟩ := q; Heap.lt_size ho
  item := fun {A E s k x Q} q hx hQ => by
    obtain ⟨hit, ht⟩ := q
    obtain ⟨o, ho, hc, hd⟩ := id hit
    obtain ⟨ol, hol, _, nl, hdl⟩ := id ht
    unfold Builtin.SmallTypes.nextOf
    refine wpAny_bind (wpAny_callSpecial?_slot (name := Str.ofString "__next__") hit.typeIs slot_tupleiter_next (wpAny_call_entry slot_tupleiter_next hit.typeIs entry_tupleiter_next ?_ (args_tupleiter_next _)))
    change wpAny _ _ (field (.ref it) 0 >>= _) _ _ s
    refine wpAny_bind (wpAny_field ho hd (x := .ref t) rfl ?_)
    rw [if_neg (by simp)]
    change wpAny _ _ (field (.ref it) 1 >>= _) _ _ s
    refine wpAny_bind (wpAny_field ho hd (x := .int k 0) rfl ?_)
    change wpAny _ _ (seqItems? (.ref t) >>= _) _ _ s
    refine wpAny_bind (wpAny_seqItems hol hdl ?_)
    simp only [hx, Int.toNat_natCast]
    have fl := Obj.data_mapFields hd (·.setIfInBounds 1 (rawInt (k + 1)))
    refine wpAny_bind (wpAny_setField ho hd (by simp) (wpAny_pure ⟨x, rfl, wpAny_pure (hQ _ ⟨⟨_, Heap.get?_update_self _ ho (Obj.isFreed_of_fields fl), (Obj.cls_mapFields ..).trans hc, ?_⟩, ?_⟩ (Heap.SameBut.update ..))⟩))
    · rw [fl]; simp [rawInt]
    · exact ht.extBut (Heap.SameBut.update ..).extBut ne
  stop := fun {A E s k Q} hh q hx hE => by
    obtain ⟨hit, ht⟩ := q
    obtain ⟨o, ho, hc, hd⟩ := id hit
    obtain ⟨ol, hol, _, nl, hdl⟩ := id ht
    unfold Builtin.SmallTypes.nextOf
    refine wpAny_bind (wpAny_callSpecial?_slot (name := Str.ofString "__next__") hit.typeIs slot_tupleiter_next (wpAny_call_entry slot_tupleiter_next hit.typeIs entry_tupleiter_next ?_ (args_tupleiter_next _)))
    change wpAny _ _ (field (.ref it) 0 >>= _) _ _ s
    refine wpAny_bind (wpAny_field ho hd (x := .ref t) rfl ?_)
    rw [if_neg (by simp)]
    change wpAny _ _ (field (.ref it) 1 >>= _) _ _ s
    refine wpAny_bind (wpAny_field ho hd (x := .int k 0) rfl ?_)
    change wpAny _ _ (seqItems? (.ref t) >>= _) _ _ s
    refine wpAny_bind (wpAny_seqItems hol hdl ?_)
    simp only [hx, Int.toNat_natCast]
    refine wpAny_bind (wpAny_rule (wpAny_bind (wpAny_setField ho hd (by simp) ?_)))
    change wpAny _ _ (newExc (.type "StopIteration") [] >>= _) _ _ _
    refine wpAny_bind ?_
    simp only [newExc, newTuple]
    refine wpAny_bind (wpAny_newObj_type (wpAny_bind (m := firstArgMember _ _) (wpAny_of_eq (a := Value.none) (by first | rfl | (simp only [firstArgMember]; rfl)) (wpAny_newObj_type ?_ (by size_fits)))) (by size_fits))
    simp only [raiseNew]
    refine wpAny_bind (wpAny_handled ?_)
    first | rw [show A.in1.handled = none from hh] | rw [hh]
    exact wpAny_bind (wpAny_pure (wpAny_throw (hE _ _ (((Heap.SameBut.update ..).extBut.push _).push _) ⟨_, Heap.get?_push_size _ rfl, rfl⟩)))
section
variable {prog : Program} {w : World} {A : Around} {E : Value → Shared → Prop} {s : Shared} {z TI TO i1 i2 t1 t2 : Addr} {k : Nat} {xs ys : Array Value} {x y a b : Value} {S1 S2 : Nat → Heap → Prop}
theorem Ste.by_same (S : Ste prog w i1 t1 xs S1) {h h' : Heap} {c : Addr} (q : S1 k h) (hs : Heap.SameBut c h h') (n1 : i1 ≠ c) (n2 : t1 ≠ c) : S1 k h' :=
  S.at_ q (fun o e => hs.extBut _ _ n1 e) fun o e => hs.extBut _ _ n2 e
theorem zeL {Q : Value → Shared → Prop} (D : ZipApart z TI TO i1 i2 t1 t2) (U1 : Ste prog w i1 t1 xs S1) (U2 : Ste prog w i2 t2 ys S2) (hz : IsZip s.heap z TI TO .none) (hTI : IsPair s.heap TI (.ref i1) (.ref i2)) (hTO : IsPair s.heap TO a b)
    (q1 : S1 k s.heap) (q2 : S2 k s.heap) (hx : xs[k]? = some x) (hy : ys[k]? = some y)
    (hQ : ∀ h', IsZip h' z TI TO (rawInt s.heap.objs.size) → IsPair h' TO x y → S1 (k + 1) h' → S2 (k + 1) h' → IsPair h' s.heap.objs.size x y →
      (∀ c o, c ≠ z → c ≠ TO → c ≠ i1 → c ≠ i2 → s.heap.get? c = some o → h'.get? c = some o) → Q (.ref s.heap.objs.size) { s with heap := h' }) :
    wpAny (model prog w) A (Builtin.«zip.__next__» ⟨[.ref z], []⟩) (fun fin s' => ∃ v, fin = .done (.ret v) ∧ Q v s') E s := by
  change wpAny _ _ (field (.ref z) 2 >>= _) _ _ _
  refine wpAny_bind (wpAny_field hz rfl (x := .bool false) rfl ?_)
  change wpAny _ _ (field (.ref z) 3 >>= _) _ _ _
  refine wpAny_bind (wpAny_field hz rfl (x := .ref TI) rfl (wpAny_bind (wpAny_seqItems hTI rfl ?_)))
  change wpAny _ _ (Builtin.SmallTypes.ownedTupleIsFree (.ref z) >>= _) _ _ _
  refine wpAny_bind ?_
  unfold Builtin.SmallTypes.ownedTupleIsFree
  refine wpAny_bind (wpAny_field hz rfl (x := .none) rfl (wpAny_pure ?_))
  rw [if_pos rfl]
  refine wpAny_bind (wpAny_rule (wpAny_bind (wpAny_field hz rfl (x := .ref TO) rfl (wpAny_bind (wpAny_setField_rec hz (by simp) fun h1 z1 e1 => ?_)))))
  replace z1 : IsZip h1 z TI TO .ellipsis := z1
  refine wpAny_bind ?_
  simp only [List.zipIdx_cons, List.zipIdx_nil, List.forIn_cons, List.forIn_nil]
  refine wpAny_bind (wpAny_bind (wpAny_onRaise ?_))
  change wpAny _ _ (Builtin.SmallTypes.nextOf (.ref i1) >>= _) _ _ _
  refine wpAny_bind (U1.item (U1.by_same q1 e1 D.i1z D.l1z) hx fun h2 p2 e2 => wpAny_pure ?_)
  have o2 : IsPair h2 TO a b := e2.extBut _ _ D.TOi1 (e1.extBut _ _ D.TOz hTO)
  refine wpAny_bind (wpAny_seqItems o2 rfl (wpAny_bind (wpAny_updateSeq_pair o2 fun h3 o3 e3 => ?_)))
  replace o3 : IsPair h3 TO x b := o3
  refine wpAny_bind (wpAny_letGo (wpAny_pure (wpAny_bind (wpAny_bind (wpAny_onRaise ?_)))))
  change wpAny _ _ (Builtin.SmallTypes.nextOf (.ref i2) >>= _) _ _ _
  have r3 : S2 k h3 := U2.by_same (U2.by_same (U2.by_same q2 e1 D.i2z D.l2z) e2 D.i12.symm D.l2i1) e3 D.TOi2.symm D.l2TO
  refine wpAny_bind (U2.item r3 hy fun h4 p4 e4 => wpAny_pure ?_)
  have o4 : IsPair h4 TO x b := e4.extBut _ _ D.TOi2 o3
  refine wpAny_bind (wpAny_seqItems o4 rfl (wpAny_bind (wpAny_updateSeq_pair o4 fun h5 o5 e5 => ?_)))
  replace o5 : IsPair h5 TO x y := o5
  refine wpAny_bind (wpAny_letGo (wpAny_pure (wpAny_pure (wpAny_bind (wpAny_seqItems o5 rfl (wpAny_bind (wpAny_newTuple ?_)))))))
  have sz : h5.objs.size = s.heap.objs.size := by rw [e5.1, e4.1, e3.1, e2.1, e1.1]
  have z5 : IsZip h5 z TI TO .ellipsis := e5.extBut _ _ D.TOz.symm (e4.extBut _ _ D.i2z.symm (e3.extBut _ _ D.TOz.symm (e2.extBut _ _ D.i1z.symm z1)))
  have k5 : ∀ c o, c ≠ z → c ≠ TO → c ≠ i1 → c ≠ i2 → s.heap.get? c = some o → h5.get? c = some o := fun c o c1 c2 c3 c4 e => e5.extBut _ _ c2 (e4.extBut _ _ c4 (e3.extBut _ _ c2 (e2.extBut _ _ c3 (e1.extBut _ _ c1 e))))
  have f1 : S1 (k + 1) h5 := U1.by_same (U1.by_same (U1.by_same p2 e3 D.TOi1.symm D.l1TO) e4 D.i12 D.l1i2) e5 D.TOi1.symm D.l1TO
  have f2 : S2 (k + 1) h5 := U2.by_same p4 e5 D.TOi2.symm D.l2TO
  change wpAny _ _ (Builtin.SmallTypes.ownedTupleHandOut (.ref z) (.ref h5.objs.size) >>= _) _ _ _
  refine wpAny_bind ?_
  unfold Builtin.SmallTypes.ownedTupleHandOut
  have z6 : IsZip (h5.push { cls := .type "tuple", data := .seq #[x, y] }) z TI TO .ellipsis := Heap.get?_push_of_some _ z5
  refine wpAny_bind (wpAny_setField_rec z6 (by simp) fun h7 z7 e7 => ?_)
  replace z7 : IsZip h7 z TI TO (rawInt h5.objs.size) := z7
  refine wpAny_setField_rec z7 (by simp) fun h8 z8 e8 => ?_
  replace z8 : IsZip h8 z TI TO (rawInt h5.objs.size) := z8
  have up : ∀ c o, c ≠ z → h5.get? c = some o → h8.get? c = some o := fun c o c1 e => e8.extBut _ _ c1 (e7.extBut _ _ c1 (Heap.get?_push_of_some _ e))
  have nz : h5.objs.size ≠ z := Nat.ne_of_gt (Heap.lt_size z5)
  have pT : IsPair h8 h5.objs.size x y := e8.extBut _ _ nz (e7.extBut _ _ nz (Heap.get?_push_size _ rfl))
  rw [sz] at z8 pT
  refine wpAny_pure ⟨_, rfl, ?_⟩
  change Q (.ref h5.objs.size) _
  rw [sz]
  exact hQ h8 z8 (up _ _ D.TOz o5) (U1.at_ f1 (fun o e => up _ o D.i1z e) fun o e => up _ o D.l1z e) (U2.at_ f2 (fun o e => up _ o D.i2z e) fun o e => up _ o D.l2z e) pT fun c o c1 c2 c3 c4 e => up c o c1 (k5 c o c1 c2 c3 c4 e)
theorem zeM {Q : Fin → Shared → Prop} (hh : A.handled = none) (D : ZipApart z TI TO i1 i2 t1 t2) (U1 : Ste prog w i1 t1 xs S1) (U2 : Ste prog w i2 t2 ys S2) (hz : IsZip s.heap z TI TO .none) (hTI : IsPair s.heap TI (.ref i1) (.ref i2)) (hTO : IsPair s.heap TO a b)
    (q1 : S1 k s.heap) (q2 : S2 k s.heap) (he : xs[k]? = none ∨ ys[k]? = none)
    (hE : ∀ h' e, (∀ c o, c ≠ z → c ≠ TO → c ≠ i1 → c ≠ i2 → s.heap.get? c = some o → h'.get? c = some o) → (∃ o, h'.get? e = some o ∧ o.cls = .type "StopIteration") → E (.ref e) { s with heap := h' }) :
    wpAny (model prog w) A (Builtin.«zip.__next__» ⟨[.ref z], []⟩) Q E s := by
  change wpAny _ _ (field (.ref z) 2 >>= _) _ _ _
  refine wpAny_bind (wpAny_field hz rfl (x := .bool false) rfl ?_)
  change wpAny _ _ (field (.ref z) 3 >>= _) _ _ _
  refine wpAny_bind (wpAny_field hz rfl (x := .ref TI) rfl (wpAny_bind (wpAny_seqItems hTI rfl ?_)))
  change wpAny _ _ (Builtin.SmallTypes.ownedTupleIsFree (.ref z) >>= _) _ _ _
  refine wpAny_bind ?_
  unfold Builtin.SmallTypes.ownedTupleIsFree
  refine wpAny_bind (wpAny_field hz rfl (x := .none) rfl (wpAny_pure ?_))
  rw [if_pos rfl]
  refine wpAny_bind (wpAny_rule (wpAny_bind (wpAny_field hz rfl (x := .ref TO) rfl (wpAny_bind (wpAny_setField_rec hz (by simp) fun h1 z1 e1 => ?_)))))
  replace z1 : IsZip h1 z TI TO .ellipsis := z1
  refine wpAny_bind ?_
  simp only [List.zipIdx_cons, List.zipIdx_nil, List.forIn_cons, List.forIn_nil]
  refine wpAny_bind (wpAny_bind (wpAny_onRaise ?_))
  change wpAny _ _ (Builtin.SmallTypes.nextOf (.ref i1) >>= _) _ _ _
  have p1 := U1.by_same q1 e1 D.i1z D.l1z
  have nez : ∀ {h : Heap} {e : Addr} {oe : Obj}, IsZip h z TI TO .ellipsis → h.get? e = some oe → oe.cls = .type "StopIteration" → e ≠ z := fun iz ho hc x => by
    rw [x, iz] at ho
    cases ho
    simp at hc
  cases hx : xs[k]? with
  | none =>
    refine wpAny_bind (U1.stop hh p1 hx fun h2 e e2 ⟨oe, hoe, hce⟩ => ?_)
    have z2 : IsZip h2 z TI TO .ellipsis := e2 _ _ D.i1z.symm z1
    exact wpAny_setField_rec z2 (by simp) fun h3 _ e3 => hE h3 e (fun c o c1 _ c3 _ x => e3.extBut _ _ c1 (e2 _ _ c3 (e1.extBut _ _ c1 x))) ⟨oe, e3.extBut _ _ (nez z2 hoe hce) hoe, hce⟩
  | some x =>
    have hy : ys[k]? = none := by
      rcases he with h | h
      · rw [hx] at h; cases h
      · exact h
    refine wpAny_bind (U1.item p1 hx fun h2 p2 e2 => wpAny_pure ?_)
    have o2 : IsPair h2 TO a b := e2.extBut _ _ D.TOi1 (e1.extBut _ _ D.TOz hTO)
    refine wpAny_bind (wpAny_seqItems o2 rfl (wpAny_bind (wpAny_updateSeq_pair o2 fun h3 o3 e3 => ?_)))
    refine wpAny_bind (wpAny_letGo (wpAny_pure (wpAny_bind (wpAny_bind (wpAny_onRaise ?_)))))
    change wpAny _ _ (Builtin.SmallTypes.nextOf (.ref i2) >>= _) _ _ _
    have r3 : S2 k h3 := U2.by_same (U2.by_same (U2.by_same q2 e1 D.i2z D.l2z) e2 D.i12.symm D.l2i1) e3 D.TOi2.symm D.l2TO
    refine wpAny_bind (U2.stop hh r3 hy fun h4 e e4 ⟨oe, hoe, hce⟩ => ?_)
    have z4 : IsZip h4 z TI TO .ellipsis := e4 _ _ D.i2z.symm (e3.extBut _ _ D.TOz.symm (e2.extBut _ _ D.i1z.symm z1))
    exact wpAny_setField_rec z4 (by simp) fun h5 _ e5 => hE h5 e (fun c o c1 c2 c3 c4 x => e5.extBut _ _ c1 (e4 _ _ c4 (e3.extBut _ _ c2 (e2.extBut _ _ c3 (e1.extBut _ _ c1 x))))) ⟨oe, e5.extBut _ _ (nez z4 hoe hce) hoe, hce⟩
end
end L2
namespace L2
open PySem PySem.Spec PyProof.Rows PySem.W
section
variable {X : Cx} {pins : List (Addr × Obj)} {σ : St} {H : Hp} {s : Shared} {h' : Heap}
theorem Inv.turnL {ch : List Addr} {t' : Nat} (I : Inv X pins σ H s) (hc : ∀ b ∈ ch, FpOk X pins H b) (k : ∀ b o, b ∉ ch → s.heap.get? b = some o → h'.get? b = some o) : Inv X pins σ H { s with heap := h', toks := t' } := by
  have nch : ∀ b u, H b = some u → b ∉ ch := fun b u e z => by rw [(hc b z).1] at e; cases e
  refine I.step (g' := s.gens) (d' := s.drawn) (ch := ch) (fun b hb => ?_) (fun b o _ _ nb e _ => k b o nb e) (fun b o _ _ nb e _ => ⟨o.slots, k b o nb e⟩) (fun _ _ _ _ n => n)
    (fun b o nb e => ⟨o, k b o nb e⟩) (fun _ _ e => e) (fun _ _ _ e => e) (fun b ps e => ⟨#[], by rw [e]; simp⟩) (fun m hm => ?_) (fun b u e => ?_) I.bare
  · obtain ⟨_, f1, _, f3, f4, f5⟩ := hc b hb
    exact ⟨f3, f1, f4, f5⟩
  · obtain ⟨o, es, ep, ho, r⟩ := hm
    exact ⟨o, es, ep, k _ o (fun z => (hc _ z).2.1 rfl) ho, r⟩
  · refine (I.hok b u e).stay (fun c v hc' q => k c v ?_ q) (fun _ q => q) fun _ _ q => q
    rcases hc' with z | z
    · rw [z]; exact nch b u e
    · exact nch c _ z
theorem Inv.turnN {ch : List Addr} {T : Addr} {o : HO} {t' : Nat} (I : Inv X pins σ H s) (hc : ∀ b ∈ ch, FpOk X pins H b) (k : ∀ b o, b ∉ ch → s.heap.get? b = some o → h'.get? b = some o) (hT : s.heap.objs.size ≤ T)
    (new : ObjOk X.prog X.w (upd H T o) h' T o) : Inv X pins σ (upd H T o) { s with heap := h', toks := t' } := by
  have fT : H T = none := I.hok.fresh hT
  have nch : ∀ b u, H b = some u → b ∉ ch := fun b u e z => by rw [(hc b z).1] at e; cases e
  have nT : ∀ b u, H b = some u → b ≠ T := fun b u e z => by rw [z, fT] at e; cases e
  refine I.step (g' := s.gens) (d' := s.drawn) (ch := ch) (fun b hb => ?_) (fun b o _ _ nb e _ => k b o nb e) (fun b o _ _ nb e _ => ⟨o.slots, k b o nb e⟩) (fun b u _ e n => ?_)
    (fun b o nb e => ⟨o, k b o nb e⟩) (fun b xs e => ?_) (fun b u v e => ?_) (fun b ps e => ⟨#[], ?_⟩) (fun m hm => ?_) (fun b u e => ?_) I.bare
  · obtain ⟨_, f1, _, f3, f4, f5⟩ := hc b hb
    exact ⟨f3, f1, f4, f5⟩
  · rw [zq (Nat.ne_of_lt (Nat.lt_of_lt_of_le (Heap.lt_size e) hT))]; exact n
  · rw [zq (nT b _ e)]; exact e
  · rw [zq (nT b _ e)]; exact e
  · rw [zq (nT b _ e), e]; simp
  · obtain ⟨o, es, ep, ho, r⟩ := hm
    exact ⟨o, es, ep, k _ o (fun z => (hc _ z).2.1 rfl) ho, r⟩
  · by_cases z : b = T
    · rw [z] at e ⊢
      rw [zu] at e
      cases e
      exact new
    · rw [zq z] at e
      refine (I.hok b u e).stay (fun c v hc' q => k c v ?_ q) (fun c q => by rw [zq (nT c _ q)]; exact q) fun c xs q => by rw [zq (nT c _ q)]; exact q
      rcases hc' with z | z
      · rw [z]; exact nch b u e
      · exact nch c _ z
end
def Itz (K : Frag) (a b : Addr) : It :=
  ⟨fun i H => ∃ xs ys x y, SqT K H a xs ∧ SqT K H b ys ∧ xs[i]? = some x ∧ ys[i]? = some y,
   fun i H v H' => ∃ T x y, H T = none ∧ v = .ref T ∧ H' = upd H T (.tup [x, y]) ∧ (∀ xs, SqT K H a xs → xs[i]? = some x) ∧ ∀ ys, SqT K H b ys → ys[i]? = some y,
   fun i H => ∃ xs ys, SqT K H a xs ∧ SqT K H b ys ∧ (xs.length ≤ i ∨ ys.length ≤ i)⟩
def Zst (z TI TO i1 i2 a b : Addr) (k : Nat) (h : Heap) : Prop := IsZip h z TI TO .none ∧ IsPair h TI (.ref i1) (.ref i2) ∧ (∃ u v, IsPair h TO u v) ∧ IsTupIter h i1 a k ∧ IsTupIter h i2 b k
theorem ziD {X : Cx} {pins : List (Addr × Obj)} {σ : St} {H : Hp} {s : Shared} {a c : Addr} {xs : List V} (I : Inv X pins σ H s) (hf : FpOk X pins H c) (hq : SqT X.K H a xs) : a ≠ c := by
  rintro rfl
  rcases hq with q | ⟨o, its, n, hl, _⟩
  · rcases q with q | ⟨ob, q⟩ <;> (rw [hf.1] at q; cases q)
  · have e := I.ok.mod.kin _ _ hl
    rcases hf.2.2.2.1 with z | z
    · exact I.ok.noex _ _ e z
    · exact absurd (Nat.lt_of_lt_of_le (Heap.lt_size (I.ok.bs _ _ e).1) z) (Nat.lt_irrefl _)
structure Five (z TI TO i1 i2 : Addr) : Prop where
  TIz : TI ≠ z
  TOz : TO ≠ z
  i1z : i1 ≠ z
  i2z : i2 ≠ z
  TITO : TI ≠ TO
  TIi1 : TI ≠ i1
  TIi2 : TI ≠ i2
  TOi1 : TO ≠ i1
  TOi2 : TO ≠ i2
  i12 : i1 ≠ i2
theorem ziE {P : Program} {w : World} {K : Frag} {elts : List Expr} {kt : Nat} {pos : Pos} {z TI TO i1 i2 a b : Addr} (V5 : Five z TI TO i1 i2) : Turn P w K (.Tuple elts kt pos) (Itz K a b) [z, TI, TO, i1, i2] z (Zst z TI TO i1 i2 a b) where
  mem := by simp
  obj := fun i h st c hc => by
    obtain ⟨hz, hTI, ⟨u, v, hTO⟩, ⟨o1, e1, _, d1⟩, ⟨o2, e2, _, d2⟩⟩ := st
    simp only [List.mem_cons, List.not_mem_nil, or_false] at hc
    rcases hc with q | q | q | q | q <;> rw [q]
    · exact ⟨_, hz, fun v z => by cases z⟩
    · exact ⟨_, hTI, fun v z => by cases z⟩
    · exact ⟨_, hTO, fun v z => by cases z⟩
    · exact ⟨_, e1, fun v z => by rw [d1] at z; cases z⟩
    · exact ⟨_, e2, fun v z => by rw [d2] at z; cases z⟩
  keep := fun i h h' st k => by
    obtain ⟨hz, hTI, ⟨u, v, hTO⟩, ⟨o1, e1, r1⟩, ⟨o2, e2, r2⟩⟩ := st
    exact ⟨k z (by simp) _ hz, k TI (by simp) _ hTI, ⟨u, v, k TO (by simp) _ hTO⟩, ⟨o1, k i1 (by simp) _ e1, r1⟩, ⟨o2, k i2 (by simp) _ e2, r2⟩⟩
  item := by
    intro X hP hw hK hc i pins s σ H E I hf st hg
    subst hP hw hK
    obtain ⟨xs, ys, x, y, hq1, hq2, hx, hy⟩ := hg
    obtain ⟨hz, hTI, ⟨u0, v0, hTO⟩, hi1, hi2⟩ := st
    obtain ⟨its1, rv1, p1, _⟩ := I.tuple hq1
    obtain ⟨its2, rv2, p2, _⟩ := I.tuple hq2
    obtain ⟨u, hu, ru⟩ := rv1.get hx
    obtain ⟨v, hv, rv⟩ := rv2.get hy
    have n1 : ∀ c ∈ [z, TI, TO, i1, i2], a ≠ c := fun c h => ziD I (hf c h) hq1
    have n2 : ∀ c ∈ [z, TI, TO, i1, i2], b ≠ c := fun c h => ziD I (hf c h) hq2
    have D : ZipApart z TI TO i1 i2 a b := ⟨V5.TIz, V5.TOz, V5.i1z, V5.i2z, V5.TITO, V5.TIi1, V5.TIi2, V5.TOi1, V5.TOi2, V5.i12, n1 z (by simp), n1 TO (by simp), n1 i1 (by simp), n1 i2 (by simp), n2 z (by simp), n2 TO (by simp), n2 i1 (by simp), n2 i2 (by simp)⟩
    have hT : s.TypeIs (.ref z) "zip" := ⟨_, hz, rfl⟩
    unfold pyNext
    refine wpAny_bind (wpAny_attempt (wpAny_callSpecial?_slot (name := Str.ofString "__next__") hT F.slot_zip_next (wpAny_call_entry F.slot_zip_next hT F.entry_zip_next
      (zeL D (zaG D.l1i1) (zaG D.l2i2) hz hTI hTO ⟨hi1, p1⟩ ⟨hi2, p2⟩ (by simpa using hu) (by simpa using hv) fun h1 z1 o1 f1 f2 pT kk => wpAny_pure ⟨_, rfl, ?_⟩) (F.args_zip_next_1 _))))
    refine wpAny_letOwnedTupleGo_zip (s := { s with heap := h1 }) z1 fun h2 z2 e2 => ?_
    have fr : H s.heap.objs.size = none := I.hok.fresh (Nat.le_refl _)
    have up : ∀ c o, c ≠ z → h1.get? c = some o → h2.get? c = some o := fun c o n e => e2.extBut _ _ n e
    have nz : s.heap.objs.size ≠ z := Nat.ne_of_gt (Heap.lt_size hz)
    have k2 : ∀ c o, c ∉ [z, TI, TO, i1, i2] → s.heap.get? c = some o → h2.get? c = some o := fun c o nc e =>
      up c o (fun q => nc (by simp [q])) (kk c o (fun q => nc (by simp [q])) (fun q => nc (by simp [q])) (fun q => nc (by simp [q])) (fun q => nc (by simp [q])) e)
    refine ⟨.ref s.heap.objs.size, upd H s.heap.objs.size (.tup [x, y]), ?_, rfl, ⟨s.heap.objs.size, x, y, fr, rfl, rfl, fun xs' h' => by rw [I.tuple_inj h' hq1]; exact hx, fun ys' h' => by rw [I.tuple_inj h' hq2]; exact hy⟩, ?_, fun c hc' => ?_⟩
    · exact Inv.turnN (s := s) (h' := h2) (t' := s.toks) I hf k2 (Nat.le_refl _) ⟨show 2 ≤ sizeLine by decide, [u, v], .cons ru (.cons rv .nil), _, up _ _ nz pT, rfl, _, rfl⟩
    · exact ⟨z2, up _ _ D.TIz (kk _ _ D.TIz D.TITO D.TIi1 D.TIi2 hTI), ⟨_, _, up _ _ D.TOz o1⟩, (let ⟨o, e, r⟩ := f1.1; ⟨o, up _ _ D.i1z e, r⟩), (let ⟨o, e, r⟩ := f2.1; ⟨o, up _ _ D.i2z e, r⟩)⟩
    · have q : c ≠ s.heap.objs.size := by
        have lt : ∃ o, s.heap.get? c = some o := by
          simp only [List.mem_cons, List.not_mem_nil, or_false] at hc'
          rcases hc' with q | q | q | q | q <;> rw [q]
          · exact ⟨_, hz⟩
          · exact ⟨_, hTI⟩
          · exact ⟨_, hTO⟩
          · exact let ⟨o, e, _⟩ := hi1; ⟨o, e⟩
          · exact let ⟨o, e, _⟩ := hi2; ⟨o, e⟩
        obtain ⟨o, e⟩ := lt
        exact Nat.ne_of_lt (Heap.lt_size e)
      rw [zq q]
      exact (hf c hc').1
  done := by
    intro X hP hw hK hc i pins s σ H E I hf st hg
    subst hP hw hK
    obtain ⟨xs, ys, hq1, hq2, hx⟩ := hg
    obtain ⟨hz, hTI, ⟨u0, v0, hTO⟩, hi1, hi2⟩ := st
    obtain ⟨its1, rv1, p1, _⟩ := I.tuple hq1
    obtain ⟨its2, rv2, p2, _⟩ := I.tuple hq2
    have l1 := rv1.length
    have l2 := rv2.length
    have n1 : ∀ c ∈ [z, TI, TO, i1, i2], a ≠ c := fun c h => ziD I (hf c h) hq1
    have n2 : ∀ c ∈ [z, TI, TO, i1, i2], b ≠ c := fun c h => ziD I (hf c h) hq2
    have D : ZipApart z TI TO i1 i2 a b := ⟨V5.TIz, V5.TOz, V5.i1z, V5.i2z, V5.TITO, V5.TIi1, V5.TIi2, V5.TOi1, V5.TOi2, V5.i12, n1 z (by simp), n1 TO (by simp), n1 i1 (by simp), n1 i2 (by simp), n2 z (by simp), n2 TO (by simp), n2 i1 (by simp), n2 i2 (by simp)⟩
    have hT : s.TypeIs (.ref z) "zip" := ⟨_, hz, rfl⟩
    unfold pyNext
    refine wpAny_bind (wpAny_attempt (wpAny_callSpecial?_slot (name := Str.ofString "__next__") hT F.slot_zip_next (wpAny_call_entry F.slot_zip_next hT F.entry_zip_next
      (zeM (I.ok.hd hc) D (zaG D.l1i1) (zaG D.l2i2) hz hTI hTO ⟨hi1, p1⟩ ⟨hi2, p2⟩ (hx.imp (fun h => by simp; omega) fun h => by simp; omega) fun h1 e kk he => ?_) (F.args_zip_next_1 _))))
    obtain ⟨o, ho, hco⟩ := he
    refine wpAny_bind (wpAny_isInstance (T := "StopIteration") (b := true) ⟨o, ho, hco⟩ isSubtype_stop ?_)
    exact wpAny_pure ⟨rfl, Inv.turnL (t' := s.toks) I hf fun c o nc e => kk c o (fun q => nc (by simp [q])) (fun q => nc (by simp [q])) (fun q => nc (by simp [q])) (fun q => nc (by simp [q])) e⟩
  self := fun _ _ _ _ _ st h => wpAny_pyIter_zip st.1 h
end L2
namespace L2
open PySem PySem.Spec PyProof.Rows PySem.W
abbrev zt1 (h : Heap) (a : Addr) : Heap := h.push { cls := .type "tuple_iterator", data := .fields #[.ref a, .int 0 0] }
abbrev zt2 (h : Heap) (a b : Addr) : Heap := (zt1 h a).push { cls := .type "tuple_iterator", data := .fields #[.ref b, .int 0 0] }
abbrev zt3 (h : Heap) (a b : Addr) : Heap := (zt2 h a b).push { cls := .type "tuple", data := .seq #[.ref h.objs.size, .ref (zt1 h a).objs.size] }
abbrev zt4 (h : Heap) (a b : Addr) : Heap := (zt3 h a b).push { cls := .type "tuple", data := .seq #[.none, .none] }
abbrev zt5 (h : Heap) (a b : Addr) : Heap := (zt4 h a b).push { cls := .type "zip", data := .fields #[.none, .bool false, .bool false, .ref (zt2 h a b).objs.size, .ref (zt3 h a b).objs.size] }
theorem ziF (a b : Addr) (xs ys : Array Value) :
    Meets (Builtin.«zip.__new__» ⟨[.type "zip", .ref a, .ref b], []⟩) (fun _ R s => IsTup s.heap a xs ∧ IsTup s.heap b ys ∧ R (.ok (.ret (.ref (zt4 s.heap a b).objs.size))) { s with heap := zt5 s.heap a b }) :=
  .of_wp fun prog w A R s h => by
    obtain ⟨hp, g, d, tk, os⟩ := s
    obtain ⟨h1, h2, h⟩ := h
    have hsub := sub_zip
    have H1 : IsTup (Shared.heap ⟨hp, g, d, tk, os⟩) a xs := h1
    have H2 : IsTup (Shared.heap ⟨hp.push { cls := .type "tuple_iterator", data := .fields #[.ref a, .int 0 0] }, g, d, tk, os⟩) b ys := h2.push _
    wp_walk using iter_tuple H1, iter_tuple H2
    exact ⟨_, rfl, h⟩
section
variable {prog : Program} {w : World} {A : Around} {E : Value → Shared → Prop} {s : Shared}
theorem zhi {a b : Addr} {xs ys : Array Value} {Q : Value → Shared → Prop} (h1 : IsTup s.heap a xs) (h2 : IsTup s.heap b ys)
    (h : Zst (s.heap.objs.size + 4) (s.heap.objs.size + 2) (s.heap.objs.size + 3) s.heap.objs.size (s.heap.objs.size + 1) a b 0 (zt5 s.heap a b) → Q (.ref (s.heap.objs.size + 4)) { s with heap := zt5 s.heap a b }) :
    wpAny (model prog w) A (call (.type "zip") [.ref a, .ref b]) Q E s := by
  refine callType_new F.called_zip (by decide) (F.typeCall_zip_2 _ _) (F.newCall_zip_2 _ _) (fun obj => F.args_object_init_3 obj _ _) F.entry_zip_new (ziF a b xs ys) ⟨h1, h2, ?_⟩
  have z1 : (zt1 s.heap a).objs.size = s.heap.objs.size + 1 := Heap.size_push ..
  have z2 : (zt2 s.heap a b).objs.size = s.heap.objs.size + 2 := by rw [Heap.size_push, z1]
  have z3 : (zt3 s.heap a b).objs.size = s.heap.objs.size + 3 := by rw [Heap.size_push, z2]
  have z4 : (zt4 s.heap a b).objs.size = s.heap.objs.size + 4 := by rw [Heap.size_push, z3]
  have g5 : (zt5 s.heap a b).get? (zt4 s.heap a b).objs.size = some _ := Heap.get?_push_size _ rfl
  have g4 : (zt5 s.heap a b).get? (zt3 s.heap a b).objs.size = some _ := Heap.get?_push_of_some _ (Heap.get?_push_size _ rfl)
  have g3 : (zt5 s.heap a b).get? (zt2 s.heap a b).objs.size = some _ := Heap.get?_push_of_some _ (Heap.get?_push_of_some _ (Heap.get?_push_size _ rfl))
  have g2 : (zt5 s.heap a b).get? (zt1 s.heap a).objs.size = some _ := Heap.get?_push_of_some _ (Heap.get?_push_of_some _ (Heap.get?_push_of_some _ (Heap.get?_push_size _ rfl)))
  have g1 : (zt5 s.heap a b).get? s.heap.objs.size = some _ := Heap.get?_push_of_some _ (Heap.get?_push_of_some _ (Heap.get?_push_of_some _ (Heap.get?_push_of_some _ (Heap.get?_push_size _ rfl))))
  show _ ∧ _
  rw [z2, z3, z4] at g5
  rw [z1, z2] at g3
  rw [z3] at g4
  rw [z1] at g2
  rw [z4]
  exact ⟨⟨_, g5, rfl⟩, h ⟨g5, g3, ⟨_, _, g4⟩, ⟨_, g1, rfl, rfl⟩, ⟨_, g2, rfl, rfl⟩⟩⟩
end
theorem zfW : bootBuiltins "zip" = some (.type "zip") := by decide +kernel
def iZip (K : Frag) (ta : TA) : TI := fun σ H R => ta σ H fun vs H1 => ∃ a b, vs = [.ref a, .ref b] ∧ (∃ xs, SqT K H1 a xs) ∧ (∃ ys, SqT K H1 b ys) ∧ R (Itz K a b) H1
theorem zlZ {X : Cx} {elts : List Expr} {kt : Nat} {tp : Pos} {x y : Expr} {ta : TA} {p pos : Pos} (hg : Gl X "zip") (hm : X.mg "zip" = none) (ha : PA X [x, y] ta) (hs : starEach [x, y] X.env = [(false, eval x X.env), (false, eval y X.env)] := by rfl) (hs2 : starEach [y] X.env = [(false, eval y X.env)] := by rfl) :
    PI X (.Tuple elts kt tp) (.Call (.Name "zip" p) [x, y] [] pos) (iZip X.K ta) := by
  intro pins s σ H R I h
  refine Call_ (zcA I hg hm zfW (PyProof.Rows.callWith_type1 (thn (ha pos pins s σ H _ I h) fun us s1 ⟨vs, H1, I1, r1, q1⟩ => ?_) (by rw [hs, hs2]) (by rw [hs2]; rfl)))
  obtain ⟨a, b, e, ⟨xs, hq1⟩, ⟨ys, hq2⟩, q⟩ := q1
  subst e
  obtain ⟨u, v, rfl, ru, rv⟩ := zj6 r1
  obtain rfl : u = Value.ref a := ru
  obtain rfl : v = Value.ref b := rv
  obtain ⟨its1, _, p1, _⟩ := I1.tuple hq1
  obtain ⟨its2, _, p2, _⟩ := I1.tuple hq2
  refine zhi p1 p2 fun st => wpAny_pyIter_zip st.1 ?_
  have kk : ∀ c o, s1.heap.get? c = some o → (zt5 s1.heap a b).get? c = some o := fun c o e => Heap.get?_push_of_some _ (Heap.get?_push_of_some _ (Heap.get?_push_of_some _ (Heap.get?_push_of_some _ (Heap.get?_push_of_some _ e))))
  refine ⟨_, [s1.heap.objs.size + 4, s1.heap.objs.size + 2, s1.heap.objs.size + 3, s1.heap.objs.size, s1.heap.objs.size + 1], _, _, H1, rfl, I1.kept (t' := s1.toks) kk, ziE ?_, st, fun c hc => ?_, q⟩
  · have ne : ∀ (n i j : Nat), i ≠ j → n + i ≠ n + j := fun n i j h z => h (Nat.add_left_cancel z)
    have ne0 : ∀ (n i : Nat), i ≠ 0 → n + i ≠ n := fun n i h z => h (by omega)
    exact ⟨ne _ 2 4 (by decide), ne _ 3 4 (by decide), (ne0 _ 4 (by decide)).symm, ne _ 1 4 (by decide), ne _ 2 3 (by decide), ne0 _ 2 (by decide), ne _ 2 1 (by decide), ne0 _ 3 (by decide), ne _ 3 1 (by decide), (ne0 _ 1 (by decide)).symm⟩
  · have le : s1.heap.objs.size ≤ c := by
      simp only [List.mem_cons, List.not_mem_nil, or_false] at hc
      rcases hc with q | q | q | q | q <;> rw [q] <;> first | exact Nat.le_refl _ | exact Nat.le_add_right _ _
    exact I1.fpOk le (I1.hok.fresh le)
end L2
namespace L2
open PySem PySem.Spec PyProof.Rows PySem.W
structure KD (X : Cx) (a : Addr) : Prop where
  ob : ∃ es n, X.K.lookup a = some ⟨.type "dict", none, .dict es n, #[]⟩ ∧ KeysLit X.w.params es.toList
  no : (a == sysModules) = false
section
variable {X : Cx}
theorem zna : IxR X (fun x y H Q => ∃ a z u v, x = .ref a ∧ y = .str z ∧ KD X a ∧ nsIn X.K a z = some (some u) ∧ RelV v u ∧ Q v H) := by
  intro a b pins s σ H x y v u Q I rx ry h hs
  obtain ⟨p, z, u', v', rfl, rfl, ⟨⟨es, n, hl, hk⟩, _⟩, e, rv, q⟩ := h
  obtain rfl : v = Value.ref p := rx
  obtain ⟨t, rfl⟩ := ry
  obtain ⟨m, F⟩ := I.fr
  exact topItem_K F I.ok.mod.kin hl hk e ⟨v', H, I.tok _, rv, q⟩ hs
theorem zfv : OpR X (compareOp .NotIn) (fun x y H Q => ∃ a z r, x = .str z ∧ y = .ref a ∧ KD X a ∧ nsIn X.K a z = some r ∧ Q (.bl (!r.isSome)) H) := by
  intro pins s σ H x y v u Q I rx ry h
  obtain ⟨p, z, r, rfl, rfl, ⟨⟨es, n, hl, hk⟩, no⟩, e, q⟩ := h
  obtain rfl : u = Value.ref p := ry
  obtain ⟨t, rfl⟩ := rx
  refine wpAny_notIn_of (strKind_is X.prog X.w z t) no (mapOf_K (prog := X.prog) I.kIn hl hk) ?_
  rw [find_K hl e]
  exact ⟨.bl (!r.isSome), H, I.tok _, rfl, q⟩
end
end L2
namespace L2
open PySem PySem.Spec PyProof.Rows PySem.W
end L2
namespace Mi
open PySem L2 PySem.W
inductive PV where
  | non | bl (b : Bool) | int (i : Int) | str (x : Str) | ty (n : String)
  | tup (xs : List PV) | frl (xs : List PV) | ref (n : Nat) | fn (x : Str) | kd (ks : List Str) (xs : List PV) | exo (c : Str) (ks : List Str) (xs : List PV)
inductive SO where
  | lst (xs : List PV) | dic (ks : List Str) (xs : List PV) | ins (c : Str) (ks : List Str) (xs : List PV) | fdi (ks : List Str) (xs : List PV)
abbrev Sto := List SO
inductive Res (α : Type) where
  | ok (a : α) (st : Sto) | err (c : Str) (ks : List Str) (xs : List PV) (st : Sto) | stuck
abbrev Mo (α : Type) := Sto → Res α
def Res.bind {α β : Type} : Res α → (α → Mo β) → Res β
  | .ok a st, f => f a st
  | .err c ks xs st, _ => .err c ks xs st
  | .stuck, _ => .stuck
abbrev PEnv := List (Option PV)
def KDs (K : Frag) (a : Addr) (ks : List Str) (us : List Value) : Prop := ∀ z, nsIn K a z = some ((ks.zip us).lookup z)
def FrL (K : Frag) (H : Hp) (a : Addr) (vs : List V) : Prop :=
  (∃ o, H a = some (.frz o (.lst vs))) ∨ ∃ (o : Obj) (its : Array Value) (n : Nat), K.lookup a = some o ∧ o.cls = .type "list" ∧ o.dict = none ∧ o.data = .seq its n ∧ its.size ≤ sizeLine ∧ Vals vs its.toList
theorem FrL.sq {K : Frag} {H : Hp} {a : Addr} {vs : List V} (h : FrL K H a vs) : SqL K H a vs := by
  rcases h with ⟨o, h⟩ | h
  · exact .inl (.inr ⟨o, h⟩)
  · exact .inr h
section
variable (K : Frag) (mg : Str → Option Value)
mutual
def R (ρ : List Addr) (H : Hp) : PV → V → Prop
  | .non, v => v = .non
  | .bl b, v => v = .bl b
  | .int i, v => v = .int i
  | .str x, v => v = .str x
  | .ty n, v => v = .ty n
  | .tup xs, v => ∃ a vs, v = .ref a ∧ SqT K H a vs ∧ Rs ρ H xs vs
  | .frl xs, v => ∃ a vs, v = .ref a ∧ FrL K H a vs ∧ Rs ρ H xs vs
  | .ref n, v => ∃ a, v = .ref a ∧ ρ[n]? = some a
  | .fn x, v => ∃ f, v = .ref f ∧ mg x = some (.ref f)
  | .kd ks xs, v => ∃ a us vs, v = .ref a ∧ KDs K a ks us ∧ Vals vs us ∧ Rs ρ H xs vs
  | .exo c ks xs, v => ∃ a C d vs, v = .ref a ∧ mg c = some (.ref C) ∧ H a = some (exC C (some d) a) ∧ H d = some (.xd (ks.zip vs)) ∧ Rs ρ H xs vs ∧ ks.length = vs.length
def Rs (ρ : List Addr) (H : Hp) : List PV → List V → Prop
  | [], vs => vs = []
  | x :: xs, vs => ∃ v r, vs = v :: r ∧ R ρ H x v ∧ Rs ρ H xs r
end
def SoR (ρ : List Addr) (H : Hp) : SO → Addr → Prop
  | .lst xs, a => ∃ vs, H a = some (.lst vs) ∧ Rs K mg ρ H xs vs
  | .dic ks xs, a => ∃ vs, H a = some (.dK ((ks.map Sum.inr).zip vs)) ∧ Rs K mg ρ H xs vs ∧ ks.length = vs.length
  | .ins c ks xs, a => ∃ C dx vs, mg c = some (.ref C) ∧ H a = some (.ins C dx (ks.zip vs)) ∧ Rs K mg ρ H xs vs ∧ ks.length = vs.length
  | .fdi ks xs, a => ∃ o vs, H a = some (.frz o (.dK ((ks.map Sum.inr).zip vs))) ∧ Rs K mg ρ H xs vs ∧ ks.length = vs.length
structure StR (ρ : List Addr) (H : Hp) (st : Sto) : Prop where
  len : ρ.length = st.length
  nd : ρ.Nodup
  at_ : ∀ (n : Nat) so, st[n]? = some so → ∃ a, ρ[n]? = some a ∧ SoR K mg ρ H so a
def Imm : HO → Bool
  | .tup _ => true
  | .frz _ _ => true
  | .xd _ => true
  | .ext _ => true
  | _ => false
structure Ext (ρ : List Addr) (H : Hp) (ρ' : List Addr) (H' : Hp) : Prop where
  pre : ∃ δ, ρ' = ρ ++ δ
  imm : ∀ a o, H a = some o → Imm o = true → H' a = some o
def XR (ρ : List Addr) (H : Hp) (c : Str) (ks : List Str) (xs : List PV) (Cv : Value) (d : Option Addr) : Prop :=
  ∃ C, Cv = .ref C ∧ mg c = some (.ref C) ∧ ((ks = [] ∧ d = none) ∨ ∃ dd vs, d = some dd ∧ H dd = some (.xd (ks.zip vs)) ∧ Rs K mg ρ H xs vs ∧ ks.length = vs.length)
def Out {α : Type} (ρ : List Addr) (H : Hp) (r : Res α) (good : List Addr → Hp → α → Sto → Prop) (E : XK) : Prop :=
  match r with
  | .ok x st => ∀ ρ' H', Ext ρ H ρ' H' → StR K mg ρ' H' st → good ρ' H' x st
  | .err c ks xs st => ∀ ρ' H' C d, Ext ρ H ρ' H' → StR K mg ρ' H' st → XR K mg ρ' H' c ks xs C d → E C d H'
  | .stuck => False
structure EnvR (ρ : List Addr) (H : Hp) (env : PEnv) (σ : St) : Prop where
  len : env.length = σ.length
  at_ : ∀ (i : Nat) x, env[i]? = some (some x) → ∃ v, σ[i]? = some (some v) ∧ R K mg ρ H x v
def gV (Q : VK) : List Addr → Hp → PV → Sto → Prop := fun ρ H x _ => ∀ v, R K mg ρ H x v → Q v H
def gVs (Q : List V → Hp → Prop) : List Addr → Hp → List PV → Sto → Prop := fun ρ H x _ => ∀ v, Rs K mg ρ H x v → Q v H
def gB (Q : Bool → Hp → Prop) : List Addr → Hp → Bool → Sto → Prop := fun _ H x _ => Q x H
inductive Fl where
  | nx (env : PEnv) | rt (x : PV) | bk (env : PEnv) | ct (env : PEnv)
def gS (D : Ends) : List Addr → Hp → Fl → Sto → Prop := fun ρ H x _ =>
  match x with
  | .nx env => ∀ σ, EnvR K mg ρ H env σ → D.nx σ H
  | .rt x => ∀ v, R K mg ρ H x v → D.rt v H
  | .bk env => ∀ σ, EnvR K mg ρ H env σ → D.bk σ H
  | .ct env => ∀ σ, EnvR K mg ρ H env σ → D.ct σ H
end
section
variable {K : Frag} {mg : Str → Option Value} {ρ ρ1 ρ2 : List Addr} {H H1 H2 : Hp}
theorem Ext.refl : Ext ρ H ρ H := ⟨⟨[], by simp⟩, fun _ _ h _ => h⟩
theorem Ext.trans (a : Ext ρ H ρ1 H1) (b : Ext ρ1 H1 ρ2 H2) : Ext ρ H ρ2 H2 := by
  obtain ⟨⟨d, hd⟩, i⟩ := a
  obtain ⟨⟨d', hd'⟩, i'⟩ := b
  exact ⟨⟨d ++ d', by rw [hd', hd, List.append_assoc]⟩, fun a o h m => i' a o (i a o h m) m⟩
theorem Ext.get (a : Ext ρ H ρ1 H1) {n : Nat} {p : Addr} (h : ρ[n]? = some p) : ρ1[n]? = some p := by
  obtain ⟨⟨d, hd⟩, _⟩ := a
  rw [hd, List.getElem?_append_left (List.getElem?_eq_some_iff.mp h).1]
  exact h
theorem Ext.sqT (e : Ext ρ H ρ1 H1) {a : Addr} {xs : List V} (h : SqT K H a xs) : SqT K H1 a xs := by
  rcases h with (h | ⟨o, h⟩) | h
  · exact .inl (.inl (e.imm _ _ h rfl))
  · exact .inl (.inr ⟨o, e.imm _ _ h rfl⟩)
  · exact .inr h
theorem Ext.frl (e : Ext ρ H ρ1 H1) {a : Addr} {xs : List V} (h : FrL K H a xs) : FrL K H1 a xs := by
  rcases h with ⟨o, h⟩ | h
  · exact .inl ⟨o, e.imm _ _ h rfl⟩
  · exact .inr h
mutual
theorem R.ext (e : Ext ρ H ρ1 H1) : ∀ (x : PV) {v : V}, R K mg ρ H x v → R K mg ρ1 H1 x v
  | .non, _, h => h
  | .bl _, _, h => h
  | .int _, _, h => h
  | .str _, _, h => h
  | .ty _, _, h => h
  | .tup xs, _, h => by
    obtain ⟨a, vs, h1, h2, h3⟩ := h
    exact ⟨a, vs, h1, e.sqT h2, Rs.ext e xs h3⟩
  | .frl xs, _, h => by
    obtain ⟨a, vs, h1, h2, h3⟩ := h
    exact ⟨a, vs, h1, e.frl h2, Rs.ext e xs h3⟩
  | .ref n, _, h => by
    obtain ⟨a, h1, h2⟩ := h
    exact ⟨a, h1, e.get h2⟩
  | .fn _, _, h => h
  | .kd ks xs, _, h => by
    obtain ⟨a, us, vs, h1, h2, h4, h3⟩ := h
    exact ⟨a, us, vs, h1, h2, h4, Rs.ext e xs h3⟩
  | .exo c ks xs, _, h => by
    obtain ⟨a, C, d, vs, h1, h2, h3, h4, h5, h6⟩ := h
    exact ⟨a, C, d, vs, h1, h2, e.imm _ _ h3 rfl, e.imm _ _ h4 rfl, Rs.ext e xs h5, h6⟩
theorem Rs.ext (e : Ext ρ H ρ1 H1) : ∀ (xs : List PV) {vs : List V}, Rs K mg ρ H xs vs → Rs K mg ρ1 H1 xs vs
  | [], _, h => h
  | x :: xs, _, h => by
    obtain ⟨v, r, h1, h2, h3⟩ := h
    exact ⟨v, r, h1, R.ext e x h2, Rs.ext e xs h3⟩
end
theorem EnvR.ext (e : Ext ρ H ρ1 H1) {env : PEnv} {σ : St} (h : EnvR K mg ρ H env σ) : EnvR K mg ρ1 H1 env σ :=
  ⟨h.len, fun i x hx => let ⟨v, a, b⟩ := h.at_ i x hx; ⟨v, a, R.ext e x b⟩⟩
theorem Rs.len : ∀ {xs : List PV} {vs : List V}, Rs K mg ρ H xs vs → xs.length = vs.length
  | [], _, h => by cases h; rfl
  | x :: xs, _, h => by
    obtain ⟨v, r, rfl, _, h3⟩ := h
    simp [Rs.len h3]
theorem Rs.get : ∀ {xs : List PV} {vs : List V} {i : Nat} {x : PV}, Rs K mg ρ H xs vs → xs[i]? = some x → ∃ v, vs[i]? = some v ∧ R K mg ρ H x v
  | [], _, _, _, _, e => by simp at e
  | x :: xs, _, 0, _, h, e => by
    obtain ⟨v, r, rfl, h2, h3⟩ := h
    simp at e
    subst e
    exact ⟨v, by simp, h2⟩
  | x :: xs, _, i + 1, y, h, e => by
    obtain ⟨v, r, rfl, h2, h3⟩ := h
    simp at e
    obtain ⟨v', h4, h5⟩ := Rs.get h3 e
    exact ⟨v', by simpa using h4, h5⟩
theorem Rs.append : ∀ {xs ys : List PV} {vs ws : List V}, Rs K mg ρ H xs vs → Rs K mg ρ H ys ws → Rs K mg ρ H (xs ++ ys) (vs ++ ws)
  | [], _, _, _, h, h' => by cases h; exact h'
  | x :: xs, _, _, _, h, h' => by
    obtain ⟨v, r, rfl, h2, h3⟩ := h
    exact ⟨v, r ++ _, rfl, h2, Rs.append h3 h'⟩
theorem Rs.take : ∀ {xs : List PV} {vs : List V} (n : Nat), Rs K mg ρ H xs vs → Rs K mg ρ H (xs.take n) (vs.take n)
  | [], _, n, h => by cases h; simp [Rs]
  | x :: xs, _, 0, h => by simp [Rs]
  | x :: xs, _, n + 1, h => by
    obtain ⟨v, r, rfl, h2, h3⟩ := h
    exact ⟨v, _, rfl, h2, Rs.take n h3⟩
theorem Rs.drop : ∀ {xs : List PV} {vs : List V} (n : Nat), Rs K mg ρ H xs vs → Rs K mg ρ H (xs.drop n) (vs.drop n)
  | [], _, n, h => by cases h; simp [Rs]
  | x :: xs, _, 0, h => h
  | x :: xs, _, n + 1, h => by
    obtain ⟨v, r, rfl, h2, h3⟩ := h
    exact Rs.drop n h3
theorem EnvR.set {env : PEnv} {σ : St} {x : PV} {v : V} (h : EnvR K mg ρ H env σ) (i : Nat) (r : R K mg ρ H x v) : EnvR K mg ρ H (env.set i (some x)) (σ.set i (some v)) := by
  refine ⟨by simp [h.len], fun j y hy => ?_⟩
  rw [List.getElem?_set] at hy ⊢
  by_cases hij : i = j
  · subst hij
    by_cases hl : i < env.length
    · rw [if_pos rfl, if_pos hl] at hy
      rw [if_pos rfl, if_pos (by rw [← h.len]; exact hl)]
      cases hy
      exact ⟨v, rfl, r⟩
    · rw [if_pos rfl, if_neg hl] at hy
      cases hy
  · rw [if_neg hij] at hy ⊢
    exact h.at_ j y hy
theorem EnvR.unset {env : PEnv} {σ : St} (h : EnvR K mg ρ H env σ) (i : Nat) : EnvR K mg ρ H (env.set i none) (σ.set i none) := by
  refine ⟨by simp [h.len], fun j y hy => ?_⟩
  rw [List.getElem?_set] at hy ⊢
  by_cases hij : i = j
  · subst hij
    by_cases hl : i < env.length
    · rw [if_pos rfl, if_pos hl] at hy
      cases hy
    · rw [if_pos rfl, if_neg hl] at hy
      cases hy
  · rw [if_neg hij] at hy ⊢
    exact h.at_ j y hy
theorem EnvR.cons {env : PEnv} {σ : St} {x : PV} {v : V} (h : EnvR K mg ρ H env σ) (r : R K mg ρ H x v) : EnvR K mg ρ H (some x :: env) (some v :: σ) := by
  refine ⟨by simp [h.len], fun j y hy => ?_⟩
  cases j with
  | zero => simp at hy; subst hy; exact ⟨v, by simp, r⟩
  | succ j => simp at hy; simpa using h.at_ j y hy
theorem StR.addr {st : Sto} {n : Nat} {so : SO} (s : StR K mg ρ H st) (e : st[n]? = some so) {a : Addr} (ha : ρ[n]? = some a) : SoR K mg ρ H so a := by
  obtain ⟨b, hb, h⟩ := s.at_ n so e
  rw [ha] at hb
  cases hb
  exact h
theorem SoR.some {so : SO} {a : Addr} (h : SoR K mg ρ H so a) : ∃ o, H a = some o ∧ True := by
  cases so with
  | lst xs => obtain ⟨vs, h, _⟩ := h; exact ⟨_, h, trivial⟩
  | dic ks xs => obtain ⟨vs, h, _⟩ := h; exact ⟨_, h, trivial⟩
  | ins c ks xs => obtain ⟨C, dx, vs, _, h, _⟩ := h; exact ⟨_, h, trivial⟩
  | fdi ks xs => obtain ⟨o, vs, h, _⟩ := h; exact ⟨_, h, trivial⟩
theorem StR.in_ {st : Sto} {n : Nat} {a : Addr} (s : StR K mg ρ H st) (h : ρ[n]? = some a) : ∃ so, st[n]? = some so ∧ SoR K mg ρ H so a := by
  have hl : n < st.length := by rw [← s.len]; exact (List.getElem?_eq_some_iff.mp h).1
  refine ⟨st[n], by simp [hl], s.addr (by simp [hl]) h⟩
theorem SoR.ext' {so : SO} {a : Addr} (e : Ext ρ H ρ1 H1) (h : SoR K mg ρ H so a) (k : H1 a = H a) : SoR K mg ρ1 H1 so a := by
  cases so with
  | lst xs => obtain ⟨vs, h1, h2⟩ := h; exact ⟨vs, by rw [k]; exact h1, Rs.ext e xs h2⟩
  | dic ks xs => obtain ⟨vs, h1, h2, h3⟩ := h; exact ⟨vs, by rw [k]; exact h1, Rs.ext e xs h2, h3⟩
  | ins c ks xs => obtain ⟨C, dx, vs, h0, h1, h2, h3⟩ := h; exact ⟨C, dx, vs, h0, by rw [k]; exact h1, Rs.ext e xs h2, h3⟩
  | fdi ks xs => obtain ⟨o, vs, h1, h2, h3⟩ := h; exact ⟨o, vs, by rw [k]; exact h1, Rs.ext e xs h2, h3⟩
theorem Ext.new {p : Addr} {o : HO} (hp : H p = none) : Ext ρ H ρ (upd H p o) :=
  ⟨⟨[], by simp⟩, fun a o' h _ => by rw [zq (zT h hp)]; exact h⟩
theorem StR.new {st : Sto} {p : Addr} {o : HO} (s : StR K mg ρ H st) (hp : H p = none) : StR K mg ρ (upd H p o) st :=
  ⟨s.len, s.nd, fun n so e => by
    obtain ⟨a, ha, h⟩ := s.at_ n so e
    obtain ⟨o', ho, _⟩ := h.some
    exact ⟨a, ha, h.ext' (Ext.new hp) (zq (zT ho hp))⟩⟩
theorem Ext.push {p : Addr} {o : HO} (hp : H p = none) : Ext ρ H (ρ ++ [p]) (upd H p o) :=
  ⟨⟨[p], rfl⟩, fun a o' h _ => by rw [zq (zT h hp)]; exact h⟩
theorem StR.push {st : Sto} {p : Addr} {o : HO} {so : SO} (s : StR K mg ρ H st) (hp : H p = none) (n : SoR K mg (ρ ++ [p]) (upd H p o) so p) : StR K mg (ρ ++ [p]) (upd H p o) (st ++ [so]) := by
  refine ⟨by simp [s.len], ?_, fun i so' e => ?_⟩
  · refine List.nodup_append.mpr ⟨s.nd, by simp, fun a ha b hb => ?_⟩
    obtain rfl : b = p := by simpa using hb
    obtain ⟨n, hn⟩ := List.getElem?_of_mem ha
    obtain ⟨so', _, h⟩ := s.in_ hn
    obtain ⟨o', ho, _⟩ := h.some
    exact zT ho hp
  · by_cases hi : i < st.length
    · rw [List.getElem?_append_left hi] at e
      obtain ⟨a, ha, h⟩ := s.at_ i so' e
      obtain ⟨o', ho, _⟩ := h.some
      exact ⟨a, (Ext.push (o := o) hp).get ha, h.ext' (Ext.push hp) (zq (zT ho hp))⟩
    · rw [List.getElem?_append_right (by omega)] at e
      have hi' : i = st.length := by
        have := (List.getElem?_eq_some_iff.mp e).1
        simp at this
        omega
      subst hi'
      simp at e
      subst e
      exact ⟨p, by rw [← s.len]; simp, n⟩
theorem Ext.write {a : Addr} {o o' : HO} (ha : H a = some o) (hi : Imm o = false) : Ext ρ H ρ (upd H a o') :=
  ⟨⟨[], by simp⟩, fun b u h m => by
    rw [zq]
    · exact h
    · intro z; subst z; rw [ha] at h; cases h; rw [hi] at m; cases m⟩
theorem StR.write {st : Sto} {n : Nat} {a : Addr} {o' : HO} {so : SO} (s : StR K mg ρ H st) (hn : ρ[n]? = some a) (ew : Ext ρ H ρ (upd H a o')) (h : SoR K mg ρ (upd H a o') so a) : StR K mg ρ (upd H a o') (st.set n so) := by
  refine ⟨by simp [s.len], s.nd, fun i so' e => ?_⟩
  rw [List.getElem?_set] at e
  by_cases hij : n = i
  · subst hij
    rw [if_pos rfl] at e
    split at e
    · cases e; exact ⟨a, hn, h⟩
    · cases e
  · rw [if_neg hij] at e
    obtain ⟨b, hb, q⟩ := s.at_ i so' e
    have ne : b ≠ a := by
      intro z
      subst z
      obtain ⟨h1, h2⟩ := List.getElem?_eq_some_iff.mp hn
      obtain ⟨h3, h4⟩ := List.getElem?_eq_some_iff.mp hb
      have pw := List.pairwise_iff_getElem.mp s.nd
      rcases Nat.lt_trichotomy n i with c | c | c
      · exact pw n i h1 h3 c (h2.trans h4.symm)
      · exact hij c
      · exact pw i n h3 h1 c (h4.trans h2.symm)
    exact ⟨b, hb, q.ext' ew (zq ne)⟩
section
variable {α β : Type} {E : XK} {good : List Addr → Hp → α → Sto → Prop}
theorem Out.ext {r : Res α} (h : Out K mg ρ H r good E) (e : Ext ρ H ρ1 H1) : Out K mg ρ1 H1 r good E := by
  cases r with
  | ok x st => exact fun ρ' H' e' s => h ρ' H' (e.trans e') s
  | err c ks xs st => exact fun ρ' H' C d e' s x => h ρ' H' C d (e.trans e') s x
  | stuck => exact h
theorem Out.mono {r : Res α} {good' : List Addr → Hp → α → Sto → Prop} (h : Out K mg ρ H r good E) (g : ∀ ρ' H' x st, Ext ρ H ρ' H' → StR K mg ρ' H' st → good ρ' H' x st → good' ρ' H' x st) : Out K mg ρ H r good' E := by
  cases r with
  | ok x st => exact fun ρ' H' e' s => g ρ' H' x st e' s (h ρ' H' e' s)
  | err c ks xs st => exact h
  | stuck => exact h
theorem Out.bind {r : Res β} {f : β → Mo α} (h : Out K mg ρ H (r.bind f) good E) : Out K mg ρ H r (fun ρ' H' x st => Out K mg ρ' H' (f x st) good E) E := by
  cases r with
  | ok x st => exact fun ρ' H' e' s => Out.ext h e'
  | err c ks xs st => exact h
  | stuck => exact h
theorem Out.then {r : Res β} {f : β → Mo α} {good' : List Addr → Hp → β → Sto → Prop} (h : Out K mg ρ H (r.bind f) good E) (g : ∀ ρ' H' x st, Ext ρ H ρ' H' → StR K mg ρ' H' st → Out K mg ρ' H' (f x st) good E → good' ρ' H' x st) : Out K mg ρ H r good' E := h.bind.mono g
theorem Out.now {x : α} {st : Sto} (h : Out K mg ρ H (.ok x st) good E) (s : StR K mg ρ H st) : good ρ H x st := h ρ H Ext.refl s
end
end
end Mi
namespace Mi
open PySem L2 PySem.W PySem.Spec
abbrev lim : Nat := 1000000
theorem zO {n : Nat} (h : n ≤ lim) : n ≤ sizeLine := by rw [sizeLine_eq]; show n ≤ 16777216; exact Nat.le_trans h (by decide)
section
variable (K : Frag) (mg : Str → Option Value)
def tM (Er : XK) (f : PEnv → Mo PV) : TE := fun σ H Q => ∃ env st ρ, EnvR K mg ρ H env σ ∧ StR K mg ρ H st ∧ Out K mg ρ H (f env st) (gV K mg Q) Er
def tMB (Er : XK) (f : PEnv → Mo Bool) : TT := fun σ H Q => ∃ env st ρ, EnvR K mg ρ H env σ ∧ StR K mg ρ H st ∧ Out K mg ρ H (f env st) (gB Q) Er
def tMA (Er : XK) (f : PEnv → Mo (List PV)) : TA := fun σ H Q => ∃ env st ρ, EnvR K mg ρ H env σ ∧ StR K mg ρ H st ∧ Out K mg ρ H (f env st) (gVs K mg Q) Er
def sM (Er : XK) (f : PEnv → Mo Fl) : TS := fun D σ H => ∃ env st ρ, EnvR K mg ρ H env σ ∧ StR K mg ρ H st ∧ Out K mg ρ H (f env st) (gS K mg D) Er
end
def ME (X : Cx) (Er : XK) (e : Expr) (f : PEnv → Mo PV) : Prop := PE X e (tM X.K X.mg Er f)
def MT (X : Cx) (Er : XK) (e : Expr) (f : PEnv → Mo Bool) : Prop := PT X e (tMB X.K X.mg Er f)
def MW (X : Cx) (Er : XK) (e : Expr) (f : PEnv → Mo Bool) : Prop := PW X e (tMB X.K X.mg Er f)
def MA (X : Cx) (Er : XK) (e : List Expr) (f : PEnv → Mo (List PV)) : Prop := PA X e (tMA X.K X.mg Er f)
def MS (X : Cx) (Er : XK) (e : Stmt) (f : PEnv → Mo Fl) : Prop := PS X e (sM X.K X.mg Er f)
def MSs (X : Cx) (Er : XK) (e : List Stmt) (f : PEnv → Mo Fl) : Prop := PSs X e (sM X.K X.mg Er f)
section
variable {X : Cx} {Er : XK} {e a b c : Expr} {es : List Expr} {pos : Pos} {t t' : TE}
theorem PE.weak (h : PE X e t) (w : ∀ σ H Q, t' σ H Q → t σ H Q) : PE X e t' := fun pins s σ H Q I q => h pins s σ H Q I (w σ H Q q)
theorem PT.weak {t t' : TT} (h : PT X e t) (w : ∀ σ H Q, t' σ H Q → t σ H Q) : PT X e t' := fun pins s σ H Q I q => h pins s σ H Q I (w σ H Q q)
theorem PW.weak {t t' : TT} (h : PW X e t) (w : ∀ σ H Q, t' σ H Q → t σ H Q) : PW X e t' := fun wh pins s σ H Q I q => h wh pins s σ H Q I (w σ H Q q)
theorem PA.weak {t t' : TA} (h : PA X es t) (w : ∀ σ H Q, t' σ H Q → t σ H Q) : PA X es t' := fun pos pins s σ H Q I q => h pos pins s σ H Q I (w σ H Q q)
theorem PS.weak {st : Stmt} {t t' : TS} (h : PS X st t) (w : ∀ D σ H, t' D σ H → t D σ H) : PS X st t' := fun pins s σ H D I q => h pins s σ H D I (w D σ H q)
theorem PSs.weak {st : List Stmt} {t t' : TS} (h : PSs X st t) (w : ∀ D σ H, t' D σ H → t D σ H) : PSs X st t' := fun pins s σ H D I q => h pins s σ H D I (w D σ H q)
def mVar (i : Nat) : PEnv → Mo PV := fun env st => match env[i]? with
  | some (some x) => .ok x st
  | _ => .stuck
def mC (x : PV) : PEnv → Mo PV := fun _ st => .ok x st
theorem zd (i : Nat) {x : Str} {pos : Pos} (hN : X.N[i]? = some x := by rfl) (hv : Vis X.env.scope x := by first | exact Or.inl rfl | exact Or.inr (Or.inl rfl) | exact Or.inr (Or.inr rfl)) (hd : (x == ("__debug__" : Str)) = false := by decide)
    (hcd : (x == ("__classdict__" : Str)) = false := by decide) : ME X Er (.Name x pos) (mVar i) := PE.weak (zjq hN hv hd hcd) fun σ H Q ⟨env, st, ρ, re, rs, h⟩ => by
  unfold mVar at h
  split at h
  · rename_i x' hx
    obtain ⟨v, h1, h2⟩ := re.at_ i x' hx
    exact ⟨v, h1, h.now rs v h2⟩
  · exact h.elim
theorem zd4 {x : PV} {v : V} (hp : PE X e (tC v)) (hr : ∀ ρ H, R X.K X.mg ρ H x v) : ME X Er e (mC x) := PE.weak hp fun σ H Q ⟨env, st, ρ, re, rs, h⟩ => h.now rs v (hr ρ H)
theorem ze {i : Int} {j} : ME X Er (.Constant (.int i) j pos) (mC (.int i)) := zd4 zlr fun _ _ => rfl
theorem zw {x : Str} {j} : ME X Er (.Constant (.str x) j pos) (mC (.str x)) := zd4 zjr fun _ _ => rfl
theorem zl0 {b : Bool} {j} : ME X Er (.Constant (.bool b) j pos) (mC (.bl b)) := zd4 zm0 fun _ _ => rfl
theorem zhj {j} : ME X Er (.Constant .none j pos) (mC .non) := zd4 zls fun _ _ => rfl
theorem zkr {x : Str} {p : PV} {v : V} {u : Value} (hm : X.mg x = some u) (r : RelV v u) (hr : ∀ ρ H, R X.K X.mg ρ H p v) (hg : Gl X x := by rfl) (hd : (x == ("__debug__" : Str)) = false := by decide) : ME X Er (.Name x pos) (mC p) := zd4 (zfp hg hm r hd) hr
def OpM (K : Frag) (mg : Str → Option Value) (r : R2) (op : PV → PV → Mo PV) : Prop := ∀ ρ H st x y v w (Q : VK) (E : XK), StR K mg ρ H st → R K mg ρ H x v → R K mg ρ H y w → Out K mg ρ H (op x y st) (gV K mg Q) E → r v w H Q
def mOp (op : PV → PV → Mo PV) (fa fb : PEnv → Mo PV) : PEnv → Mo PV := fun env st => (fa env st).bind fun x st1 => (fb env st1).bind fun y st2 => op x y st2
variable {fa fb fc : PEnv → Mo PV}
theorem ziG {r : R2} {op : PV → PV → Mo PV} {K : Frag} {mg : Str → Option Value} (hm : OpM K mg r op) {σ : St} {H : Hp} {Q : VK} (h : tM K mg Er (mOp op fa fb) σ H Q) : tOp r (tM K mg Er fa) (tM K mg Er fb) σ H Q := by
  obtain ⟨env, st, ρ, re, rs, h⟩ := h
  exact ⟨env, st, ρ, re, rs, h.then fun ρ1 H1 x st1 e1 s1 h1 v rv => ⟨env, st1, ρ1, re.ext e1, s1, h1.then fun ρ2 H2 y st2 e2 s2 h2 w rw => hm ρ2 H2 st2 x y v w Q Er s2 (R.ext e2 x rv) rw h2⟩⟩
theorem znb {o : Operator} {r : R2} {op : PV → PV → Mo PV} (ho : OpR X (binaryOp o) r) (hm : OpM X.K X.mg r op) (ha : ME X Er a fa) (hb : ME X Er b fb) : ME X Er (.BinOp a o b pos) (mOp op fa fb) :=
  PE.weak (zm3 ho ha hb) fun σ H Q h => ziG hm h
theorem zl1 {o : CmpOp} {r : R2} {op : PV → PV → Mo PV} (ho : OpR X (compareOp o) r) (hm : OpM X.K X.mg r op) (ha : ME X Er a fa) (hb : ME X Er b fb) (hk : behindInMarks o b = false) : ME X Er (.Compare a [o] [b] pos) (mOp op fa fb) :=
  PE.weak (zj5 ho ha hb hk) fun σ H Q h => ziG hm h
def asB : PV → Mo Bool
  | .bl b, st => .ok b st
  | _, _ => .stuck
def mB (f : PEnv → Mo PV) : PEnv → Mo Bool := fun env st => (f env st).bind asB
theorem zl2 {K : Frag} {mg : Str → Option Value} {ρ : List Addr} {H : Hp} {x : PV} {st : Sto} {Q : Bool → Hp → Prop} (s : StR K mg ρ H st) (h : Out K mg ρ H (asB x st) (gB Q) Er) {v : V} (r : R K mg ρ H x v) : ∃ k, v = .bl k ∧ Q k H := by
  unfold asB at h
  split at h
  · cases r; exact ⟨_, rfl, h.now s⟩
  · exact h.elim
theorem zks {α : Type} {K : Frag} {mg : Str → Option Value} {ρ : List Addr} {H : Hp} {x : PV} {st : Sto} {f : Bool → Mo α} {good : List Addr → Hp → α → Sto → Prop} (h : Out K mg ρ H ((asB x st).bind f) good Er) : ∃ k, x = .bl k ∧ Out K mg ρ H (f k st) good Er := by
  cases x with
  | bl k => exact ⟨k, rfl, h⟩
  | _ => exact False.elim h
theorem znc {f : PEnv → Mo PV} {K : Frag} {mg : Str → Option Value} {σ : St} {H : Hp} {Q : Bool → Hp → Prop} (h : tMB K mg Er (mB f) σ H Q) : tM K mg Er f σ H fun x H1 => ∃ c, x = .bl c ∧ Q c H1 := by
  obtain ⟨env, st, ρ, re, rs, h⟩ := h
  exact ⟨env, st, ρ, re, rs, h.then fun ρ1 H1 x st1 e1 s1 h1 v rv => zl2 s1 h1 rv⟩
theorem zl3 {o : CmpOp} {r : R2} {op : PV → PV → Mo PV} (ho : OpR X (compareOp o) r) (hm : OpM X.K X.mg r op) (ha : ME X Er a fa) (hb : ME X Er b fb) (hk : behindInMarks o b = false) : MT X Er (.Compare a [o] [b] pos) (mB (mOp op fa fb)) :=
  PT.weak (zgV ho ha hb hk) fun σ H Q h => ziG hm (znc h)
theorem zbm (h : ME X Er e fa) (he : ∀ whole, isTrue e X.env whole = (do let v ← whole; standAt e.pos; holding [v] (truthy v)) := by intro _; rfl) : MT X Er e (mB fa) :=
  PT.weak (zlt h he) fun σ H Q h => znc h
def UnM (K : Frag) (mg : Str → Option Value) (r : V → Hp → VK → Prop) (op : PV → Mo PV) : Prop := ∀ ρ H st x v (Q : VK) (E : XK), StR K mg ρ H st → R K mg ρ H x v → Out K mg ρ H (op x st) (gV K mg Q) E → r v H Q
def mUn (op : PV → Mo PV) (fa : PEnv → Mo PV) : PEnv → Mo PV := fun env st => (fa env st).bind op
theorem znd {o : UnaryOp} {r : V → Hp → VK → Prop} {op : PV → Mo PV} (ho : UnR X (unaryOp o) r) (hm : UnM X.K X.mg r op) (ha : ME X Er a fa) : ME X Er (.UnaryOp o a pos) (mUn op fa) :=
  PE.weak (zm4 ho ha) fun σ H Q ⟨env, st, ρ, re, rs, h⟩ => ⟨env, st, ρ, re, rs, h.then fun ρ1 H1 x st1 e1 s1 h1 v rv => hm ρ1 H1 st1 x v Q Er s1 rv h1⟩
variable {ga gb : PEnv → Mo Bool} {rest : List Expr}
def bAnd (ga gb : PEnv → Mo Bool) : PEnv → Mo Bool := fun env st => (ga env st).bind fun c st1 => if c = true then gb env st1 else .ok false st1
def bOr (ga gb : PEnv → Mo Bool) : PEnv → Mo Bool := fun env st => (ga env st).bind fun c st1 => if c = true then .ok true st1 else gb env st1
def bNot (ga : PEnv → Mo Bool) : PEnv → Mo Bool := fun env st => (ga env st).bind fun c st1 => .ok (!c) st1
theorem zkt (ha : MT X Er a ga) : MW X Er (.BoolOp .And [a] pos) ga := zj0 ha
theorem zl4 (ha : MT X Er a ga) : MW X Er (.BoolOp .Or [a] pos) ga := zlu ha
theorem zl5 (ha : MT X Er a ga) (hb : MW X Er (.BoolOp .And (b :: rest) pos) gb) : MW X Er (.BoolOp .And (a :: b :: rest) pos) (bAnd ga gb) :=
  PW.weak (zlv ha hb) fun σ H Q ⟨env, st, ρ, re, rs, h⟩ => ⟨env, st, ρ, re, rs, h.then fun ρ1 H1 k st1 e1 s1 h1 => by
    cases k with
    | true => exact ⟨env, st1, ρ1, re.ext e1, s1, h1⟩
    | false => exact h1.now s1⟩
theorem zl6 (ha : MT X Er a ga) (hb : MW X Er (.BoolOp .Or (b :: rest) pos) gb) : MW X Er (.BoolOp .Or (a :: b :: rest) pos) (bOr ga gb) :=
  PW.weak (zm1 ha hb) fun σ H Q ⟨env, st, ρ, re, rs, h⟩ => ⟨env, st, ρ, re, rs, h.then fun ρ1 H1 k st1 e1 s1 h1 => by
    cases k with
    | false => exact ⟨env, st1, ρ1, re.ext e1, s1, h1⟩
    | true => exact h1.now s1⟩
theorem znL {op : BoolOp} (h : MW X Er (.BoolOp op es pos) ga) : MT X Er (.BoolOp op es pos) ga := PW.pt h
theorem zjy (ha : MT X Er a ga) : MT X Er (.UnaryOp .Not a pos) (bNot ga) := PT.weak (zlw ha) fun σ H Q ⟨env, st, ρ, re, rs, h⟩ => ⟨env, st, ρ, re, rs, h.then fun ρ1 H1 k st1 e1 s1 h1 => h1.now s1⟩
def mAnd (fa fb : PEnv → Mo PV) : PEnv → Mo PV := fun env st => (fa env st).bind fun x st1 => (asB x st1).bind fun c st2 => if c = true then fb env st2 else .ok (.bl false) st2
theorem zl7 {op} (h : ME X Er a fa) : ME X Er (.BoolOp op [a] pos) fa := zlx h
theorem zl8 (ha : ME X Er a fa) (hb : ME X Er (.BoolOp .And (b :: rest) pos) fb) : ME X Er (.BoolOp .And (a :: b :: rest) pos) (mAnd fa fb) :=
  PE.weak (zly ha hb) fun σ H Q ⟨env, st, ρ, re, rs, h⟩ => ⟨env, st, ρ, re, rs, h.then fun ρ1 H1 x st1 e1 s1 h1 v rv => by
    obtain ⟨k, rfl, h1⟩ := zks h1
    cases rv
    refine ⟨k, rfl, ?_⟩
    cases k with
    | true => exact ⟨env, st1, ρ1, re.ext e1, s1, h1⟩
    | false => exact Out.now (x := PV.bl false) h1 s1 _ rfl⟩
def mIf (g : PEnv → Mo Bool) (fa fb : PEnv → Mo PV) : PEnv → Mo PV := fun env st => (g env st).bind fun c st1 => if c = true then fa env st1 else fb env st1
theorem zl9 {c : Expr} (hc : MT X Er c ga) (ha : ME X Er a fa) (hb : ME X Er b fb) : ME X Er (.IfExp c a b pos) (mIf ga fa fb) :=
  PE.weak (zij hc ha hb) fun σ H Q ⟨env, st, ρ, re, rs, h⟩ => ⟨env, st, ρ, re, rs, h.then fun ρ1 H1 k st1 e1 s1 h1 => by
    cases k with
    | true => exact ⟨env, st1, ρ1, re.ext e1, s1, h1⟩
    | false => exact ⟨env, st1, ρ1, re.ext e1, s1, h1⟩⟩
def aNil : PEnv → Mo (List PV) := fun _ st => .ok [] st
def aCons (f : PEnv → Mo PV) (fs : PEnv → Mo (List PV)) : PEnv → Mo (List PV) := fun env st => (f env st).bind fun x st1 => (fs env st1).bind fun xs st2 => .ok (x :: xs) st2
variable {fs : PEnv → Mo (List PV)}
theorem zg : MA X Er [] aNil := PA.weak zgZ fun σ H Q ⟨env, st, ρ, re, rs, h⟩ => h.now rs [] rfl
theorem zc (ha : ME X Er e fa) (hr : MA X Er es fs) (hs : starEach (e :: es) X.env = (false, eval e X.env) :: starEach es X.env := by rfl) : MA X Er (e :: es) (aCons fa fs) :=
  PA.weak (zfr ha hr hs) fun σ H Q ⟨env, st, ρ, re, rs, h⟩ => ⟨env, st, ρ, re, rs, h.then fun ρ1 H1 x st1 e1 s1 h1 v rv => ⟨env, st1, ρ1, re.ext e1, s1, h1.then fun ρ2 H2 xs st2 e2 s2 h2 vs rvs =>
    h2.now s2 (v :: vs) ⟨v, vs, rfl, R.ext e2 x rv, rvs⟩⟩⟩
def mTup (fs : PEnv → Mo (List PV)) : PEnv → Mo PV := fun env st => (fs env st).bind fun xs st1 => if xs.length ≤ lim then .ok (.tup xs) st1 else .stuck
def mLst (fs : PEnv → Mo (List PV)) : PEnv → Mo PV := fun env st => (fs env st).bind fun xs st1 => if xs.length ≤ lim then .ok (.ref st1.length) (st1 ++ [.lst xs]) else .stuck
theorem R.tup_of {K : Frag} {mg : Str → Option Value} {ρ : List Addr} {H : Hp} {xs : List PV} {vs : List V} {p : Addr} (r : Rs K mg ρ H xs vs) (hp : H p = none) : R K mg ρ (upd H p (.tup vs)) (.tup xs) (.ref p) :=
  ⟨p, vs, rfl, SqT.of zu, Rs.ext (Ext.new hp) xs r⟩
theorem zH {x1} (h : MA X Er es fs) : ME X Er (.Tuple es x1 pos) (mTup fs) :=
  PE.weak (zlL h) fun σ H Q ⟨env, st, ρ, re, rs, h⟩ => ⟨env, st, ρ, re, rs, h.then fun ρ1 H1 xs st1 e1 s1 h1 vs rv => by
    split at h1
    · rename_i hl
      exact ⟨by rw [← rv.len]; exact zO hl, fun p hp => h1 ρ1 _ (Ext.new hp) (s1.new hp) _ (R.tup_of rv hp)⟩
    · exact h1.elim⟩
theorem Out.newList {K : Frag} {mg : Str → Option Value} {ρ : List Addr} {H : Hp} {st : Sto} {xs : List PV} {vs : List V} {p : Addr} {Q : VK} (h : Out K mg ρ H (.ok (.ref st.length) (st ++ [.lst xs])) (gV K mg Q) Er) (s : StR K mg ρ H st) (r : Rs K mg ρ H xs vs) (hp : H p = none) : Q (.ref p) (upd H p (.lst vs)) :=
  h (ρ ++ [p]) _ (Ext.push hp) (s.push hp ⟨vs, zu, Rs.ext (Ext.push hp) xs r⟩) _ ⟨p, rfl, by rw [← s.len]; simp⟩
theorem zfX (h : MA X Er es fs) : ME X Er (.List es pos) (mLst fs) :=
  PE.weak (zlM h) fun σ H Q ⟨env, st, ρ, re, rs, h⟩ => ⟨env, st, ρ, re, rs, h.then fun ρ1 H1 xs st1 e1 s1 h1 vs rv => by
    split at h1
    · rename_i hl
      exact ⟨by rw [← rv.len]; exact zO hl, fun p hp => Out.newList h1 s1 rv hp⟩
    · exact h1.elim⟩
theorem zne {r : R2} {op : PV → PV → Mo PV} (ho : IxR X r) (hm : OpM X.K X.mg r op) (ha : ME X Er a fa) (hb : ME X Er b fb) (hs : PlainIx b := by exact fun _ _ => rfl) : ME X Er (.Subscript a b pos) (mOp op fa fb) :=
  PE.weak (zlO ho ha hb hs) fun σ H Q h => ziG hm h
end
end Mi
namespace HT
open PySem PySem.Spec PyProof.Rows
section
variable {prog : Program} {w : World} {A : Around} {E : Value → Shared → Prop} {s : Shared}
theorem cat_tup0 {t b : Addr} {ws : List Value} {Q : Value → Shared → Prop} (ht : IsTup s.heap t #[]) (hb : IsTup s.heap b ws.toArray) (h1 : Q (.ref b) s) : wpAny (model prog w) A (binaryOp .Add (.ref t) (.ref b)) Q E s := by
  obtain ⟨⟨cls, dd, data, sl⟩, ho, hc, n, hd⟩ := id ht
  obtain ⟨⟨cls2, dd2, data2, sl2⟩, ho2, hc2, n2, hd2⟩ := id hb
  simp only at hc hd hc2 hd2
  subst hc hd hc2 hd2
  exact concat_meets ⟨_, ho, rfl⟩ ⟨_, ho2, rfl⟩ noFill_tuple_add seq_tuple_add PySem.F.slot_tuple_add PySem.F.entry_tuple_add (PySem.F.args_tuple_add_2 _ _)
      (tuple_addW0 t b #[] ws.toArray n n2 dd dd2 sl sl2 (by simp)) ⟨ho, ho2, h1⟩
end
end HT
namespace Mi
open PySem L2 PySem.W PySem.Spec
section
variable {X : Cx} {Er : XK} {K : Frag} {mg : Str → Option Value}
def BinOk (X : Cx) (o : Operator) (op : PV → PV → Mo PV) : Prop := ∃ r, OpR X (binaryOp o) r ∧ OpM X.K X.mg r op
def CmpOk (X : Cx) (o : CmpOp) (op : PV → PV → Mo PV) : Prop := ∃ r, OpR X (compareOp o) r ∧ OpM X.K X.mg r op
def IxOk (X : Cx) (op : PV → PV → Mo PV) : Prop := ∃ r, IxR X r ∧ OpM X.K X.mg r op
def UnOk (X : Cx) (o : UnaryOp) (op : PV → Mo PV) : Prop := ∃ r, UnR X (unaryOp o) r ∧ UnM X.K X.mg r op
variable {a b c e : Expr} {es : List Expr} {pos : Pos} {fa fb fc : PEnv → Mo PV} {fs : PEnv → Mo (List PV)}
theorem zB {o : Operator} {op : PV → PV → Mo PV} (h : BinOk X o op) (ha : ME X Er a fa) (hb : ME X Er b fb) : ME X Er (.BinOp a o b pos) (mOp op fa fb) := let ⟨_, h1, h2⟩ := h; znb h1 h2 ha hb
theorem zgD {o : CmpOp} {op : PV → PV → Mo PV} (h : CmpOk X o op) (ha : ME X Er a fa) (hb : ME X Er b fb) (hk : behindInMarks o b = false := by first | exact nomark _ | with_unfolding_all rfl) : ME X Er (.Compare a [o] [b] pos) (mOp op fa fb) := let ⟨_, h1, h2⟩ := h; zl1 h1 h2 ha hb hk
theorem zU {o : CmpOp} {op : PV → PV → Mo PV} (h : CmpOk X o op) (ha : ME X Er a fa) (hb : ME X Er b fb) (hk : behindInMarks o b = false := by first | exact nomark _ | with_unfolding_all rfl) : MT X Er (.Compare a [o] [b] pos) (mB (mOp op fa fb)) := let ⟨_, h1, h2⟩ := h; zl3 h1 h2 ha hb hk
theorem zV {op : PV → PV → Mo PV} (h : IxOk X op) (ha : ME X Er a fa) (hb : ME X Er b fb) (hs : PlainIx b := by exact fun _ _ => rfl) : ME X Er (.Subscript a b pos) (mOp op fa fb) := let ⟨_, h1, h2⟩ := h; zne h1 h2 ha hb hs
theorem znM {o : UnaryOp} {op : PV → Mo PV} (h : UnOk X o op) (ha : ME X Er a fa) : ME X Er (.UnaryOp o a pos) (mUn op fa) := let ⟨_, h1, h2⟩ := h; znd h1 h2 ha
theorem Out.ifp {α : Type} {ρ : List Addr} {H : Hp} {p : Prop} [Decidable p] {r : Res α} {good : List Addr → Hp → α → Sto → Prop} (h : Out K mg ρ H (if p then r else .stuck) good Er) : p ∧ Out K mg ρ H r good Er := by
  split at h
  · rename_i hp; exact ⟨hp, h⟩
  · exact False.elim h
def withL {α : Type} (st : Sto) (n : Nat) (k : List PV → Res α) : Res α := match st[n]? with
  | some (.lst xs) => k xs
  | _ => .stuck
def withD {α : Type} (st : Sto) (n : Nat) (k : List Str → List PV → Res α) : Res α := match st[n]? with
  | some (.dic ks xs) => k ks xs
  | _ => .stuck
def withI {α : Type} (st : Sto) (n : Nat) (k : Str → List Str → List PV → Res α) : Res α := match st[n]? with
  | some (.ins c ks xs) => k c ks xs
  | _ => .stuck
theorem zJ {α : Type} {ρ : List Addr} {H : Hp} {st : Sto} {n : Nat} {k : List PV → Res α} {good : List Addr → Hp → α → Sto → Prop} (h : Out K mg ρ H (withL st n k) good Er) : ∃ xs, st[n]? = some (.lst xs) ∧ Out K mg ρ H (k xs) good Er := by
  unfold withL at h
  split at h
  · rename_i xs e; exact ⟨xs, e, h⟩
  · exact False.elim h
theorem zeN {α : Type} {ρ : List Addr} {H : Hp} {st : Sto} {n : Nat} {k : List Str → List PV → Res α} {good : List Addr → Hp → α → Sto → Prop} (h : Out K mg ρ H (withD st n k) good Er) : ∃ ks xs, st[n]? = some (.dic ks xs) ∧ Out K mg ρ H (k ks xs) good Er := by
  unfold withD at h
  split at h
  · rename_i ks xs e; exact ⟨ks, xs, e, h⟩
  · exact False.elim h
theorem zcE {α : Type} {ρ : List Addr} {H : Hp} {st : Sto} {n : Nat} {k : Str → List Str → List PV → Res α} {good : List Addr → Hp → α → Sto → Prop} (h : Out K mg ρ H (withI st n k) good Er) : ∃ c ks xs, st[n]? = some (.ins c ks xs) ∧ Out K mg ρ H (k c ks xs) good Er := by
  unfold withI at h
  split at h
  · rename_i c ks xs e; exact ⟨c, ks, xs, e, h⟩
  · exact False.elim h
def opI (C : Int → Int → Bool) (g : Int → Int → Int) : PV → PV → Mo PV
  | .int i, .int j, st => if C i j = true then .ok (.int (g i j)) st else .stuck
  | _, _, _ => .stuck
theorem zeO {C : Int → Int → Bool} {g : Int → Int → Int} {P : Int → Int → Prop} (hC : ∀ i j, C i j = true → P i j) : OpM K mg (rI P fun i j => .int (g i j)) (opI C g) := by
  intro ρ H st x y v w Q E s rx ry h
  cases x with
  | int i =>
    cases y with
    | int j =>
      cases rx; cases ry
      obtain ⟨c, h⟩ := Out.ifp h
      exact ⟨i, j, rfl, rfl, hC i j c, h.now s _ rfl⟩
    | _ => exact False.elim h
  | _ => exact False.elim h
abbrev c0 : Int → Int → Bool := fun _ _ => true
theorem zku {g : Int → Int → V} {f : Value → Value → Sem Value} (h : OpR X f (rI0 g)) : OpR X f (rI (fun _ _ => True) g) := fun pins s σ H x y v u Q I rx ry ⟨i, j, h1, h2, _, q⟩ => h pins s σ H x y v u Q I rx ry ⟨i, j, h1, h2, q⟩
abbrev oSub := opI c0 fun i j => i - j
abbrev cMul : Int → Int → Bool := fun i j => (decide (-(2 ^ 64) < i) && decide (i < 2 ^ 64)) || (decide (-(2 ^ 64) < j) && decide (j < 2 ^ 64))
abbrev oMul := opI cMul fun i j => i * j
abbrev cPow : Int → Int → Bool := fun i j => decide (0 ≤ j) && decide (j ≤ 1000000) && decide (i.natAbs < 2 ^ 64)
abbrev oPow := opI cPow fun i j => i ^ j.toNat
abbrev cNz : Int → Int → Bool := fun _ j => decide (j ≠ 0)
def modP (i j : Int) : Int := if 0 < j then i % j else i.fmod j
abbrev oMod := opI cNz modP
abbrev cDv : Int → Int → Bool := fun _ j => decide (j ≠ 0) && decide (j.natAbs < 2 ^ 200)
def divP (i j : Int) : Int := if 0 < j then i / j else i.fdiv j
abbrev oDiv := opI cDv divP
theorem zkv (i j : Int) : modP i j = i.fmod j := by
  unfold modP; split
  · rename_i h; rw [Int.fmod_eq_emod_of_nonneg _ (by omega)]
  · rfl
theorem zkw (i j : Int) : divP i j = i.fdiv j := by
  unfold divP; split
  · rename_i h; rw [Int.fdiv_eq_ediv_of_nonneg _ (by omega)]
  · rfl
theorem ziH : BinOk X .Sub oSub := ⟨_, zku zlF, zeO fun _ _ _ => trivial⟩
theorem znf : BinOk X .Mult oMul := ⟨_, zlG, zeO fun i j h => by simpa [cMul, CMul] using h⟩
theorem zma : BinOk X .Pow oPow := ⟨_, zlH, zeO fun i j h => by simp [cPow] at h; exact ⟨h.1.1, h.1.2, h.2⟩⟩
theorem zcc : BinOk X .Mod oMod := ⟨_, zj4, by
  have h : (fun i j => V.int (i.fmod j)) = fun i j => V.int (modP i j) := by funext i j; rw [zkv]
  rw [h]; exact zeO fun i j h => by simpa [cNz] using h⟩
theorem zkx {y : Int} (h : y.natAbs < 2 ^ 200) : y.natAbs.log2 < 9000 := by
  by_cases h0 : y.natAbs = 0
  · rw [h0]; decide
  · have := (Nat.log2_lt h0).mpr h
    omega
theorem ziI : OpR X (binaryOp .FloorDiv) (rI (fun _ j => j ≠ 0 ∧ j.natAbs < 2 ^ 200) fun i j => .int (i.fdiv j)) := L2.opI fun _ _ _ _ _ _ _ hc q => PyProof.Rows.floordiv_int hc.1 q (.inl (PyProof.noPylong_of_log2 (zkx hc.2)))
theorem zdD : BinOk X .FloorDiv oDiv := ⟨_, ziI, by
  have h : (fun i j => V.int (i.fdiv j)) = fun i j => V.int (divP i j) := by funext i j; rw [zkw]
  rw [h]; exact zeO fun i j h => by simpa [cDv] using h⟩
def oNeg : PV → Mo PV
  | .int i, st => .ok (.int (-i)) st
  | _, _ => .stuck
theorem zmb : UnOk X .USub oNeg := ⟨_, zlI, by
  intro ρ H st x v Q E s rx h
  cases x with
  | int i => cases rx; exact ⟨i, rfl, Out.now (x := PV.int (-i)) h s _ rfl⟩
  | _ => exact False.elim h⟩
def oAdd : PV → PV → Mo PV
  | .int i, .int j, st => .ok (.int (i + j)) st
  | .str x, .str y, st => if x.length + y.length ≤ lim then .ok (.str (x ++ y)) st else .stuck
  | .tup xs, .tup ys, st => if xs.length + ys.length ≤ lim then .ok (.tup (xs ++ ys)) st else .stuck
  | .ref n, .ref m, st => withL st n fun xs => withL st m fun ys => if xs.length + ys.length ≤ lim then .ok (.ref st.length) (st ++ [.lst (xs ++ ys)]) else .stuck
  | _, _, _ => .stuck
def zng (K : Frag) : R2 := fun x y H Q => ∃ a b ys, x = .ref a ∧ y = .ref b ∧ SqT K H a [] ∧ SqT K H b ys ∧ Q (.ref b) H
theorem zky : OpR X (binaryOp .Add) (zng X.K) := by
  intro pins s σ H x y v u Q I rx ry h
  obtain ⟨a, b, ys, rfl, rfl, h1, h2, q⟩ := h
  cases rx; cases ry
  obtain ⟨i1, r1, p1, _⟩ := I.tuple h1
  obtain ⟨i2, r2, p2, _⟩ := I.tuple h2
  cases r1
  exact HT.cat_tup0 p1 p2 ⟨.ref b, H, I, rfl, q⟩
theorem zcq : BinOk X .Add oAdd := ⟨_, zlE.or (zgu.or (zky.or (zkc.or zlV))), by
  intro ρ H st x y v w Q E s rx ry h
  cases x with
  | int i =>
    cases y with
    | int j => cases rx; cases ry; exact .inl ⟨i, j, rfl, rfl, Out.now (x := PV.int (i + j)) h s _ rfl⟩
    | _ => exact False.elim h
  | str i =>
    cases y with
    | str j =>
      cases rx; cases ry
      obtain ⟨c, h⟩ := Out.ifp h
      exact .inr (.inl ⟨i, j, rfl, rfl, zO c, h.now s _ rfl⟩)
    | _ => exact False.elim h
  | tup xs =>
    cases y with
    | tup ys =>
      obtain ⟨p, vs, rfl, h1, h2⟩ := rx
      obtain ⟨q, ws, rfl, h3, h4⟩ := ry
      obtain ⟨c, h⟩ := Out.ifp h
      cases xs with
      | nil =>
        cases h2
        exact .inr (.inr (.inl ⟨p, q, ws, rfl, rfl, h1, h3, h.now s _ ⟨q, ws, rfl, h3, h4⟩⟩))
      | cons x0 xs0 =>
        refine .inr (.inr (.inr (.inl ⟨p, q, vs, ws, rfl, rfl, h1, h3, ?_, ?_, fun e => ?_, fun _ l hl => ?_⟩)))
        · obtain ⟨v0, r0, e0, _⟩ := h2; rw [e0]; simp
        · rw [← h2.len, ← h4.len]; exact zO c
        · subst e
          have : ys = [] := by have := h4.len; simpa using this
          subst this
          exact h.now s _ ⟨p, vs, rfl, h1, by simpa using h2⟩
        · exact h ρ _ (Ext.new hl) (s.new hl) _ (R.tup_of (h2.append h4) hl)
    | _ => exact False.elim h
  | ref n =>
    cases y with
    | ref m =>
      obtain ⟨p, rfl, hp⟩ := rx
      obtain ⟨q, rfl, hq⟩ := ry
      obtain ⟨xs, e1, h⟩ := zJ h
      obtain ⟨ys, e2, h⟩ := zJ h
      obtain ⟨c, h⟩ := Out.ifp h
      obtain ⟨vs, h1, h2⟩ := s.addr e1 hp
      obtain ⟨ws, h3, h4⟩ := s.addr e2 hq
      exact .inr (.inr (.inr (.inr ⟨p, q, vs, ws, rfl, rfl, h1, h3, by rw [← h2.len, ← h4.len]; exact zO c, fun l hl => Out.newList h s (h2.append h4) hl⟩)))
    | _ => exact False.elim h
  | _ => exact False.elim h⟩
def opB (g : Int → Int → Bool) : PV → PV → Mo PV
  | .int i, .int j, st => .ok (.bl (g i j)) st
  | _, _, _ => .stuck
theorem zjz {g : Int → Int → Bool} : OpM K mg (rI0 fun i j => .bl (g i j)) (opB g) := by
  intro ρ H st x y v w Q E s rx ry h
  cases x with
  | int i =>
    cases y with
    | int j => cases rx; cases ry; exact ⟨i, j, rfl, rfl, Out.now (x := PV.bl (g i j)) h s _ rfl⟩
    | _ => exact False.elim h
  | _ => exact False.elim h
abbrev oLt := opB fun i j => decide (i < j)
abbrev oGt := opB fun i j => decide (j < i)
theorem zmU : CmpOk X .Lt oLt := ⟨_, zm5, zjz⟩
theorem znh : CmpOk X .Gt oGt := ⟨_, zm6, zjz⟩
def isNon : PV → Bool
  | .non => true
  | _ => false
theorem zkz {ρ : List Addr} {H : Hp} {xs : List PV} {vs : List V} {i : Int} {x : PV} (r : Rs K mg ρ H xs vs) (h : atI xs i = some x) : ∃ v, atI vs i = some v ∧ R K mg ρ H x v := by
  unfold atI at h ⊢
  rw [← r.len]
  cases hj : ixN xs.length i with
  | none => rw [hj] at h; cases h
  | some j =>
    rw [hj] at h
    obtain ⟨v, h1, h2⟩ := r.get (show xs[j]? = some x from h)
    exact ⟨v, h1, h2⟩
def optR : Option PV → Mo PV
  | some x, st => .ok x st
  | none, _ => .stuck
def oIx : PV → PV → Mo PV
  | .tup xs, .int i, st => optR (atI xs i) st
  | .frl xs, .int i, st => optR (atI xs i) st
  | .str z, .int i, st => if z.length ≤ lim then optR ((atI z.cps.toList i).map fun c => .str ⟨#[c]⟩) st else .stuck
  | .ref n, .int i, st => withL st n fun xs => optR (atI xs i) st
  | _, _, _ => .stuck
theorem zba {ρ : List Addr} {H : Hp} {o : Option PV} {st : Sto} {good} (h : Out K mg ρ H (optR o st) good Er) : ∃ x, o = some x ∧ Out K mg ρ H (.ok x st) good Er := by
  cases o with
  | some x => exact ⟨x, rfl, h⟩
  | none => exact False.elim h
theorem zni : IxOk X oIx := ⟨_, zlR, by
  intro ρ H st x y v w Q E s rx ry h
  cases x with
  | tup xs =>
    cases y with
    | int i =>
      cases ry
      obtain ⟨p, vs, rfl, h1, h2⟩ := rx
      obtain ⟨x, e, h⟩ := zba h
      obtain ⟨v, h3, h4⟩ := zkz h2 e
      exact .inr (.inl ⟨p, vs, i, v, rfl, rfl, h1, h3, h.now s _ h4⟩)
    | _ => exact False.elim h
  | frl xs =>
    cases y with
    | int i =>
      cases ry
      obtain ⟨p, vs, rfl, h1, h2⟩ := rx
      obtain ⟨x, e, h⟩ := zba h
      obtain ⟨v, h3, h4⟩ := zkz h2 e
      exact .inl ⟨p, vs, i, v, rfl, rfl, h1.sq, h3, h.now s _ h4⟩
    | _ => exact False.elim h
  | str z =>
    cases y with
    | int i =>
      cases ry; cases rx
      obtain ⟨c, h⟩ := Out.ifp h
      obtain ⟨x, e, h⟩ := zba h
      cases hc : atI z.cps.toList i with
      | none => rw [hc] at e; cases e
      | some k =>
        rw [hc] at e
        cases e
        exact .inr (.inr ⟨z, i, k, rfl, rfl, zO c, hc, h.now s _ rfl⟩)
    | _ => exact False.elim h
  | ref n =>
    cases y with
    | int i =>
      cases ry
      obtain ⟨p, rfl, hp⟩ := rx
      obtain ⟨xs, e1, h⟩ := zJ h
      obtain ⟨vs, h1, h2⟩ := s.addr e1 hp
      obtain ⟨x, e, h⟩ := zba h
      obtain ⟨v, h3, h4⟩ := zkz h2 e
      exact .inl ⟨p, vs, i, v, rfl, rfl, SqL.of h1, h3, h.now s _ h4⟩
    | _ => exact False.elim h
  | _ => exact False.elim h⟩
end
end Mi
namespace Mi
open PySem L2 PySem.W PySem.Spec
mutual
def plain : PV → Bool
  | .non => true
  | .bl _ => true
  | .int _ => true
  | .str _ => true
  | .tup xs => plains xs
  | _ => false
def plains : List PV → Bool
  | [] => true
  | x :: xs => plain x && plains xs
end
mutual
def dep : PV → Nat
  | .tup xs => deps xs + 1
  | _ => 0
def deps : List PV → Nat
  | [] => 0
  | x :: xs => max (dep x) (deps xs)
end
mutual
def eqP : PV → PV → Bool
  | .non, .non => true
  | .bl a, .bl b => a == b
  | .bl a, .int b => (if a then 1 else 0) == b
  | .int a, .bl b => a == (if b then 1 else 0)
  | .int a, .int b => a == b
  | .str a, .str b => a == b
  | .tup xs, .tup ys => eqPs xs ys
  | _, _ => false
def eqPs : List PV → List PV → Bool
  | [], [] => true
  | x :: xs, y :: ys => eqP x y && eqPs xs ys
  | _, _ => false
end
section
variable {X : Cx} {Er : XK} {K : Frag} {mg : Str → Option Value} {ρ : List Addr} {pins : List (Addr × Obj)} {σ : L2.St} {H : Hp} {s : Shared}
mutual
theorem zjA (I : Inv X pins σ H s) : ∀ (x y : PV) {v : V}, plain x = true → plain y = true → R X.K mg ρ H x v → R X.K mg ρ H y v → eqP x y = true
  | .non, y, v, _, py, rx, ry => by
    cases rx
    cases y with
    | non => rfl
    | tup ys => obtain ⟨_, _, e, _⟩ := ry; cases e
    | bl _ => cases ry
    | int _ => cases ry
    | str _ => cases ry
    | _ => cases py
  | .bl a, y, v, _, py, rx, ry => by
    cases rx
    cases y with
    | bl b => cases ry; simp [eqP]
    | tup ys => obtain ⟨_, _, e, _⟩ := ry; cases e
    | non => cases ry
    | int _ => cases ry
    | str _ => cases ry
    | _ => cases py
  | .int a, y, v, _, py, rx, ry => by
    cases rx
    cases y with
    | int b => cases ry; simp [eqP]
    | tup ys => obtain ⟨_, _, e, _⟩ := ry; cases e
    | non => cases ry
    | bl _ => cases ry
    | str _ => cases ry
    | _ => cases py
  | .str a, y, v, _, py, rx, ry => by
    cases rx
    cases y with
    | str b => cases ry; simp [eqP]
    | tup ys => obtain ⟨_, _, e, _⟩ := ry; cases e
    | non => cases ry
    | bl _ => cases ry
    | int _ => cases ry
    | _ => cases py
  | .tup xs, y, v, px, py, rx, ry => by
    obtain ⟨a, vs, rfl, h1, h2⟩ := rx
    cases y with
    | tup ys =>
      obtain ⟨b, ws, e, h3, h4⟩ := ry
      cases e
      have := I.tuple_inj h1 h3
      subst this
      exact zhk I xs ys px py h2 h4
    | non => cases ry
    | bl _ => cases ry
    | int _ => cases ry
    | str _ => cases ry
    | _ => cases py
  | .ty _, _, _, px, _, _, _ => by cases px
  | .frl _, _, _, px, _, _, _ => by cases px
  | .ref _, _, _, px, _, _, _ => by cases px
  | .fn _, _, _, px, _, _, _ => by cases px
  | .kd _ _, _, _, px, _, _, _ => by cases px
  | .exo _ _ _, _, _, px, _, _, _ => by cases px
theorem zhk (I : Inv X pins σ H s) : ∀ (xs ys : List PV) {vs : List V}, plains xs = true → plains ys = true → Rs X.K mg ρ H xs vs → Rs X.K mg ρ H ys vs → eqPs xs ys = true
  | [], ys, vs, _, py, rx, ry => by
    cases rx
    cases ys with
    | nil => rfl
    | cons y ys => obtain ⟨_, _, e, _⟩ := ry; cases e
  | x :: xs, ys, vs, px, py, rx, ry => by
    obtain ⟨v, r, rfl, h1, h2⟩ := rx
    cases ys with
    | nil => cases ry
    | cons y ys =>
      obtain ⟨v', r', e, h3, h4⟩ := ry
      cases e
      simp only [plains, Bool.and_eq_true] at px py
      simp only [eqPs, Bool.and_eq_true]
      exact ⟨zjA I x y px.1 py.1 h1 h3, zhk I xs ys px.2 py.2 h2 h4⟩
end
def eqJp (xs ys : List PV) (j : Nat) : Bool := match xs[j]?, ys[j]? with
  | some x, some y => eqP x y
  | _, _ => true
theorem zd5 : ∀ (xs ys : List PV), ((List.range (min xs.length ys.length)).all (eqJp xs ys) && xs.length == ys.length) = eqPs xs ys
  | [], [] => rfl
  | [], y :: ys => by simp [eqPs]
  | x :: xs, [] => by simp [eqPs]
  | x :: xs, y :: ys => by
    have ih := zd5 xs ys
    have e1 : min (x :: xs).length (y :: ys).length = min xs.length ys.length + 1 := by simp only [List.length_cons]; omega
    have e2 : ((x :: xs).length == (y :: ys).length) = (xs.length == ys.length) := by
      rw [Bool.eq_iff_iff]; simp
    rw [e1, e2, List.range_succ_eq_map, List.all_cons, List.all_map]
    have e3 : (eqJp (x :: xs) (y :: ys) ∘ Nat.succ) = eqJp xs ys := by
      funext j
      simp [eqJp]
    rw [e3, Bool.and_assoc, ih]
    simp [eqPs, eqJp]
theorem zfY : ∀ {xs : List PV} {i : Nat} {x : PV}, xs[i]? = some x → dep x ≤ deps xs
  | [], _, _, e => by simp at e
  | y :: xs, 0, x, e => by simp at e; subst e; simp only [deps]; omega
  | y :: xs, i + 1, x, e => by
    simp at e
    have := zfY e
    simp only [deps]; omega
theorem zcZ : ∀ {xs : List PV} {i : Nat} {x : PV}, plains xs = true → xs[i]? = some x → plain x = true
  | [], _, _, _, e => by simp at e
  | y :: xs, 0, x, p, e => by simp at e; subst e; simp only [plains, Bool.and_eq_true] at p; exact p.1
  | y :: xs, i + 1, x, p, e => by
    simp at e
    simp only [plains, Bool.and_eq_true] at p
    exact zcZ p.2 e
theorem zdE (A : Around) : A.in1.units = A.units + 1 := rfl
theorem zhl (I : Inv X pins σ H s) : ∀ (n : Nat) (x y : PV) {v w : V} {u u' : Value} (A : Around), dep x ≤ n → plain x = true → plain y = true → R X.K mg ρ H x v → R X.K mg ρ H y w → RelV v u → RelV w u' → A.units + n < cLine →
    SeqAt.EqAt A s u u' (eqP x y) ∧ SeqAt.RcAt A s u u' (eqP x y) ∧ SeqAt.RcNeAt A s u u' (!eqP x y) := by
  intro n
  induction n with
  | zero =>
    intro x y v w u u' A hd px py rx ry rv rw hu
    cases x with
    | tup xs => simp only [dep] at hd; omega
    | non =>
      cases rx; cases rv
      cases y with
      | non => cases ry; cases rw; exact ⟨.same _, .none_none, .none_none⟩
      | bl b => cases ry; cases rw; exact ⟨.none_bool b, .none_bool b, .none_bool b⟩
      | int b => cases ry; obtain ⟨t, rfl⟩ := rw; exact ⟨.none_int b t, .none_int b t, .none_int b t⟩
      | str b => cases ry; obtain ⟨t, rfl⟩ := rw; exact ⟨.none_str b t, .none_str b t, .none_str b t⟩
      | tup ys =>
        obtain ⟨p, ws, rfl, h1, h2⟩ := ry
        cases rw
        obtain ⟨its, _, pl, _⟩ := I.tuple h1
        exact ⟨.none_tuple pl (by omega), .none_tuple pl (by omega), .none_tuple pl (by omega)⟩
      | _ => cases py
    | bl a =>
      cases rx; cases rv
      cases y with
      | non => cases ry; cases rw; exact ⟨.bool_none a, .bool_none a, .bool_none a⟩
      | bl b => cases ry; cases rw; exact ⟨.bool_bool a b, .bool_bool a b, .bool_bool a b⟩
      | int b => cases ry; obtain ⟨t, rfl⟩ := rw; exact ⟨.bool_int a b t, .bool_int a b t, .bool_int a b t⟩
      | str b => cases ry; obtain ⟨t, rfl⟩ := rw; exact ⟨.bool_str a b t, .bool_str a b t, .bool_str a b t⟩
      | tup ys =>
        obtain ⟨p, ws, rfl, h1, h2⟩ := ry
        cases rw
        obtain ⟨its, _, pl, _⟩ := I.tuple h1
        exact ⟨.bool_tuple a pl (by omega), .bool_tuple a pl (by omega), .bool_tuple a pl (by omega)⟩
      | _ => cases py
    | int a =>
      cases rx; obtain ⟨t0, rfl⟩ := rv
      cases y with
      | non => cases ry; cases rw; exact ⟨.int_none a t0, .int_none a t0, .int_none a t0⟩
      | bl b => cases ry; cases rw; exact ⟨.int_bool a t0 b, .int_bool a t0 b, .int_bool a t0 b⟩
      | int b => cases ry; obtain ⟨t, rfl⟩ := rw; exact ⟨.int_int a t0 b t, .int_int a t0 b t, .int_int a t0 b t⟩
      | str b => cases ry; obtain ⟨t, rfl⟩ := rw; exact ⟨.int_str a t0 b t, .int_str a t0 b t, .int_str a t0 b t⟩
      | tup ys =>
        obtain ⟨p, ws, rfl, h1, h2⟩ := ry
        cases rw
        obtain ⟨its, _, pl, _⟩ := I.tuple h1
        exact ⟨.int_tuple a t0 pl (by omega), .int_tuple a t0 pl (by omega), .int_tuple a t0 pl (by omega)⟩
      | _ => cases py
    | str a =>
      cases rx; obtain ⟨t0, rfl⟩ := rv
      cases y with
      | non => cases ry; cases rw; exact ⟨.str_none a t0, .str_none a t0, .str_none a t0⟩
      | bl b => cases ry; cases rw; exact ⟨.str_bool a t0 b, .str_bool a t0 b, .str_bool a t0 b⟩
      | int b => cases ry; obtain ⟨t, rfl⟩ := rw; exact ⟨.str_int a t0 b t, .str_int a t0 b t, .str_int a t0 b t⟩
      | str b => cases ry; obtain ⟨t, rfl⟩ := rw; exact ⟨.str_str a t0 b t, .str_str a t0 b t, .str_str a t0 b t⟩
      | tup ys =>
        obtain ⟨p, ws, rfl, h1, h2⟩ := ry
        cases rw
        obtain ⟨its, _, pl, _⟩ := I.tuple h1
        exact ⟨.str_tuple a t0 pl (by omega), .str_tuple a t0 pl (by omega), .str_tuple a t0 pl (by omega)⟩
      | _ => cases py
    | _ => cases px
  | succ n ih =>
    intro x y v w u u' A hd px py rx ry rv rw hu
    cases x with
    | tup xs =>
      obtain ⟨a, vs, rfl, h1, h2⟩ := id rx
      cases rv
      obtain ⟨its, r1, p1, _⟩ := I.tuple h1
      cases y with
      | non => cases ry; cases rw; exact ⟨.tuple_none p1 (by omega), .tuple_none p1 (by omega), .tuple_none p1 (by omega)⟩
      | bl b => cases ry; cases rw; exact ⟨.tuple_bool b p1 (by omega), .tuple_bool b p1 (by omega), .tuple_bool b p1 (by omega)⟩
      | int b => cases ry; obtain ⟨t, rfl⟩ := rw; exact ⟨.tuple_int b t p1 (by omega), .tuple_int b t p1 (by omega), .tuple_int b t p1 (by omega)⟩
      | str b => cases ry; obtain ⟨t, rfl⟩ := rw; exact ⟨.tuple_str b t p1 (by omega), .tuple_str b t p1 (by omega), .tuple_str b t p1 (by omega)⟩
      | tup ys =>
        obtain ⟨b, ws, rfl, h3, h4⟩ := id ry
        cases rw
        obtain ⟨its2, r2, p2, _⟩ := I.tuple h3
        have l1 := h2.len
        have l2 := h4.len
        have l3 := r1.length
        have l4 := r2.length
        have item : ∀ j (g1 : j < its.toArray.size) (g2 : j < its2.toArray.size), SeqAt.EqAt A.in1 s its.toArray[j] its2.toArray[j] (eqJp xs ys j) := fun j g1 g2 => by
          have k1 : j < xs.length := by rw [l1, l3]; simpa using g1
          have k2 : j < ys.length := by rw [l2, l4]; simpa using g2
          obtain ⟨v1, e1, rr1⟩ := h2.get (List.getElem?_eq_getElem k1)
          obtain ⟨v2, e2, rr2⟩ := h4.get (List.getElem?_eq_getElem k2)
          obtain ⟨u1, f1, ru1⟩ := r1.get e1
          obtain ⟨u2, f2, ru2⟩ := r2.get e2
          have w1 : its.toArray[j] = u1 := by
            obtain ⟨_, z⟩ := List.getElem?_eq_some_iff.mp f1
            simpa using z
          have w2 : its2.toArray[j] = u2 := by
            obtain ⟨_, z⟩ := List.getElem?_eq_some_iff.mp f2
            simpa using z
          have ej : eqJp xs ys j = eqP xs[j] ys[j] := by
            unfold eqJp
            rw [List.getElem?_eq_getElem k1, List.getElem?_eq_getElem k2]
          rw [w1, w2, ej]
          have hdj := zfY (List.getElem?_eq_getElem k1)
          simp only [dep] at hd
          exact (ih xs[j] ys[j] A.in1 (by omega) (zcZ px (List.getElem?_eq_getElem k1)) (zcZ py (List.getElem?_eq_getElem k2)) rr1 rr2 ru1 ru2 (by rw [zdE]; omega)).1
        have eall : ((List.range (min its.toArray.size its2.toArray.size)).all (eqJp xs ys) && its.toArray.size == its2.toArray.size) = eqP (.tup xs) (.tup ys) := by
          have e := zd5 xs ys
          rw [l1, l2, l3, l4] at e
          simpa [eqP] using e
        have rc : SeqAt.RcAt A s (.ref a) (.ref b) (eqP (.tup xs) (.tup ys)) := by
          rw [← eall]
          exact SeqAt.RcAt.tuples (show s.heap.IsTuple a its.toArray from p1) (show s.heap.IsTuple b its2.toArray from p2) (by omega) item
        refine ⟨?_, rc, ?_⟩
        · by_cases hab : a = b
          · subst hab
            rw [zjA I (.tup xs) (.tup ys) px py rx ry]
            exact .same _
          · exact .of_refs hab rc
        · rw [← eall]
          exact SeqAt.RcNeAt.tuples (show s.heap.IsTuple a its.toArray from p1) (show s.heap.IsTuple b its2.toArray from p2) (by omega) item
      | _ => cases py
    | non => exact ih _ y A (Nat.zero_le _) px py rx ry rv rw (by omega)
    | bl a => exact ih _ y A (Nat.zero_le _) px py rx ry rv rw (by omega)
    | int a => exact ih _ y A (Nat.zero_le _) px py rx ry rv rw (by omega)
    | str a => exact ih _ y A (Nat.zero_le _) px py rx ry rv rw (by omega)
    | _ => cases px
def oEq : PV → PV → Mo PV := fun x y st => if plain x = true ∧ plain y = true ∧ dep x ≤ 150 then .ok (.bl (eqP x y)) st else .stuck
def oNe : PV → PV → Mo PV := fun x y st => if plain x = true ∧ plain y = true ∧ dep x ≤ 150 then .ok (.bl (!eqP x y)) st else .stuck
def rEqP (K : Frag) (mg : Str → Option Value) (f : Bool → Bool) : R2 := fun v w H Q => ∃ ρ x y, plain x = true ∧ plain y = true ∧ dep x ≤ 150 ∧ R K mg ρ H x v ∧ R K mg ρ H y w ∧ Q (.bl (f (eqP x y))) H
theorem zmc (hu : X.A.units + 200 < cLine) : OpR X (compareOp .Eq) (rEqP X.K X.mg id) := by
  intro pins s σ H x y v u Q I rx ry h
  obtain ⟨ρ, a, b, pa, pb, hd, ra, rb, q⟩ := h
  exact PySem.EqBoolInt.of_rc (zhl I 150 a b X.A hd pa pb ra rb rx ry (by omega)).2.1 ⟨.bl _, H, I, rfl, q⟩
theorem zmd (hu : X.A.units + 200 < cLine) : OpR X (compareOp .NotEq) (rEqP X.K X.mg not) := by
  intro pins s σ H x y v u Q I rx ry h
  obtain ⟨ρ, a, b, pa, pb, hd, ra, rb, q⟩ := h
  exact PySem.EqBoolInt.of_rcne (zhl I 150 a b X.A hd pa pb ra rb rx ry (by omega)).2.2 ⟨.bl _, H, I, rfl, q⟩
theorem zfm (hu : X.A.units + 200 < cLine) : CmpOk X .Eq oEq := ⟨_, zmc hu, fun ρ H st x y v w Q E s rx ry h => by
  obtain ⟨⟨p1, p2, p3⟩, h⟩ := Out.ifp h
  exact ⟨ρ, x, y, p1, p2, p3, rx, ry, h.now s _ rfl⟩⟩
theorem zmV (hu : X.A.units + 200 < cLine) : CmpOk X .NotEq oNe := ⟨_, zmd hu, fun ρ H st x y v w Q E s rx ry h => by
  obtain ⟨⟨p1, p2, p3⟩, h⟩ := Out.ifp h
  exact ⟨ρ, x, y, p1, p2, p3, rx, ry, h.now s _ rfl⟩⟩
end
end Mi
namespace Mi
open PySem L2 PySem.W PySem.Spec
section
variable {X : Cx} {Er : XK} {K : Frag} {mg : Str → Option Value} {a b c e : Expr} {es : List Expr} {pos : Pos} {fa fb fc : PEnv → Mo PV} {fs : PEnv → Mo (List PV)}
def CallM (K : Frag) (mg : Str → Option Value) (r : List V → Hp → VK → Prop) (op : List PV → Mo PV) : Prop := ∀ ρ H st xs vs (Q : VK) (E : XK), StR K mg ρ H st → Rs K mg ρ H xs vs → Out K mg ρ H (op xs st) (gV K mg Q) E → r vs H Q
def BltOk (X : Cx) (f : Value) (op : List PV → Mo PV) : Prop := ∃ r, CallR X f r ∧ CallM X.K X.mg r op
def mCall (op : List PV → Mo PV) (fs : PEnv → Mo (List PV)) : PEnv → Mo PV := fun env st => (fs env st).bind op
theorem zbM {x : Str} {id : String} {op : List PV → Mo PV} {p : Pos} (h : BltOk X (.builtin id) op) (hm : X.mg x = none) (hv : bootBuiltins x = some (.builtin id)) (ha : MA X Er (e :: es) fs) (hg : Gl X x := by rfl) (hn : x ≠ "__name__" := by decide) (hdb : (x == ("__debug__" : Str)) = false := by decide)
    (he : starEach (e :: es) X.env = (false, eval e X.env) :: starEach es X.env := by rfl) (hpl : (backTo pos (starEach es X.env)).any (·.1) = false := by rfl) : ME X Er (.Call (.Name x p) (e :: es) [] pos) (mCall op fs) := by
  obtain ⟨r, h1, h2⟩ := h
  exact PE.weak (zit h1 hg hm hv ha hn hdb he hpl) fun σ H Q ⟨env, st, ρ, re, rs, h⟩ => ⟨env, st, ρ, re, rs, h.then fun ρ1 H1 xs st1 e1 s1 k vs rv => h2 ρ1 H1 st1 xs vs Q Er s1 rv k⟩
theorem zdF {x : Str} {T : String} {op : List PV → Mo PV} {p : Pos} (h : BltOk X (.type T) op) (hm : X.mg x = none) (hv : bootBuiltins x = some (.type T)) (ha : MA X Er (e :: es) fs) (hg : Gl X x := by rfl) (hn : x ≠ "__name__" := by decide) (hdb : (x == ("__debug__" : Str)) = false := by decide)
    (he : starEach (e :: es) X.env = (false, eval e X.env) :: starEach es X.env := by rfl) (hpl : (backTo pos (starEach es X.env)).any (·.1) = false := by rfl) : ME X Er (.Call (.Name x p) (e :: es) [] pos) (mCall op fs) := by
  obtain ⟨r, h1, h2⟩ := h
  exact PE.weak (zg1 h1 hg hm hv ha hn hdb he hpl) fun σ H Q ⟨env, st, ρ, re, rs, h⟩ => ⟨env, st, ρ, re, rs, h.then fun ρ1 H1 xs st1 e1 s1 k vs rv => h2 ρ1 H1 st1 xs vs Q Er s1 rv k⟩
theorem ziJ {x : Str} {n : String} (hm : X.mg x = none) (hv : bootBuiltins x = some (.type n)) (hg : Gl X x := by rfl) (hn : x ≠ "__name__" := by decide) (hd : (x == ("__debug__" : Str)) = false := by decide) : ME X Er (.Name x pos) (mC (.ty n)) :=
  zd4 (zjZ (v := .ty n) hg hm hv rfl hn hd) fun _ _ => rfl
theorem Rs.one {ρ : List Addr} {H : Hp} {x : PV} {vs : List V} (r : Rs K mg ρ H [x] vs) : ∃ v, vs = [v] ∧ R K mg ρ H x v := by
  obtain ⟨v, r', rfl, h, h'⟩ := r
  cases h'
  exact ⟨v, rfl, h⟩
theorem Rs.two {ρ : List Addr} {H : Hp} {x y : PV} {vs : List V} (r : Rs K mg ρ H [x, y] vs) : ∃ v w, vs = [v, w] ∧ R K mg ρ H x v ∧ R K mg ρ H y w := by
  obtain ⟨v, r', rfl, h, h'⟩ := r
  obtain ⟨w, rfl, h2⟩ := Rs.one h'
  exact ⟨v, w, rfl, h, h2⟩
def oLen : List PV → Mo PV
  | [.tup xs], st => .ok (.int xs.length) st
  | [.frl xs], st => .ok (.int xs.length) st
  | [.str z], st => if z.length ≤ lim then .ok (.int z.length) st else .stuck
  | [.ref n], st => withL st n fun xs => .ok (.int xs.length) st
  | _, _ => .stuck
theorem zeP : BltOk X (.builtin "len") oLen := ⟨_, zio, fun ρ H st xs vs Q E s r h => by
  match xs, r, h with
  | [.tup ys], r, h =>
    obtain ⟨v, rfl, p, ws, rfl, h1, h2⟩ := Rs.one r
    exact ⟨_, ws.length, rfl, .inr ⟨ws, h1, rfl⟩, by rw [← h2.len]; exact Out.now (x := PV.int ys.length) h s _ rfl⟩
  | [.frl ys], r, h =>
    obtain ⟨v, rfl, p, ws, rfl, h1, h2⟩ := Rs.one r
    exact ⟨_, ws.length, rfl, .inl ⟨ws, h1.sq, rfl⟩, by rw [← h2.len]; exact Out.now (x := PV.int ys.length) h s _ rfl⟩
  | [.str z], r, h =>
    obtain ⟨v, rfl, rfl⟩ := Rs.one r
    obtain ⟨c, h⟩ := Out.ifp h
    exact ⟨_, z.length, rfl, ⟨zO c, rfl⟩, h.now s _ rfl⟩
  | [.ref n], r, h =>
    obtain ⟨v, rfl, p, rfl, hp⟩ := Rs.one r
    obtain ⟨ys, e, h⟩ := zJ h
    obtain ⟨ws, h1, h2⟩ := s.addr e hp
    exact ⟨_, ws.length, rfl, .inl ⟨ws, SqL.of h1, rfl⟩, by rw [← h2.len]; exact h.now s _ rfl⟩
  | [], r, h => exact False.elim h
  | [.non], r, h => exact False.elim h
  | [.bl _], r, h => exact False.elim h
  | [.int _], r, h => exact False.elim h
  | [.ty _], r, h => exact False.elim h
  | [.fn _], r, h => exact False.elim h
  | [.kd _ _], r, h => exact False.elim h
  | [.exo _ _ _], r, h => exact False.elim h
  | x :: y :: r', r, h => cases x <;> exact False.elim h⟩
def oInt : List PV → Mo PV
  | [.int i], st => .ok (.int i) st
  | [.bl k], st => .ok (.int (if k then 1 else 0)) st
  | _, _ => .stuck
theorem znj : BltOk X (.type "int") oInt := ⟨_, zgW, fun ρ H st xs vs Q E s r h => by
  match xs, r, h with
  | [.int i], r, h =>
    obtain ⟨v, rfl, rfl⟩ := Rs.one r
    exact .inl ⟨i, rfl, Out.now (x := PV.int i) h s _ rfl⟩
  | [.bl k], r, h =>
    obtain ⟨v, rfl, rfl⟩ := Rs.one r
    exact .inr ⟨k, rfl, Out.now (x := PV.int (if k then 1 else 0)) h s _ rfl⟩
  | [], r, h => exact False.elim h
  | [.non], r, h => exact False.elim h
  | [.str _], r, h => exact False.elim h
  | [.tup _], r, h => exact False.elim h
  | [.frl _], r, h => exact False.elim h
  | [.ref _], r, h => exact False.elim h
  | [.ty _], r, h => exact False.elim h
  | [.fn _], r, h => exact False.elim h
  | [.kd _ _], r, h => exact False.elim h
  | [.exo _ _ _], r, h => exact False.elim h
  | x :: y :: r', r, h => cases x <;> exact False.elim h⟩
def oList : List PV → Mo PV
  | [.tup xs], st => .ok (.ref st.length) (st ++ [.lst xs])
  | [.frl xs], st => .ok (.ref st.length) (st ++ [.lst xs])
  | [.ref n], st => withL st n fun xs => .ok (.ref st.length) (st ++ [.lst xs])
  | _, _ => .stuck
theorem zme : BltOk X (.type "list") oList := ⟨_, zeF, fun ρ H st xs vs Q E s r h => by
  match xs, r, h with
  | [.tup ys], r, h =>
    obtain ⟨v, rfl, p, ws, rfl, h1, h2⟩ := Rs.one r
    exact ⟨p, ws, rfl, .inr h1, fun l hl => Out.newList (xs := ys) h s h2 hl⟩
  | [.frl ys], r, h =>
    obtain ⟨v, rfl, p, ws, rfl, h1, h2⟩ := Rs.one r
    exact ⟨p, ws, rfl, .inl h1.sq, fun l hl => Out.newList (xs := ys) h s h2 hl⟩
  | [.ref n], r, h =>
    obtain ⟨v, rfl, p, rfl, hp⟩ := Rs.one r
    obtain ⟨ys, e, h⟩ := zJ h
    obtain ⟨ws, h1, h2⟩ := s.addr e hp
    exact ⟨p, ws, rfl, .inl (SqL.of h1), fun l hl => Out.newList (xs := ys) h s h2 hl⟩
  | [], r, h => exact False.elim h
  | [.non], r, h => exact False.elim h
  | [.bl _], r, h => exact False.elim h
  | [.int _], r, h => exact False.elim h
  | [.str _], r, h => exact False.elim h
  | [.ty _], r, h => exact False.elim h
  | [.fn _], r, h => exact False.elim h
  | [.kd _ _], r, h => exact False.elim h
  | [.exo _ _ _], r, h => exact False.elim h
  | x :: y :: r', r, h => cases x <;> exact False.elim h⟩
def oTuple : List PV → Mo PV
  | [.tup xs], st => .ok (.tup xs) st
  | [.frl xs], st => .ok (.tup xs) st
  | [.ref n], st => withL st n fun xs => .ok (.tup xs) st
  | _, _ => .stuck
theorem zfw : BltOk X (.type "tuple") oTuple := ⟨_, zee, fun ρ H st xs vs Q E s r h => by
  match xs, r, h with
  | [.tup ys], r, h =>
    obtain ⟨v, rfl, p, ws, rfl, h1, h2⟩ := Rs.one r
    exact ⟨p, ws, rfl, .inr ⟨h1, Out.now (x := PV.tup ys) h s _ ⟨p, ws, rfl, h1, h2⟩⟩⟩
  | [.frl ys], r, h =>
    obtain ⟨v, rfl, p, ws, rfl, h1, h2⟩ := Rs.one r
    exact ⟨p, ws, rfl, .inl ⟨h1.sq, fun l hl => h ρ _ (Ext.new hl) (s.new hl) _ (R.tup_of h2 hl)⟩⟩
  | [.ref n], r, h =>
    obtain ⟨v, rfl, p, rfl, hp⟩ := Rs.one r
    obtain ⟨ys, e, h⟩ := zJ h
    obtain ⟨ws, h1, h2⟩ := s.addr e hp
    exact ⟨p, ws, rfl, .inl ⟨SqL.of h1, fun l hl => h ρ _ (Ext.new hl) (s.new hl) _ (R.tup_of h2 hl)⟩⟩
  | [], r, h => exact False.elim h
  | [.non], r, h => exact False.elim h
  | [.bl _], r, h => exact False.elim h
  | [.int _], r, h => exact False.elim h
  | [.str _], r, h => exact False.elim h
  | [.ty _], r, h => exact False.elim h
  | [.fn _], r, h => exact False.elim h
  | [.kd _ _], r, h => exact False.elim h
  | [.exo _ _ _], r, h => exact False.elim h
  | x :: y :: r', r, h => cases x <;> exact False.elim h⟩
def tyb (T n : String) : Option Bool :=
  if T = "int" then (if n = "int" then some true else if n = "bool" ∨ n = "str" ∨ n = "tuple" ∨ n = "dict" ∨ n = "list" then some false else none)
  else if T = "bool" then (if n = "int" ∨ n = "bool" then some true else if n = "str" ∨ n = "tuple" ∨ n = "dict" ∨ n = "list" then some false else none)
  else if T = "str" then (if n = "str" then some true else if n = "int" ∨ n = "bool" ∨ n = "tuple" ∨ n = "dict" ∨ n = "list" then some false else none)
  else if T = "tuple" then (if n = "tuple" then some true else if n = "int" ∨ n = "bool" ∨ n = "str" ∨ n = "dict" ∨ n = "list" then some false else none)
  else if T = "list" then (if n = "list" then some true else if n = "int" ∨ n = "bool" ∨ n = "str" ∨ n = "dict" ∨ n = "tuple" then some false else none)
  else if T = "dict" then (if n = "dict" then some true else if n = "int" ∨ n = "bool" ∨ n = "str" ∨ n = "list" ∨ n = "tuple" then some false else none)
  else if T = "NoneType" then (if n = "int" ∨ n = "bool" ∨ n = "str" ∨ n = "list" ∨ n = "tuple" ∨ n = "dict" then some false else none)
  else none
theorem zkA (K : Frag) {T n : String} {b : Bool} (h : tyb T n = some b) : PySem.W.kitOne K (.type T) (.type n) = some b := by
  unfold tyb at h
  split at h
  · rename_i e; subst e
    split at h
    · rename_i e; subst e; cases h; first | rfl | kernel_rfl
    · split at h
      · rename_i e; cases h; rcases e with e | e | e | e | e <;> subst e <;> first | rfl | kernel_rfl
      · cases h
  · split at h
    · rename_i e; subst e
      split at h
      · rename_i e; cases h; rcases e with e | e <;> subst e <;> first | rfl | kernel_rfl
      · split at h
        · rename_i e; cases h; rcases e with e | e | e | e <;> subst e <;> first | rfl | kernel_rfl
        · cases h
    · split at h
      · rename_i e; subst e
        split at h
        · rename_i e; subst e; cases h; first | rfl | kernel_rfl
        · split at h
          · rename_i e; cases h; rcases e with e | e | e | e | e <;> subst e <;> first | rfl | kernel_rfl
          · cases h
      · split at h
        · rename_i e; subst e
          split at h
          · rename_i e; subst e; cases h; first | rfl | kernel_rfl
          · split at h
            · rename_i e; cases h; rcases e with e | e | e | e | e <;> subst e <;> first | rfl | kernel_rfl
            · cases h
        · split at h
          · rename_i e; subst e
            split at h
            · rename_i e; subst e; cases h; first | rfl | kernel_rfl
            · split at h
              · rename_i e; cases h; rcases e with e | e | e | e | e <;> subst e <;> first | rfl | kernel_rfl
              · cases h
          · split at h
            · rename_i e; subst e
              split at h
              · rename_i e; subst e; cases h; first | rfl | kernel_rfl
              · split at h
                · rename_i e; cases h; rcases e with e | e | e | e | e <;> subst e <;> first | rfl | kernel_rfl
                · cases h
            · split at h
              · rename_i e; subst e
                split at h
                · rename_i e; cases h; rcases e with e | e | e | e | e | e <;> subst e <;> first | rfl | kernel_rfl
                · cases h
              · cases h
end
end Mi
namespace Mi
open PySem L2 PySem.W PySem.Spec
def spM (K : Frag) (mg : Str → Option Value) (m : List PV → Mo PV) : Sp := fun vs H Q E => ∃ xs st ρ, Rs K mg ρ H xs vs ∧ StR K mg ρ H st ∧ Out K mg ρ H (m xs st) (gV K mg Q) E
section
variable (P : Program) (w : World) (K : Frag) (mg : Str → Option Value) (base : Heap)
def FOk (x : Str) (k : Nat) (m : List PV → Mo PV) : Prop := ∃ f fd ps, mg x = some (.ref f) ∧ keepIn K (.ref f) = true ∧ Binds K fd ps [] ∧ FnOk P w K mg base (CXe P w) k f fd ps (spM K mg m)
def MOk (c name : Str) (k : Nat) (m : List PV → Mo PV) : Prop := ∃ C f fd ps, mg c = some (.ref C) ∧ Cls K C ∧ Meth K C name f ∧ Binds K fd ps [] ∧ FnOk P w K mg base (CXe P w) k f fd ps (spM K mg m)
def NOk (c : Str) (k : Nat) (m : List PV → Mo PV) : Prop := ∃ C f fd ps, mg c = some (.ref C) ∧ Mk K C f ∧ Binds K fd ps [] ∧ FnOk P w K mg base (CXe P w) k f fd ps (spM K mg m)
def XOk (c fld : Str) : Prop := ∃ C f fd, mg c = some (.ref C) ∧ ExMk K C f ∧ FnOk P w K mg base (CXe P w) 1 f fd ["self", fld] (zlY C fld) ∧ Binds K fd ["self", fld] []
end
section
variable {X : Cx} {Er : XK} {K : Frag} {mg : Str → Option Value} {a b c e o : Expr} {es : List Expr} {pos p apos : Pos} {fa fb fc fo : PEnv → Mo PV} {fs : PEnv → Mo (List PV)} {k : Nat} {x : Str} {m : List PV → Mo PV}
theorem zW (C : FOk X.prog X.w X.K X.mg X.base x k m) (hr : Room k X.A) (ht : zav X Er) (ha : MA X Er (e :: es) fs) (hg : Gl X x := by rfl) (hdb : (x == ("__debug__" : Str)) = false := by decide)
    (he : starEach (e :: es) X.env = (false, eval e X.env) :: starEach es X.env := by rfl) (hpl : (backTo pos (starEach es X.env)).any (·.1) = false := by rfl) : ME X Er (.Call (.Name x p) (e :: es) [] pos) (mCall m fs) := by
  obtain ⟨f, fd, ps, hm, hk, hb, F⟩ := C
  exact PE.weak (zka F hr hg hm hk hb .nil (zcY ht) ha hdb he hpl) fun σ H Q ⟨env, st, ρ, re, rs, h⟩ => ⟨env, st, ρ, re, rs, h.then fun ρ1 H1 xs st1 e1 s1 k vs rv => by
    show spM X.K X.mg m (vs ++ []) H1 Q Er
    rw [List.append_nil]
    exact ⟨xs, st1, ρ1, rv, s1, k⟩⟩
def mCallV (tab : Str → Option (List PV → Mo PV)) (ff : PEnv → Mo PV) (fs : PEnv → Mo (List PV)) : PEnv → Mo PV := fun env st => (ff env st).bind fun f st1 => match f with
  | .fn x => match tab x with
    | some m => (fs env st1).bind m
    | none => .stuck
  | _ => .stuck
theorem zkB {tab : Str → Option (List PV → Mo PV)} {ff : PEnv → Mo PV} (ht : ∀ y m, tab y = some m → FOk X.prog X.w X.K X.mg X.base y k m) (hf : ME X Er (.Name x p) ff) (hr : Room k X.A) (hT : zav X Er) (ha : MA X Er (e :: es) fs)
    (he : starEach (e :: es) X.env = (false, eval e X.env) :: starEach es X.env := by rfl) (hpl : (backTo pos (starEach es X.env)).any (·.1) = false := by rfl) : ME X Er (.Call (.Name x p) (e :: es) [] pos) (mCallV tab ff fs) :=
  PE.weak (ziB (CX := CXe X.prog X.w) hf hr (zcY hT) ha he hpl) fun σ H Q ⟨env, st, ρ, re, rs, h⟩ => ⟨env, st, ρ, re, rs, h.then fun ρ1 H1 f st1 e1 s1 h1 v rv => by
    cases f with
    | fn y =>
      cases hy : tab y with
      | none => simp only [hy] at h1; exact False.elim h1
      | some m =>
        simp only [hy] at h1
        obtain ⟨f, rfl, hm⟩ := rv
        obtain ⟨f', fd, ps, hm', hk, hb, F⟩ := ht y m hy
        rw [hm] at hm'
        cases hm'
        exact ⟨f, _, rfl, ⟨fd, ps, F, hk, hb⟩, env, st1, ρ1, re.ext e1, s1, Out.then h1 fun ρ2 H2 xs st2 e2 s2 h2 vs rvs => ⟨xs, st2, ρ2, rvs, s2, h2⟩⟩
    | _ => exact False.elim h1⟩
theorem zca {ρ : List Addr} {H : Hp} {f : Str} : ∀ {ks : List Str} {xs : List PV} {vs : List V} {x : PV}, Rs K mg ρ H xs vs → (ks.zip xs).lookup f = some x → ∃ v, (ks.zip vs).lookup f = some v ∧ R K mg ρ H x v
  | [], _, _, _, _, h => by simp at h
  | k :: ks, [], _, _, _, h => by simp at h
  | k :: ks, y :: xs, _, x, r, h => by
    obtain ⟨v, r', rfl, h1, h2⟩ := r
    simp only [List.zip_cons_cons, List.lookup_cons] at h ⊢
    split at h
    · cases h; exact ⟨v, rfl, h1⟩
    · exact zca h2 h
theorem zbw {f : Str} {β : Type} : ∀ {ks : List Str} {vs : List β}, f ∉ ks → (ks.zip vs).lookup f = none
  | [], _, _ => by simp
  | k :: ks, [], _ => by simp
  | k :: ks, v :: vs, h => by
    simp only [List.mem_cons, not_or] at h
    simp only [List.zip_cons_cons, List.lookup_cons]
    have : (f == k) = false := by simpa using h.1
    rw [this]
    exact zbw h.2
def tMethD (X : Cx) (name : Str) (k : Nat) (E : XK) (ta : TE) (t : TA) : TE := fun σ H Q => ta σ H fun x H1 => ∃ a C dx fs f fd ps sp, x = .ref a ∧ H1 a = some (.ins C dx fs) ∧ fs.lookup name = none ∧ Cls X.K C ∧ Meth X.K C name f ∧ Binds X.K fd ps [] ∧ FnOk X.prog X.w X.K X.mg X.base (CXe X.prog X.w) k f fd ps sp ∧
  t σ H1 fun vs H2 => sp (x :: vs) H2 Q E
theorem ziK {pl : Sem Bool} {name : Str} {ta : TE} {t : TA} {E : XK} (he : PE X o ta) (hr : Room k X.A) (hx : Passes (CXe X.prog X.w) X E) (ha : PA X (e :: es) t)
    (hst : starEach (e :: es) X.env = (false, eval e X.env) :: starEach es X.env := by rfl) (hpl : (backTo pos (starEach es X.env)).any (·.1) = false := by rfl)
    (ht : eval (.Call (.Attribute o name apos) (e :: es) [] pos) X.env = (do
      let ov ← eval o X.env
      standAt apos.atName
      let (f, first) ← holding [ov] (getMethod ov name pl)
      callWith pos f first (backTo pos (starEach (e :: es) X.env)) (backToKw pos (keywordEach [] X.env))) := by rfl) :
    PE X (.Call (.Attribute o name apos) (e :: es) [] pos) (tMethD X name k E ta t) := by
  intro pins s σ H Q I h
  refine PySem.W.methodCall_KW (pl := pl) (thn (he pins s σ H _ I h) fun u s1 ⟨x, H1, I1, rx, a, C, dx, fs, f, fd, ps, sp, ex, ea, l, c, hm, hb, F, q⟩ => ?_) ht
  subst ex
  obtain rfl : u = Value.ref a := rx
  refine zcX I1 ea c hm l ?_
  refine PySem.W.callWith_K (first := [.ref a]) (h₀ := X.base) I.ok.mod.kin hm.kp (thn (ha pos pins s1 σ H1 _ I1 q) fun us s2 ⟨vs, H2, I2, r, q2⟩ => ⟨I2.kIn, ?_⟩) hst hpl
  exact zfO (us := .ref a :: us) (vs := .ref a :: vs) F hr hb .nil hx I2 (.cons rfl r) (by rw [List.append_nil]; exact q2)
theorem zhm {pl : Sem Bool} {name : Str} {ta : TE} {E : XK} (he : PE X o ta) (hr : Room k X.A) (hx : Passes (CXe X.prog X.w) X E)
    (ht : eval (.Call (.Attribute o name apos) [] [] pos) X.env = (do
      let ov ← eval o X.env
      standAt apos.atName
      let (f, first) ← holding [ov] (getMethod ov name pl)
      callWith pos f first (backTo pos (starEach [] X.env)) (backToKw pos (keywordEach [] X.env))) := by rfl) :
    PE X (.Call (.Attribute o name apos) [] [] pos) (tMethD X name k E ta tNil) := by
  intro pins s σ H Q I h
  refine PySem.W.methodCall_KW (pl := pl) (thn (he pins s σ H _ I h) fun u s1 ⟨x, H1, I1, rx, a, C, dx, fs, f, fd, ps, sp, ex, ea, l, c, hm, hb, F, q⟩ => ?_) ht
  subst ex
  obtain rfl : u = Value.ref a := rx
  refine zcX I1 ea c hm l ?_
  exact PySem.W.callWith_K0 (first := [.ref a]) I1.kIn hm.kp (zfO (us := [.ref a]) (vs := [.ref a]) F hr hb .nil hx I1 (.cons rfl .nil) (by rw [List.append_nil]; exact q))
def methAt (name : Str) (tab : Str → Option (List PV → Mo PV)) (o : PV) (st : Sto) (k : Nat → (List PV → Mo PV) → Res PV) : Res PV := match o with
  | .ref n => withI st n fun c ks _ => if name ∈ ks then .stuck else match tab c with
    | some m => k n m
    | none => .stuck
  | _ => .stuck
def mMeth (name : Str) (tab : Str → Option (List PV → Mo PV)) (fo : PEnv → Mo PV) (fs : PEnv → Mo (List PV)) : PEnv → Mo PV := fun env st => (fo env st).bind fun o st1 => methAt name tab o st1 fun n m => (fs env st1).bind fun ys st2 => m (.ref n :: ys) st2
theorem zc0 {name : Str} {tab : Str → Option (List PV → Mo PV)} {o : PV} {st : Sto} {kk : Nat → (List PV → Mo PV) → Res PV} {ρ : List Addr} {H : Hp} {good} (h : Out K mg ρ H (methAt name tab o st kk) good Er) :
    ∃ n c ks xs m, o = .ref n ∧ st[n]? = some (.ins c ks xs) ∧ name ∉ ks ∧ tab c = some m ∧ Out K mg ρ H (kk n m) good Er := by
  cases o with
  | ref n =>
    obtain ⟨c, ks, xs, e, h⟩ := zcE h
    split at h
    · exact False.elim h
    · rename_i hn
      cases hc : tab c with
      | none => rw [hc] at h; exact False.elim h
      | some m => rw [hc] at h; exact ⟨n, c, ks, xs, m, rfl, e, hn, hc, h⟩
  | _ => exact False.elim h
theorem zbn {pl : Sem Bool} {name : Str} {tab : Str → Option (List PV → Mo PV)} (hT : ∀ c m, tab c = some m → MOk X.prog X.w X.K X.mg X.base c name k m) (ho : ME X Er o fo) (hr : Room k X.A) (ht : zav X Er) (ha : MA X Er (e :: es) fs)
    (hst : starEach (e :: es) X.env = (false, eval e X.env) :: starEach es X.env := by rfl) (hpl : (backTo pos (starEach es X.env)).any (·.1) = false := by rfl)
    (hev : eval (.Call (.Attribute o name apos) (e :: es) [] pos) X.env = (do
      let ov ← eval o X.env
      standAt apos.atName
      let (f, first) ← holding [ov] (getMethod ov name pl)
      callWith pos f first (backTo pos (starEach (e :: es) X.env)) (backToKw pos (keywordEach [] X.env))) := by rfl) :
    ME X Er (.Call (.Attribute o name apos) (e :: es) [] pos) (mMeth name tab fo fs) :=
  PE.weak (ziK (pl := pl) ho hr (zcY ht) ha hst hpl hev) fun σ H Q ⟨env, st, ρ, re, rs, h⟩ => ⟨env, st, ρ, re, rs, h.then fun ρ1 H1 x st1 e1 s1 h1 v rv => by
    obtain ⟨n, c, ks, xs, m, rfl, hn, hk, hc, h1⟩ := zc0 h1
    obtain ⟨C, f, fd, ps, hC, cl, hm, hb, F⟩ := hT c m hc
    obtain ⟨p, rfl, hp⟩ := rv
    obtain ⟨C', dx, vs, hC', hH, hR, hl⟩ := s1.addr hn hp
    rw [hC] at hC'
    cases hC'
    exact ⟨p, C, dx, _, f, fd, ps, _, rfl, hH, zbw hk, cl, hm, hb, F, env, st1, ρ1, re.ext e1, s1, Out.then h1 fun ρ2 H2 ys st2 e2 s2 h2 ws rws => ⟨.ref n :: ys, st2, ρ2, ⟨_, _, rfl, ⟨p, rfl, e2.get hp⟩, rws⟩, s2, h2⟩⟩⟩
theorem zeh {pl : Sem Bool} {name : Str} {tab : Str → Option (List PV → Mo PV)} (hT : ∀ c m, tab c = some m → MOk X.prog X.w X.K X.mg X.base c name k m) (ho : ME X Er o fo) (hr : Room k X.A) (ht : zav X Er)
    (hev : eval (.Call (.Attribute o name apos) [] [] pos) X.env = (do
      let ov ← eval o X.env
      standAt apos.atName
      let (f, first) ← holding [ov] (getMethod ov name pl)
      callWith pos f first (backTo pos (starEach [] X.env)) (backToKw pos (keywordEach [] X.env))) := by rfl) :
    ME X Er (.Call (.Attribute o name apos) [] [] pos) (mMeth name tab fo aNil) :=
  PE.weak (zhm (pl := pl) ho hr (zcY ht) hev) fun σ H Q ⟨env, st, ρ, re, rs, h⟩ => ⟨env, st, ρ, re, rs, h.then fun ρ1 H1 x st1 e1 s1 h1 v rv => by
    obtain ⟨n, c, ks, xs, m, rfl, hn, hk, hc, h1⟩ := zc0 h1
    obtain ⟨C, f, fd, ps, hC, cl, hm, hb, F⟩ := hT c m hc
    obtain ⟨p, rfl, hp⟩ := rv
    obtain ⟨C', dx, vs, hC', hH, hR, hl⟩ := s1.addr hn hp
    rw [hC] at hC'
    cases hC'
    exact ⟨p, C, dx, _, f, fd, ps, _, rfl, hH, zbw hk, cl, hm, hb, F, ⟨[.ref n], st1, ρ1, ⟨_, _, rfl, ⟨p, rfl, hp⟩, rfl⟩, s1, h1⟩⟩⟩
def newI (c : Str) (m : List PV → Mo PV) (ys : List PV) : Mo PV := fun st => (m (.ref st.length :: ys) (st ++ [.ins c [] []])).bind fun r st2 => if isNon r = true then .ok (.ref st.length) st2 else .stuck
theorem ziL {x : PV} (h : isNon x = true) : x = .non := by cases x <;> first | rfl | cases h
theorem zkC {cn : Str} {C f : Addr} {ρ : List Addr} {H : Hp} {st : Sto} {ys : List PV} {vs : List V} {Q : VK} (hC : mg cn = some (.ref C)) (s : StR K mg ρ H st) (r : Rs K mg ρ H ys vs) (h : Out K mg ρ H (newI cn m ys st) (gV K mg Q) Er) :
    ∀ x dx, H x = none → H dx = none → dx ≠ x → spM K mg m (.ref x :: vs) (upd (upd H dx (.own x)) x (.ins C dx [])) (fun v H2 => v = .non ∧ Q (.ref x) H2) Er := fun x dx hx hdx ne => by
  have hx' : upd H dx (.own x) x = none := by rw [zq (Ne.symm ne)]; exact hx
  have s1 := s.new (o := .own x) hdx
  have e1 : Ext ρ H ρ (upd H dx (.own x)) := Ext.new hdx
  have e2 : Ext ρ H (ρ ++ [x]) (upd (upd H dx (.own x)) x (.ins C dx [])) := e1.trans (Ext.push hx')
  have s2 : StR K mg (ρ ++ [x]) (upd (upd H dx (.own x)) x (.ins C dx [])) (st ++ [.ins cn [] []]) := s1.push hx' ⟨C, dx, [], hC, zu, rfl, rfl⟩
  have gx : (ρ ++ [x])[st.length]? = some x := by rw [← s.len]; simp
  refine ⟨.ref st.length :: ys, _, ρ ++ [x], ⟨_, _, rfl, ⟨x, rfl, gx⟩, Rs.ext e2 ys r⟩, s2, Out.then (Out.ext h e2) fun ρ3 H3 r3 st3 e3 s3 h3 v rv => ?_⟩
  obtain ⟨hn, h3⟩ := Out.ifp h3
  obtain rfl := ziL hn
  exact ⟨rv, h3.now s3 _ ⟨x, rfl, e3.get gx⟩⟩
theorem zfZ {cn : Str} (C : NOk X.prog X.w X.K X.mg X.base cn k m) (hr : Room (k + 1) X.A) (ht : zav X Er) (ha : MA X Er (e :: es) fs) (hg : Gl X cn := by rfl) (hdb : (cn == ("__debug__" : Str)) = false := by decide)
    (he : starEach (e :: es) X.env = (false, eval e X.env) :: starEach es X.env := by rfl) (hpl : (backTo pos (starEach es X.env)).any (·.1) = false := by rfl) : ME X Er (.Call (.Name cn p) (e :: es) [] pos) (mCall (newI cn m) fs) := by
  obtain ⟨C, f, fd, ps, hm, M, hb, F⟩ := C
  exact PE.weak (zkb M F hr hg hm hb .nil (zcY ht) ha hdb he hpl) fun σ H Q ⟨env, st, ρ, re, rs, h⟩ => ⟨env, st, ρ, re, rs, h.then fun ρ1 H1 xs st1 e1 s1 k vs rv x dx hx hdx ne => by
    rw [List.append_nil]
    exact zkC (f := f) hm s1 rv k x dx hx hdx ne⟩
def fldAt (f : Str) (ins exc : Str → Bool) : PV → Mo PV
  | .ref n, st => withI st n fun c ks xs => if ins c = true then optR ((ks.zip xs).lookup f) st else .stuck
  | .exo c ks xs, st => if exc c = true then optR ((ks.zip xs).lookup f) st else .stuck
  | _, _ => .stuck
structure FldF (K : Frag) (mg : Str → Option Value) (f : Str) (ins exc : Str → Bool) : Prop where
  i : ∀ c, ins c = true → ∃ C, mg c = some (.ref C) ∧ Cls K C ∧ NoAttr K C f
  x : ∀ c, exc c = true → ∃ C, mg c = some (.ref C) ∧ ExGa K C ∧ hasDictIn K C = true ∧ findIn K (.ref C) f = some none
def tFldB (K : Frag) (ta : TE) (f : Str) : TE := fun σ H Q => ta σ H fun x H1 => (∃ a C dx fs v, x = .ref a ∧ H1 a = some (.ins C dx fs) ∧ Cls K C ∧ NoAttr K C f ∧ fs.lookup f = some v ∧ Q v H1) ∨
  ∃ a C d fs v, x = .ref a ∧ H1 a = some (exC C (some d) a) ∧ H1 d = some (.xd fs) ∧ ExGa K C ∧ hasDictIn K C = true ∧ findIn K (.ref C) f = some none ∧ fs.lookup f = some v ∧ Q v H1
theorem zkD {f : Str} {ta : TE} (he : PE X e ta) (hb : attributeBase e f X.env (eval e X.env) = eval e X.env) : PE X (.Attribute e f pos) (tFldB X.K ta f) := by
  intro pins s σ H Q I h
  refine zj9 hb (thn (he pins s σ H _ I h) fun u s1 ⟨x, H1, I1, rx, h1⟩ => ?_)
  rcases h1 with ⟨a, C, dx, fs, v, ex, ea, c, n, l, q⟩ | ⟨a, C, dx, fs, v, ex, ea, ed, g, hh, no, l, q⟩
  · subst ex
    obtain rfl : u = Value.ref a := rx
    exact zd1 I1 ea c n l fun u' s2 I2 ru => ⟨v, H1, I2, ru, q⟩
  · subst ex
    obtain rfl : u = Value.ref a := rx
    exact zkq I1 ea ed g hh no l fun u' s2 I2 ru => ⟨v, H1, I2, ru, q⟩
theorem zbN {f : Str} {ins exc : Str → Bool} (F : FldF X.K X.mg f ins exc) (he : ME X Er e fa) (hb : attributeBase e f X.env (eval e X.env) = eval e X.env := by rfl) : ME X Er (.Attribute e f pos) (mUn (fldAt f ins exc) fa) :=
  PE.weak (zkD he hb) fun σ H Q ⟨env, st, ρ, re, rs, h⟩ => ⟨env, st, ρ, re, rs, h.then fun ρ1 H1 x st1 e1 s1 h1 v rv => by
    cases x with
    | ref n =>
      obtain ⟨c, ks, xs, hn, h1⟩ := zcE h1
      obtain ⟨hc, h1⟩ := Out.ifp h1
      obtain ⟨y, hy, h1⟩ := zba h1
      obtain ⟨p, rfl, hp⟩ := rv
      obtain ⟨C', dx, vs, hC', hH, hR, hl⟩ := s1.addr hn hp
      obtain ⟨C, hC, cl, na⟩ := F.i c hc
      rw [hC] at hC'
      cases hC'
      obtain ⟨v, hv, rv⟩ := zca hR hy
      exact .inl ⟨p, _, dx, _, v, rfl, hH, cl, na, hv, h1.now s1 _ rv⟩
    | exo c ks xs =>
      obtain ⟨hc, h1⟩ := Out.ifp h1
      obtain ⟨y, hy, h1⟩ := zba h1
      obtain ⟨a, C', d, vs, rfl, hC', hH, hd, hR, hl⟩ := rv
      obtain ⟨C, hC, g, hh, no⟩ := F.x c hc
      rw [hC] at hC'
      cases hC'
      obtain ⟨v, hv, rv⟩ := zca hR hy
      exact .inr ⟨a, _, d, _, v, rfl, hH, hd, g, hh, no, hv, h1.now s1 _ rv⟩
    | _ => exact False.elim h1⟩
def soCls : Option SO → Option (String ⊕ (Bool × Str))
  | some (.lst _) => some (.inl "list")
  | some (.dic _ _) => some (.inl "dict")
  | some (.ins c _ _) => some (.inr (false, c))
  | some (.fdi _ _) => none
  | none => none
def clsP (st : Sto) : PV → Option (String ⊕ (Bool × Str))
  | .non => some (.inl "NoneType")
  | .bl _ => some (.inl "bool")
  | .int _ => some (.inl "int")
  | .str _ => some (.inl "str")
  | .tup _ => some (.inl "tuple")
  | .ref n => soCls st[n]?
  | .exo c _ _ => some (.inr (true, c))
  | _ => none
def optB (o : Option Bool) : Mo PV := fun st => match o with
  | some b => .ok (.bl b) st
  | none => .stuck
theorem zdq {ρ : List Addr} {H : Hp} {o : Option Bool} {st : Sto} {good} (h : Out K mg ρ H (optB o st) good Er) : ∃ b, o = some b ∧ Out K mg ρ H (.ok (.bl b) st) good Er := by
  cases o with
  | some x => exact ⟨x, rfl, h⟩
  | none => exact False.elim h
structure IsT where
  isx : Str → Bool
  sub : Str → Str → Option Bool
  subT : Str → String → Option Bool
  tyC : String → Str → Option Bool
def isiA (t : IsT) (st : Sto) : PV → Option (String ⊕ (Bool × Str)) → Mo PV
  | .ty n, some (.inl T), st => optB (tyb T n) st
  | .ty n, some (.inr (f, c)), st => if t.isx c = f then optB (t.subT c n) st else .stuck
  | .fn B, some (.inl T), st => optB (t.tyC T B) st
  | .fn B, some (.inr (f, c)), st => if t.isx c = f then optB (t.sub c B) st else .stuck
  | _, _, _ => .stuck
def oIsi (t : IsT) : List PV → Mo PV
  | [x, y], st => isiA t st y (clsP st x) st
  | _, _ => .stuck
structure InIs (K : Frag) (C : Addr) : Prop where
  cl : Cls K C
  ha : findIn K (.ref C) "__class__" = some (some (.builtin "object.__class__"))
  hn : specialIn K (.builtin "object.__class__") "__get__" = some (some (.builtin "getset_descriptor.__get__"))
  tk : takesIn K (.builtin "object.__class__") = some true
  hm : mroIn K C (.type "object") = some true
structure IsF (K : Frag) (mg : Str → Option Value) (t : IsT) : Prop where
  s : ∀ c B b, t.sub c B = some b → ∃ C D, mg c = some (.ref C) ∧ mg B = some (.ref D) ∧ kitOne K (.ref C) (.ref D) = some b
  tt : ∀ c n b, t.subT c n = some b → ∃ C, mg c = some (.ref C) ∧ kitOne K (.ref C) (.type n) = some b
  u : ∀ T B b, t.tyC T B = some b → ∃ D, mg B = some (.ref D) ∧ kitOne K (.type T) (.ref D) = some b
  x : ∀ c C, t.isx c = true → mg c = some (.ref C) → ((∃ B b, t.sub c B = some b) ∨ ∃ n b, t.subT c n = some b) → ExIs K C
  i : ∀ c C, t.isx c = false → mg c = some (.ref C) → ((∃ B b, t.sub c B = some b) ∨ ∃ n b, t.subT c n = some b) → InIs K C
inductive TyA (K : Frag) (H : Hp) : V → Value → Prop where
  | of {v : V} {t : Value} (h : TyOf K H v t) : TyA K H v t
  | tup {a : Addr} {vs : List V} (h : SqT K H a vs) : TyA K H (.ref a) (.type "tuple")
  | exc {a C d : Addr} {fs : List (Str × V)} (ha : H a = some (exC C (some d) a)) (hd : H d = some (.xd fs)) (k : ExIs K C) : TyA K H (.ref a) (.ref C)
theorem zkE {pins : List (Addr × Obj)} {σ : L2.St} {H : Hp} {s : Shared} {v : V} {u t c : Value} {b : Bool} {Q : Value → Shared → Prop} {A : Around} {E : Value → Shared → Prop} (I : Inv X pins σ H s) (r : RelV v u) (ty : TyA X.K H v t) (e : kitOne X.K t c = some b) (h : ∀ tk, Q (.bool b) { s with toks := tk }) :
    wpAny (model X.prog X.w) A (call (.builtin "isinstance") [u, c]) Q E s := by
  cases ty with
  | of ty => exact zgY I r ty e h
  | @tup a vs hq =>
    obtain rfl : u = Value.ref a := r
    obtain ⟨its, _, p, _⟩ := I.tuple hq
    obtain ⟨o, h1, h2, _⟩ := p
    exact PySem.W.kia_one PySem.W.kitx_tuple I.kIn ⟨o, h1, h2⟩ e (fun z => nomatch z) h
  | @exc a C d fs ha hd k =>
    obtain rfl : u = Value.ref a := r
    exact zm9 I ha hd k e h
theorem zhn : CallR X (.builtin "isinstance") (fun xs H Q => ∃ v w t c b, xs = [v, w] ∧ TyA X.K H v t ∧ RelV w c ∧ (∀ c', RelV w c' → c' = c) ∧ kitOne X.K t c = some b ∧ Q (.bl b) H) := by
  intro pins s σ H xs us Q I r h
  obtain ⟨v, w, t, c, b, rfl, ty, rw, un, e, q⟩ := h
  obtain ⟨u, w', rfl, ru, rw'⟩ := zj6 r
  obtain rfl := un w' rw'
  exact zkE I ru ty e fun tk => ⟨.bl b, H, I.tok _, rfl, q⟩
theorem zho {ρ : List Addr} {H : Hp} {st : Sto} {x : PV} {v : V} {T : String} (s : StR K mg ρ H st) (r : R K mg ρ H x v) (h : clsP st x = some (.inl T)) : TyA K H v (.type T) := by
  cases x with
  | non => cases h; cases r; exact .of .non
  | bl b => cases h; cases r; exact .of (.bl b)
  | int i => cases h; cases r; exact .of (.int i)
  | str z => cases h; cases r; exact .of (.str z)
  | tup xs => cases h; obtain ⟨a, vs, rfl, h1, _⟩ := r; exact .tup h1
  | frl xs => cases h
  | ref n =>
    obtain ⟨a, rfl, ha⟩ := r
    have h : soCls st[n]? = some (.inl T) := h
    cases e : st[n]? with
    | none => rw [e] at h; cases h
    | some so =>
      rw [e] at h
      cases so with
      | lst xs => cases h; obtain ⟨vs, h1, _⟩ := s.addr e ha; exact .of (.lst h1)
      | dic ks xs => cases h; obtain ⟨vs, h1, _⟩ := s.addr e ha; exact .of (.dK h1)
      | ins c ks xs => cases h
      | fdi ks xs => cases h
  | ty _ => cases h
  | fn _ => cases h
  | kd _ _ => cases h
  | exo _ _ _ => cases h
theorem zf0 {ρ : List Addr} {H : Hp} {st : Sto} {x : PV} {v : V} {f : Bool} {c : Str} (hx : ∀ C, f = true → mg c = some (.ref C) → ExIs K C) (hi : ∀ C, f = false → mg c = some (.ref C) → InIs K C) (s : StR K mg ρ H st) (r : R K mg ρ H x v) (h : clsP st x = some (.inr (f, c))) : ∃ C, mg c = some (.ref C) ∧ TyA K H v (.ref C) := by
  cases x with
  | ref n =>
    obtain ⟨a, rfl, ha⟩ := r
    have h : soCls st[n]? = some (.inr (f, c)) := h
    cases e : st[n]? with
    | none => rw [e] at h; cases h
    | some so =>
      rw [e] at h
      cases so with
      | lst xs => cases h
      | dic ks xs => cases h
      | fdi ks xs => cases h
      | ins c' ks xs =>
        cases h
        obtain ⟨C, dx, vs, hC, hH, _⟩ := s.addr e ha
        have q := hi C rfl hC
        exact ⟨C, hC, .of (.ins hH q.cl q.ha q.hn q.tk q.hm)⟩
  | exo c' ks xs =>
    cases h
    obtain ⟨a, C, d, vs, rfl, hC, hH, hd, _⟩ := r
    exact ⟨C, hC, .exc hH hd (hx C rfl hC)⟩
  | non => cases h
  | bl _ => cases h
  | int _ => cases h
  | str _ => cases h
  | tup _ => cases h
  | frl _ => cases h
  | ty _ => cases h
  | fn _ => cases h
  | kd _ _ => cases h
theorem zei {t : IsT} (F : IsF X.K X.mg t) : BltOk X (.builtin "isinstance") (oIsi t) := ⟨_, zhn, fun ρ H st xs vs Q E s r h => by
  match xs, r, h with
  | [x, y], r, h =>
    obtain ⟨v, w, rfl, rx, ry⟩ := Rs.two r
    have h : Out X.K X.mg ρ H (isiA t st y (clsP st x) st) (gV X.K X.mg Q) E := h
    cases hc : clsP st x with
    | none => rw [hc] at h; cases y <;> exact False.elim h
    | some cc =>
      rw [hc] at h
      cases cc with
      | inl T =>
        cases y with
        | ty n =>
          cases ry
          obtain ⟨b, hb, h⟩ := zdq h
          exact ⟨v, _, _, _, b, rfl, zho s rx hc, rfl, fun c' h => h, zkA X.K hb, h.now s _ rfl⟩
        | fn B =>
          obtain ⟨D, rfl, hD⟩ := ry
          obtain ⟨b, hb, h⟩ := zdq h
          obtain ⟨D', hD', k⟩ := F.u T B b hb
          rw [hD] at hD'
          cases hD'
          exact ⟨v, _, _, _, b, rfl, zho s rx hc, rfl, fun c' h => h, k, h.now s _ rfl⟩
        | _ => exact False.elim h
      | inr fc =>
        obtain ⟨f, c⟩ := fc
        cases y with
        | ty n =>
          cases ry
          obtain ⟨hf, h⟩ := Out.ifp h
          obtain ⟨b, hb, h⟩ := zdq h
          obtain ⟨C, hC, k⟩ := F.tt c n b hb
          obtain ⟨C', hC', ty⟩ := zf0 (fun C e hC => F.x c C (hf.trans e) hC (.inr ⟨n, b, hb⟩)) (fun C e hC => F.i c C (hf.trans e) hC (.inr ⟨n, b, hb⟩)) s rx hc
          rw [hC] at hC'
          cases hC'
          exact ⟨v, _, _, _, b, rfl, ty, rfl, fun c' h => h, k, h.now s _ rfl⟩
        | fn B =>
          obtain ⟨D, rfl, hD⟩ := ry
          obtain ⟨hf, h⟩ := Out.ifp h
          obtain ⟨b, hb, h⟩ := zdq h
          obtain ⟨C, D', hC, hD', k⟩ := F.s c B b hb
          rw [hD] at hD'
          cases hD'
          obtain ⟨C', hC', ty⟩ := zf0 (fun C e hC => F.x c C (hf.trans e) hC (.inl ⟨B, b, hb⟩)) (fun C e hC => F.i c C (hf.trans e) hC (.inl ⟨B, b, hb⟩)) s rx hc
          rw [hC] at hC'
          cases hC'
          exact ⟨v, _, _, _, b, rfl, ty, rfl, fun c' h => h, k, h.now s _ rfl⟩
        | _ => exact False.elim h
  | [], r, h => exact False.elim h
  | [_], r, h => exact False.elim h
  | _ :: _ :: _ :: _, r, h => exact False.elim h⟩
end
end Mi
namespace Mi
open PySem L2 PySem.W PySem.Spec
section
variable {X : Cx} {Er : XK} {K : Frag} {mg : Str → Option Value} {a b c e o : Expr} {es : List Expr} {st : Stmt} {sts : List Stmt} {pos p apos pos' : Pos} {fa fb fc fo : PEnv → Mo PV} {fs : PEnv → Mo (List PV)} {k : Nat} {x : Str} {m : List PV → Mo PV}
variable {g g' gb : PEnv → Mo Fl} {ga : PEnv → Mo Bool}
theorem Out.fl {ρ : List Addr} {H : Hp} {st : Sto} {D : Ends} {fl : Fl} {E : XK} (h : Out K mg ρ H (.ok fl st) (gS K mg D) E) (s : StR K mg ρ H st) : gS K mg D ρ H fl st := h.now s
def sNext : PEnv → Mo Fl := fun env st => .ok (.nx env) st
def flowOn (g : PEnv → Mo Fl) : Fl → Mo Fl
  | .nx env, st => g env st
  | fl, st => .ok fl st
def sSeq (g g' : PEnv → Mo Fl) : PEnv → Mo Fl := fun env st => (g env st).bind (flowOn g')
theorem zK : MSs X Er [] sNext := PSs.weak zj1 fun D σ H ⟨env, st, ρ, re, rs, h⟩ => h.now rs σ re
theorem zf (h1 : MS X Er st g) (h2 : MSs X Er sts g') : MSs X Er (st :: sts) (sSeq g g') :=
  PSs.weak (zik h1 h2) fun D σ H ⟨env, st, ρ, re, rs, h⟩ => ⟨env, st, ρ, re, rs, h.then fun ρ1 H1 fl st1 e1 s1 h1 => by
    cases fl with
    | nx env1 => exact fun σ1 re1 => ⟨env1, st1, ρ1, re1, s1, h1⟩
    | rt v => exact Out.fl (D := D) (fl := .rt v) (E := Er) h1 s1
    | bk env1 => exact Out.fl (D := D) (fl := .bk env1) (E := Er) h1 s1
    | ct env1 => exact Out.fl (D := D) (fl := .ct env1) (E := Er) h1 s1⟩
theorem zh (h1 : MS X Er st g) : MSs X Er [st] g := zfq h1
def sSet (i : Nat) (f : PEnv → Mo PV) : PEnv → Mo Fl := fun env st => (f env st).bind fun x st1 => .ok (.nx (env.set i (some x))) st1
theorem zD (i : Nat) {x : Str} (he : ME X Er e fa) (hN : X.N.Nodup) (hi : X.N[i]? = some x := by rfl) (hx : Loc X.env.scope x := by first | exact Or.inl rfl | exact Or.inr rfl) (hs : swapsWith e (some (.Name x pos')) pos.line X.env = pure false := by rfl)
    (hf : X.fn x = true ∨ X.env.scope.names.lookup x = some .local := by first | exact .inl rfl | exact .inr rfl | assumption) : MS X Er (.Assign [.Name x pos'] e pos) (sSet i fa) :=
  PS.weak (zlB hN hi hx he hs hf) fun D σ H ⟨env, st, ρ, re, rs, h⟩ => ⟨env, st, ρ, re, rs, h.then fun ρ1 H1 x st1 e1 s1 h1 v rv => h1.now s1 _ ((re.ext e1).set i rv)⟩
def sExpr (f : PEnv → Mo PV) : PEnv → Mo Fl := fun env st => (f env st).bind fun _ st1 => .ok (.nx env) st1
theorem zaH (he : ME X Er e fa) (hs : swapsWith e none pos.line X.env = pure false := by rfl) : MS X Er (.Expr e pos) (sExpr fa) :=
  PS.weak (zj2 he hs) fun D σ H ⟨env, st, ρ, re, rs, h⟩ => ⟨env, st, ρ, re, rs, h.then fun ρ1 H1 x st1 e1 s1 h1 v rv => h1.now s1 _ (re.ext e1)⟩
def sRet (f : PEnv → Mo PV) : PEnv → Mo Fl := fun env st => (f env st).bind fun x st1 => .ok (.rt x) st1
theorem zx (he : ME X Er e fa) : MS X Er (.Return (some e) pos) (sRet fa) :=
  PS.weak (zlz he) fun D σ H ⟨env, st, ρ, re, rs, h⟩ => ⟨env, st, ρ, re, rs, h.then fun ρ1 H1 x st1 e1 s1 h1 v rv => h1.now s1 _ rv⟩
def sIf (t : PEnv → Mo Bool) (g g' : PEnv → Mo Fl) : PEnv → Mo Fl := fun env st => (t env st).bind fun c st1 => if c = true then g env st1 else g' env st1
theorem zal {A B : List Stmt} (hc : MT X Er c ga) (ha : MSs X Er A g) (hb : MSs X Er B g') : MS X Er (.If c A B pos) (sIf ga g g') :=
  PS.weak (zm2 hc ha hb) fun D σ H ⟨env, st, ρ, re, rs, h⟩ => ⟨env, st, ρ, re, rs, h.then fun ρ1 H1 k st1 e1 s1 h1 => by
    cases k with
    | true => exact ⟨env, st1, ρ1, re.ext e1, s1, h1⟩
    | false => exact ⟨env, st1, ρ1, re.ext e1, s1, h1⟩⟩
def ipAdd : PV → PV → Mo PV
  | .int i, .int j, st => .ok (.int (i + j)) st
  | _, _, _ => .stuck
def sAug (i : Nat) (op : PV → PV → Mo PV) (f : PEnv → Mo PV) : PEnv → Mo Fl := fun env st => (mVar i env st).bind fun x st0 => (f env st0).bind fun y st1 => (op x y st1).bind fun z st2 => .ok (.nx (env.set i (some z))) st2
def IpOk (X : Cx) (o : Operator) (op : PV → PV → Mo PV) : Prop := ∃ r, PIp X o r ∧ OpM X.K X.mg r op
theorem zhp : IpOk X .Add ipAdd := ⟨_, zlD, by
  intro ρ H st x y v w Q E s rx ry h
  cases x with
  | int i =>
    cases y with
    | int j => cases rx; cases ry; exact ⟨i, j, rfl, rfl, Out.now (x := PV.int (i + j)) h s _ rfl⟩
    | _ => exact False.elim h
  | _ => exact False.elim h⟩
theorem zjB (i : Nat) {x : Str} {o : Operator} {op : PV → PV → Mo PV} (ho : IpOk X o op) (he : ME X Er e fa) (hN : X.N.Nodup) (hi : X.N[i]? = some x := by rfl) (hx : Loc X.env.scope x := by first | exact Or.inl rfl | exact Or.inr rfl)
    (hf : X.fn x = true ∨ X.env.scope.names.lookup x = some .local := by first | exact .inl rfl | exact .inr rfl | assumption) : MS X Er (.AugAssign (.Name x pos') o e pos) (sAug i op fa) := by
  obtain ⟨r, h1, h2⟩ := ho
  refine PS.weak (zlC hN hi hx he h1 hf) fun D σ H ⟨env, st, ρ, re, rs, h⟩ => ?_
  unfold sAug mVar at h
  cases hx : env[i]? with
  | none => simp only [hx] at h; exact False.elim h
  | some q =>
    cases q with
    | none => simp only [hx] at h; exact False.elim h
    | some x0 =>
      simp only [hx] at h
      obtain ⟨v, hv, rv⟩ := re.at_ i x0 hx
      exact ⟨v, hv, env, st, ρ, re, rs, Out.then (f := fun y st1 => (op x0 y st1).bind fun z st2 => Res.ok (Fl.nx (env.set i (some z))) st2) (good := gS X.K X.mg D) h fun ρ1 H1 y st1 e1 s1 k1 w rw => h2 ρ1 H1 st1 x0 y v w _ Er s1 (R.ext e1 x0 rv) rw (k1.then fun ρ2 H2 z st2 e2 s2 k2 u ru => k2.now s2 _ (((re.ext e1).ext e2).set i ru))⟩
def putK (f : Str) (x : PV) : List Str → List PV → List Str × List PV
  | k :: ks, y :: ys => if k = f then (k :: ks, x :: ys) else (k :: (putK f x ks ys).1, y :: (putK f x ks ys).2)
  | _, _ => ([f], [x])
theorem zhq {ρ : List Addr} {H : Hp} {f : Str} {x : PV} {v : V} (r : R K mg ρ H x v) : ∀ {ks : List Str} {xs : List PV} {vs : List V}, ks.length = vs.length → Rs K mg ρ H xs vs → ∃ ws, putF f v (ks.zip vs) = (putK f x ks xs).1.zip ws ∧ Rs K mg ρ H (putK f x ks xs).2 ws ∧ (putK f x ks xs).1.length = ws.length
  | [], xs, vs, hl, h => by
    have : vs = [] := by cases vs with | nil => rfl | cons => simp at hl
    subst this
    have : xs = [] := by cases xs with | nil => rfl | cons => obtain ⟨_, _, e, _⟩ := h; cases e
    subst this
    exact ⟨[v], rfl, ⟨v, [], rfl, r, rfl⟩, rfl⟩
  | k :: ks, xs, vs, hl, h => by
    cases vs with
    | nil => simp at hl
    | cons v0 vs =>
      cases xs with
      | nil => cases h
      | cons y ys =>
        obtain ⟨v0', r', e, h1, h2⟩ := h
        cases e
        simp only [putK, List.zip_cons_cons, putF]
        by_cases hk : k = f
        · rw [if_pos hk, if_pos hk]
          exact ⟨v :: vs, rfl, ⟨v, vs, rfl, r, h2⟩, by simpa using hl⟩
        · rw [if_neg hk, if_neg hk]
          obtain ⟨ws, e1, e2, e3⟩ := zhq r (by simpa using hl) h2
          exact ⟨v0 :: ws, by rw [e1]; rfl, ⟨v0, ws, rfl, h1, e2⟩, by simp [e3]⟩
def putAt (f : Str) (ins : Str → Bool) (x : PV) : PV → Mo Unit
  | .ref n, st => withI st n fun c ks xs => if ins c = true ∧ ks.length < 1000 then .ok () (st.set n (.ins c (putK f x ks xs).1 (putK f x ks xs).2)) else .stuck
  | _, _ => .stuck
def sFld (f : Str) (ins : Str → Bool) (fo fv : PEnv → Mo PV) : PEnv → Mo Fl := fun env st => (fv env st).bind fun x st1 => (fo env st1).bind fun o st2 => (putAt f ins x o st2).bind fun _ st3 => .ok (.nx env) st3
theorem zbO {f : Str} {ins exc : Str → Bool} (F : FldF X.K X.mg f ins exc) (ho : ME X Er o fo) (he : ME X Er e fa) (hs : swapsWith e (some (.Attribute o f pos')) pos.line X.env = pure false := by rfl) : MS X Er (.Assign [.Attribute o f pos'] e pos) (sFld f ins fo fa) :=
  PS.weak (zlJ ho he hs) fun D σ H ⟨env, st, ρ, re, rs, h⟩ => ⟨env, st, ρ, re, rs, h.then fun ρ1 H1 x st1 e1 s1 h1 v rv => ⟨env, st1, ρ1, re.ext e1, s1, h1.then fun ρ2 H2 y st2 e2 s2 h2 w rw => by
    cases y with
    | ref n =>
      cases hn : st2[n]? with
      | none => simp only [putAt, withI, hn] at h2; exact False.elim h2
      | some so =>
        cases so with
        | lst _ => simp only [putAt, withI, hn] at h2; exact False.elim h2
        | dic _ _ => simp only [putAt, withI, hn] at h2; exact False.elim h2
        | fdi _ _ => simp only [putAt, withI, hn] at h2; exact False.elim h2
        | ins c ks xs =>
          simp only [putAt, withI, hn] at h2
          by_cases hc : ins c = true ∧ ks.length < 1000
          · rw [if_pos hc] at h2
            obtain ⟨p, rfl, hp⟩ := rw
            obtain ⟨C', dx, vs, hC', hH, hR, hl⟩ := s2.addr hn hp
            obtain ⟨C, hC, cl, na⟩ := F.i c hc.1
            rw [hC] at hC'
            cases hC'
            obtain ⟨ws, k1, k2, k3⟩ := zhq (f := f) (R.ext e2 x rv) hl hR
            refine ⟨p, _, dx, _, rfl, hH, cl, na, ?_, ?_⟩
            · rw [List.length_zip, ← hl]; have := hc.2; omega
            · have ew : Ext ρ2 H2 ρ2 (upd H2 p (.ins C' dx (putF f v (ks.zip vs)))) := Ext.write hH rfl
              exact h2 ρ2 _ ew (s2.write hp ew ⟨_, dx, ws, hC, by rw [zu, k1], Rs.ext ew _ k2, k3⟩) σ (((re.ext e1).ext e2).ext ew)
          · rw [if_neg hc] at h2; exact False.elim h2
    | _ => exact False.elim h2⟩⟩
def MG (X : Cx) (Er : XK) (e : Expr) (g : PV → PEnv → Option PEnv) : Prop := PG X e fun v σ H Q => ∃ x env env' ρ, R X.K X.mg ρ H x v ∧ EnvR X.K X.mg ρ H env σ ∧ g x env = some env' ∧ ∀ σ', EnvR X.K X.mg ρ H env' σ' → Q σ' H
theorem PG.weak {t t' : TG} (h : PG X e t) (w : ∀ v σ H Q, t' v σ H Q → t v σ H Q) : PG X e t' := fun pins s σ H v u Q I r q => h pins s σ H v u Q I r (w v σ H Q q)
def gN (i : Nat) : PV → PEnv → Option PEnv := fun x env => some (env.set i (some x))
theorem zej (i : Nat) {x : Str} (hN : X.N.Nodup) (hi : X.N[i]? = some x := by rfl) (hx : Loc X.env.scope x := by first | exact Or.inl rfl | exact Or.inr rfl) (hf : X.fn x = true ∨ X.env.scope.names.lookup x = some .local := by first | exact .inl rfl | exact .inr rfl | assumption) : MG X Er (.Name x pos) (gN i) :=
  PG.weak (zdu hN hi hx hf) fun v σ H Q ⟨x, env, env', ρ, rx, re, hg, q⟩ => by
    cases hg
    exact q _ (re.set i rx)
def g2 (i j : Nat) : PV → PEnv → Option PEnv
  | .tup [x, y], env => some ((env.set i (some x)).set j (some y))
  | _, _ => none
theorem zmf {i j : Nat} {x : PV} {env env' : PEnv} (h : g2 i j x env = some env') : ∃ y z, x = .tup [y, z] ∧ env' = (env.set i (some y)).set j (some z) := by
  unfold g2 at h
  split at h
  · cases h; exact ⟨_, _, rfl, rfl⟩
  · cases h
theorem znN (i j : Nat) {x y : Str} {kt : Nat} {px py : Pos} (hc : X.calm = true) (hN : X.N.Nodup) (hi : X.N[i]? = some x := by rfl) (hj : X.N[j]? = some y := by rfl) (hx : Loc X.env.scope x := by first | exact Or.inl rfl | exact Or.inr rfl) (hy : Loc X.env.scope y := by first | exact Or.inl rfl | exact Or.inr rfl)
    (hf : X.fn x = true ∨ X.env.scope.names.lookup x = some .local := by first | exact .inl rfl | exact .inr rfl | assumption) (hf' : X.fn y = true ∨ X.env.scope.names.lookup y = some .local := by first | exact .inl rfl | exact .inr rfl | assumption) : MG X Er (.Tuple [.Name x px, .Name y py] kt pos) (g2 i j) :=
  PG.weak (zlA (n := 2) hc (zfM (zdu hN hi hx hf) (zfM (zdu hN hj hy hf') zj3))) fun v σ H Q ⟨x, env, env', ρ, rx, re, hg, q⟩ => by
    obtain ⟨y, z, rfl, rfl⟩ := zmf hg
    obtain ⟨a, vs, rfl, h1, h2⟩ := rx
    obtain ⟨u, w, rfl, r1, r2⟩ := Rs.two h2
    exact ⟨a, _, rfl, h1, rfl, u, [w], rfl, w, [], rfl, rfl, q _ ((re.set i r1).set j r2)⟩
def g3 (i j k : Nat) : PV → PEnv → Option PEnv
  | .tup [x, y, z], env => some (((env.set i (some x)).set j (some y)).set k (some z))
  | _, _ => none
inductive Sq where
  | im (xs : List PV) | rf (n : Nat)
def Walk (K : Frag) (mg : Str → Option Value) (J : It) (ρ : List Addr) (H : Hp) : Sq → Prop
  | .im xs => (∀ i ρ' H', Ext ρ H ρ' H' → i < xs.length → J.go i H') ∧ (∀ i ρ' H', Ext ρ H ρ' H' → xs.length ≤ i → J.stop i H') ∧
    ∀ i ρ' H' st v H2, Ext ρ H ρ' H' → StR K mg ρ' H' st → i < xs.length → J.yld i H' v H2 → ∃ x, xs[i]? = some x ∧ Ext ρ' H' ρ' H2 ∧ StR K mg ρ' H2 st ∧ R K mg ρ' H2 x v
  | .rf n => ∃ a, ρ[n]? = some a ∧ J = Itl K a
def MI (X : Cx) (Er : XK) (tg iter : Expr) (src : PEnv → Mo Sq) : Prop := PI X tg iter fun σ H R => ∃ env st ρ, EnvR X.K X.mg ρ H env σ ∧ StR X.K X.mg ρ H st ∧ Out X.K X.mg ρ H (src env st) (fun ρ' H' q st' => ∀ J, Walk X.K X.mg J ρ' H' q → R J H') Er
def forL (g : PV → PEnv → Option PEnv) (body : PEnv → Mo Fl) : List PV → PEnv → Mo Fl
  | [], env, st => .ok (.nx env) st
  | x :: xs, env, st => match g x env with
    | none => .stuck
    | some env1 => (body env1 st).bind fun fl st2 => match fl with
      | .nx e => forL g body xs e st2
      | .ct e => forL g body xs e st2
      | .bk e => .ok (.nx e) st2
      | .rt v => .ok (.rt v) st2
def forR (g : PV → PEnv → Option PEnv) (body : PEnv → Mo Fl) (n : Nat) : Nat → Nat → PEnv → Mo Fl
  | 0, _, _, _ => .stuck
  | m + 1, i, env, st => withL st n fun xs => match xs[i]? with
    | none => .ok (.nx env) st
    | some x => match g x env with
      | none => .stuck
      | some env1 => (body env1 st).bind fun fl st2 => match fl with
        | .nx e => forR g body n m (i + 1) e st2
        | .ct e => forR g body n m (i + 1) e st2
        | .bk e => .ok (.nx e) st2
        | .rt v => .ok (.rt v) st2
def forS (g : PV → PEnv → Option PEnv) (body : PEnv → Mo Fl) : Sq → PEnv → Mo Fl
  | .im xs => forL g body xs
  | .rf n => forR g body n (lim + 1) 0
def sFor (src : PEnv → Mo Sq) (g : PV → PEnv → Option PEnv) (body : PEnv → Mo Fl) : PEnv → Mo Fl := fun env st => (src env st).bind fun q st1 => forS g body q env st1
theorem zeQ {tg iter : Expr} {src : PEnv → Mo Sq} {gt : PV → PEnv → Option PEnv} (hp : PassesOwn (model X.prog X.w) X.A X.env X.xe) (hc : X.calm = true) (hi : MI X Er tg iter src) (hg : MG X Er tg gt) (hb : MSs X Er sts gb)
    (hs : ∀ x, foldedSetIterable iter X.env x = pure x := by intro _; rfl) : MS X Er (.For tg iter sts [] pos) (sFor src gt gb) :=
  PS.weak (zjs hp hc hi hg hb hs) fun D σ H ⟨env, st, ρ, re, rs, h⟩ => ⟨env, st, ρ, re, rs, h.then fun ρ0 H0 q st0 e0 s0 h0 J wk => by
    cases q with
    | im xs =>
      obtain ⟨w1, w2, w3⟩ := wk
      refine ⟨fun i m σ H => m = xs.length - i ∧ i ≤ xs.length ∧ ∃ env st ρ, EnvR X.K X.mg ρ H env σ ∧ StR X.K X.mg ρ H st ∧ Ext ρ0 H0 ρ H ∧ Out X.K X.mg ρ H (forL gt gb (xs.drop i) env st) (gS X.K X.mg D) Er, ⟨xs.length, by simp, Nat.zero_le _, env, st0, ρ0, re.ext e0, s0, Ext.refl, h0⟩, ?_⟩
      rintro i m σ H ⟨rfl, hi, env, st, ρ, re, rs, ex, h⟩
      by_cases hlt : i < xs.length
      · refine .inr ⟨w1 i ρ H ex hlt, _, fun σ' H' p' => ⟨xs.length - (i + 1), by omega, rfl, hlt, p'⟩, fun v H' y => ?_⟩
        obtain ⟨x, hx, ex2, s2, rx⟩ := w3 i ρ H st v H' ex rs hlt y
        have hd : xs.drop i = x :: xs.drop (i + 1) := by
          rw [List.drop_eq_getElem_cons hlt]
          have := (List.getElem?_eq_some_iff.mp hx).2
          rw [this]
        rw [hd] at h
        cases hgx : gt x env with
        | none => simp only [forL, hgx] at h; exact False.elim h
        | some env1 =>
          simp only [forL, hgx] at h
          refine ⟨x, env, env1, ρ, rx, re.ext ex2, hgx, fun σ1 r1 => ⟨env1, st, ρ, r1, s2, Out.then (Out.ext h ex2) fun ρ3 H3 fl st3 e3 s3 h3 => ?_⟩⟩
          cases fl with
          | nx e => exact fun σ4 r4 => ⟨e, st3, ρ3, r4, s3, (ex.trans ex2).trans e3, h3⟩
          | ct e => exact fun σ4 r4 => ⟨e, st3, ρ3, r4, s3, (ex.trans ex2).trans e3, h3⟩
          | bk e => exact Out.fl (D := D) (fl := .nx e) (E := Er) h3 s3
          | rt v => exact Out.fl (D := D) (fl := .rt v) (E := Er) h3 s3
      · have e : i = xs.length := by omega
        subst e
        rw [List.drop_length] at h
        exact .inl ⟨w2 _ ρ H ex (Nat.le_refl _), Out.now (x := Fl.nx env) h rs σ re⟩
    | rf n =>
      obtain ⟨a, ha, rfl⟩ := wk
      refine ⟨fun i m σ H => ∃ env st ρ, EnvR X.K X.mg ρ H env σ ∧ StR X.K X.mg ρ H st ∧ ρ[n]? = some a ∧ Out X.K X.mg ρ H (forR gt gb n m i env st) (gS X.K X.mg D) Er, ⟨lim + 1, env, st0, ρ0, re.ext e0, s0, ha, h0⟩, ?_⟩
      rintro i m σ H ⟨env, st, ρ, re, rs, ha, h⟩
      cases m with
      | zero => exact False.elim h
      | succ m =>
        obtain ⟨xs, hn, h⟩ := zJ h
        obtain ⟨vs, hH, hR⟩ := rs.addr hn ha
        cases hx : xs[i]? with
        | none =>
          simp only [hx] at h
          have : vs.length ≤ i := by rw [← hR.len]; exact List.getElem?_eq_none_iff.mp hx
          exact .inl ⟨⟨vs, SqL.of hH, this⟩, Out.now (x := Fl.nx env) h rs σ re⟩
        | some x =>
          simp only [hx] at h
          obtain ⟨v, hv, rv⟩ := hR.get hx
          refine .inr ⟨⟨vs, v, SqL.of hH, hv⟩, _, fun σ' H' p' => ⟨m, Nat.lt_succ_self m, p'⟩, fun v' H' y => ?_⟩
          obtain ⟨e1, y⟩ := y
          subst e1
          have e2 := y vs (SqL.of hH)
          rw [hv] at e2
          cases e2
          cases hgx : gt x env with
          | none => simp only [hgx] at h; exact False.elim h
          | some env1 =>
            simp only [hgx] at h
            refine ⟨x, env, env1, ρ, rv, re, hgx, fun σ1 r1 => ⟨env1, st, ρ, r1, rs, Out.then h fun ρ3 H3 fl st3 e3 s3 h3 => ?_⟩⟩
            cases fl with
            | nx e => exact fun σ4 r4 => ⟨e, st3, ρ3, r4, s3, e3.get ha, h3⟩
            | ct e => exact fun σ4 r4 => ⟨e, st3, ρ3, r4, s3, e3.get ha, h3⟩
            | bk e => exact Out.fl (D := D) (fl := .nx e) (E := Er) h3 s3
            | rt v => exact Out.fl (D := D) (fl := .rt v) (E := Er) h3 s3⟩
end
end Mi
namespace Mi
open PySem L2 PySem.W PySem.Spec
section
variable {X : Cx} {Er : XK} {K : Frag} {mg : Str → Option Value} {a b c e o tg : Expr} {es : List Expr} {st : Stmt} {sts : List Stmt} {pos p apos pos' : Pos} {fa fb fc fo : PEnv → Mo PV} {fs : PEnv → Mo (List PV)} {k : Nat} {x : Str} {m : List PV → Mo PV}
variable {g g' gb : PEnv → Mo Fl} {ga : PEnv → Mo Bool}
theorem PI.weak {t t' : TI} (h : PI X tg e t) (w : ∀ σ H Q, t' σ H Q → t σ H Q) : PI X tg e t' := fun pins s σ H Q I q => h pins s σ H Q I (w σ H Q q)
def iSeq (K : Frag) (tl : TE) : TI := fun σ H R => tl σ H fun x H1 => (∃ a, x = .ref a ∧ (∃ xs, SqL K H1 a xs) ∧ R (Itl K a) H1) ∨ (∃ a, x = .ref a ∧ (∃ xs, SqT K H1 a xs) ∧ R (Itt K a) H1) ∨ ∃ z, x = .str z ∧ R (Its z) H1
theorem zmg {l : Expr} {tl : TE} (hl : PE X l tl) : PI X tg l (iSeq X.K tl) := by
  intro pins s σ H R I h
  refine thn (hl pins s σ H _ I h) fun v s1 ⟨x, H1, I1, r1, q1⟩ => ?_
  have fin : ∀ b ∈ [s1.heap.objs.size], FpOk X pins H1 b := fun b hb => by
    have e : b = s1.heap.objs.size := by simpa using hb
    subst e
    exact I1.fpOk (Nat.le_refl _) (I1.hok.fresh (Nat.le_refl _))
  rcases q1 with ⟨a, e, ⟨xs, hq⟩, q⟩ | ⟨a, e, ⟨xs, hq⟩, q⟩ | ⟨z, rfl, q⟩
  · subst e
    cases r1
    obtain ⟨its, rv, p, hz⟩ := I1.list hq
    exact wpAny_pyIter_list p.isList ⟨s1.heap.objs.size, [s1.heap.objs.size], _, _, H1, rfl, I1.kept (t' := s1.toks) (fun b o e => Heap.get?_push_of_some _ e), zgS a _, ⟨_, Heap.get?_push_size _ rfl, rfl, rfl⟩, fin, q⟩
  · subst e
    cases r1
    obtain ⟨its, rv, p, hz⟩ := I1.tuple hq
    exact wpAny_pyIter_tuple (show s1.heap.IsTuple a its.toArray from p) ⟨s1.heap.objs.size, [s1.heap.objs.size], _, _, H1, rfl, I1.kept (t' := s1.toks) (fun b o e => Heap.get?_push_of_some _ e), zgs a _, ⟨_, Heap.get?_push_size _ rfl, rfl, rfl⟩, fin, q⟩
  · obtain ⟨t, rfl⟩ := r1
    cases ha : z.cps.all (· < 128) with
    | false => exact wpAny_pyIter_wide ha ⟨s1.heap.objs.size, [s1.heap.objs.size], _, _, H1, rfl, I1.kept (t' := s1.toks) (fun b o e => Heap.get?_push_of_some _ e), zfR z t _ "str_iterator" (.inr rfl), ⟨_, Heap.get?_push_size _ rfl, rfl, rfl⟩, fin, q⟩
    | true => exact wpAny_pyIter_ascii ha ⟨s1.heap.objs.size, [s1.heap.objs.size], _, _, H1, rfl, I1.kept (t' := s1.toks) (fun b o e => Heap.get?_push_of_some _ e), zfR z t _ "str_ascii_iterator" (.inl rfl), ⟨_, Heap.get?_push_size _ rfl, rfl, rfl⟩, fin, q⟩
theorem ziM {ρ : List Addr} {H : Hp} {a : Addr} {xs : List PV} {vs : List V} (h : SqT K H a vs) (r : Rs K mg ρ H xs vs) : Walk K mg (Itt K a) ρ H (.im xs) := by
  refine ⟨fun i ρ' H' e hi => ?_, fun i ρ' H' e hi => ⟨vs, e.sqT h, by rw [← r.len]; exact hi⟩, fun i ρ' H' st v H2 e s hi y => ?_⟩
  · obtain ⟨v, hv, _⟩ := r.get (List.getElem?_eq_getElem hi)
    exact ⟨vs, v, e.sqT h, hv⟩
  · obtain ⟨e1, y⟩ := y
    subst e1
    obtain ⟨v', hv, rv⟩ := r.get (List.getElem?_eq_getElem hi)
    have := y vs (e.sqT h)
    rw [hv] at this
    cases this
    exact ⟨_, List.getElem?_eq_getElem hi, Ext.refl, s, R.ext e _ rv⟩
theorem ziN {ρ : List Addr} {H : Hp} {a : Addr} {xs : List PV} {vs : List V} (h : FrL K H a vs) (r : Rs K mg ρ H xs vs) : Walk K mg (Itl K a) ρ H (.im xs) := by
  have hs : ∀ {ρ' H'}, Ext ρ H ρ' H' → SqL K H' a vs := fun e => (e.frl h).sq
  refine ⟨fun i ρ' H' e hi => ?_, fun i ρ' H' e hi => ⟨vs, hs e, by rw [← r.len]; exact hi⟩, fun i ρ' H' st v H2 e s hi y => ?_⟩
  · obtain ⟨v, hv, _⟩ := r.get (List.getElem?_eq_getElem hi)
    exact ⟨vs, v, hs e, hv⟩
  · obtain ⟨e1, y⟩ := y
    subst e1
    obtain ⟨v', hv, rv⟩ := r.get (List.getElem?_eq_getElem hi)
    have := y vs (hs e)
    rw [hv] at this
    cases this
    exact ⟨_, List.getElem?_eq_getElem hi, Ext.refl, s, R.ext e _ rv⟩
def signs (z : Str) : List PV := z.cps.toList.map fun c => .str ⟨#[c]⟩
theorem ziO {ρ : List Addr} {H : Hp} (z : Str) : Walk K mg (Its z) ρ H (.im (signs z)) := by
  have hl : (signs z).length = z.cps.size := by simp [signs]
  refine ⟨fun i ρ' H' e hi => by rw [hl] at hi; exact hi, fun i ρ' H' e hi => by rw [hl] at hi; exact hi, fun i ρ' H' st v H2 e s hi y => ?_⟩
  obtain ⟨e1, c, hc, e2⟩ := y
  subst e1 e2
  refine ⟨.str ⟨#[c]⟩, ?_, Ext.refl, s, rfl⟩
  simp [signs, hc]
def nums (lo : Int) (n : Nat) : List PV := (List.range n).map fun i => .int (lo + (i : Nat))
theorem zgE {ρ : List Addr} {H : Hp} (lo : Int) (n : Nat) : Walk K mg (Itr lo n) ρ H (.im (nums lo n)) := by
  have hl : (nums lo n).length = n := by simp [nums]
  refine ⟨fun i ρ' H' e hi => by rw [hl] at hi; exact hi, fun i ρ' H' e hi => by rw [hl] at hi; exact hi, fun i ρ' H' st v H2 e s hi y => ?_⟩
  obtain ⟨e1, e2⟩ := y
  subst e1 e2
  rw [hl] at hi
  exact ⟨.int (lo + i), by simp [nums, hi], Ext.refl, s, rfl⟩
def seqOf : PV → Mo Sq
  | .tup xs, st => .ok (.im xs) st
  | .frl xs, st => .ok (.im xs) st
  | .str z, st => .ok (.im (signs z)) st
  | .ref n, st => withL st n fun _ => .ok (.rf n) st
  | _, _ => .stuck
def iVal (f : PEnv → Mo PV) : PEnv → Mo Sq := fun env st => (f env st).bind seqOf
theorem zhr (h : ME X Er e fa) : MI X Er tg e (iVal fa) := PI.weak (zmg h) fun σ H Q ⟨env, st, ρ, re, rs, h⟩ => ⟨env, st, ρ, re, rs, h.then fun ρ1 H1 x st1 e1 s1 h1 v rv => by
  cases x with
  | tup xs =>
    obtain ⟨a, vs, rfl, k1, k2⟩ := rv
    exact .inr (.inl ⟨a, rfl, ⟨vs, k1⟩, Out.now (x := Sq.im xs) h1 s1 _ (ziM k1 k2)⟩)
  | frl xs =>
    obtain ⟨a, vs, rfl, k1, k2⟩ := rv
    exact .inl ⟨a, rfl, ⟨vs, k1.sq⟩, Out.now (x := Sq.im xs) h1 s1 _ (ziN k1 k2)⟩
  | str z =>
    cases rv
    exact .inr (.inr ⟨z, rfl, Out.now (x := Sq.im (signs z)) h1 s1 _ (ziO z)⟩)
  | ref n =>
    obtain ⟨a, rfl, ha⟩ := rv
    obtain ⟨xs, hn, h1⟩ := zJ h1
    obtain ⟨vs, k1, k2⟩ := s1.addr hn ha
    exact .inl ⟨a, rfl, ⟨vs, SqL.of k1⟩, h1.now s1 _ ⟨a, ha, rfl⟩⟩
  | _ => exact False.elim h1⟩
abbrev cR (j : Int) : Bool := decide (-(2 ^ 62) ≤ j) && decide (j < 2 ^ 62)
def rng1 : List PV → Mo Sq
  | [.int j], st => if cR j = true then .ok (.im (nums 0 j.toNat)) st else .stuck
  | _, _ => .stuck
def zol : List PV → Mo Sq
  | [.int i, .int j], st => if cR i = true ∧ cR j = true then .ok (.im (nums i (j - i).toNat)) st else .stuck
  | _, _ => .stuck
theorem ziP {ρ : List Addr} {H : Hp} {xs : List PV} {st : Sto} {good : List Addr → Hp → Sq → Sto → Prop} (h : Out K mg ρ H (rng1 xs st) good Er) : ∃ j, xs = [.int j] ∧ -(2 ^ 62) ≤ j ∧ j < 2 ^ 62 ∧ Out K mg ρ H (.ok (.im (nums 0 j.toNat)) st) good Er := by
  unfold rng1 at h
  split at h
  · obtain ⟨c, h⟩ := Out.ifp h
    simp [cR] at c
    exact ⟨_, rfl, c.1, c.2, h⟩
  · exact False.elim h
def iRng1 (fs : PEnv → Mo (List PV)) : PEnv → Mo Sq := fun env st => (fs env st).bind rng1
def iRng2 (fs : PEnv → Mo (List PV)) : PEnv → Mo Sq := fun env st => (fs env st).bind zol
theorem zbP {a : Expr} (hm : X.mg "range" = none) (ha : MA X Er [a] fs) (hg : Gl X "range" := by rfl) (hs : starEach [a] X.env = [(false, eval a X.env)] := by rfl) : MI X Er tg (.Call (.Name "range" p) [a] [] pos) (iRng1 fs) :=
  PI.weak (zgT hg hm ha hs) fun σ H Q ⟨env, st, ρ, re, rs, h⟩ => ⟨env, st, ρ, re, rs, h.then fun ρ1 H1 xs st1 e1 s1 h1 vs rv => by
    obtain ⟨j, rfl, c1, c2, h1⟩ := ziP h1
    obtain ⟨v, rfl, rfl⟩ := Rs.one rv
    exact ⟨j, rfl, c1, c2, h1.now s1 _ (zgE 0 j.toNat)⟩⟩
def zipP (xs ys : List PV) : List PV := (xs.zip ys).map fun q => .tup [q.1, q.2]
def zip2 : List PV → Mo Sq
  | [.tup xs, .tup ys], st => .ok (.im (zipP xs ys)) st
  | _, _ => .stuck
theorem ziQ {ρ : List Addr} {H : Hp} {xs : List PV} {st : Sto} {good : List Addr → Hp → Sq → Sto → Prop} (h : Out K mg ρ H (zip2 xs st) good Er) : ∃ ys zs, xs = [.tup ys, .tup zs] ∧ Out K mg ρ H (.ok (.im (zipP ys zs)) st) good Er := by
  unfold zip2 at h
  split at h
  · exact ⟨_, _, rfl, h⟩
  · exact False.elim h
theorem ziR {ρ : List Addr} {H : Hp} {a b : Addr} {xs ys : List PV} {vs ws : List V} (h : SqT K H a vs) (r : Rs K mg ρ H xs vs) (h' : SqT K H b ws) (r' : Rs K mg ρ H ys ws) : Walk K mg (Itz K a b) ρ H (.im (zipP xs ys)) := by
  have hl : (zipP xs ys).length = min xs.length ys.length := by simp [zipP]
  have l1 := r.len
  have l2 := r'.len
  refine ⟨fun i ρ' H' e hi => ?_, fun i ρ' H' e hi => ⟨vs, ws, e.sqT h, e.sqT h', by rw [hl] at hi; omega⟩, fun i ρ' H' st v H2 e s hi y => ?_⟩
  · rw [hl] at hi
    obtain ⟨v, hv, _⟩ := r.get (List.getElem?_eq_getElem (show i < xs.length by omega))
    obtain ⟨w, hw, _⟩ := r'.get (List.getElem?_eq_getElem (show i < ys.length by omega))
    exact ⟨vs, ws, v, w, e.sqT h, e.sqT h', hv, hw⟩
  · rw [hl] at hi
    obtain ⟨T, v', w', hT, rfl, rfl, y1, y2⟩ := y
    have k1 : i < xs.length := by omega
    have k2 : i < ys.length := by omega
    obtain ⟨v, hv, rv⟩ := r.get (List.getElem?_eq_getElem k1)
    obtain ⟨w, hw, rw'⟩ := r'.get (List.getElem?_eq_getElem k2)
    have q1 := y1 vs (e.sqT h)
    have q2 := y2 ws (e.sqT h')
    rw [hv] at q1
    rw [hw] at q2
    cases q1; cases q2
    refine ⟨.tup [xs[i], ys[i]], ?_, Ext.new hT, s.new hT, R.tup_of ⟨_, [_], rfl, R.ext e _ rv, _, [], rfl, R.ext e _ rw', rfl⟩ hT⟩
    rw [zipP, List.getElem?_map, List.getElem?_eq_getElem (by simp; omega)]
    simp
def zkF (fs : PEnv → Mo (List PV)) : PEnv → Mo Sq := fun env st => (fs env st).bind zip2
theorem zmh {elts : List Expr} {kt : Nat} {tp : Pos} {x y : Expr} (hm : X.mg "zip" = none) (ha : MA X Er [x, y] fs) (hg : Gl X "zip" := by rfl) (hs : starEach [x, y] X.env = [(false, eval x X.env), (false, eval y X.env)] := by rfl) (hs2 : starEach [y] X.env = [(false, eval y X.env)] := by rfl) :
    MI X Er (.Tuple elts kt tp) (.Call (.Name "zip" p) [x, y] [] pos) (zkF fs) :=
  PI.weak (zlZ hg hm ha hs hs2) fun σ H Q ⟨env, st, ρ, re, rs, h⟩ => ⟨env, st, ρ, re, rs, h.then fun ρ1 H1 xs st1 e1 s1 h1 vs rv => by
    obtain ⟨ys, zs, rfl, h1⟩ := ziQ h1
    obtain ⟨v, w, rfl, ⟨a, us, rfl, k1, k2⟩, ⟨b, ws, rfl, k3, k4⟩⟩ := Rs.two rv
    exact ⟨a, b, rfl, ⟨us, k1⟩, ⟨ws, k3⟩, h1.now s1 _ (ziR k1 k2 k3 k4)⟩⟩
def whileF (t : PEnv → Mo Bool) (b : PEnv → Mo Fl) : Nat → PEnv → Mo Fl
  | 0, _, _ => .stuck
  | n + 1, env, st => (t env st).bind fun c st1 => if c = true then (b env st1).bind fun fl st2 => match fl with
      | .nx e => whileF t b n e st2
      | .ct e => whileF t b n e st2
      | .bk e => .ok (.nx e) st2
      | .rt v => .ok (.rt v) st2
    else .ok (.nx env) st1
def sWhile (t : PEnv → Mo Bool) (b : PEnv → Mo Fl) : PEnv → Mo Fl := whileF t b lim
theorem zek (hp : PassesOwn (model X.prog X.w) X.A X.env X.xe) (hc : MT X Er c ga) (hb : MSs X Er sts gb) : MS X Er (.While c sts [] pos) (sWhile ga gb) :=
  PS.weak (zil hp hc hb) fun D σ H ⟨env, st, ρ, re, rs, h⟩ => by
    refine ⟨fun m σ H => ∃ env st ρ, EnvR X.K X.mg ρ H env σ ∧ StR X.K X.mg ρ H st ∧ Out X.K X.mg ρ H (whileF ga gb m env st) (gS X.K X.mg D) Er, ⟨lim, env, st, ρ, re, rs, h⟩, ?_⟩
    rintro m σ H ⟨env, st, ρ, re, rs, h⟩
    cases m with
    | zero => exact False.elim h
    | succ m =>
      refine ⟨env, st, ρ, re, rs, Out.then h fun ρ1 H1 k st1 e1 s1 h1 => ?_⟩
      cases k with
      | true =>
        change (if true = true then _ else D.nx σ H1)
        rw [if_pos rfl]
        refine ⟨_, fun σ' H' p' => ⟨m, Nat.lt_succ_self m, p'⟩, env, st1, ρ1, re.ext e1, s1, Out.then h1 fun ρ3 H3 fl st3 e3 s3 h3 => ?_⟩
        cases fl with
        | nx e => exact fun σ4 r4 => ⟨e, st3, ρ3, r4, s3, h3⟩
        | ct e => exact fun σ4 r4 => ⟨e, st3, ρ3, r4, s3, h3⟩
        | bk e => exact Out.fl (D := D) (fl := .nx e) (E := Er) h3 s3
        | rt v => exact Out.fl (D := D) (fl := .rt v) (E := Er) h3 s3
      | false =>
        have z : D.nx σ H1 := Out.fl (D := D) (fl := .nx env) (E := Er) h1 s1 σ (re.ext e1)
        exact z
def sRaise (cn fld : Str) (f : PEnv → Mo PV) : PEnv → Mo Fl := fun env st => (f env st).bind fun x st1 => .err cn [fld] [x] st1
theorem zdr {cn fld : Str} {np cpos : Pos} (C : XOk X.prog X.w X.K X.mg X.base cn fld) (he : ME X Er e fa) (hr : Room 2 X.A) (ht : zav X Er) (hc : X.calm = true) (hg : Gl X cn := by rfl) (hdb : (cn == ("__debug__" : Str)) = false := by decide)
    (hs : starEach [e] X.env = (false, eval e X.env) :: starEach [] X.env := by rfl) : MS X Er (.Raise (some (.Call (.Name cn np) [e] [] cpos)) none pos) (sRaise cn fld fa) := by
  obtain ⟨C, f, fd, hm, M, F, hb⟩ := C
  exact PS.weak (zhf he M F hr hg hm hb (zcY ht) ht.one hc hdb hs) fun D σ H ⟨env, st, ρ, re, rs, h⟩ => ⟨env, st, ρ, re, rs, h.then fun ρ1 H1 x st1 e1 s1 h1 v rv d hd => by
    exact h1 ρ1 _ _ _ (Ext.new hd) (s1.new hd) ⟨C, rfl, hm, .inr ⟨d, [v], rfl, zu, ⟨v, [], rfl, R.ext (Ext.new hd) x rv, rfl⟩, rfl⟩⟩⟩
def sRaise0 (cn : Str) : PEnv → Mo Fl := fun _ st => .err cn [] [] st
def noErr {α : Type} : Res α → Res α
  | .err _ _ _ _ => .stuck
  | r => r
theorem zbo {α β : Type} {ρ : List Addr} {H : Hp} {r : Res β} {f : β → Mo α} {good : List Addr → Hp → α → Sto → Prop} {good' : List Addr → Hp → β → Sto → Prop} {E E' : XK} (h : Out K mg ρ H ((noErr r).bind f) good E) (g : ∀ ρ' H' x st, Ext ρ H ρ' H' → StR K mg ρ' H' st → Out K mg ρ' H' (f x st) good E → good' ρ' H' x st) : Out K mg ρ H r good' E' := by
  cases r with
  | ok x st => exact fun ρ' H' e s => g ρ' H' x st e s (Out.ext h e)
  | err => exact False.elim h
  | stuck => exact False.elim h
def tMX (K : Frag) (mg : Str → Option Value) (f : PEnv → Mo PV) : TX := fun σ H Q E => ∃ env st ρ, EnvR K mg ρ H env σ ∧ StR K mg ρ H st ∧ Out K mg ρ H (f env st) (gV K mg Q) E
def MX (X : Cx) (e : Expr) (f : PEnv → Mo PV) : Prop := PX X e (tMX X.K X.mg f)
theorem PX.weak {t t' : TX} (h : PX X e t) (w : ∀ σ H Q E, t' σ H Q E → t σ H Q E) : PX X e t' := fun pins s σ H Q E I q => h pins s σ H Q E I (w σ H Q E q)
def tMethDX (X : Cx) (name : Str) (k : Nat) (ta : TE) (t : TA) : TX := fun σ H Q E => ta σ H fun x H1 => ∃ a C dx fs f fd ps sp, x = .ref a ∧ H1 a = some (.ins C dx fs) ∧ fs.lookup name = none ∧ Cls X.K C ∧ Meth X.K C name f ∧ Binds X.K fd ps [] ∧ FnOk X.prog X.w X.K X.mg X.base (CXe X.prog X.w) k f fd ps sp ∧
  t σ H1 fun vs H2 => sp (x :: vs) H2 Q E
def xMeth (name : Str) (tab : Str → Option (List PV → Mo PV)) (fo : PEnv → Mo PV) (fs : PEnv → Mo (List PV)) : PEnv → Mo PV := fun env st => (noErr (fo env st)).bind fun o st1 => methAt name tab o st1 fun n m => (noErr (fs env st1)).bind fun ys st2 => m (.ref n :: ys) st2
def kdAt (ks : List Str) (ps : List PV) : PV → Mo PV
  | .str z, st => optR ((ks.zip ps).lookup z) st
  | _, _ => .stuck
def KdF (X : Cx) (name : Str) (ks : List Str) (ps : List PV) (full : Bool) : Prop := ∃ O, X.mg name = some (.ref O) ∧ KD X O ∧ (∀ z q, (ks.zip ps).lookup z = some q → ∃ u v, nsIn X.K O z = some (some u) ∧ RelV v u ∧ ∀ ρ H, R X.K X.mg ρ H q v) ∧ (full = true → ∀ z, (ks.zip ps).lookup z = none → nsIn X.K O z = some none)
theorem znk {name : Str} {ks : List Str} {ps : List PV} {full : Bool} (F : KdF X name ks ps full) (hb : ME X Er b fb) (hs : PlainIx b := by exact fun _ _ => rfl) (hg : Gl X name := by rfl) (hd : (name == ("__debug__" : Str)) = false := by decide) : ME X Er (.Subscript (.Name name p) b pos) (mUn (kdAt ks ps) fb) := by
  obtain ⟨O, hm, kd, hl, _⟩ := F
  refine PE.weak (zlO zna (zfp (v := .ref O) hg hm rfl hd) hb hs) fun σ H Q ⟨env, st, ρ, re, rs, h⟩ => ⟨env, st, ρ, re, rs, h.then fun ρ1 H1 x st1 e1 s1 h1 v rv => ?_⟩
  cases x with
  | str z =>
    cases rv
    obtain ⟨q, hq, h1⟩ := zba h1
    obtain ⟨u, v, h2, h3, h4⟩ := hl z q hq
    exact ⟨O, z, u, v, rfl, rfl, kd, h2, h3, h1.now s1 _ (h4 _ _)⟩
  | _ => exact False.elim h1
def kdIn (neg : Bool) (ks : List Str) (ps : List PV) (full : Bool) : PV → Mo PV
  | .str z, st => if ((ks.zip ps).lookup z).isSome = true ∨ full = true then .ok (.bl (neg.xor ((ks.zip ps).lookup z).isSome)) st else .stuck
  | _, _ => .stuck
theorem zkG {name : Str} {ks : List Str} {ps : List PV} {full : Bool} {O : Addr} (hl : ∀ z q, (ks.zip ps).lookup z = some q → ∃ u v, nsIn X.K O z = some (some u) ∧ RelV v u ∧ ∀ ρ H, R X.K X.mg ρ H q v) (hf : full = true → ∀ z, (ks.zip ps).lookup z = none → nsIn X.K O z = some none) {z : Str} (h : ((ks.zip ps).lookup z).isSome = true ∨ full = true) : ∃ r, nsIn X.K O z = some r ∧ r.isSome = ((ks.zip ps).lookup z).isSome := by
  cases hq : (ks.zip ps).lookup z with
  | some q => obtain ⟨u, v, h2, _⟩ := hl z q hq; exact ⟨_, h2, rfl⟩
  | none =>
    rw [hq] at h
    rcases h with h | h
    · cases h
    · exact ⟨none, hf h z hq, rfl⟩
theorem zhs {name : Str} {ks : List Str} {ps : List PV} {full : Bool} (F : KdF X name ks ps full) (ha : ME X Er a fa) (hg : Gl X name := by rfl) (hd : (name == ("__debug__" : Str)) = false := by decide) (hk : behindInMarks .NotIn (.Name name p) = false := by with_unfolding_all rfl) : MT X Er (.Compare a [.NotIn] [.Name name p] pos) (mB (mUn (kdIn true ks ps full) fa)) := by
  obtain ⟨O, hm, kd, hl, hf⟩ := F
  refine PT.weak (zgV zfv ha (zfp (v := .ref O) hg hm rfl hd) hk) fun σ H Q h => ?_
  obtain ⟨env, st, ρ, re, rs, h⟩ := znc h
  refine ⟨env, st, ρ, re, rs, h.then fun ρ1 H1 x st1 e1 s1 h1 v rv => ?_⟩
  cases x with
  | str z =>
    cases rv
    obtain ⟨q, h1⟩ := Out.ifp h1
    obtain ⟨r, h2, h3⟩ := zkG (name := name) hl hf q
    have := Out.now h1 s1 _ rfl
    exact ⟨O, z, r, rfl, rfl, kd, h2, by rw [h3]; simpa using this⟩
  | _ => exact False.elim h1
def oAppend : PV → PV → Mo PV
  | .ref n, y, st => withL st n fun xs => if xs.length < lim then .ok .non (st.set n (.lst (xs ++ [y]))) else .stuck
  | _, _, _ => .stuck
def oExtend : PV → PV → Mo PV
  | .ref n, .ref k, st => withL st n fun xs => withL st k fun ys => if xs.length + ys.length ≤ lim then .ok .non (st.set n (.lst (xs ++ ys))) else .stuck
  | _, _, _ => .stuck
theorem R.refL {ρ : List Addr} {H : Hp} {st : Sto} {n : Nat} {xs : List PV} {v : V} (s : StR K mg ρ H st) (r : R K mg ρ H (.ref n) v) (h : st[n]? = some (.lst xs)) : ∃ a vs, v = .ref a ∧ ρ[n]? = some a ∧ H a = some (.lst vs) ∧ Rs K mg ρ H xs vs := by
  obtain ⟨a, rfl, ha⟩ := r
  obtain ⟨vs, h1, h2⟩ := s.addr h ha
  exact ⟨a, vs, rfl, ha, h1, h2⟩
def recL : PV → Mo PV
  | .ref n, st => withL st n fun _ => .ok (.ref n) st
  | _, _ => .stuck
def mMut (op : PV → PV → Mo PV) (fo fv : PEnv → Mo PV) : PEnv → Mo PV := fun env st => (fo env st).bind fun o st1 => (recL o st1).bind fun o st1 => (fv env st1).bind fun y st2 => op o y st2
theorem zf1 {α : Type} {ρ : List Addr} {H : Hp} {x : PV} {st : Sto} {f : PV → Mo α} {good : List Addr → Hp → α → Sto → Prop} (h : Out K mg ρ H ((recL x st).bind f) good Er) : ∃ n xs, x = .ref n ∧ st[n]? = some (.lst xs) ∧ Out K mg ρ H (f (.ref n) st) good Er := by
  cases x with
  | ref n =>
    unfold recL withL at h
    cases hn : st[n]? with
    | none => simp only [hn] at h; exact False.elim h
    | some so =>
      cases so with
      | lst xs => simp only [hn] at h; exact ⟨n, xs, rfl, hn, h⟩
      | _ => simp only [hn] at h; exact False.elim h
  | _ => exact False.elim h
theorem ziS {cpos : Pos} (ho : ME X Er o fo) (he : ME X Er e fa) (hbase : attributeBase o "append" X.env (eval o X.env) = eval o X.env := by rfl)
    (hfew : ((backTo cpos (starEach [e] X.env)).all (fun x => !x.1) && (backToKw cpos (keywordEach [] X.env)).all (fun x => x.1.isSome) && decide ([e].length + ([] : List Keyword).length + (if ([] : List Keyword).isEmpty then 0 else 1) < 30)) = true := by rfl)
    (hline : (apos.endLine == cpos.line) = true := by rfl) (hs : starEach [e] X.env = (false, eval e X.env) :: starEach [] X.env := by rfl) (hpl : (backTo cpos (starEach [] X.env)).any (·.1) = false := by rfl) : ME X Er (.Call (.Attribute o "append" apos) [e] [] cpos) (mMut oAppend fo fa) :=
  PE.weak (zlT PySem.F.plainAttrs_list PySem.F.slot_list_append PySem.F.type_list_append zg2 ho (zfr he zgZ hs) hbase hfew hline hs hpl) fun σ H Q ⟨env, st, ρ, re, rs, h⟩ => ⟨env, st, ρ, re, rs, h.then fun ρ1 H1 x st1 e1 s1 h1 v rv => by
    obtain ⟨n, xs, rfl, hn, h1⟩ := zf1 h1
    obtain ⟨p, vs, rfl, hp, k1, k2⟩ := R.refL s1 rv hn
    refine ⟨.inl ⟨rfl, vs, SqL.of k1⟩, env, st1, ρ1, re.ext e1, s1, h1.then fun ρ2 H2 y st2 e2 s2 h2 w rw => ?_⟩
    obtain ⟨xs2, hn2, h2⟩ := zJ h2
    obtain ⟨c, h2⟩ := Out.ifp h2
    obtain ⟨p', vs2, e3, hp2, k3, k4⟩ := R.refL s2 (R.ext e2 _ rv) hn2
    cases e3
    have ew : Ext ρ2 H2 ρ2 (upd H2 p (.lst (vs2 ++ [w]))) := Ext.write k3 rfl
    refine ⟨p, vs2, w, rfl, rfl, k3, ?_, h2 ρ2 _ ew (s2.write hp2 ew ⟨vs2 ++ [w], zu, Rs.ext ew _ (k4.append ⟨w, [], rfl, rw, rfl⟩)⟩) _ rfl⟩
    rw [← k4.len, sizeLine_eq]; have : xs2.length < 1000000 := c; omega⟩
theorem ziT {cpos : Pos} (ho : ME X Er o fo) (he : ME X Er e fa) (hbase : attributeBase o "extend" X.env (eval o X.env) = eval o X.env := by rfl)
    (hfew : ((backTo cpos (starEach [e] X.env)).all (fun x => !x.1) && (backToKw cpos (keywordEach [] X.env)).all (fun x => x.1.isSome) && decide ([e].length + ([] : List Keyword).length + (if ([] : List Keyword).isEmpty then 0 else 1) < 30)) = true := by rfl)
    (hline : (apos.endLine == cpos.line) = true := by rfl) (hs : starEach [e] X.env = (false, eval e X.env) :: starEach [] X.env := by rfl) (hpl : (backTo cpos (starEach [] X.env)).any (·.1) = false := by rfl) : ME X Er (.Call (.Attribute o "extend" apos) [e] [] cpos) (mMut oExtend fo fa) :=
  PE.weak (zlT PySem.F.plainAttrs_list PySem.F.slot_list_extend PySem.F.type_list_extend zg3 ho (zfr he zgZ hs) hbase hfew hline hs hpl) fun σ H Q ⟨env, st, ρ, re, rs, h⟩ => ⟨env, st, ρ, re, rs, h.then fun ρ1 H1 x st1 e1 s1 h1 v rv => by
    obtain ⟨n, xs, rfl, hn, h1⟩ := zf1 h1
    obtain ⟨p, vs, rfl, hp, k1, k2⟩ := R.refL s1 rv hn
    refine ⟨.inl ⟨rfl, vs, SqL.of k1⟩, env, st1, ρ1, re.ext e1, s1, h1.then fun ρ2 H2 y st2 e2 s2 h2 w rw => ?_⟩
    cases y with
    | ref m =>
      obtain ⟨xs2, hn2, h2⟩ := zJ h2
      obtain ⟨ys2, hm2, h2⟩ := zJ h2
      obtain ⟨c, h2⟩ := Out.ifp h2
      obtain ⟨p', vs2, e3, hp2, k3, k4⟩ := R.refL s2 (R.ext e2 _ rv) hn2
      cases e3
      obtain ⟨q, ws2, rfl, hq2, k5, k6⟩ := R.refL s2 rw hm2
      have ew : Ext ρ2 H2 ρ2 (upd H2 p (.lst (vs2 ++ ws2))) := Ext.write k3 rfl
      exact ⟨p, q, vs2, ws2, rfl, rfl, k3, k5, by rw [← k4.len, ← k6.len]; exact zO c, h2 ρ2 _ ew (s2.write hp2 ew ⟨vs2 ++ ws2, zu, Rs.ext ew _ (k4.append k6)⟩) _ rfl⟩
    | _ => exact False.elim h2⟩
end
def endOf : Fl → Mo PV
  | .rt v, st => .ok v st
  | .nx _, st => .ok .non st
  | _, _ => .stuck
def mirror (np nN : Nat) (g : PEnv → Mo Fl) : List PV → Mo PV := fun xs st => if xs.length = np then (g (xs.map some ++ List.replicate (nN - np) none) st).bind endOf else .stuck
section
variable {P : Program} {w : World} {K : Frag} {mg : Str → Option Value} {base : Heap}
abbrev cxD (P : Program) (w : World) (K : Frag) (mg : Str → Option Value) (base : Heap) (N : List Str) (qual : Str) (scope : Scope) (f : Addr) (cd : Value) (A : Around) (outer : List Env) (s : Shared) (H : Hp) (E : XK) : Cx :=
  (cxOf (CXe P w) P w K mg base N qual scope f cd A outer s H E).wish (XA (cxOf (CXe P w) P w K mg base N qual scope f cd A outer s H E) E)
theorem zkH {N : List Str} {np : Nat} {ρ : List Addr} {H : Hp} {xs : List PV} {vs : List V} (r : Rs K mg ρ H xs vs) (h : xs.length = np) : EnvR K mg ρ H (xs.map some ++ List.replicate (N.length - np) none) (L2.start N vs) := by
  have hl := r.len
  refine ⟨by simp [L2.start, ← hl, h], fun i x hx => ?_⟩
  by_cases hi : i < xs.length
  · rw [List.getElem?_append_left (by simpa using hi)] at hx
    simp only [List.getElem?_map] at hx
    cases hq : xs[i]? with
    | none => rw [hq] at hx; cases hx
    | some y =>
      rw [hq] at hx
      cases hx
      obtain ⟨v, hv, rv⟩ := r.get hq
      refine ⟨v, ?_, rv⟩
      unfold L2.start
      rw [List.getElem?_append_left (by simp; omega)]
      simp [hv]
  · rw [List.getElem?_append_right (by simpa using hi)] at hx
    rw [List.getElem?_replicate] at hx
    split at hx <;> cases hx
theorem zf2 {x qual : Str} {sm : Stmt} {f : Addr} {fd : FuncData} {N ps : List Str} {k : Nat} {g : PEnv → Mo Fl} (F : Fun K x qual sm f fd) (S : FnScope N ps (defScope sm))
    (hb : ∀ (cdv : Value) (A : Around) (outer : List Env) (s : Shared) (H : Hp) (E : XK), Room k (A.deeper (PyProof.Rows.envOfC qual (defScope sm) s.heap.objs.size f cdv)) → MSs (cxD P w K mg base N qual (defScope sm) f cdv A outer s H E) E (defBody sm) g) :
    FnOk P w K mg base (CXe P w) (k + 1) f fd ps (spM K mg (mirror ps.length N.length g)) := by
  refine F.okT S (fun vs H Q E h => ?_) fun cdv A outer s H vs Q E hr h => ⟨_, hb cdv A outer s H E hr, ?_⟩
  · obtain ⟨xs, st, ρ, r, _, h⟩ := h
    obtain ⟨hl, _⟩ := Out.ifp h
    rw [← r.len]; exact hl
  · obtain ⟨xs, st, ρ, r, rs, h⟩ := h
    obtain ⟨hl, h⟩ := Out.ifp h
    refine ⟨_, st, ρ, zkH r hl, rs, h.then fun ρ1 H1 fl st1 e1 s1 h1 => ?_⟩
    cases fl with
    | rt v => exact fun u ru => Out.now (x := v) h1 s1 u ru
    | nx e => exact fun σ' _ => Out.now (x := PV.non) h1 s1 _ rfl
    | _ => exact False.elim h1
theorem fok {x : Str} {f : Addr} {fd : FuncData} {ps : List Str} {k : Nat} {m : List PV → Mo PV} {sm : Stmt} {qual nm : Str} (hm : mg x = some (.ref f)) (F : Fun K nm qual sm f fd) (hb : Binds K fd ps []) (h : FnOk P w K mg base (CXe P w) k f fd ps (spM K mg m)) : FOk P w K mg base x k m := ⟨f, fd, ps, hm, F.kp, hb, h⟩
end
end Mi
namespace Mi
open PySem L2 PySem.W PySem.Spec
section
variable {X : Cx} {Er : XK} {P : Program} {w : World} {K : Frag} {mg : Str → Option Value} {base : Heap} {pos : Pos} {x : Str} {st : Stmt}
theorem zt {k : Nat} {A : Around} (hr : Room k A) : A.units + 200 < cLine := by have := hr.un; omega
theorem ziU {n : Int} (h : ∃ t, X.mg x = some (.int n t)) (hg : Gl X x := by rfl) (hd : (x == ("__debug__" : Str)) = false := by decide) : ME X Er (.Name x pos) (mC (.int n)) := let ⟨t, h⟩ := h; zkr (v := .int n) h ⟨t, rfl⟩ (fun _ _ => rfl) hg hd
def FnF (K : Frag) (mg : Str → Option Value) (x : Str) (sm : Stmt) (ps : List Str) : Prop := ∃ f fd, mg x = some (.ref f) ∧ Fun K x x sm f fd ∧ Binds K fd ps []
def MtF (K : Frag) (mg : Str → Option Value) (c name qual : Str) (sm : Stmt) (ps : List Str) : Prop := ∃ C f fd, mg c = some (.ref C) ∧ Cls K C ∧ Meth K C name f ∧ Fun K name qual sm f fd ∧ Binds K fd ps []
def NwF (K : Frag) (mg : Str → Option Value) (c qual : Str) (sm : Stmt) (ps : List Str) : Prop := ∃ C f fd, mg c = some (.ref C) ∧ Mk K C f ∧ Fun K "__init__" qual sm f fd ∧ Binds K fd ps []
def XnF (K : Frag) (mg : Str → Option Value) (c fld qual : Str) (sm : Stmt) : Prop := ∃ C f fd, mg c = some (.ref C) ∧ ExMk K C f ∧ ExCls K C fld ∧ Fun K "__init__" qual sm f fd ∧ Binds K fd ["self", fld] []
theorem FnF.ok {sm : Stmt} {N ps : List Str} {k : Nat} {g : PEnv → Mo Fl} (h : FnF K mg x sm ps) (S : FnScope N ps (defScope sm))
    (hb : ∀ (f : Addr) (cdv : Value) (A : Around) (outer : List Env) (s : Shared) (H : Hp) (E : XK), Room k (A.deeper (PyProof.Rows.envOfC x (defScope sm) s.heap.objs.size f cdv)) → MSs (cxD P w K mg base N x (defScope sm) f cdv A outer s H E) E (defBody sm) g) :
    FOk P w K mg base x (k + 1) (mirror ps.length N.length g) := by
  obtain ⟨f, fd, hm, F, b⟩ := h
  exact fok hm F b (zf2 F S (hb f))
theorem MtF.ok {c name qual : Str} {sm : Stmt} {N ps : List Str} {k : Nat} {g : PEnv → Mo Fl} (h : MtF K mg c name qual sm ps) (S : FnScope N ps (defScope sm))
    (hb : ∀ (f : Addr) (cdv : Value) (A : Around) (outer : List Env) (s : Shared) (H : Hp) (E : XK), Room k (A.deeper (PyProof.Rows.envOfC qual (defScope sm) s.heap.objs.size f cdv)) → MSs (cxD P w K mg base N qual (defScope sm) f cdv A outer s H E) E (defBody sm) g) :
    MOk P w K mg base c name (k + 1) (mirror ps.length N.length g) := by
  obtain ⟨C, f, fd, hm, cl, mt, F, b⟩ := h
  exact ⟨C, f, fd, ps, hm, cl, mt, b, zf2 F S (hb f)⟩
theorem NwF.ok {c qual : Str} {sm : Stmt} {N ps : List Str} {k : Nat} {g : PEnv → Mo Fl} (h : NwF K mg c qual sm ps) (S : FnScope N ps (defScope sm))
    (hb : ∀ (f : Addr) (cdv : Value) (A : Around) (outer : List Env) (s : Shared) (H : Hp) (E : XK), Room k (A.deeper (PyProof.Rows.envOfC qual (defScope sm) s.heap.objs.size f cdv)) → MSs (cxD P w K mg base N qual (defScope sm) f cdv A outer s H E) E (defBody sm) g) :
    NOk P w K mg base c (k + 1) (mirror ps.length N.length g) := by
  obtain ⟨C, f, fd, hm, mk, F, b⟩ := h
  exact ⟨C, f, fd, ps, hm, mk, b, zf2 F S (hb f)⟩
theorem XnF.ok {c fld qual : Str} {sm : Stmt} (h : XnF K mg c fld qual sm) (S : FnScope ["self", fld] ["self", fld] (defScope sm))
    (hb : ∀ (C f : Addr) (cdv : Value) (A : Around) (outer : List Env) (s : Shared) (H : Hp) (E : XK), ExCls K C fld → PSs (cxOf (CXe P w) P w K mg base ["self", fld] qual (defScope sm) f cdv A outer s H E) (defBody sm) (sFldE K (tVar 0) (tVar 1) fld)) :
    XOk P w K mg base c fld := by
  obtain ⟨C, f, fd, hm, M, xc, F, b⟩ := h
  refine ⟨C, f, fd, hm, M, F.okX S (fun vs H Q E h => ?_) (fun cdv A outer s H vs Q E hr h => ⟨_, hb C f cdv A outer s H E xc, ?_⟩), b⟩
  · obtain ⟨a, t, y, rfl, _⟩ := h; rfl
  · obtain ⟨a, t, y, rfl, ha, q⟩ := h
    exact ⟨y, rfl, .ref a, rfl, a, C, t, rfl, ha, xc, fun d hd => q d hd⟩
theorem XnF.tr {c fld qual : Str} {sm : Stmt} (h : XnF K mg c fld qual sm) : ∃ C, mg c = some (.ref C) ∧ ExOf K C := by
  obtain ⟨C, f, fd, hm, M, _⟩ := h
  exact ⟨C, hm, M.of⟩
theorem zjC {p : Addr} {oc : Value} {od : Option Addr} {its : Array Value} {n : Nat} {sl : Array (Option Value)} {xs : List PV} {vs : List V} (hl : K.lookup p = some ⟨oc, od, .seq its n, sl⟩) (hc : oc = .type "tuple") (hz : its.size ≤ 1000) (hv : Vals vs its.toList) (hr : ∀ ρ H, Rs K mg ρ H xs vs) : ∀ ρ H, R K mg ρ H (.tup xs) (.ref p) :=
  fun ρ H => ⟨p, vs, rfl, .inr ⟨_, its, n, hl, hc, rfl, by rw [sizeLine_eq]; omega, hv⟩, hr ρ H⟩
theorem zdg : bootBuiltins "len" = some (.builtin "len") := by decide +kernel
theorem zF : bootBuiltins "isinstance" = some (.builtin "isinstance") := by decide +kernel
theorem zjD : bootBuiltins "int" = some (.type "int") := by decide +kernel
theorem zht : bootBuiltins "bool" = some (.type "bool") := by decide +kernel
theorem zhu : bootBuiltins "str" = some (.type "str") := by decide +kernel
theorem zcb : bootBuiltins "tuple" = some (.type "tuple") := by decide +kernel
theorem zhv : bootBuiltins "dict" = some (.type "dict") := by decide +kernel
theorem zhw : bootBuiltins "list" = some (.type "list") := by decide +kernel
end
end Mi
namespace Mi
open PySem L2 PySem.W PySem.Spec
theorem FOk.mono {P : Program} {w : World} {K : Frag} {mg : Str → Option Value} {base : Heap} {x : Str} {j k : Nat} {m : List PV → Mo PV} (h : FOk P w K mg base x j m) (hjk : j ≤ k) : FOk P w K mg base x k m := by
  obtain ⟨f, fd, ps, h1, h2, h3, h4⟩ := h
  exact ⟨f, fd, ps, h1, h2, h3, h4.mono hjk⟩
theorem MOk.mono {P : Program} {w : World} {K : Frag} {mg : Str → Option Value} {base : Heap} {c x : Str} {j k : Nat} {m : List PV → Mo PV} (h : MOk P w K mg base c x j m) (hjk : j ≤ k) : MOk P w K mg base c x k m := by
  obtain ⟨C, f, fd, ps, h1, h2, h3, h4, h5⟩ := h
  exact ⟨C, f, fd, ps, h1, h2, h3, h4, h5.mono hjk⟩
end Mi
namespace Mi
open PySem L2 PySem.W PySem.Spec
def spLaw (K : Frag) : Sp := fun vs H Q _ => ∃ (a : Addr) (ns : List Int), vs = [.ref a] ∧ SqL K H a (ns.map V.int) ∧ Only H ∧ ns.length ≤ 63 ∧ ∀ H', Q (.bl true) H'
theorem zhx {K : Frag} {mg : Str → Option Value} {ρ : List Addr} {H : Hp} : ∀ ns : List Int, Rs K mg ρ H (ns.map PV.int) (ns.map V.int)
  | [] => rfl
  | n :: ns => ⟨_, _, rfl, rfl, zhx ns⟩
theorem zmi {K : Frag} {H : Hp} {a : Addr} {vs : List V} (h : SqL K H a vs) (o : Only H) : FrL K H a vs := by
  rcases h with (h | ⟨ob, h⟩) | h
  · rcases o a with z | ⟨ob, xs, z⟩
    · rw [h] at z; cases z
    · rw [h] at z; cases z
  · exact .inl ⟨ob, h⟩
  · exact .inr h
theorem zkI {P : Program} {w : World} {K : Frag} {mg : Str → Option Value} {base : Heap} {k : Nat} {f : Addr} {fd : FuncData} {ps : List Str} {m : List PV → Mo PV} (F : FnOk P w K mg base (CXe P w) k f fd ps (spM K mg m)) (h : ∀ ns : List Int, ns.length ≤ 63 → ∃ st, m [.frl (ns.map PV.int)] [] = .ok (.bl true) st) : FnOk P w K mg base (CXe P w) k f fd ps (spLaw K) :=
  F.imp fun vs H Q E ⟨a, ns, e, hs, ho, hl, q⟩ => by
    subst e
    obtain ⟨st, hm⟩ := h ns hl
    refine ⟨[.frl (ns.map PV.int)], [], [], ⟨_, [], rfl, ⟨a, _, rfl, zmi hs ho, zhx ns⟩, rfl⟩, ⟨rfl, List.nodup_nil, fun n so e => by simp at e⟩, ?_⟩
    rw [hm]
    intro ρ' H' _ _ v rv
    cases rv
    exact q H'
theorem walkM {l : PySem.W.OpenLaw} {k : Nat} {x : Str} {q : Program} {loose : List Str} {XP : (Str → Option Value) → Heap → Prop} {YP : World → Heap → Prop} {d : DefRec} {K : Params → PySem.W.Frag} (hn : l.most = some 63) (hdf : d.params.defaults = []) (hr : Room k callerA)
    (hY : ∀ (w : World) (h : Heap), YP w h → (K w.params).In h)
    (F : ∀ (w : World) (mg : Str → Option Value) (fa : Addr) (h : Heap), (K w.params).In h → h.Ns mainGlobals mg → mg d.name = some (.ref fa) →
      ∃ fd : FuncData, (∀ (s : Shared) (u : Value), BindsTo s fd ⟨[u], []⟩ [(x, u)]) ∧ ∀ base : Heap, (K w.params).In base → base.Ns mainGlobals mg → FnOk l.prog w (K w.params) mg base (CXe l.prog w) k fa fd [x] (spLaw (K w.params))) :
    PySem.W.WalkO q loose XP YP l.row.toRowW d [] (fun f vs => PySem.call f vs) :=
  L2.zkf (n := 63) (k := k) (x := x) (CX := fun w => CXe l.prog w) (sp := fun w => spLaw (K w.params)) hn (by decide) hdf hr hY F (fun _ _ a ns hl ho hS => ⟨a, ns, rfl, hS, ho, hl, fun _ => rfl⟩) fun w H s e s' ⟨_, _, _, _, _, _, _, _, _, _, _, _, _, _, _, z⟩ => z
end Mi
namespace Mi
open PySem L2 PySem.W PySem.Spec
section
variable {α β : Type} {env : PEnv} {st st1 : Sto} {fa fb fc fo fv : PEnv → Mo PV} {fs : PEnv → Mo (List PV)} {ga gb : PEnv → Mo Bool} {g g' : PEnv → Mo Fl} {op op' : PV → PV → Mo PV} {o1 : PV → Mo PV} {m : List PV → Mo PV}
@[simp] theorem zj (a : α) (f : α → Mo β) : (Res.ok a st).bind f = f a st := (rfl)
@[simp] theorem zmW (c : Str) (ks : List Str) (xs : List PV) (f : α → Mo β) : (Res.err c ks xs st : Res α).bind f = .err c ks xs st := (rfl)
@[simp] theorem zlm (f : α → Mo β) : (Res.stuck : Res α).bind f = .stuck := (rfl)
@[simp] theorem zmX (p : Prop) [Decidable p] (a b : Res α) (f : α → Mo β) : (if p then a else b).bind f = if p then a.bind f else b.bind f := by split <;> rfl
@[simp] theorem zaa (i : Nat) : mVar i env st = (match env[i]? with | some (some x) => .ok x st | _ => .stuck) := (rfl)
@[simp] theorem zex (x : PV) : mC x env st = .ok x st := (rfl)
@[simp] theorem zcd : mOp op fa fb env st = (fa env st).bind fun x st1 => (fb env st1).bind fun y st2 => op x y st2 := (rfl)
@[simp] theorem zom : mUn o1 fa env st = (fa env st).bind o1 := (rfl)
@[simp] theorem zon : mB fa env st = (fa env st).bind asB := (rfl)
@[simp] theorem zoo (b : Bool) : asB (.bl b) st = .ok b st := (rfl)
@[simp] theorem znO : bAnd ga gb env st = (ga env st).bind fun c st1 => if c = true then gb env st1 else .ok false st1 := (rfl)
@[simp] theorem zop : bOr ga gb env st = (ga env st).bind fun c st1 => if c = true then .ok true st1 else gb env st1 := (rfl)
@[simp] theorem znP : bNot ga env st = (ga env st).bind fun c st1 => .ok (!c) st1 := (rfl)
@[simp] theorem zmj : mAnd fa fb env st = (fa env st).bind fun x st1 => (asB x st1).bind fun c st2 => if c = true then fb env st2 else .ok (.bl false) st2 := (rfl)
@[simp] theorem zoq : mIf ga fa fb env st = (ga env st).bind fun c st1 => if c = true then fa env st1 else fb env st1 := (rfl)
@[simp] theorem zas : aNil env st = .ok [] st := (rfl)
@[simp] theorem zS : aCons fa fs env st = (fa env st).bind fun x st1 => (fs env st1).bind fun xs st2 => .ok (x :: xs) st2 := (rfl)
@[simp] theorem zhy : mTup fs env st = (fs env st).bind fun xs st1 => if xs.length ≤ lim then .ok (.tup xs) st1 else .stuck := (rfl)
@[simp] theorem znQ : mLst fs env st = (fs env st).bind fun xs st1 => if xs.length ≤ lim then .ok (.ref st1.length) (st1 ++ [.lst xs]) else .stuck := (rfl)
@[simp] theorem zai : mCall m fs env st = (fs env st).bind m := (rfl)
@[simp] theorem zfx (C : Int → Int → Bool) (f : Int → Int → Int) (i j : Int) : opI C f (.int i) (.int j) st = if C i j = true then .ok (.int (f i j)) st else .stuck := (rfl)
@[simp] theorem zor (f : Int → Int → Bool) (i j : Int) : opB f (.int i) (.int j) st = .ok (.bl (f i j)) st := (rfl)
@[simp] theorem znR (i : Int) : oNeg (.int i) st = .ok (.int (-i)) st := (rfl)
@[simp] theorem znS (i j : Int) : oAdd (.int i) (.int j) st = .ok (.int (i + j)) st := (rfl)
@[simp] theorem znT (x y : Str) : oAdd (.str x) (.str y) st = if x.length + y.length ≤ lim then .ok (.str (x ++ y)) st else .stuck := (rfl)
@[simp] theorem znU (x : PV) : optR (some x) st = .ok x st := (rfl)
@[simp] theorem znV (xs : List PV) : oLen [.tup xs] st = .ok (.int xs.length) st := (rfl)
@[simp] theorem znW (xs : List PV) : oLen [.frl xs] st = .ok (.int xs.length) st := (rfl)
@[simp] theorem znX (n : Nat) : oLen [.ref n] st = withL st n fun xs => .ok (.int xs.length) st := (rfl)
@[simp] theorem zos (x y : PV) : oEq x y st = if plain x = true ∧ plain y = true ∧ dep x ≤ 150 then .ok (.bl (eqP x y)) st else .stuck := (rfl)
@[simp] theorem zot (x y : PV) : oNe x y st = if plain x = true ∧ plain y = true ∧ dep x ≤ 150 then .ok (.bl (!eqP x y)) st else .stuck := (rfl)
@[simp] theorem znl : sNext env st = .ok (.nx env) st := (rfl)
@[simp] theorem zE : sSeq g g' env st = (g env st).bind (flowOn g') := (rfl)
@[simp] theorem zC : flowOn g (.nx env) st = g env st := (rfl)
@[simp] theorem znm (x : PV) : flowOn g (.rt x) st = .ok (.rt x) st := (rfl)
@[simp] theorem zae (i : Nat) : sSet i fa env st = (fa env st).bind fun x st1 => .ok (.nx (env.set i (some x))) st1 := (rfl)
@[simp] theorem znn : sExpr fa env st = (fa env st).bind fun _ st1 => .ok (.nx env) st1 := (rfl)
@[simp] theorem zjE : sRet fa env st = (fa env st).bind fun x st1 => .ok (.rt x) st1 := (rfl)
@[simp] theorem zmk : sIf ga g g' env st = (ga env st).bind fun c st1 => if c = true then g env st1 else g' env st1 := (rfl)
@[simp] theorem zmY (c f : Str) : sRaise c f fa env st = (fa env st).bind fun x st1 => .err c [f] [x] st1 := (rfl)
@[simp] theorem zoz (i j : Nat) (x y : PV) : g2 i j (.tup [x, y]) env = some ((env.set i (some x)).set j (some y)) := (rfl)
@[simp] theorem zou (i : Nat) (x : PV) : gN i x env = some (env.set i (some x)) := (rfl)
@[simp] theorem znY (x : PV) : endOf (.rt x) st = .ok x st := (rfl)
@[simp] theorem znZ (e : PEnv) : endOf (.nx e) st = .ok .non st := (rfl)
@[simp] theorem zn0 (i : Nat) : sAug i op fa env st = (mVar i env st).bind fun x st0 => (fa env st0).bind fun y st1 => (op x y st1).bind fun z st2 => .ok (.nx (env.set i (some z))) st2 := (rfl)
@[simp] theorem zno (i j : Int) : ipAdd (.int i) (.int j) st = .ok (.int (i + j)) st := (rfl)
@[simp] theorem zn1 : iVal fa env st = (fa env st).bind seqOf := (rfl)
@[simp] theorem zn2 (xs : List PV) : seqOf (.tup xs) st = .ok (.im xs) st := (rfl)
@[simp] theorem zn3 (n : Nat) : seqOf (.ref n) st = withL st n fun _ => .ok (.rf n) st := (rfl)
@[simp] theorem znp : zkF fs env st = (fs env st).bind zip2 := (rfl)
@[simp] theorem zn4 (xs ys : List PV) : zip2 [.tup xs, .tup ys] st = .ok (.im (zipP xs ys)) st := (rfl)
@[simp] theorem zjF (src : PEnv → Mo Sq) (gt : PV → PEnv → Option PEnv) : sFor src gt g env st = (src env st).bind fun q st1 => forS gt g q env st1 := (rfl)
@[simp] theorem zjG (gt : PV → PEnv → Option PEnv) (xs : List PV) : forS gt g (.im xs) env st = forL gt g xs env st := (rfl)
@[simp] theorem zn5 (gt : PV → PEnv → Option PEnv) : forL gt g [] env st = .ok (.nx env) st := (rfl)
@[simp] theorem zml (i : Int) : Mi.plain (.int i) = true := (rfl)
@[simp] theorem zmm (x : Str) : Mi.plain (.str x) = true := (rfl)
@[simp] theorem znq (i : Int) : dep (.int i) = 0 := (rfl)
@[simp] theorem znr (x : Str) : dep (.str x) = 0 := (rfl)
@[simp] theorem zn6 (a b : Int) : eqP (.int a) (.int b) = (a == b) := (rfl)
@[simp] theorem zn7 (a b : Str) : eqP (.str a) (.str b) = (a == b) := (rfl)
@[simp] theorem zn8 (xs ys : List PV) : eqP (.tup xs) (.tup ys) = eqPs xs ys := (rfl)
@[simp] theorem zns : eqPs [] [] = true := (rfl)
@[simp] theorem znt (x y : PV) (xs ys : List PV) : eqPs (x :: xs) (y :: ys) = (eqP x y && eqPs xs ys) := (rfl)
@[simp] theorem zel (a : α) : noErr (Res.ok a st) = .ok a st := (rfl)
@[simp] theorem zmn : isNon .non = true := (rfl)
@[simp] theorem znu (name : Str) (tab : Str → Option (List PV → Mo PV)) : xMeth name tab fo fs env st = (noErr (fo env st)).bind fun o st1 => methAt name tab o st1 fun n m => (noErr (fs env st1)).bind fun ys st2 => m (.ref n :: ys) st2 := (rfl)
@[simp] theorem znv (name : Str) (tab : Str → Option (List PV → Mo PV)) : mMeth name tab fo fs env st = (fo env st).bind fun o st1 => methAt name tab o st1 fun n m => (fs env st1).bind fun ys st2 => m (.ref n :: ys) st2 := (rfl)
theorem zL {n : Nat} {xs : List PV} (h : st[n]? = some (.lst xs)) (k : List PV → Res α) : withL st n k = k xs := by unfold withL; rw [h]
theorem zah {n : Nat} {c : Str} {ks : List Str} {xs : List PV} (h : st[n]? = some (.ins c ks xs)) (k : Str → List Str → List PV → Res α) : withI st n k = k c ks xs := by unfold withI; rw [h]
@[simp] theorem zmo (xs : List PV) (k : List PV → Res α) : withL (st ++ [.lst xs]) st.length k = k xs := zL (by simp) k
theorem zaf {name : Str} {tab : Str → Option (List PV → Mo PV)} {n : Nat} {c : Str} {ks : List Str} {xs : List PV} {m : List PV → Mo PV} (h : st[n]? = some (.ins c ks xs)) (hk : name ∉ ks) (ht : tab c = some m) (k : Nat → (List PV → Mo PV) → Res PV) : methAt name tab (.ref n) st k = k n m := by
  unfold methAt
  simp only [zah h, if_neg hk, ht]
@[simp] theorem zbD (f : Str) (i x : Str → Bool) (n : Nat) : fldAt f i x (.ref n) st = withI st n fun c ks xs => if i c = true then optR ((ks.zip xs).lookup f) st else .stuck := (rfl)
@[simp] theorem zn9 (ks : List Str) (ps : List PV) (z : Str) : kdAt ks ps (.str z) st = optR ((ks.zip ps).lookup z) st := (rfl)
@[simp] theorem znw (tab : Str → Option (List PV → Mo PV)) : mCallV tab fa fs env st = (fa env st).bind fun f st1 => match f with | .fn x => (match tab x with | some m => (fs env st1).bind m | none => .stuck) | _ => .stuck := (rfl)
@[simp] theorem zoa (f : Str) (i : Str → Bool) : Mi.sFld f i fo fv env st = (fv env st).bind fun x st1 => (fo env st1).bind fun o st2 => (putAt f i x o st2).bind fun _ st3 => .ok (.nx env) st3 := (rfl)
@[simp] theorem zob : mMut op fo fv env st = (fo env st).bind fun o st1 => (recL o st1).bind fun o st1 => (fv env st1).bind fun y st2 => op o y st2 := (rfl)
@[simp] theorem zoc (n : Nat) : recL (.ref n) st = withL st n fun _ => .ok (.ref n) st := (rfl)
@[simp] theorem znx (a b : String) : (Str.ofString a = Str.ofString b) ↔ a = b := by
  constructor
  · intro h
    rw [Str.ofString_eq_byList] at h
    have h1 : (a.toList.map Char.toNat) = (b.toList.map Char.toNat) := by
      have := congrArg (fun z => z.cps.toList) h
      simpa [Str.ofStringByList] using this
    apply String.ext_iff.mpr
    exact (List.map_inj_right (fun c d e => Char.toNat_inj.mp e)).mp h1
  · intro h; rw [h]
@[simp] theorem zny (a b : String) : (Str.ofString a == Str.ofString b) = (a == b) := by
  rw [Bool.eq_iff_iff]; simp
theorem zZ (n : Nat) : whileF ga g (n + 1) env st = (ga env st).bind fun c st1 => if c = true then (g env st1).bind fun fl st2 => match fl with
      | .nx e => whileF ga g n e st2
      | .ct e => whileF ga g n e st2
      | .bk e => .ok (.nx e) st2
      | .rt v => .ok (.rt v) st2
    else .ok (.nx env) st1 := rfl
@[simp] theorem zmp : lim = 1000000 := (rfl)
@[simp] theorem znz (f : Str) (i : Str → Bool) (x : PV) (n : Nat) : Mi.putAt f i x (.ref n) st = withI st n fun c ks xs => if i c = true ∧ ks.length < 1000 then .ok () (st.set n (.ins c (putK f x ks xs).1 (putK f x ks xs).2)) else .stuck := (rfl)
end
end Mi
namespace Mi
open PySem L2 PySem.W PySem.Spec
section
variable {K : Frag} {mg : Str → Option Value} {h : Heap} {x : Str} {f C : Addr} {oc : Value} {od an : Option Addr} {osl : Array (Option Value)} {kV doc pm cdv ct : Value} {sm : Stmt} {ps : List Str}
theorem zan (X : K.In h) (G : h.Ns mainGlobals mg) (a : nsIn K mainGlobals x = some (some (.ref f))) (l : K.lookup f = some ⟨oc, od, .func (fnOf x x (defArgs sm) (defBody sm) (defScope sm) .none kV doc pm an cdv ct), osl⟩) (c : codeIn K cdv x = true) (k : keepIn K (.ref f) = true)
    (b : ∀ (kV doc pm : Value) (an : Option Addr) (cdv ct : Value) (us : List Value), us.length = ps.length → bindArgs (fnOf x x (defArgs sm) (defBody sm) (defScope sm) .none kV doc pm an cdv ct) ⟨us, []⟩ = pure (ps.zip us)) : FnF K mg x sm ps :=
  ⟨f, _, mg_of X G a, zdf l c k, (zdf l c k).binds b⟩
theorem zcf {c name qual : Str} (X : K.In h) (G : h.Ns mainGlobals mg) (aC : nsIn K mainGlobals c = some (some (.ref C))) (pg : plainGet K C Str.empty = true) (hd : hasDictIn K C = true) (po : plainOver K C = true) (sa : findIn K (.ref C) "__setattr__" = some (some (.builtin "object.__setattr__")))
    (a : findIn K (.ref C) name = some (some (.ref f))) (i : isFn K (.ref f) = true) (l : K.lookup f = some ⟨oc, od, .func (fnOf name qual (defArgs sm) (defBody sm) (defScope sm) .none kV doc pm an cdv ct), osl⟩) (cd : codeIn K cdv qual = true) (k : keepIn K (.ref f) = true)
    (b : ∀ (kV doc pm : Value) (an : Option Addr) (cdv ct : Value) (us : List Value), us.length = ps.length → bindArgs (fnOf name qual (defArgs sm) (defBody sm) (defScope sm) .none kV doc pm an cdv ct) ⟨us, []⟩ = pure (ps.zip us)) : MtF K mg c name qual sm ps :=
  ⟨C, f, _, mg_of X G aC, ⟨pg, hd, po, sa⟩, ⟨a, i, k⟩, zdf l cd k, (zdf l cd k).binds b⟩
theorem zhz {c qual : Str} (X : K.In h) (G : h.Ns mainGlobals mg) (aC : nsIn K mainGlobals c = some (some (.ref C))) (mk : makesIn K C = true) (kc : keepIn K (.ref C) = true)
    (a : findIn K (.ref C) "__init__" = some (some (.ref f))) (i : isFn K (.ref f) = true) (l : K.lookup f = some ⟨oc, od, .func (fnOf "__init__" qual (defArgs sm) (defBody sm) (defScope sm) .none kV doc pm an cdv ct), osl⟩) (cd : codeIn K cdv qual = true) (k : keepIn K (.ref f) = true)
    (b : ∀ (kV doc pm : Value) (an : Option Addr) (cdv ct : Value) (us : List Value), us.length = ps.length → bindArgs (fnOf "__init__" qual (defArgs sm) (defBody sm) (defScope sm) .none kV doc pm an cdv ct) ⟨us, []⟩ = pure (ps.zip us)) : NwF K mg c qual sm ps :=
  ⟨C, f, _, mg_of X G aC, ⟨mk, a, i, kc⟩, zdf l cd k, (zdf l cd k).binds b⟩
theorem zkJ {cd : ClassData} (h : clsIn K C = some cd) (v : valLine cd.mro = true) : lineIn K C = true := by unfold lineIn; rw [h]; exact v
theorem zjH {c fld qual : Str} {B N : Addr} {nm q : Str} {bs : List Value} {hdct : Bool} {sn : List Str} {sub : List Value} {ab : Bool} {col : Option Bool} {dd : Option Addr} {k0 k1 k2 k3 k5 : Option Value} {cc : Value} {d : Option Addr} {es : Array DictEntry} {n : Nat} {sl : Array (Option Value)} {cd0 : ClassData}
    (X : K.In h) (G : h.Ns mainGlobals mg) (aC : nsIn K mainGlobals c = some (some (.ref C)))
    (hC : K.lookup C = some (excClassObj nm q C N bs (.ref B :: veLine) hdct sn sub ab col dd k0 k1 k2 k3 k5 "ValueError.__new__")) (hB : excIn K B veLine "ValueError.__new__" = true)
    (hN : K.lookup N = some ⟨cc, d, .dict es n, sl⟩) (he : (es.all fun e => match e.key with | .str _ _ => true | _ => false) = true) (hi : nsIn K N "__init__" = some (some (.ref f))) (fn : isFn K (.ref f) = true) (kp : keepIn K (.ref C) = true)
    (sa : findIn K (.ref C) "__setattr__" = some (some (.builtin "object.__setattr__"))) (hcl : clsIn K C = some cd0) (hl : valLine cd0.mro = true) (no : takerIn K C fld = some none) (hdI : hasDictIn K C = true)
    (l : K.lookup f = some ⟨oc, od, .func (fnOf "__init__" qual (defArgs sm) (defBody sm) (defScope sm) .none kV doc pm an cdv ct), osl⟩) (cdd : codeIn K cdv qual = true) (k : keepIn K (.ref f) = true)
    (b : ∀ (kV doc pm : Value) (an : Option Addr) (cdv ct : Value) (us : List Value), us.length = [("self" : Str), fld].length → bindArgs (fnOf "__init__" qual (defArgs sm) (defBody sm) (defScope sm) .none kV doc pm an cdv ct) ⟨us, []⟩ = pure ([("self" : Str), fld].zip us)) : XnF K mg c fld qual sm :=
  ⟨C, f, _, mg_of X G aC, ExMk.mk' hC hB hN he hi fn kp, ⟨sa, zkJ hcl hl, no, hdI⟩, zdf l cdd k, (zdf l cdd k).binds b⟩
theorem zG {c fld : Str} (X : K.In h) (G : h.Ns mainGlobals mg) (aC : nsIn K mainGlobals c = some (some (.ref C))) (pg : plainGet K C Str.empty = true) (hd : hasDictIn K C = true) (po : plainOver K C = true) (sa : findIn K (.ref C) "__setattr__" = some (some (.builtin "object.__setattr__"))) (na : findIn K (.ref C) fld = some none) :
    ∃ C, mg c = some (.ref C) ∧ Cls K C ∧ NoAttr K C fld := ⟨C, mg_of X G aC, ⟨pg, hd, po, sa⟩, na⟩
theorem zab {c fld : Str} (X : K.In h) (G : h.Ns mainGlobals mg) (aC : nsIn K mainGlobals c = some (some (.ref C))) (ga : findIn K (.ref C) "__getattribute__" = some (some (.builtin "BaseException.__getattribute__"))) (hk : findIn K (.ref C) "__getattr__" = some none) (hB : mroIn K C (.type "BaseException") = some true)
    (hd : hasDictIn K C = true) (no : findIn K (.ref C) fld = some none) : ∃ C, mg c = some (.ref C) ∧ ExGa K C ∧ hasDictIn K C = true ∧ findIn K (.ref C) fld = some none := ⟨C, mg_of X G aC, ⟨ga, hk, hB⟩, hd, no⟩
theorem zkK {α : Type} {P : α → Prop} : ∀ p ∈ ([] : List α), P p := fun _ h => nomatch h
theorem all_cons {α : Type} {P : α → Prop} {a : α} {l : List α} (h : P a) (t : ∀ p ∈ l, P p) : ∀ p ∈ a :: l, P p := fun p hp => by
  rcases List.mem_cons.mp hp with rfl | hp
  · exact h
  · exact t p hp
theorem zd6 {α β : Type} [BEq α] [LawfulBEq α] {a : α} {b : β} : ∀ {l : List (α × β)}, l.lookup a = some b → (a, b) ∈ l
  | [], h => by simp at h
  | (c, d) :: l, h => by
    rw [List.lookup_cons] at h
    split at h
    · rename_i e; cases h; rw [eq_of_beq e]; simp
    · exact List.mem_cons_of_mem _ (zd6 h)
theorem zkL {O t t2 : Addr} {wd k1 k2 y : Str} {u1 u2 : Tok} {n n2 : Nat} {od2 : Option Addr} {sl sl2 : Array (Option Value)} (X : K.In h) (G : h.Ns mainGlobals mg) (e : nsIn K O wd = some (some (.ref t))) (l1 : K.lookup t = some ⟨.type "tuple", od, .seq #[.ref t2, .ref f] n, sl⟩)
    (l2 : K.lookup t2 = some ⟨.type "tuple", od2, .seq #[.str k1 u1, .str k2 u2] n2, sl2⟩) (a : nsIn K mainGlobals y = some (some (.ref f))) : ∃ u v, nsIn K O wd = some (some u) ∧ RelV v u ∧ ∀ ρ H, R K mg ρ H (.tup [.tup [.str k1, .str k2], .fn y]) v := by
  refine ⟨_, .ref t, e, rfl, zjC (xs := [.tup [.str k1, .str k2], .fn y]) (vs := [.ref t2, .ref f]) l1 rfl (by simp) (.cons rfl (.cons rfl .nil)) fun ρ H => ?_⟩
  exact ⟨_, _, rfl, zjC (xs := [.str k1, .str k2]) (vs := [.str k1, .str k2]) l2 rfl (by simp) (.cons ⟨_, rfl⟩ (.cons ⟨_, rfl⟩ .nil)) (fun ρ H => ⟨_, _, rfl, rfl, _, _, rfl, rfl, rfl⟩) ρ H, _, _, rfl, ⟨f, rfl, mg_of X G a⟩, rfl⟩
theorem zmq {w : World} {name : Str} {O : Addr} {es : Array DictEntry} {n : Nat} {ks : List Str} {qs : List PV} (X : K.In h) (G : h.Ns mainGlobals mg) (aO : nsIn K mainGlobals name = some (some (.ref O))) (lO : K.lookup O = some ⟨.type "dict", none, .dict es n, #[]⟩) (hk : KeysLit w.params es.toList) (no : (O == sysModules) = false)
    (hi : ∀ p ∈ ks.zip qs, ∃ u v, nsIn K O p.1 = some (some u) ∧ RelV v u ∧ ∀ ρ H, R K mg ρ H p.2 v) : ∀ Y : Cx, Y.K = K → Y.mg = mg → Y.w = w → KdF Y name ks qs false := fun Y e1 e2 e3 => by
  refine ⟨O, by rw [e2]; exact mg_of X G aO, ⟨⟨es, n, by rw [e1]; exact lO, by rw [e3]; exact hk⟩, no⟩, fun z q hz => ?_, fun z => nomatch z⟩
  rw [e1, e2]
  exact hi _ (zd6 hz)
end
end Mi
namespace Mi
open PySem L2 PySem.W PySem.Spec
theorem zmr {P : Program} {w : World} {K : Frag} {mg : Str → Option Value} {x y : Str} {sm : Stmt} {fa : Addr} {k : Nat} {m : List PV → Mo PV} (h : FnF K mg x sm [y]) (hmg : mg x = some (.ref fa))
    (hb : ∀ (kV doc pm : Value) (an : Option Addr) (cdv ct : Value) (u : Value), bindArgs (fnOf x x (defArgs sm) (defBody sm) (defScope sm) .none kV doc pm an cdv ct) ⟨[u], []⟩ = pure [(y, u)])
    (hok : ∀ (f : Addr) (fd : FuncData), Fun K x x sm f fd → ∀ base : Heap, FnOk P w K mg base (CXe P w) k f fd [y] (spM K mg m)) (hp : ∀ ns : List Int, ns.length ≤ 63 → ∃ st, m [.frl (ns.map PV.int)] [] = .ok (.bl true) st) :
    ∃ fd : FuncData, (∀ (s : Shared) (u : Value), BindsTo s fd ⟨[u], []⟩ [(y, u)]) ∧ ∀ base : Heap, K.In base → base.Ns mainGlobals mg → FnOk P w K mg base (CXe P w) k fa fd [y] (spLaw K) := by
  obtain ⟨f, fd, hm, F, _⟩ := h
  rw [hmg] at hm
  cases hm
  refine ⟨fd, fun s u => ?_, fun base _ _ => zkI (hok fa fd F base) hp⟩
  obtain ⟨oc, od, kV, doc, pm, an, cdv, ct, osl, rfl, _⟩ := F.ex
  exact .of_eq (hb kV doc pm an cdv ct u)
end Mi
namespace Mi
open PySem L2 PySem.W PySem.Spec
theorem znA {K : Frag} {mg : Str → Option Value} {h : Heap} {x : Str} {i : Int} {t : Tok} (X : K.In h) (G : h.Ns mainGlobals mg) (a : nsIn K mainGlobals x = some (some (.int i t))) : ∃ t, mg x = some (.int i t) := ⟨t, mg_of X G a⟩
theorem zhA {K : Frag} {mg : Str → Option Value} {h : Heap} {x : Str} (X : K.In h) (G : h.Ns mainGlobals mg) (a : nsIn K mainGlobals x = some none) : mg x = none := mg_none_of X G a
end Mi
namespace Mi
open PySem L2 PySem.W PySem.Spec
section
variable {X : Cx} {Er : XK} {K : Frag} {mg : Str → Option Value} {a b c e o : Expr} {es : List Expr} {pos p apos pos' : Pos} {fa fb fc fo : PEnv → Mo PV} {fs : PEnv → Mo (List PV)}
abbrev kz (ks : List Str) (vs : List V) : List (Key × V) := (ks.map Sum.inr).zip vs
theorem zfy {z : Str} : ∀ {ks : List Str} {vs : List V}, valV (kz ks vs) (Sum.inr z) = (ks.zip vs).lookup z
  | [], _ => by simp [kz, valV]
  | k :: ks, [] => by simp [kz, valV]
  | k :: ks, v :: vs => by
    have ih := zfy (z := z) (ks := ks) (vs := vs)
    by_cases h : k = z
    · subst h
      rw [show kz (k :: ks) (v :: vs) = (Sum.inr k, v) :: kz ks vs from rfl, zdo rfl]
      simp [List.lookup_cons]
    · rw [show kz (k :: ks) (v :: vs) = (Sum.inr k, v) :: kz ks vs from rfl, zdp (by simpa using h), ih]
      have : (z == k) = false := by simpa using fun q => h q.symm
      simp [List.lookup_cons, this]
theorem zjI {z : Str} : ∀ {ks : List Str} {vs : List V}, ks.length = vs.length → ((kz ks vs).any fun kv => decide (kv.1 = Sum.inr z)) = ks.contains z
  | [], _, _ => by simp [kz]
  | k :: ks, [], h => by simp at h
  | k :: ks, v :: vs, h => by
    have ih := zjI (z := z) (ks := ks) (vs := vs) (by simpa using h)
    rw [show kz (k :: ks) (v :: vs) = (Sum.inr k, v) :: kz ks vs from rfl, List.any_cons, ih, List.contains_cons]
    congr 1
    by_cases hz : k = z
    · subst hz; simp
    · have : (z == k) = false := by simpa using fun q => hz q.symm
      simp [hz, this]
def repl {α : Type} (z : Str) (x : α) : List Str → List α → List α
  | k :: ks, y :: ys => (if k = z then x else y) :: repl z x ks ys
  | _, ys => ys
def dPut (z : Str) (x : PV) (ks : List Str) (xs : List PV) : List Str × List PV := if ks.contains z = true then (ks, repl z x ks xs) else (ks ++ [z], xs ++ [x])
theorem zhB {z : Str} {v : V} : ∀ {ks : List Str} {vs : List V}, (kz ks vs).map (fun kv => if kv.1 = Sum.inr z then (kv.1, v) else kv) = kz ks (repl z v ks vs)
  | [], _ => by simp [kz]
  | k :: ks, [] => by simp [kz, repl]
  | k :: ks, w :: vs => by
    rw [show kz (k :: ks) (w :: vs) = (Sum.inr k, w) :: kz ks vs from rfl, List.map_cons, zhB, show repl z v (k :: ks) (w :: vs) = (if k = z then v else w) :: repl z v ks vs from rfl, show ∀ u us, kz (k :: ks) (u :: us) = (Sum.inr k, u) :: kz ks us from fun _ _ => rfl]
    by_cases h : k = z
    · subst h; simp
    · rw [if_neg (by simpa using h), if_neg h]
theorem zjJ {ρ : List Addr} {H : Hp} {z : Str} {x : PV} {v : V} (r : R K mg ρ H x v) : ∀ {ks : List Str} {xs : List PV} {vs : List V}, Rs K mg ρ H xs vs → Rs K mg ρ H (repl z x ks xs) (repl z v ks vs)
  | [], xs, vs, h => by cases xs <;> cases vs <;> exact h
  | k :: ks, [], vs, h => by cases h; exact rfl
  | k :: ks, y :: ys, vs, h => by
    obtain ⟨w, ws, rfl, h1, h2⟩ := h
    refine ⟨_, _, rfl, ?_, zjJ r h2⟩
    split
    · exact r
    · exact h1
theorem repl_len {α : Type} {z : Str} {x : α} : ∀ {ks : List Str} {xs : List α}, (repl z x ks xs).length = xs.length
  | [], xs => by cases xs <;> rfl
  | k :: ks, [] => rfl
  | k :: ks, y :: ys => by simp [repl, repl_len (ks := ks)]
theorem zjK {ρ : List Addr} {H : Hp} {z : Str} {x : PV} {v : V} (r : R K mg ρ H x v) {ks : List Str} {xs : List PV} {vs : List V} (hl : ks.length = vs.length) (h : Rs K mg ρ H xs vs) : ∃ ws, L2.putK (kz ks vs) (Sum.inr z) v = kz (dPut z x ks xs).1 ws ∧ Rs K mg ρ H (dPut z x ks xs).2 ws ∧ (dPut z x ks xs).1.length = ws.length := by
  unfold L2.putK dPut
  rw [zjI hl]
  by_cases hc : ks.contains z = true
  · rw [if_pos hc, if_pos hc]
    exact ⟨repl z v ks vs, zhB, zjJ r h, by rw [repl_len]; exact hl⟩
  · rw [if_neg hc, if_neg hc]
    refine ⟨vs ++ [v], ?_, h.append ⟨v, [], rfl, r, rfl⟩, by simp [hl]⟩
    show _ = (List.map Sum.inr (ks ++ [z])).zip (vs ++ [v])
    rw [List.map_append, List.zip_append (by simpa using hl)]
    rfl
def mDNew : PEnv → Mo PV := fun _ st => .ok (.ref st.length) (st ++ [.dic [] []])
theorem zhC : ME X Er (.Dict [] [] pos) mDNew := PE.weak ziw fun σ H Q ⟨env, st, ρ, re, rs, h⟩ => fun q hq =>
  h (ρ ++ [q]) _ (Ext.push hq) (rs.push hq ⟨[], zu, rfl, rfl⟩) _ ⟨q, rfl, by rw [← rs.len]; simp⟩
def oDGet : PV → PV → Mo PV
  | .ref n, .str z, st => withD st n fun ks xs => optR ((ks.zip xs).lookup z) st
  | _, _, _ => .stuck
def oIxD : PV → PV → Mo PV
  | .ref n, .str z, st => oDGet (.ref n) (.str z) st
  | x, y, st => oIx x y st
def rDGet : R2 := fun x y H Q => ∃ a v, x = .ref a ∧ DGet H a y (some v) ∧ Q v H
theorem zkM (hu : X.A.units + 1 < cLine) : IxR X rDGet := by
  intro value slice pins s σ H x y v u Q I rx ry h hs
  obtain ⟨a, w, rfl, g, q⟩ := h
  obtain rfl : v = Value.ref a := rx
  exact PyProof.Rows.tail_any (zft I g) PySem.F.slot_dict_getitem.lookup (zg9 hu I g ry fun w' s' I' rw' => ⟨w, H, I', rw', q⟩) hs
theorem R.refD {ρ : List Addr} {H : Hp} {st : Sto} {n : Nat} {ks : List Str} {xs : List PV} {v : V} (s : StR K mg ρ H st) (r : R K mg ρ H (.ref n) v) (h : st[n]? = some (.dic ks xs)) : ∃ a vs, v = .ref a ∧ ρ[n]? = some a ∧ H a = some (.dK (kz ks vs)) ∧ Rs K mg ρ H xs vs ∧ ks.length = vs.length := by
  obtain ⟨a, rfl, ha⟩ := r
  obtain ⟨vs, h1, h2, h3⟩ := s.addr h ha
  exact ⟨a, vs, rfl, ha, h1, h2, h3⟩
theorem zkN {H : Hp} {a : Addr} {ks : List Str} {vs : List V} {z : Str} (h : H a = some (.dK (kz ks vs))) : DGet H a (.str z) ((ks.zip vs).lookup z) := by
  have g := DGet.k (k := Sum.inr z) h
  rw [zfy] at g
  exact g
theorem zn (hu : X.A.units + 200 < cLine) : IxOk X oIxD := by
  obtain ⟨r, h1, h2⟩ := zni (X := X)
  refine ⟨_, h1.or (zkM (by omega)), fun ρ H st x y v w Q E s rx ry h => ?_⟩
  by_cases hx : ∃ n z, x = .ref n ∧ y = .str z
  · obtain ⟨n, z, rfl, rfl⟩ := hx
    obtain ⟨ks, xs, e, h⟩ := zeN (show Out X.K X.mg ρ H (withD st n fun ks xs => optR ((ks.zip xs).lookup z) st) (gV X.K X.mg Q) E from h)
    obtain ⟨q, hq, h⟩ := zba h
    obtain ⟨a, vs, rfl, _, k1, k2, _⟩ := R.refD s rx e
    cases ry
    obtain ⟨v, hv, rv⟩ := zca k2 hq
    refine .inr ⟨a, v, rfl, ?_, h.now s _ rv⟩
    have g := zkN (z := z) k1
    rw [hv] at g
    exact g
  · refine .inl (h2 ρ H st x y v w Q E s rx ry ?_)
    have : oIxD x y st = oIx x y st := by
      unfold oIxD
      split
      · rename_i n z; exact absurd ⟨n, z, rfl, rfl⟩ hx
      · rfl
    rw [this] at h
    exact h
def dPutAt (z x : PV) : PV → Mo Unit
  | .ref n, st => match z with
    | .str z => withD st n fun ks xs => if ks.length < lim then .ok () (st.set n (.dic (dPut z x ks xs).1 (dPut z x ks xs).2)) else .stuck
    | _ => .stuck
  | _, _ => .stuck
def sDPutM (fo fi fv : PEnv → Mo PV) : PEnv → Mo Fl := fun env st => (fv env st).bind fun x st1 => (fo env st1).bind fun o st2 => (fi env st2).bind fun z st3 => (dPutAt z x o st3).bind fun _ st4 => .ok (.nx env) st4
theorem zfz {i value : Expr} {fi fv : PEnv → Mo PV} (hu : X.A.units + 200 < cLine) (ho : ME X Er o fo) (hi : ME X Er i fi) (hv : ME X Er value fv) (hs : swapsWith value (some (.Subscript o i pos')) pos.line X.env = pure false := by rfl) : MS X Er (.Assign [.Subscript o i pos'] value pos) (sDPutM fo fi fv) :=
  PS.weak (zkh (by omega) ho hi hv hs) fun D σ H ⟨env, st, ρ, re, rs, h⟩ => ⟨env, st, ρ, re, rs, h.then fun ρ1 H1 x st1 e1 s1 h1 v rv => ⟨env, st1, ρ1, re.ext e1, s1, h1.then fun ρ2 H2 y st2 e2 s2 h2 w rw => ⟨env, st2, ρ2, (re.ext e1).ext e2, s2, h2.then fun ρ3 H3 zz st3 e3 s3 h3 u ru => by
    cases y with
    | ref n =>
      cases zz with
      | str z =>
        cases hn : st3[n]? with
        | none => simp only [dPutAt, withD, hn] at h3; exact False.elim h3
        | some so =>
          cases so with
          | lst _ => simp only [dPutAt, withD, hn] at h3; exact False.elim h3
          | ins _ _ _ => simp only [dPutAt, withD, hn] at h3; exact False.elim h3
          | fdi _ _ => simp only [dPutAt, withD, hn] at h3; exact False.elim h3
          | dic ks xs =>
            simp only [dPutAt, withD, hn] at h3
            by_cases hc : ks.length < lim
            · rw [if_pos hc] at h3
              obtain ⟨a, vs, e4, ha, k1, k2, k3⟩ := R.refD s3 (R.ext e3 _ rw) hn
              subst e4
              cases ru
              obtain ⟨ws, q1, q2, q3⟩ := zjK (z := z) (R.ext e3 x (R.ext e2 x rv)) k3 k2
              have hlen : (kz ks vs).length < sizeLine := by
                have : (kz ks vs).length = ks.length := by simp [kz, k3]
                rw [this, sizeLine_eq]
                have : ks.length < 1000000 := hc
                omega
              have g := DPut.k (k := Sum.inr z) (v := v) k1 hlen
              have ew : Ext ρ3 H3 ρ3 (upd H3 a (.dK (L2.putK (kz ks vs) (Sum.inr z) v))) := Ext.write k1 rfl
              refine ⟨a, _, rfl, g, h3 ρ3 _ ew (s3.write ha ew ⟨ws, by rw [zu, q1], Rs.ext ew _ q2, q3⟩) σ ((((re.ext e1).ext e2).ext e3).ext ew)⟩
            · rw [if_neg hc] at h3; exact False.elim h3
      | _ => exact False.elim h3
    | _ => exact False.elim h3⟩⟩⟩
end
end Mi
namespace Mi
open PySem L2 PySem.W PySem.Spec
open Classical in
noncomputable def eIn (K : Frag) (mg : Str → Option Value) (ρ : List Addr) (H : Hp) (ys : List PV) (x : PV) (u : Value) : Bool := decide (∃ y v, y ∈ ys ∧ R K mg ρ H y v ∧ RelV v u ∧ eqP y x = true)
section
variable {X : Cx} {Er : XK} {K : Frag} {mg : Str → Option Value} {ρ : List Addr} {pins : List (Addr × Obj)} {σ : L2.St} {H : Hp} {s : Shared}
def okIn (x : PV) (ys : List PV) : Prop := Mi.plain x = true ∧ plains ys = true ∧ deps ys ≤ 150
instance (x : PV) (ys : List PV) : Decidable (okIn x ys) := by unfold okIn; infer_instance
open Classical in
end
end Mi
namespace Mi
open PySem L2 PySem.W PySem.Spec
section
variable {X : Cx} {Er : XK} {pos : Pos}
abbrev XN : XK := fun _ _ _ => False
theorem zeR : zav X XN := fun _ _ _ _ _ _ _ _ _ q => q.elim
def compL (fe : PEnv → Mo PV) (env : PEnv) : List PV → List PV → Mo PV
  | [], ys, st => .ok (.ref st.length) (st ++ [.lst ys])
  | x :: xs, ys, st => (noErr (fe (some x :: env) st)).bind fun y st1 => compL fe env xs (ys ++ [y]) st1
def compR (fe : PEnv → Mo PV) (env : PEnv) (n : Nat) : Nat → Nat → List PV → Mo PV
  | 0, _, _, _ => .stuck
  | m + 1, i, ys, st => withL st n fun xs => match xs[i]? with
    | none => .ok (.ref st.length) (st ++ [.lst ys])
    | some x => (noErr (fe (some x :: env) st)).bind fun y st1 => compR fe env n m (i + 1) (ys ++ [y]) st1
def compS (fe : PEnv → Mo PV) (env : PEnv) : Sq → Mo PV
  | .im xs, st => if xs.length ≤ lim then compL fe env xs [] st else .stuck
  | .rf n, st => compR fe env n (lim + 1) 0 [] st
def mComp (src : PEnv → Mo Sq) (fe : PEnv → Mo PV) : PEnv → Mo PV := fun env st => (src env st).bind fun q st1 => compS fe env q st1
theorem Rs.snoc {K : Frag} {mg : Str → Option Value} {ρ : List Addr} {H : Hp} {x : PV} {v : V} (r : R K mg ρ H x v) : ∀ {xs : List PV} {vs : List V}, Rs K mg ρ H xs vs → Rs K mg ρ H (xs ++ [x]) (vs ++ [v])
  | [], _, h => by cases h; exact ⟨v, [], rfl, r, rfl⟩
  | y :: xs, _, h => by
    obtain ⟨w, q, rfl, h1, h2⟩ := h
    exact ⟨w, q ++ [v], rfl, h1, Rs.snoc r h2⟩
theorem zhD {elt iter : Expr} {x : Str} {px : Pos} {scope : Scope} {src : PEnv → Mo Sq} {fe : PEnv → Mo PV} {M : List Str} (hc : X.calm = true) (S : CompSc X.env.scope scope x) (eN : Hid scope M X.N) (hN0 : ((".0" : Str) :: x :: M).Nodup)
    (hi : MI X Er (.Name x px) iter src) (he : ∀ cl C s₂ H₂ fp, ME (cxH X M scope cl x C s₂ H₂ fp (fun _ _ => False)) XN elt fe)
    (hs : ∀ v, foldedSetIterable iter X.env v = pure v := by intro _; rfl) : ME X Er (.ListComp elt [⟨.Name x px, iter, [], 0⟩] scope pos) (mComp src fe) :=
  PE.weak (ziv (te := tM X.K X.mg XN fe) hc S eN hN0 hi (fun cl C s₂ H₂ fp => he cl C s₂ H₂ fp) hs) fun σ H Q ⟨env, st, ρ, re, rs, h⟩ => ⟨env, st, ρ, re, rs, h.then fun ρ0 H0 q st0 e0 s0 h0 J wk => by
    cases q with
    | im xs =>
      obtain ⟨hl, h0⟩ := Out.ifp h0
      obtain ⟨w1, w2, w3⟩ := wk
      refine ⟨fun i m ys H => m = xs.length - i ∧ i ≤ xs.length ∧ ys.length = i ∧ ∃ ps st ρ, Rs X.K X.mg ρ H ps ys ∧ StR X.K X.mg ρ H st ∧ Ext ρ0 H0 ρ H ∧ Out X.K X.mg ρ H (compL fe env (xs.drop i) ps st) (gV X.K X.mg Q) Er, ⟨xs.length, by simp, Nat.zero_le _, rfl, [], st0, ρ0, rfl, s0, Ext.refl, h0⟩, ?_⟩
      rintro i m ys H ⟨rfl, hi, hy, ps, st, ρ, rps, rs, ex, h⟩
      by_cases hlt : i < xs.length
      · refine .inr ⟨w1 i ρ H ex hlt, zO (by omega), fun v H' y => ?_⟩
        obtain ⟨x, hx, ex2, s2, rx⟩ := w3 i ρ H st v H' ex rs hlt y
        have hd : xs.drop i = x :: xs.drop (i + 1) := by
          rw [List.drop_eq_getElem_cons hlt]
          have := (List.getElem?_eq_some_iff.mp hx).2
          rw [this]
        rw [hd] at h
        simp only [compL] at h
        refine ⟨some x :: env, st, ρ, (re.ext (e0.trans (ex.trans ex2))).cons rx, s2, zbo (Out.ext h ex2) fun ρ3 H3 y st3 e3 s3 h3 v ry => ⟨xs.length - (i + 1), by omega, rfl, hlt, by simp [hy], ps ++ [y], st3, ρ3, Rs.snoc ry (Rs.ext (ex2.trans e3) ps rps), s3, (ex.trans ex2).trans e3, h3⟩⟩
      · have e : i = xs.length := by omega
        subst e
        rw [List.drop_length] at h
        exact .inl ⟨w2 _ ρ H ex (Nat.le_refl _), zO (by omega), fun l hl => Out.newList h rs rps hl⟩
    | rf n =>
      obtain ⟨a, ha, rfl⟩ := wk
      refine ⟨fun i m ys H => m + i = lim + 1 ∧ ys.length = i ∧ ∃ ps st ρ, Rs X.K X.mg ρ H ps ys ∧ StR X.K X.mg ρ H st ∧ Ext ρ0 H0 ρ H ∧ ρ[n]? = some a ∧ Out X.K X.mg ρ H (compR fe env n m i ps st) (gV X.K X.mg Q) Er, ⟨lim + 1, rfl, rfl, [], st0, ρ0, rfl, s0, Ext.refl, ha, h0⟩, ?_⟩
      rintro i m ys H ⟨hm, hy, ps, st, ρ, rps, rs, ex, ha, h⟩
      cases m with
      | zero => exact False.elim h
      | succ m =>
        obtain ⟨xs, hn, h⟩ := zJ h
        obtain ⟨vs, hH, hR⟩ := rs.addr hn ha
        cases hx : xs[i]? with
        | none =>
          simp only [hx] at h
          have : vs.length ≤ i := by rw [← hR.len]; exact List.getElem?_eq_none_iff.mp hx
          exact .inl ⟨⟨vs, SqL.of hH, this⟩, zO (by omega), fun l hl => Out.newList h rs rps hl⟩
        | some x =>
          simp only [hx] at h
          obtain ⟨v, hv, rv⟩ := hR.get hx
          refine .inr ⟨⟨vs, v, SqL.of hH, hv⟩, zO (by omega), fun v' H' y => ?_⟩
          obtain ⟨e1, y⟩ := y
          subst e1
          have e2 := y vs (SqL.of hH)
          rw [hv] at e2
          cases e2
          exact ⟨some x :: env, st, ρ, (re.ext (e0.trans ex)).cons rv, rs, zbo h fun ρ3 H3 y st3 e3 s3 h3 v ry => ⟨m, Nat.lt_succ_self m, by omega, by simp [hy], ps ++ [y], st3, ρ3, Rs.snoc ry (Rs.ext e3 ps rps), s3, ex.trans e3, e3.get ha, h3⟩⟩⟩
theorem zms {elt iter : Expr} {x : Str} {px : Pos} {scope : Scope} {src : PEnv → Mo Sq} {fe : PEnv → Mo PV} {N : List Str} (hc : X.calm = true) (S : CompSc X.env.scope scope x) (eN : X.N = N) (hN0 : ((".0" : Str) :: x :: N).Nodup)
    (hi : MI X Er (.Name x px) iter src) (he : ∀ cl C s₂ H₂ fp, ME (cxC X scope cl x C s₂ H₂ fp (fun _ _ => False)) XN elt fe)
    (hs : ∀ v, foldedSetIterable iter X.env v = pure v := by intro _; rfl) : ME X Er (.ListComp elt [⟨.Name x px, iter, [], 0⟩] scope pos) (mComp src fe) :=
  zhD hc S Hid.refl (eN ▸ hN0) hi he hs
end
end Mi
namespace Mi
open PySem L2 PySem.W PySem.Spec
section
variable {env : Env} {es : List Expr} {pos : Pos}
abbrev St1 (e : Expr) (es : List Expr) (env : Env) : Prop := starEach (e :: es) env = (false, eval e env) :: starEach es env
theorem zo {c j} : St1 (.Constant c j pos) es env := (rfl)
theorem zk {x} : St1 (.Name x pos) es env := (rfl)
theorem zaw {f a k} : St1 (.Call f a k pos) es env := (rfl)
theorem zbb {a o b} : St1 (.BinOp a o b pos) es env := (rfl)
theorem zd7 {a o b} : St1 (.Compare a o b pos) es env := (rfl)
theorem zm {a b} : St1 (.Subscript a b pos) es env := (rfl)
theorem zP {a b} : St1 (.Tuple a b pos) es env := (rfl)
theorem zdG {a b c} : St1 (.ListComp a b c pos) es env := (rfl)
theorem ziV {a b c} : St1 (.IfExp a b c pos) es env := (rfl)
theorem zbQ {a b} : St1 (.Attribute a b pos) es env := (rfl)
theorem zhE {a b} : St1 (.Dict a b pos) es env := (rfl)
end
end Mi
namespace L2
open PySem PySem.Spec PyProof.Rows PySem.W
theorem zgF : typeLookup (.type "zip") "__getattr__" = pure none := by rw [typeLookup_type, builtinLookup_eq_fast]; kernel_rfl
theorem zgG : typeLookup (.type "zip") "keys" = pure none := by rw [typeLookup_type, builtinLookup_eq_fast]; kernel_rfl
theorem zeS : entryFor table "zip.__getattribute__" = some Builtin.«object.__getattribute__» :=
  entryFor_alias (id' := "object.__getattribute__") (by kernel_rfl) (by decide +kernel) (by decide +kernel) (by kernel_rfl)
theorem zfA (z : Addr) (fs : Array Value) (sl : Array (Option Value)) (name : Str) (u : Tok) (hmiss : typeLookup (.type "zip") name = pure none) (hname : (["__module__", "__name__", "__qualname__", "__doc__", "__annotations__"] : List Str).contains name = false) (hsz : name.length + 100 ≤ sizeLine := by size_fits) :
    Meets (Builtin.«object.__getattribute__» ⟨[.ref z, .str name u], []⟩) (fun A R s => s.heap.get? z = some { cls := .type "zip", dict := none, data := .fields fs, slots := sl } ∧ raisesAttr (.ref z) name A R s) :=
  Meets.of_wp fun prog w A R s hs => by
    obtain ⟨hp, g, d, tk, os⟩ := s
    obtain ⟨hx, hs⟩ := hs
    have hT : (⟨hp, g, d, tk, os⟩ : Shared).TypeIs (.ref z) "zip" := ⟨_, hx, rfl⟩
    unfold Builtin.«object.__getattribute__»
    repeat (any_goals (first | assumption | wp_step))
    simp only [hname, Bool.false_eq_true, if_false]
    repeat (any_goals (first | assumption | wp_step))
    exact wpAny_raiseAttrError hs.1 hs.2 (attrMsg_fits (by decide +kernel) hsz)
theorem zdj {prog : Program} {w : World} {A : Around} {E : Value → Shared → Prop} {s : Shared} {z : Addr} {fs : Array Value} {sl : Array (Option Value)} {Q : Option Value → Shared → Prop} (hx : s.heap.get? z = some { cls := .type "zip", dict := none, data := .fields fs, slots := sl }) (hA : A.handled = none)
    (h : ∀ h' tk e, Heap.NewExcOf s.heap h' e "AttributeError" → Q none { s with heap := h', toks := tk }) : wpAny (model prog w) A (getAttr? (.ref z) "keys") Q E s := by
  obtain ⟨hp, g, d, tk, os⟩ := s
  have hT : ∀ tk', (⟨hp, g, d, tk', os⟩ : Shared).TypeIs (.ref z) "zip" := fun _ => ⟨_, hx, rfl⟩
  have f1 := sub_AttributeError
  have f3 := F.slot_zip_getattribute.lookup
  have f4 := F.slot_zip_getattribute.bind (.ref z)
  have f5 := zgF
  unfold getAttr? getAttrBy? getAttrBy
  repeat (any_goals (first | assumption | exact hT _ | ((with_reducible show wpAny _ _ (call (Value.builtin "zip.__getattribute__") _ _) _ _ _); refine call_meets F.slot_zip_getattribute (hT _) zeS (F.args_zip_getattribute_2 _ _) (zfA z fs sl "keys" _ zgG (by decide +kernel) (by size_fits)) ⟨hx, hA, fun h' tk' e hx' => ?_⟩) | wp_step))
  obtain ⟨t', u', he⟩ := hx'.there
  show wpAny _ _ (getattributeRaised _ _ _ _ _ _ _) _ _ _
  unfold getattributeRaised
  repeat (any_goals (first | assumption | wp_step))
  exact h _ _ _ hx'.of
end L2
namespace L2
open PySem PySem.Spec PyProof.Rows PySem.W
abbrev ZB (h : Heap) (z TI TO T : Addr) (f : Bool) : Prop := h.get? z = some { cls := .type "zip", dict := none, data := .fields #[rawInt T, .bool f, .bool false, .ref TI, .ref TO], slots := #[] }
theorem zc1 {M : Model} {A : Around} {E : Value → Shared → Prop} {s : Shared} {a : Addr} {Q : Option Obj → Shared → Prop} (h : Q (s.heap.get? a) s) : wpAny M A (loadIfAlive a) Q E s := fun Γ p _ => by
  unfold loadIfAlive
  rw [Sem.wp_loadIfAlive]
  simpa [Sem.wp] using h
section
variable {prog : Program} {w : World} {A : Around} {E : Value → Shared → Prop} {s : Shared} {z TI TO T i1 i2 t1 t2 : Addr} {k : Nat} {xs ys : Array Value} {x y a b : Value} {S1 S2 : Nat → Heap → Prop} {f : Bool} {o : Obj}
theorem zeT {Q : Bool → Shared → Prop} (hz : ZB s.heap z TI TO T f) (hT : s.heap.get? T = some o) (hQ : ∀ h', ZB h' z TI TO T true → Heap.SameBut z s.heap h' → Q false { s with heap := h' }) :
    wpAny (model prog w) A (Builtin.SmallTypes.ownedTupleIsFree (.ref z)) Q E s := by
  unfold Builtin.SmallTypes.ownedTupleIsFree
  refine wpAny_bind (wpAny_field hz rfl (x := .int T 0) rfl ?_)
  refine wpAny_bind (zc1 ?_)
  rw [Int.toNat_natCast, hT]
  simp only [Option.isNone_some, Bool.false_eq_true, if_false]
  refine wpAny_bind (wpAny_field hz rfl (x := .bool f) rfl ?_)
  cases f with
  | true =>
    rw [if_neg (by decide)]
    exact wpAny_pure (hQ _ hz ⟨rfl, fun _ _ => rfl⟩)
  | false =>
    rw [if_pos (by decide)]
    refine wpAny_bind (wpAny_setField_rec hz (by simp) fun h1 z1 e1 => wpAny_pure (hQ h1 z1 e1))
theorem zhF {Q : Value → Shared → Prop} (D : ZipApart z TI TO i1 i2 t1 t2) (U1 : Ste prog w i1 t1 xs S1) (U2 : Ste prog w i2 t2 ys S2) (hz : ZB s.heap z TI TO T f) (hT : s.heap.get? T = some o) (hTI : IsPair s.heap TI (.ref i1) (.ref i2))
    (q1 : S1 k s.heap) (q2 : S2 k s.heap) (hx : xs[k]? = some x) (hy : ys[k]? = some y)
    (hQ : ∀ h', ZB h' z TI TO T true → S1 (k + 1) h' → S2 (k + 1) h' → IsPair h' s.heap.objs.size x y → (∀ c o, c ≠ z → c ≠ i1 → c ≠ i2 → s.heap.get? c = some o → h'.get? c = some o) → Q (.ref s.heap.objs.size) { s with heap := h' }) :
    wpAny (model prog w) A (Builtin.«zip.__next__» ⟨[.ref z], []⟩) (fun fin s' => ∃ v, fin = .done (.ret v) ∧ Q v s') E s := by
  change wpAny _ _ (field (.ref z) 2 >>= _) _ _ _
  refine wpAny_bind (wpAny_field hz rfl (x := .bool false) rfl ?_)
  change wpAny _ _ (field (.ref z) 3 >>= _) _ _ _
  refine wpAny_bind (wpAny_field hz rfl (x := .ref TI) rfl (wpAny_bind (wpAny_seqItems hTI rfl ?_)))
  change wpAny _ _ (Builtin.SmallTypes.ownedTupleIsFree (.ref z) >>= _) _ _ _
  refine wpAny_bind (zeT hz hT fun h1 z1 e1 => ?_)
  rw [if_neg (by simp)]
  refine wpAny_bind ?_
  simp only [← Array.forIn_toList, List.forIn_cons, List.forIn_nil]
  refine wpAny_bind (wpAny_bind (wpAny_holding ?_))
  change wpAny _ _ (Builtin.SmallTypes.nextOf (.ref i1) >>= _) _ _ _
  refine wpAny_bind (U1.item (U1.by_same q1 e1 D.i1z D.l1z) hx fun h2 p2 e2 => wpAny_pure (wpAny_pure ?_))
  refine wpAny_bind (wpAny_bind (wpAny_holding ?_))
  change wpAny _ _ (Builtin.SmallTypes.nextOf (.ref i2) >>= _) _ _ _
  have r3 : S2 k h2 := U2.by_same (U2.by_same q2 e1 D.i2z D.l2z) e2 D.i12.symm D.l2i1
  refine wpAny_bind (U2.item r3 hy fun h4 p4 e4 => wpAny_pure (wpAny_pure (wpAny_pure ?_)))
  change wpAny _ _ (newTuple [x, y] >>= _) _ _ _
  refine wpAny_bind (wpAny_newTuple (hsz := by show 2 ≤ sizeLine; decide) (wpAny_pure ⟨_, rfl, ?_⟩))
  have sz : h4.objs.size = s.heap.objs.size := by rw [e4.1, e2.1, e1.1]
  have up : ∀ c o, c ≠ z → c ≠ i1 → c ≠ i2 → s.heap.get? c = some o → h4.get? c = some o := fun c o c1 c2 c3 e => e4.extBut _ _ c3 (e2.extBut _ _ c2 (e1.extBut _ _ c1 e))
  have ph : ∀ c o, h4.get? c = some o → (h4.push { cls := .type "tuple", data := .seq #[x, y] }).get? c = some o := fun c o e => Heap.get?_push_of_some _ e
  have z4 : ZB h4 z TI TO T true := e4.extBut _ _ D.i2z.symm (e2.extBut _ _ D.i1z.symm z1)
  have pT : IsPair (h4.push { cls := .type "tuple", data := .seq #[x, y] }) h4.objs.size x y := Heap.get?_push_size _ rfl
  have g1 : S1 (k + 1) h4 := U1.by_same p2 e4 D.i12 D.l1i2
  change Q (.ref h4.objs.size) _
  rw [sz] at pT ⊢
  exact hQ _ (ph _ _ z4) (U1.at_ g1 (fun o e => ph _ o e) fun o e => ph _ o e) (U2.at_ p4 (fun o e => ph _ o e) fun o e => ph _ o e) pT fun c o c1 c2 c3 e => ph c o (up c o c1 c2 c3 e)
theorem zhG {Q : Fin → Shared → Prop} (hh : A.handled = none) (D : ZipApart z TI TO i1 i2 t1 t2) (U1 : Ste prog w i1 t1 xs S1) (U2 : Ste prog w i2 t2 ys S2) (hz : ZB s.heap z TI TO T f) (hT : s.heap.get? T = some o) (hTI : IsPair s.heap TI (.ref i1) (.ref i2))
    (q1 : S1 k s.heap) (q2 : S2 k s.heap) (he : xs[k]? = none ∨ ys[k]? = none)
    (hE : ∀ h' e, (∀ c o, c ≠ z → c ≠ i1 → c ≠ i2 → s.heap.get? c = some o → h'.get? c = some o) → (∃ o, h'.get? e = some o ∧ o.cls = .type "StopIteration") → E (.ref e) { s with heap := h' }) :
    wpAny (model prog w) A (Builtin.«zip.__next__» ⟨[.ref z], []⟩) Q E s := by
  change wpAny _ _ (field (.ref z) 2 >>= _) _ _ _
  refine wpAny_bind (wpAny_field hz rfl (x := .bool false) rfl ?_)
  change wpAny _ _ (field (.ref z) 3 >>= _) _ _ _
  refine wpAny_bind (wpAny_field hz rfl (x := .ref TI) rfl (wpAny_bind (wpAny_seqItems hTI rfl ?_)))
  change wpAny _ _ (Builtin.SmallTypes.ownedTupleIsFree (.ref z) >>= _) _ _ _
  refine wpAny_bind (zeT hz hT fun h1 z1 e1 => ?_)
  rw [if_neg (by simp)]
  refine wpAny_bind ?_
  simp only [← Array.forIn_toList, List.forIn_cons, List.forIn_nil]
  refine wpAny_bind (wpAny_bind (wpAny_holding ?_))
  change wpAny _ _ (Builtin.SmallTypes.nextOf (.ref i1) >>= _) _ _ _
  have p1 := U1.by_same q1 e1 D.i1z D.l1z
  cases hx : xs[k]? with
  | none =>
    refine wpAny_bind (U1.stop hh p1 hx fun h2 e e2 ⟨oe, hoe, hce⟩ => ?_)
    exact hE h2 e (fun c o c1 c2 _ x => e2 _ _ c2 (e1.extBut _ _ c1 x)) ⟨oe, hoe, hce⟩
  | some x =>
    have hy : ys[k]? = none := by
      rcases he with h | h
      · rw [hx] at h; cases h
      · exact h
    refine wpAny_bind (U1.item p1 hx fun h2 p2 e2 => wpAny_pure (wpAny_pure ?_))
    refine wpAny_bind (wpAny_bind (wpAny_holding ?_))
    change wpAny _ _ (Builtin.SmallTypes.nextOf (.ref i2) >>= _) _ _ _
    have r3 : S2 k h2 := U2.by_same (U2.by_same q2 e1 D.i2z D.l2z) e2 D.i12.symm D.l2i1
    refine wpAny_bind (U2.stop hh r3 hy fun h4 e e4 ⟨oe, hoe, hce⟩ => ?_)
    exact hE h4 e (fun c o c1 c2 c3 x => e4 _ _ c3 (e2.extBut _ _ c2 (e1.extBut _ _ c1 x))) ⟨oe, hoe, hce⟩
end
end L2
namespace L2
open PySem PySem.Spec PyProof.Rows PySem.W
theorem zeU : entryFor table "dict.update.loop" = some Builtin.«dict.update.loop» := entryFor_of_fast (by kernel_rfl)
theorem zcF : plainId "dict.update.loop" = true := by decide +kernel
structure ZS (z TI TO i1 i2 a b : Addr) (xs ys : Array Value) (k : Nat) (h : Heap) : Prop where
  zi : (IsZip h z TI TO .none ∧ ∃ u v, IsPair h TO u v) ∨ ∃ T f o, ZB h z TI TO T f ∧ h.get? T = some o
  ti : IsPair h TI (.ref i1) (.ref i2)
  s1 : StT i1 a xs k h
  s2 : StT i2 b ys k h
section
variable {prog : Program} {w : World} {A : Around} {E : Value → Shared → Prop} {s : Shared} {z TI TO i1 i2 a b : Addr} {k : Nat} {xs ys : Array Value} {x y : Value}
theorem ZS.type (st : ZS z TI TO i1 i2 a b xs ys k s.heap) : s.TypeIs (.ref z) "zip" := by
  rcases st.zi with ⟨hz, _⟩ | ⟨T, f, o, hz, _⟩ <;> exact ⟨_, hz, rfl⟩
theorem zkO {Q : Option Value → Shared → Prop} (D : ZipApart z TI TO i1 i2 a b) (st : ZS z TI TO i1 i2 a b xs ys k s.heap) (hx : xs[k]? = some x) (hy : ys[k]? = some y)
    (hQ : ∀ h', ZS z TI TO i1 i2 a b xs ys (k + 1) h' → IsPair h' s.heap.objs.size x y → (∀ c o, c ∉ [z, TO, i1, i2] → s.heap.get? c = some o → h'.get? c = some o) → Q (some (.ref s.heap.objs.size)) { s with heap := h' }) :
    wpAny (model prog w) A (pyNext (.ref z)) Q E s := by
  unfold pyNext
  rcases st.zi with ⟨hz, u, v, hTO⟩ | ⟨T, f, o, hz, hT⟩
  · refine wpAny_bind (wpAny_attempt (wpAny_callSpecial?_slot (name := Str.ofString "__next__") st.type F.slot_zip_next (wpAny_call_entry F.slot_zip_next st.type F.entry_zip_next
      (zeL D (zaG D.l1i1) (zaG D.l2i2) hz st.ti hTO st.s1 st.s2 hx hy fun h1 z1 o1 f1 f2 pT kk => wpAny_pure ?_) (F.args_zip_next_1 _))))
    exact hQ h1 ⟨.inr ⟨_, false, _, z1, pT⟩, kk _ _ D.TIz D.TITO D.TIi1 D.TIi2 st.ti, f1, f2⟩ pT fun c o nc e => kk c o (fun q => nc (by simp [q])) (fun q => nc (by simp [q])) (fun q => nc (by simp [q])) (fun q => nc (by simp [q])) e
  · refine wpAny_bind (wpAny_attempt (wpAny_callSpecial?_slot (name := Str.ofString "__next__") st.type F.slot_zip_next (wpAny_call_entry F.slot_zip_next st.type F.entry_zip_next
      (zhF D (zaG D.l1i1) (zaG D.l2i2) hz hT st.ti st.s1 st.s2 hx hy fun h1 z1 f1 f2 pT kk => wpAny_pure ?_) (F.args_zip_next_1 _))))
    have hT' : ∃ o', h1.get? T = some o' := by
      by_cases e1 : T = z
      · exact ⟨_, by rw [e1]; exact z1⟩
      by_cases e2 : T = i1
      · obtain ⟨⟨o1, g1, _⟩, _⟩ := f1; exact ⟨o1, by rw [e2]; exact g1⟩
      by_cases e3 : T = i2
      · obtain ⟨⟨o1, g1, _⟩, _⟩ := f2; exact ⟨o1, by rw [e3]; exact g1⟩
      exact ⟨o, kk _ _ e1 e2 e3 hT⟩
    obtain ⟨o', hT'⟩ := hT'
    exact hQ h1 ⟨.inr ⟨T, true, o', z1, hT'⟩, kk _ _ D.TIz D.TIi1 D.TIi2 st.ti, f1, f2⟩ pT fun c o nc e => kk c o (fun q => nc (by simp [q])) (fun q => nc (by simp [q])) (fun q => nc (by simp [q])) e
theorem zkP {Q : Option Value → Shared → Prop} (hh : A.handled = none) (D : ZipApart z TI TO i1 i2 a b) (st : ZS z TI TO i1 i2 a b xs ys k s.heap) (he : xs[k]? = none ∨ ys[k]? = none)
    (hQ : ∀ h', (∀ c o, c ∉ [z, TO, i1, i2] → s.heap.get? c = some o → h'.get? c = some o) → Q none { s with heap := h' }) :
    wpAny (model prog w) A (pyNext (.ref z)) Q E s := by
  unfold pyNext
  rcases st.zi with ⟨hz, u, v, hTO⟩ | ⟨T, f, o, hz, hT⟩
  · refine wpAny_bind (wpAny_attempt (wpAny_callSpecial?_slot (name := Str.ofString "__next__") st.type F.slot_zip_next (wpAny_call_entry F.slot_zip_next st.type F.entry_zip_next
      (zeM hh D (zaG D.l1i1) (zaG D.l2i2) hz st.ti hTO st.s1 st.s2 he fun h1 e kk he => ?_) (F.args_zip_next_1 _))))
    obtain ⟨o, ho, hco⟩ := he
    refine wpAny_bind (wpAny_isInstance (T := "StopIteration") (b := true) ⟨o, ho, hco⟩ isSubtype_stop ?_)
    exact wpAny_pure (hQ h1 fun c o nc e => kk c o (fun q => nc (by simp [q])) (fun q => nc (by simp [q])) (fun q => nc (by simp [q])) (fun q => nc (by simp [q])) e)
  · refine wpAny_bind (wpAny_attempt (wpAny_callSpecial?_slot (name := Str.ofString "__next__") st.type F.slot_zip_next (wpAny_call_entry F.slot_zip_next st.type F.entry_zip_next
      (zhG hh D (zaG D.l1i1) (zaG D.l2i2) hz hT st.ti st.s1 st.s2 he fun h1 e kk he => ?_) (F.args_zip_next_1 _))))
    obtain ⟨o, ho, hco⟩ := he
    refine wpAny_bind (wpAny_isInstance (T := "StopIteration") (b := true) ⟨o, ho, hco⟩ isSubtype_stop ?_)
    exact wpAny_pure (hQ h1 fun c o nc e => kk c o (fun q => nc (by simp [q])) (fun q => nc (by simp [q])) (fun q => nc (by simp [q])) e)
end
end L2
namespace L2
open PySem PySem.Spec PyProof.Rows PySem.W
def putAll (ps : List (Key × V)) (kvs : List (Key × V)) : List (Key × V) := ps.foldl (fun m p => putK m p.1 p.2) kvs
structure Ap (d z TI TO i1 i2 a b : Addr) : Prop where
  z : d ≠ z
  TI : d ≠ TI
  TO : d ≠ TO
  i1 : d ≠ i1
  i2 : d ≠ i2
  a : d ≠ a
  b : d ≠ b
theorem nm4 {d z TO i1 i2 : Addr} (h1 : d ≠ z) (h2 : d ≠ TO) (h3 : d ≠ i1) (h4 : d ≠ i2) : d ∉ [z, TO, i1, i2] := by
  simp [h1, h2, h3, h4]
theorem nm5 {c d z TO i1 i2 : Addr} (h : c ∉ d :: [z, TO, i1, i2]) : c ∉ [z, TO, i1, i2] := fun q => h (List.mem_cons_of_mem _ q)
section
variable {prog : Program} {w : World} {A : Around} {R : Result → Shared → Prop} {z TI TO i1 i2 a b d : Addr} {xs ys : Array Value} {keys : List Key} {vals : List V}
theorem ZS.keep {k : Nat} {h h' : Heap} (st : ZS z TI TO i1 i2 a b xs ys k h) (P : Ap d z TI TO i1 i2 a b) (hs : Heap.SameBut d h h') (hd : ∃ o, h'.get? d = some o) : ZS z TI TO i1 i2 a b xs ys k h' := by
  have up : ∀ c o, c ≠ d → h.get? c = some o → h'.get? c = some o := fun c o n e => hs.extBut _ _ n e
  obtain ⟨⟨⟨o1, g1, r1⟩, ⟨p1, e1, t1⟩⟩, ⟨⟨o2, g2, r2⟩, ⟨p2, e2, t2⟩⟩⟩ := And.intro st.s1 st.s2
  refine ⟨?_, up _ _ P.TI.symm st.ti, ⟨⟨o1, up _ _ P.i1.symm g1, r1⟩, ⟨p1, up _ _ P.a.symm e1, t1⟩⟩, ⟨⟨o2, up _ _ P.i2.symm g2, r2⟩, ⟨p2, up _ _ P.b.symm e2, t2⟩⟩⟩
  rcases st.zi with ⟨hz, u, v, hTO⟩ | ⟨T, f, o, hz, hT⟩
  · exact .inl ⟨up _ _ P.z.symm hz, u, v, up _ _ P.TO.symm hTO⟩
  · by_cases e : T = d
    · obtain ⟨o', ho'⟩ := hd
      exact .inr ⟨T, f, o', up _ _ P.z.symm hz, by rw [e]; exact ho'⟩
    · exact .inr ⟨T, f, o, up _ _ P.z.symm hz, up _ _ e hT⟩
theorem dzl (hh : A.handled = none) (D : ZipApart z TI TO i1 i2 a b) (P : Ap d z TI TO i1 i2 a b) (hk : Vals (keys.map kV) xs.toList) (hv : Vals vals ys.toList) :
    ∀ (m k : Nat) (s : Shared) (kvs : List (Key × V)) (ws : List (Key × Value)), min xs.size ys.size - k = m → k ≤ min xs.size ys.size → ZS z TI TO i1 i2 a b xs ys k s.heap → KV kvs ws → s.heap.DictOf (mixKind prog w) d ws → kvs.length + m ≤ sizeLine →
    (∀ h' tk ws', KV (putAll ((keys.zip vals).drop k) kvs) ws' → h'.DictOf (mixKind prog w) d ws' → (∀ c o, c ∉ d :: [z, TO, i1, i2] → s.heap.get? c = some o → h'.get? c = some o) → R (.ok (.ret .none)) { s with heap := h', toks := tk }) →
    codeAny (model prog w) A (.builtin "dict.update.loop" ⟨[.ref d, .ref z, rawInt k, .none], []⟩) R s := by
  have lk : keys.length = xs.size := by have := hk.length; simpa using this
  have lv : vals.length = ys.size := by have := hv.length; simpa using this
  have hd1 : d ∉ [z, TO, i1, i2] := nm4 P.z P.TO P.i1 P.i2
  intro m
  induction m with
  | zero =>
    intro k s kvs ws hm hle st rel dd hsz hR
    refine codeAny_builtin zeU ?_
    rw [Around.under_plainId zcF _]
    show wpAny _ A.in1 (pyNext (.ref z) >>= _) _ _ s
    have hkm : k = min xs.size ys.size := by omega
    have he : xs[k]? = none ∨ ys[k]? = none := by
      rcases Nat.le_total xs.size ys.size with q | q
      · left; simp [hkm]; omega
      · right; simp [hkm]; omega
    refine wpAny_bind (zkP hh D st he fun h1 kk => ?_)
    have hdrop : (keys.zip vals).drop k = [] := by
      apply List.drop_eq_nil_of_le
      rw [List.length_zip, lk, lv, hkm]
      exact Nat.le_refl _
    rw [hdrop] at hR
    show wpAny _ A.in1 (Builtin.Dict.addKeywords d [] >>= _) _ _ _
    refine wpAny_bind (wpAny_pure ?_)
    refine wpAny_pure ?_
    exact hR h1 s.toks ws rel (let ⟨o, es, ep, ho, r⟩ := dd; ⟨o, es, ep, kk _ _ hd1 ho, r⟩) fun c o nc e => kk c o (nm5 nc) e
  | succ m ih =>
    intro k s kvs ws hm hle st rel dd hsz hR
    have hlt : k < min xs.size ys.size := by omega
    have hlx : k < xs.size := by omega
    have hly : k < ys.size := by omega
    refine codeAny_builtin zeU ?_
    rw [Around.under_plainId zcF _]
    show wpAny _ A.in1 (pyNext (.ref z) >>= _) _ _ s
    refine wpAny_bind (zkO D st (x := xs[k]) (y := ys[k]) (by simp [hlx]) (by simp [hly]) fun h1 st1 pT kk => ?_)
    have dd1 : h1.DictOf (mixKind prog w) d ws := let ⟨o, es, ep, ho, r⟩ := dd; ⟨o, es, ep, kk _ _ hd1 ho, r⟩
    obtain ⟨u, hu, ru⟩ := hk.get (i := k) (x := kV (keys[k]'(by omega))) (by simp [lk, hlx])
    obtain ⟨v, hv1, rv⟩ := hv.get (i := k) (x := vals[k]'(by omega)) (by simp [lv, hly])
    have eu : u = xs[k] := by simpa [hlx] using hu.symm
    have ev : v = ys[k] := by simpa [hly] using hv1.symm
    subst eu ev
    refine wpAny_bind (wpAny_holding ?_)
    refine wpAny_bind (wpAny_tryCatch ?_)
    unfold Builtin.Dict.pairItems
    refine wpAny_bind (wpAny_typeOf (show Shared.TypeIs _ (.ref s.heap.objs.size) "tuple" from ⟨_, pT, rfl⟩) ?_)
    rw [if_pos (by decide)]
    refine wpAny_bind (wpAny_seqItems pT rfl (wpAny_pure ?_))
    show wpAny _ A.in1 (holding [xs[k], ys[k]] (dictSet d xs[k] ys[k])) _ _ _
    have hws : ws.length ≤ sizeLine := by rw [← rel.length]; omega
    refine wpAny_holding (wpAny_dictSet_pairs (hsz := hws) (zg7 ru) dd1 fun h2 dd2 hs2 => ?_)
    refine wpAny_pure ⟨plainId_quiet zcF _, ?_⟩
    have hz2 : (putK kvs (keys[k]'(by omega)) (vals[k]'(by omega))).length + m ≤ sizeLine := by have := zaX kvs (keys[k]'(by omega)) (vals[k]'(by omega)); omega
    refine ih (k + 1) { s with heap := h2, toks := s.toks + 1 } _ _ (by omega) (by omega) (st1.keep P hs2 (let ⟨o, _, _, ho, _⟩ := dd2; ⟨o, ho⟩)) (rel.put _ rv) dd2 hz2 fun h' tk ws' rel' dd' kk' => ?_
    refine hR h' tk ws' ?_ dd' fun c o nc e => kk' c o nc (hs2.extBut _ _ (fun q => nc (by simp [q])) (kk c o (nm5 nc) e))
    have hzip : k < (keys.zip vals).length := by rw [List.length_zip]; omega
    rw [List.drop_eq_getElem_cons hzip]
    simpa [putAll] using rel'
end
end L2
namespace L2
open PySem PySem.Spec PyProof.Rows PySem.W
section
variable {prog : Program} {w : World} {A : Around} {E : Value → Shared → Prop} {s : Shared} {z TI TO i1 i2 a b : Addr} {xs ys : Array Value} {keys : List Key} {vals : List V}
theorem ZS.push {k : Nat} {h h' : Heap} (st : ZS z TI TO i1 i2 a b xs ys k h) (up : ∀ c o, h.get? c = some o → h'.get? c = some o) : ZS z TI TO i1 i2 a b xs ys k h' := by
  obtain ⟨⟨⟨o1, g1, r1⟩, ⟨p1, e1, t1⟩⟩, ⟨⟨o2, g2, r2⟩, ⟨p2, e2, t2⟩⟩⟩ := And.intro st.s1 st.s2
  refine ⟨?_, up _ _ st.ti, ⟨⟨o1, up _ _ g1, r1⟩, ⟨p1, up _ _ e1, t1⟩⟩, ⟨⟨o2, up _ _ g2, r2⟩, ⟨p2, up _ _ e2, t2⟩⟩⟩
  rcases st.zi with ⟨hz, u, v, hTO⟩ | ⟨T, f, o, hz, hT⟩
  · exact .inl ⟨up _ _ hz, u, v, up _ _ hTO⟩
  · exact .inr ⟨T, f, o, up _ _ hz, up _ _ hT⟩
theorem zkQ {Q : Value → Shared → Prop} (hh : A.handled = none) (D : ZipApart z TI TO i1 i2 a b) (P : Ap s.heap.objs.size z TI TO i1 i2 a b) (hk : Vals (keys.map kV) xs.toList) (hv : Vals vals ys.toList) (st : ZS z TI TO i1 i2 a b xs ys 0 s.heap) (hz : IsZip s.heap z TI TO .none) (hsz : min xs.size ys.size ≤ sizeLine)
    (h : ∀ h' tk ws, KV (putAll (keys.zip vals) []) ws → h'.DictOf (mixKind prog w) s.heap.objs.size ws → (∀ c o, c ∉ [z, TO, i1, i2] → s.heap.get? c = some o → h'.get? c = some o) → Q (.ref s.heap.objs.size) { s with heap := h', toks := tk }) :
    wpAny (model prog w) A (call (.type "dict") [.ref z]) Q E s := by
  refine callType_codes (Q₁ := fun obj s₁ => obj = .ref s.heap.objs.size ∧ s₁ = { s with heap := s.heap.push { cls := .type "dict", data := .dict #[] } }) F.kt_called_dict (F.kt_typeCall_dict_1 _) F.entry_dict_init (kt_code_dict_new _ ⟨rfl, rfl⟩) ?_
  rintro obj s₁ ⟨rfl, rfl⟩
  have hnew : (s.heap.push { cls := .type "dict", data := .dict #[] }).DictOf (mixKind prog w) s.heap.objs.size [] := Heap.DictOf.new s.heap
  have up : ∀ c o, s.heap.get? c = some o → (s.heap.push { cls := .type "dict", data := .dict #[] }).get? c = some o := fun c o e => Heap.get?_push_of_some _ e
  refine ⟨hnew.typeIs, F.args_dict_init_2 _ _, ?_⟩
  unfold Builtin.«dict.__init__»
  refine wpAny_bind ?_
  unfold Builtin.Dict.selfAndRest
  refine wpAny_bind (wpAny_notOrdered_dict hnew.typeIs ?_)
  show wpAny _ _ (pure (s.heap.objs.size, [Value.ref z])) _ _ _
  refine wpAny_pure ?_
  show wpAny _ _ (Builtin.Dict.updateFrom "dict.__init__" s.heap.objs.size (.ref z) [] .none) _ _ _
  unfold Builtin.Dict.updateFrom
  refine wpAny_bind (wpAny_typeOf (show Shared.TypeIs _ (.ref z) "zip" from ⟨_, up _ _ hz, rfl⟩) ?_)
  rw [if_pos (by decide)]
  refine wpAny_bind (zdj (up _ _ hz) (by first | exact hh | (show A.handled = none; exact hh)) fun h1 tk1 e1 nx => ?_)
  rw [if_pos (show (none : Option Value).isNone = true from rfl)]
  refine wpAny_bind (wpAny_rule ?_)
  refine wpAny_bind (wpAny_pyIter_zip (nx.keeps _ _ (up _ _ hz)) ?_)
  refine wpAny_pure ⟨plainId_quiet zcF _, ?_⟩
  refine dzl (A := A.in1) (d := s.heap.objs.size) (show A.handled = none from hh) D P hk hv (min xs.size ys.size) 0 { s with heap := h1, toks := tk1 } [] [] rfl (Nat.zero_le _) ((st.push up).push nx.keeps) .nil (let ⟨o, es, ep, ho, r⟩ := hnew; ⟨o, es, ep, nx.keeps _ _ ho, r⟩) (by simpa using hsz) fun h' tk ws rel dd kk => ?_
  refine ⟨rfl, h h' tk ws (by simpa using rel) dd fun c o nc e => kk c o ?_ (nx.keeps _ _ (up _ _ e))⟩
  intro q
  rcases List.mem_cons.mp q with q | q
  · exact absurd (Heap.lt_size e) (by rw [q]; exact Nat.lt_irrefl _)
  · exact nc q
end
theorem zhH : bootBuiltins "dict" = some (.type "dict") := by decide +kernel
def tDZ (K : Frag) (ta : TA) : TE := fun σ H Q => ta σ H fun vs H1 => ∃ (a b : Addr) (keys : List Key) (ys : List V), vs = [.ref a, .ref b] ∧ SqT K H1 a (keys.map kV) ∧ SqT K H1 b ys ∧ ∀ q, H1 q = none → Q (.ref q) (upd H1 q (.dK (putAll (keys.zip ys) [])))
theorem zcG : ∀ (ps : List (Key × V)) (kvs : List (Key × V)), (putAll ps kvs).length ≤ kvs.length + ps.length
  | [], kvs => by simp [putAll]
  | p :: ps, kvs => by
    have h1 := zcG ps (putK kvs p.1 p.2)
    have h2 := zaX kvs p.1 p.2
    show (putAll ps (putK kvs p.1 p.2)).length ≤ _
    simp only [List.length_cons]
    omega
theorem zgH {X : Cx} {x y : Expr} {ta : TA} {p pos p0 pos0 : Pos} (hc : X.calm = true) (hg0 : Gl X "dict") (hm0 : X.mg "dict" = none) (hg : Gl X "zip") (hm : X.mg "zip" = none) (ha : PA X [x, y] ta) (hs : starEach [x, y] X.env = [(false, eval x X.env), (false, eval y X.env)] := by rfl) (hs2 : starEach [y] X.env = [(false, eval y X.env)] := by rfl) :
    PE X (.Call (.Name "dict" p0) [.Call (.Name "zip" p) [x, y] [] pos] [] pos0) (tDZ X.K ta) := by
  intro pins s σ H Q I h
  refine Call_ (zcA I hg0 hm0 zhH (PyProof.Rows.callWith_type1 ?_ rfl rfl))
  show wpAny _ _ (spliced ((false, eval (.Call (.Name "zip" p) [x, y] [] pos) X.env) :: backTo pos0 (starEach [] X.env))) _ _ s
  refine Calls.spliced_cons ?_
  refine Call_ (zcA I hg hm zfW (PyProof.Rows.callWith_type1 (thn (ha pos pins s σ H _ I h) fun us s1 ⟨vs, H1, I1, r1, q1⟩ => ?_) (by rw [hs, hs2]) (by rw [hs2]; rfl)))
  obtain ⟨a, b, keys, ys, e, hq1, hq2, q⟩ := q1
  subst e
  obtain ⟨u, v, rfl, ru, rv⟩ := zj6 r1
  obtain rfl : u = Value.ref a := ru
  obtain rfl : v = Value.ref b := rv
  obtain ⟨its1, rv1, p1, len1⟩ := I1.tuple hq1
  obtain ⟨its2, rv2, p2, len2⟩ := I1.tuple hq2
  refine zhi p1 p2 fun st => Calls.spliced_nil ?_
  have kk : ∀ c o, s1.heap.get? c = some o → (zt5 s1.heap a b).get? c = some o := fun c o e => Heap.get?_push_of_some _ (Heap.get?_push_of_some _ (Heap.get?_push_of_some _ (Heap.get?_push_of_some _ (Heap.get?_push_of_some _ e))))
  have sz5 : (zt5 s1.heap a b).objs.size = s1.heap.objs.size + 5 := by
    have z1 : (zt1 s1.heap a).objs.size = s1.heap.objs.size + 1 := Heap.size_push ..
    have z2 : (zt2 s1.heap a b).objs.size = s1.heap.objs.size + 2 := by rw [Heap.size_push, z1]
    have z3 : (zt3 s1.heap a b).objs.size = s1.heap.objs.size + 3 := by rw [Heap.size_push, z2]
    have z4 : (zt4 s1.heap a b).objs.size = s1.heap.objs.size + 4 := by rw [Heap.size_push, z3]
    rw [Heap.size_push, z4]
  have la : a < s1.heap.objs.size := let ⟨o, g, _⟩ := p1; Heap.lt_size g
  have lb : b < s1.heap.objs.size := let ⟨o, g, _⟩ := p2; Heap.lt_size g
  have D : ZipApart (s1.heap.objs.size + 4) (s1.heap.objs.size + 2) (s1.heap.objs.size + 3) s1.heap.objs.size (s1.heap.objs.size + 1) a b := by
    generalize hn : s1.heap.objs.size = n at la lb ⊢
    have la' : @LT.lt Nat _ a n := la
    have lb' : @LT.lt Nat _ b n := lb
    constructor <;> (intro q; have q' := (show @Eq Nat _ _ from q); omega)
  have P : Ap (zt5 s1.heap a b).objs.size (s1.heap.objs.size + 4) (s1.heap.objs.size + 2) (s1.heap.objs.size + 3) s1.heap.objs.size (s1.heap.objs.size + 1) a b := by
    rw [sz5]
    generalize hn : s1.heap.objs.size = n at la lb ⊢
    have la' : @LT.lt Nat _ a n := la
    have lb' : @LT.lt Nat _ b n := lb
    constructor <;> (intro q; have q' := (show @Eq Nat _ _ from q); omega)
  obtain ⟨hz, hTI, ⟨u0, v0, hTO⟩, hi1, hi2⟩ := st
  have up1 : IsTup (zt5 s1.heap a b) a its1.toArray := let ⟨o, g, r⟩ := p1; ⟨o, kk _ _ g, r⟩
  have up2 : IsTup (zt5 s1.heap a b) b its2.toArray := let ⟨o, g, r⟩ := p2; ⟨o, kk _ _ g, r⟩
  have l1 : keys.length ≤ sizeLine := by
    rw [List.length_map] at len1
    exact len1
  refine zkQ (s := { s1 with heap := zt5 s1.heap a b }) (xs := its1.toArray) (ys := its2.toArray) (keys := keys) (vals := ys) (I.ok.hd hc) D P (by simpa using rv1) (by simpa using rv2) ⟨.inl ⟨hz, u0, v0, hTO⟩, hTI, ⟨hi1, up1⟩, ⟨hi2, up2⟩⟩ hz ?_ fun h' tk ws rel dd kk' => ?_
  · have := rv1.length
    rw [List.length_map] at this
    simp only [List.size_toArray]
    omega
  have keep : ∀ c o, s1.heap.get? c = some o → h'.get? c = some o := fun c o e => by
    have lt : @LT.lt Nat _ c s1.heap.objs.size := Heap.lt_size e
    refine kk' c o ?_ (kk c o e)
    generalize hn : s1.heap.objs.size = n at lt ⊢
    simp only [List.mem_cons, List.not_mem_nil, or_false, not_or]
    refine ⟨?_, ?_, ?_, ?_⟩ <;> (intro q; have q' := (show @Eq Nat c _ from q); omega)
  have hle : s1.heap.objs.size ≤ (zt5 s1.heap a b).objs.size := by rw [sz5]; exact Nat.le_add_right _ _
  refine ⟨.ref (zt5 s1.heap a b).objs.size, _, I1.laid (a := (zt5 s1.heap a b).objs.size) (o := .dK (putAll (keys.zip ys) [])) (t' := tk) keep hle ?_, rfl, q _ (I1.hok.fresh hle)⟩
  refine zha ?_ ?_ rel dd
  · have := zcG (keys.zip ys) []
    rw [List.length_zip] at this
    simp only [List.length_nil, Nat.zero_add] at this
    omega
  · refine beq_eq_false_iff_ne.mpr (Ne.symm (Nat.ne_of_lt ?_))
    exact Nat.lt_of_lt_of_le I1.big hle
end L2
namespace L2
open PySem PySem.Spec PyProof.Rows PySem.W
def sTryEx (C : Addr) (j : Nat) (tv : TX) (tsu : TS) : TS := fun D σ H => tv σ H (fun _ H1 => D.nx σ H1)
  (fun c d H1 => c = .ref C ∧ ∀ a, H1 a = none → tsu { nx := fun σ' H' => D.nx (σ'.set j none) H', rt := D.rt } (σ.set j (some (.ref a))) (upd H1 a (exC C d a)))
theorem ziW {X : Cx} {C : Addr} {j : Nat} {n cls : Str} {value : Expr} {tv : TX} {tsu : TS} {b0 : Stmt} {suite : List Stmt} {ap cp hp pos : Pos} (hN : X.N.Nodup) (hj : X.N[j]? = some n) (hn : X.env.scope.names.lookup n = some .local)
    (hv : PX X value tv) (hg : Gl X cls) (hm : X.mg cls = some (.ref C)) (hC : ExOf X.K C) (hsu : ∀ a, PSs (X.caught a) (b0 :: suite) tsu) (hst : X.stack = X.env :: X.outer) (hfr : X.env.frame = some X.env.locals)
    (hsw : swapsWith value none ap.line X.env = pure false := by rfl) (hdb : (cls == ("__debug__" : Str)) = false := by decide) :
    PS X (.Try [.Expr value ap] [.ExceptHandler (some (.Name cls cp)) (some n) (b0 :: suite) hp] [] [] pos) (sTryEx C j tv tsu) := by
  intro pins s σ H D I h
  rw [arm_exec_Try]
  refine wpAny_bind (wpAny_standAt (wpAny_tryStmt_except (wpAny_execs_cons (wpAny_Expr_any (wpAny_mono (hv pins s σ H _ _ I h) (fun v s1 ⟨y, H1, I1, r1, q1⟩ => ?_) (fun u s1 ⟨a, C', d, H1, eu, I1, fly, ec, q⟩ => ?_)) I.quiet hsw))))
  · exact wpAny_execs_nil (wpAny_execs_nil ⟨_, H1, I1, q1⟩)
  subst eu
  cases ec
  refine zfU I1 I.ok.frames hst hfr fly fun s2 T I2 x2 ne tb2 oa oT => zef I2 x2 ne tb2 oa oT fun s3 I3 x3 tb3 => ?_
  refine wpAny_handleBy_cons (codeAny_handlers_test ?_) (by intro q; cases q)
  refine zdt (X := X.caught a) (Inv.caught I3 a) hg hm ?_ hdb
  obtain ⟨⟨nm, q', N, bs, bm, hdct, sn, sub, ab, col, dd, k0, k1, k2, k3, k5, hl, ht, _⟩, _⟩ := hC
  have hCl := I3.kIn _ _ hl
  have hbase : bm.contains (.type "BaseException") = true := (tail_of_in I3.kIn ht).hasType (by decide)
  obtain ⟨oe, vs, he, hcls, _⟩ := id x3
  refine wpAny_excMatches_sub_self (h := s3.heap) (g := s3.gens) (d := s3.drawn) (t := s3.toks) (os := s3.os) hCl he hcls hbase ?_
  refine codeAny_handlers_suite_as (zef I3 x3 ne tb3 oa oT fun s4 I4 x4 tb4 => ?_)
  have I5 := Inv.catch I4 oa x4
  refine zcz I5 hN hj (.inl hn) (v := .ref a) rfl (fun s5 I6 => ?_) (.inr hn)
  refine wpAny_mono (hsu a pins s5 _ _ _ (Inv.caught I6 a) (q a oa.1)) (fun f s6 z => ?_) fun _ _ z => z.elim
  cases f with
  | next =>
    obtain ⟨σ', H', I7, q7⟩ := z
    exact zhg (Inv.uncaught I.ok I7) hN hj hn fun s7 I8 => ⟨_, H', I8, q7⟩
  | brk => obtain ⟨_, _, _, z⟩ := z; exact z.elim
  | cont => obtain ⟨_, _, _, z⟩ := z; exact z.elim
  | ret u =>
    obtain ⟨v, σ', H', I7, r7, q7⟩ := z
    exact zhg (Inv.uncaught I.ok I7) hN hj hn fun s7 I8 => ⟨v, _, H', I8, r7, q7⟩
end L2
namespace Mi
open PySem L2 PySem.W PySem.Spec
section
variable {X : Cx} {K : Frag} {mg : Str → Option Value} {Er : XK} {e o : Expr} {es : List Expr} {pos p apos : Pos} {k : Nat} {x : Str} {m : List PV → Mo PV} {fs : PEnv → Mo (List PV)} {fo fa : PEnv → Mo PV}
theorem zhI {pl : Sem Bool} {name : Str} {ta : TE} (he : PE X.nox o ta) (hr : Room k X.A)
    (ht : eval (.Call (.Attribute o name apos) [] [] pos) X.env = (do
      let ov ← eval o X.env
      standAt apos.atName
      let (f, first) ← holding [ov] (getMethod ov name pl)
      callWith pos f first (backTo pos (starEach [] X.env)) (backToKw pos (keywordEach [] X.env))) := by rfl) :
    PX X (.Call (.Attribute o name apos) [] [] pos) (tMethDX X name k ta tNil) := by
  intro pins s σ H Q E I h
  refine PySem.W.methodCall_KW (pl := pl) (wpAny_mono (he pins s σ H _ (I.wish _) h) (fun u s1 ⟨x, H1, I1, rx, a, C, dx, fs, f, fd, ps, sp, ex, ea, l, c, hm, hb, F, q⟩ => ?_) fun _ _ z => z.elim) ht
  subst ex
  obtain rfl : u = Value.ref a := rx
  refine zcX I1.unwish ea c hm l ?_
  exact PySem.W.callWith_K0 (first := [.ref a]) I1.unwish.kIn hm.kp (zko (us := [.ref a]) (vs := [.ref a]) F hr hb .nil I1.unwish (.cons rfl .nil) (by rw [List.append_nil]; exact q))
theorem ziX {pl : Sem Bool} {name : Str} {tab : Str → Option (List PV → Mo PV)} (hT : ∀ c m, tab c = some m → MOk X.prog X.w X.K X.mg X.base c name k m) (ho : ME X.nox E0 o fo) (hr : Room k X.A)
    (hev : eval (.Call (.Attribute o name apos) [] [] pos) X.env = (do
      let ov ← eval o X.env
      standAt apos.atName
      let (f, first) ← holding [ov] (getMethod ov name pl)
      callWith pos f first (backTo pos (starEach [] X.env)) (backToKw pos (keywordEach [] X.env))) := by rfl) :
    MX X (.Call (.Attribute o name apos) [] [] pos) (xMeth name tab fo aNil) :=
  PX.weak (zhI (pl := pl) ho hr hev) fun σ H Q E ⟨env, st, ρ, re, rs, h⟩ => ⟨env, st, ρ, re, rs, zbo h fun ρ1 H1 x st1 e1 s1 h1 v rv => by
    obtain ⟨n, c, ks, xs, m, rfl, hn, hk, hc, h1⟩ := zc0 h1
    obtain ⟨C, f, fd, ps, hC, cl, hm, hb, F⟩ := hT c m hc
    obtain ⟨p, rfl, hp⟩ := rv
    obtain ⟨C', dx, vs, hC', hH, hR, hl⟩ := s1.addr hn hp
    rw [hC] at hC'
    cases hC'
    exact ⟨p, C, dx, _, f, fd, ps, _, rfl, hH, zbw hk, cl, hm, hb, F, ⟨[.ref n], st1, ρ1, ⟨_, _, rfl, ⟨p, rfl, hp⟩, rfl⟩, s1, h1⟩⟩⟩
def tryFl (j : Nat) : Fl → Mo Fl
  | .nx e, st => .ok (.nx (e.set j none)) st
  | .rt x, st => .ok (.rt x) st
  | _, _ => .stuck
def sTryE (j : Nat) (cn : Str) (fv : PEnv → Mo PV) (suite : PEnv → Mo Fl) : PEnv → Mo Fl := fun env st => match fv env st with
  | .ok _ st1 => .ok (.nx env) st1
  | .err c ks xs st1 => if c = cn ∧ ks ≠ [] then (noErr (suite (env.set j (some (.exo c ks xs))) st1)).bind (tryFl j) else .stuck
  | .stuck => .stuck
theorem zkR (j : Nat) {n cn : Str} {value : Expr} {fv : PEnv → Mo PV} {gs : PEnv → Mo Fl} {b0 : Stmt} {suite : List Stmt} {ap cp hp : Pos} (hC : ∃ C, X.mg cn = some (.ref C) ∧ ExOf X.K C) (hv : MX X value fv) (hsu : ∀ a, MSs (X.caught a) E0 (b0 :: suite) gs) (hN : X.N.Nodup)
    (hst : X.stack = X.env :: X.outer := by rfl) (hfr : X.env.frame = some X.env.locals := by rfl) (hj : X.N[j]? = some n := by rfl) (hn : X.env.scope.names.lookup n = some .local := by rfl) (hg : Gl X cn := by rfl)
    (hsw : swapsWith value none ap.line X.env = pure false := by rfl) (hdb : (cn == ("__debug__" : Str)) = false := by decide) :
    MS X Er (.Try [.Expr value ap] [.ExceptHandler (some (.Name cn cp)) (some n) (b0 :: suite) hp] [] [] pos) (sTryE j cn fv gs) := by
  obtain ⟨C, hm, hC⟩ := hC
  exact PS.weak (ziW (tsu := sM X.K X.mg E0 gs) hN hj hn hv hg hm hC hsu hst hfr hsw hdb) fun D σ H ⟨env, st, ρ, re, rs, h⟩ => by
    refine ⟨env, st, ρ, re, rs, ?_⟩
    unfold sTryE at h
    cases hr : fv env st with
    | ok y st1 =>
      rw [hr] at h
      exact fun ρ1 H1 e1 s1 v rv => h ρ1 H1 e1 s1 _ (re.ext e1)
    | stuck => rw [hr] at h; exact False.elim h
    | err c ks xs st1 =>
      simp only [hr] at h
      obtain ⟨⟨hcn, hk⟩, h2⟩ := Out.ifp h
      subst hcn
      intro ρ1 H1 Cv d e1 s1 xr
      obtain ⟨C', rfl, hm', hd⟩ := xr
      rw [hm] at hm'
      cases hm'
      refine ⟨rfl, fun q hq => ?_⟩
      rcases hd with ⟨hk', _⟩ | ⟨dd, vs, rfl, hdd, hR, hl⟩
      · exact absurd hk' hk
      · have eq : Ext ρ1 H1 ρ1 (upd H1 q (exC C (some dd) q)) := Ext.new hq
        refine ⟨env.set j (some (.exo c ks xs)), st1, ρ1, ((re.ext e1).ext eq).set j ⟨q, C, dd, vs, rfl, hm, zu, eq.imm _ _ hdd rfl, Rs.ext eq xs hR, hl⟩, s1.new hq, zbo (Out.ext h2 (e1.trans eq)) fun ρ2 H2 fl st2 e2 s2 h2 => ?_⟩
        cases fl with
        | nx e => exact fun σ2 r2 => Out.fl (D := D) (fl := .nx (e.set j none)) (E := Er) h2 s2 _ (r2.unset j)
        | rt y => exact fun v2 r2 => Out.fl (D := D) (fl := .rt y) (E := Er) h2 s2 _ r2
        | _ => exact False.elim h2
end
end Mi
namespace Mi
open PySem L2 PySem.W PySem.Spec
section
variable {X : Cx} {K : Frag} {mg : Str → Option Value} {Er : XK} {e o : Expr} {es : List Expr} {pos p apos : Pos} {fs : PEnv → Mo (List PV)} {fo fa : PEnv → Mo PV}
def oPop : PV → Mo PV
  | .ref n, st => withL st n fun xs => match xs[xs.length - 1]? with
    | some y => .ok y (st.set n (.lst xs.dropLast))
    | none => .stuck
  | _, _ => .stuck
theorem Rs.dropLast : ∀ {ρ : List Addr} {H : Hp} {xs : List PV} {vs : List V}, Rs K mg ρ H xs vs → Rs K mg ρ H xs.dropLast vs.dropLast := by
  intro ρ H xs vs h
  rw [List.dropLast_eq_take, List.dropLast_eq_take, h.len]
  exact h.take _
theorem zmt {cpos : Pos} (ho : ME X Er o fo) (hbase : attributeBase o "pop" X.env (eval o X.env) = eval o X.env := by rfl) (hline : (apos.endLine == cpos.line) = true := by rfl) : ME X Er (.Call (.Attribute o "pop" apos) [] [] cpos) (mUn oPop fo) :=
  PE.weak (zlS PySem.F.plainAttrs_list PySem.F.slot_list_pop PySem.F.type_list_pop zlU ho hbase hline) fun σ H Q ⟨env, st, ρ, re, rs, h⟩ => ⟨env, st, ρ, re, rs, h.then fun ρ1 H1 x st1 e1 s1 h1 v rv => by
    cases x with
    | ref n =>
      obtain ⟨xs, hn, h1⟩ := zJ h1
      obtain ⟨a, vs, rfl, ha, k1, k2⟩ := R.refL s1 rv hn
      cases hy : xs[xs.length - 1]? with
      | none => simp only [hy] at h1; exact False.elim h1
      | some y =>
        simp only [hy] at h1
        obtain ⟨w, hw, rw'⟩ := k2.get hy
        have ew : Ext ρ1 H1 ρ1 (upd H1 a (.lst vs.dropLast)) := Ext.write k1 rfl
        refine ⟨.inl ⟨rfl, vs, SqL.of k1⟩, a, vs, w, rfl, rfl, k1, by rw [← k2.len]; exact hw, h1 ρ1 _ ew (s1.write ha ew ⟨_, zu, Rs.ext ew _ k2.dropLast⟩) _ (R.ext ew y rw')⟩
    | _ => exact False.elim h1⟩
def augGet (f : Str) (ins : Str → Bool) (o : PV) (st : Sto) (k : Nat → Str → Int → Res Fl) : Res Fl := match o with
  | .ref n => withI st n fun c ks xs => if ins c = true then match (ks.zip xs).lookup f with
    | some (.int i) => k n c i
    | _ => .stuck
    else .stuck
  | _ => .stuck
def augPut (f : Str) (n : Nat) (c : Str) (i : Int) (y : PV) (env : PEnv) (st : Sto) : Res Fl := match y with
  | .int j => withI st n fun c' ks xs => if c' = c ∧ ks.length < 1000 then .ok (.nx env) (st.set n (.ins c (putK f (.int (i + j)) ks xs).1 (putK f (.int (i + j)) ks xs).2)) else .stuck
  | _ => .stuck
def sFldAdd (f : Str) (ins : Str → Bool) (fo fv : PEnv → Mo PV) : PEnv → Mo Fl := fun env st => (fo env st).bind fun o st1 => augGet f ins o st1 fun n c i => (fv env st1).bind fun y st2 => augPut f n c i y env st2
theorem zhJ {f : Str} {ins exc : Str → Bool} {tpos : Pos} (F : FldF X.K X.mg f ins exc) (ho : ME X Er o fo) (he : ME X Er e fa) : MS X Er (.AugAssign (.Attribute o f tpos) .Add e pos) (sFldAdd f ins fo fa) :=
  PS.weak (zgX ho he zlK) fun D σ H ⟨env, st, ρ, re, rs, h⟩ => ⟨env, st, ρ, re, rs, h.then fun ρ1 H1 x st1 e1 s1 h1 v rv => by
    cases x with
    | ref n =>
      obtain ⟨c, ks, xs, hn, h1⟩ := zcE h1
      obtain ⟨hc, h1⟩ := Out.ifp h1
      cases hl : (ks.zip xs).lookup f with
      | none => simp only [hl] at h1; exact False.elim h1
      | some y =>
        cases y with
        | int i =>
          simp only [hl] at h1
          obtain ⟨p, rfl, hp⟩ := rv
          obtain ⟨C', dx, vs, hC', hH, hR, hlen⟩ := s1.addr hn hp
          obtain ⟨C, hC, cl, na⟩ := F.i c hc
          rw [hC] at hC'
          cases hC'
          obtain ⟨v, hv, rv⟩ := zca hR hl
          cases rv
          refine ⟨p, _, dx, _, _, rfl, hH, cl, na, hv, env, st1, ρ1, re.ext e1, s1, h1.then fun ρ2 H2 y st2 e2 s2 h2 w rw => ?_⟩
          cases y with
          | int j =>
            obtain ⟨c2, ks2, xs2, hn2, h2⟩ := zcE h2
            obtain ⟨⟨hcc, hk2⟩, h2⟩ := Out.ifp h2
            subst hcc
            cases rw
            have hp2 := e2.get hp
            obtain ⟨C2, dx2, vs2, hC2, hH2, hR2, hl2⟩ := s2.addr hn2 hp2
            rw [hC] at hC2
            cases hC2
            obtain ⟨ws, k1, k2, k3⟩ := zhq (f := f) (x := PV.int (i + j)) (v := V.int (i + j)) (K := X.K) (mg := X.mg) (ρ := ρ2) (H := H2) rfl hl2 hR2
            refine ⟨i, j, rfl, rfl, dx2, _, hH2, ?_, ?_⟩
            · rw [List.length_zip, ← hl2]; omega
            · have ew : Ext ρ2 H2 ρ2 (upd H2 p (.ins C' dx2 (putF f (V.int (i + j)) (ks2.zip vs2)))) := Ext.write hH2 rfl
              exact h2 ρ2 _ ew (s2.write hp2 ew ⟨_, dx2, ws, hC, by rw [zu, k1], Rs.ext ew _ k2, k3⟩) σ (((re.ext e1).ext e2).ext ew)
          | _ => exact False.elim h2
        | _ => simp only [hl] at h1; exact False.elim h1
    | _ => exact False.elim h1⟩
def strsOf : List PV → Option (List Str)
  | [] => some []
  | .str z :: r => (strsOf r).map (z :: ·)
  | _ :: _ => none
def dPuts : List (Str × PV) → List Str → List PV → List Str × List PV
  | [], ks, xs => (ks, xs)
  | q :: r, ks, xs => dPuts r (dPut q.1 q.2 ks xs).1 (dPut q.1 q.2 ks xs).2
theorem zf3 {ρ : List Addr} {H : Hp} : ∀ {xs : List PV} {zs : List Str} {vs : List V}, strsOf xs = some zs → Rs K mg ρ H xs vs → vs = (zs.map Sum.inr : List Key).map kV
  | [], zs, vs, e, h => by cases e; cases h; rfl
  | .str z :: r, zs, vs, e, h => by
    simp only [strsOf, Option.map_eq_some_iff] at e
    obtain ⟨zr, e1, rfl⟩ := e
    obtain ⟨v, r', rfl, h1, h2⟩ := h
    cases h1
    rw [zf3 e1 h2]
    rfl
  | .non :: _, _, _, e, _ => by cases e
  | .bl _ :: _, _, _, e, _ => by cases e
  | .int _ :: _, _, _, e, _ => by cases e
  | .ty _ :: _, _, _, e, _ => by cases e
  | .tup _ :: _, _, _, e, _ => by cases e
  | .frl _ :: _, _, _, e, _ => by cases e
  | .ref _ :: _, _, _, e, _ => by cases e
  | .fn _ :: _, _, _, e, _ => by cases e
  | .kd _ _ :: _, _, _, e, _ => by cases e
  | .exo _ _ _ :: _, _, _, e, _ => by cases e
theorem zfB {ρ : List Addr} {H : Hp} : ∀ {zs : List Str} {ys : List PV} {us : List V} {ks : List Str} {xs : List PV} {vs : List V}, Rs K mg ρ H ys us → Rs K mg ρ H xs vs → ks.length = vs.length →
    ∃ ws, putAll ((zs.map Sum.inr : List Key).zip us) (kz ks vs) = kz (dPuts (zs.zip ys) ks xs).1 ws ∧ Rs K mg ρ H (dPuts (zs.zip ys) ks xs).2 ws ∧ (dPuts (zs.zip ys) ks xs).1.length = ws.length
  | [], ys, us, ks, xs, vs, _, h, hl => ⟨vs, rfl, h, hl⟩
  | z :: zs, [], us, ks, xs, vs, hy, h, hl => by
    cases hy
    exact ⟨vs, rfl, h, hl⟩
  | z :: zs, y :: ys, us, ks, xs, vs, hy, h, hl => by
    obtain ⟨u, r, rfl, h1, h2⟩ := hy
    obtain ⟨ws, q1, q2, q3⟩ := zjK (z := z) h1 hl h
    obtain ⟨ws', p1, p2, p3⟩ := zfB (zs := zs) h2 q2 q3
    refine ⟨ws', ?_, p2, p3⟩
    show putAll _ (L2.putK (kz ks vs) (Sum.inr z) u) = _
    rw [q1]
    exact p1
def oDZip : List PV → Mo PV
  | [.tup xs, .tup ys], st => match strsOf xs with
    | some zs => .ok (.ref st.length) (st ++ [.dic (dPuts (zs.zip ys) [] []).1 (dPuts (zs.zip ys) [] []).2])
    | none => .stuck
  | _, _ => .stuck
theorem zhK {x y : Expr} {p0 pos0 : Pos} (hc : X.calm = true) (hm0 : X.mg "dict" = none) (hm : X.mg "zip" = none) (ha : MA X Er [x, y] fs) (hg0 : Gl X "dict" := by rfl) (hg : Gl X "zip" := by rfl)
    (hs : starEach [x, y] X.env = [(false, eval x X.env), (false, eval y X.env)] := by rfl) (hs2 : starEach [y] X.env = [(false, eval y X.env)] := by rfl) : ME X Er (.Call (.Name "dict" p0) [.Call (.Name "zip" p) [x, y] [] pos] [] pos0) (mCall oDZip fs) :=
  PE.weak (zgH hc hg0 hm0 hg hm ha hs hs2) fun σ H Q ⟨env, st, ρ, re, rs, h⟩ => ⟨env, st, ρ, re, rs, h.then fun ρ1 H1 xs st1 e1 s1 h1 vs rv => by
    unfold oDZip at h1
    split at h1
    · rename_i st' xs' ys'
      obtain ⟨v, w, rfl, r1, r2⟩ := rv.two
      obtain ⟨a, vs1, rfl, t1, q1⟩ := r1
      obtain ⟨b, vs2, rfl, t2, q2⟩ := r2
      cases hz : strsOf xs' with
      | none => simp only [hz] at h1; exact False.elim h1
      | some zs =>
        simp only [hz] at h1
        have ev := zf3 hz q1
        subst ev
        refine ⟨a, b, _, _, rfl, t1, t2, fun q hq => ?_⟩
        have eq : Ext ρ1 H1 (ρ1 ++ [q]) (upd H1 q (.dK (putAll ((zs.map Sum.inr : List Key).zip vs2) []))) := Ext.push hq
        obtain ⟨ws, k1, k2, k3⟩ := zfB (K := X.K) (mg := X.mg) (zs := zs) (ks := []) (xs := []) (vs := []) q2 rfl rfl
        exact h1 (ρ1 ++ [q]) _ eq (s1.push hq ⟨ws, by rw [zu]; exact congrArg (fun t => some (HO.dK t)) k1, Rs.ext eq _ k2, k3⟩) _ ⟨q, rfl, by rw [← s1.len]; simp⟩
    · exact False.elim h1⟩
end
end Mi
namespace L2
open PySem PySem.Spec PyProof.Rows PySem.W
def Ite (K : Frag) (a : Addr) : It :=
  ⟨fun i H => ∃ xs x, SqL K H a xs ∧ xs[i]? = some x,
   fun i H v H' => ∃ T x, H T = none ∧ v = .ref T ∧ H' = upd H T (.tup [.int i, x]) ∧ ∀ xs, SqL K H a xs → xs[i]? = some x,
   fun i H => ∃ xs, SqL K H a xs ∧ xs.length ≤ i⟩
def Est (e it a : Addr) (k : Nat) (h : Heap) : Prop := (∃ old, IsEnum h e it k old) ∧ h.IsListIter it a k
theorem zmu {X : Cx} {pins : List (Addr × Obj)} {σ : St} {H : Hp} {s : Shared} {a c : Addr} {xs : List V} (I : Inv X pins σ H s) (hf : FpOk X pins H c) (hq : SqL X.K H a xs) : a ≠ c := by
  rintro rfl
  rcases hq with q | ⟨o, its, n, hl, _⟩
  · rcases q with q | ⟨ob, q⟩ <;> (rw [hf.1] at q; cases q)
  · have e := I.ok.mod.kin _ _ hl
    rcases hf.2.2.2.1 with z | z
    · exact I.ok.noex _ _ e z
    · exact absurd (Nat.lt_of_lt_of_le (Heap.lt_size (I.ok.bs _ _ e).1) z) (Nat.lt_irrefl _)
theorem zhL {P : Program} {w : World} {K : Frag} {elts : List Expr} {kt : Nat} {pos : Pos} {e it a : Addr} (ne : e ≠ it) : Turn P w K (.Tuple elts kt pos) (Ite K a) [e, it] e (Est e it a) where
  mem := by simp
  obj := fun i h st c hc => by
    obtain ⟨⟨old, he⟩, ⟨o1, e1, _, d1⟩⟩ := st
    simp only [List.mem_cons, List.not_mem_nil, or_false] at hc
    rcases hc with q | q <;> rw [q]
    · exact ⟨_, he, fun v z => by cases z⟩
    · exact ⟨_, e1, fun v z => by rw [d1] at z; cases z⟩
  keep := fun i h h' st k => by
    obtain ⟨⟨old, he⟩, ⟨o1, e1, r1⟩⟩ := st
    exact ⟨⟨old, k e (by simp) _ he⟩, ⟨o1, k it (by simp) _ e1, r1⟩⟩
  item := by
    intro X hP hw hK hc i pins s σ H E I hf st hg
    subst hP hw hK
    obtain ⟨xs, x, hq, hx⟩ := hg
    obtain ⟨⟨old, he⟩, hit⟩ := st
    obtain ⟨its, rv, p, hz⟩ := I.list hq
    obtain ⟨u, hu, ru⟩ := rv.get hx
    have n1 : ∀ c ∈ [e, it], a ≠ c := fun c h => zmu I (hf c h) hq
    refine wpAny_pyNext_enum_item he hit p.isList (x := u) (by simpa using hu) ne fun h1 eo hit1 pT hsz kk => ⟨_, rfl, ?_⟩
    refine wpAny_letOwnedTupleGo_enum (s := { s with heap := h1, toks := s.toks + 1 }) eo fun h2 e2 sb => ?_
    have fr : H s.heap.objs.size = none := I.hok.fresh (Nat.le_refl _)
    have up : ∀ c o, c ≠ e → h1.get? c = some o → h2.get? c = some o := fun c o n q => sb.extBut _ _ n q
    have nz : s.heap.objs.size ≠ e := Nat.ne_of_gt (Heap.lt_size he)
    have k2 : ∀ c o, c ∉ [e, it] → s.heap.get? c = some o → h2.get? c = some o := fun c o nc q => up c o (fun z => nc (by simp [z])) (kk c o (fun z => nc (by simp [z])) (fun z => nc (by simp [z])) q)
    refine ⟨.ref s.heap.objs.size, upd H s.heap.objs.size (.tup [.int i, x]), ?_, rfl, ⟨s.heap.objs.size, x, fr, rfl, rfl, fun ys hy => by rw [I.list_inj hy hq]; exact hx⟩, ?_, fun c hc' => ?_⟩
    · exact Inv.turnN (s := s) (h' := h2) (t' := s.toks + 1) I hf k2 (Nat.le_refl _) ⟨show 2 ≤ sizeLine by decide, [.int i s.toks, u], .cons ⟨_, rfl⟩ (.cons ru .nil), _, up _ _ nz pT, rfl, _, rfl⟩
    · refine ⟨⟨u, by rw [show ((i + 1 : Nat) : Int) = (i : Int) + 1 from rfl]; exact e2⟩, let ⟨o, q, r⟩ := hit1; ⟨o, up _ _ ne.symm q, r⟩⟩
    · have lt : ∃ o, s.heap.get? c = some o := by
        simp only [List.mem_cons, List.not_mem_nil, or_false] at hc'
        rcases hc' with q | q <;> rw [q]
        · exact ⟨_, he⟩
        · exact let ⟨o, q, _⟩ := hit; ⟨o, q⟩
      obtain ⟨o, q⟩ := lt
      have z : c ≠ s.heap.objs.size := Nat.ne_of_lt (Heap.lt_size q)
      rw [zq z]
      exact (hf c hc').1
  done := by
    intro X hP hw hK hc i pins s σ H E I hf st hg
    subst hP hw hK
    obtain ⟨xs, hq, hx⟩ := hg
    obtain ⟨⟨old, he⟩, hit⟩ := st
    obtain ⟨its, rv, p, hz⟩ := I.list hq
    have hl := rv.length
    refine wpAny_pyNext_enum_end (I.ok.hd hc) he hit p.isList (by simp; omega) fun h' eb => ⟨rfl, ?_⟩
    exact Inv.turnL (ch := [e, it]) (t' := s.toks) I hf fun c o nc q => eb c o (fun z => nc (by simp [z])) q
  self := fun _ _ _ _ _ st h => by
    obtain ⟨⟨old, he⟩, _⟩ := st
    exact wpAny_pyIter_enum he h
theorem zhM : bootBuiltins "enumerate" = some (.type "enumerate") := by decide +kernel
def iEnu (K : Frag) (ta : TA) : TI := fun σ H R => ta σ H fun vs H1 => ∃ a, vs = [.ref a] ∧ (∃ xs, SqL K H1 a xs) ∧ R (Ite K a) H1
theorem zkS {X : Cx} {elts : List Expr} {kt : Nat} {tp : Pos} {x : Expr} {ta : TA} {p pos : Pos} (hg : Gl X "enumerate") (hm : X.mg "enumerate" = none) (ha : PA X [x] ta) (hs : starEach [x] X.env = [(false, eval x X.env)] := by rfl) :
    PI X (.Tuple elts kt tp) (.Call (.Name "enumerate" p) [x] [] pos) (iEnu X.K ta) := by
  intro pins s σ H R I h
  refine Call_ (zcA I hg hm zhM (PyProof.Rows.callWith_type1 (thn (ha pos pins s σ H _ I h) fun us s1 ⟨vs, H1, I1, r1, q1⟩ => ?_) hs rfl))
  obtain ⟨a, e, ⟨xs, hq⟩, q⟩ := q1
  subst e
  obtain ⟨u, rfl, ru⟩ := r1.one
  obtain rfl : u = Value.ref a := ru
  obtain ⟨its, _, p1, _⟩ := I1.list hq
  refine call_enumerate_list p1.isList fun h' he hit hsz kk => wpAny_pyIter_enum he ?_
  have ne : ∀ (n : Nat), n + 1 ≠ n := fun n z => by omega
  refine ⟨_, [s1.heap.objs.size + 1, s1.heap.objs.size], _, _, H1, rfl, I1.kept (t' := s1.toks) kk, zhL (ne _), ⟨⟨_, he⟩, hit⟩, fun c hc => ?_, q⟩
  have le : s1.heap.objs.size ≤ c := by
    simp only [List.mem_cons, List.not_mem_nil, or_false] at hc
    rcases hc with q | q <;> rw [q] <;> first | exact Nat.le_refl _ | exact Nat.le_add_right _ _
  exact I1.fpOk le (I1.hok.fresh le)
end L2
namespace Mi
open PySem L2 PySem.W PySem.Spec
section
variable {X : Cx} {Er : XK} {pos : Pos} {sts : List Stmt} {gb : PEnv → Mo Fl} {fs : PEnv → Mo (List PV)}
def forE (g : PV → PEnv → Option PEnv) (body : PEnv → Mo Fl) (n : Nat) : Nat → Nat → PEnv → Mo Fl
  | 0, _, _, _ => .stuck
  | m + 1, i, env, st => withL st n fun xs => match xs[i]? with
    | none => .ok (.nx env) st
    | some x => match g (.tup [.int i, x]) env with
      | none => .stuck
      | some env1 => (body env1 st).bind fun fl st2 => match fl with
        | .nx e => forE g body n m (i + 1) e st2
        | .ct e => forE g body n m (i + 1) e st2
        | .bk e => .ok (.nx e) st2
        | .rt v => .ok (.rt v) st2
def oneL : List PV → Mo Nat
  | [.ref n], st => withL st n fun _ => .ok n st
  | _, _ => .stuck
theorem ziY {α : Type} {K : Frag} {mg : Str → Option Value} {ρ : List Addr} {H : Hp} {vs : List PV} {st : Sto} {f : Nat → Mo α} {good : List Addr → Hp → α → Sto → Prop} (h : Out K mg ρ H ((oneL vs st).bind f) good Er) : ∃ n xs, vs = [.ref n] ∧ st[n]? = some (.lst xs) ∧ Out K mg ρ H (f n st) good Er := by
  unfold oneL at h
  split at h
  · rename_i n
    unfold withL at h
    cases hn : st[n]? with
    | none => simp only [hn] at h; exact False.elim h
    | some so =>
      cases so with
      | lst xs => simp only [hn] at h; exact ⟨n, xs, rfl, hn, h⟩
      | _ => simp only [hn] at h; exact False.elim h
  · exact False.elim h
def sForE (fs : PEnv → Mo (List PV)) (g : PV → PEnv → Option PEnv) (body : PEnv → Mo Fl) : PEnv → Mo Fl := fun env st => (fs env st).bind fun vs st1 => (oneL vs st1).bind fun n st1 => forE g body n (lim + 1) 0 env st1
theorem zkT {elts : List Expr} {kt : Nat} {tp p ip : Pos} {x : Expr} {gt : PV → PEnv → Option PEnv} (hp : PassesOwn (model X.prog X.w) X.A X.env X.xe) (hc : X.calm = true) (hm : X.mg "enumerate" = none) (ha : MA X Er [x] fs) (hg : MG X Er (.Tuple elts kt tp) gt) (hb : MSs X Er sts gb)
    (hgl : Gl X "enumerate" := by rfl) (hst : starEach [x] X.env = [(false, eval x X.env)] := by rfl) (hs : ∀ v, foldedSetIterable (.Call (.Name "enumerate" p) [x] [] ip) X.env v = pure v := by intro _; rfl) :
    MS X Er (.For (.Tuple elts kt tp) (.Call (.Name "enumerate" p) [x] [] ip) sts [] pos) (sForE fs gt gb) :=
  PS.weak (zjs hp hc (zkS hgl hm ha hst) hg hb hs) fun D σ H ⟨env, st, ρ, re, rs, h⟩ => ⟨env, st, ρ, re, rs, h.then fun ρ0 H0 vs st0 e0 s0 h0 us ru => by
    obtain ⟨n, xs0, rfl, hn0, h0⟩ := ziY h0
    obtain ⟨v, rfl, rv⟩ := ru.one
    obtain ⟨a, rfl, ha⟩ := rv
    obtain ⟨vs0, hH0, hR0⟩ := s0.addr hn0 ha
    refine ⟨a, rfl, ⟨_, SqL.of hH0⟩, ?_⟩
    refine ⟨fun i m σ H => ∃ env st ρ, EnvR X.K X.mg ρ H env σ ∧ StR X.K X.mg ρ H st ∧ ρ[n]? = some a ∧ Out X.K X.mg ρ H (forE gt gb n m i env st) (gS X.K X.mg D) Er, ⟨lim + 1, env, st0, ρ0, re.ext e0, s0, ha, h0⟩, ?_⟩
    rintro i m σ H ⟨env, st, ρ, re, rs, ha, h⟩
    cases m with
    | zero => exact False.elim h
    | succ m =>
      obtain ⟨xs, hn, h⟩ := zJ h
      obtain ⟨vs, hH, hR⟩ := rs.addr hn ha
      cases hx : xs[i]? with
      | none =>
        simp only [hx] at h
        have : vs.length ≤ i := by rw [← hR.len]; exact List.getElem?_eq_none_iff.mp hx
        exact .inl ⟨⟨vs, SqL.of hH, this⟩, Out.now (x := Fl.nx env) h rs σ re⟩
      | some x =>
        simp only [hx] at h
        obtain ⟨v, hv, rv⟩ := hR.get hx
        refine .inr ⟨⟨vs, v, SqL.of hH, hv⟩, _, fun σ' H' p' => ⟨m, Nat.lt_succ_self m, p'⟩, fun v' H' y => ?_⟩
        obtain ⟨T, x', hT, rfl, rfl, y⟩ := y
        have e2 := y vs (SqL.of hH)
        rw [hv] at e2
        cases e2
        have ex : Ext ρ H ρ (upd H T (.tup [.int i, v])) := Ext.new hT
        cases hgx : gt (.tup [.int i, x]) env with
        | none => simp only [hgx] at h; exact False.elim h
        | some env1 =>
          simp only [hgx] at h
          refine ⟨.tup [.int i, x], env, env1, ρ, ⟨T, [.int i, v], rfl, .inl (.inl zu), _, _, rfl, rfl, _, _, rfl, R.ext ex x rv, rfl⟩, re.ext ex, hgx, fun σ1 r1 => ⟨env1, st, ρ, r1, rs.new hT, Out.then (Out.ext h ex) fun ρ3 H3 fl st3 e3 s3 h3 => ?_⟩⟩
          cases fl with
          | nx e => exact fun σ4 r4 => ⟨e, st3, ρ3, r4, s3, e3.get ha, h3⟩
          | ct e => exact fun σ4 r4 => ⟨e, st3, ρ3, r4, s3, e3.get ha, h3⟩
          | bk e => exact Out.fl (D := D) (fl := .nx e) (E := Er) h3 s3
          | rt v => exact Out.fl (D := D) (fl := .rt v) (E := Er) h3 s3⟩
end
end Mi
namespace L2
open PySem PySem.Spec PyProof.Rows PySem.W
structure CompSN (sc scope : Scope) (xs : List Str) : Prop where
  kind : scope.kind = .function
  ncell : ∀ y ∈ scope.names, y.2 ≠ .cell
  names : ∀ y ∈ scope.names, y.2 = .local → scope.names.lookup y.1 = some .local ∧ (y.1 ∈ xs ∨ y.1 = ".0")
  free : ∀ y ∈ scope.names, y.2 = .free → sc.names.lookup y.1 = some .cell
section
variable {X : Cx} {scope : Scope} {xs : List Str}
end
def PTs (X : Cx) (ifs : List Expr) (t : TT) : Prop := ∀ (pins : List (Addr × Obj)) (s : Shared) (σ : St) (H : Hp) (Q : Bool → Hp → Prop), Inv X pins σ H s → t σ H Q →
  wpAny (model X.prog X.w) X.A (forIn ifs true fun c r => if r = true then do let ok ← isTrue c X.env (eval c X.env); pure (ForInStep.yield ok) else pure (ForInStep.yield r)) (TP X pins σ Q) X.xe s
theorem PTs.nox {X : Cx} {ifs : List Expr} {t : TT} (h : PTs X.nox ifs t) : PTs X ifs t := fun pins s σ H Q I hw =>
  wpAny_mono (h pins s σ H Q (I.wish _) hw) (fun b s' ⟨H', I', q⟩ => ⟨H', I'.unwish, q⟩) fun _ _ z => z.elim
end L2
namespace Mi
open PySem L2 PySem.W PySem.Spec
section
variable {X : Cx} {Er : XK} {pos : Pos} {fs : PEnv → Mo (List PV)}
end
end Mi
namespace L2
open PySem PySem.Spec PyProof.Rows PySem.W
def repS (z : Str) (n : Int) : Str := if n < 1 then Str.empty else if (n == 1 || z.length == 0) = true then z else ⟨(List.replicate n.toNat z.cps).foldl (· ++ ·) #[]⟩
theorem zd8 (c : Array Nat) : ∀ (k : Nat) (a : Array Nat), ((List.replicate k c).foldl (· ++ ·) a).size = a.size + k * c.size
  | 0, a => by simp
  | k + 1, a => by
    rw [List.replicate_succ, List.foldl_cons, zd8 c k, Array.size_append, Nat.succ_mul]
    omega
theorem ziZ (z : Str) (n : Int) : (repS z n).length = n.toNat * z.length := by
  unfold repS
  split
  · rename_i h
    have : n.toNat = 0 := by omega
    rw [this, Nat.zero_mul]; rfl
  · rename_i h
    split
    · rename_i h2
      simp only [Bool.or_eq_true, beq_iff_eq] at h2
      rcases h2 with h2 | h2
      · subst h2; simp
      · rw [h2]; simp
    · show ((List.replicate n.toNat z.cps).foldl (· ++ ·) #[]).size = _
      rw [zd8]
      show 0 + n.toNat * z.cps.size = _
      rw [Nat.zero_add]; rfl
def rMulS : R2 := fun x y H Q => ∃ z n, x = .str z ∧ y = .int n ∧ (0 ≤ n ∧ n ≤ 1000 ∧ z.length ≤ 1000) ∧ Q (.str (repS z n)) H
theorem zkU {X : Cx} : OpR X (binaryOp .Mult) rMulS := by
  intro pins s σ H x y v u Q I rx ry h
  obtain ⟨z, n, rfl, rfl, ⟨h0, h1, h2⟩, q⟩ := h
  obtain ⟨t, rfl⟩ := rx
  obtain ⟨t', rfl⟩ := ry
  have hb : n.toNat * z.length ≤ 1000000 := by
    have : n.toNat ≤ 1000 := by omega
    calc n.toNat * z.length ≤ 1000 * 1000 := Nat.mul_le_mul this h2
      _ = 1000000 := rfl
  have hsz := sizeLine_eq
  refine PySem.P.mul_str (by rw [decide_eq_false (by omega), decide_eq_false (by omega)]; rfl) (fun ha _ => ?_) (fun _ _ => ?_) ?_
  · have : (2 ^ 63 - 1 : Int) / n ≥ 1000 := by
      rw [ge_iff_le, Int.le_ediv_iff_mul_le (by omega)]
      omega
    omega
  · show decide _ = false
    rw [decide_eq_false_iff_not]
    have : z.length * n.toNat ≤ 1000000 := by rw [Nat.mul_comm]; exact hb
    rw [sizeLine_eq]; omega
  · by_cases c1 : n < 1
    · rw [if_pos c1]
      have e : repS z n = Str.empty := by unfold repS; rw [if_pos c1]
      rw [e] at q
      exact ⟨by decide, .str Str.empty, H, I.tok _, ⟨_, rfl⟩, q⟩
    · rw [if_neg c1]
      by_cases c2 : (n == 1 || z.length == 0) = true
      · rw [if_pos c2]
        have e : repS z n = z := by unfold repS; rw [if_neg c1, if_pos c2]
        rw [e] at q
        exact ⟨.str z, H, I, ⟨_, rfl⟩, q⟩
      · rw [if_neg c2]
        have e : repS z n = ⟨(List.replicate n.toNat z.cps).foldl (· ++ ·) #[]⟩ := by unfold repS; rw [if_neg c1, if_neg c2]
        have hl := ziZ z n
        rw [e] at q hl
        exact ⟨by rw [hl, sizeLine_eq]; omega, .str _, H, I.tok _, ⟨_, rfl⟩, q⟩
end L2
namespace Mi
open PySem L2 PySem.W PySem.Spec
section
variable {X : Cx} {K : Frag} {mg : Str → Option Value} {Er : XK} {e o : Expr} {es : List Expr} {pos apos : Pos} {fs : PEnv → Mo (List PV)} {fo fa : PEnv → Mo PV}
def oMulT : PV → PV → Mo PV
  | .int i, .int j, st => oMul (.int i) (.int j) st
  | .str z, .int n, st => if 0 ≤ n ∧ n ≤ 1000 ∧ z.length ≤ 1000 then .ok (.str (repS z n)) st else .stuck
  | _, _, _ => .stuck
theorem zeV : BinOk X .Mult oMulT := by
  obtain ⟨r, h1, h2⟩ := znf (X := X)
  refine ⟨fun x y H Q => r x y H Q ∨ rMulS x y H Q, h1.or zkU, fun ρ H st x y v w Q E s rx ry h => ?_⟩
  cases x with
  | int i =>
    cases y with
    | int j => exact .inl (h2 ρ H st (.int i) (.int j) v w Q E s rx ry h)
    | _ => exact False.elim h
  | str z =>
    cases y with
    | int n =>
      obtain ⟨c, h⟩ := Out.ifp h
      cases rx; cases ry
      exact .inr ⟨z, n, rfl, rfl, c, Out.now (x := PV.str (repS z n)) h s _ rfl⟩
    | _ => exact False.elim h
  | _ => exact False.elim h
def oStr : List PV → Mo PV
  | [.int i], st => if i.natAbs.log2 < 1920 then .ok (.str (toString i)) st else .stuck
  | _, _ => .stuck
theorem zmv : BltOk X (.type "str") oStr := ⟨_, zey, fun ρ H st xs vs Q E s r h => by
  unfold oStr at h
  split at h
  · rename_i i
    obtain ⟨c, h⟩ := Out.ifp h
    obtain ⟨v, rfl, rfl⟩ := r.one
    exact ⟨i, rfl, c, Out.now (x := PV.str (toString i)) h s _ rfl⟩
  · exact False.elim h⟩
end
end Mi
namespace Mi
open PySem L2 PySem.W PySem.Spec
section
variable {env : PEnv} {st : Sto} {fa fb fo fi fv fe : PEnv → Mo PV} {fs : PEnv → Mo (List PV)} {ft : PEnv → Mo Bool} {g : PEnv → Mo Fl} {src : PEnv → Mo Sq}
@[simp] theorem zod (xs : List PV) (i : Int) : oIxD (.tup xs) (.int i) st = optR (atI xs i) st := (rfl)
@[simp] theorem zoe (xs : List PV) (i : Int) : oIxD (.frl xs) (.int i) st = optR (atI xs i) st := (rfl)
@[simp] theorem zof (n : Nat) (i : Int) : oIxD (.ref n) (.int i) st = withL st n fun xs => optR (atI xs i) st := (rfl)
@[simp] theorem zjL (z : Str) (i : Int) : oIxD (.str z) (.int i) st = if z.length ≤ lim then optR ((atI z.cps.toList i).map fun c => .str ⟨#[c]⟩) st else .stuck := (rfl)
@[simp] theorem zfC : mComp src fe env st = (src env st).bind fun q st1 => compS fe env q st1 := (rfl)
@[simp] theorem zhN (xs : List PV) : compS fe env (.im xs) st = if xs.length ≤ lim then compL fe env xs [] st else .stuck := (rfl)
@[simp] theorem zkV : iRng1 fs env st = (fs env st).bind rng1 := (rfl)
@[simp] theorem zog (j : Int) : rng1 [.int j] st = if cR j = true then .ok (.im (nums 0 j.toNat)) st else .stuck := (rfl)
@[simp] theorem zkW (gt : PV → PEnv → Option PEnv) : sForE fs gt g env st = (fs env st).bind fun vs st1 => (oneL vs st1).bind fun n st1 => forE gt g n (lim + 1) 0 env st1 := (rfl)
@[simp] theorem zmw (n : Nat) : oneL [.ref n] st = withL st n fun _ => .ok n st := (rfl)
@[simp] theorem zoh (i : Int) : oStr [.int i] st = if i.natAbs.log2 < 1920 then .ok (.str (toString i)) st else .stuck := (rfl)
@[simp] theorem zkX (i j : Int) : oMulT (.int i) (.int j) st = if cMul i j = true then .ok (.int (i * j)) st else .stuck := (rfl)
@[simp] theorem zoi (n : Nat) : oTuple [.ref n] st = withL st n fun xs => .ok (.tup xs) st := (rfl)
end
def Pre (a b : Sto) : Prop := ∃ d, b = a ++ d
theorem Pre.trans {a b c : Sto} (h : Pre a b) (h' : Pre b c) : Pre a c := by obtain ⟨d, rfl⟩ := h; obtain ⟨d', rfl⟩ := h'; exact ⟨d ++ d', by simp⟩
theorem Pre.of (st d : Sto) : Pre st (st ++ d) := ⟨d, rfl⟩
theorem Pre.get {a b : Sto} (h : Pre a b) {n : Nat} {so : SO} (e : a[n]? = some so) : b[n]? = some so := by
  obtain ⟨d, rfl⟩ := h
  rw [List.getElem?_append_left (List.getElem?_eq_some_iff.mp e).1]
  exact e
theorem zfD (st : Sto) (so : SO) : (st ++ [so])[st.length]? = some so := by simp
theorem zdH {fe : PEnv → Mo PV} {env : PEnv} {f : PV → PV} {st : Sto} : ∀ (xs : List PV), (∀ x ∈ xs, fe (some x :: env) st = .ok (f x) st) → ∀ (ys : List PV), compL fe env xs ys st = .ok (.ref st.length) (st ++ [.lst (ys ++ xs.map f)])
  | [], _, ys => by simp [compL]
  | x :: xs, h, ys => by
    simp only [compL, h x (List.mem_cons_self ..), zel, zj]
    rw [zdH xs (fun x' hx' => h x' (List.mem_cons_of_mem _ hx'))]
    simp
theorem zhO {fe : PEnv → Mo PV} {env : PEnv} {f : PV → PV} {st : Sto} {n : Nat} {xs : List PV} (hn : st[n]? = some (.lst xs)) (h : ∀ x ∈ xs, fe (some x :: env) st = .ok (f x) st) :
    ∀ (k i : Nat) (m : Nat) (ys : List PV), xs.length - i = k → i ≤ xs.length → k < m → compR fe env n m i ys st = .ok (.ref st.length) (st ++ [.lst (ys ++ (xs.drop i).map f)]) := by
  intro k
  induction k with
  | zero =>
    intro i m ys hk hi hm
    obtain ⟨m', rfl⟩ : ∃ m', m = m' + 1 := ⟨m - 1, by omega⟩
    have hi' : i = xs.length := by omega
    subst hi'
    simp [compR, withL, hn]
  | succ k ih =>
    intro i m ys hk hi hm
    obtain ⟨m', rfl⟩ : ∃ m', m = m' + 1 := ⟨m - 1, by omega⟩
    have hlt : i < xs.length := by omega
    have e : xs[i]? = some xs[i] := by simp [hlt]
    simp only [compR, withL, hn, e, h xs[i] (List.getElem_mem hlt), zel, zj]
    rw [ih (i + 1) m' _ (by omega) (by omega) (by omega), List.drop_eq_getElem_cons hlt]
    rw [List.map_cons, List.append_assoc, List.singleton_append]
theorem zi0 {K : Frag} {mg : Str → Option Value} {t : IsT} (hs : t.sub = fun _ _ => none) (hT : t.subT = fun _ _ => none) (hC : t.tyC = fun _ _ => none) : IsF K mg t where
  s c B b h := by rw [hs] at h; cases h
  tt c n b h := by rw [hT] at h; cases h
  u T B b h := by rw [hC] at h; cases h
  x c C h hm z := by
    rcases z with ⟨B, b, z⟩ | ⟨n, b, z⟩
    · rw [hs] at z; cases z
    · rw [hT] at z; cases z
  i c C h hm z := by
    rcases z with ⟨B, b, z⟩ | ⟨n, b, z⟩
    · rw [hs] at z; cases z
    · rw [hT] at z; cases z
end Mi
namespace Mi
open PySem L2 PySem.W PySem.Spec
section
variable {X : Cx} {Er : XK} {pos : Pos}
def mVals : List (PEnv → Mo PV) → PEnv → Mo (List PV)
  | [], _, st => .ok [] st
  | f :: r, env, st => (f env st).bind fun x st1 => (mVals r env st1).bind fun xs st2 => .ok (x :: xs) st2
inductive MPs (X : Cx) (Er : XK) : List (Option Expr) → List Expr → List Str → List (PEnv → Mo PV) → Prop
  | nil : MPs X Er [] [] [] []
  | cons {z : Str} {j} {p : Pos} {v : Expr} {f : PEnv → Mo PV} {ks : List (Option Expr)} {vs : List Expr} {zs : List Str} {fs : List (PEnv → Mo PV)} (hv : ME X Er v f) (hr : MPs X Er ks vs zs fs) : MPs X Er (some (.Constant (.str z) j p) :: ks) (v :: vs) (z :: zs) (f :: fs)
theorem MPs.pps : ∀ {ks : List (Option Expr)} {vs : List Expr} {zs : List Str} {fs : List (PEnv → Mo PV)}, MPs X Er ks vs zs fs → PPs X pos ks vs ((zs.zip fs).map fun q => (tC (.str q.1), tM X.K X.mg Er q.2))
  | _, _, _, _, .nil => zki
  | _, _, _, _, .cons hv hr => zix zjr hv hr.pps
theorem MPs.len {ks : List (Option Expr)} {vs : List Expr} {zs : List Str} {fs : List (PEnv → Mo PV)} (h : MPs X Er ks vs zs fs) : ks.length = vs.length ∧ zs.length = fs.length ∧ ks.length = zs.length ∧ ks.all (·.isSome) = true := by
  induction h with
  | nil => exact ⟨rfl, rfl, rfl, rfl⟩
  | cons hv hr ih => exact ⟨by simp [ih.1], by simp [ih.2.1], by simp [ih.2.2.1], by simpa using ih.2.2.2⟩
theorem zd9 {K : Frag} {mg : Str → Option Value} : ∀ {zs : List Str} {fs : List (PEnv → Mo PV)} {env : PEnv} {st : Sto} {ρ : List Addr} {H : Hp} {σ : L2.St} {Q : List (V × V) → Hp → Prop}, zs.length = fs.length → EnvR K mg ρ H env σ → StR K mg ρ H st →
    Out K mg ρ H (mVals fs env st) (fun ρ' H' xs st' => ∀ vs, Rs K mg ρ' H' xs vs → Q ((zs.map V.str).zip vs) H') Er → tPairs ((zs.zip fs).map fun q => (tC (.str q.1), tM K mg Er q.2)) σ H Q
  | [], [], env, st, ρ, H, σ, Q, _, re, rs, h => h.now rs [] rfl
  | z :: zs, f :: fs, env, st, ρ, H, σ, Q, hl, re, rs, h => by
    refine ⟨env, st, ρ, re, rs, Out.then h fun ρ1 H1 x st1 e1 s1 h1 v rv => ?_⟩
    refine zd9 (env := env) (st := st1) (ρ := ρ1) (by simpa using hl) (re.ext e1) s1 (Out.then h1 fun ρ2 H2 xs st2 e2 s2 h2 vs rvs => ?_)
    exact h2.now s2 (v :: vs) ⟨v, vs, rfl, R.ext e2 x rv, rvs⟩
  | [], _ :: _, _, _, _, _, _, _, hl, _, _, _ => by simp at hl
  | _ :: _, [], _, _, _, _, _, _, hl, _, _, _ => by simp at hl
def isEmp : Option SO → Bool
  | some (.dic [] []) => true
  | _ => false
def mDisp (zs : List Str) (fs : List (PEnv → Mo PV)) : PEnv → Mo PV := fun env st => (mVals fs env (st ++ [.dic [] []])).bind fun xs st1 =>
  if isEmp st1[st.length]? = true then .ok (.ref st.length) (st1.set st.length (.dic (dPuts (zs.zip xs) [] []).1 (dPuts (zs.zip xs) [] []).2)) else .stuck
theorem zi1 {o : Option SO} (h : isEmp o = true) : o = some (.dic [] []) := by
  unfold isEmp at h
  split at h
  · rfl
  · cases h
theorem zjM : ∀ {zs : List Str} {vs : List V}, (zs.map V.str).zip vs = ((zs.map Sum.inr : List Key).zip vs).map fun kv => (kV kv.1, kv.2)
  | [], _ => rfl
  | _ :: _, [] => rfl
  | z :: zs, v :: vs => by simp only [List.map_cons, List.zip_cons_cons, zjM (zs := zs) (vs := vs)]; rfl
theorem zmx {keys : List (Option Expr)} {values : List Expr} {zs : List Str} {fs : List (PEnv → Mo PV)} (h : MPs X Er keys values zs fs) (h0 : keys ≠ []) (h15 : keys.length ≤ 15) : ME X Er (.Dict keys values pos) (mDisp zs fs) := by
  obtain ⟨l1, l2, l3, l4⟩ := h.len
  exact PE.weak (zkj h.pps l4 l1 h0 h15) fun σ H Q ⟨env, st, ρ, re, rs, ho⟩ => fun p hp => by
    have e0 : Ext ρ H (ρ ++ [p]) (upd H p (.dK [])) := Ext.push hp
    have s0 : StR X.K X.mg (ρ ++ [p]) (upd H p (.dK [])) (st ++ [.dic [] []]) := rs.push hp ⟨[], zu, rfl, rfl⟩
    have hp0 : (ρ ++ [p])[st.length]? = some p := by rw [← rs.len]; simp
    refine zd9 l2 (re.ext e0) s0 (Out.then (Out.ext ho e0) fun ρ1 H1 xs st1 e1 s1 h1 vs rv => ?_)
    obtain ⟨c, h1⟩ := Out.ifp h1
    have hd := zi1 c
    have hp1 := e1.get hp0
    obtain ⟨ws, k1, k2, k3⟩ := s1.addr hd hp1
    have ew : ws = [] := by cases ws with | nil => rfl | cons => simp at k3
    subst ew
    refine ⟨k1, (zs.map Sum.inr : List Key).zip vs, zjM, by rw [List.length_zip, List.length_map]; omega, ?_⟩
    have eq : Ext ρ1 H1 ρ1 (upd H1 p (.dK (mergeK [] ((zs.map Sum.inr : List Key).zip vs)))) := Ext.write k1 rfl
    obtain ⟨us, q1, q2, q3⟩ := zfB (K := X.K) (mg := X.mg) (zs := zs) (ks := []) (xs := []) (vs := []) rv rfl rfl
    exact h1 ρ1 _ eq (s1.write hp1 eq ⟨us, by rw [zu]; exact congrArg (fun t => some (HO.dK t)) q1, Rs.ext eq _ q2, q3⟩) _ ⟨p, rfl, hp1⟩
theorem zmy : MPs X Er [] [] [] [] := .nil
theorem zkY {z : Str} {j} {p : Pos} {v : Expr} {f : PEnv → Mo PV} {ks : List (Option Expr)} {vs : List Expr} {zs : List Str} {fs : List (PEnv → Mo PV)} (hv : ME X Er v f) (hr : MPs X Er ks vs zs fs) : MPs X Er (some (.Constant (.str z) j p) :: ks) (v :: vs) (z :: zs) (f :: fs) := .cons hv hr
end
end Mi
namespace Mi
open PySem L2 PySem.W PySem.Spec
section
variable {X : Cx}
end
end Mi
namespace Mi
open PySem L2 PySem.W PySem.Spec
section
variable {X : Cx}
end
end Mi
namespace Mi
open PySem L2 PySem.W PySem.Spec
def allE (f : PV → PV → Option Bool) : List PV → List PV → Option Bool
  | [], [] => some true
  | x :: xs, y :: ys => match f x y, allE f xs ys with
    | some a, some b => some (a && b)
    | _, _ => none
  | _, _ => some false
def hitsE (f : PV → PV → Option Bool) (ks' : List Str) (xs' : List PV) : List Str → List PV → Option Bool
  | k :: ks, x :: xs => match (ks'.zip xs').lookup k with
    | none => some false
    | some y => match f x y, hitsE f ks' xs' ks xs with
      | some a, some b => some (a && b)
      | _, _ => none
  | _, _ => some true
theorem zeW {f : PV → PV → Option Bool} : ∀ {xs ys : List PV} {b : Bool}, allE f xs ys = some b → ∃ e : Nat → Bool, (∀ j x y, xs[j]? = some x → ys[j]? = some y → f x y = some (e j)) ∧ ((List.range (min xs.length ys.length)).all e && xs.length == ys.length) = b
  | [], [], b, h => by cases h; exact ⟨fun _ => true, fun j x y h => by simp at h, by simp⟩
  | [], y :: ys, b, h => by cases h; exact ⟨fun _ => true, fun j x y h => by simp at h, by simp⟩
  | x :: xs, [], b, h => by cases h; exact ⟨fun _ => true, fun j x y _ h => by simp at h, by simp⟩
  | x :: xs, y :: ys, b, h => by
    simp only [allE] at h
    cases hf : f x y with
    | none => rw [hf] at h; cases h
    | some a =>
      cases hr : allE f xs ys with
      | none => rw [hf, hr] at h; cases h
      | some c =>
        rw [hf, hr] at h
        cases h
        obtain ⟨e, h1, h2⟩ := zeW hr
        refine ⟨fun j => match j with | 0 => a | j + 1 => e j, fun j u v hu hv => ?_, ?_⟩
        · cases j with
          | zero => simp at hu hv; subst hu; subst hv; exact hf
          | succ j => simp at hu hv; exact h1 j u v hu hv
        · have e1 : min (x :: xs).length (y :: ys).length = min xs.length ys.length + 1 := by simp only [List.length_cons]; omega
          have e2 : ((x :: xs).length == (y :: ys).length) = (xs.length == ys.length) := by
            rw [Bool.eq_iff_iff]; simp
          rw [e1, e2, List.range_succ_eq_map, List.all_cons, List.all_map, ← h2, Bool.and_assoc]
          rfl
section
variable {X : Cx} {Er : XK} {K : Frag} {mg : Str → Option Value} {ρ : List Addr} {pins : List (Addr × Obj)} {σ : L2.St} {H : Hp} {s : Shared} {st : Sto}
theorem zhP {ρ : List Addr} (nd : ρ.Nodup) {n m : Nat} {a : Addr} (h : ρ[n]? = some a) (h' : ρ[m]? = some a) : n = m := by
  obtain ⟨h1, h2⟩ := List.getElem?_eq_some_iff.mp h
  obtain ⟨h3, h4⟩ := List.getElem?_eq_some_iff.mp h'
  have pw := List.pairwise_iff_getElem.mp nd
  rcases Nat.lt_trichotomy n m with c | c | c
  · exact absurd (h2.trans h4.symm) (pw n m h1 h3 c)
  · exact c
  · exact absurd (h4.trans h2.symm) (pw m n h3 h1 c)
theorem zeX {f : PV → PV → Option Bool} (hf : ∀ x y v b, f x y = some b → R K mg ρ H x v → R K mg ρ H y v → b = true) : ∀ {xs ys : List PV} {vs : List V} {b : Bool}, allE f xs ys = some b → Rs K mg ρ H xs vs → Rs K mg ρ H ys vs → b = true
  | [], [], vs, b, h, _, _ => by cases h; rfl
  | [], y :: ys, vs, b, h, rx, ry => by cases rx; obtain ⟨_, _, e, _⟩ := ry; cases e
  | x :: xs, [], vs, b, h, rx, ry => by cases ry; obtain ⟨_, _, e, _⟩ := rx; cases e
  | x :: xs, y :: ys, vs, b, h, rx, ry => by
    obtain ⟨v, r, rfl, r1, r2⟩ := rx
    obtain ⟨v', r', e, r3, r4⟩ := ry
    cases e
    simp only [allE] at h
    cases h1 : f x y with
    | none => rw [h1] at h; cases h
    | some a =>
      cases h2 : allE f xs ys with
      | none => rw [h1, h2] at h; cases h
      | some c =>
        rw [h1, h2] at h
        cases h
        rw [hf x y v a h1 r1 r3, zeX hf h2 r2 r4]
        rfl
theorem zeY {f : PV → PV → Option Bool} (hf : ∀ x v b, f x x = some b → R K mg ρ H x v → b = true) {ks0 : List Str} {xs0 : List PV} : ∀ {ks : List Str} {xs : List PV} {vs : List V} {b : Bool}, (∀ k x, (k, x) ∈ ks.zip xs → (ks0.zip xs0).lookup k = some x) → hitsE f ks0 xs0 ks xs = some b → Rs K mg ρ H xs vs → b = true
  | [], xs, vs, b, _, h, _ => by cases xs <;> (cases h; rfl)
  | k :: ks, [], vs, b, _, h, _ => by cases h; rfl
  | k :: ks, x :: xs, vs, b, hm, h, rx => by
    obtain ⟨v, r, rfl, r1, r2⟩ := rx
    simp only [hitsE] at h
    rw [hm k x (by simp)] at h
    simp only at h
    cases h1 : f x x with
    | none => rw [h1] at h; cases h
    | some a =>
      cases h2 : hitsE f ks0 xs0 ks xs with
      | none => rw [h1, h2] at h; cases h
      | some c =>
        rw [h1, h2] at h
        cases h
        rw [hf x v a h1 r1, zeY hf (fun k' x' h' => hm k' x' (by simp [h'])) h2 r2]
        rfl
theorem zbE : ∀ {ks : List Str} {xs : List PV}, ks.Nodup → ∀ k x, (k, x) ∈ ks.zip xs → (ks.zip xs).lookup k = some x
  | [], _, _, k, x, h => by simp at h
  | _ :: _, [], _, k, x, h => by simp at h
  | k0 :: ks, x0 :: xs, nd, k, x, h => by
    rw [List.nodup_cons] at nd
    rw [List.zip_cons_cons] at h ⊢
    rcases List.mem_cons.mp h with e | h'
    · cases e; simp [List.lookup_cons]
    · have hk : k ∈ ks := (List.of_mem_zip h').1
      have ne : (k == k0) = false := by
        simp only [beq_eq_false_iff_ne]
        intro e; subst e; exact nd.1 hk
      rw [List.lookup_cons, ne]
      exact zbE nd.2 k x h'
end
end Mi
namespace Mi
open PySem L2 PySem.W PySem.Spec
def EqW (P : Program) (W : World) (A : Around) (s : Shared) (u u' : Value) (b : Bool) : Prop := ∀ (E : Value → Shared → Prop) (Q : Bool → Shared → Prop), Q b s → wpAny (model P W) A (eqBool u u') Q E s
def RcW (P : Program) (W : World) (A : Around) (s : Shared) (u u' : Value) (b : Bool) : Prop := ∀ (E Q : Value → Shared → Prop), Q (.bool b) s → wpAny (model P W) A (richCompare .Eq u u') Q E s
section
variable {P : Program} {W : World} {A : Around} {s : Shared}
theorem EqW.of_refs {l b : Addr} {k : Bool} (hne : l ≠ b) (h : RcW P W A s (.ref l) (.ref b) k) : EqW P W A s (.ref l) (.ref b) k := fun E Q hq => by
  unfold eqBool
  refine wpAny_holding (wpAny_ite_split (fun hab => absurd (by have := eq_of_beq hab; injection this) hne) fun _ => ?_)
  exact wpAny_bind (h E _ (wpAny_truthy_bool hq))
theorem zkZ {l b : Addr} {its its2 : Array Value} {n n2 : Nat} {dd dd2 : Option Addr} {sl sl2 : Array (Option Value)} {e : Nat → Bool} {E Q : Value → Shared → Prop}
    (hl : s.heap.get? l = some { cls := .type "tuple", dict := dd, data := .seq its n, slots := sl }) (hb : s.heap.get? b = some { cls := .type "tuple", dict := dd2, data := .seq its2 n2, slots := sl2 })
    (he : ∀ j (h1 : j < its.size) (h2 : j < its2.size), EqW P W A.in1 s its[j] its2[j] (e j)) (h : Q (.bool ((List.range (min its.size its2.size)).all e && its.size == its2.size)) s) :
    wpAny (model P W) A.in1 (Builtin.«tuple.__eq__» ⟨[.ref l, .ref b], []⟩) (fun fin s' => ∃ v, fin = .done (.ret v) ∧ Q v s') E s := by
  obtain ⟨hp, g, d, tk, os⟩ := s
  have f2 := AutoSeq1.sub_tuple_tuple
  have hZ : (its.toList.zip its2.toList).length = min its.size its2.size := by simp
  wp_walk using AutoSeq1.wpAny_loadPart' hl, AutoSeq1.wpAny_loadPart' hb, wpAny_forIn_list _ (fun rest b s' => b.1 = none ∧ s' = ⟨hp, g, d, tk, os⟩ ∧ ∃ i, rest = (its.toList.zip its2.toList).drop i ∧ Q (.bool (((List.range (min its.size its2.size)).drop i).all e && its.size == its2.size)) ⟨hp, g, d, tk, os⟩) _
  case turn =>
    rintro ⟨y, x⟩ rest b s' ⟨hb', rfl, i, hz, hR⟩
    have hlt : i < (its.toList.zip its2.toList).length := by
      rcases Nat.lt_or_ge i (its.toList.zip its2.toList).length with h' | h'
      · exact h'
      · rw [List.drop_of_length_le h'] at hz; cases hz
    have hm : i < min its.size its2.size := hZ ▸ hlt
    have h1 : i < its.size := by omega
    have h2 : i < its2.size := by omega
    rw [List.drop_eq_getElem_cons hlt] at hz
    injection hz with hyx hrest
    have hy : y = its[i] := by have := congrArg Prod.fst hyx; simpa using this
    have hx : x = its2[i] := by have := congrArg Prod.snd hyx; simpa using this
    subst hy hx
    have hd : (List.range (min its.size its2.size)).drop i = i :: (List.range (min its.size its2.size)).drop (i + 1) := by simp [List.drop_eq_getElem_cons, hm]
    rw [hd, List.all_cons] at hR
    refine wpAny_bind (he i h1 h2 _ _ ?_)
    cases hy : e i with
    | true =>
      rw [hy] at hR
      wp_walk
      exact ⟨rfl, rfl, i + 1, hrest, by simpa using hR⟩
    | false =>
      rw [hy] at hR
      wp_walk
      exact ⟨_, rfl, by simpa using hR⟩
  case fin =>
    rintro ⟨b1, b2⟩ s' ⟨hb', rfl, i, hz, hR⟩
    simp only at hb'
    subst hb'
    have hge : min its.size its2.size ≤ i := by
      rcases Nat.lt_or_ge i (its.toList.zip its2.toList).length with h' | h'
      · rw [List.drop_eq_getElem_cons h'] at hz; cases hz
      · exact hZ ▸ h'
    rw [List.drop_of_length_le (by simpa using hge)] at hR
    wp_walk
    exact ⟨_, rfl, by simpa [Builtin.Tuple.tupleCompareSizes] using hR⟩
  case h => exact ⟨rfl, rfl, 0, rfl, by simpa using h⟩
theorem RcW.tuples {l b : Addr} {its its2 : Array Value} {e : Nat → Bool} (hl : s.heap.IsTuple l its) (hb : s.heap.IsTuple b its2) (hu : A.units < cLine)
    (he : ∀ j (h1 : j < its.size) (h2 : j < its2.size), EqW P W A.in1 s its[j] its2[j] (e j)) : RcW P W A s (.ref l) (.ref b) ((List.range (min its.size its2.size)).all e && its.size == its2.size) := fun E Q h => by
  obtain ⟨⟨cls, dd, data, sl⟩, ho, hc, n, hd⟩ := id hl
  obtain ⟨⟨cls2, dd2, data2, sl2⟩, ho2, hc2, n2, hd2⟩ := id hb
  simp only at hc hd hc2 hd2
  subst hc hd hc2 hd2
  refine wpAny_richCompare_same_room (op := .Eq) ⟨_, ho, rfl⟩ ⟨_, ho2, rfl⟩ F.slot_tuple_eq (wpAny_call_entry F.slot_tuple_eq ⟨_, ho, rfl⟩ F.entry_tuple_eq (zkZ (Q := fun v s' => v ≠ .notImplemented ∧ Q v s') ho ho2 he (show Value.bool ((List.range (min its.size its2.size)).all e && its.size == its2.size) ≠ Value.notImplemented ∧ Q (.bool ((List.range (min its.size its2.size)).all e && its.size == its2.size)) s from ⟨(fun x => nomatch x), h⟩)) (F.args_tuple_eq_2 _ _)) hu
end
section
variable {X : Cx} {Er : XK} {K : Frag} {mg : Str → Option Value} {ρ : List Addr} {pins : List (Addr × Obj)} {σ : L2.St} {H : Hp} {s : Shared} {st : Sto}
theorem zhQ {k : Str} {ks : List Str} {v : V} {vs : List V} {us : List (Key × Value)} (h : KV (kz (k :: ks) (v :: vs)) us) : ∃ u r, us = (Sum.inr k, u) :: r ∧ RelV v u ∧ KV (kz ks vs) r := by
  cases h with
  | @cons p q ps qs h t =>
    obtain ⟨h1, h2⟩ := h
    obtain ⟨k', u⟩ := q
    have : k' = Sum.inr k := h1.symm
    subst this
    exact ⟨u, qs, rfl, h2, t⟩
theorem zeZ {f : Str} : ∀ {ks : List Str} {xs : List PV} {vs : List V}, Rs K mg ρ H xs vs → (ks.zip xs).lookup f = none → (ks.zip vs).lookup f = none
  | [], _, _, _, _ => by simp
  | k :: ks, [], _, r, _ => by cases r; simp
  | k :: ks, y :: xs, _, r, h => by
    obtain ⟨v, r', rfl, h1, h2⟩ := r
    simp only [List.zip_cons_cons, List.lookup_cons] at h ⊢
    split at h
    · cases h
    · exact zeZ h2 h
theorem zi2 {f : PV → PV → Option Bool} {G : Value → Value → Bool → Prop} (hf : ∀ x y v w u u' b, f x y = some b → R K mg ρ H x v → R K mg ρ H y w → RelV v u → RelV w u' → G u u' b) {xs ys : List PV} {vs ws : List V} {its its2 : List Value} {e : Nat → Bool} (h2 : Rs K mg ρ H xs vs) (h4 : Rs K mg ρ H ys ws) (r1 : Vals vs its) (r2 : Vals ws its2) (he : ∀ j x y, xs[j]? = some x → ys[j]? = some y → f x y = some (e j)) :
    ∀ j (g1 : j < its.toArray.size) (g2 : j < its2.toArray.size), G its.toArray[j] its2.toArray[j] (e j) := by
  intro j g1 g2
  have l1 := h2.len
  have l2 := h4.len
  have l3 := r1.length
  have l4 := r2.length
  have k1 : j < xs.length := by rw [l1, l3]; simpa using g1
  have k2 : j < ys.length := by rw [l2, l4]; simpa using g2
  obtain ⟨v1, e1, rr1⟩ := h2.get (List.getElem?_eq_getElem k1)
  obtain ⟨v2, e2, rr2⟩ := h4.get (List.getElem?_eq_getElem k2)
  obtain ⟨u1, f1, ru1⟩ := r1.get e1
  obtain ⟨u2, f2, ru2⟩ := r2.get e2
  have w1 : its.toArray[j] = u1 := by
    obtain ⟨_, z⟩ := List.getElem?_eq_some_iff.mp f1
    simpa using z
  have w2 : its2.toArray[j] = u2 := by
    obtain ⟨_, z⟩ := List.getElem?_eq_some_iff.mp f2
    simpa using z
  rw [w1, w2]
  exact hf xs[j] ys[j] v1 v2 u1 u2 (e j) (he j _ _ (List.getElem?_eq_getElem k1) (List.getElem?_eq_getElem k2)) rr1 rr2 ru1 ru2
end
end Mi
namespace Mi
open PySem L2 PySem.W PySem.Spec
section
variable {X : Cx} {Er : XK} {K : Frag} {mg : Str → Option Value}
end
end Mi
namespace Mi
open PySem L2 PySem.W PySem.Spec
section
variable {P : Program} {W : World} {A : Around} {s : Shared} {E : Value → Shared → Prop} {K : Type} [DecidableEq K] {knd : KeyKind P W K}
theorem zc2 {d : Addr} {kv : List (K × Value)} {x : Value} {T : String} {name : Str} (sl : Slot "dict" name "dict.__eq__") (hd : s.heap.DictOf knd d kv) (hx : s.TypeIs x T) (hs : isSubtype (.type T) (.type "dict") = pure false) (Q : Value → Shared → Prop) (h : Q .notImplemented s) :
    wpAny (model P W) A (call (.builtin "dict.__eq__") [.ref d, x]) Q E s := by
  refine wpAny_call_entry sl hd.typeIs PySem.F.entry_dict_eq ?_ (PySem.F.args_dict_eq_2 _ _)
  show wpAny _ _ (Builtin.Dict.dictSlotArgs "__eq__" ⟨[.ref d, x], []⟩ >>= _) _ _ s
  refine wpAny_bind ?_
  unfold Builtin.Dict.dictSlotArgs
  refine wpAny_bind (wpAny_notOrdered_dict hd.typeIs ?_)
  show wpAny _ _ (pure (Value.ref d, x)) _ _ s
  refine wpAny_pure ?_
  refine wpAny_bind (wpAny_isInstance hx hs ?_)
  simp only [Bool.not_false, if_true]
  exact wpAny_bind (wpAny_rule (wpAny_pure ⟨_, rfl, h⟩))
theorem zjN {d : Addr} {o : Obj} {b : Int} {u : Tok} {name : Str} (sl : Slot "int" name "int.__eq__") (ho : s.heap.get? d = some o) (hd : o.cls = .type "dict") {es : Array DictEntry} {ep : Nat} (hq' : o.data = .dict es ep) (Q : Value → Shared → Prop) (h : Q .notImplemented s) :
    wpAny (model P W) A (call (.builtin "int.__eq__") [.int b u, .ref d]) Q E s := by
  refine wpAny_call_entry sl (typeIs_int s b u) PySem.F.entry_int_eq ?_ (PySem.F.args_int_eq_2 _ _)
  obtain ⟨hp, g, dd, tk, os⟩ := s
  obtain ⟨c, d1, d2, d3⟩ := o
  cases hd
  cases hq'
  wp_walk using AutoSeq1.wpAny_loadPart' ho, wpAny_load ho
  exact ⟨_, rfl, h⟩
theorem zjO {d : Addr} {o : Obj} {b : Str} {u : Tok} {name : Str} (sl : Slot "str" name "str.__eq__") (ho : s.heap.get? d = some o) (hd : o.cls = .type "dict") {es : Array DictEntry} {ep : Nat} (hq' : o.data = .dict es ep) (Q : Value → Shared → Prop) (h : Q .notImplemented s) :
    wpAny (model P W) A (call (.builtin "str.__eq__") [.str b u, .ref d]) Q E s := by
  refine wpAny_call_entry sl (typeIs_str s b u) PySem.F.entry_str_eq ?_ (PySem.F.args_str_eq_2 _ _)
  obtain ⟨hp, g, dd, tk, os⟩ := s
  obtain ⟨c, d1, d2, d3⟩ := o
  cases hd
  cases hq'
  wp_walk using AutoSeq1.wpAny_loadPart' ho, wpAny_load ho
  exact ⟨_, rfl, h⟩
theorem zjP {d t : Addr} {o ot : Obj} {its : Array Value} {n : Nat} {name : Str} (sl : Slot "tuple" name "tuple.__eq__") (ht : s.heap.get? t = some ot) (hc : ot.cls = .type "tuple") (hq : ot.data = .seq its n) (ho : s.heap.get? d = some o) (hd : o.cls = .type "dict") {es : Array DictEntry} {ep : Nat} (hq' : o.data = .dict es ep) (Q : Value → Shared → Prop) (h : Q .notImplemented s) :
    wpAny (model P W) A (call (.builtin "tuple.__eq__") [.ref t, .ref d]) Q E s := by
  refine wpAny_call_entry sl ⟨_, ht, hc⟩ PySem.F.entry_tuple_eq ?_ (PySem.F.args_tuple_eq_2 _ _)
  obtain ⟨hp, g, dd, tk, os⟩ := s
  obtain ⟨c, d1, d2, d3⟩ := o
  obtain ⟨c', d1', d2', d3'⟩ := ot
  cases hd
  cases hq'
  cases hc
  cases hq
  have f1 := PySem.F.sub_dict_tuple
  wp_walk using AutoSeq1.wpAny_loadPart' ht, AutoSeq1.wpAny_loadPart' ho
  exact ⟨_, rfl, h⟩
theorem EqW.of_ref {d : Addr} {u' : Value} {k : Bool} (hne : Value.ref d ≠ u') (h : RcW P W A s (.ref d) u' k) : EqW P W A s (.ref d) u' k := fun E Q hq => by
  unfold eqBool
  refine wpAny_holding (wpAny_ite_split (fun hab => absurd (eq_of_beq hab) hne) fun _ => ?_)
  exact wpAny_bind (h E _ (wpAny_truthy_bool hq))
theorem EqW.of_num {d : Addr} {b : Int} {u : Tok} {k : Bool} (h : RcW P W A s (.int b u) (.ref d) k) : EqW P W A s (.int b u) (.ref d) k := fun E Q hq => by
  unfold eqBool
  refine wpAny_holding (wpAny_ite_split (fun hab => absurd (eq_of_beq hab) nofun) fun _ => ?_)
  exact wpAny_bind (h E _ (wpAny_truthy_bool hq))
theorem EqW.of_txt {d : Addr} {b : Str} {u : Tok} {k : Bool} (h : RcW P W A s (.str b u) (.ref d) k) : EqW P W A s (.str b u) (.ref d) k := fun E Q hq => by
  unfold eqBool
  refine wpAny_holding (wpAny_ite_split (fun hab => absurd (eq_of_beq hab) nofun) fun _ => ?_)
  exact wpAny_bind (h E _ (wpAny_truthy_bool hq))
theorem RcW.rec_num {d : Addr} {kv : List (K × Value)} (hd : s.heap.DictOf knd d kv) (b : Int) (u : Tok) (hu : A.units < cLine) : RcW P W A s (.ref d) (.int b u) false := fun E Q h => by
  obtain ⟨o, es, ep, ho, hx, hda, _⟩ := id hd
  have ty := hd.typeIs
  obtain ⟨o', ho', hc⟩ := id ty
  rw [ho] at ho'
  cases ho'
  exact SeqAt.rc_eq_decline_or (k := false) ty (typeIs_int s b u) (by decide) PySem.F.sub_int_dict PySem.F.slot_dict_eq PySem.F.slot_int_eq_refl (zc2 PySem.F.slot_dict_eq hd (typeIs_int s b u) PySem.F.sub_int_dict) (zjN PySem.F.slot_int_eq_refl ho hc hda)
    (fun _ hq => wpAny_of_eq (rfl : isSame (.ref d) (.int b u) = pure false) hq) (.inr hu) h
theorem RcW.num_rec {d : Addr} {kv : List (K × Value)} (hd : s.heap.DictOf knd d kv) (b : Int) (u : Tok) (hu : A.units < cLine) : RcW P W A s (.int b u) (.ref d) false := fun E Q h => by
  obtain ⟨o, es, ep, ho, hx, hda, _⟩ := id hd
  have ty := hd.typeIs
  obtain ⟨o', ho', hc⟩ := id ty
  rw [ho] at ho'
  cases ho'
  exact SeqAt.rc_eq_decline_or (k := false) (typeIs_int s b u) ty (by decide) PySem.F.sub_dict_int PySem.F.slot_int_eq PySem.F.slot_dict_eq_refl (zjN PySem.F.slot_int_eq ho hc hda) (zc2 PySem.F.slot_dict_eq_refl hd (typeIs_int s b u) PySem.F.sub_int_dict)
    (fun _ hq => wpAny_of_eq (rfl : isSame (.int b u) (.ref d) = pure false) hq) (.inr hu) h
theorem RcW.rec_txt {d : Addr} {kv : List (K × Value)} (hd : s.heap.DictOf knd d kv) (b : Str) (u : Tok) (hu : A.units < cLine) : RcW P W A s (.ref d) (.str b u) false := fun E Q h => by
  obtain ⟨o, es, ep, ho, hx, hda, _⟩ := id hd
  have ty := hd.typeIs
  obtain ⟨o', ho', hc⟩ := id ty
  rw [ho] at ho'
  cases ho'
  exact SeqAt.rc_eq_decline_or (k := false) ty (typeIs_str s b u) (by decide) PySem.F.sub_str_dict PySem.F.slot_dict_eq PySem.F.slot_str_eq_refl (zc2 PySem.F.slot_dict_eq hd (typeIs_str s b u) PySem.F.sub_str_dict) (zjO PySem.F.slot_str_eq_refl ho hc hda)
    (fun _ hq => wpAny_of_eq (rfl : isSame (.ref d) (.str b u) = pure false) hq) (.inr hu) h
theorem RcW.txt_rec {d : Addr} {kv : List (K × Value)} (hd : s.heap.DictOf knd d kv) (b : Str) (u : Tok) (hu : A.units < cLine) : RcW P W A s (.str b u) (.ref d) false := fun E Q h => by
  obtain ⟨o, es, ep, ho, hx, hda, _⟩ := id hd
  have ty := hd.typeIs
  obtain ⟨o', ho', hc⟩ := id ty
  rw [ho] at ho'
  cases ho'
  exact SeqAt.rc_eq_decline_or (k := false) (typeIs_str s b u) ty (by decide) PySem.F.sub_dict_str PySem.F.slot_str_eq PySem.F.slot_dict_eq_refl (zjO PySem.F.slot_str_eq ho hc hda) (zc2 PySem.F.slot_dict_eq_refl hd (typeIs_str s b u) PySem.F.sub_str_dict)
    (fun _ hq => wpAny_of_eq (rfl : isSame (.str b u) (.ref d) = pure false) hq) (.inr hu) h
theorem zaV {d t : Addr} {kv : List (K × Value)} {its : Array Value} (hd : s.heap.DictOf knd d kv) (ht : s.heap.IsTuple t its) : d ≠ t := fun e => by
  subst e
  obtain ⟨o, ho, hc⟩ := hd.typeIs
  obtain ⟨o2, ho2, hc2, _⟩ := ht
  rw [ho] at ho2
  cases ho2
  rw [hc] at hc2
  exact absurd hc2 (by simp)
theorem RcW.rec_row {d t : Addr} {kv : List (K × Value)} {its : Array Value} (hd : s.heap.DictOf knd d kv) (ht : s.heap.IsTuple t its) (hu : A.units < cLine) : RcW P W A s (.ref d) (.ref t) false := fun E Q h => by
  have ne := zaV hd ht
  obtain ⟨o, es, ep, ho, hx, hda, _⟩ := id hd
  have ty := hd.typeIs
  obtain ⟨o', ho', hc⟩ := id ty
  rw [ho] at ho'
  cases ho'
  obtain ⟨ot, ht1, ht2, n, ht3⟩ := id ht
  exact SeqAt.rc_eq_decline_or (k := false) ty ⟨_, ht1, ht2⟩ (by decide) PySem.F.sub_tuple_dict PySem.F.slot_dict_eq PySem.F.slot_tuple_eq_refl (zc2 PySem.F.slot_dict_eq hd ⟨_, ht1, ht2⟩ PySem.F.sub_tuple_dict) (zjP PySem.F.slot_tuple_eq_refl ht1 ht2 ht3 ho hc hda)
    (fun _ hq => wpAny_isSame_ref_other ne ho ht1 (by rw [hc]; simp) hq) (.inr hu) h
theorem RcW.row_rec {d t : Addr} {kv : List (K × Value)} {its : Array Value} (hd : s.heap.DictOf knd d kv) (ht : s.heap.IsTuple t its) (hu : A.units < cLine) : RcW P W A s (.ref t) (.ref d) false := fun E Q h => by
  have ne := zaV hd ht
  obtain ⟨o, es, ep, ho, hx, hda, _⟩ := id hd
  have ty := hd.typeIs
  obtain ⟨o', ho', hc⟩ := id ty
  rw [ho] at ho'
  cases ho'
  obtain ⟨ot, ht1, ht2, n, ht3⟩ := id ht
  exact SeqAt.rc_eq_decline_or (k := false) ⟨_, ht1, ht2⟩ ty (by decide) PySem.F.sub_dict_tuple PySem.F.slot_tuple_eq PySem.F.slot_dict_eq_refl (zjP PySem.F.slot_tuple_eq ht1 ht2 ht3 ho hc hda) (zc2 PySem.F.slot_dict_eq_refl hd ⟨_, ht1, ht2⟩ PySem.F.sub_tuple_dict)
    (fun _ hq => SeqAt.wpAny_isSame_ref_other' ne.symm ht1 ho (by rw [hc]; simp) hq) (.inr hu) h
inductive HitsW (P : Program) (W : World) (A : Around) (s : Shared) (kb : List (K × Value)) : List (K × Value) → Bool → Prop
  | nil : HitsW P W A s kb [] true
  | miss {k : K} {v : Value} {r : List (K × Value)} (h : valueAt kb k = none) : HitsW P W A s kb ((k, v) :: r) false
  | hit {k : K} {v y : Value} {r : List (K × Value)} {e b : Bool} (h : valueAt kb k = some y) (he : EqW P W A s v y e) (hr : HitsW P W A s kb r b) : HitsW P W A s kb ((k, v) :: r) (e && b)
theorem HitsW.inv {kb r : List (K × Value)} {k : K} {v : Value} {b : Bool} (h : HitsW P W A s kb ((k, v) :: r) b) : (valueAt kb k = none ∧ b = false) ∨ ∃ y e c, valueAt kb k = some y ∧ EqW P W A s v y e ∧ HitsW P W A s kb r c ∧ b = (e && c) := by
  cases h with
  | miss h => exact .inl ⟨h, rfl⟩
  | hit h he hr => exact .inr ⟨_, _, _, h, he, hr, rfl⟩
theorem pairsW {nm : String} {a b : Addr} {ka kb : List (K × Value)} {r : Bool} {Q : Bool → Shared → Prop} (la : (a == sysModules) = false) (lb : (b == sysModules) = false) (da : s.heap.DictOf knd a ka) (db : s.heap.DictOf knd b kb)
    (hits : ka.length = kb.length → HitsW P W A s kb ka r) (h : Q (ka.length == kb.length && r) s) : wpAny (model P W) A (Builtin.Dict.samePairs nm a b) Q E s := by
  obtain ⟨oa, ea, na, ga, _, qa, ha, pa, _⟩ := da
  obtain ⟨ob, eb, nb, gb, _, qb, hb, pb, _⟩ := db
  have za : ka.length = ea.size := by rw [← pa.length]; exact Array.length_toList
  have zb : kb.length = eb.size := by rw [← pb.length]; exact Array.length_toList
  have look : ∀ k, findBy knd.is eb k = valueAt kb k := fun k => by
    rw [← pb.find k]
    clear zb pb hb qb gb
    obtain ⟨l⟩ := eb
    simp [findBy]
  rw [za, zb] at h
  unfold Builtin.Dict.samePairs Builtin.Dict.showsAll
  rw [if_neg (by rw [la]; decide), if_neg (by rw [lb]; decide)]
  refine wpAny_bind (wpAny_pure (wpAny_bind (wpAny_pure (wpAny_bind (wpAny_dictEntries ga qa ?_)))))
  dsimp only
  refine wpAny_bind (wpAny_dictEntries gb qb ?_)
  by_cases hz : ea.size = eb.size
  · have h' : Q r s := by simpa [hz] using h
    have hh := hits (by rw [za, zb]; exact hz)
    rw [if_neg (by rw [hz]; simp)]
    refine wpAny_bind (wpAny_dictEpoch ga qa (wpAny_bind ?_))
    rw [Std.Legacy.Range.forIn_eq_forIn_range']
    simp only [Std.Legacy.Range.size, Nat.sub_zero, Nat.add_sub_cancel, Nat.div_one]
    refine wpAny_forIn_list _ (fun rest q s' => s' = s ∧ q = (none, ()) ∧ ∃ i, rest = List.range' i (ea.size - i) ∧ i ≤ ea.size ∧ HitsW P W A s kb (ka.drop i) r) _ ?_ ?_ _ _ ⟨rfl, rfl, 0, by simp, Nat.zero_le _, hh⟩
    · rintro x rest q s' ⟨rfl, rfl, i, hr, hi, hp⟩
      have lt : i < ea.size := by
        rcases Nat.lt_or_ge i ea.size with c | c
        · exact c
        · rw [Nat.sub_eq_zero_of_le c] at hr; simp at hr
      have e0 : ea.size - i = (ea.size - (i + 1)) + 1 := by omega
      rw [e0, List.range'_succ] at hr
      injection hr with hx hrest
      subst hx
      refine wpAny_bind (wpAny_dictEntries ga qa ?_)
      rw [Array.getElem?_eq_getElem lt]
      have lt' : x < ka.length := by rw [za]; exact lt
      obtain ⟨k, v, hkv⟩ : ∃ k v, ka[x] = (k, v) := ⟨_, _, rfl⟩
      have hdrop : ka.drop x = (k, v) :: ka.drop (x + 1) := by rw [← hkv]; exact List.drop_eq_getElem_cons lt'
      obtain ⟨hkey, hval⟩ := pa.get? (i := x) (e := ea[x]) (k := k) (v := v) (by rw [Array.getElem?_toList]; exact Array.getElem?_eq_getElem lt) (by rw [List.getElem?_eq_getElem lt', hkv])
      obtain ⟨k', hk', hs⟩ := ha ea[x] (Array.getElem_mem lt)
      rw [knd.inj _ _ _ hk' hkey] at hs
      rw [hdrop] at hp
      show wpAny _ _ (holding [ea[x].key, ea[x].val] _ >>= _) _ _ _
      rw [hs]
      refine wpAny_bind (wpAny_holding (wpAny_bind (wpAny_dictFind_of hkey gb qb hb ?_)))
      cases hj : eb.findIdx? fun e => knd.is k e.key with
      | none =>
        have hn : valueAt kb k = none := by rw [← look k, findBy_of_findIdx?, hj]
        rcases hp.inv with ⟨_, er⟩ | ⟨y, _, _, hy, _⟩
        · rw [er] at h'
          refine wpAny_pure ?_
          show wpAny _ _ (if (!false) = true then _ else _) _ _ _
          rw [if_pos (by decide)]
          exact wpAny_pure (wpAny_pure h')
        · rw [hn] at hy; exact nomatch hy
      | some j =>
        obtain ⟨jl, _, _⟩ := Array.findIdx?_eq_some_iff_getElem.mp hj
        have hv' : valueAt kb k = some eb[j].val := by
          rw [← look k, findBy_of_findIdx?, hj]
          simp [Array.getElem?_eq_getElem jl]
        refine wpAny_bind (wpAny_dictEntries gb qb ?_)
        rw [Array.getElem?_eq_getElem jl]
        rcases hp.inv with ⟨hn, _⟩ | ⟨y, e, c, hy, he, hrr, er⟩
        · rw [hv'] at hn; exact nomatch hn
        · have ey : eb[j].val = y := Option.some.inj (hv'.symm.trans hy)
          rw [← ey, ← hval] at he
          refine wpAny_holding (he _ _ ?_)
          cases e with
          | false =>
            rw [er, Bool.false_and] at h'
            show wpAny _ _ (if (!false) = true then _ else _) _ _ _
            rw [if_pos (by decide)]
            exact wpAny_pure (wpAny_pure h')
          | true =>
            rw [Bool.true_and] at er
            rw [← er] at hrr
            show wpAny _ _ (if (!true) = true then _ else _) _ _ _
            rw [if_neg (by decide)]
            refine wpAny_bind (wpAny_dictEpoch ga qa ?_)
            rw [if_neg (by simp)]
            exact wpAny_pure ⟨rfl, rfl, x + 1, hrest, lt, hrr⟩
    · rintro q s' ⟨rfl, rfl, i, hr, hi, hp⟩
      have hin : i = ea.size := by
        rcases Nat.lt_or_ge i ea.size with c | c
        · have e : ea.size - i = (ea.size - (i + 1)) + 1 := by omega
          rw [e, List.range'_succ] at hr; exact nomatch hr
        · omega
      refine wpAny_pure ?_
      rw [hin, ← za, List.drop_length] at hp
      cases hp
      exact h'
  · rw [if_pos (by simpa using hz)]
    have hf : (ea.size == eb.size) = false := by simpa using hz
    rw [hf, Bool.false_and] at h
    exact wpAny_bind (wpAny_rule (wpAny_pure h))
theorem RcW.recs {a b : Addr} {ka kb : List (K × Value)} {r : Bool} (la : (a == sysModules) = false) (lb : (b == sysModules) = false) (da : s.heap.DictOf knd a ka) (db : s.heap.DictOf knd b kb) (hu : A.units < cLine)
    (hits : ka.length = kb.length → HitsW P W A.in1 s kb ka r) : RcW P W A s (.ref a) (.ref b) (ka.length == kb.length && r) := fun E Q h => by
  refine wpAny_richCompare_same_room (op := .Eq) da.typeIs db.typeIs PySem.F.slot_dict_eq (wpAny_call_entry PySem.F.slot_dict_eq da.typeIs PySem.F.entry_dict_eq ?_ (PySem.F.args_dict_eq_2 _ _)) hu
  show wpAny _ _ (Builtin.Dict.dictSlotArgs "__eq__" ⟨[.ref a, .ref b], []⟩ >>= _) _ _ s
  refine wpAny_bind ?_
  unfold Builtin.Dict.dictSlotArgs
  refine wpAny_bind (wpAny_notOrdered_dict da.typeIs ?_)
  show wpAny _ _ (pure (Value.ref a, Value.ref b)) _ _ s
  refine wpAny_pure (wpAny_bind (wpAny_isInstance (T := "dict") db.typeIs PySem.F.sub_dict_dict ?_))
  simp only [Bool.not_true, Bool.false_eq_true, if_false]
  refine wpAny_bind (wpAny_pure (wpAny_bind (wpAny_pure (wpAny_bind (pairsW la lb da db hits ?_)))))
  refine wpAny_pure ⟨_, rfl, (fun x => nomatch x), ?_⟩
  simpa using h
end
end Mi
namespace Mi
open PySem L2 PySem.W PySem.Spec
section
variable {P : Program} {W : World}
end
end Mi
namespace Mi
open PySem L2 PySem.W PySem.Spec
def isDic : Option SO → Bool
  | some (.dic _ _) => true
  | _ => false
def kindN (st : Sto) : PV → Option Nat
  | .int _ => some 0
  | .str _ => some 1
  | .tup _ => some 2
  | .ref a => if isDic st[a]? = true then some 3 else none
  | _ => none
def eqDD (f : PV → PV → Option Bool) : Option SO → Option SO → Option Bool
  | some (.dic ks xs), some (.dic ks' xs') => if ks.Nodup ∧ ks.length = xs.length then if ks.length = ks'.length then hitsE f ks' xs' ks xs else some false else none
  | _, _ => none
def eqN : Option Nat → Option Nat → Option Bool
  | some i, some j => if i = j then none else some false
  | _, _ => none
def eqT (st : Sto) : Nat → PV → PV → Option Bool
  | 0, _, _ => none
  | n + 1, x, y => match x, y with
    | .int a, .int b => some (a == b)
    | .str a, .str b => some (a == b)
    | .tup xs, .tup ys => allE (eqT st n) xs ys
    | .ref a, .ref b => eqDD (eqT st n) st[a]? st[b]?
    | x, y => eqN (kindN st x) (kindN st y)
section
variable {X : Cx} {Er : XK} {K : Frag} {mg : Str → Option Value} {ρ : List Addr} {pins : List (Addr × Obj)} {σ : L2.St} {H : Hp} {s : Shared} {st : Sto}
inductive Kn (K : Frag) (mg : Str → Option Value) (ρ : List Addr) (H : Hp) (st : Sto) : PV → V → Nat → Prop
  | num (i : Int) : Kn K mg ρ H st (.int i) (.int i) 0
  | txt (z : Str) : Kn K mg ρ H st (.str z) (.str z) 1
  | row {xs : List PV} {a : Addr} {vs : List V} (h : SqT K H a vs) (r : Rs K mg ρ H xs vs) : Kn K mg ρ H st (.tup xs) (.ref a) 2
  | rec_ {n : Nat} {a : Addr} {ks : List Str} {xs : List PV} {vs : List V} (e : st[n]? = some (.dic ks xs)) (ha : ρ[n]? = some a) (h : H a = some (.dK (kz ks vs))) (r : Rs K mg ρ H xs vs) (l : ks.length = vs.length) : Kn K mg ρ H st (.ref n) (.ref a) 3
theorem Kn.of (S : StR K mg ρ H st) {x : PV} {v : V} {i : Nat} (r : R K mg ρ H x v) (h : kindN st x = some i) : Kn K mg ρ H st x v i := by
  cases x with
  | int j => cases h; cases r; exact .num j
  | str z => cases h; cases r; exact .txt z
  | tup xs => cases h; obtain ⟨a, vs, rfl, h1, h2⟩ := r; exact .row h1 h2
  | ref n =>
    simp only [kindN] at h
    split at h
    · rename_i hd
      cases h
      cases e : st[n]? with
      | none => rw [e] at hd; cases hd
      | some so =>
        cases so with
        | dic ks xs =>
          obtain ⟨a, vs, rfl, ha, k1, k2, k3⟩ := R.refD S r e
          exact .rec_ e ha k1 k2 k3
        | lst _ => rw [e] at hd; cases hd
        | ins _ _ _ => rw [e] at hd; cases hd
        | fdi _ _ => rw [e] at hd; cases hd
    · cases h
  | _ => cases h
theorem zi3 (I : Inv X pins σ H s) {x y : PV} {v : V} {i j : Nat} (hx : Kn X.K mg ρ H st x v i) (hy : Kn X.K mg ρ H st y v j) : i = j := by
  cases hx with
  | num => cases hy; rfl
  | txt => cases hy; rfl
  | row h1 r1 =>
    cases hy with
    | row => rfl
    | rec_ e ha h2 =>
      obtain ⟨_, _, kv, _, d⟩ := zdi I.hok (.inl h2)
      obtain ⟨its, _, p, _⟩ := I.tuple h1
      exact absurd rfl (zaV d p)
  | rec_ e ha h2 =>
    cases hy with
    | rec_ => rfl
    | row h1 r1 =>
      obtain ⟨_, _, kv, _, d⟩ := zdi I.hok (.inl h2)
      obtain ⟨its, _, p, _⟩ := I.tuple h1
      exact absurd rfl (zaV d p)
theorem znB (I : Inv X pins σ H s) {x y : PV} {v w : V} {u u' : Value} {i j : Nat} {A : Around} (hx : Kn X.K mg ρ H st x v i) (hy : Kn X.K mg ρ H st y w j) (rv : RelV v u) (rw : RelV w u') (hij : i ≠ j) (hu : A.units < cLine) : EqW X.prog X.w A s u u' false ∧ RcW X.prog X.w A s u u' false := by
  cases hx with
  | num a =>
    obtain ⟨t, rfl⟩ := rv
    cases hy with
    | num => exact absurd rfl hij
    | txt b => obtain ⟨t', rfl⟩ := rw; exact ⟨fun E Q q => SeqAt.EqAt.int_str a t b t' _ _ E Q q, fun E Q q => SeqAt.RcAt.int_str a t b t' _ _ E Q q⟩
    | row h1 r1 =>
      cases rw
      obtain ⟨its, _, p, _⟩ := I.tuple h1
      exact ⟨fun E Q q => SeqAt.EqAt.int_tuple a t p hu _ _ E Q q, fun E Q q => SeqAt.RcAt.int_tuple a t p hu _ _ E Q q⟩
    | rec_ e ha h2 =>
      cases rw
      obtain ⟨_, _, kv, _, d⟩ := zdi I.hok (.inl h2)
      exact ⟨.of_num (.num_rec d a t hu), .num_rec d a t hu⟩
  | txt a =>
    obtain ⟨t, rfl⟩ := rv
    cases hy with
    | txt => exact absurd rfl hij
    | num b => obtain ⟨t', rfl⟩ := rw; exact ⟨fun E Q q => SeqAt.EqAt.str_int a t b t' _ _ E Q q, fun E Q q => SeqAt.RcAt.str_int a t b t' _ _ E Q q⟩
    | row h1 r1 =>
      cases rw
      obtain ⟨its, _, p, _⟩ := I.tuple h1
      exact ⟨fun E Q q => SeqAt.EqAt.str_tuple a t p hu _ _ E Q q, fun E Q q => SeqAt.RcAt.str_tuple a t p hu _ _ E Q q⟩
    | rec_ e ha h2 =>
      cases rw
      obtain ⟨_, _, kv, _, d⟩ := zdi I.hok (.inl h2)
      exact ⟨.of_txt (.txt_rec d a t hu), .txt_rec d a t hu⟩
  | row h0 r0 =>
    cases rv
    obtain ⟨its, _, p, _⟩ := I.tuple h0
    cases hy with
    | row => exact absurd rfl hij
    | num b => obtain ⟨t', rfl⟩ := rw; exact ⟨fun E Q q => SeqAt.EqAt.tuple_int b t' p hu _ _ E Q q, fun E Q q => SeqAt.RcAt.tuple_int b t' p hu _ _ E Q q⟩
    | txt b => obtain ⟨t', rfl⟩ := rw; exact ⟨fun E Q q => SeqAt.EqAt.tuple_str b t' p hu _ _ E Q q, fun E Q q => SeqAt.RcAt.tuple_str b t' p hu _ _ E Q q⟩
    | rec_ e ha h2 =>
      cases rw
      obtain ⟨_, _, kv, _, d⟩ := zdi I.hok (.inl h2)
      have ne := zaV d p
      exact ⟨.of_ref (fun z => ne (by injection z with z; exact z.symm)) (.row_rec d p hu), .row_rec d p hu⟩
  | rec_ e0 ha0 h0 =>
    cases rv
    obtain ⟨_, _, kv, _, d⟩ := zdi I.hok (.inl h0)
    cases hy with
    | rec_ => exact absurd rfl hij
    | num b => obtain ⟨t', rfl⟩ := rw; exact ⟨.of_ref nofun (.rec_num d b t' hu), .rec_num d b t' hu⟩
    | txt b => obtain ⟨t', rfl⟩ := rw; exact ⟨.of_ref nofun (.rec_txt d b t' hu), .rec_txt d b t' hu⟩
    | row h1 r1 =>
      cases rw
      obtain ⟨its, _, p, _⟩ := I.tuple h1
      have ne := zaV d p
      exact ⟨.of_ref (fun z => ne (by injection z)) (.rec_row d p hu), .rec_row d p hu⟩
theorem zk0 {a b : Option Nat} {k : Bool} (h : eqN a b = some k) : ∃ i j, a = some i ∧ b = some j ∧ i ≠ j ∧ k = false := by
  unfold eqN at h
  split at h
  · split at h
    · cases h
    · rename_i i j c; cases h; exact ⟨i, j, rfl, rfl, c, rfl⟩
  · cases h
inductive EqC (st : Sto) (f : PV → PV → Option Bool) : PV → PV → Bool → Prop
  | num (a b : Int) : EqC st f (.int a) (.int b) (a == b)
  | txt (a b : Str) : EqC st f (.str a) (.str b) (a == b)
  | row {xs ys : List PV} {k : Bool} (h : allE f xs ys = some k) : EqC st f (.tup xs) (.tup ys) k
  | rec_ {a b : Nat} {k : Bool} (h : eqDD f st[a]? st[b]? = some k) : EqC st f (.ref a) (.ref b) k
  | apart {x y : PV} {i j : Nat} (hx : kindN st x = some i) (hy : kindN st y = some j) (h : i ≠ j) : EqC st f x y false
theorem zf4 {n : Nat} {x y : PV} {k : Bool} (h : eqT st (n + 1) x y = some k) : EqC st (eqT st n) x y k := by
  unfold eqT at h
  split at h
  · cases h; exact .num _ _
  · cases h; exact .txt _ _
  · exact .row h
  · exact .rec_ h
  · obtain ⟨i, j, h1, h2, h3, rfl⟩ := zk0 h
    exact .apart h1 h2 h3
theorem zf5 {f : PV → PV → Option Bool} {a b : Option SO} {k : Bool} (h : eqDD f a b = some k) : ∃ ks xs ks' xs', a = some (.dic ks xs) ∧ b = some (.dic ks' xs') ∧ ks.Nodup ∧ ks.length = xs.length ∧ ((ks.length = ks'.length ∧ hitsE f ks' xs' ks xs = some k) ∨ (ks.length ≠ ks'.length ∧ k = false)) := by
  unfold eqDD at h
  split at h
  · rename_i ks xs ks' xs'
    split at h
    · rename_i c
      split at h
      · rename_i c'; exact ⟨_, _, _, _, rfl, rfl, c.1, c.2, .inl ⟨c', h⟩⟩
      · rename_i c'; cases h; exact ⟨_, _, _, _, rfl, rfl, c.1, c.2, .inr ⟨c', rfl⟩⟩
    · cases h
  · cases h
theorem zf6 (I : Inv X pins σ H s) (S : StR X.K mg ρ H st) : ∀ (n : Nat) (x y : PV) (v : V) (b : Bool), eqT st n x y = some b → R X.K mg ρ H x v → R X.K mg ρ H y v → b = true := by
  intro n
  induction n with
  | zero => intro x y v b h; cases h
  | succ n ih =>
    intro x y v b h rx ry
    cases zf4 h with
    | num a c => cases rx; cases ry; simp
    | txt a c => cases rx; cases ry; simp
    | row h0 =>
      obtain ⟨a, vs, rfl, h1, h2⟩ := rx
      obtain ⟨a', ws, e, h3, h4⟩ := ry
      cases e
      have := I.tuple_inj h1 h3
      subst this
      exact zeX (fun x y v b => ih x y v b) h0 h2 h4
    | @rec_ i j _ h0 =>
      obtain ⟨a, rfl, h1⟩ := rx
      obtain ⟨a', e, h2⟩ := ry
      cases e
      obtain rfl := zhP S.nd h1 h2
      obtain ⟨ks, xs, ks', xs', e1, e2, nd, hl, hc⟩ := zf5 h0
      rw [e1] at e2
      cases e2
      obtain ⟨vs, _, k2, _⟩ := S.addr e1 h1
      rcases hc with ⟨_, hc⟩ | ⟨hc, _⟩
      · exact zeY (fun x v b e r => ih x x v b e r r) (zbE nd) hc k2
      · exact absurd rfl hc
    | apart hx hy hij => exact absurd (zi3 I (Kn.of S rx hx) (Kn.of S ry hy)) hij
theorem zf7 {A : Around} {f : PV → PV → Option Bool} (hf : ∀ x y v w u u' b, f x y = some b → R K mg ρ H x v → R K mg ρ H y w → RelV v u → RelV w u' → EqW X.prog X.w A s u u' b) {ks' : List Str} {xs' : List PV} {ws : List V} {kb : List (Key × Value)} (r' : Rs K mg ρ H xs' ws) (kv' : KV (kz ks' ws) kb) :
    ∀ {ks : List Str} {xs : List PV} {vs : List V} {ka : List (Key × Value)} {b : Bool}, ks.length = vs.length → Rs K mg ρ H xs vs → KV (kz ks vs) ka → hitsE f ks' xs' ks xs = some b → HitsW X.prog X.w A s kb ka b
  | [], xs, [], ka, b, _, _, kv, h => by
    have : b = true := by cases xs <;> (cases h; rfl)
    subst this
    cases kv
    exact .nil
  | [], xs, _ :: _, ka, b, hl, _, _, _ => by simp at hl
  | k :: ks, xs, [], ka, b, hl, _, _, _ => by simp at hl
  | k :: ks, xs, v :: vs, ka, b, hl, r, kv, h => by
    obtain ⟨u, ka', rfl, ru, kv2⟩ := zhQ kv
    cases xs with
    | nil => cases r
    | cons x xs =>
      obtain ⟨v', rs', e, r1, r2⟩ := r
      cases e
      simp only [hitsE] at h
      have hv := kv'.val (Sum.inr k)
      rw [zfy] at hv
      cases hl2 : (ks'.zip xs').lookup k with
      | none =>
        rw [hl2] at h
        cases h
        rw [zeZ r' hl2] at hv
        cases hu : valueAt kb (Sum.inr k) with
        | none => exact .miss hu
        | some _ => rw [hu] at hv; exact (show False from hv).elim
      | some y =>
        rw [hl2] at h
        simp only at h
        cases h1 : f x y with
        | none => rw [h1] at h; cases h
        | some a =>
          cases h2 : hitsE f ks' xs' ks xs with
          | none => rw [h1, h2] at h; cases h
          | some c =>
            rw [h1, h2] at h
            cases h
            obtain ⟨w, hw, rw'⟩ := zca r' hl2
            rw [hw] at hv
            cases hu : valueAt kb (Sum.inr k) with
            | none => rw [hu] at hv; exact (show False from hv).elim
            | some u' =>
              rw [hu] at hv
              exact .hit hu (hf x y v w u u' a h1 r1 rw' ru hv) (zf7 hf r' kv' (by simpa using hl) r2 kv2 h2)
theorem zi4 (I : Inv X pins σ H s) (S : StR X.K mg ρ H st) : ∀ (n : Nat) (x y : PV) (v w : V) (u u' : Value) (b : Bool) (A : Around), eqT st n x y = some b → R X.K mg ρ H x v → R X.K mg ρ H y w → RelV v u → RelV w u' → A.units + n < cLine →
    EqW X.prog X.w A s u u' b ∧ RcW X.prog X.w A s u u' b := by
  intro n
  induction n with
  | zero => intro x y v w u u' b A h; cases h
  | succ n ih =>
    intro x y v w u u' b A h rx ry rv rw hu
    cases zf4 h with
    | num a c => cases rx; cases ry; obtain ⟨t, rfl⟩ := rv; obtain ⟨t', rfl⟩ := rw; exact ⟨fun E Q q => SeqAt.EqAt.int_int a t c t' _ _ E Q q, fun E Q q => SeqAt.RcAt.int_int a t c t' _ _ E Q q⟩
    | txt a c => cases rx; cases ry; obtain ⟨t, rfl⟩ := rv; obtain ⟨t', rfl⟩ := rw; exact ⟨fun E Q q => SeqAt.EqAt.str_str a t c t' _ _ E Q q, fun E Q q => SeqAt.RcAt.str_str a t c t' _ _ E Q q⟩
    | row h0 =>
      obtain ⟨a, vs, rfl, h1, h2⟩ := id rx
      obtain ⟨a', ws, rfl, h3, h4⟩ := id ry
      cases rv
      cases rw
      obtain ⟨its, r1, p1, _⟩ := I.tuple h1
      obtain ⟨its2, r2, p2, _⟩ := I.tuple h3
      obtain ⟨e, he, hb⟩ := zeW h0
      have it := zi2 (G := EqW X.prog X.w A.in1 s) (fun x y v w u u' b e r1 r2 r3 r4 => (ih x y v w u u' b A.in1 e r1 r2 r3 r4 (by rw [zdE]; omega)).1) h2 h4 r1 r2 he
      have eb : ((List.range (min its.toArray.size its2.toArray.size)).all e && its.toArray.size == its2.toArray.size) = b := by
        rw [h2.len, h4.len, r1.length, r2.length] at hb
        simpa using hb
      have rc : RcW X.prog X.w A s (.ref a) (.ref a') b := by
        rw [← eb]
        exact RcW.tuples (show s.heap.IsTuple a its.toArray from p1) (show s.heap.IsTuple a' its2.toArray from p2) (by omega) it
      refine ⟨?_, rc⟩
      by_cases hab : a = a'
      · subst hab
        rw [zf6 I S (n + 1) _ _ _ _ h rx ry]
        exact fun E Q q => SeqAt.EqAt.same _ _ _ E Q q
      · exact .of_refs hab rc
    | @rec_ i j _ h0 =>
      obtain ⟨a, rfl, h1⟩ := id rx
      obtain ⟨a', rfl, h2⟩ := id ry
      cases rv
      cases rw
      obtain ⟨ks, xs, ks', xs', e1, e2, nd, hl, hc⟩ := zf5 h0
      obtain ⟨vs, k1, k2, k3⟩ := S.addr e1 h1
      obtain ⟨ws, k4, k5, k6⟩ := S.addr e2 h2
      obtain ⟨_, s1, ka, kva, da⟩ := zdi I.hok (.inl k1)
      obtain ⟨_, s2, kb, kvb, db⟩ := zdi I.hok (.inl k4)
      have la : ka.length = ks.length := by rw [← kva.length]; simp [kz, k3]
      have lb : kb.length = ks'.length := by rw [← kvb.length]; simp [kz, k6]
      have both : RcW X.prog X.w A s (.ref a) (.ref a') b := by
        rcases hc with ⟨hkk, hc⟩ | ⟨hkk, rfl⟩
        · have hits : ka.length = kb.length → HitsW X.prog X.w A.in1 s kb ka b := fun _ => zf7 (fun x y v w u u' b e r1 r2 r3 r4 => (ih x y v w u u' b A.in1 e r1 r2 r3 r4 (by rw [zdE]; omega)).1) k5 kvb k3 k2 kva hc
          have hbb : (ka.length == kb.length && b) = b := by rw [la, lb, hkk]; simp
          rw [← hbb]
          exact RcW.recs s1 s2 da db (by omega) hits
        · have hbb : (ka.length == kb.length && true) = false := by rw [la, lb]; simpa using hkk
          rw [← hbb]
          exact RcW.recs s1 s2 da db (by omega) fun z => absurd (by rw [← la, ← lb]; exact z) hkk
      refine ⟨?_, both⟩
      by_cases hab : a = a'
      · subst hab
        rw [zf6 I S (n + 1) _ _ _ _ h rx ry]
        exact fun E Q q => SeqAt.EqAt.same _ _ _ E Q q
      · exact .of_refs hab both
    | apart hx hy hij => exact znB I (Kn.of S rx hx) (Kn.of S ry hy) rv rw hij (by omega)
def oEqT : PV → PV → Mo PV := fun x y st => match eqT st 150 x y with
  | some b => .ok (.bl b) st
  | none => .stuck
def rEqT (K : Frag) (mg : Str → Option Value) : R2 := fun v w H Q => ∃ ρ st x y b, StR K mg ρ H st ∧ eqT st 150 x y = some b ∧ R K mg ρ H x v ∧ R K mg ρ H y w ∧ Q (.bl b) H
theorem zk1 (hu : X.A.units + 200 < cLine) : OpR X (compareOp .Eq) (rEqT X.K X.mg) := by
  intro pins s σ H x y v u Q I rx ry h
  obtain ⟨ρ, st, a, b, k, S, e, ra, rb, q⟩ := h
  exact (zi4 I S 150 a b x y v u k X.A e ra rb rx ry (by omega)).2 _ _ ⟨.bl k, H, I, rfl, q⟩
theorem zhR (hu : X.A.units + 200 < cLine) : CmpOk X .Eq oEqT := ⟨_, zk1 hu, fun ρ H st x y v w Q E s rx ry h => by
  unfold oEqT at h
  cases e : eqT st 150 x y with
  | none => rw [e] at h; exact False.elim h
  | some b => rw [e] at h; exact ⟨ρ, st, x, y, b, s, e, rx, ry, h.now s _ rfl⟩⟩
end
end Mi
namespace Mi
open PySem L2 PySem.W PySem.Spec
section
variable {X : Cx} {Er : XK} {K : Frag} {mg : Str → Option Value} {ρ : List Addr} {pins : List (Addr × Obj)} {σ : L2.St} {H : Hp} {s : Shared} {st : Sto} {o : Expr} {fo : PEnv → Mo PV} {apos cpos p0 pos0 : Pos}
open Classical in
noncomputable def eInT (K : Frag) (mg : Str → Option Value) (ρ : List Addr) (H : Hp) (st : Sto) (ys : List PV) (x : PV) (u : Value) : Bool := decide (∃ y v, y ∈ ys ∧ R K mg ρ H y v ∧ RelV v u ∧ eqT st 150 y x = some true)
open Classical in
theorem zf8 : ∀ {ks : List Str} {vs : List V} {kv : List (Key × Value)}, ks.length = vs.length → KV (kz ks vs) kv → Vals vs (kv.map (·.2))
  | [], [], _, _, h => by cases h; exact .nil
  | [], _ :: _, _, hl, _ => by simp at hl
  | _ :: _, [], _, hl, _ => by simp at hl
  | k :: ks, v :: vs, kv, hl, h => by
    obtain ⟨u, r, rfl, h1, h2⟩ := zhQ h
    exact .cons h1 (zf8 (by simpa using hl) h2)
def tLV (to : TE) : TE := fun σ H Q => to σ H fun x H1 => ∃ a ks vs, x = .ref a ∧ H1 a = some (.dK (kz ks vs)) ∧ ks.length = vs.length ∧ ∀ l, H1 l = none → Q (.ref l) (upd H1 l (.lst vs))
theorem zfE {to : TE} (hc : X.calm = true) (hg0 : Gl X "list") (hm0 : X.mg "list" = none) (ho : PE X o to) (hbase : attributeBase o "values" X.env (eval o X.env) = eval o X.env) (hline : (apos.endLine == cpos.line) = true) :
    PE X (.Call (.Name "list" p0) [.Call (.Attribute o "values" apos) [] [] cpos] [] pos0) (tLV to) := by
  intro pins s σ H Q I h
  refine PyProof.Rows.Call_ (zcA I hg0 hm0 zhw (PyProof.Rows.callWith_type1 ?_ rfl rfl))
  show wpAny _ _ (spliced ((false, eval (.Call (.Attribute o "values" apos) [] [] cpos) X.env) :: backTo pos0 (starEach [] X.env))) _ _ s
  refine Calls.spliced_cons ?_
  refine wpAny_Call_method0_late hbase hline (thn (ho pins s σ H _ I h) fun v s1 ⟨x, H1, I1, r1, q1⟩ => ?_)
  obtain ⟨a, ks, vs, rfl, e, hl, q⟩ := q1
  obtain rfl : v = Value.ref a := r1
  obtain ⟨hz, lo, kv, kvr, hd⟩ := zdi I1.hok (.inl e)
  obtain ⟨ep, hat⟩ := hd.dictAt
  refine ⟨"dict", "dict.values", PySem.F.plainAttrs_dict, PySem.F.slot_dict_values, PySem.F.type_dict_values, ?_, ?_, Calls.callWith_builtin rfl (PySem.evalArgs_none (call_meetsIn PySem.F.slot_dict_values hd.typeIs PySem.F.entry_dict_values (PySem.F.args_dict_values_1 _) (meets_dict_values (mixKind X.prog X.w) a lo) ⟨⟨kv, hd⟩, ?_⟩))⟩
  · exact (zfQ I1 (x := .ref a) rfl (.inr (.inr (.inl ⟨rfl, .inl ⟨_, e⟩⟩)))).1
  · exact (zfQ I1 (x := .ref a) rfl (.inr (.inr (.inl ⟨rfl, .inl ⟨_, e⟩⟩)))).2
  refine Calls.spliced_nil ?_
  have hle : s1.heap.objs.size ≤ (s1.heap.push { cls := .type "dict_values", data := .fields #[.ref a] }).objs.size := by rw [Heap.size_push]; exact Nat.le_succ _
  refine kdl_call (s := { s1 with heap := s1.heap.push { cls := .type "dict_values", data := .fields #[.ref a] } }) (kdl_values (knd := mixKind X.prog X.w) (kvs := kv) (ep := ep)) (I.ok.hd hc) ⟨⟨_, Heap.get?_push_size _ rfl, rfl, rfl⟩, hat.push _⟩ (by rw [← kvr.length]; exact hz) fun h' tk acc' c' hk hS hitems => ?_
  have ev : acc'.toList = kv.map (·.2) := kdl_vals_eq _ (by rw [Array.length_toList]; exact hitems.1) fun j u e => hitems.2 j u (by rw [← Array.getElem?_toList]; exact e)
  have hv : Vals vs acc'.toList := by rw [ev]; exact zf8 hl kvr
  have lv : vs.length ≤ sizeLine := by
    have : (kz ks vs).length = vs.length := by simp [kz, hl]
    rw [← this]; exact hz
  exact ⟨.ref _, _, I1.laid (t' := tk) (fun b ob eb => hk b ob (Heap.get?_push_of_some _ eb)) hle (show ObjOk X.prog X.w _ h' _ (.lst vs) from ⟨lv, acc'.toList, c', hv, by simpa using hS⟩), rfl, q _ (I1.hok.fresh hle)⟩
def oVals : PV → Mo PV
  | .ref n, st => withD st n fun _ xs => .ok (.ref st.length) (st ++ [.lst xs])
  | _, _ => .stuck
theorem zgI (hc : X.calm = true) (hm0 : X.mg "list" = none) (ho : ME X Er o fo) (hg0 : Gl X "list" := by rfl) (hbase : attributeBase o "values" X.env (eval o X.env) = eval o X.env := by rfl) (hline : (apos.endLine == cpos.line) = true := by rfl) :
    ME X Er (.Call (.Name "list" p0) [.Call (.Attribute o "values" apos) [] [] cpos] [] pos0) (mUn oVals fo) :=
  PE.weak (zfE hc hg0 hm0 ho hbase hline) fun σ H Q ⟨env, st, ρ, re, rs, h⟩ => ⟨env, st, ρ, re, rs, h.then fun ρ1 H1 x st1 e1 s1 h1 v rv => by
    cases x with
    | ref n =>
      obtain ⟨ks, xs, e, h1⟩ := zeN h1
      obtain ⟨a, vs, rfl, _, k1, k2, k3⟩ := R.refD s1 rv e
      exact ⟨a, ks, vs, rfl, k1, k3, fun l hl => Out.newList (xs := xs) h1 s1 k2 hl⟩
    | _ => exact False.elim h1⟩
end
end Mi
namespace L2
open PySem PySem.Spec PyProof.Rows
def tSetComp (iy : Nat) (wi : TI) (te : TE) : TS := fun D σ H => wi σ H fun J H1 => CompW J te σ (fun v H2 => D.nx (σ.set iy (some v)) H2) H1
theorem zgJ {X : Cx} {elt iter : Expr} {x y : Str} {px pos pos' spos : Pos} {scope : Scope} {wi : TI} {te : TE} {M : List Str} {iy : Nat} (hc : X.calm = true) (S : CompSc X.env.scope scope x) (eN : Hid scope M X.N) (hN0 : ((".0" : Str) :: x :: M).Nodup)
    (hi : PI X (.Name x px) iter wi) (he : ∀ cl C s₂ H₂ fp, PE (cxH X M scope cl x C s₂ H₂ fp (fun _ _ => False)) elt te) (hNX : X.N.Nodup) (hiy : X.N[iy]? = some y) (hy : Loc X.env.scope y) (hfy : X.fn y = true ∨ X.env.scope.names.lookup y = some .local)
    (hsw : swapsWith (.ListComp elt [⟨.Name x px, iter, [], 0⟩] scope pos) (some (.Name y pos')) spos.line X.env = pure true) (hs : ∀ v, foldedSetIterable iter X.env v = pure v := by intro _; rfl) : PS X (.Assign [.Name y pos'] (.ListComp elt [⟨.Name x px, iter, [], 0⟩] scope pos) spos) (tSetComp iy wi te) := by
  intro pins s σ H Dn I h
  have hN : (x :: M).Nodup := (List.nodup_cons.mp hN0).2
  have h0N : (".0" : Str) ∉ M := fun z => (List.nodup_cons.mp hN0).1 (List.mem_cons_of_mem _ z)
  obtain ⟨cl, hclos, hcl1, hcl2⟩ := zjt X.env scope fun p hp hf => I.ok.has p.1 (.inl (S.free p hp hf))
  have hkd : X.env.scope.kind = .function := I.ok.kind
  rw [exec_Assign_Name_used _ _ _ _ hsw]
  refine wpAny_bind (wpAny_standAt ?_)
  rw [arm_evalThenUse_ListComp]
  refine wpAny_bind (wpAny_bind (wpAny_comprehension_free (Q := fun _ s' => wpAny (model X.prog X.w) X.A (pure () : Sem Unit) (fun _ s' => wpAny (model X.prog X.w) X.A (pure .next : Sem Flow) (SP X pins Dn) X.xe s') X.xe s') (use := some (assign (.Name y pos') X.env)) rfl hs hclos S.kind (fun y hy hl => (S.names y hy hl).1) ?_))
  refine thn (hi pins s σ H _ I h) fun v s1 h1 => thn h1 fun itv s₂ h2 => ?_
  obtain ⟨it, fp, tn, J, H2, e, I2, T, st2, f2, W, ⟨m0, w0⟩, turn⟩ := h2
  subst e
  refine wpAny_newObj_type (wpAny_newFunctionEnv S.ncell (by intro y hy; simp at hy) (fun h₁ hns₁ hsb₁ => ?_) S.kind)
  dsimp only at hns₁ hsb₁ ⊢
  generalize hH2 : s₂.heap.push { cls := .type "list", dict := none, data := .seq ([] : List Value).toArray } = G2 at hns₁ hsb₁ ⊢
  have hC : G2.objs.size = s₂.heap.objs.size + 1 := by rw [← hH2, Heap.size_push]
  have hDC : s₂.heap.objs.size ≠ G2.objs.size := by rw [hC]; exact Nat.ne_of_lt (Nat.lt_succ_self _)
  have hCle : s₂.heap.objs.size ≤ G2.objs.size := by rw [hC]; exact Nat.le_succ _
  have old : ∀ b o, s₂.heap.get? b = some o → h₁.get? b = some o := fun b o e => by
    have hb : b ≠ G2.objs.size := by rw [hC]; exact Nat.ne_of_lt (Nat.lt_succ_of_lt (Heap.lt_size e))
    exact hsb₁.extBut b o hb (Heap.get?_push_of_some _ (hH2 ▸ Heap.get?_push_of_some _ e))
  have hacc : h₁.get? s₂.heap.objs.size = some { cls := .type "list", data := .seq (#[] : Array Value) 0 } := hsb₁.extBut _ _ hDC (Heap.get?_push_of_some _ (hH2 ▸ Heap.get?_push_size _ rfl))
  generalize hD : s₂.heap.objs.size = D at *
  generalize hCC : G2.objs.size = C at *
  have ltS : ∀ {b : Nat} {o : Obj}, s₂.heap.get? b = some o → b < D := fun e => by rw [← hD]; exact Heap.lt_size e
  have nofr : ∀ b, D ≤ b → b ∉ frs X.stack := fun b hb z => by
    rcases List.mem_cons.mp (I2.stkSub b z) with q | q
    · exact ar1 I2.lt hD hb q
    · exact I2.nofs (by rw [hD]; exact hb) q
  let E' : Value → Shared → Prop := notedBy (model X.prog X.w) X.A (compEnvC scope cl C X.env) fun e s' => compPost (model X.prog X.w) X.A X.xe (some (assign (.Name y pos') X.env)) (fun _ s' => wpAny (model X.prog X.w) X.A (pure () : Sem Unit) (fun _ s' => wpAny (model X.prog X.w) X.A (pure .next : Sem Flow) (SP X pins Dn) X.xe s') X.xe s') (.ref D) C (.error e) s'
  let Y : Cx := cxH X M scope cl x C s₂ H2 fp E'
  have fpX : ∀ b ∈ fp, FpOk X pins H2 b := f2
  have okY : Y.Ok := by
    refine ⟨I2.ok.mod, S.kind, I2.ok.glob, I2.ok.blt, (by show s₂.heap.objs.size ≤ C; omega), fun y z c h1 h2 => ?_, fun y hy => ?_, fun y c hf => ?_, I2.ok.hd, I2.ok.frames, .inl rfl, fun b hb => ?_, I2.bs, Nat.le_trans I2.ok.bsz I2.sz, fun b o hb hx => ?_, fun b hb hx => ?_, I2.stack, I2.stkFree⟩
    · exact I2.ok.inj y z c (hcl1 y c h1) (hcl1 z c h2)
    · exact hcl2 y (zb9 S hkd hy)
    · cases hf
    · refine ⟨fun z => ?_, fun y c hy => (fpX b hb).2.2.2.2.1 y c (hcl1 y c hy)⟩
      obtain ⟨o, ho, _⟩ := T.obj 0 _ st2 b hb
      exact ar2 (ltS ho) hC z
    · rcases (fpX b hx).2.2.2.1 with z | z
      · exact I2.ok.noex b o hb z
      · exact ar3 (Heap.lt_size hb) I2.ok.bsz z
    · rcases List.mem_cons.mp (I2.stkSub b hx) with q | q
      · exact (fpX b hb).2.1 q
      · exact (fpX b hb).2.2.1 q
  have hpinD : ∀ {s' : Shared} {H' : Hp} {o : Obj}, s'.heap.get? D = some o → H' D = none → (∀ v, o.data ≠ .cell v) → ∀ p ∈ [(D, o)], s'.heap.get? p.1 = some p.2 ∧ H' p.1 = none ∧ p.1 ≠ Y.env.locals ∧ p.1 ∉ Y.fs ∧ ∀ v, p.2.data ≠ .cell v := fun {s' H' o} e1 e2 e3 p hp => by
    have ep : p = (D, o) := by simpa using hp
    subst ep
    exact ⟨e1, e2, hDC, nofr D (Nat.le_refl _), e3⟩
  have I0 : Inv Y [(D, { cls := .type "list", data := .seq (#[] : Array Value) 0 })] (none :: σ) H2 { s₂ with heap := h₁, toks := s₂.toks + ([] : List (Str × Value)).length } := by
    have fresh : ∀ b, D ≤ b → H2 b = none := fun b hb => I2.hok.fresh (by rw [hD]; exact hb)
    refine ⟨okY, rfl, I2.bare, Un.kept old, ⟨_, hns₁, fun i y v e1 e2 e3 => ?_⟩, fun y c hy => ?_, fresh C (by omega), fun y c hy => I2.freeC y c (hcl1 y c hy), fun p hp => hpinD hacc (fresh D (Nat.le_refl _)) (fun v z => by cases z) p hp, I2.hok.kept old, ?_⟩
    · cases i with
      | zero => simp at e2
      | succ i =>
        have e0' : M[i]? = some y := by simpa [Y, cxH] using e1
        have e1' : X.N[i]? = some y := by
          rcases eN.get e0' with q | q
          · exact q
          · refine absurd ?_ q
            rcases e3 with e3 | e3 | e3 <;> (obtain ⟨k0, hm, _⟩ := zdA e3; exact List.mem_map.mpr ⟨_, hm, rfl⟩)
        have e2' : σ[i]? = some (some v) := by simpa using e2
        have hyx : ¬ (y = x ∨ y = ".0") := fun z => by
          have hm := List.mem_of_getElem? e0'
          rcases z with z | z
          · rw [z] at hm
            exact (List.nodup_cons.mp hN).1 hm
          · rw [z] at hm
            exact h0N hm
        have hfr : (y, NameKind.free) ∈ scope.names := by
          rcases e3 with e3 | e3 | e3
          · exact absurd (zcB S e3) hyx
          · exact zb9 S hkd (.inl e3)
          · exact zb9 S hkd (.inr e3)
        have hkc : X.env.scope.names.lookup y = some .cell := S.free _ hfr rfl
        obtain ⟨m, hn, hl⟩ := I2.loc
        obtain ⟨u, r, l⟩ := hl i y v e1' e2' (.inr (.inl hkc))
        refine ⟨u, r, ?_⟩
        rcases l with ⟨hk, _⟩ | ⟨_, c, hcc, hcell⟩
        · have : X.env.kindOf y = some .cell := hkc
          rw [this] at hk; cases hk
        · obtain ⟨c', hc'⟩ := hcl2 y hfr
          have := hcl1 y c' hc'
          rw [hcc] at this
          cases this
          refine .inr ⟨?_, c, hc', ?_⟩
          · rcases e3 with e3 | e3 | e3
            · exact absurd (zcB S e3) hyx
            · exact .inl e3
            · exact .inr e3
          · obtain ⟨o, ho, hd⟩ := hcell
            exact ⟨o, old c o ho, hd⟩
    · obtain ⟨v, o, ho, hd⟩ := I2.cell y c (hcl1 y c hy)
      exact ⟨v, o, old c o ho, hd⟩
    · show (none :: σ).length = (x :: M).length
      simp [I2.len, eN.1]
  have fpY : ∀ {pl : List (Addr × Obj)} {H' : Hp}, (∀ p ∈ pl, p.1 = D) → (∀ b ∈ fp, H' b = none) → ∀ b ∈ fp, FpOk Y pl H' b := fun {pl H'} hpl hn b hb => by
    obtain ⟨o, ho, _⟩ := T.obj 0 _ st2 b hb
    refine ⟨hn b hb, fun z => ?_, ?_, .inl hb, (okY.exf b hb).2, fun p hp z => ?_⟩
    · exact ar2 (ltS ho) hC z
    · exact okY.exfs b hb
    · have hp' : p ∈ pl := by simpa [Y, cxH] using hp
      exact ar4 (ltS ho) (hpl p hp') z
  have loop : codeAny (model X.prog X.w) X.A (.compLoop (.ListComp elt [⟨.Name x px, iter, [], 0⟩] scope pos) 0 (.ref it) (.ref D) (compEnvC scope cl C X.env))
      (compPost (model X.prog X.w) X.A X.xe (some (assign (.Name y pos') X.env)) (fun _ s' => wpAny (model X.prog X.w) X.A (pure () : Sem Unit) (fun _ s' => wpAny (model X.prog X.w) X.A (pure .next : Sem Flow) (SP X pins Dn) X.xe s') X.xe s') (.ref D) C) { s₂ with heap := h₁, toks := s₂.toks + ([] : List (Str × Value)).length } := by
    refine zcC (fun n s' => ∃ i ys H' its k, Inv Y [(D, { cls := .type "list", data := .seq (its : List Value).toArray k })] (none :: σ) H' s' ∧ Vals ys its ∧ tn i s'.heap ∧ (∀ b ∈ fp, H' b = none) ∧ W i n ys H') ?_ m0
      ⟨0, [], H2, [], 0, I0, .nil, T.keep 0 _ _ st2 (fun b hb o e => old b o e), fun b hb => (fpX b hb).1, w0⟩
    rintro n s3 ⟨i, ys, H3, its, k, I3, rv, st3, fr3, w3⟩
    have pinl : ∀ {o : Obj}, ∀ p ∈ [(D, o)], p.1 = D := fun {o} p hp => by
      have ep : p = (D, o) := by simpa using hp
      rw [ep]
    obtain ⟨gD, nD, _, _, _⟩ := I3.pin (D, _) (List.mem_append_right _ List.mem_cons_self)
    rcases turn i n ys H3 w3 with ⟨stop, hz, q⟩ | ⟨go, hz, step⟩
    · refine thn (T.done Y rfl rfl rfl hc i _ s3 _ H3 E' I3 (fpY pinl fr3) st3 stop) fun r s4 ⟨hr, I4⟩ => ?_
      subst hr
      obtain ⟨gD4, nD4, _, _, _⟩ := I4.pin (D, _) (List.mem_append_right _ List.mem_cons_self)
      obtain ⟨m4, hn4, _⟩ := id I4.loc
      have fin : ∀ h', Heap.SameBut C s4.heap h' → Inv X pins σ (upd H3 D (.lst ys)) { s4 with heap := h' } := fun h' hsb => by
        have neC : ∀ {b : Addr} {u : HO}, H3 b = some u → b ≠ C := fun e z => by
          have : H3 C = none := I4.free
          rw [z, this] at e; cases e
        refine I2.call' (s' := { s4 with heap := h' }) (ch := fp) (H' := upd H3 D (.lst ys)) I4.os ?_ ?_ I4.bare fun b hb => ⟨(fpX b hb).2.2.2.1, (fpX b hb).2.1, (fpX b hb).2.2.2.2.1, (fpX b hb).2.2.2.2.2⟩
        · have B := I4.base
          have ltC : ∀ {b : Nat} {o : Obj}, s₂.heap.get? b = some o → b ≠ C := fun e z => ar2 (ltS e) hC z
          have neD : ∀ {b : Addr} {u : HO}, H3 b = some u → b ≠ D := fun e z => by rw [z, nD4] at e; cases e
          refine ⟨fun b o e nn hb hx => (hsb.2 b (ltC e)).trans (B.keep b o e nn hb hx), fun b o e nn hb hx => ?_, fun b o e nn hx => ?_, fun b o e hx => ?_, fun b xs e => ?_, fun b o u e => ?_, fun b ps e => ?_⟩
          · obtain ⟨sl, z⟩ := B.slot b o e nn hb hx
            exact ⟨sl, (hsb.2 b (ltC e)).trans z⟩
          · have hbD : b ≠ D := Nat.ne_of_lt (ltS e)
            rw [zq hbD]
            exact B.free b o e nn hx
          · obtain ⟨o', z⟩ := B.there b o e hx
            exact ⟨o', (hsb.2 b (ltC e)).trans z⟩
          · have z := B.tups b xs e
            rw [zq (neD z)]; exact z
          · have z := B.frzs b o u e
            rw [zq (neD z)]; exact z
          · obtain ⟨more, z⟩ := B.tbls b ps e
            exact ⟨more, by rw [zq (neD z)]; exact z⟩
        · intro a o e
          by_cases ha : a = D
          · subst ha
            rw [zu] at e
            cases e
            exact ⟨hz, its, k, rv, (hsb.2 _ hDC).trans gD4⟩
          · rw [zq ha] at e
            have keepNe : ∀ b u, H3 b = some u → (upd H3 D (.lst ys)) b = some u := fun b u z => by
              have hb : b ≠ D := fun w => by rw [w, nD4] at z; cases z
              rw [zq hb]; exact z
            refine (I4.hok a o e).stay (fun b u hb z => (hsb.2 b ?_).trans z) (fun b z => keepNe b _ z) fun b xs z => keepNe b _ z
            rcases hb with hb | hb
            · rw [hb]; exact neC e
            · exact neC hb
      have hCD : C ≠ D := fun z => hDC z.symm
      have IX := fin s4.heap ⟨rfl, fun _ _ => rfl⟩
      obtain ⟨oC, eC, pC, gC, rC⟩ := id hn4
      have hCn : upd H3 D (.lst ys) C = none := by rw [zq hCD]; exact I4.free
      have hCe : ∀ b o, s₂.heap.get? b = some o → b ≠ C := fun b o e z => ar2 (ltS e) hC z
      have hCl : C ≠ X.env.locals := fun z => by
        obtain ⟨m2, hn2, _⟩ := id I2.loc
        obtain ⟨o2, _, _, g2, _⟩ := hn2
        exact hCe _ _ g2 z.symm
      have hCf : C ∉ X.fs := I2.nofs (by rw [hD]; omega)
      have IP : Inv X (pins ++ [(C, oC)]) σ (upd H3 D (.lst ys)) s4 := IX.pins_of fun p hp => by
        rcases List.mem_append.mp hp with hp | hp
        · exact IX.pin p (List.mem_append_right _ hp)
        · have ep : p = (C, oC) := by simpa using hp
          subst ep
          exact ⟨gC, hCn, hCl, hCf, fun v z => by rw [rC.1] at z; cases z⟩
      show wpAny _ _ (assign (.Name y pos') X.env (.ref D)) _ _ s4
      have hst : wpAny (model X.prog X.w) X.A (assign (.Name y pos') X.env (.ref D)) (fun _ s5 => Inv X (pins ++ [(C, oC)]) (σ.set iy (some (.ref D))) (upd H3 D (.lst ys)) s5) X.xe s4 := wpAny_assign_Name (zcz IP hNX hiy hy (v := .ref D) rfl (fun s5 I5 => I5) hfy)
      refine thn hst fun _ s5 I5 => ?_
      have g5 := (I5.pin (C, oC) (List.mem_append_right _ (List.mem_append_right _ List.mem_cons_self))).1
      refine ⟨m4, ⟨oC, eC, pC, g5, rC⟩, fun h'' hsb => wpAny_pure (wpAny_pure ⟨_, _, ?_, q D nD4⟩)⟩
      exact (I5.pins_of (pins' := pins) fun p hp => I5.pin p (List.mem_append_right _ (List.mem_append_left _ hp))).turned (it := C) (t' := s5.toks) (fun b o hb e => (hsb.2 b hb).trans e) hCn hCl
        (.inr (by have := I2.sz; rw [hD] at this; omega)) (fun a c ha z => by
          obtain ⟨v', o', ho', _⟩ := I2.cell a c ha
          exact hCe _ _ ho' z) (fun p hp => hCe _ _ (I2.pin p hp).1)
    · refine thn (T.item Y rfl rfl rfl hc i _ s3 _ H3 E' I3 (fpY pinl fr3) st3 go) fun r s4 ⟨u, hr, h4⟩ => ?_
      subst hr
      refine thn h4 fun _ s5 ⟨z, H5, I5, r5, y5, st5, fr5⟩ => ?_
      have I5' := I5.pinned (fpY pinl fr5) (T.obj _ _ st5)
      have pgx : PG Y (.Name x px) (gName 0) := zdu (X := Y) hN rfl (.inl (lookup_relabel_local S.hx)) (.inr (lookup_relabel_local S.hx))
      have peY : PE Y elt te := PE.nox (X := Y) (he cl C s₂ H2 fp)
      refine thn (pgx _ s5 (none :: σ) H5 z u (fun σ' H' => σ' = some z :: σ ∧ H' = H5) I5' r5 ⟨rfl, rfl⟩) fun _ s6 ⟨σ6, H6, I6, e1, e2⟩ => ?_
      subst e1 e2
      refine thn (peY _ s6 _ _ _ I6 (step z _ y5)) fun uy s7 ⟨y, H7, I7, ry, m', hm, w7⟩ => ?_
      obtain ⟨gD7, nD7, _, _, _⟩ := I7.pin (D, _) (List.mem_append_right _ (List.mem_append_left _ List.mem_cons_self))
      refine wpAny_list_append_plain ⟨k, gD7⟩ (fun h' hpl hsb => ?_) (by rw [List.size_toArray, ← rv.length]; exact hz)
      obtain ⟨k', gD'⟩ := hpl
      have I8 : Inv Y [] (some z :: σ) H7 { s7 with heap := h' } := (I7.pins_of (pins' := []) (fun p hp => nomatch hp)).turned (it := D) (t' := s7.toks) (fun b o hb e => (hsb.2 b hb).trans e) nD7 hDC
        (.inr (by show s₂.heap.objs.size ≤ D; omega)) (fun a c hy hz' => by
          obtain ⟨v', o', ho', _⟩ := I2.cell a c (hcl1 a c hy)
          exact Nat.ne_of_lt (ltS ho') hz') (fun p hp => by simp [Y, cxH] at hp)
      have I9 : Inv Y [] (none :: σ) H7 { s7 with heap := h' } := I8.weak (by simp) fun j v e => by
        cases j with
        | zero => simp at e
        | succ j => simpa using e
      have pinOf : ∀ b ∈ fp, ∃ o, s5.heap.get? b = some o ∧ s7.heap.get? b = some o ∧ H7 b = none := fun b hb => by
        obtain ⟨o, e, _⟩ := T.obj _ _ st5 b hb
        have q := I7.pin (b, o) (List.mem_append_right _ (List.mem_append_right _ (zb8 hb e)))
        exact ⟨o, e, q.1, q.2.1⟩
      have fpD : ∀ b ∈ fp, b ≠ D := fun b hb => by
        obtain ⟨o, ho, _⟩ := T.obj 0 _ st2 b hb
        exact Nat.ne_of_lt (ltS ho)
      have eT : its.toArray.push uy = (its ++ [uy]).toArray := by simp
      rw [eT] at gD'
      refine ⟨m', hm, i + 1, ys ++ [y], H7, its ++ [uy], k', I9.pins_of (hpinD gD' nD7 fun v e => by cases e), rv.append (.cons ry .nil), T.keep (i + 1) _ _ st5 fun b hb o e => ?_, fun b hb => ?_, w7⟩
      · obtain ⟨o', e1, e2, _⟩ := pinOf b hb
        rw [e] at e1
        cases e1
        exact (hsb.2 b (fpD b hb)).trans e2
      · obtain ⟨_, _, _, q⟩ := pinOf b hb
        exact q
  exact codeAny_compStart_list loop (T.self X.A 0 _ _ _ (T.keep 0 _ _ st2 (fun b hb o e => old b o e)) loop)
end L2
namespace Mi
open PySem L2 PySem.W PySem.Spec
section
variable {X : Cx} {Er : XK} {pos : Pos}
def tMI (X : Cx) (Er : XK) (src : PEnv → Mo Sq) : TI := fun σ H R => ∃ env st ρ, EnvR X.K X.mg ρ H env σ ∧ StR X.K X.mg ρ H st ∧ Out X.K X.mg ρ H (src env st) (fun ρ' H' q st' => ∀ J, Walk X.K X.mg J ρ' H' q → R J H') Er
theorem zhS {src : PEnv → Mo Sq} {fe : PEnv → Mo PV} (σ : L2.St) (H : Hp) (Q : VK) (hh : tM X.K X.mg Er (mComp src fe) σ H Q) : tComp (tMI X Er src) (tM X.K X.mg XN fe) σ H Q := by
  obtain ⟨env, st, ρ, re, rs, h⟩ := hh
  refine ⟨env, st, ρ, re, rs, h.then fun ρ0 H0 q st0 e0 s0 h0 J wk => ?_⟩
  cases q with
  | im xs =>
    obtain ⟨hl, h0⟩ := Out.ifp h0
    obtain ⟨w1, w2, w3⟩ := wk
    refine ⟨fun i m ys H => m = xs.length - i ∧ i ≤ xs.length ∧ ys.length = i ∧ ∃ ps st ρ, Rs X.K X.mg ρ H ps ys ∧ StR X.K X.mg ρ H st ∧ Ext ρ0 H0 ρ H ∧ Out X.K X.mg ρ H (compL fe env (xs.drop i) ps st) (gV X.K X.mg Q) Er, ⟨xs.length, by simp, Nat.zero_le _, rfl, [], st0, ρ0, rfl, s0, Ext.refl, h0⟩, ?_⟩
    rintro i m ys H ⟨rfl, hi, hy, ps, st, ρ, rps, rs, ex, h⟩
    by_cases hlt : i < xs.length
    · refine .inr ⟨w1 i ρ H ex hlt, zO (by omega), fun v H' y => ?_⟩
      obtain ⟨x, hx, ex2, s2, rx⟩ := w3 i ρ H st v H' ex rs hlt y
      have hd : xs.drop i = x :: xs.drop (i + 1) := by
        rw [List.drop_eq_getElem_cons hlt]
        have := (List.getElem?_eq_some_iff.mp hx).2
        rw [this]
      rw [hd] at h
      simp only [compL] at h
      refine ⟨some x :: env, st, ρ, (re.ext (e0.trans (ex.trans ex2))).cons rx, s2, zbo (Out.ext h ex2) fun ρ3 H3 y st3 e3 s3 h3 v ry => ⟨xs.length - (i + 1), by omega, rfl, hlt, by simp [hy], ps ++ [y], st3, ρ3, Rs.snoc ry (Rs.ext (ex2.trans e3) ps rps), s3, (ex.trans ex2).trans e3, h3⟩⟩
    · have e : i = xs.length := by omega
      subst e
      rw [List.drop_length] at h
      exact .inl ⟨w2 _ ρ H ex (Nat.le_refl _), zO (by omega), fun l hl => Out.newList h rs rps hl⟩
  | rf n =>
    obtain ⟨a, ha, rfl⟩ := wk
    refine ⟨fun i m ys H => m + i = lim + 1 ∧ ys.length = i ∧ ∃ ps st ρ, Rs X.K X.mg ρ H ps ys ∧ StR X.K X.mg ρ H st ∧ Ext ρ0 H0 ρ H ∧ ρ[n]? = some a ∧ Out X.K X.mg ρ H (compR fe env n m i ps st) (gV X.K X.mg Q) Er, ⟨lim + 1, rfl, rfl, [], st0, ρ0, rfl, s0, Ext.refl, ha, h0⟩, ?_⟩
    rintro i m ys H ⟨hm, hy, ps, st, ρ, rps, rs, ex, ha, h⟩
    cases m with
    | zero => exact False.elim h
    | succ m =>
      obtain ⟨xs, hn, h⟩ := zJ h
      obtain ⟨vs, hH, hR⟩ := rs.addr hn ha
      cases hx : xs[i]? with
      | none =>
        simp only [hx] at h
        have : vs.length ≤ i := by rw [← hR.len]; exact List.getElem?_eq_none_iff.mp hx
        exact .inl ⟨⟨vs, SqL.of hH, this⟩, zO (by omega), fun l hl => Out.newList h rs rps hl⟩
      | some x =>
        simp only [hx] at h
        obtain ⟨v, hv, rv⟩ := hR.get hx
        refine .inr ⟨⟨vs, v, SqL.of hH, hv⟩, zO (by omega), fun v' H' y => ?_⟩
        obtain ⟨e1, y⟩ := y
        subst e1
        have e2 := y vs (SqL.of hH)
        rw [hv] at e2
        cases e2
        exact ⟨some x :: env, st, ρ, (re.ext (e0.trans ex)).cons rv, rs, zbo h fun ρ3 H3 y st3 e3 s3 h3 v ry => ⟨m, Nat.lt_succ_self m, by omega, by simp [hy], ps ++ [y], st3, ρ3, Rs.snoc ry (Rs.ext e3 ps rps), s3, ex.trans e3, e3.get ha, h3⟩⟩
theorem zdI (i : Nat) {elt iter : Expr} {x y : Str} {px pos' spos : Pos} {scope : Scope} {src : PEnv → Mo Sq} {fe : PEnv → Mo PV} {M : List Str} (hc : X.calm = true) (S : CompSc X.env.scope scope x) (eN : Hid scope M X.N) (hN0 : ((".0" : Str) :: x :: M).Nodup)
    (hi : MI X Er (.Name x px) iter src) (he : ∀ cl C s₂ H₂ fp, ME (cxH X M scope cl x C s₂ H₂ fp (fun _ _ => False)) XN elt fe) (hNX : X.N.Nodup) (hiy : X.N[i]? = some y) (hy : Loc X.env.scope y) (hfy : X.fn y = true ∨ X.env.scope.names.lookup y = some .local)
    (hsw : swapsWith (.ListComp elt [⟨.Name x px, iter, [], 0⟩] scope pos) (some (.Name y pos')) spos.line X.env = pure true) (hs : ∀ v, foldedSetIterable iter X.env v = pure v := by intro _; rfl) :
    MS X Er (.Assign [.Name y pos'] (.ListComp elt [⟨.Name x px, iter, [], 0⟩] scope pos) spos) (sSet i (mComp src fe)) :=
  PS.weak (zgJ (te := tM X.K X.mg XN fe) hc S eN hN0 hi (fun cl C s₂ H₂ fp => he cl C s₂ H₂ fp) hNX hiy hy hfy hsw hs) fun D σ H ⟨env, st, ρ, re, rs, h⟩ => by
    refine zhS (X := X) (Er := Er) (src := src) (fe := fe) σ H (fun v H2 => D.nx (σ.set i (some v)) H2) ⟨env, st, ρ, re, rs, h.then fun ρ1 H1 x st1 e1 s1 h1 v rv => ?_⟩
    exact h1.now s1 (σ.set i (some v)) ((re.ext e1).set i rv)
end
end Mi
namespace L2
open PySem PySem.Spec PyProof.Rows PySem.W
section
variable {X : Cx} {pins : List (Addr × Obj)} {σ : St} {H : Hp} {s : Shared} {a : Addr} {kvs : List (Key × V)} {o : Obj}
end
end L2
namespace Mi
open PySem L2 PySem.W PySem.Spec
section
variable {K : Frag} {mg : Str → Option Value} {ρ : List Addr} {H : Hp} {a : Addr} {o : Obj} {kvs : List (Key × V)} {u : HO}
theorem zhT (ha : H a = some (.frz o (.dK kvs))) {b : Addr} {w : HO} (h : H b = some w) (n : ∀ o k, w ≠ .frz o (.dK k)) : upd H a u b = some w := by
  rw [zq]
  · exact h
  · intro z; subst z; rw [ha] at h; cases h; exact n _ _ rfl
theorem zmz (ha : H a = some (.frz o (.dK kvs))) {p : Addr} {xs : List V} (h : SqT K H p xs) : SqT K (upd H a u) p xs := by
  rcases h with (h | ⟨o, h⟩) | h
  · exact .inl (.inl (zhT ha h (fun _ _ => nofun)))
  · exact .inl (.inr ⟨o, zhT ha h (fun _ _ => nofun)⟩)
  · exact .inr h
theorem zmA (ha : H a = some (.frz o (.dK kvs))) {p : Addr} {xs : List V} (h : FrL K H p xs) : FrL K (upd H a u) p xs := by
  rcases h with ⟨o, h⟩ | h
  · exact .inl ⟨o, zhT ha h (fun _ _ => nofun)⟩
  · exact .inr h
mutual
theorem R.th (ha : H a = some (.frz o (.dK kvs))) : ∀ (x : PV) {v : V}, R K mg ρ H x v → R K mg ρ (upd H a u) x v
  | .non, _, h => h
  | .bl _, _, h => h
  | .int _, _, h => h
  | .str _, _, h => h
  | .ty _, _, h => h
  | .tup xs, _, h => by
    obtain ⟨a, vs, h1, h2, h3⟩ := h
    exact ⟨a, vs, h1, zmz ha h2, Rs.th ha xs h3⟩
  | .frl xs, _, h => by
    obtain ⟨a, vs, h1, h2, h3⟩ := h
    exact ⟨a, vs, h1, zmA ha h2, Rs.th ha xs h3⟩
  | .ref n, _, h => h
  | .fn _, _, h => h
  | .kd ks xs, _, h => by
    obtain ⟨a, us, vs, h1, h2, h4, h3⟩ := h
    exact ⟨a, us, vs, h1, h2, h4, Rs.th ha xs h3⟩
  | .exo c ks xs, _, h => by
    obtain ⟨a, C, d, vs, h1, h2, h3, h4, h5, h6⟩ := h
    exact ⟨a, C, d, vs, h1, h2, zhT ha h3 (fun _ _ => nofun), zhT ha h4 (fun _ _ => nofun), Rs.th ha xs h5, h6⟩
theorem Rs.th (ha : H a = some (.frz o (.dK kvs))) : ∀ (xs : List PV) {vs : List V}, Rs K mg ρ H xs vs → Rs K mg ρ (upd H a u) xs vs
  | [], _, h => h
  | x :: xs, _, h => by
    obtain ⟨v, r, h1, h2, h3⟩ := h
    exact ⟨v, r, h1, R.th ha x h2, Rs.th ha xs h3⟩
end
theorem EnvR.th (ha : H a = some (.frz o (.dK kvs))) {env : PEnv} {σ : L2.St} (h : EnvR K mg ρ H env σ) : EnvR K mg ρ (upd H a u) env σ :=
  ⟨h.len, fun i x hx => let ⟨v, p, q⟩ := h.at_ i x hx; ⟨v, p, R.th ha x q⟩⟩
end
section
variable {X : Cx} {Er : XK} {pos : Pos} {o : Expr} {sts : List Stmt} {gb : PEnv → Mo Fl} {fo : PEnv → Mo PV} {fs : PEnv → Mo (List PV)}
end
end Mi
namespace L2
open PySem PySem.Spec PyProof.Rows PySem.W
end L2
namespace Mi
open PySem L2 PySem.W PySem.Spec
section
variable {X : Cx} {Er : XK} {K : Frag} {mg : Str → Option Value} {pos p apos cpos : Pos} {o e f : Expr} {fo fk fx : PEnv → Mo PV}
inductive MPk (X : Cx) (Er : XK) : List (Option Expr) → List Expr → List ((PEnv → Mo PV) × (PEnv → Mo PV)) → Prop
  | nil : MPk X Er [] [] []
  | cons {k v : Expr} {fk fv : PEnv → Mo PV} {ks : List (Option Expr)} {vs : List Expr} {fs : List ((PEnv → Mo PV) × (PEnv → Mo PV))} (hk : ME X Er k fk) (hv : ME X Er v fv) (hr : MPk X Er ks vs fs) : MPk X Er (some k :: ks) (v :: vs) ((fk, fv) :: fs)
theorem MPk.len {ks : List (Option Expr)} {vs : List Expr} {fs : List ((PEnv → Mo PV) × (PEnv → Mo PV))} (h : MPk X Er ks vs fs) : ks.length = vs.length ∧ ks.length = fs.length ∧ ks.all (·.isSome) = true := by
  induction h with
  | nil => exact ⟨rfl, rfl, rfl⟩
  | cons hk hv hr ih => exact ⟨by simp [ih.1], by simp [ih.2.1], by simpa using ih.2.2⟩
end
section
variable {K : Frag} {mg : Str → Option Value} {h : Heap}
end
end Mi
namespace Mi
open PySem L2 PySem.W PySem.Spec
section
variable {X : Cx} {Er : XK} {K : Frag} {mg : Str → Option Value}
end
section
variable {α : Type} {env : PEnv} {st : Sto} {fa fb fo fk fx : PEnv → Mo PV} {fs : PEnv → Mo (List PV)} {g : PEnv → Mo Fl}
theorem zf9 {n : Nat} {ks : List Str} {xs : List PV} (h : st[n]? = some (.dic ks xs)) (k : List Str → List PV → Res α) : withD st n k = k ks xs := by unfold withD; rw [h]
end
end Mi
namespace L2
open PySem PySem.Spec PyProof.Rows PySem.W
section
variable {X : Cx}
end
end L2
namespace Mi
open PySem L2 PySem.W PySem.Spec
section
variable {X : Cx} {Er : XK} {pos : Pos} {K : Frag} {mg : Str → Option Value} {fs : PEnv → Mo (List PV)}
end
end Mi
namespace PySem
open Sem (wp)
section
variable {prog : Program} {w : World} {A : Around} {s : Shared} {R : Result → Shared → Prop}
variable {I : Addr} {fp wr : List Addr} {G : Array GenState → Array GenState → Prop} {n : Nat} {P : Nat → Value → Prop} {St : Nat → Shared → Prop}
end
end PySem
namespace PySem
open Sem (wp)
section
variable {prog : Program} {w : World} {A : Around} {s : Shared} {R : Result → Shared → Prop}
variable {I : Addr} {fp wr : List Addr} {G : Array GenState → Array GenState → Prop} {n : Nat} {P : Nat → Value → Prop} {St : Nat → Shared → Prop}
end
section
variable {prog : Program} {w : World} {A : Around} {E : Value → Shared → Prop} {s : Shared}
variable {I : Addr} {fp wr : List Addr} {G : Array GenState → Array GenState → Prop} {n : Nat} {P : Nat → Value → Prop} {St : Nat → Shared → Prop}
end
end PySem
namespace L2
open PySem PySem.Spec PyProof.Rows PySem.W
section
variable {X : Cx}
end
end L2
namespace Mi
open PySem L2 PySem.W PySem.Spec
section
variable {X : Cx} {Er : XK} {pos : Pos} {K : Frag} {mg : Str → Option Value} {fs : PEnv → Mo (List PV)}
end
end Mi
namespace Mi
open PySem L2 PySem.W PySem.Spec
section
variable {X : Cx} {Er : XK} {pos pos' : Pos} {o i value : Expr} {fo fi fv : PEnv → Mo PV}
end
end Mi
namespace FK32
open PySem L2 PySem.W Mi
def top (i : Nat) : Stmt := PySem.Challenge.pw_foreknown_k32_ifs_and_fails.main.body.getD i (.Pass ⟨0, 0, 0, 0⟩)
abbrev zbj : Stmt := top 47
abbrev zbR : Stmt := top 48
abbrev zcr : Stmt := top 49
abbrev zbS : Stmt := top 50
abbrev zcs : Stmt := top 51
abbrev zbT : Stmt := top 52
abbrev zc3 : Stmt := top 53
abbrev zaj : Stmt := top 41
abbrev zaI : Stmt := inClass (top 43) 0
abbrev zax : Stmt := inClass (top 44) 0
abbrev zay : Stmt := inClass (top 43) 1
abbrev zaJ : Stmt := inClass (top 43) 4
abbrev zdJ : Stmt := top 10
abbrev zbx : Stmt := top 36
abbrev zct : Stmt := top 15
abbrev zcu : Stmt := top 22
abbrev zaY : Stmt := top 9
abbrev zbU : Stmt := top 11
abbrev zfF : Stmt := top 12
abbrev zcv : Stmt := inClass (top 38) 1
abbrev zby : Stmt := inClass (top 38) 0
abbrev zfG : Stmt := top 39
abbrev zaK : Stmt := inClass (top 43) 2
abbrev z0 : Stmt := inClass (top 43) 3
abbrev zbk : Stmt := inClass (top 44) 2
abbrev zaL : Stmt := inClass (top 44) 1
abbrev zao : Stmt := inClass (top 44) 3
abbrev zbz : Stmt := inClass (top 43) 5
abbrev zaZ : Stmt := top 37
abbrev zaM : Stmt := inClass (top 44) 4
abbrev zk2 : Stmt := top 45
abbrev zfH : Stmt := top 54
abbrev s_x_Fault : Stmt := inClass (top 3) 0
abbrev s_x_NoOp : Stmt := inClass (top 4) 0
def insOf (c : Str) : Bool := decide (c = "Frame") || decide (c = "Op") || decide (c = "Runner")
def excOf (c : Str) : Bool := decide (c = "Fault") || decide (c = "NoOp")
def isT : IsT where
  isx c := false
  sub c B :=  none
  subT c n :=  none
  tyC _ _ := none
def zcH : List Str := ["same"]
def zcI : List PV := [.tup [.tup [.str "any", .str "any"], .fn "tell_same"]]
abbrev full_OPS : Bool := false
structure Txt (w : World) (K : Frag) (mg : Str → Option Value) : Prop where
  f__law_cell_at : FnF K mg "_law_cell_at" zbj ["_law_script", "_law_k"]
  f__law_value : FnF K mg "_law_value" zbR ["_law_cell"]
  f__law_word : FnF K mg "_law_word" zcr ["_law_cell"]
  f__law_close : FnF K mg "_law_close" zbS ["_law_cell"]
  f__law_test : FnF K mg "_law_test" zcs ["_law_cell", "_law_params"]
  f__law_block : FnF K mg "_law_block" zbT ["_law_cells", "_law_params", "_law_deep"]
  f__law_due : FnF K mg "_law_due" zc3 ["_law_block_here", "_law_things"]
  f_functions_by_name : FnF K mg "functions_by_name" zaj ["program"]
  n_Frame : NwF K mg "Frame" "Frame.__init__" zaI ["self", "function", "values"]
  n_Runner : NwF K mg "Runner" "Runner.__init__" zax ["self", "program", "inputs"]
  m_Frame_line_here : MtF K mg "Frame" "line_here" "Frame.line_here" zay ["self"]
  m_Frame_end_step : MtF K mg "Frame" "end_step" "Frame.end_step" zaJ ["self", "value"]
  f_kind_of : FnF K mg "kind_of" zdJ ["value"]
  f_check_kinds : FnF K mg "check_kinds" zbx ["kinds", "values"]
  f_number_of : FnF K mg "number_of" zct ["truth"]
  f_tell_same : FnF K mg "tell_same" zcu ["values"]
  f_things_within : FnF K mg "things_within" zaY ["thing"]
  f_all_within : FnF K mg "all_within" zbU ["thing"]
  f_parts : FnF K mg "parts" zfF ["value"]
  m_Op_answer : MtF K mg "Op" "answer" "Op.answer" zcv ["self", "values"]
  n_Op : NwF K mg "Op" "Op.__init__" zby ["self", "word"]
  f_op_of : FnF K mg "op_of" zfG ["word"]
  m_Frame_value_of : MtF K mg "Frame" "value_of" "Frame.value_of" zaK ["self", "atom"]
  m_Frame_values_by : MtF K mg "Frame" "values_by" "Frame.values_by" z0 ["self", "atoms"]
  m_Runner_begin : MtF K mg "Runner" "begin" "Runner.begin" zbk ["self", "name", "values"]
  m_Runner_at_rest : MtF K mg "Runner" "at_rest" "Runner.at_rest" zaL ["self"]
  m_Runner_give_back : MtF K mg "Runner" "give_back" "Runner.give_back" zao ["self", "value"]
  m_Frame_enter : MtF K mg "Frame" "enter" "Frame.enter" zbz ["self", "block"]
  f_chooses_first : FnF K mg "chooses_first" zaZ ["value"]
  m_Runner_go_line : MtF K mg "Runner" "go_line" "Runner.go_line" zaM ["self"]
  f_run : FnF K mg "run" zk2 ["program", "inputs", "budget"]
  f_law : FnF K mg "law" zfH ["_law_script"]
  x_Fault : XnF K mg "Fault" "word" "Fault.__init__" s_x_Fault
  x_NoOp : XnF K mg "NoOp" "word" "NoOp.__init__" s_x_NoOp
  b_bool : mg "bool" = none
  b_dict : mg "dict" = none
  b_enumerate : mg "enumerate" = none
  b_int : mg "int" = none
  b_isinstance : mg "isinstance" = none
  b_len : mg "len" = none
  b_list : mg "list" = none
  b_range : mg "range" = none
  b_str : mg "str" = none
  b_tuple : mg "tuple" = none
  b_zip : mg "zip" = none
  c_MOST_PARTS : ∃ t, mg "MOST_PARTS" = some (.int 60 t)
  d_block : FldF K mg "block" insOf excOf
  d_bound : FldF K mg "bound" insOf excOf
  d_frames : FldF K mg "frames" insOf excOf
  d_functions : FldF K mg "functions" insOf excOf
  d_many : FldF K mg "many" insOf excOf
  d_place : FldF K mg "place" insOf excOf
  d_told : FldF K mg "told" insOf excOf
  d_word : FldF K mg "word" insOf excOf
  is : IsF K mg isT
  kd_OPS : ∀ X : Cx, X.K = K → X.mg = mg → X.w = w → KdF X "OPS" zcH zcI full_OPS
section
variable {P : Program} {w : World} {K : Frag} {mg : Str → Option Value} {base : Heap}
theorem zgK : FnScope ["self", "word"] ["self", "word"] (defScope s_x_Fault) := ⟨rfl, rfl, rfl, by decide +kernel, rfl, by decide +kernel, by decide +kernel⟩
theorem zc4 (T : Txt w K mg) : XOk P w K mg base "Fault" "word" := T.x_Fault.ok zgK fun _ _ _ _ _ _ _ _ _ => zfq (zhe (pv 0) (pv 1) rfl)
theorem zhU : FnScope ["self", "word"] ["self", "word"] (defScope s_x_NoOp) := ⟨rfl, rfl, rfl, by decide +kernel, rfl, by decide +kernel, by decide +kernel⟩
theorem zhV (T : Txt w K mg) : XOk P w K mg base "NoOp" "word" := T.x_NoOp.ok zhU fun _ _ _ _ _ _ _ _ _ => zfq (zhe (pv 0) (pv 1) rfl)
theorem zdK : FnScope ["_law_script", "_law_k"] ["_law_script", "_law_k"] (defScope zbj) := ⟨rfl, rfl, rfl, by decide +kernel, rfl, by decide +kernel, by decide +kernel⟩
def zbp : PEnv → Mo Fl :=
    (sRet (mC (.int 0)))
def zbl : PEnv → Mo Fl :=
    sSeq (sIf (mB (mOp oLt (mVar 1) (mCall oLen (aCons (mVar 0) aNil))))
    (sRet (mOp oIxD (mVar 0) (mVar 1)))
    sNext) (zbp)
def m__law_cell_at : List PV → Mo PV := mirror 2 2 (zbl)
theorem zdL (T : Txt w K mg) : FOk P w K mg base "_law_cell_at" 1 m__law_cell_at := T.f__law_cell_at.ok (k := 0) zdK fun f cdv A outer s H E hr =>
    by
  refine zf ?_ ?_
  refine zal ?_ ?_ ?_
  refine zU zmU ?_ ?_
  exact (zd 1)
  refine zbM zeP T.b_len zdg ?_
  refine zc ?_ ?_ ?_
  exact (zd 0)
  exact zg
  exact zk
  refine zh ?_
  refine zx ?_
  refine zV ?_ ?_ ?_ ?_
  exact (zn (zt hr))
  exact (zd 0)
  exact (zd 1)
  exact fun _ _ => rfl
  exact zK
  refine zh ?_
  refine zx ?_
  exact ze
theorem zem : FnScope ["_law_cell"] ["_law_cell"] (defScope zbR) := ⟨rfl, rfl, rfl, by decide +kernel, rfl, by decide +kernel, by decide +kernel⟩
def zbV : PEnv → Mo Fl :=
    (sRet (mOp oSub (mOp oMod (mOp oDiv (mVar 0) (mC (.int 9))) (mC (.int 5))) (mC (.int 2))))
def za0 : PEnv → Mo Fl :=
    sSeq (sIf (mB (mOp oGt (mOp oMod (mVar 0) (mC (.int 9))) (mC (.int 2))))
    (sRet (mC (.int 0)))
    sNext) (zbV)
def zap : PEnv → Mo Fl :=
    sSeq (sIf (mB (mOp oGt (mOp oMod (mVar 0) (mC (.int 9))) (mC (.int 5))))
    (sRet (mOp oSub (mOp oMod (mOp oDiv (mVar 0) (mC (.int 9))) (mOp oSub (mOp oMulT (mC (.int 2)) (mOp oPow (mC (.int 10)) (mC (.int 18)))) (mC (.int 1)))) (mOp oSub (mOp oPow (mC (.int 10)) (mC (.int 18))) (mC (.int 1)))))
    sNext) (za0)
def zaE : PEnv → Mo Fl :=
    sSeq (sIf (mB (mOp oEq (mOp oMod (mVar 0) (mC (.int 9))) (mC (.int 8))))
    (sRet (mOp oIxD (mLst (aCons (mC (.str "word")) (aCons (mTup aNil) (aCons (mTup (aCons (mC (.int 0)) aNil)) (aCons mDNew (aCons (mDisp ["a"] [(mC (.int 1))]) aNil)))))) (mOp oMod (mOp oDiv (mVar 0) (mC (.int 9))) (mC (.int 5)))))
    sNext) (zap)
def m__law_value : List PV → Mo PV := mirror 1 1 (zaE)
theorem zaT (T : Txt w K mg) : FOk P w K mg base "_law_value" 1 m__law_value := T.f__law_value.ok (k := 0) zem fun f cdv A outer s H E hr =>
    by
  refine zf ?_ ?_
  refine zal ?_ ?_ ?_
  refine zU (zfm (zt hr)) ?_ ?_
  refine zB zcc ?_ ?_
  exact (zd 0)
  exact ze
  exact ze
  refine zh ?_
  refine zx ?_
  refine zV ?_ ?_ ?_ ?_
  exact (zn (zt hr))
  refine zfX ?_
  refine zc ?_ ?_ ?_
  exact zw
  refine zc ?_ ?_ ?_
  refine zH ?_
  exact zg
  refine zc ?_ ?_ ?_
  refine zH ?_
  refine zc ?_ ?_ ?_
  exact ze
  exact zg
  exact zo
  refine zc ?_ ?_ ?_
  exact zhC
  refine zc ?_ ?_ ?_
  refine zmx ?_ (by simp) (by decide)
  refine zkY ?_ ?_
  exact ze
  exact zmy
  exact zg
  exact zhE
  exact zhE
  exact zP
  exact zP
  exact zo
  refine zB zcc ?_ ?_
  refine zB zdD ?_ ?_
  exact (zd 0)
  exact ze
  exact ze
  exact fun _ _ => rfl
  exact zK
  refine zf ?_ ?_
  refine zal ?_ ?_ ?_
  refine zU znh ?_ ?_
  refine zB zcc ?_ ?_
  exact (zd 0)
  exact ze
  exact ze
  refine zh ?_
  refine zx ?_
  refine zB ziH ?_ ?_
  refine zB zcc ?_ ?_
  refine zB zdD ?_ ?_
  exact (zd 0)
  exact ze
  refine zB ziH ?_ ?_
  refine zB zeV ?_ ?_
  exact ze
  refine zB zma ?_ ?_
  exact ze
  exact ze
  exact ze
  refine zB ziH ?_ ?_
  refine zB zma ?_ ?_
  exact ze
  exact ze
  exact ze
  exact zK
  refine zf ?_ ?_
  refine zal ?_ ?_ ?_
  refine zU znh ?_ ?_
  refine zB zcc ?_ ?_
  exact (zd 0)
  exact ze
  exact ze
  refine zh ?_
  refine zx ?_
  exact ze
  exact zK
  refine zh ?_
  refine zx ?_
  refine zB ziH ?_ ?_
  refine zB zcc ?_ ?_
  refine zB zdD ?_ ?_
  exact (zd 0)
  exact ze
  exact ze
  exact ze
theorem zbc : FnScope ["_law_cell", "_law_word_here", "_law_k"] ["_law_cell"] (defScope zcr) := ⟨rfl, rfl, rfl, by decide +kernel, rfl, by decide +kernel, by decide +kernel⟩
def zcg : PEnv → Mo Fl :=
    (sRet (mVar 1))
def zch : PEnv → Mo Fl :=
    sSeq (sFor (iRng1 (aCons (mOp oAdd (mC (.int 1)) (mOp oMod (mVar 0) (mC (.int 8)))) aNil)) (gN 2)
    (sSet 1 (mOp oAdd (mVar 1) (mOp oIxD (mC (.str "abcdefghijklmnopqrstuvwxyz")) (mOp oMod (mOp oDiv (mOp oDiv (mVar 0) (mC (.int 8))) (mOp oAdd (mC (.int 1)) (mOp oMulT (mC (.int 5)) (mVar 2)))) (mC (.int 26))))))) (zcg)
def zdM : PEnv → Mo Fl :=
    sSeq (sSet 1 (mC (.str ""))) (zch)
def m__law_word : List PV → Mo PV := mirror 1 3 (zdM)
theorem ze0 (T : Txt w K mg) : FOk P w K mg base "_law_word" 1 m__law_word := T.f__law_word.ok (k := 0) zbc fun f cdv A outer s H E hr =>
    by
  refine zf ?_ ?_
  refine zD 1 ?_ ?_ ?_ ?_ ?_ ?_
  exact zw
  exact zbc.nd
  rfl
  first | exact Or.inl rfl | exact Or.inr rfl
  rfl
  first | exact .inl rfl | exact .inr rfl | assumption
  refine zf ?_ ?_
  refine zeQ (zam rfl rfl) rfl ?_ ?_ ?_
  refine zbP T.b_range ?_
  refine zc ?_ ?_ ?_
  refine zB zcq ?_ ?_
  exact ze
  refine zB zcc ?_ ?_
  exact (zd 0)
  exact ze
  exact zg
  exact zbb
  exact (zej 2 zbc.nd)
  refine zh ?_
  refine zD 1 ?_ ?_ ?_ ?_ ?_ ?_
  refine zB zcq ?_ ?_
  exact (zd 1)
  refine zV ?_ ?_ ?_ ?_
  exact (zn (zt hr))
  exact zw
  refine zB zcc ?_ ?_
  refine zB zdD ?_ ?_
  refine zB zdD ?_ ?_
  exact (zd 0)
  exact ze
  refine zB zcq ?_ ?_
  exact ze
  refine zB zeV ?_ ?_
  exact ze
  exact (zd 2)
  exact ze
  exact fun _ _ => rfl
  exact zbc.nd
  rfl
  first | exact Or.inl rfl | exact Or.inr rfl
  rfl
  first | exact .inl rfl | exact .inr rfl | assumption
  refine zh ?_
  refine zx ?_
  exact (zd 1)
theorem zen : FnScope ["_law_cell"] ["_law_cell"] (defScope zbS) := ⟨rfl, rfl, rfl, by decide +kernel, rfl, by decide +kernel, by decide +kernel⟩
def zbW : PEnv → Mo Fl :=
    (sRet (mTup (aCons (mTup aNil) (aCons (mTup (aCons (mC (.str "give")) (aCons (mTup (aCons (mC (.str "is")) (aCons (mCall m__law_value (aCons (mOp oDiv (mVar 0) (mC (.int 2))) aNil)) aNil))) aNil))) aNil))))
def zbX : PEnv → Mo Fl :=
    sSeq (sIf (mB (mOp oEq (mOp oMod (mVar 0) (mC (.int 2))) (mC (.int 1))))
    (sRet (mTup (aCons (mTup aNil) (aCons (mTup (aCons (mC (.str "fail")) (aCons (mCall m__law_word (aCons (mOp oDiv (mVar 0) (mC (.int 2))) aNil)) aNil))) aNil))))
    sNext) (zbW)
def m__law_close : List PV → Mo PV := mirror 1 1 (zbX)
theorem zcJ (T : Txt w K mg) : FOk P w K mg base "_law_close" 2 m__law_close := T.f__law_close.ok (k := 1) zen fun f cdv A outer s H E hr =>
    by
  refine zf ?_ ?_
  refine zal ?_ ?_ ?_
  refine zU (zfm (zt hr)) ?_ ?_
  refine zB zcc ?_ ?_
  exact (zd 0)
  exact ze
  exact ze
  refine zh ?_
  refine zx ?_
  refine zH ?_
  refine zc ?_ ?_ ?_
  refine zH ?_
  exact zg
  refine zc ?_ ?_ ?_
  refine zH ?_
  refine zc ?_ ?_ ?_
  exact zw
  refine zc ?_ ?_ ?_
  refine zW (ze0 T) (hr.mono (by decide)) zl ?_
  refine zc ?_ ?_ ?_
  refine zB zdD ?_ ?_
  exact (zd 0)
  exact ze
  exact zg
  exact zbb
  exact zg
  exact zaw
  exact zo
  exact zg
  exact zP
  exact zP
  exact zK
  refine zh ?_
  refine zx ?_
  refine zH ?_
  refine zc ?_ ?_ ?_
  refine zH ?_
  exact zg
  refine zc ?_ ?_ ?_
  refine zH ?_
  refine zc ?_ ?_ ?_
  exact zw
  refine zc ?_ ?_ ?_
  refine zH ?_
  refine zc ?_ ?_ ?_
  exact zw
  refine zc ?_ ?_ ?_
  refine zW (zaT T) (hr.mono (by decide)) zl ?_
  refine zc ?_ ?_ ?_
  refine zB zdD ?_ ?_
  exact (zd 0)
  exact ze
  exact zg
  exact zbb
  exact zg
  exact zaw
  exact zo
  exact zg
  exact zP
  exact zo
  exact zg
  exact zP
  exact zP
theorem ze1 : FnScope ["_law_cell", "_law_params"] ["_law_cell", "_law_params"] (defScope zcs) := ⟨rfl, rfl, rfl, by decide +kernel, rfl, by decide +kernel, by decide +kernel⟩
def zci : PEnv → Mo Fl :=
    (sRet (mTup (aCons (mC (.str "of")) (aCons (mOp oIxD (mVar 1) (mOp oMod (mOp oDiv (mVar 0) (mC (.int 6))) (mCall oLen (aCons (mVar 1) aNil)))) aNil))))
def zcw : PEnv → Mo Fl :=
    sSeq (sIf (mB (mOp oEq (mOp oMod (mVar 0) (mC (.int 6))) (mC (.int 5))))
    (sRet (mTup (aCons (mC (.str "is")) (aCons (mCall m__law_value (aCons (mOp oDiv (mVar 0) (mC (.int 6))) aNil)) aNil))))
    sNext) (zci)
def m__law_test : List PV → Mo PV := mirror 2 2 (zcw)
theorem ze2 (T : Txt w K mg) : FOk P w K mg base "_law_test" 2 m__law_test := T.f__law_test.ok (k := 1) ze1 fun f cdv A outer s H E hr =>
    by
  refine zf ?_ ?_
  refine zal ?_ ?_ ?_
  refine zU (zfm (zt hr)) ?_ ?_
  refine zB zcc ?_ ?_
  exact (zd 0)
  exact ze
  exact ze
  refine zh ?_
  refine zx ?_
  refine zH ?_
  refine zc ?_ ?_ ?_
  exact zw
  refine zc ?_ ?_ ?_
  refine zW (zaT T) (hr.mono (by decide)) zl ?_
  refine zc ?_ ?_ ?_
  refine zB zdD ?_ ?_
  exact (zd 0)
  exact ze
  exact zg
  exact zbb
  exact zg
  exact zaw
  exact zo
  exact zK
  refine zh ?_
  refine zx ?_
  refine zH ?_
  refine zc ?_ ?_ ?_
  exact zw
  refine zc ?_ ?_ ?_
  refine zV ?_ ?_ ?_ ?_
  exact (zn (zt hr))
  exact (zd 1)
  refine zB zcc ?_ ?_
  refine zB zdD ?_ ?_
  exact (zd 0)
  exact ze
  refine zbM zeP T.b_len zdg ?_
  refine zc ?_ ?_ ?_
  exact (zd 1)
  exact zg
  exact zk
  exact fun _ _ => rfl
  exact zg
  exact zm
  exact zo
theorem zy : FnScope ["_law_cells", "_law_params", "_law_deep", "_law_block_here", "_law_k", "_law_test_here", "_law_other", "_law_way", "_law_steps"] ["_law_cells", "_law_params", "_law_deep"] (defScope zbT) := ⟨rfl, rfl, rfl, by decide +kernel, rfl, by decide +kernel, by decide +kernel⟩
def zbY : PEnv → Mo Fl :=
    (sRet (mVar 3))
def zbZ : PEnv → Mo Fl :=
    sSeq (sFor (iRng1 (aCons (mVar 2) aNil)) (gN 4)
    (sSeq (sSet 5 (mCall m__law_test (aCons (mOp oIxD (mVar 0) (mOp oAdd (mOp oMulT (mC (.int 3)) (mVar 4)) (mC (.int 1)))) (aCons (mVar 1) aNil))))
    (sSeq (sSet 6 (mCall m__law_close (aCons (mOp oIxD (mVar 0) (mOp oAdd (mOp oMulT (mC (.int 3)) (mVar 4)) (mC (.int 2)))) aNil)))
    (sSeq (sSet 7 (mOp oIxD (mVar 0) (mOp oAdd (mOp oMulT (mC (.int 3)) (mVar 4)) (mC (.int 3)))))
    (sSeq (sSet 8 (mTup aNil))
    (sSeq (sIf (mB (mOp oEq (mOp oMod (mOp oDiv (mVar 7) (mC (.int 2))) (mC (.int 2))) (mC (.int 1))))
    (sSet 8 (mTup (aCons (mTup (aCons (mC (.str "let")) (aCons (mOp oAdd (mC (.str "s")) (mCall oStr (aCons (mVar 4) aNil))) (aCons (mC (.str "same")) (aCons (mTup (aCons (mTup (aCons (mC (.str "of")) (aCons (mOp oIxD (mVar 1) (mC (.int 0))) aNil))) (aCons (mTup (aCons (mC (.str "is")) (aCons (mCall m__law_value (aCons (mOp oDiv (mVar 7) (mC (.int 4))) aNil)) aNil))) aNil))) aNil))))) aNil)))
    sNext)
    (sIf (mB (mOp oEq (mOp oMod (mVar 7) (mC (.int 2))) (mC (.int 0))))
    (sSet 3 (mTup (aCons (mVar 8) (aCons (mTup (aCons (mC (.str "if")) (aCons (mVar 5) (aCons (mVar 3) (aCons (mVar 6) aNil))))) aNil))))
    (sSet 3 (mTup (aCons (mVar 8) (aCons (mTup (aCons (mC (.str "if")) (aCons (mVar 5) (aCons (mVar 6) (aCons (mVar 3) aNil))))) aNil))))))))))) (zbY)
def zb0 : PEnv → Mo Fl :=
    sSeq (sSet 3 (mCall m__law_close (aCons (mOp oIxD (mVar 0) (mC (.int 0))) aNil))) (zbZ)
def m__law_block : List PV → Mo PV := mirror 3 9 (zb0)
theorem zeo (T : Txt w K mg) : FOk P w K mg base "_law_block" 3 m__law_block := T.f__law_block.ok (k := 2) zy fun f cdv A outer s H E hr =>
    by
  refine zf ?_ ?_
  refine zD 3 ?_ ?_ ?_ ?_ ?_ ?_
  refine zW (zcJ T) (hr.mono (by decide)) zl ?_
  refine zc ?_ ?_ ?_
  refine zV ?_ ?_ ?_ ?_
  exact (zn (zt hr))
  exact (zd 0)
  exact ze
  exact fun _ _ => rfl
  exact zg
  exact zm
  exact zy.nd
  rfl
  first | exact Or.inl rfl | exact Or.inr rfl
  rfl
  first | exact .inl rfl | exact .inr rfl | assumption
  refine zf ?_ ?_
  refine zeQ (zam rfl rfl) rfl ?_ ?_ ?_
  refine zbP T.b_range ?_
  refine zc ?_ ?_ ?_
  exact (zd 2)
  exact zg
  exact zk
  exact (zej 4 zy.nd)
  refine zf ?_ ?_
  refine zD 5 ?_ ?_ ?_ ?_ ?_ ?_
  refine zW (ze2 T) (hr.mono (by decide)) zl ?_
  refine zc ?_ ?_ ?_
  refine zV ?_ ?_ ?_ ?_
  exact (zn (zt hr))
  exact (zd 0)
  refine zB zcq ?_ ?_
  refine zB zeV ?_ ?_
  exact ze
  exact (zd 4)
  exact ze
  exact fun _ _ => rfl
  refine zc ?_ ?_ ?_
  exact (zd 1)
  exact zg
  exact zk
  exact zm
  exact zy.nd
  rfl
  first | exact Or.inl rfl | exact Or.inr rfl
  rfl
  first | exact .inl rfl | exact .inr rfl | assumption
  refine zf ?_ ?_
  refine zD 6 ?_ ?_ ?_ ?_ ?_ ?_
  refine zW (zcJ T) (hr.mono (by decide)) zl ?_
  refine zc ?_ ?_ ?_
  refine zV ?_ ?_ ?_ ?_
  exact (zn (zt hr))
  exact (zd 0)
  refine zB zcq ?_ ?_
  refine zB zeV ?_ ?_
  exact ze
  exact (zd 4)
  exact ze
  exact fun _ _ => rfl
  exact zg
  exact zm
  exact zy.nd
  rfl
  first | exact Or.inl rfl | exact Or.inr rfl
  rfl
  first | exact .inl rfl | exact .inr rfl | assumption
  refine zf ?_ ?_
  refine zD 7 ?_ ?_ ?_ ?_ ?_ ?_
  refine zV ?_ ?_ ?_ ?_
  exact (zn (zt hr))
  exact (zd 0)
  refine zB zcq ?_ ?_
  refine zB zeV ?_ ?_
  exact ze
  exact (zd 4)
  exact ze
  exact fun _ _ => rfl
  exact zy.nd
  rfl
  first | exact Or.inl rfl | exact Or.inr rfl
  rfl
  first | exact .inl rfl | exact .inr rfl | assumption
  refine zf ?_ ?_
  refine zD 8 ?_ ?_ ?_ ?_ ?_ ?_
  refine zH ?_
  exact zg
  exact zy.nd
  rfl
  first | exact Or.inl rfl | exact Or.inr rfl
  rfl
  first | exact .inl rfl | exact .inr rfl | assumption
  refine zf ?_ ?_
  refine zal ?_ ?_ ?_
  refine zU (zfm (zt hr)) ?_ ?_
  refine zB zcc ?_ ?_
  refine zB zdD ?_ ?_
  exact (zd 7)
  exact ze
  exact ze
  exact ze
  refine zh ?_
  refine zD 8 ?_ ?_ ?_ ?_ ?_ ?_
  refine zH ?_
  refine zc ?_ ?_ ?_
  refine zH ?_
  refine zc ?_ ?_ ?_
  exact zw
  refine zc ?_ ?_ ?_
  refine zB zcq ?_ ?_
  exact zw
  refine zdF zmv T.b_str zhu ?_
  refine zc ?_ ?_ ?_
  exact (zd 4)
  exact zg
  exact zk
  refine zc ?_ ?_ ?_
  exact zw
  refine zc ?_ ?_ ?_
  refine zH ?_
  refine zc ?_ ?_ ?_
  refine zH ?_
  refine zc ?_ ?_ ?_
  exact zw
  refine zc ?_ ?_ ?_
  refine zV ?_ ?_ ?_ ?_
  exact (zn (zt hr))
  exact (zd 1)
  exact ze
  exact fun _ _ => rfl
  exact zg
  exact zm
  exact zo
  refine zc ?_ ?_ ?_
  refine zH ?_
  refine zc ?_ ?_ ?_
  exact zw
  refine zc ?_ ?_ ?_
  refine zW (zaT T) (hr.mono (by decide)) zl ?_
  refine zc ?_ ?_ ?_
  refine zB zdD ?_ ?_
  exact (zd 7)
  exact ze
  exact zg
  exact zbb
  exact zg
  exact zaw
  exact zo
  exact zg
  exact zP
  exact zP
  exact zg
  exact zP
  exact zo
  exact zbb
  exact zo
  exact zg
  exact zP
  exact zy.nd
  rfl
  first | exact Or.inl rfl | exact Or.inr rfl
  rfl
  first | exact .inl rfl | exact .inr rfl | assumption
  exact zK
  refine zh ?_
  refine zal ?_ ?_ ?_
  refine zU (zfm (zt hr)) ?_ ?_
  refine zB zcc ?_ ?_
  exact (zd 7)
  exact ze
  exact ze
  refine zh ?_
  refine zD 3 ?_ ?_ ?_ ?_ ?_ ?_
  refine zH ?_
  refine zc ?_ ?_ ?_
  exact (zd 8)
  refine zc ?_ ?_ ?_
  refine zH ?_
  refine zc ?_ ?_ ?_
  exact zw
  refine zc ?_ ?_ ?_
  exact (zd 5)
  refine zc ?_ ?_ ?_
  exact (zd 3)
  refine zc ?_ ?_ ?_
  exact (zd 6)
  exact zg
  exact zk
  exact zk
  exact zk
  exact zo
  exact zg
  exact zP
  exact zk
  exact zy.nd
  rfl
  first | exact Or.inl rfl | exact Or.inr rfl
  rfl
  first | exact .inl rfl | exact .inr rfl | assumption
  refine zh ?_
  refine zD 3 ?_ ?_ ?_ ?_ ?_ ?_
  refine zH ?_
  refine zc ?_ ?_ ?_
  exact (zd 8)
  refine zc ?_ ?_ ?_
  refine zH ?_
  refine zc ?_ ?_ ?_
  exact zw
  refine zc ?_ ?_ ?_
  exact (zd 5)
  refine zc ?_ ?_ ?_
  exact (zd 6)
  refine zc ?_ ?_ ?_
  exact (zd 3)
  exact zg
  exact zk
  exact zk
  exact zk
  exact zo
  exact zg
  exact zP
  exact zk
  exact zy.nd
  rfl
  first | exact Or.inl rfl | exact Or.inr rfl
  rfl
  first | exact .inl rfl | exact .inr rfl | assumption
  refine zh ?_
  refine zx ?_
  exact (zd 3)
theorem zak : FnScope ["_law_block_here", "_law_things", "_law_gone", "_law_value_here"] ["_law_block_here", "_law_things"] (defScope zc3) := ⟨rfl, rfl, rfl, by decide +kernel, rfl, by decide +kernel, by decide +kernel⟩
def zcK : PEnv → Mo Fl :=
    (sRet (mTup (aCons (mC (.str "told")) (aCons (mOp oIxD (mOp oIxD (mOp oIxD (mVar 0) (mC (.int 1))) (mC (.int 1))) (mC (.int 1))) (aCons (mVar 2) aNil)))))
def zbA : PEnv → Mo Fl :=
    sSeq (sIf (mB (mOp oEq (mOp oIxD (mOp oIxD (mVar 0) (mC (.int 1))) (mC (.int 0))) (mC (.str "fail"))))
    (sRet (mTup (aCons (mC (.str "fault")) (aCons (mOp oIxD (mOp oIxD (mVar 0) (mC (.int 1))) (mC (.int 1))) (aCons (mVar 2) aNil)))))
    sNext) (zcK)
def zaq : PEnv → Mo Fl :=
    sSeq (sSet 2 (mOp oAdd (mVar 2) (mC (.int 1)))) (zbA)
def zcL : PEnv → Mo Fl :=
    sSeq (sWhile (mB (mOp oEq (mOp oIxD (mOp oIxD (mVar 0) (mC (.int 1))) (mC (.int 0))) (mC (.str "if"))))
    (sSeq (sSet 2 (mOp oAdd (mOp oAdd (mVar 2) (mCall oLen (aCons (mOp oIxD (mVar 0) (mC (.int 0))) aNil))) (mC (.int 1))))
    (sSeq (sSet 3 (mOp oIxD (mOp oIxD (mOp oIxD (mVar 0) (mC (.int 1))) (mC (.int 1))) (mC (.int 1))))
    (sSeq (sIf (mB (mOp oEq (mOp oIxD (mOp oIxD (mOp oIxD (mVar 0) (mC (.int 1))) (mC (.int 1))) (mC (.int 0))) (mC (.str "of"))))
    (sSet 3 (mOp oIxD (mVar 1) (mVar 3)))
    sNext)
    (sSeq (sIf (bNot (mB (mCall (oIsi isT) (aCons (mVar 3) (aCons (mC (.ty "int")) aNil)))))
    (sRet (mTup (aCons (mC (.str "fault")) (aCons (mC (.str "kind")) (aCons (mVar 2) aNil)))))
    sNext)
    (sSet 0 (mOp oIxD (mOp oIxD (mVar 0) (mC (.int 1))) (mOp oAdd (mC (.int 2)) (mCall oInt (aCons (mOp oEq (mVar 3) (mC (.int 0))) aNil)))))))))) (zaq)
def zc5 : PEnv → Mo Fl :=
    sSeq (sSet 2 (mC (.int 0))) (zcL)
def m__law_due : List PV → Mo PV := mirror 2 4 (zc5)
theorem zfI (T : Txt w K mg) : FOk P w K mg base "_law_due" 1 m__law_due := T.f__law_due.ok (k := 0) zak fun f cdv A outer s H E hr =>
    by
  refine zf ?_ ?_
  refine zD 2 ?_ ?_ ?_ ?_ ?_ ?_
  exact ze
  exact zak.nd
  rfl
  first | exact Or.inl rfl | exact Or.inr rfl
  rfl
  first | exact .inl rfl | exact .inr rfl | assumption
  refine zf ?_ ?_
  refine zek (zam rfl rfl) ?_ ?_
  refine zU (zfm (zt hr)) ?_ ?_
  refine zV ?_ ?_ ?_ ?_
  exact (zn (zt hr))
  refine zV ?_ ?_ ?_ ?_
  exact (zn (zt hr))
  exact (zd 0)
  exact ze
  exact fun _ _ => rfl
  exact ze
  exact fun _ _ => rfl
  exact zw
  refine zf ?_ ?_
  refine zD 2 ?_ ?_ ?_ ?_ ?_ ?_
  refine zB zcq ?_ ?_
  refine zB zcq ?_ ?_
  exact (zd 2)
  refine zbM zeP T.b_len zdg ?_
  refine zc ?_ ?_ ?_
  refine zV ?_ ?_ ?_ ?_
  exact (zn (zt hr))
  exact (zd 0)
  exact ze
  exact fun _ _ => rfl
  exact zg
  exact zm
  exact ze
  exact zak.nd
  rfl
  first | exact Or.inl rfl | exact Or.inr rfl
  rfl
  first | exact .inl rfl | exact .inr rfl | assumption
  refine zf ?_ ?_
  refine zD 3 ?_ ?_ ?_ ?_ ?_ ?_
  refine zV ?_ ?_ ?_ ?_
  exact (zn (zt hr))
  refine zV ?_ ?_ ?_ ?_
  exact (zn (zt hr))
  refine zV ?_ ?_ ?_ ?_
  exact (zn (zt hr))
  exact (zd 0)
  exact ze
  exact fun _ _ => rfl
  exact ze
  exact fun _ _ => rfl
  exact ze
  exact fun _ _ => rfl
  exact zak.nd
  rfl
  first | exact Or.inl rfl | exact Or.inr rfl
  rfl
  first | exact .inl rfl | exact .inr rfl | assumption
  refine zf ?_ ?_
  refine zal ?_ ?_ ?_
  refine zU (zfm (zt hr)) ?_ ?_
  refine zV ?_ ?_ ?_ ?_
  exact (zn (zt hr))
  refine zV ?_ ?_ ?_ ?_
  exact (zn (zt hr))
  refine zV ?_ ?_ ?_ ?_
  exact (zn (zt hr))
  exact (zd 0)
  exact ze
  exact fun _ _ => rfl
  exact ze
  exact fun _ _ => rfl
  exact ze
  exact fun _ _ => rfl
  exact zw
  refine zh ?_
  refine zD 3 ?_ ?_ ?_ ?_ ?_ ?_
  refine zV ?_ ?_ ?_ ?_
  exact (zn (zt hr))
  exact (zd 1)
  exact (zd 3)
  exact fun _ _ => rfl
  exact zak.nd
  rfl
  first | exact Or.inl rfl | exact Or.inr rfl
  rfl
  first | exact .inl rfl | exact .inr rfl | assumption
  exact zK
  refine zf ?_ ?_
  refine zal ?_ ?_ ?_
  refine zjy ?_
  refine zbm ?_
  refine zbM (zei T.is) T.b_isinstance zF ?_
  refine zc ?_ ?_ ?_
  exact (zd 3)
  refine zc ?_ ?_ ?_
  exact (ziJ T.b_int zjD)
  exact zg
  exact zk
  exact zk
  refine zh ?_
  refine zx ?_
  refine zH ?_
  refine zc ?_ ?_ ?_
  exact zw
  refine zc ?_ ?_ ?_
  exact zw
  refine zc ?_ ?_ ?_
  exact (zd 2)
  exact zg
  exact zk
  exact zo
  exact zo
  exact zK
  refine zh ?_
  refine zD 0 ?_ ?_ ?_ ?_ ?_ ?_
  refine zV ?_ ?_ ?_ ?_
  exact (zn (zt hr))
  refine zV ?_ ?_ ?_ ?_
  exact (zn (zt hr))
  exact (zd 0)
  exact ze
  exact fun _ _ => rfl
  refine zB zcq ?_ ?_
  exact ze
  refine zdF znj T.b_int zjD ?_
  refine zc ?_ ?_ ?_
  refine zgD (zfm (zt hr)) ?_ ?_
  exact (zd 3)
  exact ze
  exact zg
  exact zd7
  exact fun _ _ => rfl
  exact zak.nd
  rfl
  first | exact Or.inl rfl | exact Or.inr rfl
  rfl
  first | exact .inl rfl | exact .inr rfl | assumption
  refine zf ?_ ?_
  refine zD 2 ?_ ?_ ?_ ?_ ?_ ?_
  refine zB zcq ?_ ?_
  exact (zd 2)
  exact ze
  exact zak.nd
  rfl
  first | exact Or.inl rfl | exact Or.inr rfl
  rfl
  first | exact .inl rfl | exact .inr rfl | assumption
  refine zf ?_ ?_
  refine zal ?_ ?_ ?_
  refine zU (zfm (zt hr)) ?_ ?_
  refine zV ?_ ?_ ?_ ?_
  exact (zn (zt hr))
  refine zV ?_ ?_ ?_ ?_
  exact (zn (zt hr))
  exact (zd 0)
  exact ze
  exact fun _ _ => rfl
  exact ze
  exact fun _ _ => rfl
  exact zw
  refine zh ?_
  refine zx ?_
  refine zH ?_
  refine zc ?_ ?_ ?_
  exact zw
  refine zc ?_ ?_ ?_
  refine zV ?_ ?_ ?_ ?_
  exact (zn (zt hr))
  refine zV ?_ ?_ ?_ ?_
  exact (zn (zt hr))
  exact (zd 0)
  exact ze
  exact fun _ _ => rfl
  exact ze
  exact fun _ _ => rfl
  refine zc ?_ ?_ ?_
  exact (zd 2)
  exact zg
  exact zk
  exact zm
  exact zo
  exact zK
  refine zh ?_
  refine zx ?_
  refine zH ?_
  refine zc ?_ ?_ ?_
  exact zw
  refine zc ?_ ?_ ?_
  refine zV ?_ ?_ ?_ ?_
  exact (zn (zt hr))
  refine zV ?_ ?_ ?_ ?_
  exact (zn (zt hr))
  refine zV ?_ ?_ ?_ ?_
  exact (zn (zt hr))
  exact (zd 0)
  exact ze
  exact fun _ _ => rfl
  exact ze
  exact fun _ _ => rfl
  exact ze
  exact fun _ _ => rfl
  refine zc ?_ ?_ ?_
  exact (zd 2)
  exact zg
  exact zk
  exact zm
  exact zo
theorem zac : FnScope ["program", "functions", "function"] ["program"] (defScope zaj) := ⟨rfl, rfl, rfl, by decide +kernel, rfl, by decide +kernel, by decide +kernel⟩
def zat : PEnv → Mo Fl :=
    (sRet (mVar 1))
def zau : PEnv → Mo Fl :=
    sSeq (sFor (iVal (mVar 0)) (gN 2)
    (sDPutM (mVar 1) (mOp oIxD (mVar 2) (mC (.int 0))) (mVar 2))) (zat)
def za1 : PEnv → Mo Fl :=
    sSeq (sSet 1 mDNew) (zau)
def m_functions_by_name : List PV → Mo PV := mirror 1 3 (za1)
theorem zce (T : Txt w K mg) : FOk P w K mg base "functions_by_name" 1 m_functions_by_name := T.f_functions_by_name.ok (k := 0) zac fun f cdv A outer s H E hr =>
    by
  refine zf ?_ ?_
  refine zD 1 ?_ ?_ ?_ ?_ ?_ ?_
  exact zhC
  exact zac.nd
  rfl
  first | exact Or.inl rfl | exact Or.inr rfl
  rfl
  first | exact .inl rfl | exact .inr rfl | assumption
  refine zf ?_ ?_
  refine zeQ (zam rfl rfl) rfl ?_ ?_ ?_
  refine zhr ?_
  exact (zd 0)
  exact (zej 2 zac.nd)
  refine zh ?_
  refine zfz ?_ ?_ ?_ ?_ ?_
  exact (zt hr)
  exact (zd 1)
  refine zV ?_ ?_ ?_ ?_
  exact (zn (zt hr))
  exact (zd 2)
  exact ze
  exact fun _ _ => rfl
  exact (zd 2)
  rfl
  refine zh ?_
  refine zx ?_
  exact (zd 1)
theorem zc6 : FnScope ["self", "function", "values"] ["self", "function", "values"] (defScope zaI) := ⟨rfl, rfl, rfl, by decide +kernel, rfl, by decide +kernel, by decide +kernel⟩
def za2 : PEnv → Mo Fl :=
    (sFld "place" insOf (mVar 0) (mC (.int 0)))
def za3 : PEnv → Mo Fl :=
    sSeq (sFld "block" insOf (mVar 0) (mOp oIxD (mVar 1) (mC (.int 2)))) (za2)
def zbF : PEnv → Mo Fl :=
    sSeq (sFld "bound" insOf (mVar 0) (mCall oDZip (aCons (mOp oIxD (mVar 1) (mC (.int 1))) (aCons (mVar 2) aNil)))) (za3)
def m_Frame___init__ : List PV → Mo PV := mirror 3 3 (zbF)
theorem zbq (T : Txt w K mg) : NOk P w K mg base "Frame" 1 m_Frame___init__ := T.n_Frame.ok (k := 0) zc6 fun f cdv A outer s H E hr =>
    by
  refine zf ?_ ?_
  refine zbO T.d_bound ?_ ?_
  exact (zd 0)
  refine zhK rfl T.b_dict T.b_zip ?_
  refine zc ?_ ?_ ?_
  refine zV ?_ ?_ ?_ ?_
  exact (zn (zt hr))
  exact (zd 1)
  exact ze
  exact fun _ _ => rfl
  refine zc ?_ ?_ ?_
  exact (zd 2)
  exact zg
  exact zk
  exact zm
  refine zf ?_ ?_
  refine zbO T.d_block ?_ ?_
  exact (zd 0)
  refine zV ?_ ?_ ?_ ?_
  exact (zn (zt hr))
  exact (zd 1)
  exact ze
  exact fun _ _ => rfl
  refine zh ?_
  refine zbO T.d_place ?_ ?_
  exact (zd 0)
  exact ze
theorem zcM : FnScope ["self", "program", "inputs"] ["self", "program", "inputs"] (defScope zax) := ⟨rfl, rfl, rfl, by decide +kernel, rfl, by decide +kernel, by decide +kernel⟩
def zaQ : PEnv → Mo Fl :=
    (sFld "told" insOf (mVar 0) (mC .non))
def zaR : PEnv → Mo Fl :=
    sSeq (sFld "frames" insOf (mVar 0) (mLst (aCons (mCall (newI "Frame" m_Frame___init__) (aCons (mOp oIxD (mVar 1) (mC (.int 0))) (aCons (mVar 2) aNil))) aNil))) (zaQ)
def zbr : PEnv → Mo Fl :=
    sSeq (sFld "functions" insOf (mVar 0) (mCall m_functions_by_name (aCons (mVar 1) aNil))) (zaR)
def m_Runner___init__ : List PV → Mo PV := mirror 3 3 (zbr)
theorem zcN (T : Txt w K mg) : NOk P w K mg base "Runner" 3 m_Runner___init__ := T.n_Runner.ok (k := 2) zcM fun f cdv A outer s H E hr =>
    by
  refine zf ?_ ?_
  refine zbO T.d_functions ?_ ?_
  exact (zd 0)
  refine zW (zce T) (hr.mono (by decide)) zl ?_
  refine zc ?_ ?_ ?_
  exact (zd 1)
  exact zg
  exact zk
  refine zf ?_ ?_
  refine zbO T.d_frames ?_ ?_
  exact (zd 0)
  refine zfX ?_
  refine zc ?_ ?_ ?_
  refine zfZ (zbq T) (hr.mono (by decide)) zl ?_
  refine zc ?_ ?_ ?_
  refine zV ?_ ?_ ?_ ?_
  exact (zn (zt hr))
  exact (zd 1)
  exact ze
  exact fun _ _ => rfl
  refine zc ?_ ?_ ?_
  exact (zd 2)
  exact zg
  exact zk
  exact zm
  exact zg
  exact zaw
  refine zh ?_
  refine zbO T.d_told ?_ ?_
  exact (zd 0)
  exact zhj
theorem zbd : FnScope ["self", "steps"] ["self"] (defScope zay) := ⟨rfl, rfl, rfl, by decide +kernel, rfl, by decide +kernel, by decide +kernel⟩
def zaS : PEnv → Mo Fl :=
    (sRet (mOp oIxD (mUn (fldAt "block" insOf excOf) (mVar 0)) (mC (.int 1))))
def zad : PEnv → Mo Fl :=
    sSeq (sIf (mB (mOp oLt (mUn (fldAt "place" insOf excOf) (mVar 0)) (mCall oLen (aCons (mVar 1) aNil))))
    (sRet (mOp oIxD (mVar 1) (mUn (fldAt "place" insOf excOf) (mVar 0))))
    sNext) (zaS)
def zaz : PEnv → Mo Fl :=
    sSeq (sSet 1 (mOp oIxD (mUn (fldAt "block" insOf excOf) (mVar 0)) (mC (.int 0)))) (zad)
def m_Frame_line_here : List PV → Mo PV := mirror 1 2 (zaz)
theorem zcO (T : Txt w K mg) : MOk P w K mg base "Frame" "line_here" 1 m_Frame_line_here := T.m_Frame_line_here.ok (k := 0) zbd fun f cdv A outer s H E hr =>
    by
  refine zf ?_ ?_
  refine zD 1 ?_ ?_ ?_ ?_ ?_ ?_
  refine zV ?_ ?_ ?_ ?_
  exact (zn (zt hr))
  refine zbN T.d_block ?_
  exact (zd 0)
  exact ze
  exact fun _ _ => rfl
  exact zbd.nd
  rfl
  first | exact Or.inl rfl | exact Or.inr rfl
  rfl
  first | exact .inl rfl | exact .inr rfl | assumption
  refine zf ?_ ?_
  refine zal ?_ ?_ ?_
  refine zU zmU ?_ ?_
  refine zbN T.d_place ?_
  exact (zd 0)
  refine zbM zeP T.b_len zdg ?_
  refine zc ?_ ?_ ?_
  exact (zd 1)
  exact zg
  exact zk
  refine zh ?_
  refine zx ?_
  refine zV ?_ ?_ ?_ ?_
  exact (zn (zt hr))
  exact (zd 1)
  refine zbN T.d_place ?_
  exact (zd 0)
  exact fun _ _ => rfl
  exact zK
  refine zh ?_
  refine zx ?_
  refine zV ?_ ?_ ?_ ?_
  exact (zn (zt hr))
  refine zbN T.d_block ?_
  exact (zd 0)
  exact ze
  exact fun _ _ => rfl
def zM (c : Str) : Option (List PV → Mo PV) := if c = "Frame" then some m_Frame_line_here else none
theorem zbs (T : Txt w K mg) {c : Str} {m : List PV → Mo PV} (h : zM c = some m) : MOk P w K mg base c "line_here" 1 m := by
  unfold zM at h
  by_cases e0 : c = "Frame"
  · rw [if_pos e0] at h; cases h; rw [e0]; exact (zcO T).mono (by decide)
  rw [if_neg e0] at h
  cases h
theorem zbt : FnScope ["self", "value", "name"] ["self", "value"] (defScope zaJ) := ⟨rfl, rfl, rfl, by decide +kernel, rfl, by decide +kernel, by decide +kernel⟩
def za4 : PEnv → Mo Fl :=
    (sFldAdd "place" insOf (mVar 0) (mC (.int 1)))
def za5 : PEnv → Mo Fl :=
    sSeq (sDPutM (mUn (fldAt "bound" insOf excOf) (mVar 0)) (mVar 2) (mVar 1)) (za4)
def zbG : PEnv → Mo Fl :=
    sSeq (sSet 2 (mOp oIxD (mMeth "line_here" zM (mVar 0) aNil) (mC (.int 1)))) (za5)
def m_Frame_end_step : List PV → Mo PV := mirror 2 3 (zbG)
theorem zc7 (T : Txt w K mg) : MOk P w K mg base "Frame" "end_step" 2 m_Frame_end_step := T.m_Frame_end_step.ok (k := 1) zbt fun f cdv A outer s H E hr =>
    by
  refine zf ?_ ?_
  refine zD 2 ?_ ?_ ?_ ?_ ?_ ?_
  refine zV ?_ ?_ ?_ ?_
  exact (zn (zt hr))
  refine zeh (fun c m h => zbs T h) ?_ (hr.mono (by decide)) zl
  exact (zd 0)
  exact ze
  exact fun _ _ => rfl
  exact zbt.nd
  rfl
  first | exact Or.inl rfl | exact Or.inr rfl
  rfl
  first | exact .inl rfl | exact .inr rfl | assumption
  refine zf ?_ ?_
  refine zfz ?_ ?_ ?_ ?_ ?_
  exact (zt hr)
  refine zbN T.d_bound ?_
  exact (zd 0)
  exact (zd 2)
  exact (zd 1)
  rfl
  refine zh ?_
  refine zhJ T.d_place ?_ ?_
  exact (zd 0)
  exact ze
def z9 (c : Str) : Option (List PV → Mo PV) := if c = "Frame" then some m_Frame_end_step else none
theorem zbH (T : Txt w K mg) {c : Str} {m : List PV → Mo PV} (h : z9 c = some m) : MOk P w K mg base c "end_step" 2 m := by
  unfold z9 at h
  by_cases e0 : c = "Frame"
  · rw [if_pos e0] at h; cases h; rw [e0]; exact (zc7 T).mono (by decide)
  rw [if_neg e0] at h
  cases h
theorem zgL : FnScope ["value"] ["value"] (defScope zdJ) := ⟨rfl, rfl, rfl, by decide +kernel, rfl, by decide +kernel, by decide +kernel⟩
def zb1 : PEnv → Mo Fl :=
    (sRet (mC (.str "number")))
def zbe : PEnv → Mo Fl :=
    sSeq (sIf (mB (mCall (oIsi isT) (aCons (mVar 0) (aCons (mC (.ty "dict")) aNil))))
    (sRet (mC (.str "record")))
    sNext) (zb1)
def zaF : PEnv → Mo Fl :=
    sSeq (sIf (mB (mCall (oIsi isT) (aCons (mVar 0) (aCons (mC (.ty "tuple")) aNil))))
    (sRet (mC (.str "row")))
    sNext) (zbe)
def zbu : PEnv → Mo Fl :=
    sSeq (sIf (mB (mCall (oIsi isT) (aCons (mVar 0) (aCons (mC (.ty "str")) aNil))))
    (sRet (mC (.str "word")))
    sNext) (zaF)
def m_kind_of : List PV → Mo PV := mirror 1 1 (zbu)
theorem zgM (T : Txt w K mg) : FOk P w K mg base "kind_of" 1 m_kind_of := T.f_kind_of.ok (k := 0) zgL fun f cdv A outer s H E hr =>
    by
  refine zf ?_ ?_
  refine zal ?_ ?_ ?_
  refine zbm ?_
  refine zbM (zei T.is) T.b_isinstance zF ?_
  refine zc ?_ ?_ ?_
  exact (zd 0)
  refine zc ?_ ?_ ?_
  exact (ziJ T.b_str zhu)
  exact zg
  exact zk
  exact zk
  refine zh ?_
  refine zx ?_
  exact zw
  exact zK
  refine zf ?_ ?_
  refine zal ?_ ?_ ?_
  refine zbm ?_
  refine zbM (zei T.is) T.b_isinstance zF ?_
  refine zc ?_ ?_ ?_
  exact (zd 0)
  refine zc ?_ ?_ ?_
  exact (ziJ T.b_tuple zcb)
  exact zg
  exact zk
  exact zk
  refine zh ?_
  refine zx ?_
  exact zw
  exact zK
  refine zf ?_ ?_
  refine zal ?_ ?_ ?_
  refine zbm ?_
  refine zbM (zei T.is) T.b_isinstance zF ?_
  refine zc ?_ ?_ ?_
  exact (zd 0)
  refine zc ?_ ?_ ?_
  exact (ziJ T.b_dict zhv)
  exact zg
  exact zk
  exact zk
  refine zh ?_
  refine zx ?_
  exact zw
  exact zK
  refine zh ?_
  refine zx ?_
  exact zw
theorem zcj : FnScope ["kinds", "values", "kind", "value"] ["kinds", "values"] (defScope zbx) := ⟨rfl, rfl, rfl, by decide +kernel, rfl, by decide +kernel, by decide +kernel⟩
def zar : PEnv → Mo Fl :=
    (sFor (zkF (aCons (mVar 0) (aCons (mVar 1) aNil))) (g2 2 3)
    (sIf (bAnd (mB (mOp oNe (mVar 2) (mC (.str "any")))) (mB (mOp oNe (mVar 2) (mCall m_kind_of (aCons (mVar 3) aNil)))))
    (sRaise "Fault" "word" (mC (.str "kind")))
    sNext))
def m_check_kinds : List PV → Mo PV := mirror 2 4 (zar)
theorem zck (T : Txt w K mg) : FOk P w K mg base "check_kinds" 3 m_check_kinds := T.f_check_kinds.ok (k := 2) zcj fun f cdv A outer s H E hr =>
    by
  refine zh ?_
  refine zeQ (zam rfl rfl) rfl ?_ ?_ ?_
  refine zmh T.b_zip ?_
  refine zc ?_ ?_ ?_
  exact (zd 0)
  refine zc ?_ ?_ ?_
  exact (zd 1)
  exact zg
  exact zk
  exact zk
  exact (znN 2 3 rfl zcj.nd)
  refine zh ?_
  refine zal ?_ ?_ ?_
  refine znL ?_
  refine zl5 ?_ ?_
  refine zU (zmV (zt hr)) ?_ ?_
  exact (zd 2)
  exact zw
  refine zkt ?_
  refine zU (zmV (zt hr)) ?_ ?_
  exact (zd 2)
  refine zW (zgM T) (hr.mono (by decide)) zl ?_
  refine zc ?_ ?_ ?_
  exact (zd 3)
  exact zg
  exact zk
  refine zh ?_
  refine zdr (zc4 T) ?_ (hr.mono (by decide)) zl rfl
  exact zw
  exact zK
theorem ze3 : FnScope ["truth"] ["truth"] (defScope zct) := ⟨rfl, rfl, rfl, by decide +kernel, rfl, by decide +kernel, by decide +kernel⟩
def zdN : PEnv → Mo Fl :=
    (sRet (mIf (mB (mVar 0)) (mC (.int 1)) (mC (.int 0))))
def m_number_of : List PV → Mo PV := mirror 1 1 (zdN)
theorem ze4 (T : Txt w K mg) : FOk P w K mg base "number_of" 1 m_number_of := T.f_number_of.ok (k := 0) ze3 fun f cdv A outer s H E hr =>
    by
  refine zh ?_
  refine zx ?_
  refine zl9 ?_ ?_ ?_
  refine zbm ?_
  exact (zd 0)
  exact ze
  exact ze
theorem ze5 : FnScope ["values"] ["values"] (defScope zcu) := ⟨rfl, rfl, rfl, by decide +kernel, rfl, by decide +kernel, by decide +kernel⟩
def zdO : PEnv → Mo Fl :=
    (sRet (mCall m_number_of (aCons (mOp oEqT (mOp oIxD (mVar 0) (mC (.int 0))) (mOp oIxD (mVar 0) (mC (.int 1)))) aNil)))
def m_tell_same : List PV → Mo PV := mirror 1 1 (zdO)
theorem ze6 (T : Txt w K mg) : FOk P w K mg base "tell_same" 2 m_tell_same := T.f_tell_same.ok (k := 1) ze5 fun f cdv A outer s H E hr =>
    by
  refine zh ?_
  refine zx ?_
  refine zW (ze4 T) (hr.mono (by decide)) zl ?_
  refine zc ?_ ?_ ?_
  refine zgD (zhR (zt hr)) ?_ ?_
  refine zV ?_ ?_ ?_ ?_
  exact (zn (zt hr))
  exact (zd 0)
  exact ze
  exact fun _ _ => rfl
  refine zV ?_ ?_ ?_ ?_
  exact (zn (zt hr))
  exact (zd 0)
  exact ze
  exact fun _ _ => rfl
  exact zg
  exact zd7
def zds (y : Str) : Option (List PV → Mo PV) := if y = "tell_same" then some m_tell_same else none
theorem zfJ (T : Txt w K mg) {y : Str} {m : List PV → Mo PV} (h : zds y = some m) : FOk P w K mg base y 2 m := by
  unfold zds at h
  by_cases e0 : y = "tell_same"
  · rw [if_pos e0] at h; cases h; rw [e0]; exact (ze6 T).mono (by decide)
  rw [if_neg e0] at h
  cases h
theorem zdk : FnScope ["thing"] ["thing"] (defScope zaY) := ⟨rfl, rfl, rfl, by decide +kernel, rfl, by decide +kernel, by decide +kernel⟩
def zbf : PEnv → Mo Fl :=
    (sRet (mLst aNil))
def zbg : PEnv → Mo Fl :=
    sSeq (sIf (mB (mCall (oIsi isT) (aCons (mVar 0) (aCons (mC (.ty "dict")) aNil))))
    (sRet (mUn oVals (mVar 0)))
    sNext) (zbf)
def zb2 : PEnv → Mo Fl :=
    sSeq (sIf (mB (mCall (oIsi isT) (aCons (mVar 0) (aCons (mC (.ty "tuple")) aNil))))
    (sRet (mCall oList (aCons (mVar 0) aNil)))
    sNext) (zbg)
def m_things_within : List PV → Mo PV := mirror 1 1 (zb2)
theorem zdl (T : Txt w K mg) : FOk P w K mg base "things_within" 1 m_things_within := T.f_things_within.ok (k := 0) zdk fun f cdv A outer s H E hr =>
    by
  refine zf ?_ ?_
  refine zal ?_ ?_ ?_
  refine zbm ?_
  refine zbM (zei T.is) T.b_isinstance zF ?_
  refine zc ?_ ?_ ?_
  exact (zd 0)
  refine zc ?_ ?_ ?_
  exact (ziJ T.b_tuple zcb)
  exact zg
  exact zk
  exact zk
  refine zh ?_
  refine zx ?_
  refine zdF zme T.b_list zhw ?_
  refine zc ?_ ?_ ?_
  exact (zd 0)
  exact zg
  exact zk
  exact zK
  refine zf ?_ ?_
  refine zal ?_ ?_ ?_
  refine zbm ?_
  refine zbM (zei T.is) T.b_isinstance zF ?_
  refine zc ?_ ?_ ?_
  exact (zd 0)
  refine zc ?_ ?_ ?_
  exact (ziJ T.b_dict zhv)
  exact zg
  exact zk
  exact zk
  refine zh ?_
  refine zx ?_
  refine zgI rfl T.b_list ?_
  exact (zd 0)
  exact zK
  refine zh ?_
  refine zx ?_
  refine zfX ?_
  exact zg
theorem zaU : FnScope ["thing", "found", "place"] ["thing"] (defScope zbU) := ⟨rfl, rfl, rfl, by decide +kernel, rfl, by decide +kernel, by decide +kernel⟩
def zb3 : PEnv → Mo Fl :=
    (sRet (mVar 1))
def zb4 : PEnv → Mo Fl :=
    sSeq (sWhile (mB (mOp oLt (mVar 2) (mCall oLen (aCons (mVar 1) aNil))))
    (sSeq (sExpr (mMut oExtend (mVar 1) (mCall m_things_within (aCons (mOp oIxD (mVar 1) (mVar 2)) aNil))))
    (sAug 2 ipAdd (mC (.int 1))))) (zb3)
def zb5 : PEnv → Mo Fl :=
    sSeq (sSet 2 (mC (.int 0))) (zb4)
def zdh : PEnv → Mo Fl :=
    sSeq (sSet 1 (mLst (aCons (mVar 0) aNil))) (zb5)
def m_all_within : List PV → Mo PV := mirror 1 3 (zdh)
theorem zep (T : Txt w K mg) : FOk P w K mg base "all_within" 2 m_all_within := T.f_all_within.ok (k := 1) zaU fun f cdv A outer s H E hr =>
    by
  refine zf ?_ ?_
  refine zD 1 ?_ ?_ ?_ ?_ ?_ ?_
  refine zfX ?_
  refine zc ?_ ?_ ?_
  exact (zd 0)
  exact zg
  exact zk
  exact zaU.nd
  rfl
  first | exact Or.inl rfl | exact Or.inr rfl
  rfl
  first | exact .inl rfl | exact .inr rfl | assumption
  refine zf ?_ ?_
  refine zD 2 ?_ ?_ ?_ ?_ ?_ ?_
  exact ze
  exact zaU.nd
  rfl
  first | exact Or.inl rfl | exact Or.inr rfl
  rfl
  first | exact .inl rfl | exact .inr rfl | assumption
  refine zf ?_ ?_
  refine zek (zam rfl rfl) ?_ ?_
  refine zU zmU ?_ ?_
  exact (zd 2)
  refine zbM zeP T.b_len zdg ?_
  refine zc ?_ ?_ ?_
  exact (zd 1)
  exact zg
  exact zk
  refine zf ?_ ?_
  refine zaH ?_
  refine ziT ?_ ?_
  exact (zd 1)
  refine zW (zdl T) (hr.mono (by decide)) zl ?_
  refine zc ?_ ?_ ?_
  refine zV ?_ ?_ ?_ ?_
  exact (zn (zt hr))
  exact (zd 1)
  exact (zd 2)
  exact fun _ _ => rfl
  exact zg
  exact zm
  refine zh ?_
  refine zjB 2 zhp ?_ zaU.nd
  exact ze
  refine zh ?_
  refine zx ?_
  exact (zd 1)
theorem zi5 : FnScope ["value"] ["value"] (defScope zfF) := ⟨rfl, rfl, rfl, by decide +kernel, rfl, by decide +kernel, by decide +kernel⟩
def zhW : PEnv → Mo Fl :=
    (sRet (mCall oLen (aCons (mCall m_all_within (aCons (mVar 0) aNil)) aNil)))
def m_parts : List PV → Mo PV := mirror 1 1 (zhW)
theorem zi6 (T : Txt w K mg) : FOk P w K mg base "parts" 3 m_parts := T.f_parts.ok (k := 2) zi5 fun f cdv A outer s H E hr =>
    by
  refine zh ?_
  refine zx ?_
  refine zbM zeP T.b_len zdg ?_
  refine zc ?_ ?_ ?_
  refine zW (zep T) (hr.mono (by decide)) zl ?_
  refine zc ?_ ?_ ?_
  exact (zd 0)
  exact zg
  exact zk
  exact zg
  exact zaw
theorem zb6 : FnScope ["self", "values", "tell", "told"] ["self", "values"] (defScope zcv) := ⟨rfl, rfl, rfl, by decide +kernel, rfl, by decide +kernel, by decide +kernel⟩
def zcl : PEnv → Mo Fl :=
    (sRet (mVar 3))
def zcm : PEnv → Mo Fl :=
    sSeq (sIf (mB (mOp oGt (mCall m_parts (aCons (mVar 3) aNil)) (mC (.int 60))))
    (sRaise "Fault" "word" (mC (.str "large")))
    sNext) (zcl)
def zcn : PEnv → Mo Fl :=
    sSeq (sSet 3 (mCallV zds (mVar 2) (aCons (mVar 1) aNil))) (zcm)
def zco : PEnv → Mo Fl :=
    sSeq (sSet 2 (mOp oIxD (mUn (kdAt zcH zcI) (mUn (fldAt "word" insOf excOf) (mVar 0))) (mC (.int 1)))) (zcn)
def zdP : PEnv → Mo Fl :=
    sSeq (sExpr (mCall m_check_kinds (aCons (mOp oIxD (mUn (kdAt zcH zcI) (mUn (fldAt "word" insOf excOf) (mVar 0))) (mC (.int 0))) (aCons (mVar 1) aNil)))) (zco)
def m_Op_answer : List PV → Mo PV := mirror 2 4 (zdP)
theorem ze7 (T : Txt w K mg) : MOk P w K mg base "Op" "answer" 4 m_Op_answer := T.m_Op_answer.ok (k := 3) zb6 fun f cdv A outer s H E hr =>
    by
  refine zf ?_ ?_
  refine zaH ?_
  refine zW (zck T) (hr.mono (by decide)) zl ?_
  refine zc ?_ ?_ ?_
  refine zV ?_ ?_ ?_ ?_
  exact (zn (zt hr))
  refine znk (T.kd_OPS _ rfl rfl rfl) ?_
  refine zbN T.d_word ?_
  exact (zd 0)
  exact ze
  exact fun _ _ => rfl
  refine zc ?_ ?_ ?_
  exact (zd 1)
  exact zg
  exact zk
  exact zm
  refine zf ?_ ?_
  refine zD 2 ?_ ?_ ?_ ?_ ?_ ?_
  refine zV ?_ ?_ ?_ ?_
  exact (zn (zt hr))
  refine znk (T.kd_OPS _ rfl rfl rfl) ?_
  refine zbN T.d_word ?_
  exact (zd 0)
  exact ze
  exact fun _ _ => rfl
  exact zb6.nd
  rfl
  first | exact Or.inl rfl | exact Or.inr rfl
  rfl
  first | exact .inl rfl | exact .inr rfl | assumption
  refine zf ?_ ?_
  refine zD 3 ?_ ?_ ?_ ?_ ?_ ?_
  refine zkB (fun y m h => zfJ T h) ?_ (hr.mono (by decide)) zl ?_
  exact (zd 2)
  refine zc ?_ ?_ ?_
  exact (zd 1)
  exact zg
  exact zk
  exact zb6.nd
  rfl
  first | exact Or.inl rfl | exact Or.inr rfl
  rfl
  first | exact .inl rfl | exact .inr rfl | assumption
  refine zf ?_ ?_
  refine zal ?_ ?_ ?_
  refine zU znh ?_ ?_
  refine zW (zi6 T) (hr.mono (by decide)) zl ?_
  refine zc ?_ ?_ ?_
  exact (zd 3)
  exact zg
  exact zk
  exact (ziU T.c_MOST_PARTS)
  refine zh ?_
  refine zdr (zc4 T) ?_ (hr.mono (by decide)) zl rfl
  exact zw
  exact zK
  refine zh ?_
  refine zx ?_
  exact (zd 3)
def za6 (c : Str) : Option (List PV → Mo PV) := if c = "Op" then some m_Op_answer else none
theorem zdW (T : Txt w K mg) {c : Str} {m : List PV → Mo PV} (h : za6 c = some m) : MOk P w K mg base c "answer" 4 m := by
  unfold za6 at h
  by_cases e0 : c = "Op"
  · rw [if_pos e0] at h; cases h; rw [e0]; exact (ze7 T).mono (by decide)
  rw [if_neg e0] at h
  cases h
theorem zdX : FnScope ["self", "word"] ["self", "word"] (defScope zby) := ⟨rfl, rfl, rfl, by decide +kernel, rfl, by decide +kernel, by decide +kernel⟩
def zbI : PEnv → Mo Fl :=
    (sFld "many" insOf (mVar 0) (mCall oLen (aCons (mOp oIxD (mUn (kdAt zcH zcI) (mVar 1)) (mC (.int 0))) aNil)))
def zcP : PEnv → Mo Fl :=
    sSeq (sFld "word" insOf (mVar 0) (mVar 1)) (zbI)
def m_Op___init__ : List PV → Mo PV := mirror 2 2 (zcP)
theorem zdY (T : Txt w K mg) : NOk P w K mg base "Op" 1 m_Op___init__ := T.n_Op.ok (k := 0) zdX fun f cdv A outer s H E hr =>
    by
  refine zf ?_ ?_
  refine zbO T.d_word ?_ ?_
  exact (zd 0)
  exact (zd 1)
  refine zh ?_
  refine zbO T.d_many ?_ ?_
  exact (zd 0)
  refine zbM zeP T.b_len zdg ?_
  refine zc ?_ ?_ ?_
  refine zV ?_ ?_ ?_ ?_
  exact (zn (zt hr))
  refine znk (T.kd_OPS _ rfl rfl rfl) ?_
  exact (zd 1)
  exact ze
  exact fun _ _ => rfl
  exact zg
  exact zm
theorem zi7 : FnScope ["word"] ["word"] (defScope zfG) := ⟨rfl, rfl, rfl, by decide +kernel, rfl, by decide +kernel, by decide +kernel⟩
def zea : PEnv → Mo Fl :=
    (sRet (mCall (newI "Op" m_Op___init__) (aCons (mVar 0) aNil)))
def zhX : PEnv → Mo Fl :=
    sSeq (sIf (mB (mUn (kdIn true zcH zcI full_OPS) (mVar 0)))
    (sRaise "NoOp" "word" (mVar 0))
    sNext) (zea)
def m_op_of : List PV → Mo PV := mirror 1 1 (zhX)
theorem zi8 (T : Txt w K mg) : FOk P w K mg base "op_of" 3 m_op_of := T.f_op_of.ok (k := 2) zi7 fun f cdv A outer s H E hr =>
    by
  refine zf ?_ ?_
  refine zal ?_ ?_ ?_
  refine zhs (T.kd_OPS _ rfl rfl rfl) ?_
  exact (zd 0)
  refine zh ?_
  refine zdr (zhV T) ?_ (hr.mono (by decide)) zl rfl
  exact (zd 0)
  exact zK
  refine zh ?_
  refine zx ?_
  refine zfZ (zdY T) (hr.mono (by decide)) zl ?_
  refine zc ?_ ?_ ?_
  exact (zd 0)
  exact zg
  exact zk
theorem zc8 : FnScope ["self", "atom"] ["self", "atom"] (defScope zaK) := ⟨rfl, rfl, rfl, by decide +kernel, rfl, by decide +kernel, by decide +kernel⟩
def za7 : PEnv → Mo Fl :=
    (sRet (mOp oIxD (mUn (fldAt "bound" insOf excOf) (mVar 0)) (mOp oIxD (mVar 1) (mC (.int 1)))))
def zaN : PEnv → Mo Fl :=
    sSeq (sIf (mB (mOp oEq (mOp oIxD (mVar 1) (mC (.int 0))) (mC (.str "is"))))
    (sRet (mOp oIxD (mVar 1) (mC (.int 1))))
    sNext) (za7)
def m_Frame_value_of : List PV → Mo PV := mirror 2 2 (zaN)
theorem zc9 (T : Txt w K mg) : MOk P w K mg base "Frame" "value_of" 1 m_Frame_value_of := T.m_Frame_value_of.ok (k := 0) zc8 fun f cdv A outer s H E hr =>
    by
  refine zf ?_ ?_
  refine zal ?_ ?_ ?_
  refine zU (zfm (zt hr)) ?_ ?_
  refine zV ?_ ?_ ?_ ?_
  exact (zn (zt hr))
  exact (zd 1)
  exact ze
  exact fun _ _ => rfl
  exact zw
  refine zh ?_
  refine zx ?_
  refine zV ?_ ?_ ?_ ?_
  exact (zn (zt hr))
  exact (zd 1)
  exact ze
  exact fun _ _ => rfl
  exact zK
  refine zh ?_
  refine zx ?_
  refine zV ?_ ?_ ?_ ?_
  exact (zn (zt hr))
  refine zbN T.d_bound ?_
  exact (zd 0)
  refine zV ?_ ?_ ?_ ?_
  exact (zn (zt hr))
  exact (zd 1)
  exact ze
  exact fun _ _ => rfl
  exact fun _ _ => rfl
def zA (c : Str) : Option (List PV → Mo PV) := if c = "Frame" then some m_Frame_value_of else none
theorem zaO (T : Txt w K mg) {c : Str} {m : List PV → Mo PV} (h : zA c = some m) : MOk P w K mg base c "value_of" 1 m := by
  unfold zA at h
  by_cases e0 : c = "Frame"
  · rw [if_pos e0] at h; cases h; rw [e0]; exact (zc9 T).mono (by decide)
  rw [if_neg e0] at h
  cases h
theorem zcQ : FnScope ["self", "atoms"] ["self", "atoms"] (defScope z0) := ⟨rfl, rfl, rfl, by decide +kernel, rfl, by decide +kernel, by decide +kernel⟩
def zaA : PEnv → Mo Fl :=
    (sRet (mCall oTuple (aCons (mComp (iVal (mVar 1)) (mMeth "value_of" zA (mVar 1) (aCons (mVar 0) aNil))) aNil)))
def m_Frame_values_by : List PV → Mo PV := mirror 2 2 (zaA)
theorem zcR (T : Txt w K mg) : MOk P w K mg base "Frame" "values_by" 2 m_Frame_values_by := T.m_Frame_values_by.ok (k := 1) zcQ fun f cdv A outer s H E hr =>
    by
  refine zh ?_
  refine zx ?_
  refine zdF zfw T.b_tuple zcb ?_
  refine zc ?_ ?_ ?_
  refine zms (N := ["self", "atoms"]) rfl (by exact ⟨rfl, by decide +kernel, by decide +kernel, rfl, by show ∀ y : Str × NameKind, y ∈ _ → y.2 = NameKind.free → List.lookup y.1 (defScope z0).names = some NameKind.cell; decide +kernel⟩) rfl (by decide +kernel) ?_ ?_
  refine zhr ?_
  exact (zd 1)
  intro _ _ _ _ _
  refine zbn (fun c m h => zaO T h) ?_ (hr.mono (by decide)) zeR ?_
  exact (zd 1)
  refine zc ?_ ?_ ?_
  exact (zd 0)
  exact zg
  exact zk
  exact zg
  exact zdG
def zN (c : Str) : Option (List PV → Mo PV) := if c = "Frame" then some m_Frame_values_by else none
theorem zaB (T : Txt w K mg) {c : Str} {m : List PV → Mo PV} (h : zN c = some m) : MOk P w K mg base c "values_by" 2 m := by
  unfold zN at h
  by_cases e0 : c = "Frame"
  · rw [if_pos e0] at h; cases h; rw [e0]; exact (zcR T).mono (by decide)
  rw [if_neg e0] at h
  cases h
theorem zdQ : FnScope ["self", "name", "values"] ["self", "name", "values"] (defScope zbk) := ⟨rfl, rfl, rfl, by decide +kernel, rfl, by decide +kernel, by decide +kernel⟩
def zcp : PEnv → Mo Fl :=
    (sExpr (mMut oAppend (mUn (fldAt "frames" insOf excOf) (mVar 0)) (mCall (newI "Frame" m_Frame___init__) (aCons (mOp oIxD (mUn (fldAt "functions" insOf excOf) (mVar 0)) (mVar 1)) (aCons (mVar 2) aNil)))))
def m_Runner_begin : List PV → Mo PV := mirror 3 3 (zcp)
theorem zdR (T : Txt w K mg) : MOk P w K mg base "Runner" "begin" 3 m_Runner_begin := T.m_Runner_begin.ok (k := 2) zdQ fun f cdv A outer s H E hr =>
    by
  refine zh ?_
  refine zaH ?_
  refine ziS ?_ ?_
  refine zbN T.d_frames ?_
  exact (zd 0)
  refine zfZ (zbq T) (hr.mono (by decide)) zl ?_
  refine zc ?_ ?_ ?_
  refine zV ?_ ?_ ?_ ?_
  exact (zn (zt hr))
  refine zbN T.d_functions ?_
  exact (zd 0)
  exact (zd 1)
  exact fun _ _ => rfl
  refine zc ?_ ?_ ?_
  exact (zd 2)
  exact zg
  exact zk
  exact zm
def zaW (c : Str) : Option (List PV → Mo PV) := if c = "Runner" then some m_Runner_begin else none
theorem zcS (T : Txt w K mg) {c : Str} {m : List PV → Mo PV} (h : zaW c = some m) : MOk P w K mg base c "begin" 3 m := by
  unfold zaW at h
  by_cases e0 : c = "Runner"
  · rw [if_pos e0] at h; cases h; rw [e0]; exact (zdR T).mono (by decide)
  rw [if_neg e0] at h
  cases h
theorem zda : FnScope ["self"] ["self"] (defScope zaL) := ⟨rfl, rfl, rfl, by decide +kernel, rfl, by decide +kernel, by decide +kernel⟩
def zbJ : PEnv → Mo Fl :=
    (sRet (mOp oEq (mCall oLen (aCons (mUn (fldAt "frames" insOf excOf) (mVar 0)) aNil)) (mC (.int 0))))
def m_Runner_at_rest : List PV → Mo PV := mirror 1 1 (zbJ)
theorem zdb (T : Txt w K mg) : MOk P w K mg base "Runner" "at_rest" 1 m_Runner_at_rest := T.m_Runner_at_rest.ok (k := 0) zda fun f cdv A outer s H E hr =>
    by
  refine zh ?_
  refine zx ?_
  refine zgD (zfm (zt hr)) ?_ ?_
  refine zbM zeP T.b_len zdg ?_
  refine zc ?_ ?_ ?_
  refine zbN T.d_frames ?_
  exact (zd 0)
  exact zg
  exact zbQ
  exact ze
def zQ (c : Str) : Option (List PV → Mo PV) := if c = "Runner" then some m_Runner_at_rest else none
theorem zb7 (T : Txt w K mg) {c : Str} {m : List PV → Mo PV} (h : zQ c = some m) : MOk P w K mg base c "at_rest" 1 m := by
  unfold zQ at h
  by_cases e0 : c = "Runner"
  · rw [if_pos e0] at h; cases h; rw [e0]; exact (zdb T).mono (by decide)
  rw [if_neg e0] at h
  cases h
theorem zcx : FnScope ["self", "value"] ["self", "value"] (defScope zao) := ⟨rfl, rfl, rfl, by decide +kernel, rfl, by decide +kernel, by decide +kernel⟩
def zY : PEnv → Mo Fl :=
    (sIf (mB (mMeth "at_rest" zQ (mVar 0) aNil))
    (sFld "told" insOf (mVar 0) (mVar 1))
    (sExpr (mMeth "end_step" z9 (mOp oIxD (mUn (fldAt "frames" insOf excOf) (mVar 0)) (mUn oNeg (mC (.int 1)))) (aCons (mVar 1) aNil))))
def zX : PEnv → Mo Fl :=
    sSeq (sExpr (mUn oPop (mUn (fldAt "frames" insOf excOf) (mVar 0)))) (zY)
def m_Runner_give_back : List PV → Mo PV := mirror 2 2 (zX)
theorem zcy (T : Txt w K mg) : MOk P w K mg base "Runner" "give_back" 3 m_Runner_give_back := T.m_Runner_give_back.ok (k := 2) zcx fun f cdv A outer s H E hr =>
    by
  refine zf ?_ ?_
  refine zaH ?_
  refine zmt ?_
  refine zbN T.d_frames ?_
  exact (zd 0)
  refine zh ?_
  refine zal ?_ ?_ ?_
  refine zbm ?_
  refine zeh (fun c m h => zb7 T h) ?_ (hr.mono (by decide)) zl
  exact (zd 0)
  refine zh ?_
  refine zbO T.d_told ?_ ?_
  exact (zd 0)
  exact (zd 1)
  refine zh ?_
  refine zaH ?_
  refine zbn (fun c m h => zbH T h) ?_ (hr.mono (by decide)) zl ?_
  refine zV ?_ ?_ ?_ ?_
  exact (zn (zt hr))
  refine zbN T.d_frames ?_
  exact (zd 0)
  refine znM zmb ?_
  exact ze
  exact fun _ _ => rfl
  refine zc ?_ ?_ ?_
  exact (zd 1)
  exact zg
  exact zk
def zag (c : Str) : Option (List PV → Mo PV) := if c = "Runner" then some m_Runner_give_back else none
theorem zdc (T : Txt w K mg) {c : Str} {m : List PV → Mo PV} (h : zag c = some m) : MOk P w K mg base c "give_back" 3 m := by
  unfold zag at h
  by_cases e0 : c = "Runner"
  · rw [if_pos e0] at h; cases h; rw [e0]; exact (zcy T).mono (by decide)
  rw [if_neg e0] at h
  cases h
theorem zdZ : FnScope ["self", "block"] ["self", "block"] (defScope zbz) := ⟨rfl, rfl, rfl, by decide +kernel, rfl, by decide +kernel, by decide +kernel⟩
def zbK : PEnv → Mo Fl :=
    (sFld "place" insOf (mVar 0) (mC (.int 0)))
def zcT : PEnv → Mo Fl :=
    sSeq (sFld "block" insOf (mVar 0) (mVar 1)) (zbK)
def m_Frame_enter : List PV → Mo PV := mirror 2 2 (zcT)
theorem zd0 (T : Txt w K mg) : MOk P w K mg base "Frame" "enter" 1 m_Frame_enter := T.m_Frame_enter.ok (k := 0) zdZ fun f cdv A outer s H E hr =>
    by
  refine zf ?_ ?_
  refine zbO T.d_block ?_ ?_
  exact (zd 0)
  exact (zd 1)
  refine zh ?_
  refine zbO T.d_place ?_ ?_
  exact (zd 0)
  exact ze
def zbv (c : Str) : Option (List PV → Mo PV) := if c = "Frame" then some m_Frame_enter else none
theorem zeq (T : Txt w K mg) {c : Str} {m : List PV → Mo PV} (h : zbv c = some m) : MOk P w K mg base c "enter" 1 m := by
  unfold zbv at h
  by_cases e0 : c = "Frame"
  · rw [if_pos e0] at h; cases h; rw [e0]; exact (zd0 T).mono (by decide)
  rw [if_neg e0] at h
  cases h
theorem zdm : FnScope ["value"] ["value"] (defScope zaZ) := ⟨rfl, rfl, rfl, by decide +kernel, rfl, by decide +kernel, by decide +kernel⟩
def zbh : PEnv → Mo Fl :=
    (sRet (mOp oNe (mVar 0) (mC (.int 0))))
def za8 : PEnv → Mo Fl :=
    sSeq (sExpr (mCall m_check_kinds (aCons (mTup (aCons (mC (.str "number")) aNil)) (aCons (mTup (aCons (mVar 0) aNil)) aNil)))) (zbh)
def m_chooses_first : List PV → Mo PV := mirror 1 1 (za8)
theorem zdn (T : Txt w K mg) : FOk P w K mg base "chooses_first" 4 m_chooses_first := T.f_chooses_first.ok (k := 3) zdm fun f cdv A outer s H E hr =>
    by
  refine zf ?_ ?_
  refine zaH ?_
  refine zW (zck T) (hr.mono (by decide)) zl ?_
  refine zc ?_ ?_ ?_
  refine zH ?_
  refine zc ?_ ?_ ?_
  exact zw
  exact zg
  exact zo
  refine zc ?_ ?_ ?_
  refine zH ?_
  refine zc ?_ ?_ ?_
  exact (zd 0)
  exact zg
  exact zk
  exact zg
  exact zP
  exact zP
  refine zh ?_
  refine zx ?_
  refine zgD (zmV (zt hr)) ?_ ?_
  exact (zd 0)
  exact ze
theorem zaC : FnScope ["self", "frame", "line"] ["self"] (defScope zaM) := ⟨rfl, rfl, rfl, by decide +kernel, rfl, by decide +kernel, by decide +kernel⟩
def zp : PEnv → Mo Fl :=
    (sIf (mB (mOp oEq (mOp oIxD (mVar 2) (mC (.int 0))) (mC (.str "let"))))
    (sExpr (mMeth "end_step" z9 (mVar 1) (aCons (mMeth "answer" za6 (mCall m_op_of (aCons (mOp oIxD (mVar 2) (mC (.int 2))) aNil)) (aCons (mMeth "values_by" zN (mVar 1) (aCons (mOp oIxD (mVar 2) (mC (.int 3))) aNil)) aNil)) aNil)))
    (sIf (mB (mOp oEq (mOp oIxD (mVar 2) (mC (.int 0))) (mC (.str "call"))))
    (sExpr (mMeth "begin" zaW (mVar 0) (aCons (mOp oIxD (mVar 2) (mC (.int 2))) (aCons (mMeth "values_by" zN (mVar 1) (aCons (mOp oIxD (mVar 2) (mC (.int 3))) aNil)) aNil))))
    (sIf (mB (mOp oEq (mOp oIxD (mVar 2) (mC (.int 0))) (mC (.str "give"))))
    (sExpr (mMeth "give_back" zag (mVar 0) (aCons (mMeth "value_of" zA (mVar 1) (aCons (mOp oIxD (mVar 2) (mC (.int 1))) aNil)) aNil)))
    (sIf (mB (mOp oEq (mOp oIxD (mVar 2) (mC (.int 0))) (mC (.str "go"))))
    (sSeq (sExpr (mUn oPop (mUn (fldAt "frames" insOf excOf) (mVar 0))))
    (sExpr (mMeth "begin" zaW (mVar 0) (aCons (mOp oIxD (mVar 2) (mC (.int 1))) (aCons (mMeth "values_by" zN (mVar 1) (aCons (mOp oIxD (mVar 2) (mC (.int 2))) aNil)) aNil)))))
    (sIf (mB (mOp oEq (mOp oIxD (mVar 2) (mC (.int 0))) (mC (.str "if"))))
    (sExpr (mMeth "enter" zbv (mVar 1) (aCons (mIf (mB (mCall m_chooses_first (aCons (mMeth "value_of" zA (mVar 1) (aCons (mOp oIxD (mVar 2) (mC (.int 1))) aNil)) aNil))) (mOp oIxD (mVar 2) (mC (.int 2))) (mOp oIxD (mVar 2) (mC (.int 3)))) aNil)))
    (sRaise "Fault" "word" (mOp oIxD (mVar 2) (mC (.int 1)))))))))
def za9 : PEnv → Mo Fl :=
    sSeq (sSet 2 (mMeth "line_here" zM (mVar 1) aNil)) (zp)
def zaP : PEnv → Mo Fl :=
    sSeq (sSet 1 (mOp oIxD (mUn (fldAt "frames" insOf excOf) (mVar 0)) (mUn oNeg (mC (.int 1))))) (za9)
def m_Runner_go_line : List PV → Mo PV := mirror 1 3 (zaP)
theorem zdd (T : Txt w K mg) : MOk P w K mg base "Runner" "go_line" 5 m_Runner_go_line := T.m_Runner_go_line.ok (k := 4) zaC fun f cdv A outer s H E hr =>
    by
  refine zf ?_ ?_
  refine zD 1 ?_ ?_ ?_ ?_ ?_ ?_
  refine zV ?_ ?_ ?_ ?_
  exact (zn (zt hr))
  refine zbN T.d_frames ?_
  exact (zd 0)
  refine znM zmb ?_
  exact ze
  exact fun _ _ => rfl
  exact zaC.nd
  rfl
  first | exact Or.inl rfl | exact Or.inr rfl
  rfl
  first | exact .inl rfl | exact .inr rfl | assumption
  refine zf ?_ ?_
  refine zD 2 ?_ ?_ ?_ ?_ ?_ ?_
  refine zeh (fun c m h => zbs T h) ?_ (hr.mono (by decide)) zl
  exact (zd 1)
  exact zaC.nd
  rfl
  first | exact Or.inl rfl | exact Or.inr rfl
  rfl
  first | exact .inl rfl | exact .inr rfl | assumption
  refine zh ?_
  refine zal ?_ ?_ ?_
  refine zU (zfm (zt hr)) ?_ ?_
  refine zV ?_ ?_ ?_ ?_
  exact (zn (zt hr))
  exact (zd 2)
  exact ze
  exact fun _ _ => rfl
  exact zw
  refine zh ?_
  refine zaH ?_
  refine zbn (fun c m h => zbH T h) ?_ (hr.mono (by decide)) zl ?_
  exact (zd 1)
  refine zc ?_ ?_ ?_
  refine zbn (fun c m h => zdW T h) ?_ (hr.mono (by decide)) zl ?_
  refine zW (zi8 T) (hr.mono (by decide)) zl ?_
  refine zc ?_ ?_ ?_
  refine zV ?_ ?_ ?_ ?_
  exact (zn (zt hr))
  exact (zd 2)
  exact ze
  exact fun _ _ => rfl
  exact zg
  exact zm
  refine zc ?_ ?_ ?_
  refine zbn (fun c m h => zaB T h) ?_ (hr.mono (by decide)) zl ?_
  exact (zd 1)
  refine zc ?_ ?_ ?_
  refine zV ?_ ?_ ?_ ?_
  exact (zn (zt hr))
  exact (zd 2)
  exact ze
  exact fun _ _ => rfl
  exact zg
  exact zm
  exact zg
  exact zaw
  exact zg
  exact zaw
  refine zh ?_
  refine zal ?_ ?_ ?_
  refine zU (zfm (zt hr)) ?_ ?_
  refine zV ?_ ?_ ?_ ?_
  exact (zn (zt hr))
  exact (zd 2)
  exact ze
  exact fun _ _ => rfl
  exact zw
  refine zh ?_
  refine zaH ?_
  refine zbn (fun c m h => zcS T h) ?_ (hr.mono (by decide)) zl ?_
  exact (zd 0)
  refine zc ?_ ?_ ?_
  refine zV ?_ ?_ ?_ ?_
  exact (zn (zt hr))
  exact (zd 2)
  exact ze
  exact fun _ _ => rfl
  refine zc ?_ ?_ ?_
  refine zbn (fun c m h => zaB T h) ?_ (hr.mono (by decide)) zl ?_
  exact (zd 1)
  refine zc ?_ ?_ ?_
  refine zV ?_ ?_ ?_ ?_
  exact (zn (zt hr))
  exact (zd 2)
  exact ze
  exact fun _ _ => rfl
  exact zg
  exact zm
  exact zg
  exact zaw
  exact zm
  refine zh ?_
  refine zal ?_ ?_ ?_
  refine zU (zfm (zt hr)) ?_ ?_
  refine zV ?_ ?_ ?_ ?_
  exact (zn (zt hr))
  exact (zd 2)
  exact ze
  exact fun _ _ => rfl
  exact zw
  refine zh ?_
  refine zaH ?_
  refine zbn (fun c m h => zdc T h) ?_ (hr.mono (by decide)) zl ?_
  exact (zd 0)
  refine zc ?_ ?_ ?_
  refine zbn (fun c m h => zaO T h) ?_ (hr.mono (by decide)) zl ?_
  exact (zd 1)
  refine zc ?_ ?_ ?_
  refine zV ?_ ?_ ?_ ?_
  exact (zn (zt hr))
  exact (zd 2)
  exact ze
  exact fun _ _ => rfl
  exact zg
  exact zm
  exact zg
  exact zaw
  refine zh ?_
  refine zal ?_ ?_ ?_
  refine zU (zfm (zt hr)) ?_ ?_
  refine zV ?_ ?_ ?_ ?_
  exact (zn (zt hr))
  exact (zd 2)
  exact ze
  exact fun _ _ => rfl
  exact zw
  refine zf ?_ ?_
  refine zaH ?_
  refine zmt ?_
  refine zbN T.d_frames ?_
  exact (zd 0)
  refine zh ?_
  refine zaH ?_
  refine zbn (fun c m h => zcS T h) ?_ (hr.mono (by decide)) zl ?_
  exact (zd 0)
  refine zc ?_ ?_ ?_
  refine zV ?_ ?_ ?_ ?_
  exact (zn (zt hr))
  exact (zd 2)
  exact ze
  exact fun _ _ => rfl
  refine zc ?_ ?_ ?_
  refine zbn (fun c m h => zaB T h) ?_ (hr.mono (by decide)) zl ?_
  exact (zd 1)
  refine zc ?_ ?_ ?_
  refine zV ?_ ?_ ?_ ?_
  exact (zn (zt hr))
  exact (zd 2)
  exact ze
  exact fun _ _ => rfl
  exact zg
  exact zm
  exact zg
  exact zaw
  exact zm
  refine zh ?_
  refine zal ?_ ?_ ?_
  refine zU (zfm (zt hr)) ?_ ?_
  refine zV ?_ ?_ ?_ ?_
  exact (zn (zt hr))
  exact (zd 2)
  exact ze
  exact fun _ _ => rfl
  exact zw
  refine zh ?_
  refine zaH ?_
  refine zbn (fun c m h => zeq T h) ?_ (hr.mono (by decide)) zl ?_
  exact (zd 1)
  refine zc ?_ ?_ ?_
  refine zl9 ?_ ?_ ?_
  refine zbm ?_
  refine zW (zdn T) (hr.mono (by decide)) zl ?_
  refine zc ?_ ?_ ?_
  refine zbn (fun c m h => zaO T h) ?_ (hr.mono (by decide)) zl ?_
  exact (zd 1)
  refine zc ?_ ?_ ?_
  refine zV ?_ ?_ ?_ ?_
  exact (zn (zt hr))
  exact (zd 2)
  exact ze
  exact fun _ _ => rfl
  exact zg
  exact zm
  exact zg
  exact zaw
  refine zV ?_ ?_ ?_ ?_
  exact (zn (zt hr))
  exact (zd 2)
  exact ze
  exact fun _ _ => rfl
  refine zV ?_ ?_ ?_ ?_
  exact (zn (zt hr))
  exact (zd 2)
  exact ze
  exact fun _ _ => rfl
  exact zg
  exact ziV
  refine zh ?_
  refine zdr (zc4 T) ?_ (hr.mono (by decide)) zl rfl
  refine zV ?_ ?_ ?_ ?_
  exact (zn (zt hr))
  exact (zd 2)
  exact ze
  exact fun _ _ => rfl
def zI (c : Str) : Option (List PV → Mo PV) := if c = "Runner" then some m_Runner_go_line else none
theorem zdS (T : Txt w K mg) {c : Str} {m : List PV → Mo PV} (h : zI c = some m) : MOk P w K mg base c "go_line" 5 m := by
  unfold zI at h
  by_cases e0 : c = "Runner"
  · rw [if_pos e0] at h; cases h; rw [e0]; exact (zdd T).mono (by decide)
  rw [if_neg e0] at h
  cases h
theorem ze8 : FnScope ["program", "inputs", "budget", "runner", "steps", "fault"] ["program", "inputs", "budget"] (defScope zk2) := ⟨rfl, rfl, rfl, by decide +kernel, rfl, by decide +kernel, by decide +kernel⟩
def zga : PEnv → Mo Fl :=
    (sRet (mTup (aCons (mC (.str "out")) (aCons (mC .non) (aCons (mVar 2) aNil)))))
def zer : PEnv → Mo Fl :=
    sSeq (sWhile (mB (mOp oLt (mVar 4) (mVar 2)))
    (sSeq (sAug 4 ipAdd (mC (.int 1)))
    (sSeq (sTryE 5 "Fault" (xMeth "go_line" zI (mVar 3) aNil)
    (sRet (mTup (aCons (mC (.str "fault")) (aCons (mUn (fldAt "word" insOf excOf) (mVar 5)) (aCons (mVar 4) aNil))))))
    (sIf (mB (mMeth "at_rest" zQ (mVar 3) aNil))
    (sRet (mTup (aCons (mC (.str "told")) (aCons (mUn (fldAt "told" insOf excOf) (mVar 3)) (aCons (mVar 4) aNil)))))
    sNext)))) (zga)
def zes : PEnv → Mo Fl :=
    sSeq (sSet 4 (mC (.int 0))) (zer)
def zhY : PEnv → Mo Fl :=
    sSeq (sSet 3 (mCall (newI "Runner" m_Runner___init__) (aCons (mVar 0) (aCons (mVar 1) aNil)))) (zes)
def m_run : List PV → Mo PV := mirror 3 6 (zhY)
theorem zhZ (T : Txt w K mg) : FOk P w K mg base "run" 6 m_run := T.f_run.ok (k := 5) ze8 fun f cdv A outer s H E hr =>
    by
  refine zf ?_ ?_
  refine zD 3 ?_ ?_ ?_ ?_ ?_ ?_
  refine zfZ (zcN T) (hr.mono (by decide)) zl ?_
  refine zc ?_ ?_ ?_
  exact (zd 0)
  refine zc ?_ ?_ ?_
  exact (zd 1)
  exact zg
  exact zk
  exact zk
  exact ze8.nd
  rfl
  first | exact Or.inl rfl | exact Or.inr rfl
  rfl
  first | exact .inl rfl | exact .inr rfl | assumption
  refine zf ?_ ?_
  refine zD 4 ?_ ?_ ?_ ?_ ?_ ?_
  exact ze
  exact ze8.nd
  rfl
  first | exact Or.inl rfl | exact Or.inr rfl
  rfl
  first | exact .inl rfl | exact .inr rfl | assumption
  refine zf ?_ ?_
  refine zek (zam rfl rfl) ?_ ?_
  refine zU zmU ?_ ?_
  exact (zd 4)
  exact (zd 2)
  refine zf ?_ ?_
  refine zjB 4 zhp ?_ ze8.nd
  exact ze
  refine zf ?_ ?_
  refine zkR 5 T.x_Fault.tr ?_ ?_ ze8.nd
  refine ziX (fun c m h => zdS T h) ?_ (hr.mono (by decide))
  exact (zd 3)
  intro _
  refine zh ?_
  refine zx ?_
  refine zH ?_
  refine zc ?_ ?_ ?_
  exact zw
  refine zc ?_ ?_ ?_
  refine zbN T.d_word ?_
  exact (zd 5)
  refine zc ?_ ?_ ?_
  exact (zd 4)
  exact zg
  exact zk
  exact zbQ
  exact zo
  refine zh ?_
  refine zal ?_ ?_ ?_
  refine zbm ?_
  refine zeh (fun c m h => zb7 T h) ?_ (hr.mono (by decide)) zl
  exact (zd 3)
  refine zh ?_
  refine zx ?_
  refine zH ?_
  refine zc ?_ ?_ ?_
  exact zw
  refine zc ?_ ?_ ?_
  refine zbN T.d_told ?_
  exact (zd 3)
  refine zc ?_ ?_ ?_
  exact (zd 4)
  exact zg
  exact zk
  exact zbQ
  exact zo
  exact zK
  refine zh ?_
  refine zx ?_
  refine zH ?_
  refine zc ?_ ?_ ?_
  exact zw
  refine zc ?_ ?_ ?_
  exact zhj
  refine zc ?_ ?_ ?_
  exact (zd 2)
  exact zg
  exact zk
  exact zo
  exact zo
theorem zbL : FnScope ["_law_script", "_law_cells", "_law_params", "_law_deep", "_law_things", "_law_k", "_law_param", "_law_inputs", "_law_block_here", "_law_program", "_law_due_here", "_law_found", "_law_budget"] ["_law_script"] (defScope zfH) := ⟨rfl, rfl, rfl, by decide +kernel, rfl, by decide +kernel, by decide +kernel⟩
def ze9 : PEnv → Mo Fl :=
    (sRet (mAnd (mOp oEqT (mVar 11) (mVar 10)) (mOp oEqT (mCall m_run (aCons (mVar 9) (aCons (mVar 7) (aCons (mOp oIxD (mVar 10) (mC (.int 2))) aNil)))) (mVar 10))))
def zfa : PEnv → Mo Fl :=
    sSeq (sFor (iRng1 (aCons (mOp oIxD (mVar 10) (mC (.int 2))) aNil)) (gN 12)
    (sIf (mB (mOp oNe (mCall m_run (aCons (mVar 9) (aCons (mVar 7) (aCons (mVar 12) aNil)))) (mTup (aCons (mC (.str "out")) (aCons (mC .non) (aCons (mVar 12) aNil))))))
    (sRet (mC (.bl false)))
    sNext)) (ze9)
def zcU : PEnv → Mo Fl :=
    sSeq (sIf (bOr (bNot (mB (mCall (oIsi isT) (aCons (mVar 11) (aCons (mC (.ty "tuple")) aNil))))) (bOr (mB (mCall (oIsi isT) (aCons (mOp oIxD (mVar 11) (mC (.int 1))) (aCons (mC (.ty "bool")) aNil)))) (mB (mCall (oIsi isT) (aCons (mOp oIxD (mVar 11) (mC (.int 2))) (aCons (mC (.ty "bool")) aNil))))))
    (sRet (mC (.bl false)))
    sNext) (zfa)
def zgb : PEnv → Mo Fl :=
    sSeq (sSet 11 (mCall m_run (aCons (mVar 9) (aCons (mVar 7) (aCons (mOp oAdd (mC (.int 40)) (mOp oMod (mOp oIxD (mVar 1) (mC (.int 38))) (mC (.int 99961)))) aNil))))) (zcU)
def zgc : PEnv → Mo Fl :=
    sSeq (sSet 10 (mCall m__law_due (aCons (mVar 8) (aCons (mVar 4) aNil)))) (zgb)
def zgd : PEnv → Mo Fl :=
    sSeq (sSet 9 (mTup (aCons (mTup (aCons (mC (.str "main")) (aCons (mCall oTuple (aCons (mVar 2) aNil)) (aCons (mVar 8) aNil)))) aNil))) (zgc)
def zge : PEnv → Mo Fl :=
    sSeq (sSet 8 (mCall m__law_block (aCons (mVar 1) (aCons (mVar 2) (aCons (mVar 3) aNil))))) (zgd)
def zgf : PEnv → Mo Fl :=
    sSeq (sSet 7 (mCall oTuple (aCons (mComp (iVal (mVar 2)) (mOp oIxD (mVar 5) (mVar 0))) aNil))) (zge)
def zgg : PEnv → Mo Fl :=
    sSeq (sForE (aCons (mVar 2) aNil) (g2 5 6)
    (sDPutM (mVar 4) (mVar 6) (mCall m__law_value (aCons (mOp oIxD (mVar 1) (mOp oAdd (mC (.int 32)) (mVar 5))) aNil)))) (zgf)
def zgh : PEnv → Mo Fl :=
    sSeq (sSet 4 mDNew) (zgg)
def zgi : PEnv → Mo Fl :=
    sSeq (sSet 3 (mOp oMod (mOp oIxD (mVar 1) (mC (.int 31))) (mC (.int 9)))) (zgh)
def zgj : PEnv → Mo Fl :=
    sSeq (sSet 2 (mComp (iRng1 (aCons (mOp oAdd (mC (.int 1)) (mOp oMod (mOp oIxD (mVar 1) (mC (.int 30))) (mC (.int 6)))) aNil)) (mOp oAdd (mC (.str "p")) (mCall oStr (aCons (mVar 0) aNil))))) (zgi)
def zk3 : PEnv → Mo Fl :=
    sSeq (sSet 1 (mComp (iRng1 (aCons (mC (.int 40)) aNil)) (mCall m__law_cell_at (aCons (mVar 1) (aCons (mVar 0) aNil))))) (zgj)
def zmB : List PV → Mo PV := mirror 1 13 (zk3)
theorem zi9 (T : Txt w K mg) {f : Addr} {fd : FuncData} (F : Fun K "law" "law" zfH f fd) : FnOk P w K mg base (CXe P w) 7 f fd ["_law_script"] (spM K mg zmB) := zf2 (k := 6) F zbL fun cdv A outer s H E hr =>
    by
  refine zf ?_ ?_
  refine zdI 1 (M := ["_law_script", "_law_cells", "_law_params", "_law_deep", "_law_things", "~_law_k", "_law_param", "_law_inputs", "_law_block_here", "_law_program", "_law_due_here", "_law_found", "_law_budget"]) rfl (by exact ⟨rfl, by decide +kernel, by decide +kernel, rfl, by show ∀ y : Str × NameKind, y ∈ _ → y.2 = NameKind.free → List.lookup y.1 (defScope zfH).names = some NameKind.cell; decide +kernel⟩) (by exact ⟨rfl, by show ∀ p ∈ List.zip (["_law_script", "_law_cells", "_law_params", "_law_deep", "_law_things", "~_law_k", "_law_param", "_law_inputs", "_law_block_here", "_law_program", "_law_due_here", "_law_found", "_law_budget"] : List Str) (["_law_script", "_law_cells", "_law_params", "_law_deep", "_law_things", "_law_k", "_law_param", "_law_inputs", "_law_block_here", "_law_program", "_law_due_here", "_law_found", "_law_budget"] : List Str), p.1 = p.2 ∨ p.1 ∉ (_ : List Str); decide +kernel⟩) (by decide +kernel) ?_ ?_ zbL.nd rfl (by first | exact Or.inl rfl | exact Or.inr rfl) (by first | exact .inl rfl | exact .inr rfl | assumption) (by rfl)
  refine zbP T.b_range ?_
  refine zc ?_ ?_ ?_
  exact ze
  exact zg
  exact zo
  intro _ _ _ _ _
  refine zW (zdL T) (hr.mono (by decide)) zeR ?_
  refine zc ?_ ?_ ?_
  exact (zd 1)
  refine zc ?_ ?_ ?_
  exact (zd 0)
  exact zg
  exact zk
  exact zk
  refine zf ?_ ?_
  refine zdI 2 (M := ["_law_script", "_law_cells", "_law_params", "_law_deep", "_law_things", "~_law_k", "_law_param", "_law_inputs", "_law_block_here", "_law_program", "_law_due_here", "_law_found", "_law_budget"]) rfl (by exact ⟨rfl, by decide +kernel, by decide +kernel, rfl, by show ∀ y : Str × NameKind, y ∈ _ → y.2 = NameKind.free → List.lookup y.1 (defScope zfH).names = some NameKind.cell; decide +kernel⟩) (by exact ⟨rfl, by show ∀ p ∈ List.zip (["_law_script", "_law_cells", "_law_params", "_law_deep", "_law_things", "~_law_k", "_law_param", "_law_inputs", "_law_block_here", "_law_program", "_law_due_here", "_law_found", "_law_budget"] : List Str) (["_law_script", "_law_cells", "_law_params", "_law_deep", "_law_things", "_law_k", "_law_param", "_law_inputs", "_law_block_here", "_law_program", "_law_due_here", "_law_found", "_law_budget"] : List Str), p.1 = p.2 ∨ p.1 ∉ (_ : List Str); decide +kernel⟩) (by decide +kernel) ?_ ?_ zbL.nd rfl (by first | exact Or.inl rfl | exact Or.inr rfl) (by first | exact .inl rfl | exact .inr rfl | assumption) (by rfl)
  refine zbP T.b_range ?_
  refine zc ?_ ?_ ?_
  refine zB zcq ?_ ?_
  exact ze
  refine zB zcc ?_ ?_
  refine zV ?_ ?_ ?_ ?_
  exact (zn (zt hr))
  exact (zd 1)
  exact ze
  exact fun _ _ => rfl
  exact ze
  exact zg
  exact zbb
  intro _ _ _ _ _
  refine zB zcq ?_ ?_
  exact zw
  refine zdF zmv T.b_str zhu ?_
  refine zc ?_ ?_ ?_
  exact (zd 0)
  exact zg
  exact zk
  refine zf ?_ ?_
  refine zD 3 ?_ ?_ ?_ ?_ ?_ ?_
  refine zB zcc ?_ ?_
  refine zV ?_ ?_ ?_ ?_
  exact (zn (zt hr))
  exact (zd 1)
  exact ze
  exact fun _ _ => rfl
  exact ze
  exact zbL.nd
  rfl
  first | exact Or.inl rfl | exact Or.inr rfl
  rfl
  first | exact .inl rfl | exact .inr rfl | assumption
  refine zf ?_ ?_
  refine zD 4 ?_ ?_ ?_ ?_ ?_ ?_
  exact zhC
  exact zbL.nd
  rfl
  first | exact Or.inl rfl | exact Or.inr rfl
  rfl
  first | exact .inl rfl | exact .inr rfl | assumption
  refine zf ?_ ?_
  refine zkT (zam rfl rfl) rfl T.b_enumerate ?_ ?_ ?_
  refine zc ?_ ?_ ?_
  exact (zd 2)
  exact zg
  exact zk
  exact (znN 5 6 rfl zbL.nd)
  refine zh ?_
  refine zfz ?_ ?_ ?_ ?_ ?_
  exact (zt hr)
  exact (zd 4)
  exact (zd 6)
  refine zW (zaT T) (hr.mono (by decide)) zl ?_
  refine zc ?_ ?_ ?_
  refine zV ?_ ?_ ?_ ?_
  exact (zn (zt hr))
  exact (zd 1)
  refine zB zcq ?_ ?_
  exact ze
  exact (zd 5)
  exact fun _ _ => rfl
  exact zg
  exact zm
  rfl
  refine zf ?_ ?_
  refine zD 7 ?_ ?_ ?_ ?_ ?_ ?_
  refine zdF zfw T.b_tuple zcb ?_
  refine zc ?_ ?_ ?_
  refine zhD (M := ["_law_script", "_law_cells", "_law_params", "_law_deep", "_law_things", "_law_k", "~_law_param", "_law_inputs", "_law_block_here", "_law_program", "_law_due_here", "_law_found", "_law_budget"]) rfl (by exact ⟨rfl, by decide +kernel, by decide +kernel, rfl, by show ∀ y : Str × NameKind, y ∈ _ → y.2 = NameKind.free → List.lookup y.1 (defScope zfH).names = some NameKind.cell; decide +kernel⟩) (by exact ⟨rfl, by show ∀ p ∈ List.zip (["_law_script", "_law_cells", "_law_params", "_law_deep", "_law_things", "_law_k", "~_law_param", "_law_inputs", "_law_block_here", "_law_program", "_law_due_here", "_law_found", "_law_budget"] : List Str) (["_law_script", "_law_cells", "_law_params", "_law_deep", "_law_things", "_law_k", "_law_param", "_law_inputs", "_law_block_here", "_law_program", "_law_due_here", "_law_found", "_law_budget"] : List Str), p.1 = p.2 ∨ p.1 ∉ (_ : List Str); decide +kernel⟩) (by decide +kernel) ?_ ?_
  refine zhr ?_
  exact (zd 2)
  intro _ _ _ _ _
  refine zV ?_ ?_ ?_ ?_
  exact (zn (zt hr))
  exact (zd 5)
  exact (zd 0)
  exact fun _ _ => rfl
  exact zg
  exact zdG
  exact zbL.nd
  rfl
  first | exact Or.inl rfl | exact Or.inr rfl
  rfl
  first | exact .inl rfl | exact .inr rfl | assumption
  refine zf ?_ ?_
  refine zD 8 ?_ ?_ ?_ ?_ ?_ ?_
  refine zW (zeo T) (hr.mono (by decide)) zl ?_
  refine zc ?_ ?_ ?_
  exact (zd 1)
  refine zc ?_ ?_ ?_
  exact (zd 2)
  refine zc ?_ ?_ ?_
  exact (zd 3)
  exact zg
  exact zk
  exact zk
  exact zk
  exact zbL.nd
  rfl
  first | exact Or.inl rfl | exact Or.inr rfl
  rfl
  first | exact .inl rfl | exact .inr rfl | assumption
  refine zf ?_ ?_
  refine zD 9 ?_ ?_ ?_ ?_ ?_ ?_
  refine zH ?_
  refine zc ?_ ?_ ?_
  refine zH ?_
  refine zc ?_ ?_ ?_
  exact zw
  refine zc ?_ ?_ ?_
  refine zdF zfw T.b_tuple zcb ?_
  refine zc ?_ ?_ ?_
  exact (zd 2)
  exact zg
  exact zk
  refine zc ?_ ?_ ?_
  exact (zd 8)
  exact zg
  exact zk
  exact zaw
  exact zo
  exact zg
  exact zP
  exact zbL.nd
  rfl
  first | exact Or.inl rfl | exact Or.inr rfl
  rfl
  first | exact .inl rfl | exact .inr rfl | assumption
  refine zf ?_ ?_
  refine zD 10 ?_ ?_ ?_ ?_ ?_ ?_
  refine zW (zfI T) (hr.mono (by decide)) zl ?_
  refine zc ?_ ?_ ?_
  exact (zd 8)
  refine zc ?_ ?_ ?_
  exact (zd 4)
  exact zg
  exact zk
  exact zk
  exact zbL.nd
  rfl
  first | exact Or.inl rfl | exact Or.inr rfl
  rfl
  first | exact .inl rfl | exact .inr rfl | assumption
  refine zf ?_ ?_
  refine zD 11 ?_ ?_ ?_ ?_ ?_ ?_
  refine zW (zhZ T) (hr.mono (by decide)) zl ?_
  refine zc ?_ ?_ ?_
  exact (zd 9)
  refine zc ?_ ?_ ?_
  exact (zd 7)
  refine zc ?_ ?_ ?_
  refine zB zcq ?_ ?_
  exact ze
  refine zB zcc ?_ ?_
  refine zV ?_ ?_ ?_ ?_
  exact (zn (zt hr))
  exact (zd 1)
  exact ze
  exact fun _ _ => rfl
  exact ze
  exact zg
  exact zbb
  exact zk
  exact zk
  exact zbL.nd
  rfl
  first | exact Or.inl rfl | exact Or.inr rfl
  rfl
  first | exact .inl rfl | exact .inr rfl | assumption
  refine zf ?_ ?_
  refine zal ?_ ?_ ?_
  refine znL ?_
  refine zl6 ?_ ?_
  refine zjy ?_
  refine zbm ?_
  refine zbM (zei T.is) T.b_isinstance zF ?_
  refine zc ?_ ?_ ?_
  exact (zd 11)
  refine zc ?_ ?_ ?_
  exact (ziJ T.b_tuple zcb)
  exact zg
  exact zk
  exact zk
  refine zl6 ?_ ?_
  refine zbm ?_
  refine zbM (zei T.is) T.b_isinstance zF ?_
  refine zc ?_ ?_ ?_
  refine zV ?_ ?_ ?_ ?_
  exact (zn (zt hr))
  exact (zd 11)
  exact ze
  exact fun _ _ => rfl
  refine zc ?_ ?_ ?_
  exact (ziJ T.b_bool zht)
  exact zg
  exact zk
  exact zm
  refine zl4 ?_
  refine zbm ?_
  refine zbM (zei T.is) T.b_isinstance zF ?_
  refine zc ?_ ?_ ?_
  refine zV ?_ ?_ ?_ ?_
  exact (zn (zt hr))
  exact (zd 11)
  exact ze
  exact fun _ _ => rfl
  refine zc ?_ ?_ ?_
  exact (ziJ T.b_bool zht)
  exact zg
  exact zk
  exact zm
  refine zh ?_
  refine zx ?_
  exact zl0
  exact zK
  refine zf ?_ ?_
  refine zeQ (zam rfl rfl) rfl ?_ ?_ ?_
  refine zbP T.b_range ?_
  refine zc ?_ ?_ ?_
  refine zV ?_ ?_ ?_ ?_
  exact (zn (zt hr))
  exact (zd 10)
  exact ze
  exact fun _ _ => rfl
  exact zg
  exact zm
  exact (zej 12 zbL.nd)
  refine zh ?_
  refine zal ?_ ?_ ?_
  refine zU (zmV (zt hr)) ?_ ?_
  refine zW (zhZ T) (hr.mono (by decide)) zl ?_
  refine zc ?_ ?_ ?_
  exact (zd 9)
  refine zc ?_ ?_ ?_
  exact (zd 7)
  refine zc ?_ ?_ ?_
  exact (zd 12)
  exact zg
  exact zk
  exact zk
  exact zk
  refine zH ?_
  refine zc ?_ ?_ ?_
  exact zw
  refine zc ?_ ?_ ?_
  exact zhj
  refine zc ?_ ?_ ?_
  exact (zd 12)
  exact zg
  exact zk
  exact zo
  exact zo
  refine zh ?_
  refine zx ?_
  exact zl0
  exact zK
  refine zh ?_
  refine zx ?_
  refine zl8 ?_ ?_
  refine zgD (zhR (zt hr)) ?_ ?_
  exact (zd 11)
  exact (zd 10)
  refine zl7 ?_
  refine zgD (zhR (zt hr)) ?_ ?_
  refine zW (zhZ T) (hr.mono (by decide)) zl ?_
  refine zc ?_ ?_ ?_
  exact (zd 9)
  refine zc ?_ ?_ ?_
  exact (zd 7)
  refine zc ?_ ?_ ?_
  refine zV ?_ ?_ ?_ ?_
  exact (zn (zt hr))
  exact (zd 10)
  exact ze
  exact fun _ _ => rfl
  exact zg
  exact zm
  exact zk
  exact zk
  exact (zd 10)
end
end FK32
namespace FK32
open PySem L2 PySem.W Mi
theorem zgk (i j : Int) (h : 0 < j) : modP i j = i % j := by unfold modP; rw [if_pos h]
theorem atI_get {α : Type} {l : List α} {k : Nat} {x : α} (h : l[k]? = some x) : atI l (k : Int) = some x := by
  obtain ⟨h1, h2⟩ := List.getElem?_eq_some_iff.mp h
  simp [atI, ixN, h1, h2]
theorem at0 {α : Type} (x : α) (r : List α) : atI (x :: r) 0 = some x := atI_get (k := 0) rfl
theorem at1 {α : Type} (x y : α) (r : List α) : atI (x :: y :: r) 1 = some y := atI_get (k := 1) rfl
theorem at2 {α : Type} (x y z : α) (r : List α) : atI (x :: y :: z :: r) 2 = some z := atI_get (k := 2) rfl
theorem at3 {α : Type} (x y z u : α) (r : List α) : atI (x :: y :: z :: u :: r) 3 = some u := atI_get (k := 3) rfl
theorem atL {α : Type} (l : List α) (x : α) : atI (l ++ [x]) (-1) = some x := by
  simp [atI, ixN]
  rw [if_pos (by omega), show (-1 + ((l.length : Int) + 1)).toNat = l.length by omega]
  simp
def Kp (X : List Nat) (a b : Sto) : Prop := ∀ (m : Nat) so, m ∉ X → a[m]? = some so → b[m]? = some so
theorem Kp.trans {X : List Nat} {a b c : Sto} (h : Kp X a b) (h' : Kp X b c) : Kp X a c := fun m so n e => h' m so n (h m so n e)
abbrev FrO (b : Nat) (B : PV) (p : Nat) : SO := .ins "Frame" ["bound", "block", "place"] [.ref b, B, .int p]
abbrev RnO (F L : Nat) (T : PV) : SO := .ins "Runner" ["functions", "frames", "told"] [.ref F, .ref L, T]
abbrev OpO (w : Str) (k : Int) : SO := .ins "Op" ["word", "many"] [.str w, .int k]
theorem i1 : insOf "Frame" = true := by simp [insOf]
theorem i2 : insOf "Runner" = true := by simp [insOf]
theorem i3 : insOf "Op" = true := by simp [insOf]
section
variable {st : Sto} {f b p : Nat} {B : PV} {ks : List Str} {xs : List PV}
theorem zfb (h : st[f]? = some (FrO b B p)) : fldAt "bound" insOf excOf (.ref f) st = .ok (.ref b) st := by
  simp [zah h, i1, List.lookup_cons]
theorem zfc (h : st[f]? = some (FrO b B p)) : fldAt "block" insOf excOf (.ref f) st = .ok B st := by
  simp [zah h, i1, List.lookup_cons]
theorem zfd (h : st[f]? = some (FrO b B p)) : fldAt "place" insOf excOf (.ref f) st = .ok (.int p) st := by
  simp [zah h, i1, List.lookup_cons]
theorem zjQ {steps : List PV} {e : PV} (h : st[f]? = some (FrO b (.tup [.tup steps, e]) p)) : m_Frame_line_here [.ref f] st = .ok ((steps[p]?).getD e) st := by
  by_cases hp : p < steps.length
  · have e1 : steps[p]? = some steps[p] := List.getElem?_eq_getElem hp
    simp [-zbD, m_Frame_line_here, mirror, zaz, zad, zfc h, zfd h, at0, hp, atI_get e1]
  · have e1 : steps[p]? = none := List.getElem?_eq_none_iff.mpr (by omega)
    simp [-zbD, m_Frame_line_here, mirror, zaz, zad, zaS, zfc h, zfd h, at0, at1, hp, e1]
theorem zov (v : PV) : m_Frame_value_of [.ref f, .tup [.str "is", v]] st = .ok v st := by
  simp [m_Frame_value_of, mirror, zaN, at0, at1]
theorem zgl (hn : st[b]? = some (.dic ks xs)) (w : Str) : oIxD (.ref b) (.str w) st = optR ((ks.zip xs).lookup w) st := by
  simp only [oIxD, oDGet, zf9 hn]
theorem zow (h : st[f]? = some (FrO b B p)) (hb : st[b]? = some (.dic ks xs)) {w : Str} {v : PV} (hl : (ks.zip xs).lookup w = some v) : m_Frame_value_of [.ref f, .tup [.str "of", .str w]] st = .ok v st := by
  simp [-zbD, m_Frame_value_of, mirror, zaN, za7, at0, at1, zfb h, zgl hb, hl]
theorem zgN (h : st[f]? = some (FrO b B p)) (k : Nat → (List PV → Mo PV) → Res PV) : methAt "value_of" zA (.ref f) st k = k f m_Frame_value_of := zaf h (by simp) (by simp [zA]) k
theorem zgm (h : st[f]? = some (FrO b B p)) (k : Nat → (List PV → Mo PV) → Res PV) : methAt "values_by" zN (.ref f) st k = k f m_Frame_values_by := zaf h (by simp) (by simp [zN]) k
theorem zjR (h : st[f]? = some (FrO b B p)) (k : Nat → (List PV → Mo PV) → Res PV) : methAt "line_here" zM (.ref f) st k = k f m_Frame_line_here := zaf h (by simp) (by simp [zM]) k
theorem zk4 (h : st[f]? = some (FrO b B p)) (k : Nat → (List PV → Mo PV) → Res PV) : methAt "end_step" z9 (.ref f) st k = k f m_Frame_end_step := zaf h (by simp) (by simp [z9]) k
theorem zfK (h : st[f]? = some (FrO b B p)) (k : Nat → (List PV → Mo PV) → Res PV) : methAt "enter" zbv (.ref f) st k = k f m_Frame_enter := zaf h (by simp) (by simp [zbv]) k
end
end FK32
namespace FK32
open PySem L2 PySem.W Mi
structure AF where
  ks : List Str
  xs : List PV
  ss : List PV
  e : PV
  p : Nat
abbrev AF.line (a : AF) : PV := (a.ss[a.p]?).getD a.e
abbrev AF.B (a : AF) : PV := .tup [.tup a.ss, a.e]
inductive Val (a : AF) : PV → PV → Prop
  | is (v : PV) : Val a (.tup [.str "is", v]) v
  | of {w : Str} {v : PV} (h : (a.ks.zip a.xs).lookup w = some v) : Val a (.tup [.str "of", .str w]) v
inductive ValL (a : AF) : List PV → List PV → Prop
  | nil : ValL a [] []
  | cons {x v : PV} {xs vs : List PV} (h : Val a x v) (t : ValL a xs vs) : ValL a (x :: xs) (v :: vs)
structure FrAt (st : Sto) (a : AF) (f b : Nat) : Prop where
  fr : st[f]? = some (FrO b a.B a.p)
  di : st[b]? = some (.dic a.ks a.xs)
theorem FrAt.keep {st st' : Sto} {a : AF} {f b : Nat} (h : FrAt st a f b) (k1 : ∀ so, st[f]? = some so → st'[f]? = some so) (k2 : ∀ so, st[b]? = some so → st'[b]? = some so) : FrAt st' a f b := ⟨k1 _ h.fr, k2 _ h.di⟩
theorem zh0 {st : Sto} {a : AF} {f b : Nat} (h : FrAt st a f b) {x v : PV} (hv : Val a x v) : m_Frame_value_of [.ref f, x] st = .ok v st := by
  cases hv with
  | is v => exact zov v
  | of hw => exact zow h.fr h.di hw
theorem zfe {st : Sto} {a : AF} {f b : Nat} {q : Option PV} (h : FrAt st a f b) : ∀ {as vs : List PV}, ValL a as vs → ∀ ys, compL (mMeth "value_of" zA (mVar 1) (aCons (mVar 0) aNil)) [some (.ref f), q] as ys st = .ok (.ref st.length) (st ++ [.lst (ys ++ vs)])
  | _, _, .nil, ys => by simp [compL]
  | _, _, @ValL.cons _ x v xs vs hv t, ys => by
    simp only [compL]
    have : (mMeth "value_of" zA (mVar 1) (aCons (mVar 0) aNil)) [some x, some (.ref f), q] st = .ok v st := by
      simp [zgN h.fr]
      exact zh0 h hv
    rw [this]
    simp only [zel, zj]
    rw [zfe h t]
    simp
theorem zgn {st : Sto} {a : AF} {f b : Nat} (h : FrAt st a f b) {as vs : List PV} (hv : ValL a as vs) (hl : as.length ≤ 1000) : m_Frame_values_by [.ref f, .tup as] st = .ok (.tup vs) (st ++ [.lst vs]) := by
  have cc : mComp (iVal (mVar 1)) (mMeth "value_of" zA (mVar 1) (aCons (mVar 0) aNil)) [some (.ref f), some (.tup as)] st = .ok (.ref st.length) (st ++ [.lst vs]) := by
    show compS _ _ (.im as) st = _
    rw [compS, if_pos (by show as.length ≤ 1000000; omega)]
    have := zfe (q := some (.tup as)) h hv []
    rw [List.nil_append] at this
    exact this
  show (zaA [some (.ref f), some (.tup as)] st).bind endOf = _
  simp only [zaA, zjE, zai, zS, zas]
  rw [cc]
  simp
theorem zh1 {st : Sto} {n : Nat} {ks : List Str} {xs : List PV} (hn : st[n]? = some (.dic ks xs)) (hl : ks.length ≤ 1000) (z : Str) (x : PV) : dPutAt (.str z) x (.ref n) st = .ok () (st.set n (.dic (dPut z x ks xs).1 (dPut z x ks xs).2)) := by
  simp only [dPutAt, zf9 hn]
  rw [if_pos (by show ks.length < 1000000; omega)]
@[simp] theorem zja {fo fi fv : PEnv → Mo PV} {env : PEnv} {st : Sto} : sDPutM fo fi fv env st = (fv env st).bind fun x st1 => (fo env st1).bind fun o st2 => (fi env st2).bind fun z st3 => (dPutAt z x o st3).bind fun _ st4 => .ok (.nx env) st4 := (rfl)
abbrev AF.next (a : AF) (w : Str) (v : PV) : AF := ⟨(dPut w v a.ks a.xs).1, (dPut w v a.ks a.xs).2, a.ss, a.e, a.p + 1⟩
section
variable {st : Sto} {f b p r F L : Nat} {B T : PV} {ks : List Str} {xs : List PV} {steps : List PV} {e : PV} {a : AF}
theorem zmC (h : FrAt st a f b) (hl : a.ks.length ≤ 1000) {k : PV} {w : Str} {q : List PV} (hs : a.ss[a.p]? = some (.tup (k :: .str w :: q))) (v : PV) :
    m_Frame_end_step [.ref f, v] st = .ok .non ((st.set b (.dic (a.next w v).ks (a.next w v).xs)).set f (FrO b (a.next w v).B (a.p + 1))) := by
  obtain ⟨h, hb⟩ := h
  have ne : b ≠ f := fun z => by subst z; rw [h] at hb; cases hb
  have h2 : (st.set b (.dic (dPut w v a.ks a.xs).1 (dPut w v a.ks a.xs).2))[f]? = some (FrO b (.tup [.tup a.ss, a.e]) a.p) := by rw [List.getElem?_set_ne ne]; exact h
  have l1 := zjQ h
  rw [hs] at l1
  simp [-zbD, m_Frame_end_step, mirror, zbG, za5, za4, zjR h, l1, at1, zfb h, zh1 hb hl]
  simp [sFldAdd, augGet, augPut, zah h2, i1, List.lookup_cons, Mi.putK]
  rfl
theorem zk5 (h : st[f]? = some (FrO b B p)) (B' : PV) : m_Frame_enter [.ref f, B'] st = .ok .non (st.set f (FrO b B' 0)) := by
  have fl := (List.getElem?_eq_some_iff.mp h).1
  have h2 : (st.set f (FrO b B' p))[f]? = some (FrO b B' p) := by rw [List.getElem?_set_self fl]
  simp [m_Frame_enter, mirror, zcT, zbK, Mi.putAt, zah h, i1, Mi.putK]
  rw [zah h2]
  simp [i1, Mi.putK]
  rfl
structure S (st : Sto) (r F L : Nat) (T : PV) (fs : List PV) (kf : List Str) (xf : List PV) : Prop where
  rn : st[r]? = some (RnO F L T)
  ls : st[L]? = some (.lst fs)
  fn : st[F]? = some (.dic kf xf)
theorem zaD (h : st[r]? = some (RnO F L T)) : fldAt "frames" insOf excOf (.ref r) st = .ok (.ref L) st := by
  simp [zah h, i2, List.lookup_cons]
theorem zet (h : st[r]? = some (RnO F L T)) : fldAt "functions" insOf excOf (.ref r) st = .ok (.ref F) st := by
  simp [zah h, i2, List.lookup_cons]
theorem zjb (h : st[r]? = some (RnO F L T)) : fldAt "told" insOf excOf (.ref r) st = .ok T st := by
  simp [zah h, i2, List.lookup_cons]
theorem zh2 (h : st[r]? = some (RnO F L T)) (k : Nat → (List PV → Mo PV) → Res PV) : methAt "begin" zaW (.ref r) st k = k r m_Runner_begin := zaf h (by simp) (by simp [zaW]) k
theorem zgo (h : st[r]? = some (RnO F L T)) (k : Nat → (List PV → Mo PV) → Res PV) : methAt "at_rest" zQ (.ref r) st k = k r m_Runner_at_rest := zaf h (by simp) (by simp [zQ]) k
theorem zjS (h : st[r]? = some (RnO F L T)) (k : Nat → (List PV → Mo PV) → Res PV) : methAt "give_back" zag (.ref r) st k = k r m_Runner_give_back := zaf h (by simp) (by simp [zag]) k
theorem zoj (h : st[r]? = some (RnO F L T)) (k : Nat → (List PV → Mo PV) → Res PV) : methAt "go_line" zI (.ref r) st k = k r m_Runner_go_line := zaf h (by simp) (by simp [zI]) k
theorem zmD {st : Sto} {o : Nat} {w : Str} {k : Int} (h : st[o]? = some (OpO w k)) (q : Nat → (List PV → Mo PV) → Res PV) : methAt "answer" za6 (.ref o) st q = q o m_Op_answer := zaf h (by simp) (by simp [za6]) q
theorem zh3 {fs : List PV} {kf : List Str} {xf : List PV} (s : S st r F L T fs kf xf) : m_Runner_at_rest [.ref r] st = .ok (.bl (decide (fs.length = 0))) st := by
  simp [-zbD, m_Runner_at_rest, mirror, zbJ, zaD s.rn, zL s.ls]
  cases fs <;> simp
  omega
def Bnd (ps vs : List PV) (ks : List Str) (xs : List PV) : Prop := ∀ st, oDZip [.tup ps, .tup vs] st = .ok (.ref st.length) (st ++ [.dic ks xs])
theorem zh4 {nm : PV} {ps vs : List PV} {blk : PV} (hb : Bnd ps vs ks xs) (st : Sto) : newI "Frame" m_Frame___init__ [.tup [nm, .tup ps, blk], .tup vs] st = .ok (.ref st.length) (st ++ [FrO (st.length + 1) blk 0, .dic ks xs]) := by
  have z := hb (st ++ [.ins "Frame" [] []])
  simp at z
  simp [newI, m_Frame___init__, mirror, zbF, za3, za2, at1, at2, z, Mi.putAt, withI, i1, Mi.putK]
theorem zh5 {fs : List PV} {kf : List Str} {xf : List PV} {g : Str} {nm : PV} {ps vs : List PV} {blk : PV} (s : S st r F L T fs kf xf) (hg : (kf.zip xf).lookup g = some (.tup [nm, .tup ps, blk])) (hb : Bnd ps vs ks xs) (hl : fs.length ≤ 10000) :
    m_Runner_begin [.ref r, .str g, .tup vs] st = .ok .non ((st ++ [FrO (st.length + 1) blk 0, .dic ks xs]).set L (.lst (fs ++ [.ref st.length]))) := by
  have Ll := (List.getElem?_eq_some_iff.mp s.ls).1
  have mk := zh4 (nm := nm) (blk := blk) hb st
  have hn : (st ++ [FrO (st.length + 1) blk 0, .dic ks xs])[L]? = some (.lst fs) := (Pre.of st _).get s.ls
  have hlim : fs.length < 1000000 := by omega
  simp [-zbD, m_Runner_begin, mirror, zcp, zaD s.rn, zL s.ls, zet s.rn, zgl s.fn, hg, mk, oAppend, zL hn, hlim]
end
end FK32
namespace FK32
open PySem L2 PySem.W Mi
abbrev refs (as : List (AF × Nat × Nat)) : List PV := as.reverse.map fun a => .ref a.2.1
def Kept (B0 st : Sto) : Prop := ∀ (m : Nat) so, B0[m]? = some so → st[m]? = some so
structure Rep (B0 : Sto) (kf : List Str) (xf : List PV) (r F L : Nat) (T : PV) (st : Sto) (as : List (AF × Nat × Nat)) : Prop where
  s : S st r F L T (refs as) kf xf
  fr : ∀ a ∈ as, FrAt st a.1 a.2.1 a.2.2
  od : as.Pairwise fun a b => b.2.2 < a.2.1
  lo : ∀ a ∈ as, F < a.2.1 ∧ a.2.1 < a.2.2
  kb : Kept B0 st
  n0 : B0.length ≤ r ∧ B0.length ≤ F ∧ B0.length ≤ L
section
variable {B0 : Sto} {kf : List Str} {xf : List PV} {r F L : Nat} {T : PV} {st st' : Sto} {as : List (AF × Nat × Nat)} {a a' : AF} {f b : Nat}
theorem zde {st : Sto} {n : Nat} {so : SO} (h : st[n]? = some so) : n < st.length := (List.getElem?_eq_some_iff.mp h).1
theorem Rep.fne (R : Rep B0 kf xf r F L T st as) {x : AF × Nat × Nat} (hx : x ∈ as) : r ≠ x.2.1 ∧ r ≠ x.2.2 ∧ L ≠ x.2.1 ∧ L ≠ x.2.2 ∧ F ≠ x.2.1 ∧ F ≠ x.2.2 := by
  obtain ⟨h, hb⟩ := R.fr x hx
  obtain ⟨l1, l2⟩ := R.lo x hx
  refine ⟨fun z => ?_, fun z => ?_, fun z => ?_, fun z => ?_, by omega, by omega⟩
  · have := R.s.rn; rw [z, h] at this; simp [FrO, RnO] at this
  · have := R.s.rn; rw [z, hb] at this; cases this
  · have := R.s.ls; rw [z, h] at this; cases this
  · have := R.s.ls; rw [z, hb] at this; cases this
theorem Rep.rL (R : Rep B0 kf xf r F L T st as) : r ≠ L := fun z => by have := R.s.rn; rw [z, R.s.ls] at this; cases this
theorem Rep.FL (R : Rep B0 kf xf r F L T st as) : F ≠ L := fun z => by have := R.s.fn; rw [z, R.s.ls] at this; cases this
theorem Rep.rF (R : Rep B0 kf xf r F L T st as) : r ≠ F := fun z => by have := R.s.rn; rw [z, R.s.fn] at this; cases this
theorem Rep.b0 (R : Rep B0 kf xf r F L T st as) {m : Nat} {so : SO} (h : B0[m]? = some so) : m ≠ r ∧ m ≠ F ∧ m ≠ L ∧ ∀ x ∈ as, m ≠ x.2.1 ∧ m ≠ x.2.2 := by
  have := zde h
  obtain ⟨h1, h2, h3⟩ := R.n0
  refine ⟨by omega, by omega, by omega, fun x hx => ?_⟩
  have := R.lo x hx
  omega
theorem Rep.top (R : Rep B0 kf xf r F L T st ((a, f, b) :: as)) (h : FrAt st' a' f b) (k : ∀ m so, m ≠ f → m ≠ b → st[m]? = some so → st'[m]? = some so) : Rep B0 kf xf r F L T st' ((a', f, b) :: as) := by
  obtain ⟨e1, e2, e3, e4, e5, e6⟩ := R.fne (List.mem_cons_self ..)
  have od := List.pairwise_cons.mp R.od
  refine ⟨⟨k _ _ e1 e2 R.s.rn, by have := k _ _ e3 e4 R.s.ls; simpa [refs] using this, k _ _ e5 e6 R.s.fn⟩, fun x hx => ?_, List.pairwise_cons.mpr ⟨fun y hy => od.1 y hy, od.2⟩, fun x hx => ?_, fun m so hm => ?_, R.n0⟩
  · rcases List.mem_cons.mp hx with rfl | hx
    · exact h
    · have l := R.lo x (List.mem_cons_of_mem _ hx)
      have l2 := od.1 x hx
      have l3 := R.lo _ (List.mem_cons_self ..)
      simp only at l2 l3
      exact (R.fr x (List.mem_cons_of_mem _ hx)).keep (fun so => k _ so (by omega) (by omega)) (fun so => k _ so (by omega) (by omega))
  · rcases List.mem_cons.mp hx with rfl | hx
    · exact R.lo (a, f, b) (List.mem_cons_self ..)
    · exact R.lo x (List.mem_cons_of_mem _ hx)
  · obtain ⟨_, _, _, q⟩ := R.b0 hm
    exact k m so (q _ (List.mem_cons_self ..)).1 (q _ (List.mem_cons_self ..)).2 (R.kb m so hm)
theorem Rep.push (R : Rep B0 kf xf r F L T st as) (h : FrAt st' a' f b) (hl : st.length ≤ f ∧ f < b) (ls : st'[L]? = some (.lst (refs as ++ [.ref f]))) (k : ∀ m so, m ≠ L → st[m]? = some so → st'[m]? = some so) : Rep B0 kf xf r F L T st' ((a', f, b) :: as) := by
  have lF := zde R.s.fn
  refine ⟨⟨k _ _ R.rL R.s.rn, by simpa [refs] using ls, k _ _ R.FL R.s.fn⟩, fun x hx => ?_, List.pairwise_cons.mpr ⟨fun y hy => ?_, R.od⟩, fun x hx => ?_, fun m so hm => ?_, R.n0⟩
  · rcases List.mem_cons.mp hx with rfl | hx
    · exact h
    · obtain ⟨_, _, e3, e4, _, _⟩ := R.fne hx
      exact (R.fr x hx).keep (fun so => k _ so (Ne.symm e3)) (fun so => k _ so (Ne.symm e4))
  · have := zde (R.fr y hy).di
    simp only
    omega
  · rcases List.mem_cons.mp hx with rfl | hx
    · exact ⟨by simp only; omega, hl.2⟩
    · exact R.lo x hx
  · obtain ⟨_, _, q, _⟩ := R.b0 hm
    exact k m so q (R.kb m so hm)
theorem Rep.pop {x : AF × Nat × Nat} (R : Rep B0 kf xf r F L T st (x :: as)) (ls : st'[L]? = some (.lst (refs as))) (k : ∀ m so, m ≠ L → st[m]? = some so → st'[m]? = some so) : Rep B0 kf xf r F L T st' as := by
  refine ⟨⟨k _ _ R.rL R.s.rn, ls, k _ _ R.FL R.s.fn⟩, fun y hy => ?_, (List.pairwise_cons.mp R.od).2, fun y hy => R.lo y (List.mem_cons_of_mem _ hy), fun m so hm => ?_, R.n0⟩
  · obtain ⟨_, _, e3, e4, _, _⟩ := R.fne (List.mem_cons_of_mem _ hy)
    exact (R.fr y (List.mem_cons_of_mem _ hy)).keep (fun so => k _ so (Ne.symm e3)) (fun so => k _ so (Ne.symm e4))
  · obtain ⟨_, _, q, _⟩ := R.b0 hm
    exact k m so q (R.kb m so hm)
theorem Rep.pre (R : Rep B0 kf xf r F L T st as) (p : Pre st st') : Rep B0 kf xf r F L T st' as :=
  ⟨⟨p.get R.s.rn, p.get R.s.ls, p.get R.s.fn⟩, fun x hx => (R.fr x hx).keep (fun _ => p.get) (fun _ => p.get), R.od, R.lo, fun m so h => p.get (R.kb m so h), R.n0⟩
theorem zox {D O : SO} (hf : f < st.length) (hb : b < st.length) (ne : b ≠ f) : ((st.set b D).set f O)[f]? = some O ∧ ((st.set b D).set f O)[b]? = some D ∧ ∀ m so, m ≠ f → m ≠ b → st[m]? = some so → ((st.set b D).set f O)[m]? = some so :=
  ⟨by rw [List.getElem?_set_self (by simpa using hf)], by rw [List.getElem?_set_ne (Ne.symm ne), List.getElem?_set_self hb], fun m so h1 h2 e => by rw [List.getElem?_set_ne (Ne.symm h1), List.getElem?_set_ne (Ne.symm h2)]; exact e⟩
theorem Rep.ended (R : Rep B0 kf xf r F L T st ((a, f, b) :: as)) (w : Str) (v : PV) : Rep B0 kf xf r F L T ((st.set b (.dic (a.next w v).ks (a.next w v).xs)).set f (FrO b (a.next w v).B (a.p + 1))) ((a.next w v, f, b) :: as) := by
  have h := R.fr _ (List.mem_cons_self ..)
  have l := R.lo _ (List.mem_cons_self ..)
  simp only at l
  obtain ⟨u1, u2, u3⟩ := zox (D := .dic (a.next w v).ks (a.next w v).xs) (O := FrO b (a.next w v).B (a.p + 1)) (zde h.fr) (zde h.di) (by simp only; omega)
  exact R.top ⟨u1, u2⟩ u3
theorem zcV (R : Rep B0 kf xf r F L T st ((a, f, b) :: as)) {ln : PV} (hl : a.line = ln) : m_Runner_go_line [.ref r] st = (zp [some (.ref r), some (.ref f), some ln] st).bind endOf := by
  have h := (R.fr _ (List.mem_cons_self ..)).fr
  have s := R.s
  have l1 := zjQ h
  have hl' : (a.ss[a.p]?).getD a.e = ln := hl
  simp only at l1
  rw [hl'] at l1
  show (zaP [some (.ref r), none, none] st).bind endOf = _
  have hlast : refs ((a, f, b) :: as) = refs as ++ [.ref f] := by simp [refs]
  have ls := s.ls
  rw [hlast] at ls
  have e1 : (sSet 1 (mOp oIxD (mUn (fldAt "frames" insOf excOf) (mVar 0)) (mUn oNeg (mC (.int 1))))) [some (.ref r), none, none] st = .ok (.nx [some (.ref r), some (.ref f), none]) st := by
    simp [-zbD, zaD s.rn, zL ls, atL]
  have e2 : (sSet 2 (mMeth "line_here" zM (mVar 1) aNil)) [some (.ref r), some (.ref f), none] st = .ok (.nx [some (.ref r), some (.ref f), some ln]) st := by
    simp [zjR h, l1]
  simp only [zaP, zE]
  rw [e1]
  simp only [zj, zC, za9, zE]
  rw [e2]
  simp only [zj, zC]
def OpA (B0 : Sto) (op : Str) (args : List PV) (v : PV) : Prop := ∃ k : Int, (∀ st, m_op_of [.str op] st = .ok (.ref st.length) (st ++ [OpO op k])) ∧ ∀ st o, Kept B0 st → st[o]? = some (OpO op k) → ∃ d, m_Op_answer [.ref o, .tup args] st = .ok v (st ++ d)
def OpF (B0 : Sto) (op : Str) (args : List PV) (v : Str) : Prop := ∃ k : Int, (∀ st, m_op_of [.str op] st = .ok (.ref st.length) (st ++ [OpO op k])) ∧ ∀ st o, Kept B0 st → st[o]? = some (OpO op k) → ∃ d, m_Op_answer [.ref o, .tup args] st = .err "Fault" ["word"] [.str v] (st ++ d)
theorem zmE (R : Rep B0 kf xf r F L T st ((a, f, b) :: as)) {w op : Str} {atoms args : List PV} {v : PV} (hl : a.ss[a.p]? = some (.tup [.str "let", .str w, .str op, .tup atoms])) (hn : atoms.length ≤ 1000) (hk : a.ks.length ≤ 1000) (hv : ValL a atoms args) (ho : OpA B0 op args v) :
    ∃ st', m_Runner_go_line [.ref r] st = .ok .non st' ∧ Rep B0 kf xf r F L T st' ((a.next w v, f, b) :: as) := by
  obtain ⟨k, o1, o2⟩ := ho
  have p1 : Pre st (st ++ [OpO op k]) := Pre.of _ _
  have R1 := R.pre p1
  have h := R.fr _ (List.mem_cons_self ..)
  have h1 := R1.fr _ (List.mem_cons_self ..)
  have v1 := zgn h1 hv hn
  have p2 : Pre (st ++ [OpO op k]) (st ++ [OpO op k] ++ [.lst args]) := Pre.of _ _
  have R2 := R1.pre p2
  have ob := zfD st (OpO op k)
  obtain ⟨d, a2⟩ := o2 _ st.length R2.kb (p2.get ob)
  have R3 := R2.pre (Pre.of _ d)
  have e3 := zmC (R3.fr _ (List.mem_cons_self ..)) hk hl v
  refine ⟨_, ?_, R3.ended w v⟩
  rw [zcV R (ln := .tup [.str "let", .str w, .str op, .tup atoms]) (by show (a.ss[a.p]?).getD a.e = _; rw [hl]; rfl)]
  simp only at h1 v1
  simp [zp, at0, at2, at3, zk4 h.fr, o1, zmD ob, zgm h1.fr, v1]
  simp only [List.append_assoc, List.cons_append, List.nil_append] at a2 e3
  rw [a2]
  simp [e3]
theorem zk6 (R : Rep B0 kf xf r F L T st ((a, f, b) :: as)) {w op : Str} {atoms args : List PV} {v : Str} (hl : a.ss[a.p]? = some (.tup [.str "let", .str w, .str op, .tup atoms])) (hn : atoms.length ≤ 1000) (hv : ValL a atoms args) (ho : OpF B0 op args v) :
    ∃ st', m_Runner_go_line [.ref r] st = .err "Fault" ["word"] [.str v] st' ∧ Rep B0 kf xf r F L T st' ((a, f, b) :: as) := by
  obtain ⟨k, o1, o2⟩ := ho
  have p1 : Pre st (st ++ [OpO op k]) := Pre.of _ _
  have R1 := R.pre p1
  have h := R.fr _ (List.mem_cons_self ..)
  have h1 := R1.fr _ (List.mem_cons_self ..)
  have v1 := zgn h1 hv hn
  have p2 : Pre (st ++ [OpO op k]) (st ++ [OpO op k] ++ [.lst args]) := Pre.of _ _
  have R2 := R1.pre p2
  have ob := zfD st (OpO op k)
  obtain ⟨d, a2⟩ := o2 _ st.length R2.kb (p2.get ob)
  have R3 := R2.pre (Pre.of _ d)
  refine ⟨_, ?_, R3⟩
  rw [zcV R (ln := .tup [.str "let", .str w, .str op, .tup atoms]) (by show (a.ss[a.p]?).getD a.e = _; rw [hl]; rfl)]
  simp only at h1 v1
  simp [zp, at0, at2, at3, zk4 h.fr, o1, zmD ob, zgm h1.fr, v1]
  simp only [List.append_assoc, List.cons_append, List.nil_append] at a2
  rw [a2]
  simp
end
end FK32
namespace FK32
open PySem L2 PySem.W Mi
section
variable {B0 : Sto} {kf : List Str} {xf : List PV} {r F L : Nat} {T : PV} {st st' : Sto} {as : List (AF × Nat × Nat)} {a a' : AF} {f b : Nat}
theorem zff (x : Int) (st : Sto) : m_chooses_first [.int x] st = .ok (.bl (decide (x ≠ 0))) st := by
  have kind_int : m_kind_of [.int x] st = .ok (.str "number") st := by
    have e : ∀ t, oIsi isT [.int x, .ty t] st = optB (tyb "int" t) st := fun _ => rfl
    have t1 : tyb "int" "str" = some false := rfl
    have t2 : tyb "int" "tuple" = some false := rfl
    have t3 : tyb "int" "dict" = some false := rfl
    simp [m_kind_of, mirror, zbu, zaF, zbe, zb1, e, t1, t2, t3, optB]
  have p_check1 : m_check_kinds [.tup [.str "number"], .tup [.int x]] st = .ok .non st := by
    simp [m_check_kinds, mirror, zar, zipP, forL, kind_int]
  simp [m_chooses_first, mirror, za8, zbh, p_check1]
  by_cases h : x = 0 <;> simp [h]
theorem znC (R : Rep B0 kf xf r F L T st ((a, f, b) :: as)) {at_ : PV} {s1 s2 : List PV} {e1 e2 : PV} {x : Int} (hl : a.line = .tup [.str "if", at_, .tup [.tup s1, e1], .tup [.tup s2, e2]]) (hv : Val a at_ (.int x)) :
    ∃ st', m_Runner_go_line [.ref r] st = .ok .non st' ∧ Rep B0 kf xf r F L T st' ((⟨a.ks, a.xs, if x ≠ 0 then s1 else s2, if x ≠ 0 then e1 else e2, 0⟩, f, b) :: as) := by
  have h := R.fr _ (List.mem_cons_self ..)
  simp only at h
  have en := fun B' => zk5 h.fr B'
  have v := zh0 h hv
  have ne : b ≠ f := by have := R.lo _ (List.mem_cons_self ..); simp only at this; omega
  refine ⟨st.set f (FrO b (AF.B ⟨a.ks, a.xs, if x ≠ 0 then s1 else s2, if x ≠ 0 then e1 else e2, 0⟩) 0), ?_, R.top ⟨by rw [List.getElem?_set_self (zde h.fr)], by rw [List.getElem?_set_ne (Ne.symm ne)]; exact h.di⟩ fun m so m1 m2 q => by rw [List.getElem?_set_ne (Ne.symm m1)]; exact q⟩
  rw [zcV R hl]
  by_cases hx : x = 0
  · subst hx
    simp [zp, at0, at1, at2, at3, zfK h.fr, zgN h.fr, v, zff, en]
  · simp [zp, at0, at1, at2, at3, zfK h.fr, zgN h.fr, v, zff, hx, en]
def NoNum (B0 : Sto) (v : PV) : Prop := ∀ st, Kept B0 st → m_chooses_first [v] st = .err "Fault" ["word"] [.str "kind"] st
theorem zmF (R : Rep B0 kf xf r F L T st ((a, f, b) :: as)) {at_ B1 B2 v : PV} (hl : a.line = .tup [.str "if", at_, B1, B2]) (hv : Val a at_ v) (hn : NoNum B0 v) :
    m_Runner_go_line [.ref r] st = .err "Fault" ["word"] [.str "kind"] st := by
  have h := R.fr _ (List.mem_cons_self ..)
  simp only at h
  have v := zh0 h hv
  rw [zcV R hl]
  simp [zp, at0, at1, at2, at3, zfK h.fr, zgN h.fr, v, hn st R.kb]
theorem zk7 (R : Rep B0 kf xf r F L T st ((a, f, b) :: as)) {w : Str} (hl : a.line = .tup [.str "fail", .str w]) :
    m_Runner_go_line [.ref r] st = .err "Fault" ["word"] [.str w] st := by
  rw [zcV R hl]
  simp [zp, at0, at1]
theorem zfL (R : Rep B0 kf xf r F L T st [(a, f, b)]) {at_ v : PV} (hl : a.line = .tup [.str "give", at_]) (hv : Val a at_ v) :
    ∃ st', m_Runner_go_line [.ref r] st = .ok .non st' ∧ Rep B0 kf xf r F L v st' [] := by
  have h := R.fr _ (List.mem_cons_self ..)
  simp only at h
  have vv := zh0 h hv
  have s := R.s
  have ls : st[L]? = some (.lst [.ref f]) := s.ls
  have Ll := zde ls
  have R1 : Rep B0 kf xf r F L T (st.set L (.lst [])) [] := R.pop (by rw [List.getElem?_set_self Ll]; rfl) fun m so hm q => by rw [List.getElem?_set_ne (Ne.symm hm)]; exact q
  have r2 := R1.s.rn
  have rest := zh3 R1.s
  have gb : m_Runner_give_back [.ref r, v] st = .ok .non ((st.set L (.lst [])).set r (RnO F L v)) := by
    simp [-zbD, m_Runner_give_back, mirror, zX, zY, zaD s.rn, oPop, zL ls, zgo r2, rest, Mi.putAt, zah r2, i2, Mi.putK]
  refine ⟨(st.set L (.lst [])).set r (RnO F L v), ?_, Rep.mk ?_ (fun x hx => nomatch hx) List.Pairwise.nil (fun x hx => nomatch hx) ?_ R.n0⟩
  · rw [zcV R hl]
    simp [zp, at0, at1, zjS s.rn, zgN h.fr, vv, gb]
  · exact ⟨by rw [List.getElem?_set_self (zde r2)], by rw [List.getElem?_set_ne R.rL]; exact R1.s.ls, by rw [List.getElem?_set_ne R.rF]; exact R1.s.fn⟩
  · intro m so hm
    rw [List.getElem?_set_ne (Ne.symm (R.b0 hm).1)]
    exact R1.kb m so hm
theorem zk8 {c : AF} {g d : Nat} (R : Rep B0 kf xf r F L T st ((a, f, b) :: (c, g, d) :: as)) {at_ v : PV} (hl : a.line = .tup [.str "give", at_]) (hv : Val a at_ v) {k : PV} {w : Str} {q : List PV} (hc : c.ss[c.p]? = some (.tup (k :: .str w :: q))) (hk : c.ks.length ≤ 1000) :
    ∃ st', m_Runner_go_line [.ref r] st = .ok .non st' ∧ Rep B0 kf xf r F L T st' ((c.next w v, g, d) :: as) := by
  have h := R.fr _ (List.mem_cons_self ..)
  simp only at h
  have vv := zh0 h hv
  have s := R.s
  have ls : st[L]? = some (.lst (refs as ++ [.ref g] ++ [.ref f])) := by have := s.ls; simpa [refs] using this
  have Ll := zde ls
  have R1 : Rep B0 kf xf r F L T (st.set L (.lst (refs as ++ [.ref g]))) ((c, g, d) :: as) := R.pop (by rw [List.getElem?_set_self Ll]; simp [refs]) fun m so hm q => by rw [List.getElem?_set_ne (Ne.symm hm)]; exact q
  have r2 := R1.s.rn
  have l2 : (st.set L (.lst (refs as ++ [.ref g])))[L]? = some (.lst (refs as ++ [.ref g])) := by rw [List.getElem?_set_self Ll]
  have rest := zh3 R1.s
  have g2 := R1.fr _ (List.mem_cons_self ..)
  simp only at g2
  have en := zmC g2 hk hc v
  refine ⟨_, ?_, R1.ended w v⟩
  have gb : m_Runner_give_back [.ref r, v] st = .ok .non (((st.set L (.lst (refs as ++ [.ref g]))).set d (.dic (c.next w v).ks (c.next w v).xs)).set g (FrO d (c.next w v).B (c.p + 1))) := by
    have pop : oPop (.ref L) st = .ok (.ref f) (st.set L (.lst (refs as ++ [.ref g]))) := by
      simp only [oPop, zL ls]
      have : (refs as ++ [PV.ref g] ++ [PV.ref f])[(refs as ++ [PV.ref g] ++ [PV.ref f]).length - 1]? = some (.ref f) := by simp
      rw [this]
      simp
    have e1 : (sExpr (mUn oPop (mUn (fldAt "frames" insOf excOf) (mVar 0)))) [some (.ref r), some v] st = .ok (.nx [some (.ref r), some v]) (st.set L (.lst (refs as ++ [.ref g]))) := by
      simp [-zbD, zaD s.rn, pop]
    have rest' : decide ((refs ((c, g, d) :: as)).length = 0) = false := by simp [refs]
    rw [rest'] at rest
    generalize refs as = rf at pop e1 rest l2 r2 g2 en ⊢
    show (zX [some (.ref r), some v] st).bind endOf = _
    simp only [zX, zE]
    rw [e1]
    simp [-zbD, zY, zgo r2, rest, zaD r2, zL l2, atL, zk4 g2.fr, en]
  rw [zcV R hl]
  generalize refs as = rf at gb ⊢
  simp [zp, at0, at1, zjS s.rn, zgN h.fr, vv, gb]
theorem zk9 (R : Rep B0 kf xf r F L T st ((a, f, b) :: as)) {w g : Str} {atoms args : List PV} {nm : PV} {ps : List PV} {ss : List PV} {e : PV} {ks : List Str} {xs : List PV} (hl : a.line = .tup [.str "call", .str w, .str g, .tup atoms]) (hn : atoms.length ≤ 1000) (hv : ValL a atoms args)
    (hg : (kf.zip xf).lookup g = some (.tup [nm, .tup ps, .tup [.tup ss, e]])) (hb : Bnd ps args ks xs) (ha : as.length ≤ 9000) :
    ∃ st' f' b', m_Runner_go_line [.ref r] st = .ok .non st' ∧ Rep B0 kf xf r F L T st' ((⟨ks, xs, ss, e, 0⟩, f', b') :: (a, f, b) :: as) := by
  have h := R.fr _ (List.mem_cons_self ..)
  simp only at h
  have v1 := zgn h hv hn
  have p1 : Pre st (st ++ [.lst args]) := Pre.of _ _
  have R1 := R.pre p1
  have bg := zh5 R1.s hg hb (by simp [refs]; omega)
  have Ll := zde R1.s.ls
  have ln : (st ++ [SO.lst args]).length = st.length + 1 := by simp
  refine ⟨_, (st ++ [SO.lst args]).length, (st ++ [SO.lst args]).length + 1, ?_, R1.push (st' := ((st ++ [SO.lst args]) ++ [FrO ((st ++ [SO.lst args]).length + 1) (.tup [.tup ss, e]) 0, SO.dic ks xs]).set L (SO.lst (refs ((a, f, b) :: as) ++ [PV.ref (st ++ [SO.lst args]).length]))) ⟨?_, ?_⟩ ⟨Nat.le_refl _, by omega⟩ ?_ ?_⟩
  · rw [zcV R hl]
    simp only [zp]
    simp [at0, at2, at3, zh2 R.s.rn, zgm h.fr, v1]
    simp at bg
    rw [bg]
    simp
  · rw [List.getElem?_set_ne (by omega), List.getElem?_append_right (Nat.le_refl _)]; simp
  · rw [List.getElem?_set_ne (by omega), List.getElem?_append_right (by omega)]; simp
  · rw [List.getElem?_set_self (by simp; simp at Ll; omega)]
  · intro m so hm q
    rw [List.getElem?_set_ne (Ne.symm hm)]
    exact (Pre.of _ _).get q
theorem znD (R : Rep B0 kf xf r F L T st ((a, f, b) :: as)) {g : Str} {atoms args : List PV} {nm : PV} {ps : List PV} {ss : List PV} {e : PV} {ks : List Str} {xs : List PV} (hl : a.line = .tup [.str "go", .str g, .tup atoms]) (hn : atoms.length ≤ 1000) (hv : ValL a atoms args)
    (hg : (kf.zip xf).lookup g = some (.tup [nm, .tup ps, .tup [.tup ss, e]])) (hb : Bnd ps args ks xs) (ha : as.length ≤ 9000) :
    ∃ st' f' b', m_Runner_go_line [.ref r] st = .ok .non st' ∧ Rep B0 kf xf r F L T st' ((⟨ks, xs, ss, e, 0⟩, f', b') :: as) := by
  have h := R.fr _ (List.mem_cons_self ..)
  simp only at h
  have s := R.s
  have ls : st[L]? = some (.lst (refs as ++ [.ref f])) := by have := s.ls; simpa [refs] using this
  have Ll := zde ls
  have pop : oPop (.ref L) st = .ok (.ref f) (st.set L (.lst (refs as))) := by
    simp only [oPop, zL ls]
    have : (refs as ++ [PV.ref f])[(refs as ++ [PV.ref f]).length - 1]? = some (.ref f) := by simp
    rw [this]
    simp
  have k0 : ∀ m so, m ≠ L → st[m]? = some so → (st.set L (.lst (refs as)))[m]? = some so := fun m so hm q => by rw [List.getElem?_set_ne (Ne.symm hm)]; exact q
  have R0 : Rep B0 kf xf r F L T (st.set L (.lst (refs as))) as := R.pop (by rw [List.getElem?_set_self Ll]) k0
  obtain ⟨_, _, e3, e4, _, _⟩ := R.fne (List.mem_cons_self ..)
  simp only at e3 e4
  have h0 : FrAt (st.set L (.lst (refs as))) a f b := h.keep (fun so => k0 _ so (Ne.symm e3)) (fun so => k0 _ so (Ne.symm e4))
  generalize hs0 : st.set L (.lst (refs as)) = s0 at pop k0 R0 h0
  have v1 := zgn h0 hv hn
  have p1 : Pre s0 (s0 ++ [.lst args]) := Pre.of _ _
  have R1 := R0.pre p1
  have bg := zh5 R1.s hg hb (by simp [refs]; omega)
  have Ll := zde R1.s.ls
  have ln : (s0 ++ [SO.lst args]).length = s0.length + 1 := by simp
  refine ⟨_, (s0 ++ [SO.lst args]).length, (s0 ++ [SO.lst args]).length + 1, ?_, R1.push (st' := ((s0 ++ [SO.lst args]) ++ [FrO ((s0 ++ [SO.lst args]).length + 1) (.tup [.tup ss, e]) 0, SO.dic ks xs]).set L (SO.lst (refs as ++ [PV.ref (s0 ++ [SO.lst args]).length]))) ⟨?_, ?_⟩ ⟨Nat.le_refl _, by omega⟩ ?_ ?_⟩
  · rw [zcV R hl]
    simp only [zp]
    simp [-zbD, at0, at1, at2, zaD s.rn, pop, zh2 R0.s.rn, zgm h0.fr, v1]
    simp at bg
    rw [bg]
    simp
  · rw [List.getElem?_set_ne (by omega), List.getElem?_append_right (Nat.le_refl _)]; simp
  · rw [List.getElem?_set_ne (by omega), List.getElem?_append_right (by omega)]; simp
  · rw [List.getElem?_set_self (by simp; simp at Ll; omega)]
  · intro m so hm q
    rw [List.getElem?_set_ne (Ne.symm hm)]
    exact (Pre.of _ _).get q
end
end FK32
namespace FK32
open PySem L2 PySem.W Mi
inductive Step (B0 : Sto) (kf : List Str) (xf : List PV) : List AF → List AF → Prop
  | lt {a : AF} {rest : List AF} {w op : Str} {atoms args : List PV} {v : PV} (hl : a.ss[a.p]? = some (.tup [.str "let", .str w, .str op, .tup atoms])) (hn : atoms.length ≤ 1000) (hk : a.ks.length ≤ 1000) (hv : ValL a atoms args) (ho : OpA B0 op args v) : Step B0 kf xf (a :: rest) (a.next w v :: rest)
  | call {a : AF} {rest : List AF} {w g : Str} {atoms args : List PV} {nm : PV} {ps ss : List PV} {e : PV} {ks : List Str} {xs : List PV} (hl : a.line = .tup [.str "call", .str w, .str g, .tup atoms]) (hn : atoms.length ≤ 1000) (hv : ValL a atoms args) (hg : (kf.zip xf).lookup g = some (.tup [nm, .tup ps, .tup [.tup ss, e]])) (hb : Bnd ps args ks xs) (ha : rest.length ≤ 9000) : Step B0 kf xf (a :: rest) (⟨ks, xs, ss, e, 0⟩ :: a :: rest)
  | go {a : AF} {rest : List AF} {g : Str} {atoms args : List PV} {nm : PV} {ps ss : List PV} {e : PV} {ks : List Str} {xs : List PV} (hl : a.line = .tup [.str "go", .str g, .tup atoms]) (hn : atoms.length ≤ 1000) (hv : ValL a atoms args) (hg : (kf.zip xf).lookup g = some (.tup [nm, .tup ps, .tup [.tup ss, e]])) (hb : Bnd ps args ks xs) (ha : rest.length ≤ 9000) : Step B0 kf xf (a :: rest) (⟨ks, xs, ss, e, 0⟩ :: rest)
  | give {a c : AF} {rest : List AF} {at_ v k : PV} {w : Str} {q : List PV} (hl : a.line = .tup [.str "give", at_]) (hv : Val a at_ v) (hc : c.ss[c.p]? = some (.tup (k :: .str w :: q))) (hk : c.ks.length ≤ 1000) : Step B0 kf xf (a :: c :: rest) (c.next w v :: rest)
  | iff {a : AF} {rest : List AF} {at_ : PV} {s1 s2 : List PV} {e1 e2 : PV} {x : Int} (hl : a.line = .tup [.str "if", at_, .tup [.tup s1, e1], .tup [.tup s2, e2]]) (hv : Val a at_ (.int x)) : Step B0 kf xf (a :: rest) (⟨a.ks, a.xs, if x ≠ 0 then s1 else s2, if x ≠ 0 then e1 else e2, 0⟩ :: rest)
inductive Fin (B0 : Sto) : List AF → PV → PV → Prop
  | told {a : AF} {at_ v : PV} (hl : a.line = .tup [.str "give", at_]) (hv : Val a at_ v) : Fin B0 [a] (.str "told") v
  | fail {a : AF} {rest : List AF} {w : Str} (hl : a.line = .tup [.str "fail", .str w]) : Fin B0 (a :: rest) (.str "fault") (.str w)
  | kind {a : AF} {rest : List AF} {at_ B1 B2 v : PV} (hl : a.line = .tup [.str "if", at_, B1, B2]) (hv : Val a at_ v) (hn : NoNum B0 v) : Fin B0 (a :: rest) (.str "fault") (.str "kind")
  | lt {a : AF} {rest : List AF} {w op : Str} {atoms args : List PV} {v : Str} (hl : a.ss[a.p]? = some (.tup [.str "let", .str w, .str op, .tup atoms])) (hn : atoms.length ≤ 1000) (hv : ValL a atoms args) (ho : OpF B0 op args v) : Fin B0 (a :: rest) (.str "fault") (.str v)
inductive Steps (B0 : Sto) (kf : List Str) (xf : List PV) : Nat → List AF → List AF → Prop
  | nil {c : List AF} : Steps B0 kf xf 0 c c
  | cons {n : Nat} {c c1 c2 : List AF} (h : Step B0 kf xf c c1) (t : Steps B0 kf xf n c1 c2) : Steps B0 kf xf (n + 1) c c2
theorem Steps.trans {B0 : Sto} {kf : List Str} {xf : List PV} {m n : Nat} {a b c : List AF} (g : Steps B0 kf xf m a b) (h : Steps B0 kf xf n b c) : Steps B0 kf xf (m + n) a c := by
  induction g with
  | nil => rw [Nat.zero_add]; exact h
  | cons h1 g ih => rw [Nat.succ_add_eq_add_succ, Nat.add_succ]; exact .cons h1 (ih h)
theorem Steps.head {B0 : Sto} {kf : List Str} {xf : List PV} {n : Nat} {a b : List AF} (g : Steps B0 kf xf n a b) : ∀ m, m ≤ n → ∃ c, Steps B0 kf xf m a c := by
  induction g with
  | nil => intro m hm; exact ⟨_, by rw [show m = 0 by omega]; exact .nil⟩
  | cons h t ih =>
    intro m hm
    cases m with
    | zero => exact ⟨_, .nil⟩
    | succ m => obtain ⟨c, hc⟩ := ih m (by omega); exact ⟨c, .cons h hc⟩
section
variable {B0 : Sto} {kf : List Str} {xf : List PV} {r F L : Nat} {T : PV} {st st1 : Sto} {c c' : List AF}
def At (B0 : Sto) (kf : List Str) (xf : List PV) (r F L : Nat) (T : PV) (st : Sto) (c : List AF) : Prop := ∃ as, as.map Prod.fst = c ∧ Rep B0 kf xf r F L T st as
theorem zbB {a : AF} {c : List AF} (h : At B0 kf xf r F L T st (a :: c)) : ∃ f b as, as.map Prod.fst = c ∧ Rep B0 kf xf r F L T st ((a, f, b) :: as) := by
  obtain ⟨as, e, R⟩ := h
  cases as with
  | nil => cases e
  | cons x as =>
    obtain ⟨y, f, b⟩ := x
    simp at e
    obtain ⟨e1, e2⟩ := e
    subst e1
    exact ⟨f, b, as, e2, R⟩
theorem zla (h : At B0 kf xf r F L T st c) (s : Step B0 kf xf c c') : ∃ st', m_Runner_go_line [.ref r] st = .ok .non st' ∧ At B0 kf xf r F L T st' c' ∧ c' ≠ [] := by
  cases s with
  | lt hl hn hk hv ho =>
    obtain ⟨f, b, as, e, R⟩ := zbB h
    obtain ⟨st', g, R'⟩ := zmE R hl hn hk hv ho
    exact ⟨st', g, ⟨_, by simp [e], R'⟩, by simp⟩
  | call hl hn hv hg hb ha =>
    obtain ⟨f, b, as, e, R⟩ := zbB h
    obtain ⟨st', f', b', g, R'⟩ := zk9 R hl hn hv hg hb (by rw [← e] at ha; simpa using ha)
    exact ⟨st', g, ⟨_, by simp [e], R'⟩, by simp⟩
  | go hl hn hv hg hb ha =>
    obtain ⟨f, b, as, e, R⟩ := zbB h
    obtain ⟨st', f', b', g, R'⟩ := znD R hl hn hv hg hb (by rw [← e] at ha; simpa using ha)
    exact ⟨st', g, ⟨_, by simp [e], R'⟩, by simp⟩
  | give hl hv hc hk =>
    obtain ⟨f, b, as, e, R⟩ := zbB h
    cases as with
    | nil => cases e
    | cons x as =>
      obtain ⟨y, g, d⟩ := x
      simp at e
      obtain ⟨e1, e2⟩ := e
      subst e1
      obtain ⟨st', g', R'⟩ := zk8 R hl hv hc hk
      exact ⟨st', g', ⟨_, by simp [e2], R'⟩, by simp⟩
  | iff hl hv =>
    obtain ⟨f, b, as, e, R⟩ := zbB h
    obtain ⟨st', g, R'⟩ := znC R hl hv
    exact ⟨st', g, ⟨_, by simp [e], R'⟩, by simp⟩
theorem at_rest (h : At B0 kf xf r F L T st c) : m_Runner_at_rest [.ref r] st = .ok (.bl (decide (c = []))) st := by
  obtain ⟨as, e, R⟩ := h
  rw [zh3 R.s]
  subst e
  cases as <;> simp [refs]
theorem zmG {w v : PV} (h : At B0 kf xf r F L T st c) (s : Fin B0 c w v) : (w = .str "told" ∧ ∃ st', m_Runner_go_line [.ref r] st = .ok .non st' ∧ At B0 kf xf r F L v st' []) ∨ (w = .str "fault" ∧ ∃ st' as', m_Runner_go_line [.ref r] st = .err "Fault" ["word"] [v] st' ∧ Rep B0 kf xf r F L T st' as') := by
  cases s with
  | told hl hv =>
    obtain ⟨f, b, as, e, R⟩ := zbB h
    obtain rfl : as = [] := by simpa using e
    obtain ⟨st', g, R'⟩ := zfL R hl hv
    exact .inl ⟨rfl, st', g, ⟨_, rfl, R'⟩⟩
  | fail hl =>
    obtain ⟨f, b, as, e, R⟩ := zbB h
    exact .inr ⟨rfl, st, _, zk7 R hl, R⟩
  | kind hl hv hn =>
    obtain ⟨f, b, as, e, R⟩ := zbB h
    exact .inr ⟨rfl, st, _, zmF R hl hv hn, R⟩
  | lt hl hn hv ho =>
    obtain ⟨f, b, as, e, R⟩ := zbB h
    obtain ⟨st', g, R'⟩ := zk6 R hl hn hv ho
    exact .inr ⟨rfl, st', _, g, R'⟩
end
end FK32
namespace FK32
open PySem L2 PySem.W Mi
abbrev tsR : PEnv → Mo Bool := (mB (mOp oLt (mVar 4) (mVar 2)))
abbrev bdR : PEnv → Mo Fl := (sSeq (sAug 4 ipAdd (mC (.int 1)))
    (sSeq (sTryE 5 "Fault" (xMeth "go_line" zI (mVar 3) aNil)
    (sRet (mTup (aCons (mC (.str "fault")) (aCons (mUn (fldAt "word" insOf excOf) (mVar 5)) (aCons (mVar 4) aNil))))))
    (sIf (mB (mMeth "at_rest" zQ (mVar 3) aNil))
    (sRet (mTup (aCons (mC (.str "told")) (aCons (mUn (fldAt "told" insOf excOf) (mVar 3)) (aCons (mVar 4) aNil)))))
    sNext)))
section
variable {B0 : Sto} {kf : List Str} {xf : List PV} {r F L : Nat} {T : PV} {st st1 : Sto} {c c' : List AF} {v0 v1 : Option PV} {bu s : Nat}
abbrev envR (v0 v1 : Option PV) (bu r s : Nat) : PEnv := [v0, v1, some (.int bu), some (.ref r), some (.int s), none]
theorem a1R : (sAug 4 ipAdd (mC (.int 1))) (envR v0 v1 bu r s) st = .ok (.nx (envR v0 v1 bu r (s + 1))) st := by
  simp
theorem zgp (rn : st[r]? = some (RnO F L T)) (h : m_Runner_go_line [.ref r] st = .ok .non st1) : bdR (envR v0 v1 bu r s) st = (sIf (mB (mMeth "at_rest" zQ (mVar 3) aNil))
    (sRet (mTup (aCons (mC (.str "told")) (aCons (mUn (fldAt "told" insOf excOf) (mVar 3)) (aCons (mVar 4) aNil)))))
    sNext) (envR v0 v1 bu r (s + 1)) st1 := by
  have x1 : (xMeth "go_line" zI (mVar 3) aNil) (envR v0 v1 bu r (s + 1)) st = .ok .non st1 := by
    simp [zoj rn, h]
  have t1 : ∀ gs, (sTryE 5 "Fault" (xMeth "go_line" zI (mVar 3) aNil) gs) (envR v0 v1 bu r (s + 1)) st = .ok (.nx (envR v0 v1 bu r (s + 1))) st1 := fun gs => by
    unfold sTryE
    rw [x1]
  simp only [bdR, zE]
  rw [a1R]
  simp only [zj, zC, zE]
  rw [t1]
  simp only [zj, zC]
theorem At.rn (h : At B0 kf xf r F L T st c) : st[r]? = some (RnO F L T) := by obtain ⟨as, e, R⟩ := h; exact R.s.rn
theorem At.kb (h : At B0 kf xf r F L T st c) : Kept B0 st := by obtain ⟨as, e, R⟩ := h; exact R.kb
theorem znE (h0 : At B0 kf xf r F L T st c) (h : m_Runner_go_line [.ref r] st = .ok .non st1) (h1 : At B0 kf xf r F L T st1 c') (ne : c' ≠ []) : bdR (envR v0 v1 bu r s) st = .ok (.nx (envR v0 v1 bu r (s + 1))) st1 := by
  rw [zgp h0.rn h]
  have r1 := at_rest h1
  have : decide (c' = []) = false := by simpa using ne
  rw [this] at r1
  simp [zgo h1.rn, r1]
theorem zmH {v : PV} (h0 : At B0 kf xf r F L T st c) (h : m_Runner_go_line [.ref r] st = .ok .non st1) (h1 : At B0 kf xf r F L v st1 []) : bdR (envR v0 v1 bu r s) st = .ok (.rt (.tup [.str "told", v, .int (s + 1 : Nat)])) st1 := by
  rw [zgp h0.rn h]
  have r1 := at_rest h1
  simp [-zbD, zgo h1.rn, r1, zjb h1.rn]
theorem zmI {v : PV} (h0 : At B0 kf xf r F L T st c) (h : m_Runner_go_line [.ref r] st = .err "Fault" ["word"] [v] st1) : bdR (envR v0 v1 bu r s) st = .ok (.rt (.tup [.str "fault", v, .int (s + 1 : Nat)])) st1 := by
  have x1 : (xMeth "go_line" zI (mVar 3) aNil) (envR v0 v1 bu r (s + 1)) st = .err "Fault" ["word"] [v] st1 := by
    simp [zoj h0.rn, h]
  have t1 : (sTryE 5 "Fault" (xMeth "go_line" zI (mVar 3) aNil) (sRet (mTup (aCons (mC (.str "fault")) (aCons (mUn (fldAt "word" insOf excOf) (mVar 5)) (aCons (mVar 4) aNil)))))) (envR v0 v1 bu r (s + 1)) st = .ok (.rt (.tup [.str "fault", v, .int (s + 1 : Nat)])) st1 := by
    unfold sTryE
    rw [x1]
    simp [fldAt, excOf, List.lookup_cons, tryFl]
  simp only [bdR, zE]
  rw [a1R]
  simp only [zj, zC, zE]
  rw [t1]
  simp
theorem zh6 {k : Nat} (g : Steps B0 kf xf k c c') : ∀ {st : Sto} (s fuel : Nat), At B0 kf xf r F L T st c → s + k ≤ bu → ∃ st', At B0 kf xf r F L T st' c' ∧
    whileF tsR bdR (fuel + k) (envR v0 v1 bu r s) st = whileF tsR bdR fuel (envR v0 v1 bu r (s + k)) st' := by
  induction g with
  | nil => intro st s fuel h hs; exact ⟨st, h, rfl⟩
  | @cons n c c1 c2 h t ih =>
    intro st s fuel S0 hs
    obtain ⟨st1, g, S1, ne⟩ := zla S0 h
    obtain ⟨st', S', e⟩ := ih (s + 1) fuel S1 (by omega)
    refine ⟨st', S', ?_⟩
    rw [show fuel + (n + 1) = (fuel + n) + 1 by omega, zZ]
    have t : tsR (envR v0 v1 bu r s) st = .ok true st := by
      have : (s : Int) < bu := by omega
      simp [this]
    rw [t]
    simp only [zj, if_true]
    rw [znE S0 g S1 ne]
    simp only [zj]
    rw [e, show s + 1 + n = s + (n + 1) by omega]
theorem zjc {B0 st : Sto} (h : Kept B0 st) : B0.length ≤ st.length := by
  apply Classical.byContradiction
  intro n
  have := h st.length _ (List.getElem?_eq_getElem (by omega))
  simp at this
theorem Kept.pre {B0 st st' : Sto} (h : Kept B0 st) (p : Pre st st') : Kept B0 st' := fun m so e => p.get (h m so e)
def ByName (fns : List PV) (kf : List Str) (xf : List PV) : Prop := ∀ st, m_functions_by_name [.tup fns] st = .ok (.ref st.length) (st ++ [.dic kf xf])
theorem zjd {nm : PV} {ps : List PV} {ss : List PV} {e : PV} {more : List PV} {ins : List PV} {ks : List Str} {xs : List PV} (hn : ByName (.tup [nm, .tup ps, .tup [.tup ss, e]] :: more) kf xf) (hb : Bnd ps ins ks xs) (hk : Kept B0 st) :
    ∃ st', newI "Runner" m_Runner___init__ [.tup (.tup [nm, .tup ps, .tup [.tup ss, e]] :: more), .tup ins] st = .ok (.ref st.length) st' ∧ At B0 kf xf st.length (st.length + 1) (st.length + 4) .non st' [⟨ks, xs, ss, e, 0⟩] := by
  have mk := zh4 (nm := nm) (blk := .tup [.tup ss, e]) hb
  have z := hn (st ++ [.ins "Runner" [] []])
  simp at z
  have lk := zjc hk
  refine ⟨st ++ [RnO (st.length + 1) (st.length + 4) .non, .dic kf xf, FrO (st.length + 3) (.tup [.tup ss, e]) 0, .dic ks xs, .lst [.ref (st.length + 2)]], ?_, [(⟨ks, xs, ss, e, 0⟩, st.length + 2, st.length + 3)], rfl, ⟨⟨?_, ?_, ?_⟩, ?_, by simp, ?_, hk.pre (Pre.of _ _), by omega, by omega, by omega⟩⟩
  · unfold newI
    simp [m_Runner___init__, mirror, zbr, zaR, zaQ, z, mk, at0, Mi.putAt, withI, i2, Mi.putK]
  · simp
  · simp [refs]
  · simp
  · intro x hx
    obtain rfl := List.mem_singleton.mp hx
    exact ⟨by simp, by simp⟩
  · intro x hx
    obtain rfl := List.mem_singleton.mp hx
    exact ⟨by simp, by simp⟩
theorem znF {nm : PV} {ps : List PV} {ss : List PV} {e : PV} {more : List PV} {ins : List PV} {ks : List Str} {xs : List PV} {k : Nat} {w v : PV} (hn : ByName (.tup [nm, .tup ps, .tup [.tup ss, e]] :: more) kf xf) (hb : Bnd ps ins ks xs)
    (g : Steps B0 kf xf k [⟨ks, xs, ss, e, 0⟩] c) (fin : Fin B0 c w v) (hk : k ≤ 900000) (kb : Kept B0 st) (bu : Nat) :
    ∃ st', m_run [.tup (.tup [nm, .tup ps, .tup [.tup ss, e]] :: more), .tup ins, .int bu] st = .ok (if k + 1 ≤ bu then .tup [w, v, .int (k + 1 : Nat)] else .tup [.str "out", .non, .int bu]) st' ∧ Kept B0 st' := by
  obtain ⟨s1, run, A1⟩ := zjd (st := st) hn hb kb
  generalize hP : PV.tup (.tup [nm, .tup ps, .tup [.tup ss, e]] :: more) = P at run ⊢
  generalize st.length + 4 = L at A1
  generalize st.length + 1 = F at A1
  generalize st.length = r at A1 run
  have start : (sSet 3 (mCall (newI "Runner" m_Runner___init__) (aCons (mVar 0) (aCons (mVar 1) aNil)))) [some P, some (.tup ins), some (.int bu), none, none, none] st = .ok (.nx [some P, some (.tup ins), some (.int bu), some (.ref r), none, none]) s1 := by
    simp only [zae, zai, zS, zaa, zas, List.getElem?_cons_zero, List.getElem?_cons_succ, zj]
    rw [run]
    rfl
  have hlim : (lim : Nat) = 1000000 := rfl
  by_cases hbu : k + 1 ≤ bu
  · obtain ⟨s2, A2, e2⟩ := zh6 (v0 := some P) (v1 := some (.tup ins)) (bu := bu) g 0 (lim - k) A1 (by omega)
    have t : tsR (envR (some P) (some (.tup ins)) bu r k) s2 = .ok true s2 := by
      have : (k : Int) < bu := by omega
      simp [this]
    have last : ∃ s3, bdR (envR (some P) (some (.tup ins)) bu r k) s2 = .ok (.rt (.tup [w, v, .int (k + 1 : Nat)])) s3 ∧ Kept B0 s3 := by
      rcases zmG A2 fin with ⟨rfl, s3, g3, A3⟩ | ⟨rfl, s3, as', g3, R3⟩
      · exact ⟨s3, zmH A2 g3 A3, A3.kb⟩
      · exact ⟨s3, zmI A2 g3, R3.kb⟩
    obtain ⟨s3, e3, kb3⟩ := last
    refine ⟨s3, ?_, kb3⟩
    rw [if_pos hbu]
    show (zhY [some P, some (.tup ins), some (.int bu), none, none, none] st).bind endOf = _
    simp only [zhY, zE]
    rw [start]
    simp only [zj, zC, zes, zE, zae, zex, List.set_cons_succ, List.set_cons_zero, zer]
    have wl : sWhile tsR bdR [some P, some (.tup ins), some (.int bu), some (.ref r), some (.int 0), none] s1 = .ok (.rt (.tup [w, v, .int (k + 1 : Nat)])) s3 := by
      show whileF tsR bdR lim _ _ = _
      have hl : lim = (lim - k) + k := by omega
      rw [hl]
      have e' : whileF tsR bdR ((lim - k) + k) [some P, some (.tup ins), some (.int bu), some (.ref r), some (.int 0), none] s1 = _ := e2
      rw [e', Nat.zero_add]
      have hl2 : lim - k = (lim - k - 1) + 1 := by omega
      rw [hl2, zZ, t]
      simp only [zj, if_true]
      rw [e3]
      simp
    rw [wl]
    simp
  · obtain ⟨c2, g'⟩ := g.head bu (by omega)
    obtain ⟨s2, A2, e2⟩ := zh6 (v0 := some P) (v1 := some (.tup ins)) (bu := bu) g' 0 (lim - bu) A1 (by omega)
    refine ⟨s2, ?_, A2.kb⟩
    rw [if_neg hbu]
    show (zhY [some P, some (.tup ins), some (.int bu), none, none, none] st).bind endOf = _
    simp only [zhY, zE]
    rw [start]
    simp only [zj, zC, zes, zE, zae, zex, List.set_cons_succ, List.set_cons_zero, zer]
    have wl : sWhile tsR bdR [some P, some (.tup ins), some (.int bu), some (.ref r), some (.int 0), none] s1 = .ok (.nx (envR (some P) (some (.tup ins)) bu r bu)) s2 := by
      show whileF tsR bdR lim _ _ = _
      have hl : lim = (lim - bu) + bu := by omega
      rw [hl]
      have e' : whileF tsR bdR ((lim - bu) + bu) [some P, some (.tup ins), some (.int bu), some (.ref r), some (.int 0), none] s1 = _ := e2
      rw [e', Nat.zero_add]
      have hl2 : lim - bu = (lim - bu - 1) + 1 := by omega
      rw [hl2, zZ]
      simp
    rw [wl]
    simp [zga]
end
end FK32
namespace FK32
open PySem L2 PySem.W Mi
theorem kind_int (n : Int) (st : Sto) : m_kind_of [.int n] st = .ok (.str "number") st := by
  have e : ∀ t, oIsi isT [.int n, .ty t] st = optB (tyb "int" t) st := fun _ => rfl
  have t1 : tyb "int" "str" = some false := rfl
  have t2 : tyb "int" "tuple" = some false := rfl
  have t3 : tyb "int" "dict" = some false := rfl
  simp [m_kind_of, mirror, zbu, zaF, zbe, zb1, e, t1, t2, t3, optB]
theorem zje (z : Str) (st : Sto) : m_kind_of [.str z] st = .ok (.str "word") st := by
  have e : ∀ t, oIsi isT [.str z, .ty t] st = optB (tyb "str" t) st := fun _ => rfl
  have t1 : tyb "str" "str" = some true := rfl
  simp [m_kind_of, mirror, zbu, e, t1, optB]
theorem zjf (xs : List PV) (st : Sto) : m_kind_of [.tup xs] st = .ok (.str "row") st := by
  have e : ∀ t, oIsi isT [.tup xs, .ty t] st = optB (tyb "tuple" t) st := fun _ => rfl
  have t1 : tyb "tuple" "str" = some false := rfl
  have t2 : tyb "tuple" "tuple" = some true := rfl
  simp [m_kind_of, mirror, zbu, zaF, e, t1, t2, optB]
theorem zdT {st : Sto} {d : Nat} {ks : List Str} {xs : List PV} (h : st[d]? = some (.dic ks xs)) (t : String) : oIsi isT [.ref d, .ty t] st = optB (tyb "dict" t) st := by
  show isiA isT st _ (soCls st[d]?) st = _
  rw [h]
  rfl
theorem zjg {st : Sto} {d : Nat} {ks : List Str} {xs : List PV} (h : st[d]? = some (.dic ks xs)) : m_kind_of [.ref d] st = .ok (.str "record") st := by
  have e := zdT h
  have t1 : tyb "dict" "str" = some false := rfl
  have t2 : tyb "dict" "tuple" = some false := rfl
  have t3 : tyb "dict" "dict" = some true := rfl
  simp [m_kind_of, mirror, zbu, zaF, zbe, e, t1, t2, t3, optB]
theorem p_check1 (x : Int) (st : Sto) : m_check_kinds [.tup [.str "number"], .tup [.int x]] st = .ok .non st := by
  simp [m_check_kinds, mirror, zar, zipP, forL, kind_int]
theorem zjh (v : PV) (k : Str) (hk : k ≠ "number") (st : Sto) (h : m_kind_of [v] st = .ok (.str k) st) : m_check_kinds [.tup [.str "number"], .tup [v]] st = .err "Fault" ["word"] [.str "kind"] st := by
  have : ((Str.ofString "number") == k) = false := by simpa using Ne.symm hk
  simp [m_check_kinds, mirror, zar, zipP, forL, h, this]
theorem zji (x y : PV) (st : Sto) : m_check_kinds [.tup [.str "any", .str "any"], .tup [x, y]] st = .ok .non st := by
  simp [m_check_kinds, mirror, zar, zipP, forL]
theorem zh7 {B0 : Sto} {v : PV} {k : Str} (hk : k ≠ "number") (h : ∀ st, Kept B0 st → m_kind_of [v] st = .ok (.str k) st) : NoNum B0 v := fun st kb => by
  simp [m_chooses_first, mirror, za8, zjh v k hk st (h st kb)]
theorem zmJ {B0 : Sto} (z : Str) : NoNum B0 (.str z) := zh7 (k := "word") (by simp) fun st _ => zje z st
theorem zjT {B0 : Sto} (xs : List PV) : NoNum B0 (.tup xs) := zh7 (k := "row") (by simp) fun st _ => zjf xs st
theorem zjU {B0 : Sto} {d : Nat} {ks : List Str} {xs : List PV} (h : B0[d]? = some (.dic ks xs)) : NoNum B0 (.ref d) := zh7 (k := "record") (by simp) fun st kb => zjg (kb d _ h)
theorem zjj (n : Int) (st : Sto) : m_things_within [.int n] st = .ok (.ref st.length) (st ++ [.lst []]) := by
  have e : ∀ t, oIsi isT [.int n, .ty t] st = optB (tyb "int" t) st := fun _ => rfl
  have t2 : tyb "int" "tuple" = some false := rfl
  have t3 : tyb "int" "dict" = some false := rfl
  simp [m_things_within, mirror, zb2, zbg, zbf, e, t2, t3, optB]
theorem znG (n : Int) (st : Sto) : m_all_within [.int n] st = .ok (.ref st.length) (st ++ [.lst [.int n], .lst []]) := by
  simp [m_all_within, mirror, zdh, zb5, zb4, zb3, sWhile]
  rw [zZ]
  simp [at0, zjj, oExtend, withL]
  rw [zZ]
  simp [withL]
theorem zlb (n : Int) (st : Sto) : m_parts [.int n] st = .ok (.int 1) (st ++ [.lst [.int n], .lst []]) := by
  simp [m_parts, mirror, zhW, znG, withL]
inductive Vl (st : Sto) : PV → Prop
  | int (n : Int) : Vl st (.int n)
  | str (z : Str) : Vl st (.str z)
  | row0 : Vl st (.tup [])
  | row1 : Vl st (.tup [.int 0])
  | dic0 (d : Nat) (h : st[d]? = some (.dic [] [])) : Vl st (.ref d)
  | dic1 (d : Nat) (h : st[d]? = some (.dic ["a"] [.int 1])) : Vl st (.ref d)
theorem Vl.keep {a b : Sto} (k : Kept a b) {x : PV} (h : Vl a x) : Vl b x := by
  cases h with
  | int n => exact .int n
  | str z => exact .str z
  | row0 => exact .row0
  | row1 => exact .row1
  | dic0 d h => exact .dic0 d (k _ _ h)
  | dic1 d h => exact .dic1 d (k _ _ h)
def kd : PV → Nat
  | .int _ => 0
  | .str _ => 1
  | .tup _ => 2
  | _ => 3
theorem Vl.kd {st : Sto} {x : PV} (h : Vl st x) : kindN st x = some (kd x) := by
  cases h with
  | int n => rfl
  | str z => rfl
  | row0 => rfl
  | row1 => rfl
  | dic0 d h => simp only [kindN, h]; rfl
  | dic1 d h => simp only [kindN, h]; rfl
theorem zh8 {st : Sto} {n i j : Nat} {x y : PV} (hx : kindN st x = some i) (hy : kindN st y = some j) (ne : i ≠ j) : eqT st (n + 1) x y = some false := by
  have e : eqN (kindN st x) (kindN st y) = some false := by rw [hx, hy]; simp [eqN, ne]
  cases x <;> cases y <;> first
    | exact e
    | (simp only [kindN] at hx hy; exact absurd (Option.some.inj (hx.symm.trans hy)) ne)
    | (exfalso; simp only [kindN] at hx hy; split at hx <;> split at hy <;> simp_all)
theorem zeb {st : Sto} {n a b : Nat} : eqT st (n + 1) (.ref a) (.ref b) = eqDD (eqT st n) st[a]? st[b]? := rfl
theorem zh9 (f : PV → PV → Option Bool) : eqDD f (some (.dic [] [])) (some (.dic [] [])) = some true := by simp [eqDD, hitsE]
theorem zlc (f : PV → PV → Option Bool) (z : Str) (x : PV) : eqDD f (some (.dic [] [])) (some (.dic [z] [x])) = some false := by simp [eqDD]
theorem zld (f : PV → PV → Option Bool) (z : Str) (x : PV) : eqDD f (some (.dic [z] [x])) (some (.dic [] [])) = some false := by simp [eqDD]
theorem zia (f : PV → PV → Option Bool) (z : Str) (x : PV) (h : f x x = some true) : eqDD f (some (.dic [z] [x])) (some (.dic [z] [x])) = some true := by simp [eqDD, hitsE, List.lookup_cons, h]
theorem znH {B0 : Sto} {x y : PV} (hx : Vl B0 x) (hy : Vl B0 y) : ∃ b, ∀ st, Kept B0 st → ∀ n, eqT st (n + 3) x y = some b := by
  by_cases hk : kd x = kd y
  · cases hx with
    | int a => cases hy with
      | int b => exact ⟨a == b, fun _ _ _ => rfl⟩
      | _ => cases hk
    | str a => cases hy with
      | str b => exact ⟨a == b, fun _ _ _ => rfl⟩
      | _ => cases hk
    | row0 => cases hy with
      | row0 => exact ⟨true, fun _ _ _ => rfl⟩
      | row1 => exact ⟨false, fun _ _ _ => rfl⟩
      | _ => cases hk
    | row1 => cases hy with
      | row0 => exact ⟨false, fun _ _ _ => rfl⟩
      | row1 => exact ⟨true, fun _ _ _ => rfl⟩
      | _ => cases hk
    | dic0 d h => cases hy with
      | dic0 d2 h2 => exact ⟨true, fun st k n => by rw [zeb, k _ _ h, k _ _ h2, zh9]⟩
      | dic1 d2 h2 => exact ⟨false, fun st k n => by rw [zeb, k _ _ h, k _ _ h2, zlc]⟩
      | _ => cases hk
    | dic1 d h => cases hy with
      | dic0 d2 h2 => exact ⟨false, fun st k n => by rw [zeb, k _ _ h, k _ _ h2, zld]⟩
      | dic1 d2 h2 => exact ⟨true, fun st k n => by rw [zeb, k _ _ h, k _ _ h2, zia _ _ _ rfl]⟩
      | _ => cases hk
  · exact ⟨false, fun st k n => zh8 (hx.keep k).kd (hy.keep k).kd hk⟩
theorem zib (st : Sto) : m_op_of [.str "same"] st = .ok (.ref st.length) (st ++ [OpO "same" 2]) := by
  simp [m_op_of, mirror, zhX, zea, kdIn, zcH, zcI, newI, m_Op___init__, zcP, zbI, withI, insOf, Mi.putK, atI, ixN, List.lookup_cons]
theorem zle {B0 : Sto} {x y : PV} (hx : Vl B0 x) (hy : Vl B0 y) : ∃ n : Int, OpA B0 "same" [x, y] (.int n) := by
  obtain ⟨b, hb⟩ := znH hx hy
  refine ⟨if b then 1 else 0, 2, zib, fun st o k ho => ?_⟩
  have ps : m_tell_same [.tup [x, y]] st = .ok (.int (if b then 1 else 0)) st := by
    cases b <;> simp [m_tell_same, mirror, zdO, at0, at1, oEqT, hb st k 147, m_number_of, zdN]
  refine ⟨[.lst [.int (if b then 1 else 0)], .lst []], ?_⟩
  cases b <;> simp at ps <;> simp [m_Op_answer, mirror, zdP, zco, zcn, zcm, zcl, zah ho, i3, List.lookup_cons, zcH, zcI, at0, at1, zji, zds, ps, zlb]
theorem zlf {B0 : Sto} {x : PV} (hx : Vl B0 x) (n : Nat) : eqT B0 (n + 3) x x = some true := by
  cases hx with
  | int a => show some (a == a) = _; simp
  | str a => show some (a == a) = _; simp
  | row0 => rfl
  | row1 => rfl
  | dic0 d h => rw [zeb, h, zh9]
  | dic1 d h => rw [zeb, h, zia _ _ _ rfl]
end FK32
namespace FK32
open PySem L2 PySem.W Mi
theorem zfg {z p : Str} {v : PV} (ne : z ≠ p) : ∀ (ks : List Str) (xs : List PV), (ks.zip (repl z v ks xs)).lookup p = (ks.zip xs).lookup p
  | [], xs => by simp
  | k :: ks, [] => by simp [repl]
  | k :: ks, x :: xs => by
    have ih := zfg (v := v) ne ks xs
    by_cases hk : k = z
    · subst hk
      have : (p == k) = false := by simpa using Ne.symm ne
      simp [repl, List.lookup_cons, this, ih]
    · simp [repl, hk, List.lookup_cons, ih]
theorem zfh {z p : Str} {v : PV} (ne : z ≠ p) : ∀ (ks : List Str) (xs : List PV), ks.length = xs.length → ((ks ++ [z]).zip (xs ++ [v])).lookup p = (ks.zip xs).lookup p
  | [], [], _ => by
    have : (p == z) = false := by simpa using Ne.symm ne
    simp [List.lookup_cons, this]
  | k :: ks, x :: xs, h => by
    have ih := zfh (v := v) ne ks xs (by simpa using h)
    simp [List.lookup_cons, ih]
theorem zjk {z p : Str} {v : PV} (ne : z ≠ p) (ks : List Str) (xs : List PV) (hl : ks.length = xs.length) : ((dPut z v ks xs).1.zip (dPut z v ks xs).2).lookup p = (ks.zip xs).lookup p := by
  unfold dPut
  split
  · exact zfg ne ks xs
  · exact zfh ne ks xs hl
theorem repl_len {z : Str} {v : PV} : ∀ (ks : List Str) (xs : List PV), ks.length = xs.length → (repl z v ks xs).length = xs.length
  | [], [], _ => by simp [repl]
  | k :: ks, x :: xs, h => by simp [repl, repl_len ks xs (by simpa using h)]
theorem zlg {z : Str} {v : PV} (ks : List Str) (xs : List PV) (hl : ks.length = xs.length) : (dPut z v ks xs).1.length = (dPut z v ks xs).2.length ∧ (dPut z v ks xs).1.length ≤ ks.length + 1 := by
  unfold dPut
  split
  · exact ⟨by rw [repl_len ks xs hl]; exact hl, by simp⟩
  · simp [hl]
structure Look (ps : List Str) (vs : List PV) (ks : List Str) (xs : List PV) : Prop where
  len : ks.length = xs.length
  look : ∀ p ∈ ps, (ks.zip xs).lookup p = (ps.zip vs).lookup p
inductive Tst (B0 : Sto) (ps : List Str) : PV → Prop
  | is (v : PV) (h : Vl B0 v) : Tst B0 ps (.tup [.str "is", v])
  | of (p : Str) (h : p ∈ ps) : Tst B0 ps (.tup [.str "of", .str p])
abbrev sameL (z p0 : Str) (x : PV) : PV := .tup [.str "let", .str z, .str "same", .tup [.tup [.str "of", .str p0], .tup [.str "is", x]]]
inductive Ahd (B0 : Sto) (p0 : Str) (ps : List Str) : List PV → Prop
  | nil : Ahd B0 p0 ps []
  | one (z : Str) (x : PV) (hz : z ∉ ps) (hx : Vl B0 x) : Ahd B0 p0 ps [sameL z p0 x]
abbrev blk (ss : List PV) (e : PV) : PV := .tup [.tup ss, e]
abbrev ifL (a b1 b2 : PV) : PV := .tup [.str "if", a, b1, b2]
inductive Blk (B0 : Sto) (p0 : Str) (ps : List Str) : List PV → PV → Nat → Prop
  | fail (z : Str) (n : Nat) : Blk B0 p0 ps [] (.tup [.str "fail", .str z]) n
  | give (v : PV) (h : Vl B0 v) (n : Nat) : Blk B0 p0 ps [] (.tup [.str "give", .tup [.str "is", v]]) n
  | iff {ss s1 s2 : List PV} {a e1 e2 : PV} {n : Nat} (hs : Ahd B0 p0 ps ss) (ht : Tst B0 ps a) (h1 : Blk B0 p0 ps s1 e1 n) (h2 : Blk B0 p0 ps s2 e2 n) : Blk B0 p0 ps ss (ifL a (blk s1 e1) (blk s2 e2)) (n + 1)
theorem Tst.keep {A B : Sto} (k : Kept A B) {ps : List Str} {a : PV} (h : Tst A ps a) : Tst B ps a := by
  cases h with
  | is v h => exact .is v (h.keep k)
  | of p h => exact .of p h
theorem Ahd.keep {A B : Sto} (k : Kept A B) {ps : List Str} {p0 : Str} {ss : List PV} (h : Ahd A p0 ps ss) : Ahd B p0 ps ss := by
  cases h with
  | nil => exact .nil
  | one z x hz hx => exact .one z x hz (hx.keep k)
theorem Blk.keep {A B : Sto} (k : Kept A B) {ps : List Str} {p0 : Str} {ss : List PV} {e : PV} {n : Nat} (h : Blk A p0 ps ss e n) : Blk B p0 ps ss e n := by
  induction h with
  | fail z n => exact .fail z n
  | give v h n => exact .give v (h.keep k) n
  | iff hs ht _ _ i1 i2 => exact .iff (hs.keep k) (ht.keep k) i1 i2
def Shape (B0 : Sto) (w v : PV) : Prop := (w = .str "told" ∧ Vl B0 v) ∨ (w = .str "fault" ∧ ∃ z, v = .str z)
section
variable {B0 : Sto} {p0 : Str} {ps : List Str} {vs : List PV}
def All (B0 : Sto) (ps : List Str) (vs : List PV) : Prop := ∀ p ∈ ps, ∃ v, (ps.zip vs).lookup p = some v ∧ Vl B0 v
theorem ahead (h0 : p0 ∈ ps) (hv : All B0 ps vs) {kf : List Str} {xf : List PV} {ss : List PV} (h : Ahd B0 p0 ps ss) (e : PV) {ks : List Str} {xs : List PV} (L : Look ps vs ks xs) (hk : ks.length ≤ 1000) :
    ∃ ks' xs', Look ps vs ks' xs' ∧ ks'.length ≤ ks.length + 1 ∧ Steps B0 kf xf ss.length [⟨ks, xs, ss, e, 0⟩] [⟨ks', xs', ss, e, ss.length⟩] := by
  cases h with
  | nil => exact ⟨ks, xs, L, by omega, .nil⟩
  | one z x hz hx =>
    obtain ⟨v, hl, vv⟩ := hv p0 h0
    obtain ⟨n, hop⟩ := zle vv hx
    have pl := zlg (z := z) (v := .int n) ks xs L.len
    refine ⟨(dPut z (.int n) ks xs).1, (dPut z (.int n) ks xs).2, ⟨pl.1, fun p hp => ?_⟩, pl.2, ?_⟩
    · rw [zjk (z := z) (p := p) (fun e => hz (by rw [e]; exact hp)) ks xs L.len]
      exact L.look p hp
    · have s := Step.lt (B0 := B0) (kf := kf) (xf := xf) (a := ⟨ks, xs, [sameL z p0 x], e, 0⟩) (rest := []) (w := z) (op := "same") (atoms := [.tup [.str "of", .str p0], .tup [.str "is", x]]) (args := [v, x]) rfl (by simp) hk (.cons (.of (by rw [L.look p0 h0]; exact hl)) (.cons (.is x) .nil)) hop
      exact .cons s .nil
theorem zgq (ks : List Str) (xs ss : List PV) (e : PV) : AF.line ⟨ks, xs, ss, e, ss.length⟩ = e := by
  show (ss[ss.length]?).getD e = e
  rw [List.getElem?_eq_none_iff.mpr (Nat.le_refl _)]
  rfl
theorem tst (hv : All B0 ps vs) {a : PV} (h : Tst B0 ps a) : ∃ v, Vl B0 v ∧ (∀ ks xs ss e p, Look ps vs ks xs → Val ⟨ks, xs, ss, e, p⟩ a v) ∧ ((a = .tup [.str "is", v]) ∨ ∃ p, a = .tup [.str "of", .str p] ∧ (ps.zip vs).lookup p = some v) := by
  cases h with
  | is v h => exact ⟨v, h, fun _ _ _ _ _ _ => .is v, .inl rfl⟩
  | of p h =>
    obtain ⟨v, hl, vv⟩ := hv p h
    exact ⟨v, vv, fun _ _ _ _ _ L => .of (by rw [L.look p h]; exact hl), .inr ⟨p, rfl, hl⟩⟩
theorem zmK {v : PV} (h : Vl B0 v) : (∃ x, v = .int x) ∨ (NoNum B0 v ∧ ∀ st, Kept B0 st → oIsi isT [v, .ty "int"] st = .ok (.bl false) st) := by
  cases h with
  | int n => exact .inl ⟨n, rfl⟩
  | str z => exact .inr ⟨zmJ z, fun _ _ => rfl⟩
  | row0 => exact .inr ⟨zjT _, fun _ _ => rfl⟩
  | row1 => exact .inr ⟨zjT _, fun _ _ => rfl⟩
  | dic0 d h => exact .inr ⟨zjU h, fun st k => by rw [zdT (k _ _ h)]; rfl⟩
  | dic1 d h => exact .inr ⟨zjU h, fun st k => by rw [zdT (k _ _ h)]; rfl⟩
end
abbrev tsD : PEnv → Mo Bool := (mB (mOp oEq (mOp oIxD (mOp oIxD (mVar 0) (mC (.int 1))) (mC (.int 0))) (mC (.str "if"))))
abbrev bdD : PEnv → Mo Fl := (sSeq (sSet 2 (mOp oAdd (mOp oAdd (mVar 2) (mCall oLen (aCons (mOp oIxD (mVar 0) (mC (.int 0))) aNil))) (mC (.int 1))))
    (sSeq (sSet 3 (mOp oIxD (mOp oIxD (mOp oIxD (mVar 0) (mC (.int 1))) (mC (.int 1))) (mC (.int 1))))
    (sSeq (sIf (mB (mOp oEq (mOp oIxD (mOp oIxD (mOp oIxD (mVar 0) (mC (.int 1))) (mC (.int 1))) (mC (.int 0))) (mC (.str "of"))))
    (sSet 3 (mOp oIxD (mVar 1) (mVar 3)))
    sNext)
    (sSeq (sIf (bNot (mB (mCall (oIsi isT) (aCons (mVar 3) (aCons (mC (.ty "int")) aNil)))))
    (sRet (mTup (aCons (mC (.str "fault")) (aCons (mC (.str "kind")) (aCons (mVar 2) aNil)))))
    sNext)
    (sSet 0 (mOp oIxD (mOp oIxD (mVar 0) (mC (.int 1))) (mOp oAdd (mC (.int 2)) (mCall oInt (aCons (mOp oEq (mVar 3) (mC (.int 0))) aNil)))))))))
section
variable {st : Sto} {ss : List PV} {a b1 b2 v : PV} {ps : List Str} {vs : List PV} {th gone : Nat} {q : Option PV}
theorem zmL : tsD [some (blk ss (ifL a b1 b2)), some (.ref th), some (.int gone), q] st = .ok true st := by
  simp [at0, at1]
theorem zfi (hth : st[th]? = some (.dic ps vs)) (ha : (a = .tup [.str "is", v]) ∨ ∃ p, a = .tup [.str "of", .str p] ∧ (ps.zip vs).lookup p = some v) :
    bdD [some (blk ss (ifL a b1 b2)), some (.ref th), some (.int gone), q] st = (sSeq (sIf (bNot (mB (mCall (oIsi isT) (aCons (mVar 3) (aCons (mC (.ty "int")) aNil)))))
    (sRet (mTup (aCons (mC (.str "fault")) (aCons (mC (.str "kind")) (aCons (mVar 2) aNil)))))
    sNext)
    (sSet 0 (mOp oIxD (mOp oIxD (mVar 0) (mC (.int 1))) (mOp oAdd (mC (.int 2)) (mCall oInt (aCons (mOp oEq (mVar 3) (mC (.int 0))) aNil)))))) [some (blk ss (ifL a b1 b2)), some (.ref th), some (.int ((gone + ss.length + 1 : Nat) : Int)), some v] st := by
  have e : (gone : Int) + (ss.length : Int) + 1 = ((gone + ss.length + 1 : Nat) : Int) := by omega
  rcases ha with rfl | ⟨p, rfl, hl⟩
  · simp only [bdD, zE, zae, zcd, zaa, zex, zai, zS, zas, List.getElem?_cons_succ, List.getElem?_cons_zero, zj]
    simp [at0, at1]
  · have hd := zgl hth p
    rw [hl] at hd
    simp only [bdD, zE, zae, zcd, zaa, zex, zai, zS, zas, List.getElem?_cons_succ, List.getElem?_cons_zero, zj]
    simp [at0, at1, hd]
end
end FK32
namespace FK32
open PySem L2 PySem.W Mi
section
variable {B0 : Sto} {p0 : Str} {ps : List Str} {vs : List PV}
theorem zic {ss : List PV} (h : Ahd B0 p0 ps ss) : ss.length ≤ 1 := by cases h <;> simp
def Comes (B0 : Sto) (ps : List Str) (vs : List PV) (ss : List PV) (e : PV) (n : Nat) : Prop := ∃ w v k, k ≤ 2 * n ∧ Shape B0 w v ∧
  (∀ kf xf ks xs, Look ps vs ks xs → ks.length + n ≤ 1000 → ∃ c, Steps B0 kf xf k [⟨ks, xs, ss, e, 0⟩] c ∧ Fin B0 c w v) ∧
  (∀ st (gone fuel : Nat) q th, Kept B0 st → st[th]? = some (.dic ps vs) → (whileF tsD bdD (fuel + n + 1) [some (blk ss e), some (.ref th), some (.int (gone : Nat)), q] st).bind (flowOn zaq) = .ok (.rt (.tup [w, v, .int ((gone + k + 1 : Nat) : Int)])) st)
theorem zid (h0 : p0 ∈ ps) (hv : All B0 ps vs) {ss s1 s2 s' : List PV} {a e1 e2 e' : PV} {n : Nat} {x : Int} (hs : Ahd B0 p0 ps ss) (hval : ∀ ks xs ss e p, Look ps vs ks xs → Val ⟨ks, xs, ss, e, p⟩ a (.int x))
    (hat : (a = .tup [.str "is", .int x]) ∨ ∃ p, a = .tup [.str "of", .str p] ∧ (ps.zip vs).lookup p = some (.int x)) (hS : (if x ≠ 0 then s1 else s2) = s') (hE : (if x ≠ 0 then e1 else e2) = e') (ih : Comes B0 ps vs s' e' n) : Comes B0 ps vs ss (ifL a (blk s1 e1) (blk s2 e2)) (n + 1) := by
  obtain ⟨w, v, k, hk, sh, S, D⟩ := ih
  have l1 := zic hs
  refine ⟨w, v, ss.length + (k + 1), by omega, sh, fun kf xf ks xs L hl => ?_, fun st gone fuel q th kb hth => ?_⟩
  · obtain ⟨ks', xs', L', hl', t⟩ := ahead h0 hv (kf := kf) (xf := xf) hs (ifL a (blk s1 e1) (blk s2 e2)) L (by omega)
    have s := Step.iff (B0 := B0) (kf := kf) (xf := xf) (a := ⟨ks', xs', ss, ifL a (blk s1 e1) (blk s2 e2), ss.length⟩) (rest := []) (zgq ..) (hval ks' xs' _ _ _ L')
    rw [hS, hE] at s
    obtain ⟨c, t2, f⟩ := S kf xf ks' xs' L' (by omega)
    exact ⟨c, t.trans (.cons s t2), f⟩
  · rw [show fuel + (n + 1) + 1 = (fuel + n + 1) + 1 by omega, zZ, zmL]
    simp only [zj, if_true]
    rw [zfi hth hat]
    have i1 : oIsi isT [.int x, .ty "int"] st = .ok (.bl true) st := rfl
    have e : (sSeq (sIf (bNot (mB (mCall (oIsi isT) (aCons (mVar 3) (aCons (mC (.ty "int")) aNil)))))
      (sRet (mTup (aCons (mC (.str "fault")) (aCons (mC (.str "kind")) (aCons (mVar 2) aNil)))))
      sNext)
      (sSet 0 (mOp oIxD (mOp oIxD (mVar 0) (mC (.int 1))) (mOp oAdd (mC (.int 2)) (mCall oInt (aCons (mOp oEq (mVar 3) (mC (.int 0))) aNil)))))) [some (blk ss (ifL a (blk s1 e1) (blk s2 e2))), some (.ref th), some (.int ((gone + ss.length + 1 : Nat) : Int)), some (.int x)] st = .ok (.nx [some (blk s' e'), some (.ref th), some (.int ((gone + ss.length + 1 : Nat) : Int)), some (.int x)]) st := by
      generalize ((gone + ss.length + 1 : Nat) : Int) = G
      subst hS hE
      by_cases hx : x = 0
      · subst hx
        simp [i1, at1, at3, oInt]
      · simp [i1, at1, at2, hx, oInt]
    rw [e]
    simp only [zj]
    have d := D st (gone + ss.length + 1) fuel (some (.int x)) th kb hth
    rw [show gone + (ss.length + (k + 1)) + 1 = gone + ss.length + 1 + k + 1 by omega]
    exact d
theorem goes (h0 : p0 ∈ ps) (hv : All B0 ps vs) {ss : List PV} {e : PV} {n : Nat} (h : Blk B0 p0 ps ss e n) : Comes B0 ps vs ss e n := by
  induction h with
  | fail z n =>
    refine ⟨.str "fault", .str z, 0, by omega, .inr ⟨rfl, z, rfl⟩, fun kf xf ks xs L hk => ⟨_, .nil, .fail rfl⟩, fun st gone fuel q th kb hth => ?_⟩
    rw [zZ]
    simp [at0, at1, zaq, zbA]
  | give v hv n =>
    refine ⟨.str "told", v, 0, by omega, .inl ⟨rfl, hv⟩, fun kf xf ks xs L hk => ⟨_, .nil, .told rfl (.is v)⟩, fun st gone fuel q th kb hth => ?_⟩
    rw [zZ]
    simp [at0, at1, zaq, zbA, zcK]
  | @iff ss s1 s2 a e1 e2 n hs ht h1 h2 i1 i2 =>
    obtain ⟨v, vv, hval, hat⟩ := tst hv ht
    rcases zmK vv with ⟨x, rfl⟩ | ⟨nn, isf⟩
    · by_cases hx : x = 0
      · exact zid h0 hv hs hval hat (by rw [if_neg (by simpa using hx)]) (by rw [if_neg (by simpa using hx)]) i2
      · exact zid h0 hv hs hval hat (by rw [if_pos hx]) (by rw [if_pos hx]) i1
    · have l1 := zic hs
      refine ⟨.str "fault", .str "kind", ss.length, by omega, .inr ⟨rfl, _, rfl⟩, fun kf xf ks xs L hl => ?_, fun st gone fuel q th kb hth => ?_⟩
      · obtain ⟨ks', xs', L', hl', t⟩ := ahead h0 hv (kf := kf) (xf := xf) hs (ifL a (blk s1 e1) (blk s2 e2)) L (by omega)
        exact ⟨_, t, .kind (zgq ..) (hval ks' xs' _ _ _ L') nn⟩
      · rw [zZ, zmL]
        simp only [zj, if_true]
        rw [zfi hth hat]
        have e : (sSeq (sIf (bNot (mB (mCall (oIsi isT) (aCons (mVar 3) (aCons (mC (.ty "int")) aNil)))))
          (sRet (mTup (aCons (mC (.str "fault")) (aCons (mC (.str "kind")) (aCons (mVar 2) aNil)))))
          sNext)
          (sSet 0 (mOp oIxD (mOp oIxD (mVar 0) (mC (.int 1))) (mOp oAdd (mC (.int 2)) (mCall oInt (aCons (mOp oEq (mVar 3) (mC (.int 0))) aNil)))))) [some (blk ss (ifL a (blk s1 e1) (blk s2 e2))), some (.ref th), some (.int ((gone + ss.length + 1 : Nat) : Int)), some v] st = .ok (.rt (.tup [.str "fault", .str "kind", .int ((gone + ss.length + 1 : Nat) : Int)])) st := by
          generalize ((gone + ss.length + 1 : Nat) : Int) = G
          simp [isf st kb]
        rw [e]
        simp
theorem zgr : ∀ zs : List Str, strsOf (zs.map PV.str) = some zs
  | [] => rfl
  | z :: zs => by simp [strsOf, zgr zs]
theorem zfj : ∀ (l : List (Str × PV)) (ks : List Str) (xs : List PV), (ks ++ l.map Prod.fst).Nodup → dPuts l ks xs = (ks ++ l.map Prod.fst, xs ++ l.map Prod.snd)
  | [], ks, xs, _ => by simp [dPuts]
  | (z, x) :: l, ks, xs, h => by
    have hz : z ∉ ks := fun m => (List.nodup_append.mp h).2.2 z m z (by simp) rfl
    have e : dPut z x ks xs = (ks ++ [z], xs ++ [x]) := by unfold dPut; rw [if_neg (by simpa using hz)]
    simp only [dPuts, e]
    rw [zfj l _ _ (by simpa using h)]
    simp
theorem zmM (nd : ps.Nodup) (hl : ps.length = vs.length) : Bnd (ps.map PV.str) vs ps vs := fun st => by
  have e1 : (ps.zip vs).map Prod.fst = ps := List.map_fst_zip (by omega)
  have e2 : (ps.zip vs).map Prod.snd = vs := List.map_snd_zip (by omega)
  have := zfj (ps.zip vs) [] [] (by simpa [e1] using nd)
  simp only [oDZip, zgr, this, e1, e2, List.nil_append]
abbrev prog (ps : List Str) (ss : List PV) (e : PV) : List PV := [.tup [.str "main", .tup (ps.map PV.str), blk ss e]]
theorem zlh (f : PV) (b : PV) : ByName [.tup [.str "main", f, b]] ["main"] [.tup [.str "main", f, b]] := fun st => by
  simp [m_functions_by_name, mirror, za1, zau, zat, mDNew, forL, at0, dPutAt, withD, dPut]
theorem zli (h0 : p0 ∈ ps) (hv : All B0 ps vs) (nd : ps.Nodup) (hl : ps.length = vs.length) (h6 : ps.length ≤ 6) {ss : List PV} {e : PV} {n : Nat} (hn : n ≤ 8) (h : Blk B0 p0 ps ss e n) :
    ∃ w v t, t ≤ 17 ∧ Shape B0 w v ∧ (∀ st th, Kept B0 st → st[th]? = some (.dic ps vs) → m__law_due [blk ss e, .ref th] st = .ok (.tup [w, v, .int (t : Nat)]) st) ∧
      ∀ st, Kept B0 st → ∀ bu : Nat, ∃ st', m_run [.tup (prog ps ss e), .tup vs, .int bu] st = .ok (if t ≤ bu then .tup [w, v, .int (t : Nat)] else .tup [.str "out", .non, .int bu]) st' ∧ Kept B0 st' := by
  obtain ⟨w, v, k, hk, sh, S, D⟩ := goes h0 hv h
  refine ⟨w, v, k + 1, by omega, sh, fun st th kb hth => ?_, fun st kb bu => ?_⟩
  · have d := D st 0 (lim - n - 1) none th kb hth
    have hlim : (lim : Nat) = 1000000 := rfl
    rw [show lim - n - 1 + n + 1 = lim by omega, Nat.zero_add] at d
    show (zc5 [some (blk ss e), some (.ref th), none, none] st).bind endOf = _
    simp only [zc5, zE, zae, zex, zj, zC, List.set_cons_succ, List.set_cons_zero, zcL]
    have d' : (sWhile tsD bdD [some (blk ss e), some (.ref th), some (.int 0), none] st).bind (flowOn zaq) = _ := d
    rw [d']
    rfl
  · obtain ⟨c, t, f⟩ := S ["main"] (prog ps ss e) ps vs ⟨hl, fun _ _ => rfl⟩ (by omega)
    exact znF (zlh _ _) (zmM nd hl) t f (by omega) kb bu
end
end FK32
namespace FK32
open PySem L2 PySem.W Mi
def cell (ns : List Int) (k : Nat) : Int := (ns[k]?).getD 0
theorem zmN (ns : List Int) (k : Nat) (st : Sto) : m__law_cell_at [.frl (ns.map PV.int), .int k] st = .ok (.int (cell ns k)) st := by
  by_cases hk : k < ns.length
  · have e : atI (ns.map PV.int) (k : Int) = some (.int ns[k]) := by
      simp [atI, ixN, hk]
    have hc : cell ns k = ns[k] := by simp [cell, hk]
    simp [m__law_cell_at, mirror, zbl, hk, e, hc]
  · have hc : cell ns k = 0 := by simp [cell, List.getElem?_eq_none (by omega : ns.length ≤ k)]
    simp [m__law_cell_at, mirror, zbl, zbp, hk, hc]
theorem Kept.trans {a b c : Sto} (h : Kept a b) (h' : Kept b c) : Kept a c := fun m so e => h' m so (h m so e)
theorem Kept.refl (a : Sto) : Kept a a := fun _ _ e => e
theorem zbi (a d : Sto) : Kept a (a ++ d) := Kept.pre (Kept.refl _) (Pre.of _ _)
theorem modNat (i : Int) (j : Nat) (h : 0 < j) : ∃ b : Nat, b < j ∧ modP i j = b := by
  have h1 := Int.emod_nonneg i (show (j : Int) ≠ 0 by omega)
  have h2 := Int.emod_lt_of_pos i (show (0 : Int) < j by omega)
  exact ⟨(i % j).toNat, by omega, by rw [zgk _ _ (by omega)]; omega⟩
theorem zeu (c : Int) (st : Sto) : ∃ x d, m__law_value [.int c] st = .ok x (st ++ d) ∧ ∀ B : Sto, B.length = st.length → Vl (B ++ d) x := by
  have pw : ((10 : Int) ^ (18 : Int).toNat) = 1000000000000000000 := by decide
  have cp : cPow 10 18 = true := by decide
  by_cases h8 : modP c 9 = 8
  · obtain ⟨k, hk, ek⟩ := modNat (divP c 9) 5 (by decide)
    have ek' : modP (divP c 9) 5 = (k : Int) := ek
    have key : ∀ n : PV, [PV.str "word", .tup [], .tup [.int 0], .ref st.length, .ref (st.length + 1)][k]? = some n → m__law_value [.int c] st = .ok n (st ++ [.dic [] [], .dic ["a"] [.int 1], .lst [PV.str "word", .tup [], .tup [.int 0], .ref st.length, .ref (st.length + 1)]]) := fun n hn => by
      have e := atI_get hn
      simp [m__law_value, mirror, zaE, cNz, cDv, h8, ek', mDNew, mDisp, mVals, isEmp, dPuts, dPut, withL, e]
    have g1 : ∀ B : Sto, B.length = st.length → (B ++ [SO.dic [] [], .dic ["a"] [.int 1], .lst [PV.str "word", .tup [], .tup [.int 0], .ref st.length, .ref (st.length + 1)]])[st.length]? = some (.dic [] []) := fun B e => by rw [← e]; simp
    have g2 : ∀ B : Sto, B.length = st.length → (B ++ [SO.dic [] [], .dic ["a"] [.int 1], .lst [PV.str "word", .tup [], .tup [.int 0], .ref st.length, .ref (st.length + 1)]])[st.length + 1]? = some (.dic ["a"] [.int 1]) := fun B e => by rw [← e]; simp
    match k, hk, key with
    | 0, _, key => exact ⟨_, _, key _ rfl, fun _ _ => .str _⟩
    | 1, _, key => exact ⟨_, _, key _ rfl, fun _ _ => .row0⟩
    | 2, _, key => exact ⟨_, _, key _ rfl, fun _ _ => .row1⟩
    | 3, _, key => exact ⟨_, _, key _ rfl, fun B e => .dic0 _ (g1 B e)⟩
    | 4, _, key => exact ⟨_, _, key _ rfl, fun B e => .dic1 _ (g2 B e)⟩
  · by_cases h5 : 5 < modP c 9
    · exact ⟨_, [], by simp [m__law_value, mirror, zaE, zap, cNz, cDv, cMul, h8, h5, pw, cp]; rfl, fun _ _ => .int _⟩
    · by_cases h2 : 2 < modP c 9
      · exact ⟨.int 0, [], by simp [m__law_value, mirror, zaE, zap, za0, cNz, cDv, h8, h5, h2], fun _ _ => .int _⟩
      · exact ⟨_, [], by simp [m__law_value, mirror, zaE, zap, za0, zbV, cNz, cDv, h8, h5, h2]; rfl, fun _ _ => .int _⟩
theorem atI_nat {α : Type} (l : List α) (k : Nat) (h : k < l.length) : atI l (k : Int) = some l[k] := by simp [atI, ixN, h]
theorem zlj (z : Str) (n : Nat) (hz : z.cps.toList.length = n) (hn : n ≤ 1000) (i : Int) (h0 : 0 ≤ i) (h1 : i < n) : ∃ c, ∀ st, oIxD (.str z) (.int i) st = .ok (.str ⟨#[c]⟩) st := by
  have hl : z.length ≤ 1000000 := by show z.cps.size ≤ 1000000; rw [← Array.length_toList]; omega
  obtain ⟨k, rfl⟩ := Int.eq_ofNat_of_zero_le h0
  have lt : k < z.cps.toList.length := by omega
  refine ⟨z.cps.toList[k], fun st => ?_⟩
  rw [zjL, zmp, if_pos hl, atI_nat _ k lt]
  rfl
abbrev wb : PEnv → Mo Fl := (sSet 1 (mOp oAdd (mVar 1) (mOp oIxD (mC (.str "abcdefghijklmnopqrstuvwxyz")) (mOp oMod (mOp oDiv (mOp oDiv (mVar 0) (mC (.int 8))) (mOp oAdd (mC (.int 1)) (mOp oMulT (mC (.int 5)) (mVar 2)))) (mC (.int 26))))))
theorem zfk (c : Int) : ∀ (is : List Nat) (z : Str) (v2 : Option PV), z.length + is.length ≤ 100 → (∀ i ∈ is, i ≤ 100) → ∃ z' v2', ∀ st, forL (gN 2) wb (is.map fun i : Nat => PV.int i) [some (.int c), some (.str z), v2] st = .ok (.nx [some (.int c), some (.str z'), v2']) st
  | [], z, v2, h, _ => ⟨z, v2, fun st => by simp⟩
  | i :: is, z, v2, h, hi => by
    simp only [List.length_cons] at h
    have h100 := hi i (List.mem_cons_self ..)
    generalize hr : divP (divP c 8) (1 + 5 * (i : Int)) = r
    have hm : 0 ≤ modP r 26 ∧ modP r 26 < (26 : Nat) := by
      rw [zgk _ _ (by decide)]
      exact ⟨Int.emod_nonneg _ (by decide), Int.emod_lt_of_pos _ (by decide)⟩
    obtain ⟨ch, ec⟩ := zlj "abcdefghijklmnopqrstuvwxyz" 26 (by decide +kernel) (by decide) (modP r 26) hm.1 hm.2
    have l1 : (⟨#[ch]⟩ : Str).length = 1 := rfl
    have lz : (z ++ (⟨#[ch]⟩ : Str)).length = z.length + 1 := by rw [Str.length_append, l1]
    obtain ⟨z', v2', e⟩ := zfk c is (z ++ ⟨#[ch]⟩) (some (.int i)) (by rw [lz]; omega) (fun j hj => hi j (List.mem_cons_of_mem _ hj))
    refine ⟨z', v2', fun st => ?_⟩
    have hc : cMul 5 (i : Int) = true := by simp [cMul]
    have hd : cDv (divP c 8) (1 + 5 * (i : Int)) = true := by simp [cDv]; omega
    have hlim : z.length + (⟨#[ch]⟩ : Str).length ≤ 1000000 := by rw [l1]; omega
    rw [← e st, List.map_cons]
    conv => lhs; unfold forL
    simp only [zou, zae, zcd, zaa, zex, zfx]
    simp [cNz, hc, hd, hr, -zjL, ec, hlim]
theorem zbC (n : Nat) : nums 0 n = (List.range n).map fun i : Nat => PV.int i := by simp [nums]
theorem zmO (c : Int) : ∃ z, ∀ st, m__law_word [.int c] st = .ok (.str z) st := by
  obtain ⟨k, hk, ek⟩ := modNat c 8 (by decide)
  have ek' : modP c 8 = (k : Int) := ek
  have l0 : ((("" : String) : Str)).length = 0 := rfl
  obtain ⟨z', v2', e⟩ := zfk c (List.range (1 + k)) "" none (by rw [l0]; simp; omega) (fun i hi => by simp at hi; omega)
  refine ⟨z', fun st => ?_⟩
  have tn : ((1 : Int) + (k : Int)).toNat = 1 + k := by omega
  rw [← zbC] at e
  simp only [m__law_word, mirror, zdM, zch, zcg]
  simp only [List.length_cons, List.length_nil, if_true, zE, zae, zex, zj, zC, zcd, zaa, zfx]
  simp [cNz, ek']
  rw [if_pos (by omega), tn, e st]
  simp
theorem zie (c : Int) (st : Sto) : ∃ ss e d, m__law_close [.int c] st = .ok (blk ss e) (st ++ d) ∧ ∀ p0 ps n, Blk (st ++ d) p0 ps ss e n := by
  by_cases h : modP c 2 = 1
  · obtain ⟨z, hz⟩ := zmO (divP c 2)
    refine ⟨[], .tup [.str "fail", .str z], [], ?_, fun p0 ps n => .fail z n⟩
    simp [m__law_close, mirror, zbX, cNz, cDv, h, hz]
  · obtain ⟨x, d, hx, vx⟩ := zeu (divP c 2) st
    refine ⟨[], .tup [.str "give", .tup [.str "is", x]], d, ?_, fun p0 ps n => .give x (vx _ rfl) n⟩
    generalize st ++ d = s1 at hx ⊢
    simp [m__law_close, mirror, zbX, zbW, cNz, cDv, h, hx]
theorem zmP (c : Int) {st : Sto} {a : Nat} {ps : List Str} (ha : st[a]? = some (.lst (ps.map PV.str))) (hp : 0 < ps.length) : ∃ x d, m__law_test [.int c, .ref a] st = .ok x (st ++ d) ∧ Tst (st ++ d) ps x := by
  by_cases h : modP c 6 = 5
  · obtain ⟨x, d, hx, vx⟩ := zeu (divP c 6) st
    refine ⟨.tup [.str "is", x], d, ?_, .is x (vx _ rfl)⟩
    generalize st ++ d = s1 at hx ⊢
    simp [m__law_test, mirror, zcw, cNz, cDv, h, hx]
  · obtain ⟨k, hk, ek⟩ := modNat (divP c 6) ps.length hp
    refine ⟨.tup [.str "of", .str ps[k]], [], ?_, .of _ (List.getElem_mem hk)⟩
    have e : atI (ps.map PV.str) (k : Int) = some (.str ps[k]) := by simp [atI, ixN, hk]
    have hz : ps ≠ [] := fun e => by subst e; simp at hp
    simp [m__law_test, mirror, zcw, zci, cNz, cDv, h, zL ha, ek, e, hz]
end FK32
namespace FK32
open PySem L2 PySem.W Mi
theorem zev {g : PV → PEnv → Option PEnv} {body : PEnv → Mo Fl} (I : Nat → PEnv → Sto → Prop) (n : Nat) (hb : ∀ i e st, i < n → I i e st → ∃ e1 e2 st2, g (.int i) e = some e1 ∧ body e1 st = .ok (.nx e2) st2 ∧ I (i + 1) e2 st2) :
    ∀ (k i : Nat) (env : PEnv) (st : Sto), i + k = n → I i env st → ∃ env' st', forL g body ((List.range' i k).map fun i : Nat => PV.int i) env st = .ok (.nx env') st' ∧ I n env' st'
  | 0, i, env, st, hk, h => ⟨env, st, by simp, by rw [← hk]; exact h⟩
  | k + 1, i, env, st, hk, h => by
    obtain ⟨e1, e2, st2, q1, q2, q3⟩ := hb i env st (by omega) h
    obtain ⟨env', st', r1, r2⟩ := zev I n hb k (i + 1) e2 st2 (by omega) q3
    refine ⟨env', st', ?_, r2⟩
    rw [List.range'_succ, List.map_cons]
    unfold forL
    rw [q1]
    simp only
    rw [q2]
    simp only [zj]
    exact r1
def sn (k : Nat) : Str := Str.ofString "s" ++ Str.ofString (toString ((k : Nat) : Int))
def pn (k : Nat) : Str := Str.ofString "p" ++ Str.ofString (toString ((k : Nat) : Int))
abbrev prms (m : Nat) : List Str := (List.range m).map pn
theorem zmQ : ∀ k, k < 8 → ∀ m, m < 7 → sn k ∉ prms m := by decide +kernel
theorem zew : ∀ m, m < 7 → (prms m).Nodup := by decide +kernel
theorem zmR : ∀ k, k < 8 → (Str.ofString "s").length + (Str.ofString (toString ((k : Nat) : Int))).length ≤ 1000000 := by decide +kernel
theorem zmS : ∀ k, k < 8 → (Str.ofString "p").length + (Str.ofString (toString ((k : Nat) : Int))).length ≤ 1000000 := by decide +kernel
theorem zjV : ∀ k, k < 61 → ((k : Nat) : Int).natAbs.log2 < 1920 := by decide +kernel
theorem zoy (k : Nat) (hk : k < 8) (env : PEnv) (st : Sto) (h : env[4]? = some (some (.int k))) : (mOp oAdd (mC (.str "s")) (mCall oStr (aCons (mVar 4) aNil))) env st = .ok (.str (sn k)) st := by
  have h1 := zmR k hk
  have h2 := zjV k (by omega)
  simp only [zcd, zex, zai, zS, zas, zaa, zj, h]
  simp [sn]
  rw [if_pos (by simpa using h2)]
  simp
  simpa using h1
abbrev envB (ca pa : Nat) (deep : Nat) (B : PV) (z4 z5 z6 z7 z8 : Option PV) : PEnv := [some (.ref ca), some (.ref pa), some (.int deep), some B, z4, z5, z6, z7, z8]
abbrev bdK : PEnv → Mo Fl := (sSeq (sSet 5 (mCall m__law_test (aCons (mOp oIxD (mVar 0) (mOp oAdd (mOp oMulT (mC (.int 3)) (mVar 4)) (mC (.int 1)))) (aCons (mVar 1) aNil))))
    (sSeq (sSet 6 (mCall m__law_close (aCons (mOp oIxD (mVar 0) (mOp oAdd (mOp oMulT (mC (.int 3)) (mVar 4)) (mC (.int 2)))) aNil)))
    (sSeq (sSet 7 (mOp oIxD (mVar 0) (mOp oAdd (mOp oMulT (mC (.int 3)) (mVar 4)) (mC (.int 3)))))
    (sSeq (sSet 8 (mTup aNil))
    (sSeq (sIf (mB (mOp oEq (mOp oMod (mOp oDiv (mVar 7) (mC (.int 2))) (mC (.int 2))) (mC (.int 1))))
    (sSet 8 (mTup (aCons (mTup (aCons (mC (.str "let")) (aCons (mOp oAdd (mC (.str "s")) (mCall oStr (aCons (mVar 4) aNil))) (aCons (mC (.str "same")) (aCons (mTup (aCons (mTup (aCons (mC (.str "of")) (aCons (mOp oIxD (mVar 1) (mC (.int 0))) aNil))) (aCons (mTup (aCons (mC (.str "is")) (aCons (mCall m__law_value (aCons (mOp oDiv (mVar 7) (mC (.int 4))) aNil)) aNil))) aNil))) aNil))))) aNil)))
    sNext)
    (sIf (mB (mOp oEq (mOp oMod (mVar 7) (mC (.int 2))) (mC (.int 0))))
    (sSet 3 (mTup (aCons (mVar 8) (aCons (mTup (aCons (mC (.str "if")) (aCons (mVar 5) (aCons (mVar 3) (aCons (mVar 6) aNil))))) aNil))))
    (sSet 3 (mTup (aCons (mVar 8) (aCons (mTup (aCons (mC (.str "if")) (aCons (mVar 5) (aCons (mVar 6) (aCons (mVar 3) aNil))))) aNil))))))))))
section
variable {st : Sto} {ca pa deep m : Nat} {cs : List Int}
theorem zdU (hc : st[ca]? = some (.lst (cs.map PV.int))) (j : Nat) (hj : j < cs.length) : oIxD (.ref ca) (.int (j : Nat)) st = .ok (.int cs[j]) st := by
  have e : atI (cs.map PV.int) (j : Int) = some (.int cs[j]) := by simp [atI, ixN, hj]
  simp [zL hc, e]
theorem ix3 (hc : st[ca]? = some (.lst (cs.map PV.int))) (k t : Nat) (hj : 3 * k + t < cs.length) (env : PEnv) (h0 : env[0]? = some (some (.ref ca))) (h4 : env[4]? = some (some (.int k))) : (mOp oIxD (mVar 0) (mOp oAdd (mOp oMulT (mC (.int 3)) (mVar 4)) (mC (.int t)))) env st = .ok (.int cs[3 * k + t]) st := by
  have := zdU hc (3 * k + t) hj
  have hm : cMul 3 (k : Int) = true := by simp [cMul]
  have e : ((3 * k + t : Nat) : Int) = 3 * (k : Int) + t := by omega
  rw [e] at this
  simp only [zcd, zex, zaa, h0, h4, zj, zkX, hm, if_true, zfx]
  exact this
theorem zif (hm : 0 < m) (h7 : m < 7) (hcl : cs.length = 40) (k : Nat) (hk : k < 8) {ss : List PV} {e : PV} (hc : st[ca]? = some (.lst (cs.map PV.int))) (hp : st[pa]? = some (.lst ((prms m).map PV.str))) (hB : Blk st (pn 0) (prms m) ss e k) (z5 z6 z7 z8 : Option PV) :
    ∃ ss' e' z5' z6' z7' z8' d, bdK (envB ca pa deep (blk ss e) (some (.int k)) z5 z6 z7 z8) st = .ok (.nx (envB ca pa deep (blk ss' e') (some (.int k)) z5' z6' z7' z8')) (st ++ d) ∧ Blk (st ++ d) (pn 0) (prms m) ss' e' (k + 1) := by
  have hl : 0 < (prms m).length := by simpa using hm
  obtain ⟨tt, d1, ht, Ht⟩ := zmP cs[3 * k + 1] hp hl
  have k1 := zbi st d1
  have hc1 := k1 _ _ hc
  have hp1 := k1 _ _ hp
  have E1 : (sSet 5 (mCall m__law_test (aCons (mOp oIxD (mVar 0) (mOp oAdd (mOp oMulT (mC (.int 3)) (mVar 4)) (mC (.int 1)))) (aCons (mVar 1) aNil)))) (envB ca pa deep (blk ss e) (some (.int k)) z5 z6 z7 z8) st = .ok (.nx (envB ca pa deep (blk ss e) (some (.int k)) (some tt) z6 z7 z8)) (st ++ d1) := by
    have x := ix3 hc k 1 (by omega) (envB ca pa deep (blk ss e) (some (.int k)) z5 z6 z7 z8) rfl rfl
    simp only [zae, zai, zS]
    rw [show (PV.int 1) = PV.int ((1 : Nat) : Int) from rfl, x]
    simp only [zj, zaa, zas, List.getElem?_cons_succ, List.getElem?_cons_zero]
    rw [ht]
    rfl
  generalize hs1 : st ++ d1 = s1 at *
  obtain ⟨so, eo, d2, ho, Ho⟩ := zie cs[3 * k + 2] s1
  have k2 := zbi s1 d2
  have hc2 := k2 _ _ hc1
  have hp2 := k2 _ _ hp1
  have E2 : (sSet 6 (mCall m__law_close (aCons (mOp oIxD (mVar 0) (mOp oAdd (mOp oMulT (mC (.int 3)) (mVar 4)) (mC (.int 2)))) aNil))) (envB ca pa deep (blk ss e) (some (.int k)) (some tt) z6 z7 z8) s1 = .ok (.nx (envB ca pa deep (blk ss e) (some (.int k)) (some tt) (some (blk so eo)) z7 z8)) (s1 ++ d2) := by
    have x := ix3 hc1 k 2 (by omega) (envB ca pa deep (blk ss e) (some (.int k)) (some tt) z6 z7 z8) rfl rfl
    simp only [zae, zai, zS]
    rw [show (PV.int 2) = PV.int ((2 : Nat) : Int) from rfl, x]
    simp only [zj, zas]
    rw [ho]
    rfl
  generalize hs2 : s1 ++ d2 = s2 at *
  have E3 : (sSet 7 (mOp oIxD (mVar 0) (mOp oAdd (mOp oMulT (mC (.int 3)) (mVar 4)) (mC (.int 3))))) (envB ca pa deep (blk ss e) (some (.int k)) (some tt) (some (blk so eo)) z7 z8) s2 = .ok (.nx (envB ca pa deep (blk ss e) (some (.int k)) (some tt) (some (blk so eo)) (some (.int cs[3 * k + 3])) z8)) s2 := by
    have x := ix3 hc2 k 3 (by omega) (envB ca pa deep (blk ss e) (some (.int k)) (some tt) (some (blk so eo)) z7 z8) rfl rfl
    simp only [zae]
    rw [show mOp oAdd (mOp oMulT (mC (.int 3)) (mVar 4)) (mC (.int 3)) = mOp oAdd (mOp oMulT (mC (.int 3)) (mVar 4)) (mC (.int (3 : Nat))) from rfl, x]
    rfl
  generalize cs[3 * k + 3] = way at E3
  have E5 : ∃ st5 d3, (sIf (mB (mOp oEq (mOp oMod (mOp oDiv (mVar 7) (mC (.int 2))) (mC (.int 2))) (mC (.int 1))))
    (sSet 8 (mTup (aCons (mTup (aCons (mC (.str "let")) (aCons (mOp oAdd (mC (.str "s")) (mCall oStr (aCons (mVar 4) aNil))) (aCons (mC (.str "same")) (aCons (mTup (aCons (mTup (aCons (mC (.str "of")) (aCons (mOp oIxD (mVar 1) (mC (.int 0))) aNil))) (aCons (mTup (aCons (mC (.str "is")) (aCons (mCall m__law_value (aCons (mOp oDiv (mVar 7) (mC (.int 4))) aNil)) aNil))) aNil))) aNil))))) aNil)))
    sNext) (envB ca pa deep (blk ss e) (some (.int k)) (some tt) (some (blk so eo)) (some (.int way)) (some (.tup []))) s2 = .ok (.nx (envB ca pa deep (blk ss e) (some (.int k)) (some tt) (some (blk so eo)) (some (.int way)) (some (.tup st5)))) (s2 ++ d3) ∧ Ahd (s2 ++ d3) (pn 0) (prms m) st5 := by
    by_cases h : modP (divP way 2) 2 = 1
    · obtain ⟨x, d3, hx, vx⟩ := zeu (divP way 4) s2
      refine ⟨[sameL (sn k) (pn 0) x], d3, ?_, .one _ x (zmQ k hk m h7) (vx _ rfl)⟩
      generalize s2 ++ d3 = s3 at hx ⊢
      have nm := zoy k hk (envB ca pa deep (blk ss e) (some (.int k)) (some tt) (some (blk so eo)) (some (.int way)) (some (.tup []))) s2 rfl
      have i0 : oIxD (.ref pa) (.int 0) s2 = .ok (.str (pn 0)) s2 := by
        have e : atI ((prms m).map PV.str) 0 = some (.str (pn 0)) := atI_get (k := 0) (by rw [List.getElem?_map, List.getElem?_map, List.getElem?_range hm]; rfl)
        generalize (prms m).map PV.str = l at hp2 e
        simp [zL hp2, e]
      have t : (mB (mOp oEq (mOp oMod (mOp oDiv (mVar 7) (mC (.int 2))) (mC (.int 2))) (mC (.int 1)))) (envB ca pa deep (blk ss e) (some (.int k)) (some tt) (some (blk so eo)) (some (.int way)) (some (.tup []))) s2 = .ok true s2 := by
        simp [cNz, cDv, h]
      rw [zmk, t]
      simp only [zj, if_true, zae, zhy, zS, zex]
      rw [nm]
      simp only [zj, zcd, zaa, zex, zai, zS, zas, zhy, List.getElem?_cons_succ, List.getElem?_cons_zero]
      rw [i0]
      simp [cDv, hx]
    · refine ⟨[], [], ?_, .nil⟩
      simp [cNz, cDv, h]
  obtain ⟨st5, d3, E5, Ha⟩ := E5
  have k3 := zbi s2 d3
  have kk : Kept st (s2 ++ d3) := (k1.trans k2).trans k3
  have HB := hB.keep kk
  have HT := Ht.keep (k2.trans k3)
  have HO : Blk (s2 ++ d3) (pn 0) (prms m) so eo k := (Ho _ _ _).keep k3
  have dd : s2 ++ d3 = st ++ (d1 ++ d2 ++ d3) := by rw [← hs2, ← hs1]; simp
  have pre : bdK (envB ca pa deep (blk ss e) (some (.int k)) z5 z6 z7 z8) st = (sIf (mB (mOp oEq (mOp oMod (mVar 7) (mC (.int 2))) (mC (.int 0))))
    (sSet 3 (mTup (aCons (mVar 8) (aCons (mTup (aCons (mC (.str "if")) (aCons (mVar 5) (aCons (mVar 3) (aCons (mVar 6) aNil))))) aNil))))
    (sSet 3 (mTup (aCons (mVar 8) (aCons (mTup (aCons (mC (.str "if")) (aCons (mVar 5) (aCons (mVar 6) (aCons (mVar 3) aNil))))) aNil))))) (envB ca pa deep (blk ss e) (some (.int k)) (some tt) (some (blk so eo)) (some (.int way)) (some (.tup st5))) (s2 ++ d3) := by
    unfold bdK
    rw [zE, E1, zj, zC, zE, E2, zj, zC, zE, E3, zj, zC, zE]
    have e4 : (sSet 8 (mTup aNil)) (envB ca pa deep (blk ss e) (some (.int k)) (some tt) (some (blk so eo)) (some (.int way)) z8) s2 = .ok (.nx (envB ca pa deep (blk ss e) (some (.int k)) (some tt) (some (blk so eo)) (some (.int way)) (some (.tup [])))) s2 := by
      simp
    rw [e4, zj, zC, zE, E5, zj, zC]
  rw [pre]
  by_cases h : modP way 2 = 0
  · refine ⟨st5, ifL tt (blk ss e) (blk so eo), some tt, some (blk so eo), some (.int way), some (.tup st5), d1 ++ d2 ++ d3, ?_, ?_⟩
    · rw [← dd]
      simp [cNz, h]
    · rw [← dd]; exact .iff Ha HT HB HO
  · refine ⟨st5, ifL tt (blk so eo) (blk ss e), some tt, some (blk so eo), some (.int way), some (.tup st5), d1 ++ d2 ++ d3, ?_, ?_⟩
    · rw [← dd]
      simp [cNz, h]
    · rw [← dd]; exact .iff Ha HT HO HB
theorem zlk (hm : 0 < m) (h7 : m < 7) (hcl : cs.length = 40) (hd : deep ≤ 8) (hc : st[ca]? = some (.lst (cs.map PV.int))) (hp : st[pa]? = some (.lst ((prms m).map PV.str))) :
    ∃ ss e st', m__law_block [.ref ca, .ref pa, .int deep] st = .ok (blk ss e) st' ∧ Kept st st' ∧ Blk st' (pn 0) (prms m) ss e deep := by
  obtain ⟨s0, e0, d0, h0, B0⟩ := zie cs[0] st
  have i0 : oIxD (.ref ca) (.int 0) st = .ok (.int cs[0]) st := zdU hc 0 (by omega)
  have k0 := zbi st d0
  obtain ⟨env', st', F, ss, e, z4, z5, z6, z7, z8, rfl, kk, BB⟩ := zev (g := gN 4) (body := bdK) (fun i env s => ∃ ss e z4 z5 z6 z7 z8, env = envB ca pa deep (blk ss e) z4 z5 z6 z7 z8 ∧ Kept st s ∧ Blk s (pn 0) (prms m) ss e i) deep (fun i env s hi ⟨ss, e, z4, z5, z6, z7, z8, he, ks, hB⟩ => by
      obtain ⟨ss', e', z5', z6', z7', z8', d, r1, r2⟩ := zif (deep := deep) hm h7 hcl i (by omega) (ks _ _ hc) (ks _ _ hp) hB z5 z6 z7 z8
      subst he
      exact ⟨_, _, _, rfl, r1, ss', e', _, _, _, _, _, rfl, ks.trans (zbi _ _), r2⟩) deep 0 (envB ca pa deep (blk s0 e0) none none none none none) (st ++ d0) (by omega) ⟨s0, e0, _, _, _, _, _, rfl, k0, B0 _ _ _⟩
  refine ⟨ss, e, st', ?_, kk, BB⟩
  show (zb0 [some (.ref ca), some (.ref pa), some (.int deep), none, none, none, none, none, none] st).bind endOf = _
  have E0 : (sSet 3 (mCall m__law_close (aCons (mOp oIxD (mVar 0) (mC (.int 0))) aNil))) [some (.ref ca), some (.ref pa), some (.int deep), none, none, none, none, none, none] st = .ok (.nx (envB ca pa deep (blk s0 e0) none none none none none)) (st ++ d0) := by
    simp only [zae, zai, zS, zcd, zaa, zex, zas, List.getElem?_cons_zero, zj]
    rw [i0]
    simp only [zj]
    rw [h0]
    rfl
  have R : (iRng1 (aCons (mVar 2) aNil)) (envB ca pa deep (blk s0 e0) none none none none none) (st ++ d0) = .ok (.im ((List.range' 0 deep).map fun i : Nat => PV.int i)) (st ++ d0) := by
    have hr : cR (deep : Int) = true := by simp [cR]; omega
    simp [hr, nums, List.range_eq_range']
  simp only [zb0, zbZ, zbY, zE]
  rw [E0]
  simp only [zj, zC, zE, zjF]
  rw [R]
  simp only [zj, zjG]
  rw [F]
  simp
end
end FK32
namespace FK32
open PySem L2 PySem.W Mi
abbrev env0 (x0 x1 x2 x3 x4 x5 x6 x7 x8 x9 xa xb xc : Option PV) : PEnv := [x0, x1, x2, x3, x4, x5, x6, x7, x8, x9, xa, xb, xc]
abbrev scr (ns : List Int) : PV := .frl (ns.map PV.int)
abbrev cellsOf (ns : List Int) : List Int := (List.range 40).map (cell ns)
def fC (ns : List Int) : PV → PV
  | .int i => .int (cell ns i.toNat)
  | x => x
theorem zll (ns : List Int) : (sSet 1 (mComp (iRng1 (aCons (mC (.int 40)) aNil)) (mCall m__law_cell_at (aCons (mVar 1) (aCons (mVar 0) aNil))))) (env0 (some (scr ns)) none none none none none none none none none none none none) [] = .ok (.nx (env0 (some (scr ns)) (some (.ref 0)) none none none none none none none none none none none)) [.lst ((cellsOf ns).map PV.int)] := by
  have src : (iRng1 (aCons (mC (.int 40)) aNil)) (env0 (some (scr ns)) none none none none none none none none none none none none) [] = .ok (.im (nums 0 40)) [] := by
    simp [cR]
  have q := zdH (fe := mCall m__law_cell_at (aCons (mVar 1) (aCons (mVar 0) aNil))) (env := env0 (some (scr ns)) none none none none none none none none none none none none) (f := fC ns) (st := []) (nums 0 40) (fun x hx => by
    rw [zbC] at hx
    obtain ⟨i, -, rfl⟩ := List.mem_map.mp hx
    simp [zmN ns i, fC]) []
  rw [zae, zfC, src]
  simp only [zj]
  rw [zhN, if_pos (by rw [zbC]; simp), q]
  have e : (nums 0 40).map (fC ns) = (cellsOf ns).map PV.int := by
    rw [zbC]
    simp [fC]
  rw [e]
  rfl
def fP : PV → PV
  | .int i => .str (pn i.toNat)
  | x => x
theorem zjl (ns : List Int) (b : Nat) (hb : b < 6) (st : Sto) (h0 : st[0]? = some (.lst ((cellsOf ns).map PV.int))) (e : modP (cell ns 30) 6 = (b : Int)) :
    (sSet 2 (mComp (iRng1 (aCons (mOp oAdd (mC (.int 1)) (mOp oMod (mOp oIxD (mVar 1) (mC (.int 30))) (mC (.int 6)))) aNil)) (mOp oAdd (mC (.str "p")) (mCall oStr (aCons (mVar 0) aNil))))) (env0 (some (scr ns)) (some (.ref 0)) none none none none none none none none none none none) st = .ok (.nx (env0 (some (scr ns)) (some (.ref 0)) (some (.ref st.length)) none none none none none none none none none none)) (st ++ [.lst ((prms (1 + b)).map PV.str)]) := by
  have ix : oIxD (.ref 0) (.int 30) st = .ok (.int (cell ns 30)) st := by
    have := zdU (cs := cellsOf ns) h0 30 (by simp)
    simpa using this
  have tn : ((1 : Int) + (b : Int)).toNat = 1 + b := by omega
  have src : (iRng1 (aCons (mOp oAdd (mC (.int 1)) (mOp oMod (mOp oIxD (mVar 1) (mC (.int 30))) (mC (.int 6)))) aNil)) (env0 (some (scr ns)) (some (.ref 0)) none none none none none none none none none none none) st = .ok (.im (nums 0 (1 + b))) st := by
    have hr : cR (1 + (b : Int)) = true := by simp [cR]; omega
    simp only [zkV, zS, zcd, zex, zaa, zas, List.getElem?_cons_succ, List.getElem?_cons_zero, zj]
    rw [ix]
    simp only [zj, zfx]
    rw [show cNz (cell ns 30) 6 = true by simp [cNz], e]
    simp [hr, tn]
  have q := zdH (fe := mOp oAdd (mC (.str "p")) (mCall oStr (aCons (mVar 0) aNil))) (env := env0 (some (scr ns)) (some (.ref 0)) none none none none none none none none none none none) (f := fP) (st := st) (nums 0 (1 + b)) (fun x hx => by
    rw [zbC] at hx
    obtain ⟨i, hi, rfl⟩ := List.mem_map.mp hx
    have hi' : i < 8 := by simp at hi; omega
    have h1 := zmS i hi'
    have h2 := zjV i (by omega)
    simp only [zcd, zex, zai, zS, zas, zaa, zj, List.getElem?_cons_zero]
    simp [pn, fP]
    rw [if_pos (by simpa using h2)]
    simp
    simpa using h1) []
  rw [zae, zfC, src]
  simp only [zj]
  rw [zhN, if_pos (by rw [zbC]; simp; show 1 + b ≤ 1000000; omega), q]
  have e2 : (nums 0 (1 + b)).map fP = (prms (1 + b)).map PV.str := by
    rw [zbC]
    simp [fP]
  rw [e2]
  rfl
theorem unblank {st : Sto} {j : Nat} {v : PV} (h : Vl (st.set j (.lst [])) v) : Vl st v := by
  have key : ∀ d (ks : List Str) (xs : List PV), (st.set j (SO.lst []))[d]? = some (SO.dic ks xs) → st[d]? = some (SO.dic ks xs) := fun d ks xs h => by
    by_cases hd : d = j
    · subst hd
      rw [List.getElem?_set] at h
      simp only [if_true] at h
      split at h <;> cases h
    · rwa [List.getElem?_set_ne (Ne.symm hd)] at h
  cases h with
  | int n => exact .int n
  | str z => exact .str z
  | row0 => exact .row0
  | row1 => exact .row1
  | dic0 d h => exact .dic0 d (key _ _ _ h)
  | dic1 d h => exact .dic1 d (key _ _ _ h)
theorem zjm {g : PV → PEnv → Option PEnv} {body : PEnv → Mo Fl} {l : Nat} {xs : List PV} (I : Nat → PEnv → Sto → Prop) (hI : ∀ i e st, I i e st → st[l]? = some (.lst xs)) (hb : ∀ i e st x, xs[i]? = some x → I i e st → ∃ e1 e2 st2, g (.tup [.int i, x]) e = some e1 ∧ body e1 st = .ok (.nx e2) st2 ∧ I (i + 1) e2 st2) :
    ∀ (k i m : Nat) (env : PEnv) (st : Sto), xs.length - i = k → i ≤ xs.length → k < m → I i env st → ∃ env' st', forE g body l m i env st = .ok (.nx env') st' ∧ I xs.length env' st' := by
  intro k
  induction k with
  | zero =>
    intro i m env st hk hi hm h
    obtain ⟨m', rfl⟩ : ∃ m', m = m' + 1 := ⟨m - 1, by omega⟩
    have : i = xs.length := by omega
    subst this
    refine ⟨env, st, ?_, h⟩
    unfold forE
    rw [zL (hI _ _ _ h), List.getElem?_eq_none_iff.mpr (by omega)]
  | succ k ih =>
    intro i m env st hk hi hm h
    obtain ⟨m', rfl⟩ : ∃ m', m = m' + 1 := ⟨m - 1, by omega⟩
    have hlt : i < xs.length := by omega
    obtain ⟨e1, e2, st2, q1, q2, q3⟩ := hb i env st xs[i] (List.getElem?_eq_getElem hlt) h
    obtain ⟨env', st', r1, r2⟩ := ih (i + 1) m' e2 st2 (by omega) (by omega) (by omega) q3
    refine ⟨env', st', ?_, r2⟩
    unfold forE
    rw [zL (hI _ _ _ h), List.getElem?_eq_getElem hlt]
    simp only [q1]
    rw [q2]
    simp only [zj]
    exact r1
theorem zig {ps : List Str} : ∀ {vs : List PV} {p : Str}, ps.length = vs.length → p ∈ ps → ∃ v ∈ vs, (ps.zip vs).lookup p = some v := by
  induction ps with
  | nil => intro vs p _ h; cases h
  | cons q ps ih =>
    intro vs p hl h
    cases vs with
    | nil => simp at hl
    | cons v vs =>
      by_cases e : p = q
      · subst e
        exact ⟨v, List.mem_cons_self .., by simp [List.lookup_cons]⟩
      · have hp : p ∈ ps := by
          rcases List.mem_cons.mp h with q | q
          · exact absurd q e
          · exact q
        obtain ⟨w, hw, hl2⟩ := ih (vs := vs) (by simpa using hl) hp
        have : (p == q) = false := by simpa using e
        exact ⟨w, List.mem_cons_of_mem _ hw, by simp [List.lookup_cons, this, hl2]⟩
theorem zjn {ps : List Str} : ∀ {vs : List PV}, ps.Nodup → ps.length = vs.length → ps.map (fun p => ((ps.zip vs).lookup p).getD .non) = vs := by
  induction ps with
  | nil => intro vs _ hl; cases vs with | nil => rfl | cons => simp at hl
  | cons q ps ih =>
    intro vs nd hl
    cases vs with
    | nil => simp at hl
    | cons v vs =>
      obtain ⟨n1, n2⟩ := List.nodup_cons.mp nd
      have := ih (vs := vs) n2 (by simpa using hl)
      rw [List.map_cons]
      congr 1
      · simp [List.lookup_cons]
      · rw [← this]
        apply List.map_congr_left
        intro p hp
        have e : (p == q) = false := by simpa using fun e : p = q => n1 (e ▸ hp)
        rw [this]
        simp [List.lookup_cons, e]
end FK32
namespace FK32
open PySem L2 PySem.W Mi
abbrev bdT : PEnv → Mo Fl := (sDPutM (mVar 4) (mVar 6) (mCall m__law_value (aCons (mOp oIxD (mVar 1) (mOp oAdd (mC (.int 32)) (mVar 5))) aNil)))
theorem zfl {α : Type} (l : List α) (i : Nat) (x : α) (h : l[i]? = some x) : l.take (i + 1) = l.take i ++ [x] := by
  obtain ⟨hi, rfl⟩ := List.getElem?_eq_some_iff.mp h
  exact (List.take_append_getElem hi).symm
theorem zjo (ns : List Int) (m : Nat) (h7 : m < 7) (deep : PV) (st : Sto) (h0 : st[0]? = some (.lst ((cellsOf ns).map PV.int))) (h1 : st[1]? = some (.lst ((prms m).map PV.str))) (h2 : st[2]? = some (.dic [] [])) :
    ∃ z5 z6 vs st', (sForE (aCons (mVar 2) aNil) (g2 5 6) bdT) (env0 (some (scr ns)) (some (.ref 0)) (some (.ref 1)) (some deep) (some (.ref 2)) none none none none none none none none) st = .ok (.nx (env0 (some (scr ns)) (some (.ref 0)) (some (.ref 1)) (some deep) (some (.ref 2)) z5 z6 none none none none none none)) st' ∧
      vs.length = m ∧ st'[0]? = some (.lst ((cellsOf ns).map PV.int)) ∧ st'[1]? = some (.lst ((prms m).map PV.str)) ∧ st'[2]? = some (.dic (prms m) vs) ∧ ∀ v ∈ vs, Vl st' v := by
  obtain ⟨env', st', F, z5, z6, vs, rfl, hl, g0, g1, g2', hv⟩ := zjm (g := g2 5 6) (body := bdT) (l := 1) (xs := (prms m).map PV.str) (fun i e s => ∃ z5 z6 vs, e = env0 (some (scr ns)) (some (.ref 0)) (some (.ref 1)) (some deep) (some (.ref 2)) z5 z6 none none none none none none ∧ vs.length = i ∧ s[0]? = some (.lst ((cellsOf ns).map PV.int)) ∧ s[1]? = some (.lst ((prms m).map PV.str)) ∧ s[2]? = some (.dic ((prms m).take i) vs) ∧ ∀ v ∈ vs, Vl (s.set 2 (.lst [])) v)
    (fun i e s ⟨_, _, _, _, _, _, g, _, _⟩ => g) (fun i e s x hx ⟨z5, z6, vs, he, hl, g0, g1, g2', hv⟩ => by
      have hi : i < m := by have := (List.getElem?_eq_some_iff.mp hx).1; simpa using this
      have hp : (prms m)[i]? = some (pn i) := by rw [List.getElem?_map, List.getElem?_range hi]; rfl
      have hx' : x = .str (pn i) := by rw [List.getElem?_map, hp] at hx; exact (Option.some.inj hx).symm
      subst hx'
      have hc : oIxD (.ref 0) (.int (32 + (i : Int))) s = .ok (.int (cell ns (32 + i))) s := by
        have := zdU (cs := cellsOf ns) g0 (32 + i) (by simp; omega)
        rw [show ((32 + i : Nat) : Int) = 32 + (i : Int) by omega] at this
        simpa using this
      obtain ⟨v, d, ev, vv⟩ := zeu (cell ns (32 + i)) s
      have l2 := zde g2'
      have k := zbi s d
      have dp := zh1 (k _ _ g2') (by simp; omega) (pn i) v
      have ni : pn i ∉ (prms m).take i := fun z => by
        have nd := zew m h7
        have e : (prms m).take (i + 1) = (prms m).take i ++ [pn i] := zfl _ _ _ hp
        have nd2 : ((prms m).take (i + 1)).Nodup := nd.sublist (List.take_sublist _ _)
        rw [e] at nd2
        exact (List.nodup_append.mp nd2).2.2 _ z _ (List.mem_singleton.mpr rfl) rfl
      have e2 : dPut (pn i) v ((prms m).take i) vs = ((prms m).take (i + 1), vs ++ [v]) := by
        unfold dPut
        rw [if_neg (by simpa using ni), zfl _ _ _ hp]
      rw [e2] at dp
      simp only at dp
      refine ⟨_, env0 (some (scr ns)) (some (.ref 0)) (some (.ref 1)) (some deep) (some (.ref 2)) (some (.int i)) (some (.str (pn i))) none none none none none none, (s ++ d).set 2 (.dic ((prms m).take (i + 1)) (vs ++ [v])), rfl, ?_, some (.int i), some (.str (pn i)), vs ++ [v], rfl, by simp [hl], ?_, ?_, ?_, ?_⟩
      · subst he
        show bdT (env0 (some (scr ns)) (some (.ref 0)) (some (.ref 1)) (some deep) (some (.ref 2)) (some (.int i)) (some (.str (pn i))) none none none none none none) s = _
        generalize (s ++ d).set 2 (.dic ((prms m).take (i + 1)) (vs ++ [v])) = s9 at dp ⊢
        simp only [bdT, zja, zai, zS, zcd, zaa, zex, zas, List.getElem?_cons_succ, List.getElem?_cons_zero, zj, zfx]
        have : oAdd (.int 32) (.int (i : Int)) s = .ok (.int (32 + (i : Int))) s := by simp
        rw [this]
        simp only [zj]
        rw [hc]
        simp only [zj]
        rw [ev]
        simp only [zj]
        rw [dp]
        rfl
      · rw [List.getElem?_set_ne (by omega)]; exact k _ _ g0
      · rw [List.getElem?_set_ne (by omega)]; exact k _ _ g1
      · rw [List.getElem?_set_self (by simp; omega)]
      · have es : ((s ++ d).set 2 (.dic ((prms m).take (i + 1)) (vs ++ [v]))).set 2 (SO.lst []) = s.set 2 (SO.lst []) ++ d := by
          rw [List.set_set, List.set_append_left _ _ l2]
        rw [es]
        intro u hu
        rcases List.mem_append.mp hu with hu | hu
        · exact (hv u hu).keep (zbi _ _)
        · rw [List.mem_singleton.mp hu]
          exact vv _ (by simp)) m 0 (lim + 1) (env0 (some (scr ns)) (some (.ref 0)) (some (.ref 1)) (some deep) (some (.ref 2)) none none none none none none none none) st (by simp) (Nat.zero_le _) (by show m < 1000000 + 1; omega) ⟨none, none, [], rfl, rfl, h0, h1, by simpa using h2, fun v hv => by cases hv⟩
  have lp : ((prms m).map PV.str).length = m := by simp
  rw [lp] at hl g2'
  rw [List.take_of_length_le (by simp)] at g2'
  refine ⟨z5, z6, vs, st', ?_, hl, g0, g1, g2', fun v h => unblank (hv v h)⟩
  simp only [zkW, zS, zaa, zas, List.getElem?_cons_succ, List.getElem?_cons_zero, zj, zmw]
  rw [zL h1]
  simp only [zj]
  exact F
def fL (ps : List Str) (vs : List PV) : PV → PV
  | .str p => ((ps.zip vs).lookup p).getD .non
  | x => x
theorem zjp (ns : List Int) (m : Nat) (h7 : m < 7) (deep : PV) (z5 z6 : Option PV) (vs : List PV) (st : Sto) (hl : vs.length = m) (h1 : st[1]? = some (.lst ((prms m).map PV.str))) (h2 : st[2]? = some (.dic (prms m) vs)) :
    (sSet 7 (mCall oTuple (aCons (mComp (iVal (mVar 2)) (mOp oIxD (mVar 5) (mVar 0))) aNil))) (env0 (some (scr ns)) (some (.ref 0)) (some (.ref 1)) (some deep) (some (.ref 2)) z5 z6 none none none none none none) st = .ok (.nx (env0 (some (scr ns)) (some (.ref 0)) (some (.ref 1)) (some deep) (some (.ref 2)) z5 z6 (some (.tup vs)) none none none none none)) (st ++ [.lst vs]) := by
  have q := zhO (fe := mOp oIxD (mVar 5) (mVar 0)) (env := env0 (some (scr ns)) (some (.ref 0)) (some (.ref 1)) (some deep) (some (.ref 2)) z5 z6 none none none none none none) (f := fL (prms m) vs) h1 (fun x hx => by
    obtain ⟨p, hp, rfl⟩ := List.mem_map.mp hx
    obtain ⟨v, _, hlk⟩ := zig (vs := vs) (by simpa using hl.symm) hp
    have := zgl h2 p
    rw [hlk] at this
    simp only [zcd, zaa, List.getElem?_cons_succ, List.getElem?_cons_zero, zj]
    rw [this]
    simp only [fL, hlk]
    rfl) ((prms m).map PV.str).length 0 (lim + 1) [] (by simp) (Nat.zero_le _) (by simp; show m < 1000000 + 1; omega)
  have e : ((prms m).map PV.str).map (fL (prms m) vs) = vs := by
    rw [List.map_map]
    have := zjn (vs := vs) (zew m h7) (by simpa using hl.symm)
    exact this
  rw [List.drop_zero, List.nil_append, e] at q
  have src : (iVal (mVar 2)) (env0 (some (scr ns)) (some (.ref 0)) (some (.ref 1)) (some deep) (some (.ref 2)) z5 z6 none none none none none none) st = .ok (.rf 1) st := by
    simp [zL h1]
  have cm : (mComp (iVal (mVar 2)) (mOp oIxD (mVar 5) (mVar 0))) (env0 (some (scr ns)) (some (.ref 0)) (some (.ref 1)) (some deep) (some (.ref 2)) z5 z6 none none none none none none) st = .ok (.ref st.length) (st ++ [.lst vs]) := by
    rw [zfC, src]
    simp only [zj]
    exact q
  simp only [zae, zai, zS]
  rw [cm]
  have ht := zfD st (.lst vs)
  simp only [zj, zas, oTuple]
  rw [zL ht]
  rfl
abbrev zcW (w v : PV) (t : Nat) : PV := .tup [w, v, .int t]
abbrev outR (b : Nat) : PV := .tup [.str "out", .non, .int b]
theorem zjW {B0 st : Sto} {w v : PV} (hs : Shape B0 w v) (k : Kept B0 st) (t : Nat) : oEqT (zcW w v t) (zcW w v t) st = .ok (.bl true) st := by
  have a1 : ∀ z : Str, eqT st 149 (.str z) (.str z) = some true := fun z => by show some (z == z) = _; simp
  have a2 : ∀ z : Int, eqT st 149 (.int z) (.int z) = some true := fun z => by show some (z == z) = _; simp
  have a3 : eqT st 149 w w = some true ∧ eqT st 149 v v = some true := by
    rcases hs with ⟨rfl, vv⟩ | ⟨rfl, z, rfl⟩
    · exact ⟨a1 _, zlf (vv.keep k) 146⟩
    · exact ⟨a1 _, a1 _⟩
  have : eqT st 150 (zcW w v t) (zcW w v t) = some true := by
    show allE (eqT st 149) [w, v, .int t] [w, v, .int t] = _
    simp only [allE, a3.1, a3.2, a2]
    rfl
  unfold oEqT
  rw [this]
theorem zmT (b : Nat) (st : Sto) : oNe (outR b) (outR b) st = .ok (.bl false) st := by
  have h1 : plain (outR b) = true := rfl
  have h2 : dep (outR b) ≤ 150 := by show max 0 (max 0 (max 0 0)) + 1 ≤ 150; decide
  have h3 : eqP (outR b) (outR b) = true := by simp; rfl
  unfold oNe
  rw [if_pos ⟨h1, h1, h2⟩, h3]
  rfl
end FK32
namespace FK32
open PySem L2 PySem.W Mi
section
variable {y0 y1 y2 y3 y4 y5 y6 y7 y8 : Option PV} {P : List PV} {vs : List PV} {w v : PV} {t : Nat} {B0 : Sto}
abbrev envT (y0 y1 y2 y3 y4 y5 y6 : Option PV) (vs : List PV) (y8 : Option PV) (P : List PV) (D : PV) (f z : Option PV) : PEnv := [y0, y1, y2, y3, y4, y5, y6, some (.tup vs), y8, some (.tup P), some D, f, z]
def Runs (B0 : Sto) (P vs : List PV) (w v : PV) (t : Nat) : Prop := ∀ st, Kept B0 st → ∀ bu : Nat, ∃ st', m_run [.tup P, .tup vs, .int bu] st = .ok (if t ≤ bu then zcW w v t else outR bu) st' ∧ Kept B0 st'
theorem zih (R : Runs B0 P vs w v t) (fb : PEnv → Mo PV) (b : Nat) (f z : Option PV) (st : Sto) (k : Kept B0 st) (hb : fb (envT y0 y1 y2 y3 y4 y5 y6 vs y8 P (zcW w v t) f z) st = .ok (.int b) st) :
    ∃ st', (mCall m_run (aCons (mVar 9) (aCons (mVar 7) (aCons fb aNil)))) (envT y0 y1 y2 y3 y4 y5 y6 vs y8 P (zcW w v t) f z) st = .ok (if t ≤ b then zcW w v t else outR b) st' ∧ Kept B0 st' := by
  obtain ⟨st', r, k'⟩ := R st k b
  refine ⟨st', ?_, k'⟩
  simp only [zai, zS, zaa, zas, List.getElem?_cons_succ, List.getElem?_cons_zero, zj]
  rw [hb]
  simp only [zj]
  exact r
abbrev bdB : PEnv → Mo Fl := (sIf (mB (mOp oNe (mCall m_run (aCons (mVar 9) (aCons (mVar 7) (aCons (mVar 12) aNil)))) (mTup (aCons (mC (.str "out")) (aCons (mC .non) (aCons (mVar 12) aNil))))))
    (sRet (mC (.bl false)))
    sNext)
theorem tail (hs : Shape B0 w v) (R : Runs B0 P vs w v t) (ht : t ≤ 17) (st : Sto) (k : Kept B0 st) :
    ∃ st', zcU (envT y0 y1 y2 y3 y4 y5 y6 vs y8 P (zcW w v t) (some (zcW w v t)) none) st = .ok (.rt (.bl true)) st' := by
  have i1 : ∀ (l : List PV) (st : Sto), oIsi isT [.tup l, .ty "tuple"] st = .ok (.bl true) st := fun l st => rfl
  have i2 : ∀ (i : Int) (st : Sto), oIsi isT [.int i, .ty "bool"] st = .ok (.bl false) st := fun i st => rfl
  have iv : oIsi isT [v, .ty "bool"] st = .ok (.bl false) st := by
    rcases hs with ⟨rfl, vv⟩ | ⟨rfl, z, rfl⟩
    · cases vv with
      | int n => rfl
      | str z => rfl
      | row0 => rfl
      | row1 => rfl
      | dic0 d h => rw [zdT (k _ _ h)]; rfl
      | dic1 d h => rw [zdT (k _ _ h)]; rfl
    · rfl
  have E10 : (sIf (bOr (bNot (mB (mCall (oIsi isT) (aCons (mVar 11) (aCons (mC (.ty "tuple")) aNil))))) (bOr (mB (mCall (oIsi isT) (aCons (mOp oIxD (mVar 11) (mC (.int 1))) (aCons (mC (.ty "bool")) aNil)))) (mB (mCall (oIsi isT) (aCons (mOp oIxD (mVar 11) (mC (.int 2))) (aCons (mC (.ty "bool")) aNil))))))
    (sRet (mC (.bl false)))
    sNext) (envT y0 y1 y2 y3 y4 y5 y6 vs y8 P (zcW w v t) (some (zcW w v t)) none) st = .ok (.nx (envT y0 y1 y2 y3 y4 y5 y6 vs y8 P (zcW w v t) (some (zcW w v t)) none)) st := by
    simp [i1, i2, iv, at1, at2]
  obtain ⟨env', s4, F, z, rfl, k4⟩ := zev (g := gN 12) (body := bdB) (fun i e s => ∃ z, e = envT y0 y1 y2 y3 y4 y5 y6 vs y8 P (zcW w v t) (some (zcW w v t)) z ∧ Kept B0 s) t (fun i e s hi ⟨z, he, ks⟩ => by
    subst he
    obtain ⟨s', r, k'⟩ := zih (y0 := y0) (y1 := y1) (y2 := y2) (y3 := y3) (y4 := y4) (y5 := y5) (y6 := y6) (y8 := y8) R (mVar 12) i (some (zcW w v t)) (some (.int i)) s ks (by simp)
    rw [if_neg (by omega)] at r
    refine ⟨envT y0 y1 y2 y3 y4 y5 y6 vs y8 P (zcW w v t) (some (zcW w v t)) (some (.int i)), envT y0 y1 y2 y3 y4 y5 y6 vs y8 P (zcW w v t) (some (zcW w v t)) (some (.int i)), s', rfl, ?_, some (.int i), rfl, k'⟩
    simp only [bdB, zmk, zon, zcd]
    rw [r]
    simp only [zj, zhy, zS, zex, zaa, zas, List.getElem?_cons_succ, List.getElem?_cons_zero, List.length_cons, List.length_nil]
    rw [if_pos (by decide)]
    simp only [zj]
    rw [zmT]
    simp) t 0 (envT y0 y1 y2 y3 y4 y5 y6 vs y8 P (zcW w v t) (some (zcW w v t)) none) st (by omega) ⟨none, rfl, k⟩
  have src : (iRng1 (aCons (mOp oIxD (mVar 10) (mC (.int 2))) aNil)) (envT y0 y1 y2 y3 y4 y5 y6 vs y8 P (zcW w v t) (some (zcW w v t)) none) st = .ok (.im ((List.range' 0 t).map fun i : Nat => PV.int i)) st := by
    have hr : cR (t : Int) = true := by simp [cR]; omega
    simp [at2, hr, nums, List.range_eq_range']
  obtain ⟨s5, r5, k5⟩ := zih (y0 := y0) (y1 := y1) (y2 := y2) (y3 := y3) (y4 := y4) (y5 := y5) (y6 := y6) (y8 := y8) R (mOp oIxD (mVar 10) (mC (.int 2))) t (some (zcW w v t)) z s4 k4 (by simp [at2])
  rw [if_pos (Nat.le_refl _)] at r5
  refine ⟨s5, ?_⟩
  simp only [zcU, zE]
  rw [E10]
  simp only [zj, zC, zfa, zE, zjF]
  rw [src]
  simp only [zj, zjG]
  rw [F]
  simp only [zj, zC, ze9, zjE, zmj, zcd, zaa, List.getElem?_cons_succ, List.getElem?_cons_zero]
  rw [zjW hs k4]
  simp only [zj]
  rw [show asB (.bl true) s4 = .ok true s4 from rfl]
  simp only [zj, if_true]
  rw [r5]
  simp only [zj]
  rw [zjW hs k5]
  rfl
end
theorem znI (ns : List Int) : ∃ st, zmB [.frl (ns.map PV.int)] [] = .ok (.bl true) st := by
  obtain ⟨b, hb, eb⟩ := modNat (cell ns 30) 6 (by decide)
  obtain ⟨deep, hd, ed⟩ := modNat (cell ns 31) 9 (by decide)
  obtain ⟨bu, hbu, ebu⟩ := modNat (cell ns 38) 99961 (by decide)
  have ed' : modP (cell ns 31) 9 = (deep : Int) := ed
  have ebu' : modP (cell ns 38) 99961 = (bu : Int) := ebu
  have E1 := zll ns
  have g0 : [SO.lst ((cellsOf ns).map PV.int)][0]? = some (.lst ((cellsOf ns).map PV.int)) := rfl
  have E2 := zjl ns b hb _ g0 eb
  generalize hm : 1 + b = m at E2
  have ix : ∀ (j : Nat) (st : Sto), j < 40 → st[0]? = some (.lst ((cellsOf ns).map PV.int)) → oIxD (.ref 0) (.int (j : Int)) st = .ok (.int (cell ns j)) st := fun j st hj h => by
    have := zdU (cs := cellsOf ns) h j (by simpa using hj)
    simpa using this
  have E3 : ∀ st : Sto, st[0]? = some (.lst ((cellsOf ns).map PV.int)) → (sSet 3 (mOp oMod (mOp oIxD (mVar 1) (mC (.int 31))) (mC (.int 9)))) (env0 (some (scr ns)) (some (.ref 0)) (some (.ref 1)) none none none none none none none none none none) st = .ok (.nx (env0 (some (scr ns)) (some (.ref 0)) (some (.ref 1)) (some (.int deep)) none none none none none none none none none)) st := fun st h => by
    have i := ix 31 st (by decide) h
    simp only [zae, zcd, zaa, zex, List.getElem?_cons_succ, List.getElem?_cons_zero, zj]
    rw [show oIxD (.ref 0) (.int 31) st = _ from i]
    simp only [zj, zfx]
    rw [show cNz (cell ns 31) 9 = true by simp [cNz], ed']
    rfl
  have s1 : [SO.lst ((cellsOf ns).map PV.int)] ++ [.lst ((prms m).map PV.str)] ++ [.dic [] []] = [.lst ((cellsOf ns).map PV.int), .lst ((prms m).map PV.str), .dic [] []] := rfl
  obtain ⟨z5, z6, vs, st5, E5, hl, h50, h51, h52, hv⟩ := zjo ns m (by omega) (.int deep) [.lst ((cellsOf ns).map PV.int), .lst ((prms m).map PV.str), .dic [] []] rfl rfl rfl
  have E6 := zjp ns m (by omega) (.int deep) z5 z6 vs st5 hl h51 h52
  have k6 := zbi st5 [.lst vs]
  generalize st5 ++ [.lst vs] = st6 at E6 k6
  obtain ⟨ss, e, st7, E7, k7, HB⟩ := zlk (ca := 0) (pa := 1) (deep := deep) (cs := cellsOf ns) (m := m) (by omega) (by omega) (by simp) (by omega) (k6 _ _ h50) (k6 _ _ h51)
  have k57 : Kept st5 st7 := k6.trans k7
  have hps : (prms m).length = vs.length := by simp [hl]
  obtain ⟨w, v, t, ht, hs, D, R⟩ := zli (B0 := st7) (p0 := pn 0) (ps := prms m) (vs := vs) (List.mem_map.mpr ⟨0, List.mem_range.mpr (by omega), rfl⟩) (fun p hp => by
    obtain ⟨u, hu, hlk⟩ := zig hps hp
    exact ⟨u, hlk, (hv u hu).keep k57⟩) (zew m (by omega)) hps (by simp; omega) (by omega) HB
  have D7 := D st7 2 (Kept.refl _) (k57 _ _ h52)
  obtain ⟨st8, r8, k8⟩ := zih (y0 := some (scr ns)) (y1 := some (.ref 0)) (y2 := some (.ref 1)) (y3 := some (.int deep)) (y4 := some (.ref 2)) (y5 := z5) (y6 := z6) (y8 := some (blk ss e)) (P := prog (prms m) ss e) R (mOp oAdd (mC (.int 40)) (mOp oMod (mOp oIxD (mVar 1) (mC (.int 38))) (mC (.int 99961)))) (40 + bu) none none st7 (Kept.refl _) (by
    have i := ix 38 st7 (by decide) (k57 _ _ h50)
    simp only [zcd, zaa, zex, List.getElem?_cons_succ, List.getElem?_cons_zero, zj]
    rw [show oIxD (.ref 0) (.int 38) st7 = _ from i]
    simp only [zj, zfx]
    rw [show cNz (cell ns 38) 99961 = true by simp [cNz], ebu']
    simp)
  rw [if_pos (by omega)] at r8
  obtain ⟨st9, T⟩ := tail (y0 := some (scr ns)) (y1 := some (.ref 0)) (y2 := some (.ref 1)) (y3 := some (.int deep)) (y4 := some (.ref 2)) (y5 := z5) (y6 := z6) (y8 := some (blk ss e)) (P := prog (prms m) ss e) hs R ht st8 k8
  refine ⟨st9, ?_⟩
  show (zk3 (env0 (some (scr ns)) none none none none none none none none none none none none) []).bind endOf = _
  simp only [zk3, zE]
  rw [E1]
  simp only [zj, zC, zgj, zE]
  rw [E2]
  simp only [zj, zC, zgi, zE]
  have E3' := E3 ([SO.lst ((cellsOf ns).map PV.int)] ++ [.lst ((prms m).map PV.str)]) rfl
  rw [show (List.length [SO.lst ((cellsOf ns).map PV.int)]) = 1 from rfl, E3']
  simp only [zj, zC, zgh, zE, zae, mDNew]
  rw [s1]
  simp only [zgg, zE]
  have E5' : (sForE (aCons (mVar 2) aNil) (g2 5 6) bdT) ((env0 (some (scr ns)) (some (.ref 0)) (some (.ref 1)) (some (.int deep)) none none none none none none none none none).set 4 (some (.ref ([SO.lst ((cellsOf ns).map PV.int)] ++ [SO.lst ((prms m).map PV.str)]).length))) _ = _ := E5
  unfold bdT at E5'
  rw [E5']
  simp only [zj, zC, zgf, zE]
  rw [E6]
  simp only [zj, zC, zge, zE]
  have E7' : (sSet 8 (mCall m__law_block (aCons (mVar 1) (aCons (mVar 2) (aCons (mVar 3) aNil))))) (env0 (some (scr ns)) (some (.ref 0)) (some (.ref 1)) (some (.int deep)) (some (.ref 2)) z5 z6 (some (.tup vs)) none none none none none) st6 = .ok (.nx (env0 (some (scr ns)) (some (.ref 0)) (some (.ref 1)) (some (.int deep)) (some (.ref 2)) z5 z6 (some (.tup vs)) (some (blk ss e)) none none none none)) st7 := by
    simp only [zae, zai, zS, zaa, zas, List.getElem?_cons_succ, List.getElem?_cons_zero, zj]
    rw [E7]
    rfl
  rw [E7']
  simp only [zj, zC, zgd, zE]
  have E8 : (sSet 9 (mTup (aCons (mTup (aCons (mC (.str "main")) (aCons (mCall oTuple (aCons (mVar 2) aNil)) (aCons (mVar 8) aNil)))) aNil))) (env0 (some (scr ns)) (some (.ref 0)) (some (.ref 1)) (some (.int deep)) (some (.ref 2)) z5 z6 (some (.tup vs)) (some (blk ss e)) none none none none) st7 = .ok (.nx (env0 (some (scr ns)) (some (.ref 0)) (some (.ref 1)) (some (.int deep)) (some (.ref 2)) z5 z6 (some (.tup vs)) (some (blk ss e)) (some (.tup (prog (prms m) ss e))) none none none)) st7 := by
    have h := k57 _ _ h51
    unfold prog
    generalize (prms m).map PV.str = l at h
    simp [oTuple, zL h]
  rw [E8]
  simp only [zj, zC, zgc, zE]
  have E9 : (sSet 10 (mCall m__law_due (aCons (mVar 8) (aCons (mVar 4) aNil)))) (env0 (some (scr ns)) (some (.ref 0)) (some (.ref 1)) (some (.int deep)) (some (.ref 2)) z5 z6 (some (.tup vs)) (some (blk ss e)) (some (.tup (prog (prms m) ss e))) none none none) st7 = .ok (.nx (envT (some (scr ns)) (some (.ref 0)) (some (.ref 1)) (some (.int deep)) (some (.ref 2)) z5 z6 vs (some (blk ss e)) (prog (prms m) ss e) (zcW w v t) none none)) st7 := by
    simp only [zae, zai, zS, zaa, zas, List.getElem?_cons_succ, List.getElem?_cons_zero, zj]
    rw [D7]
    rfl
  rw [E9]
  simp only [zj, zC, zgb, zE]
  rw [zae, r8]
  simp only [zj, zC]
  have T' : zcU ((envT (some (scr ns)) (some (.ref 0)) (some (.ref 1)) (some (.int deep)) (some (.ref 2)) z5 z6 vs (some (blk ss e)) (prog (prms m) ss e) (zcW w v t) none none).set 11 (some (zcW w v t))) st8 = _ := T
  rw [T']
  rfl
end FK32
open PySem PySem.W PyProof.Rows
set_option maxHeartbeats 0
namespace PySem.W.Fast
def tw5422459024162873376:=()
def tw13989401218958379136:=()
def tw4543357335744763008:=()
def tw3763064767782465696:=()
def tw1937588757997542592:=()
def tw6090367890817826016:=()
def tw11145361131737779456:=()
def tw11580330514469120320:=()
def tw3979812842892386656:=()
def tw18343924297542965632:=()
def tw7156950394831539616:=()
def tw1031957679374639520:=()
def tw7449875054043605440:=()
def tw12893780005389805120:=()
def tw10274909012663377600:=()
def tw1844370016969825984:=()
def tw4903613260370815680:=()
def tw5165233262021056224:=()
def tw17030034787315318528:=()
def tw8453278198843344704:=()
def tw11425114182643207008:=()
def tw15443810872348336225:=()
def tw2059070008920900737:=()
def tw7148934985206993025:=()
def tw6101320959039674657:=()
def tw9607830111404102977:=()
def tw7450078728642109825:=()
def tw5363099244638618081:=()
def tw15009497898603434561:=()
def tw8230444157320288929:=()
def tw14594129718489937665:=()
def tw6374413764064010017:=()
def tw13131462262126634785:=()
def tw74663948371277633:=()
def tw10099695638841385889:=()
def tw10768446424828314561:=()
def tw5885766200903748545:=()
def tw14224772883799350241:=()
def tw16886350617538965506:=()
def tw3163217807179857922:=()
def tw3755915419497628706:=()
def tw13681770660591258658:=()
def tw4155370403949194338:=()
def tw5017884899072020610:=()
def tw14664442570611243266:=()
def tw8083475292667102626:=()
def tw17609847453510679042:=()
def tw7891871970215977698:=()
def tw5920597244747024162:=()
def tw9449106256036401986:=()
def tw8281039398285180770:=()
def tw1857879809359058850:=()
def tw8419007868389760003:=()
def tw4061441218518354979:=()
def tw14139053673683135555:=()
def tw8464935863556324451:=()
def tw8835452333821780259:=()
def tw11833997865787860387:=()
def tw5432874834905171395:=()
def tw15308806405571087811:=()
def tw3750028083350574531:=()
def tw12723709163734258179:=()
def tw3794317355570679459:=()
def tw11830476356166562531:=()
def tw10301200563340957411:=()
def tw9274933556345298723:=()
def tw9770887571987260259:=()
def tw11640217937080530819:=()
def tw11865053331515865987:=()
def tw7009740581462092868:=()
def tw890660297901460548:=()
def tw18188969029471768740:=()
def tw1944263907650676004:=()
def tw15651031862379361636:=()
def tw1432058875082836356:=()
def tw16460977569284743556:=()
def tw3278562246784279044:=()
def tw4586710439035791876:=()
def tw12278179424242486916:=()
def tw13711312134945991332:=()
def tw68637367299847876:=()
def tw9037024423309567684:=()
def tw2473860055375291140:=()
def tw10416862441068760165:=()
def tw2964491474191921285:=()
def tw12170436461423303845:=()
def tw1711716937562295493:=()
def tw9749006905721904325:=()
def tw7144444703867144485:=()
def tw9306920259015581061:=()
def tw3542173008339136933:=()
def tw5029665332173436357:=()
def tw10940319405948478949:=()
def tw7072719223745375717:=()
def tw7957985699441254085:=()
def tw7983007090494275301:=()
def tw588394099400301445:=()
def tw13050159067113572293:=()
def tw17061141170447380518:=()
def tw1896567366858444966:=()
def tw9589087209790865702:=()
def tw5218377233734759750:=()
def tw14816297726982580582:=()
def tw2223482398833415558:=()
def tw6862730295532410278:=()
def tw1589775094827678118:=()
def tw4945455619775401414:=()
def tw10755459767760302534:=()
def tw6476914457254133222:=()
def tw17030731380369037830:=()
def tw9890745274697342470:=()
def tw793386678933960262:=()
def tw13520642288541536966:=()
def tw11047492762340823750:=()
def tw17355523458351426278:=()
def tw4010461026702366566:=()
def tw5755440277297719174:=()
def tw13954613356136847302:=()
def tw2486203689027660871:=()
def tw14218720794276908135:=()
def tw13727373838625742983:=()
def tw9843540083314274471:=()
def tw12244908846169985351:=()
def tw15630647406278756711:=()
def tw14331986546932970855:=()
def tw8631119922075221703:=()
def tw16243691220564914023:=()
def tw17523357860535001959:=()
def tw8624196930197389159:=()
def tw8623702553552382919:=()
def tw18396002191304646664:=()
def tw12824225608724752424:=()
def tw16217775412105195560:=()
def tw558746005296412744:=()
def tw1132752003266019432:=()
def tw2810259913452938344:=()
def tw7148842861097315432:=()
def tw13166208584252299432:=()
def tw8495702330051731656:=()
def tw17745157685613742280:=()
def tw13997651772945361224:=()
def tw5419097350403292488:=()
def tw2497158778231768424:=()
def tw2625461754278809032:=()
def tw12419193261846059464:=()
def tw10958325981212500424:=()
def tw15858704347928230504:=()
def tw13435102599857380008:=()
def tw17636100177212503752:=()
def tw15472620754435922696:=()
def tw2791057311062819624:=()
def tw16885267941978153768:=()
def tw12077907180048599944:=()
def tw14645263427044794248:=()
def tw4936086006854156168:=()
def tw796050816773925864:=()
def tw12874141840109704233:=()
def tw4573085165934192841:=()
def tw11337939571669174537:=()
def tw11425248627073359113:=()
def tw12492198019759442377:=()
def tw1974420287372357129:=()
def tw6275630068390996585:=()
def tw1053313995919358601:=()
def tw4325926841318596265:=()
def tw4007469846208657097:=()
def tw11338288334836614889:=()
def tw5457915222827854633:=()
def tw4036461531281375081:=()
def tw15063816746116984713:=()
def tw10511018123266534345:=()
def tw4100007938799771754:=()
def tw9910475135884381290:=()
def tw11912099469482512586:=()
def tw16982734899456252298:=()
def tw76059420408778186:=()
def tw2618685949271333354:=()
def tw4478654787941486154:=()
def tw14085569025281659562:=()
def tw104235418117889834:=()
def tw9733568294967660362:=()
def tw9304971058105865034:=()
def tw6948523838610923338:=()
def tw4232153050971412330:=()
def tw14344803227425698762:=()
def tw3280069390304979946:=()
def tw11854672462478225419:=()
def tw14756705942111597675:=()
def tw7579007895083926635:=()
def tw9485320362202397867:=()
def tw3105332416013755723:=()
def tw4039190097506466283:=()
def tw10889120481242820107:=()
def tw2097295425164946955:=()
def tw11392721782429675115:=()
def tw8624416791417946795:=()
def tw17879386449209134923:=()
def tw14479423038600503115:=()
def tw4090976627024491339:=()
def tw16425426045135424363:=()
def tw11691979381953291147:=()
def tw1632981890173992875:=()
def tw12662572187164664811:=()
def tw7974699964164385900:=()
def tw440782769964673260:=()
def tw16471387159689902444:=()
def tw2685113377615147372:=()
def tw8476693816856260044:=()
def tw8363115841319806668:=()
def tw3164860371053973356:=()
def tw4226848260258358124:=()
def tw5391572554334823308:=()
def tw12206921882397058988:=()
def tw11041927614218069037:=()
def tw10671786478918687917:=()
def tw7468514028552095949:=()
def tw3042307057773919469:=()
def tw2370766593442583821:=()
def tw16797315380603002157:=()
def tw13379470960043698477:=()
def tw15207807936149387565:=()
def tw7229622334968471949:=()
def tw4063573881387404685:=()
def tw7326280575537574285:=()
def tw16461020862680864173:=()
def tw14747563710385062381:=()
def tw14147686684331691533:=()
def tw10359059405588292173:=()
def tw4352668670278431373:=()
def tw15745447435639870349:=()
def tw1612442727989361613:=()
def tw15494438674416117774:=()
def tw13904406376262274190:=()
def tw2918202248286901454:=()
def tw15233841040833794350:=()
def tw1892371037509165422:=()
def tw17174843663265229166:=()
def tw2022711126442162606:=()
def tw6555143838719401422:=()
def tw11371701834551046638:=()
def tw4367557229581232622:=()
def tw664244091082734062:=()
def tw4162726254090068622:=()
def tw7736739695222416078:=()
def tw98068145813812014:=()
def tw10507443364458133294:=()
def tw9085145740428716910:=()
def tw1312446085913801646:=()
def tw8189578056743136238:=()
def tw17900084902259600399:=()
def tw3505861326113034351:=()
def tw3098963735914918031:=()
def tw13937647197628463343:=()
def tw15078775193499501839:=()
def tw12644464911596689743:=()
def tw4144826722658133327:=()
def tw17689317819290036623:=()
def tw8786036253874965903:=()
def tw12804198508965487023:=()
def tw14645385915613015631:=()
def tw6490091699469319951:=()
def tw10542286040425421647:=()
def tw8194776649183911759:=()
def tw3089962467943793519:=()
def tw9491931449441620879:=()
def tw1577010847474450319:=()
def tw9072106039034801168:=()
def tw18400874811627184240:=()
def tw3217158089760969968:=()
def tw10568925039722997136:=()
def tw1174662520086510992:=()
def tw1647475980172131728:=()
def tw6987496393814749648:=()
def tw9518707652791874032:=()
def tw13365648022291509744:=()
def tw9910060874654091792:=()
def tw6497083409103311440:=()
def tw14517492410455308912:=()
def tw14406561785035852464:=()
def tw12393423190094860080:=()
def tw5090833687433808752:=()
def tw1847674096497333104:=()
def tw14617196519517778832:=()
def tw17133233376583831472:=()
def tw8524310512081336240:=()
def tw4755322035185626064:=()
def tw466132905212005360:=()
def tw2332265283783468081:=()
def tw11212509683747803217:=()
def tw5775053703004775537:=()
def tw1586814386432065681:=()
def tw4079848406252760273:=()
def tw18236455360591461585:=()
def tw4522465980720557361:=()
def tw10365631065426583857:=()
def tw12345417779103459665:=()
def tw15181789389910223249:=()
def tw4682253471321590193:=()
def tw13005954146370661841:=()
def tw2729418844554048977:=()
def tw7843091463279191601:=()
def tw886830210233997937:=()
def tw3706857856364341905:=()
def tw5220255134087640721:=()
def tw14465915897235975889:=()
def tw15883186764753521585:=()
def tw6230876638106146769:=()
def tw725167644113893329:=()
def tw5864814469504020465:=()
def tw18072588307805510706:=()
def tw6994615742954226898:=()
def tw13373161644567389554:=()
def tw10938539020755662226:=()
def tw10067157658862946898:=()
def tw8434822123244954194:=()
def tw18024478144130456210:=()
def tw4062197796661472914:=()
def tw303780793035643634:=()
def tw15642950988206242610:=()
def tw11266317964694191954:=()
def tw8846255094883945394:=()
def tw14712850086400744402:=()
def tw13515416901310548978:=()
def tw6482193909863024755:=()
def tw16127422392203786355:=()
def tw15684019346836118803:=()
def tw11617310392261798163:=()
def tw18122738669389878579:=()
def tw16115928692095375923:=()
def tw17628367871454634643:=()
def tw9833806813208670003:=()
def tw1046776669731703635:=()
def tw1482537961589120947:=()
def tw14297555905818320851:=()
def tw6866134895078950899:=()
def tw14325237694715702356:=()
def tw16348357270970813556:=()
def tw1329825861112079508:=()
def tw4929179680990501076:=()
def tw17097221767594397236:=()
def tw15750936597440050772:=()
def tw638297923029529172:=()
def tw5595023905871058548:=()
def tw8126179348126028532:=()
def tw14087077044363196276:=()
def tw11434117604106772404:=()
def tw9538464219033761780:=()
def tw3168826794931204117:=()
def tw1984112895102349397:=()
def tw3119835848713025653:=()
def tw14844483314538570869:=()
def tw18117495511060846741:=()
def tw11586190912332078325:=()
def tw12197405437692645653:=()
def tw7359215475661287829:=()
def tw2192592922858377685:=()
def tw9885527301502707221:=()
def tw4155099513290616341:=()
def tw3842907970548989525:=()
def tw2139001761264422549:=()
def tw16844131366654406389:=()
def tw13196734951148413845:=()
def tw11845590207754610613:=()
def tw12003895659915944917:=()
def tw15498735793009607702:=()
def tw6002720326304715830:=()
def tw14583006319761018966:=()
def tw8323788935242343510:=()
def tw10379301036583039158:=()
def tw13729187797224944822:=()
def tw4126711968591976790:=()
def tw13353623244268563862:=()
def tw1188462880945110454:=()
def tw9822631622851560918:=()
def tw2253672120007611862:=()
def tw491917063019019766:=()
def tw15562923744641834518:=()
def tw17774530577512671830:=()
def tw17755900715435532950:=()
def tw1460922303519112854:=()
def tw2200864910392805142:=()
def tw6311198349885532982:=()
def tw12429786022357692246:=()
def tw7916025181599738774:=()
def tw7690263982000922518:=()
def tw18266746422620228566:=()
def tw13748577461770261591:=()
def tw16154182991341170775:=()
def tw6872063562458217751:=()
def tw7954014960889456919:=()
def tw5002000030608850199:=()
def tw3744700516938124599:=()
def tw14035094420071547223:=()
def tw3937786518955883927:=()
def tw18254063102935869911:=()
def tw17324846447732041207:=()
def tw9319984705923165719:=()
def tw16846627375198012055:=()
def tw340606899720885943:=()
def tw12934517471257370359:=()
def tw13813892191204711287:=()
def tw2310013915579584439:=()
def tw14832493129652476855:=()
def tw13589487388921946039:=()
def tw14966273054233675735:=()
def tw3462595488291191767:=()
def tw1175351250900008984:=()
def tw18393713428286595192:=()
def tw3012462994635878520:=()
def tw3200375104385201336:=()
def tw11882495857799807192:=()
def tw2319425830691086616:=()
def tw10766494856093624600:=()
def tw1260851757661849912:=()
def tw4220084461746356600:=()
def tw14122354408543093112:=()
def tw14116290809655240120:=()
def tw2281645744949877208:=()
def tw7782281806036060728:=()
def tw2169383868564578008:=()
def tw1411290552253026264:=()
def tw3511694617336004568:=()
def tw4534350275389467673:=()
def tw13157757656163652761:=()
def tw16608098765697861785:=()
def tw4811485881436149945:=()
def tw15928843872150331577:=()
def tw14798257242446306521:=()
def tw14195861143303166233:=()
def tw16810676349521182009:=()
def tw2648503310515553593:=()
def tw13284575536446135865:=()
def tw12502115837268226649:=()
def tw2366771041768892121:=()
def tw3841277518016346905:=()
def tw2708833814291623737:=()
def tw10336640447109019449:=()
def tw4528429290172839801:=()
def tw13464014425104947129:=()
def tw8308912113245058009:=()
def tw3439567745537036346:=()
def tw1450122753739707482:=()
def tw3774508814048831674:=()
def tw778255679271584954:=()
def tw7645405417117229306:=()
def tw8379108762608192826:=()
def tw13662782185602816346:=()
def tw4525992607811976570:=()
def tw12048911583005658490:=()
def tw815151707465999834:=()
def tw10240357735205696986:=()
def tw1649326413888131642:=()
def tw13666684493385676378:=()
def tw7210567731604423290:=()
def tw15440303728742991482:=()
def tw14524986872889366138:=()
def tw5374830236731897498:=()
def tw8141332160352876218:=()
def tw10872352773072155354:=()
def tw2451913211297765146:=()
def tw10197663757198585754:=()
def tw7750354549917964218:=()
def tw773304510420239354:=()
def tw1993860560073276443:=()
def tw17869942935493975131:=()
def tw8858116691924049019:=()
def tw1540761926435623131:=()
def tw18241824539721584923:=()
def tw2725870326581326171:=()
def tw10838779689171019163:=()
def tw16690752584973055483:=()
def tw3894448669117795867:=()
def tw15063964515158196827:=()
def tw12665394836699327099:=()
def tw3098147654240066235:=()
def tw11843757711878123227:=()
def tw1359769726700932859:=()
def tw17563380569588356859:=()
def tw11487866178655612795:=()
def tw14626913935583864731:=()
def tw11789503555512922011:=()
def tw15688247228519531451:=()
def tw8894553544174352379:=()
def tw6040837443394748444:=()
def tw5616628329872801852:=()
def tw5094233783756918876:=()
def tw8062602049690841180:=()
def tw10239629368724356220:=()
def tw7277628095361987772:=()
def tw1894349059127157980:=()
def tw3306597359199590812:=()
def tw12258269884315889052:=()
def tw14522752057006698076:=()
def tw6380909778941145692:=()
def tw18064529117680106076:=()
def tw6132727442864311932:=()
def tw9758594922861867644:=()
def tw14538685768688458428:=()
def tw14340997948366530332:=()
def tw14541979913516516156:=()
def tw5463811282917731132:=()
def tw4288888718723746652:=()
def tw1131936765491155868:=()
def tw17956224108379953052:=()
def tw2490890500789930972:=()
def tw2918804995271233500:=()
def tw7674836438987480028:=()
def tw3160122418672735293:=()
def tw4487500502896002109:=()
def tw12290435555538479229:=()
def tw5864434426585707677:=()
def tw7542596787205924029:=()
def tw17124305161995863261:=()
def tw1698996889396696349:=()
def tw14557500333765429597:=()
def tw14462824749356214621:=()
def tw18224084925095736669:=()
def tw1629932311045580157:=()
def tw16455056675564482973:=()
def tw18048046326338755005:=()
def tw8285750339144727005:=()
def tw3917619104225017341:=()
def tw2062032596816129533:=()
def tw11496577341053358717:=()
def tw5153202991106814653:=()
def tw11254945135472552669:=()
def tw14710433284802269:=()
def tw17583373998401766237:=()
def tw8414861320964003677:=()
def tw68523917658410973:=()
def tw11652563187888100349:=()
def tw894609685281855485:=()
def tw15877243629957314622:=()
def tw11264004120108430462:=()
def tw9480985089478716574:=()
def tw309492647624563902:=()
def tw9039671421636205790:=()
def tw2346339830717291902:=()
def tw1563881845005759006:=()
def tw2560073534162569822:=()
def tw17400771678382279294:=()
def tw9347195769723488926:=()
def tw2767642804699358910:=()
def tw8759758849535226718:=()
def tw13502058043044913086:=()
def tw4196626138541659102:=()
def tw49721690618537950:=()
def tw3103347526331971647:=()
def tw18137715408302642303:=()
def tw15654132365470475455:=()
def tw16918139668057049343:=()
def tw13181787721490038015:=()
def tw11004091521110442527:=()
def tw4635120314319742495:=()
def tw8215686023134954015:=()
def tw4199058660335682175:=()
def tw12769660984311136895:=()
def tw49001696787101311:=()
def tw13836647651325856511:=()
def tw5281405454208150303:=()
def tw10765222448683262847:=()
def tw10341904971170490239:=()
def tw1186917871935201183:=()
def tw5135373606591324127:=()
def tw7044432122543951654:=()
def tw6674113857241535448:=()
end PySem.W.Fast
open_top hdT for PySem.Challenge.rw_foreknown_k32_ifs_and_fails
theorem PySem.Challenge.cw_foreknown_k32_ifs_and_fails_holds : PySem.Challenge.rw_foreknown_k32_ifs_and_fails.Holds :=
  hdT (by
  k_fill
  refine Mi.walkM (l := PySem.Challenge.rw_foreknown_k32_ifs_and_fails) (k := 7) (x := "_law_script") rfl rfl ⟨rfl, by decide, by decide⟩ (fun w h Y => PySem.W.kIn_of Y) ?F
  case F =>
    intro w mg fa h KX G hmg
    have f__law_cell_at : Mi.FnF (L2.KOf KX) mg "_law_cell_at" FK32.zbj ["_law_script", "_law_k"] := by
      dsimp only [L2.KOf]
      refine' Mi.zan KX G ?a ?l ?c ?k ?b
      case a | l | c | k => k_is
      (case b => exact fun _ _ _ _ _ _ us hl => match us, hl with | [_, _], _ => rfl)
    have f__law_value : Mi.FnF (L2.KOf KX) mg "_law_value" FK32.zbR ["_law_cell"] := by
      dsimp only [L2.KOf]
      refine' Mi.zan KX G ?a ?l ?c ?k ?b
      case a | l | c | k => k_is
      (case b => exact fun _ _ _ _ _ _ us hl => match us, hl with | [_], _ => rfl)
    have f__law_word : Mi.FnF (L2.KOf KX) mg "_law_word" FK32.zcr ["_law_cell"] := by
      dsimp only [L2.KOf]
      refine' Mi.zan KX G ?a ?l ?c ?k ?b
      case a | l | c | k => k_is
      (case b => exact fun _ _ _ _ _ _ us hl => match us, hl with | [_], _ => rfl)
    have f__law_close : Mi.FnF (L2.KOf KX) mg "_law_close" FK32.zbS ["_law_cell"] := by
      dsimp only [L2.KOf]
      refine' Mi.zan KX G ?a ?l ?c ?k ?b
      case a | l | c | k => k_is
      (case b => exact fun _ _ _ _ _ _ us hl => match us, hl with | [_], _ => rfl)
    have f__law_test : Mi.FnF (L2.KOf KX) mg "_law_test" FK32.zcs ["_law_cell", "_law_params"] := by
      dsimp only [L2.KOf]
      refine' Mi.zan KX G ?a ?l ?c ?k ?b
      case a | l | c | k => k_is
      (case b => exact fun _ _ _ _ _ _ us hl => match us, hl with | [_, _], _ => rfl)
    have f__law_block : Mi.FnF (L2.KOf KX) mg "_law_block" FK32.zbT ["_law_cells", "_law_params", "_law_deep"] := by
      dsimp only [L2.KOf]
      refine' Mi.zan KX G ?a ?l ?c ?k ?b
      case a | l | c | k => k_is
      (case b => exact fun _ _ _ _ _ _ us hl => match us, hl with | [_, _, _], _ => rfl)
    have f__law_due : Mi.FnF (L2.KOf KX) mg "_law_due" FK32.zc3 ["_law_block_here", "_law_things"] := by
      dsimp only [L2.KOf]
      refine' Mi.zan KX G ?a ?l ?c ?k ?b
      case a | l | c | k => k_is
      (case b => exact fun _ _ _ _ _ _ us hl => match us, hl with | [_, _], _ => rfl)
    have f_functions_by_name : Mi.FnF (L2.KOf KX) mg "functions_by_name" FK32.zaj ["program"] := by
      dsimp only [L2.KOf]
      refine' Mi.zan KX G ?a ?l ?c ?k ?b
      case a | l | c | k => k_is
      (case b => exact fun _ _ _ _ _ _ us hl => match us, hl with | [_], _ => rfl)
    have n_Frame : Mi.NwF (L2.KOf KX) mg "Frame" "Frame.__init__" FK32.zaI ["self", "function", "values"] := by
      dsimp only [L2.KOf]
      refine' Mi.zhz KX G ?aC ?mk ?kc ?a ?i ?l ?c ?k ?b
      case aC | mk | kc | a | i | l | c | k => k_is
      (case b => exact fun _ _ _ _ _ _ us hl => match us, hl with | [_, _, _], _ => rfl)
    have n_Runner : Mi.NwF (L2.KOf KX) mg "Runner" "Runner.__init__" FK32.zax ["self", "program", "inputs"] := by
      dsimp only [L2.KOf]
      refine' Mi.zhz KX G ?aC ?mk ?kc ?a ?i ?l ?c ?k ?b
      case aC | mk | kc | a | i | l | c | k => k_is
      (case b => exact fun _ _ _ _ _ _ us hl => match us, hl with | [_, _, _], _ => rfl)
    have m_Frame_line_here : Mi.MtF (L2.KOf KX) mg "Frame" "line_here" "Frame.line_here" FK32.zay ["self"] := by
      dsimp only [L2.KOf]
      refine' Mi.zcf KX G ?aC ?pg ?hd ?po ?sa ?a ?i ?l ?c ?k ?b
      case aC | pg | hd | po | sa | a | i | l | c | k => k_is
      (case b => exact fun _ _ _ _ _ _ us hl => match us, hl with | [_], _ => rfl)
    have m_Frame_end_step : Mi.MtF (L2.KOf KX) mg "Frame" "end_step" "Frame.end_step" FK32.zaJ ["self", "value"] := by
      dsimp only [L2.KOf]
      refine' Mi.zcf KX G ?aC ?pg ?hd ?po ?sa ?a ?i ?l ?c ?k ?b
      case aC | pg | hd | po | sa | a | i | l | c | k => k_is
      (case b => exact fun _ _ _ _ _ _ us hl => match us, hl with | [_, _], _ => rfl)
    have f_kind_of : Mi.FnF (L2.KOf KX) mg "kind_of" FK32.zdJ ["value"] := by
      dsimp only [L2.KOf]
      refine' Mi.zan KX G ?a ?l ?c ?k ?b
      case a | l | c | k => k_is
      (case b => exact fun _ _ _ _ _ _ us hl => match us, hl with | [_], _ => rfl)
    have f_check_kinds : Mi.FnF (L2.KOf KX) mg "check_kinds" FK32.zbx ["kinds", "values"] := by
      dsimp only [L2.KOf]
      refine' Mi.zan KX G ?a ?l ?c ?k ?b
      case a | l | c | k => k_is
      (case b => exact fun _ _ _ _ _ _ us hl => match us, hl with | [_, _], _ => rfl)
    have f_number_of : Mi.FnF (L2.KOf KX) mg "number_of" FK32.zct ["truth"] := by
      dsimp only [L2.KOf]
      refine' Mi.zan KX G ?a ?l ?c ?k ?b
      case a | l | c | k => k_is
      (case b => exact fun _ _ _ _ _ _ us hl => match us, hl with | [_], _ => rfl)
    have f_tell_same : Mi.FnF (L2.KOf KX) mg "tell_same" FK32.zcu ["values"] := by
      dsimp only [L2.KOf]
      refine' Mi.zan KX G ?a ?l ?c ?k ?b
      case a | l | c | k => k_is
      (case b => exact fun _ _ _ _ _ _ us hl => match us, hl with | [_], _ => rfl)
    have f_things_within : Mi.FnF (L2.KOf KX) mg "things_within" FK32.zaY ["thing"] := by
      dsimp only [L2.KOf]
      refine' Mi.zan KX G ?a ?l ?c ?k ?b
      case a | l | c | k => k_is
      (case b => exact fun _ _ _ _ _ _ us hl => match us, hl with | [_], _ => rfl)
    have f_all_within : Mi.FnF (L2.KOf KX) mg "all_within" FK32.zbU ["thing"] := by
      dsimp only [L2.KOf]
      refine' Mi.zan KX G ?a ?l ?c ?k ?b
      case a | l | c | k => k_is
      (case b => exact fun _ _ _ _ _ _ us hl => match us, hl with | [_], _ => rfl)
    have f_parts : Mi.FnF (L2.KOf KX) mg "parts" FK32.zfF ["value"] := by
      dsimp only [L2.KOf]
      refine' Mi.zan KX G ?a ?l ?c ?k ?b
      case a | l | c | k => k_is
      (case b => exact fun _ _ _ _ _ _ us hl => match us, hl with | [_], _ => rfl)
    have m_Op_answer : Mi.MtF (L2.KOf KX) mg "Op" "answer" "Op.answer" FK32.zcv ["self", "values"] := by
      dsimp only [L2.KOf]
      refine' Mi.zcf KX G ?aC ?pg ?hd ?po ?sa ?a ?i ?l ?c ?k ?b
      case aC | pg | hd | po | sa | a | i | l | c | k => k_is
      (case b => exact fun _ _ _ _ _ _ us hl => match us, hl with | [_, _], _ => rfl)
    have n_Op : Mi.NwF (L2.KOf KX) mg "Op" "Op.__init__" FK32.zby ["self", "word"] := by
      dsimp only [L2.KOf]
      refine' Mi.zhz KX G ?aC ?mk ?kc ?a ?i ?l ?c ?k ?b
      case aC | mk | kc | a | i | l | c | k => k_is
      (case b => exact fun _ _ _ _ _ _ us hl => match us, hl with | [_, _], _ => rfl)
    have f_op_of : Mi.FnF (L2.KOf KX) mg "op_of" FK32.zfG ["word"] := by
      dsimp only [L2.KOf]
      refine' Mi.zan KX G ?a ?l ?c ?k ?b
      case a | l | c | k => k_is
      (case b => exact fun _ _ _ _ _ _ us hl => match us, hl with | [_], _ => rfl)
    have m_Frame_value_of : Mi.MtF (L2.KOf KX) mg "Frame" "value_of" "Frame.value_of" FK32.zaK ["self", "atom"] := by
      dsimp only [L2.KOf]
      refine' Mi.zcf KX G ?aC ?pg ?hd ?po ?sa ?a ?i ?l ?c ?k ?b
      case aC | pg | hd | po | sa | a | i | l | c | k => k_is
      (case b => exact fun _ _ _ _ _ _ us hl => match us, hl with | [_, _], _ => rfl)
    have m_Frame_values_by : Mi.MtF (L2.KOf KX) mg "Frame" "values_by" "Frame.values_by" FK32.z0 ["self", "atoms"] := by
      dsimp only [L2.KOf]
      refine' Mi.zcf KX G ?aC ?pg ?hd ?po ?sa ?a ?i ?l ?c ?k ?b
      case aC | pg | hd | po | sa | a | i | l | c | k => k_is
      (case b => exact fun _ _ _ _ _ _ us hl => match us, hl with | [_, _], _ => rfl)
    have m_Runner_begin : Mi.MtF (L2.KOf KX) mg "Runner" "begin" "Runner.begin" FK32.zbk ["self", "name", "values"] := by
      dsimp only [L2.KOf]
      refine' Mi.zcf KX G ?aC ?pg ?hd ?po ?sa ?a ?i ?l ?c ?k ?b
      case aC | pg | hd | po | sa | a | i | l | c | k => k_is
      (case b => exact fun _ _ _ _ _ _ us hl => match us, hl with | [_, _, _], _ => rfl)
    have m_Runner_at_rest : Mi.MtF (L2.KOf KX) mg "Runner" "at_rest" "Runner.at_rest" FK32.zaL ["self"] := by
      dsimp only [L2.KOf]
      refine' Mi.zcf KX G ?aC ?pg ?hd ?po ?sa ?a ?i ?l ?c ?k ?b
      case aC | pg | hd | po | sa | a | i | l | c | k => k_is
      (case b => exact fun _ _ _ _ _ _ us hl => match us, hl with | [_], _ => rfl)
    have m_Runner_give_back : Mi.MtF (L2.KOf KX) mg "Runner" "give_back" "Runner.give_back" FK32.zao ["self", "value"] := by
      dsimp only [L2.KOf]
      refine' Mi.zcf KX G ?aC ?pg ?hd ?po ?sa ?a ?i ?l ?c ?k ?b
      case aC | pg | hd | po | sa | a | i | l | c | k => k_is
      (case b => exact fun _ _ _ _ _ _ us hl => match us, hl with | [_, _], _ => rfl)
    have m_Frame_enter : Mi.MtF (L2.KOf KX) mg "Frame" "enter" "Frame.enter" FK32.zbz ["self", "block"] := by
      dsimp only [L2.KOf]
      refine' Mi.zcf KX G ?aC ?pg ?hd ?po ?sa ?a ?i ?l ?c ?k ?b
      case aC | pg | hd | po | sa | a | i | l | c | k => k_is
      (case b => exact fun _ _ _ _ _ _ us hl => match us, hl with | [_, _], _ => rfl)
    have f_chooses_first : Mi.FnF (L2.KOf KX) mg "chooses_first" FK32.zaZ ["value"] := by
      dsimp only [L2.KOf]
      refine' Mi.zan KX G ?a ?l ?c ?k ?b
      case a | l | c | k => k_is
      (case b => exact fun _ _ _ _ _ _ us hl => match us, hl with | [_], _ => rfl)
    have m_Runner_go_line : Mi.MtF (L2.KOf KX) mg "Runner" "go_line" "Runner.go_line" FK32.zaM ["self"] := by
      dsimp only [L2.KOf]
      refine' Mi.zcf KX G ?aC ?pg ?hd ?po ?sa ?a ?i ?l ?c ?k ?b
      case aC | pg | hd | po | sa | a | i | l | c | k => k_is
      (case b => exact fun _ _ _ _ _ _ us hl => match us, hl with | [_], _ => rfl)
    have f_run : Mi.FnF (L2.KOf KX) mg "run" FK32.zk2 ["program", "inputs", "budget"] := by
      dsimp only [L2.KOf]
      refine' Mi.zan KX G ?a ?l ?c ?k ?b
      case a | l | c | k => k_is
      (case b => exact fun _ _ _ _ _ _ us hl => match us, hl with | [_, _, _], _ => rfl)
    have f_law : Mi.FnF (L2.KOf KX) mg "law" FK32.zfH ["_law_script"] := by
      dsimp only [L2.KOf]
      refine' Mi.zan KX G ?a ?l ?c ?k ?b
      case a | l | c | k => k_is
      (case b => exact fun _ _ _ _ _ _ us hl => match us, hl with | [_], _ => rfl)
    have x_Fault : Mi.XnF (L2.KOf KX) mg "Fault" "word" "Fault.__init__" FK32.s_x_Fault := by
      dsimp only [L2.KOf]
      refine' Mi.zjH KX G ?aC ?hC ?hB ?hN ?he ?hi ?fn ?kp ?sa ?hcl ?hl ?no ?hd ?l ?c ?k ?b
      case aC | hC => k_is
      (case hB => k_exc)
      (case hN => k_is)
      (case he => first | rfl | with_unfolding_all rfl | simp)
      (case hi => k_is)
      (case fn => k_is)
      (case kp => k_is)
      (case sa => k_is)
      (case hcl => k_is)
      (case hl => rfl)
      (case no => k_is)
      (case hd => k_is)
      (case l => k_is)
      (case c => k_is)
      (case k => k_is)
      (case b => exact fun _ _ _ _ _ _ us hl => match us, hl with | [_, _], _ => rfl)
    have x_NoOp : Mi.XnF (L2.KOf KX) mg "NoOp" "word" "NoOp.__init__" FK32.s_x_NoOp := by
      dsimp only [L2.KOf]
      refine' Mi.zjH KX G ?aC ?hC ?hB ?hN ?he ?hi ?fn ?kp ?sa ?hcl ?hl ?no ?hd ?l ?c ?k ?b
      case aC | hC => k_is
      (case hB => k_exc)
      (case hN => k_is)
      (case he => first | rfl | with_unfolding_all rfl | simp)
      (case hi => k_is)
      (case fn => k_is)
      (case kp => k_is)
      (case sa => k_is)
      (case hcl => k_is)
      (case hl => rfl)
      (case no => k_is)
      (case hd => k_is)
      (case l => k_is)
      (case c => k_is)
      (case k => k_is)
      (case b => exact fun _ _ _ _ _ _ us hl => match us, hl with | [_, _], _ => rfl)
    have b_bool : mg "bool" = none := by
      refine' Mi.zhA KX G ?a
      (case a => k_is)
    have b_dict : mg "dict" = none := by
      refine' Mi.zhA KX G ?a
      (case a => k_is)
    have b_enumerate : mg "enumerate" = none := by
      refine' Mi.zhA KX G ?a
      (case a => k_is)
    have b_int : mg "int" = none := by
      refine' Mi.zhA KX G ?a
      (case a => k_is)
    have b_isinstance : mg "isinstance" = none := by
      refine' Mi.zhA KX G ?a
      (case a => k_is)
    have b_len : mg "len" = none := by
      refine' Mi.zhA KX G ?a
      (case a => k_is)
    have b_list : mg "list" = none := by
      refine' Mi.zhA KX G ?a
      (case a => k_is)
    have b_range : mg "range" = none := by
      refine' Mi.zhA KX G ?a
      (case a => k_is)
    have b_str : mg "str" = none := by
      refine' Mi.zhA KX G ?a
      (case a => k_is)
    have b_tuple : mg "tuple" = none := by
      refine' Mi.zhA KX G ?a
      (case a => k_is)
    have b_zip : mg "zip" = none := by
      refine' Mi.zhA KX G ?a
      (case a => k_is)
    have c_MOST_PARTS : ∃ t, mg "MOST_PARTS" = some (.int 60 t) := by
      refine' Mi.znA KX G ?a
      (case a => k_is)
    have d_block : Mi.FldF (L2.KOf KX) mg "block" FK32.insOf FK32.excOf := by
      refine ⟨fun c hc => ?_, fun c hc => ?_⟩
      · simp [FK32.insOf, or_assoc] at hc
        rcases hc with rfl | rfl | rfl
        · dsimp only [L2.KOf]
          refine' Mi.zG KX G ?aC ?pg ?hd ?po ?sa ?na
          case aC | pg | hd | po | sa | na => k_is
        · dsimp only [L2.KOf]
          refine' Mi.zG KX G ?aC ?pg ?hd ?po ?sa ?na
          case aC | pg | hd | po | sa | na => k_is
        · dsimp only [L2.KOf]
          refine' Mi.zG KX G ?aC ?pg ?hd ?po ?sa ?na
          case aC | pg | hd | po | sa | na => k_is
      · simp [FK32.excOf, or_assoc] at hc
        rcases hc with rfl | rfl
        · dsimp only [L2.KOf]
          refine' Mi.zab KX G ?aC ?ga ?hk ?hB ?hd ?no
          case aC | ga | hk | hB | hd | no => k_is
        · dsimp only [L2.KOf]
          refine' Mi.zab KX G ?aC ?ga ?hk ?hB ?hd ?no
          case aC | ga | hk | hB | hd | no => k_is
    have d_bound : Mi.FldF (L2.KOf KX) mg "bound" FK32.insOf FK32.excOf := by
      refine ⟨fun c hc => ?_, fun c hc => ?_⟩
      · simp [FK32.insOf, or_assoc] at hc
        rcases hc with rfl | rfl | rfl
        · dsimp only [L2.KOf]
          refine' Mi.zG KX G ?aC ?pg ?hd ?po ?sa ?na
          case aC | pg | hd | po | sa | na => k_is
        · dsimp only [L2.KOf]
          refine' Mi.zG KX G ?aC ?pg ?hd ?po ?sa ?na
          case aC | pg | hd | po | sa | na => k_is
        · dsimp only [L2.KOf]
          refine' Mi.zG KX G ?aC ?pg ?hd ?po ?sa ?na
          case aC | pg | hd | po | sa | na => k_is
      · simp [FK32.excOf, or_assoc] at hc
        rcases hc with rfl | rfl
        · dsimp only [L2.KOf]
          refine' Mi.zab KX G ?aC ?ga ?hk ?hB ?hd ?no
          case aC | ga | hk | hB | hd | no => k_is
        · dsimp only [L2.KOf]
          refine' Mi.zab KX G ?aC ?ga ?hk ?hB ?hd ?no
          case aC | ga | hk | hB | hd | no => k_is
    have d_frames : Mi.FldF (L2.KOf KX) mg "frames" FK32.insOf FK32.excOf := by
      refine ⟨fun c hc => ?_, fun c hc => ?_⟩
      · simp [FK32.insOf, or_assoc] at hc
        rcases hc with rfl | rfl | rfl
        · dsimp only [L2.KOf]
          refine' Mi.zG KX G ?aC ?pg ?hd ?po ?sa ?na
          case aC | pg | hd | po | sa | na => k_is
        · dsimp only [L2.KOf]
          refine' Mi.zG KX G ?aC ?pg ?hd ?po ?sa ?na
          case aC | pg | hd | po | sa | na => k_is
        · dsimp only [L2.KOf]
          refine' Mi.zG KX G ?aC ?pg ?hd ?po ?sa ?na
          case aC | pg | hd | po | sa | na => k_is
      · simp [FK32.excOf, or_assoc] at hc
        rcases hc with rfl | rfl
        · dsimp only [L2.KOf]
          refine' Mi.zab KX G ?aC ?ga ?hk ?hB ?hd ?no
          case aC | ga | hk | hB | hd | no => k_is
        · dsimp only [L2.KOf]
          refine' Mi.zab KX G ?aC ?ga ?hk ?hB ?hd ?no
          case aC | ga | hk | hB | hd | no => k_is
    have d_functions : Mi.FldF (L2.KOf KX) mg "functions" FK32.insOf FK32.excOf := by
      refine ⟨fun c hc => ?_, fun c hc => ?_⟩
      · simp [FK32.insOf, or_assoc] at hc
        rcases hc with rfl | rfl | rfl
        · dsimp only [L2.KOf]
          refine' Mi.zG KX G ?aC ?pg ?hd ?po ?sa ?na
          case aC | pg | hd | po | sa | na => k_is
        · dsimp only [L2.KOf]
          refine' Mi.zG KX G ?aC ?pg ?hd ?po ?sa ?na
          case aC | pg | hd | po | sa | na => k_is
        · dsimp only [L2.KOf]
          refine' Mi.zG KX G ?aC ?pg ?hd ?po ?sa ?na
          case aC | pg | hd | po | sa | na => k_is
      · simp [FK32.excOf, or_assoc] at hc
        rcases hc with rfl | rfl
        · dsimp only [L2.KOf]
          refine' Mi.zab KX G ?aC ?ga ?hk ?hB ?hd ?no
          case aC | ga | hk | hB | hd | no => k_is
        · dsimp only [L2.KOf]
          refine' Mi.zab KX G ?aC ?ga ?hk ?hB ?hd ?no
          case aC | ga | hk | hB | hd | no => k_is
    have d_many : Mi.FldF (L2.KOf KX) mg "many" FK32.insOf FK32.excOf := by
      refine ⟨fun c hc => ?_, fun c hc => ?_⟩
      · simp [FK32.insOf, or_assoc] at hc
        rcases hc with rfl | rfl | rfl
        · dsimp only [L2.KOf]
          refine' Mi.zG KX G ?aC ?pg ?hd ?po ?sa ?na
          case aC | pg | hd | po | sa | na => k_is
        · dsimp only [L2.KOf]
          refine' Mi.zG KX G ?aC ?pg ?hd ?po ?sa ?na
          case aC | pg | hd | po | sa | na => k_is
        · dsimp only [L2.KOf]
          refine' Mi.zG KX G ?aC ?pg ?hd ?po ?sa ?na
          case aC | pg | hd | po | sa | na => k_is
      · simp [FK32.excOf, or_assoc] at hc
        rcases hc with rfl | rfl
        · dsimp only [L2.KOf]
          refine' Mi.zab KX G ?aC ?ga ?hk ?hB ?hd ?no
          case aC | ga | hk | hB | hd | no => k_is
        · dsimp only [L2.KOf]
          refine' Mi.zab KX G ?aC ?ga ?hk ?hB ?hd ?no
          case aC | ga | hk | hB | hd | no => k_is
    have d_place : Mi.FldF (L2.KOf KX) mg "place" FK32.insOf FK32.excOf := by
      refine ⟨fun c hc => ?_, fun c hc => ?_⟩
      · simp [FK32.insOf, or_assoc] at hc
        rcases hc with rfl | rfl | rfl
        · dsimp only [L2.KOf]
          refine' Mi.zG KX G ?aC ?pg ?hd ?po ?sa ?na
          case aC | pg | hd | po | sa | na => k_is
        · dsimp only [L2.KOf]
          refine' Mi.zG KX G ?aC ?pg ?hd ?po ?sa ?na
          case aC | pg | hd | po | sa | na => k_is
        · dsimp only [L2.KOf]
          refine' Mi.zG KX G ?aC ?pg ?hd ?po ?sa ?na
          case aC | pg | hd | po | sa | na => k_is
      · simp [FK32.excOf, or_assoc] at hc
        rcases hc with rfl | rfl
        · dsimp only [L2.KOf]
          refine' Mi.zab KX G ?aC ?ga ?hk ?hB ?hd ?no
          case aC | ga | hk | hB | hd | no => k_is
        · dsimp only [L2.KOf]
          refine' Mi.zab KX G ?aC ?ga ?hk ?hB ?hd ?no
          case aC | ga | hk | hB | hd | no => k_is
    have d_told : Mi.FldF (L2.KOf KX) mg "told" FK32.insOf FK32.excOf := by
      refine ⟨fun c hc => ?_, fun c hc => ?_⟩
      · simp [FK32.insOf, or_assoc] at hc
        rcases hc with rfl | rfl | rfl
        · dsimp only [L2.KOf]
          refine' Mi.zG KX G ?aC ?pg ?hd ?po ?sa ?na
          case aC | pg | hd | po | sa | na => k_is
        · dsimp only [L2.KOf]
          refine' Mi.zG KX G ?aC ?pg ?hd ?po ?sa ?na
          case aC | pg | hd | po | sa | na => k_is
        · dsimp only [L2.KOf]
          refine' Mi.zG KX G ?aC ?pg ?hd ?po ?sa ?na
          case aC | pg | hd | po | sa | na => k_is
      · simp [FK32.excOf, or_assoc] at hc
        rcases hc with rfl | rfl
        · dsimp only [L2.KOf]
          refine' Mi.zab KX G ?aC ?ga ?hk ?hB ?hd ?no
          case aC | ga | hk | hB | hd | no => k_is
        · dsimp only [L2.KOf]
          refine' Mi.zab KX G ?aC ?ga ?hk ?hB ?hd ?no
          case aC | ga | hk | hB | hd | no => k_is
    have d_word : Mi.FldF (L2.KOf KX) mg "word" FK32.insOf FK32.excOf := by
      refine ⟨fun c hc => ?_, fun c hc => ?_⟩
      · simp [FK32.insOf, or_assoc] at hc
        rcases hc with rfl | rfl | rfl
        · dsimp only [L2.KOf]
          refine' Mi.zG KX G ?aC ?pg ?hd ?po ?sa ?na
          case aC | pg | hd | po | sa | na => k_is
        · dsimp only [L2.KOf]
          refine' Mi.zG KX G ?aC ?pg ?hd ?po ?sa ?na
          case aC | pg | hd | po | sa | na => k_is
        · dsimp only [L2.KOf]
          refine' Mi.zG KX G ?aC ?pg ?hd ?po ?sa ?na
          case aC | pg | hd | po | sa | na => k_is
      · simp [FK32.excOf, or_assoc] at hc
        rcases hc with rfl | rfl
        · dsimp only [L2.KOf]
          refine' Mi.zab KX G ?aC ?ga ?hk ?hB ?hd ?no
          case aC | ga | hk | hB | hd | no => k_is
        · dsimp only [L2.KOf]
          refine' Mi.zab KX G ?aC ?ga ?hk ?hB ?hd ?no
          case aC | ga | hk | hB | hd | no => k_is
    have is : Mi.IsF (L2.KOf KX) mg FK32.isT := by
      exact Mi.zi0 rfl rfl rfl
    have kd_OPS : ∀ X : L2.Cx, X.K = (L2.KOf KX) → X.mg = mg → X.w = w → Mi.KdF X "OPS" FK32.zcH FK32.zcI FK32.full_OPS := by
      dsimp only [L2.KOf]
      refine' Mi.zmq KX G ?aO ?lO ?hk ?no ?hi
      case aO | lO => k_is
      case hk =>
        repeat (refine ⟨⟨_, _, rfl, rfl⟩, ?_⟩)
        exact trivial
      (case no => first | rfl | decide)
      case hi =>
        simp only [FK32.zcH, FK32.zcI, List.zip_cons_cons, List.zip_nil_left]
        refine Mi.all_cons ?_ ?_
        · refine' Mi.zkL KX G ?e ?l1 ?l2 ?a
          case e | l1 | l2 | a => k_is
        exact Mi.zkK
    have T : FK32.Txt w (L2.KOf KX) mg := ⟨f__law_cell_at, f__law_value, f__law_word, f__law_close, f__law_test, f__law_block, f__law_due, f_functions_by_name, n_Frame, n_Runner, m_Frame_line_here, m_Frame_end_step, f_kind_of, f_check_kinds, f_number_of, f_tell_same, f_things_within, f_all_within, f_parts, m_Op_answer, n_Op, f_op_of, m_Frame_value_of, m_Frame_values_by, m_Runner_begin, m_Runner_at_rest, m_Runner_give_back, m_Frame_enter, f_chooses_first, m_Runner_go_line, f_run, f_law, x_Fault, x_NoOp, b_bool, b_dict, b_enumerate, b_int, b_isinstance, b_len, b_list, b_range, b_str, b_tuple, b_zip, c_MOST_PARTS, d_block, d_bound, d_frames, d_functions, d_many, d_place, d_told, d_word, is, kd_OPS⟩
    exact Mi.zmr T.f_law hmg (fun _ _ _ _ _ _ _ => rfl) (fun f fd F base => FK32.zi9 T F) (fun ns _ => FK32.znI ns))
