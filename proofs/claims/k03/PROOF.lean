import PyProof.Rows.All
import Wide.All
import OpenK.AllK
import Wide.FinOn
import Lean
import PyProof.EqAt
import PyProof.EqKinds
import PyProof.TupleCall
import PySem.Challenge.RW_ringhues_k03_rings_and_their_spots
set_option Elab.async false
set_option linter.all false
set_option maxRecDepth 100000
/-! THE HAND LAYER, for ints, bools, texts, own classes, LISTS and tuples (index, slices, in, append, pop ..), calls, loops. Paste it whole ahead of your own text; what your proof does not reach may be deleted. -/
namespace L2
open PySem PySem.Spec PyProof.Rows

/-- a key: an int or a str -/
noncomputable abbrev Key := Sum Int Str
noncomputable def keyIs : Key → Value → Bool
  | .inl k, v => Value.isInt k v
  | .inr x, v => Value.isStrOf x v
noncomputable def keyH (w : World) : Key → Int
  | .inl k => hashInt k
  | .inr x => hashStr w x
theorem keyIs_shape : ∀ {k : Key} {v : Value}, keyIs k v = true → (∃ i t, k = Sum.inl i ∧ v = Value.int i t) ∨ (∃ x t, k = Sum.inr x ∧ v = Value.str x t)
  | .inl i, v, h => by
    obtain ⟨t, e⟩ := Value.isInt_shape (k := i) (v := v) h
    exact .inl ⟨i, t, rfl, e⟩
  | .inr x, v, h => by
    obtain ⟨t, e⟩ := Value.isStrOf_shape (x := x) (v := v) h
    exact .inr ⟨x, t, rfl, e⟩
theorem keyIs_int (i : Int) (t : Tok) : keyIs (.inl i) (.int i t) = true := by simp [keyIs, Value.isInt]
theorem keyIs_str (x : Str) (t : Tok) : keyIs (.inr x) (.str x t) = true := by simp [keyIs, Value.isStrOf]
theorem key_ll (a b : Int) : decide ((Sum.inl a : Key) = Sum.inl b) = (a == b) := by
  by_cases e : a = b
  · subst e; simp
  · have h : ¬ (Sum.inl a : Key) = Sum.inl b := fun q => e (Sum.inl.inj q)
    rw [decide_eq_false h]
    exact (beq_eq_false_iff_ne.mpr e).symm
theorem key_rr (a b : Str) : decide ((Sum.inr a : Key) = Sum.inr b) = decide (a = b) := by
  by_cases e : a = b
  · subst e; simp
  · have h : ¬ (Sum.inr a : Key) = Sum.inr b := fun q => e (Sum.inr.inj q)
    rw [decide_eq_false h, decide_eq_false e]
theorem key_lr (a : Int) (b : Str) : decide ((Sum.inl a : Key) = Sum.inr b) = false := decide_eq_false (fun q => nomatch q)
theorem key_rl (a : Str) (b : Int) : decide ((Sum.inr a : Key) = Sum.inl b) = false := decide_eq_false (fun q => nomatch q)

noncomputable def mixKind (prog : Program) (w : World) : PySem.KeyKind prog w Key where
  is := keyIs
  hash := keyH w
  inj := fun v a b ha hb => by
    rcases keyIs_shape ha with ⟨i, t, rfl, rfl⟩ | ⟨x, t, rfl, rfl⟩
    · rcases keyIs_shape hb with ⟨j, u, rfl, e⟩ | ⟨y, u, rfl, e⟩
      · injection e with e1 _; rw [e1]
      · exact nomatch e
    · rcases keyIs_shape hb with ⟨j, u, rfl, e⟩ | ⟨y, u, rfl, e⟩
      · exact nomatch e
      · injection e with e1 _; rw [e1]
  byValue := fun k v h => by
    rcases keyIs_shape h with ⟨i, t, rfl, rfl⟩ | ⟨x, t, rfl, rfl⟩ <;> rfl
  pyHash := fun hv h => by
    rcases keyIs_shape hv with ⟨i, t, rfl, rfl⟩ | ⟨x, t, rfl, rfl⟩
    · exact wpAny_pyHash_int h
    · exact wpAny_pyHash_str h
  eqBool := fun hu hv h => by
    rcases keyIs_shape hu with ⟨i, t, rfl, rfl⟩ | ⟨x, t, rfl, rfl⟩
    · rcases keyIs_shape hv with ⟨j, u, rfl, rfl⟩ | ⟨y, u, rfl, rfl⟩
      · rw [key_ll] at h; exact wpAny_eqBool_int h
      · rw [key_lr] at h; exact SeqAt.EqAt.int_str i t y u _ _ _ _ h
    · rcases keyIs_shape hv with ⟨j, u, rfl, rfl⟩ | ⟨y, u, rfl, rfl⟩
      · rw [key_rl] at h; exact SeqAt.EqAt.str_int x t j u _ _ _ _ h
      · rw [key_rr] at h; exact wpAny_eqBool_str h
  «strs» := fun k x t v h => by
    rcases keyIs_shape h with ⟨i, u, rfl, e⟩ | ⟨y, u, rfl, e⟩
    · exact nomatch e
    · injection e with e1 _
      subst e1
      cases v <;> rfl

theorem mixKind_int (prog : Program) (w : World) (i : Int) (t : Tok) : (mixKind prog w).is (.inl i) (.int i t) = true := keyIs_int i t
theorem mixKind_str (prog : Program) (w : World) (x : Str) (t : Tok) : (mixKind prog w).is (.inr x) (.str x t) = true := keyIs_str x t
end L2

namespace L2
open PySem PySem.Spec PyProof.Rows

/-- a value, without the heap -/
inductive V where
  | non | bl (b : Bool) | int (i : Int) | str (x : Str) | byt (b : Array UInt8) | flt (b : UInt64) | ref (a : Addr) | ty (n : String)
  deriving DecidableEq

noncomputable def RelV : V → Value → Prop
  | .non, u => u = Value.none
  | .bl b, u => u = Value.bool b
  | .int i, u => ∃ t, u = Value.int i t
  | .str x, u => ∃ t, u = Value.str x t
  | .byt b, u => ∃ t, u = Value.bytes b t
  | .flt b, u => ∃ t, u = Value.float b t
  | .ref a, u => u = Value.ref a
  | .ty n, u => u = Value.type n

noncomputable abbrev Vals : List V → List Value → Prop := Paired RelV
theorem Vals.length {xs : List V} {us : List Value} (r : Vals xs us) : xs.length = us.length := Paired.length r
theorem Vals.get : ∀ {xs : List V} {us : List Value} {i : Nat} {x : V}, Vals xs us → xs[i]? = some x → ∃ u, us[i]? = some u ∧ RelV x u
  | _, _, _, _, .nil, e => by simp at e
  | _, _, 0, _, .cons r _, e => by simp at e; subst e; exact ⟨_, rfl, r⟩
  | _, _, i + 1, x, .cons _ t, e => by
    obtain ⟨u, h1, h2⟩ := Vals.get (i := i) (x := x) t (by simpa using e)
    exact ⟨u, by simpa using h1, h2⟩
theorem Vals.set {x : V} {u : Value} (r : RelV x u) : ∀ {xs : List V} {us : List Value} (i : Nat), Vals xs us → Vals (xs.set i x) (us.set i u)
  | _, _, _, .nil => .nil
  | _, _, 0, .cons _ t => .cons r t
  | _, _, i + 1, .cons q t => .cons q (Vals.set r i t)
theorem Vals.append : ∀ {xs ys : List V} {us ws : List Value}, Vals xs us → Vals ys ws → Vals (xs ++ ys) (us ++ ws)
  | _, _, _, _, .nil, s => s
  | _, _, _, _, .cons r t, s => .cons r (Vals.append t s)
theorem Vals.take : ∀ {xs : List V} {us : List Value} (n : Nat), Vals xs us → Vals (xs.take n) (us.take n)
  | _, _, 0, _ => .nil
  | _, _, _ + 1, .nil => .nil
  | _, _, n + 1, .cons r t => .cons r (Vals.take n t)
theorem Vals.drop : ∀ {xs : List V} {us : List Value} (n : Nat), Vals xs us → Vals (xs.drop n) (us.drop n)
  | _, _, 0, r => r
  | _, _, _ + 1, .nil => .nil
  | _, _, n + 1, .cons _ t => Vals.drop n t
noncomputable def RelO : Option V → Option Value → Prop
  | some v, some u => RelV v u
  | none, none => True
  | _, _ => False
noncomputable def KV {κ : Type} : List (κ × V) → List (κ × Value) → Prop := Paired fun (p : κ × V) (q : κ × Value) => p.1 = q.1 ∧ RelV p.2 q.2

/-- a key of a dict (00_mix): an int or a text -/
noncomputable def kV : Key → V
  | .inl i => .int i
  | .inr x => .str x

/-- what stands at a tracked address -/
inductive HO where
  /-- a list -/
  | lst (xs : List V)
  /-- a tuple (never changes) -/
  | tup (xs : List V)
  /-- a dict whose keys are ints and texts; one whose keys are tuples of ints and texts (the empty one is both) -/
  | dK (kvs : List (Key × V)) | dT (kvs : List (List Key × V))
  /-- a set of ints: its members, its size -/
  | set (S : Int → Bool) (n : Nat)
  /-- an instance of the class at C, its dict at dx, its attributes -/
  | ins (C dx : Addr) (fs : List (Str × V))
  /-- the dict of the instance at x -/
  | own (x : Addr)
  /-- the dict of an exception -/
  | xd (fs : List (Str × V))
  /-- a bound method, f of x -/
  | met (f x : Addr)
  /-- a range object lo, lo + 1, .. below hi -/
  | rng (lo hi : Int)
  /-- a thing that is known to the object (the script; a dict while a loop walks it): read, never written while it is so -/
  | frz (o : Obj) (u : HO)
  /-- a code object's table -/
  | tbl (ps : Array Value)
  /-- any other thing, by what is true of its one object (a def of one's own: SetO a S n := HO.ext fun h => ..) -/
  | ext (φ : Heap → Prop)

noncomputable abbrev Hp := Addr → Option HO
noncomputable def upd (H : Hp) (a : Addr) (o : HO) : Hp := fun b => if b = a then some o else H b
theorem upd_same {H : Hp} {a : Addr} {o : HO} : upd H a o a = some o := by unfold upd; rw [if_pos rfl]
theorem upd_ne {H : Hp} {a b : Addr} {o : HO} (h : b ≠ a) : upd H a o b = H b := by unfold upd; rw [if_neg h]
theorem upd_upd {H : Hp} {a : Addr} {o u : HO} : upd (upd H a o) a u = upd H a u := by
  funext b; unfold upd; split <;> rfl
/-- two objects of different content stand apart -/
theorem ne_of {H : Hp} {a b : Addr} {o u : HO} (h : H a = some o) (h' : H b = some u) (d : o ≠ u) : a ≠ b := by
  intro e; subst e; rw [h] at h'; exact d (Option.some.inj h')
theorem ne_of_none {H : Hp} {a b : Addr} {o : HO} (h : H a = some o) (h' : H b = none) : a ≠ b := by
  intro e; subst e; rw [h] at h'; cases h'

section
variable (P : Program) (w : World)
noncomputable def ObjOk (H : Hp) (h : Heap) (a : Addr) : HO → Prop
  | .lst xs => xs.length ≤ sizeLine ∧ ∃ (its : List Value) (n : Nat), Vals xs its ∧ h.get? a = some { cls := .type "list", data := .seq its.toArray n }
  | .tup xs => xs.length ≤ sizeLine ∧ ∃ its : List Value, Vals xs its ∧ IsTup h a its.toArray
  | .dK kvs => kvs.length ≤ sizeLine ∧ (a == sysModules) = false ∧ ∃ vs, KV kvs vs ∧ h.DictOf (mixKind P w) a vs
  | .dT kvs => kvs.length ≤ sizeLine ∧ (a == sysModules) = false ∧ ∃ xs : List (List Key × Addr × Value),
      Paired (fun (p : List Key × V) (q : List Key × Addr × Value) => p.1 = q.1 ∧ H q.2.1 = some (.tup (p.1.map kV)) ∧ RelV p.2 q.2.2) kvs xs ∧
      ∃ o es ep, h.get? a = some o ∧ o.ExactDict ∧ o.data = .dict es ep ∧ es.toList = xs.map (entryOfKey (tupleKind (mixKind P w))) ∧ (xs.map (·.1)).Nodup
  | .set S n => h.SetOf (intKind P w) a S n
  | .ins C dx fs => H dx = some (.own a) ∧ fs.length ≤ 1000 ∧ dx ≠ a ∧ h.get? a = some (PySem.W.instObj C dx) ∧
      ∃ mA, h.Ns1 dx mA ∧ (∀ f, RelO (fs.lookup f) (mA f)) ∧ PySem.Within mA (fs.map (·.1))
  | .own _ => ∃ o, h.get? a = some o
  | .xd fs => ∃ mA, h.Ns1 a mA ∧ ∀ f, RelO (fs.lookup f) (mA f)
  | .rng lo hi => ∃ t u v, h.get? a = some { cls := .type "range", data := .fields #[.int lo t, .int hi u, .int 1 v] }
  | .frz o u => h.get? a = some o ∧ ObjOk H h a u
  | .tbl ps => h.get? a = some { cls := .none, data := .fields ps }
  | .met f x => h.get? a = some (PySem.W.methodObj (.ref f) (.ref x))
  | .ext φ => φ h ∧ (∃ o, h.get? a = some o) ∧ ∀ h1 h2 : Heap, φ h1 → (∀ o, h1.get? a = some o → h2.get? a = some o) → φ h2
/-- the abstract heap is held -/
noncomputable def HOk (H : Hp) (h : Heap) : Prop := ∀ a o, H a = some o → ObjOk P w H h a o
end

section
variable {P : Program} {w : World} {H H' : Hp} {h h' : Heap} {a : Addr} {o : HO}
theorem ObjOk.lt (x : ObjOk P w H h a o) : a < h.objs.size := by
  cases o with
  | lst xs => obtain ⟨_, _, _, _, e⟩ := x; exact Heap.lt_size e
  | tup xs => obtain ⟨_, _, _, p⟩ := x; exact p.lt
  | dK kvs => obtain ⟨_, _, _, _, o, _, _, e, _⟩ := x; exact Heap.lt_size e
  | dT kvs => obtain ⟨_, _, _, _, o, _, _, e, _⟩ := x; exact Heap.lt_size e
  | set S n => obtain ⟨o, _, _, _, e, _⟩ := x; exact Heap.lt_size e
  | ins C dx fs => obtain ⟨_, _, _, e, _⟩ := x; exact Heap.lt_size e
  | own y => obtain ⟨_, e⟩ := x; exact Heap.lt_size e
  | xd fs => obtain ⟨_, ⟨_, _, _, e, _⟩, _⟩ := x; exact Heap.lt_size e
  | rng lo hi => obtain ⟨_, _, _, e⟩ := x; exact Heap.lt_size e
  | frz ob u => obtain ⟨e, _⟩ := x; exact Heap.lt_size e
  | tbl ps => exact Heap.lt_size (show h.get? a = some _ from x)
  | met f y => exact Heap.lt_size (show h.get? a = some _ from x)
  | ext φ => obtain ⟨_, ⟨_, e⟩, _⟩ := x; exact Heap.lt_size e
theorem Paired.mapP {α β : Type} {F G : α → β → Prop} : ∀ {l₁ : List α} {l₂ : List β}, Paired F l₁ l₂ → (∀ a b, F a b → G a b) → Paired G l₁ l₂
  | _, _, .nil, _ => .nil
  | _, _, .cons r t, f => .cons (f _ _ r) (Paired.mapP t f)
/-- what an object's description leans on: its own object, its own dict, the tuples -/
theorem ObjOk.stay (x : ObjOk P w H h a o) (k : ∀ b u, (b = a ∨ H b = some (.own a)) → h.get? b = some u → h'.get? b = some u)
    (ho : ∀ b, H b = some (.own a) → H' b = some (.own a)) (ht : ∀ b xs, H b = some (.tup xs) → H' b = some (.tup xs)) : ObjOk P w H' h' a o := by
  induction o with
  | lst xs => obtain ⟨z, its, n, r, e⟩ := x; exact ⟨z, its, n, r, k _ _ (.inl rfl) e⟩
  | tup xs => obtain ⟨z, its, r, ob, e, c⟩ := x; exact ⟨z, its, r, ob, k _ _ (.inl rfl) e, c⟩
  | dK kvs => obtain ⟨z, y, vs, r, ob, es, ep, e, c⟩ := x; exact ⟨z, y, vs, r, ob, es, ep, k _ _ (.inl rfl) e, c⟩
  | dT kvs =>
    obtain ⟨z, y, xs, r, ob, es, ep, e, c⟩ := x
    exact ⟨z, y, xs, Paired.mapP r fun p q z => ⟨z.1, ht _ _ z.2.1, z.2.2⟩, ob, es, ep, k _ _ (.inl rfl) e, c⟩
  | set S n => obtain ⟨ob, es, ep, t, e, c⟩ := x; exact ⟨ob, es, ep, t, k _ _ (.inl rfl) e, c⟩
  | ins C dx fs =>
    obtain ⟨d, z, ne, e, mA, ⟨od, es, ep, e2, c⟩, r⟩ := x
    exact ⟨ho _ d, z, ne, k _ _ (.inl rfl) e, mA, ⟨od, es, ep, k _ _ (.inr d) e2, c⟩, r⟩
  | own y => obtain ⟨ob, e⟩ := x; exact ⟨ob, k _ _ (.inl rfl) e⟩
  | xd fs => obtain ⟨mA, ⟨od, es, ep, e, c⟩, r⟩ := x; exact ⟨mA, ⟨od, es, ep, k _ _ (.inl rfl) e, c⟩, r⟩
  | rng lo hi => obtain ⟨t, u, v, e⟩ := x; exact ⟨t, u, v, k _ _ (.inl rfl) e⟩
  | frz ob u ih => obtain ⟨e, q⟩ := x; exact ⟨k _ _ (.inl rfl) e, ih q⟩
  | tbl ps =>
    have e : h.get? a = some { cls := .none, data := .fields ps } := x
    show h'.get? a = some { cls := .none, data := .fields ps }
    exact k a _ (.inl rfl) e
  | met f y =>
    have e : h.get? a = some (PySem.W.methodObj (.ref f) (.ref y)) := x
    show h'.get? a = some (PySem.W.methodObj (.ref f) (.ref y))
    exact k a _ (.inl rfl) e
  | ext φ => obtain ⟨p, ⟨o, e⟩, st⟩ := x; exact ⟨st _ _ p fun o q => k _ _ (.inl rfl) q, ⟨o, k _ _ (.inl rfl) e⟩, st⟩
theorem HOk.lt (x : HOk P w H h) (e : H a = some o) : a < h.objs.size := (x a o e).lt
theorem HOk.fresh (x : HOk P w H h) (e : h.objs.size ≤ a) : H a = none := by
  cases q : H a with
  | none => rfl
  | some u => exact absurd (Nat.lt_of_lt_of_le (x.lt q) e) (Nat.lt_irrefl _)
/-- every object of the heap is kept -/
theorem HOk.kept (x : HOk P w H h) (k : ∀ b u, h.get? b = some u → h'.get? b = some u) : HOk P w H h' := fun a o e =>
  (x a o e).stay (fun b u _ q => k b u q) (fun _ q => q) fun _ _ q => q
/-- a new object is laid and tracked -/
theorem HOk.laid (x : HOk P w H h) (k : ∀ b u, h.get? b = some u → h'.get? b = some u) (hp : h.objs.size ≤ a) (new : ObjOk P w (upd H a o) h' a o) : HOk P w (upd H a o) h' := fun b u e => by
  have hn := x.fresh hp
  by_cases hb : b = a
  · subst hb; rw [upd_same] at e; cases e; exact new
  · rw [upd_ne hb] at e
    exact (x b u e).stay (fun c v _ q => k c v q) (fun c q => by rw [upd_ne (ne_of_none q hn)]; exact q) fun c xs q => by rw [upd_ne (ne_of_none q hn)]; exact q
end

/-- what may be read as u: it is u, or a known u -/
noncomputable def Rd (H : Hp) (a : Addr) (u : HO) : Prop := H a = some u ∨ ∃ o, H a = some (.frz o u)
theorem Rd.ok {P : Program} {w : World} {H : Hp} {h : Heap} {a : Addr} {u : HO} (r : Rd H a u) (x : HOk P w H h) : ObjOk P w H h a u := by
  rcases r with r | ⟨o, r⟩
  · exact x a u r
  · obtain ⟨_, q⟩ := x a _ r
    exact q
/-- what may be written -/
noncomputable def Mut : Option HO → Prop
  | some (.lst _) => True
  | some (.dK _) => True
  | some (.dT _) => True
  | some (.set _ _) => True
  | some (.ins _ _ _) => True
  | some (.ext _) => True
  | _ => False
section
variable {P : Program} {w : World} {H : Hp} {h h' : Heap} {x e : Addr} {o' : HO}
/-- the object at e is changed: x itself, or the dict of the instance x -/
theorem HOk.write (ok : HOk P w H h) (mu : Mut (H x)) (he : e = x ∨ H e = some (.own x)) (k : ∀ b u, b ≠ e → h.get? b = some u → h'.get? b = some u) (heo : ∃ u, h'.get? e = some u)
    (new : ObjOk P w (upd H x o') h' x o') : HOk P w (upd H x o') h' := fun b u q => by
  have nown : ∀ c y, H c = some (.own y) → c ≠ x := fun c y r z => by subst z; rw [r] at mu; exact mu
  have ntup : ∀ c xs, H c = some (.tup xs) → c ≠ x := fun c xs r z => by subst z; rw [r] at mu; exact mu
  by_cases hb : b = x
  · subst hb; rw [upd_same] at q; cases q; exact new
  · rw [upd_ne hb] at q
    by_cases hbe : b = e
    · have q' : H b = some (.own x) := by
        rcases he with z | z
        · exact absurd (hbe.trans z) hb
        · rw [hbe]; exact z
      rw [q] at q'; cases q'
      obtain ⟨v, hv⟩ := heo
      exact ⟨v, by rw [hbe]; exact hv⟩
    · refine (ok b u q).stay (fun c v hc r => k c v ?_ r) (fun c r => by rw [upd_ne (nown c b r)]; exact r) fun c xs r => by rw [upd_ne (ntup c xs r)]; exact r
      rcases hc with rfl | hc
      · exact hbe
      · rintro rfl
        rcases he with z | z
        · exact nown c b hc z
        · rw [hc] at z; cases z; exact hb rfl
end

/-! ### kept unless tracked; of the frames at fs (the callers') the slots may change (an exception that passes writes there); of the records at ex (iterators) nothing is said -/
structure Un (fs ex : List Addr) (H H' : Hp) (h h' : Heap) : Prop where
  keep : ∀ b o, h.get? b = some o → H b = none → b ∉ fs → b ∉ ex → h'.get? b = some o
  slot : ∀ b o, h.get? b = some o → H b = none → b ∈ fs → b ∉ ex → ∃ sl, h'.get? b = some { o with slots := sl }
  free : ∀ b o, h.get? b = some o → H b = none → b ∉ ex → H' b = none
  there : ∀ b o, h.get? b = some o → b ∉ ex → ∃ o', h'.get? b = some o'
  tups : ∀ b xs, H b = some (.tup xs) → H' b = some (.tup xs)
  frzs : ∀ b o u, H b = some (.frz o u) → H' b = some (.frz o u)
  tbls : ∀ b ps, H b = some (.tbl ps) → ∃ more, H' b = some (.tbl (ps ++ more))
section
variable {fs fs' ex ex' : List Addr} {H H1 H2 : Hp} {h h1 h2 h' : Heap} {a x e : Addr} {o : HO}
theorem Un.any (u : Un fs ex H H1 h h1) {b : Addr} {ob : Obj} (q : h.get? b = some ob) (n : H b = none) (hx : b ∉ ex) : ∃ sl, h1.get? b = some { ob with slots := sl } := by
  by_cases hb : b ∈ fs
  · exact u.slot b ob q n hb hx
  · exact ⟨ob.slots, u.keep b ob q n hb hx⟩
theorem Un.kept (k : ∀ b u, h.get? b = some u → h'.get? b = some u) : Un fs ex H H h h' :=
  ⟨fun b ob q _ _ _ => k b ob q, fun b ob q _ _ _ => ⟨ob.slots, k b ob q⟩, fun _ _ _ n _ => n, fun b ob q _ => ⟨ob, k b ob q⟩, fun _ _ q => q, fun _ _ _ q => q, fun _ ps q => ⟨#[], by rw [q]; simp⟩⟩
theorem Un.refl : Un fs ex H H h h := Un.kept fun _ _ q => q
theorem Un.laid (k : ∀ b u, h.get? b = some u → h'.get? b = some u) (hp : h.objs.size ≤ a) (hn : H a = none) : Un fs ex H (upd H a o) h h' where
  keep := fun b u q _ _ _ => k b u q
  slot := fun b u q _ _ _ => ⟨u.slots, k b u q⟩
  free := fun b u q n _ => by rw [upd_ne (Nat.ne_of_lt (Nat.lt_of_lt_of_le (Heap.lt_size q) hp))]; exact n
  there := fun b u q _ => ⟨u, k b u q⟩
  tups := fun b xs q => by rw [upd_ne (ne_of_none q hn)]; exact q
  frzs := fun b u xs q => by rw [upd_ne (ne_of_none q hn)]; exact q
  tbls := fun b ps q => ⟨#[], by rw [upd_ne (ne_of_none q hn), q]; simp⟩
theorem Un.write (mu : Mut (H x)) (he : e = x ∨ H e = some (.own x)) (k : ∀ b u, b ≠ e → h.get? b = some u → h'.get? b = some u) (heo : ∃ u, h'.get? e = some u) : Un fs ex H (upd H x o) h h' := by
  have hx : ∀ b, H b = none → b ≠ x := fun b n z => by subst z; rw [n] at mu; exact mu
  have hb : ∀ b, H b = none → b ≠ e := fun b n z => by
    subst z
    rcases he with r | r
    · exact hx b n r
    · rw [n] at r; cases r
  have hm : ∀ b u, H b = some u → ¬ Mut (some u) → b ≠ x := fun b u q nm z => by subst z; rw [q] at mu; exact nm mu
  refine ⟨fun b u q n _ _ => k b u (hb b n) q, fun b u q n _ _ => ⟨u.slots, k b u (hb b n) q⟩, fun b u q n _ => by rw [upd_ne (hx b n)]; exact n, fun b u q _ => ?_,
    fun b xs q => by rw [upd_ne (hm b _ q fun z => z)]; exact q, fun b u xs q => by rw [upd_ne (hm b _ q fun z => z)]; exact q, fun b ps q => ⟨#[], by rw [upd_ne (hm b _ q fun z => z), q]; simp⟩⟩
  by_cases hbe : b = e
  · subst hbe; exact heo
  · exact ⟨u, k b u hbe q⟩
end

/-! ### the heap without what is tracked -/
noncomputable def trk (h : Heap) (H : Hp) : List Addr := (List.range h.objs.size).filter fun a => (H a).isSome
noncomputable def hidT (h : Heap) (H : Hp) : Heap := PySem.W.hideAll h (trk h H)
theorem hidT_size (h : Heap) (H : Hp) : (hidT h H).objs.size = h.objs.size := PySem.W.hideAll_size _ _
theorem hidT_get {h : Heap} {H : Hp} {b : Addr} {o : Obj} (e : h.get? b = some o) (n : H b = none) : (hidT h H).get? b = some o :=
  PySem.W.hideAll_get _ e fun hm => by
    have q : (H b).isSome = true := (List.mem_filter.mp hm).2
    rw [n] at q; simp at q
theorem of_hidT {h : Heap} {H : Hp} {b : Addr} {o : Obj} (e : (hidT h H).get? b = some o) : h.get? b = some o ∧ H b = none := by
  have e' : h.get? b = some o := PySem.W.of_hideAll (trk h H) e
  refine ⟨e', ?_⟩
  cases q : H b with
  | none => rfl
  | some x =>
    have hm : b ∈ trk h H := List.mem_filter.mpr ⟨List.mem_range.mpr (Heap.lt_size e'), by simp [q]⟩
    have z : (hidT h H).get? b = none := PySem.W.hideAll_none (trk h H) hm
    rw [z] at e; cases e

/-! ### OpenK's ledger, filled with every new object but one -/
end L2

namespace L2
open PySem PySem.Spec PyProof.Rows

/-- the module's facts, over the base: the heap at the law's entry without what is tracked there -/
structure Mod (K : PySem.W.Frag) (mg : Str → Option Value) (base : Heap) : Prop where
  kin : K.In base
  glob : base.Ns mainGlobals mg
  blt : ∃ mb, base.Ns builtinsNs mb ∧ ∀ x : Str, x ≠ "__name__" → mb x = bootBuiltins x
  nolimit : base.NoLimit

/-- the context: a def's body (or a comprehension's block) running. base: fixed through the whole law; s₀, H₀: the entry; outer: the frames whose slots others may change (a def's callers); stack: all frames that run;
   ex: iterators that were made ahead of the entry and are walked here (a comprehension's); fn: the names whose cells were made at the entry (a def: all; a comprehension's block: its own); calm: not within an except suite; pn: pins that every state bears; xe: what is wanted of an exception that leaves the code -/
structure Cx where
  prog : Program
  w : World
  K : PySem.W.Frag
  mg : Str → Option Value
  base : Heap
  A : Around
  N : List Str
  s₀ : Shared
  H₀ : Hp
  env : Env
  outer : List Env
  stack : List Env
  ex : List Addr
  fn : Str → Bool
  calm : Bool
  pn : List (Addr × Obj)
  xe : Value → Shared → Prop
/-- the callers' frames -/
noncomputable def frs (l : List Env) : List Addr := l.filterMap (·.frame)
noncomputable abbrev Cx.fs (X : Cx) : List Addr := frs X.outer

noncomputable def Vis (sc : Scope) (x : Str) : Prop := sc.names.lookup x = some .local ∨ sc.names.lookup x = some .cell ∨ sc.names.lookup x = some .free
noncomputable def Loc (sc : Scope) (x : Str) : Prop := sc.names.lookup x = some .local ∨ sc.names.lookup x = some .cell
noncomputable def Look (env : Env) (h : Heap) (m : Str → Option Value) (x : Str) (u : Value) : Prop :=
  (env.kindOf x = some .local ∧ m x = some u) ∨ ((env.kindOf x = some .cell ∨ env.kindOf x = some .free) ∧ ∃ c, env.cells.lookup x = some c ∧ h.IsCell c (some u))

structure Cx.Ok (X : Cx) : Prop where
  mod : Mod X.K X.mg X.base
  kind : X.env.scope.kind = .function
  glob : X.env.globals = mainGlobals
  blt : X.env.builtins = builtinsNs
  above : X.s₀.heap.objs.size ≤ X.env.locals
  inj : ∀ x y c, X.env.cells.lookup x = some c → X.env.cells.lookup y = some c → x = y
  has : ∀ x, (X.env.kindOf x = some .cell ∨ X.env.kindOf x = some .free) → ∃ c, X.env.cells.lookup x = some c
  cab : ∀ x c, X.fn x = true → X.env.cells.lookup x = some c → X.s₀.heap.objs.size ≤ c
  hd : X.calm = true → X.A.handled = none
  frames : X.A.frames = some X.stack
  stk : X.stack = X.outer ∨ (X.stack = X.env :: X.outer ∧ X.env.frame = some X.env.locals)
  exf : ∀ b ∈ X.ex, b ≠ X.env.locals ∧ ∀ x c, X.env.cells.lookup x = some c → c ≠ b
  bs : ∀ b o, X.base.get? b = some o → X.s₀.heap.get? b = some o ∧ X.H₀ b = none
  bsz : X.base.objs.size ≤ X.s₀.heap.objs.size
  noex : ∀ b o, X.base.get? b = some o → b ∉ X.ex
  exfs : ∀ b ∈ X.ex, b ∉ X.fs
  funs : X.s₀.heap.FunFrames X.base X.outer
  frf : ∀ b ∈ X.fs, X.H₀ b = none

structure Inv (X : Cx) (pins : List (Addr × Obj)) (σ : List (Option V)) (H : Hp) (s : Shared) : Prop where
  ok : X.Ok
  os : s.os = X.s₀.os
  bare : AllBare s.gens
  base : Un X.fs X.ex X.H₀ H X.s₀.heap s.heap
  loc : ∃ m, s.heap.Ns X.env.locals m ∧ ∀ (i : Nat) (x : Str) (v : V), X.N[i]? = some x → σ[i]? = some (some v) → Vis X.env.scope x → ∃ u, RelV v u ∧ Look X.env s.heap m x u
  cell : ∀ x c, X.env.cells.lookup x = some c → ∃ v, s.heap.IsCell c v
  free : H X.env.locals = none
  freeC : ∀ x c, X.env.cells.lookup x = some c → H c = none
  pin : ∀ p ∈ X.pn ++ pins, s.heap.get? p.1 = some p.2 ∧ H p.1 = none ∧ p.1 ≠ X.env.locals ∧ p.1 ∉ X.fs ∧ ∀ v, p.2.data ≠ .cell v
  hok : HOk X.prog X.w H s.heap
  len : σ.length = X.N.length

section
variable {X : Cx} {pins : List (Addr × Obj)} {σ : List (Option V)} {H H' : Hp} {s : Shared} {h' : Heap}

theorem Cx.Ok.nofr (ok : X.Ok) {b : Addr} {o : Obj} (e : X.base.get? b = some o) : b ∉ X.fs := fun hb => by
  have := (ok.funs.mem hb).1
  rw [e] at this; cases this
theorem Inv.bs (I : Inv X pins σ H s) : ∀ b o, X.base.get? b = some o → s.heap.get? b = some o ∧ H b = none := fun b o e =>
  ⟨I.base.keep b o (I.ok.bs b o e).1 (I.ok.bs b o e).2 (I.ok.nofr e) (I.ok.noex b o e), I.base.free b o (I.ok.bs b o e).1 (I.ok.bs b o e).2 (I.ok.noex b o e)⟩
theorem Inv.bk (I : Inv X pins σ H s) : ∀ b o, X.base.get? b = some o → s.heap.get? b = some o := fun b o e => (I.bs b o e).1
theorem Inv.mod (I : Inv X pins σ H s) : Mod X.K X.mg X.base := I.ok.mod
theorem Inv.kIn (I : Inv X pins σ H s) : X.K.In s.heap := I.ok.mod.kin.keeps I.bk
theorem Inv.lt (I : Inv X pins σ H s) : X.env.locals < s.heap.objs.size := let ⟨_, hn, _⟩ := I.loc; hn.lt
theorem Inv.sz (I : Inv X pins σ H s) : X.s₀.heap.objs.size ≤ s.heap.objs.size := Nat.le_trans I.ok.above (Nat.le_of_lt I.lt)
theorem Inv.nofs (I : Inv X pins σ H s) {a : Addr} (h : s.heap.objs.size ≤ a) : a ∉ X.fs := fun hb => by
  obtain ⟨_, o, ho, _⟩ := I.ok.funs.mem hb
  exact absurd (Nat.lt_of_lt_of_le (Heap.lt_size ho) (Nat.le_trans I.sz h)) (Nat.lt_irrefl _)
theorem Inv.cne (I : Inv X pins σ H s) : ∀ x c, X.env.cells.lookup x = some c → c ≠ X.env.locals := fun x c e z => by
  obtain ⟨v, o, ho, hd⟩ := I.cell x c e
  obtain ⟨m, ⟨o', es, ep, ho', hd', _⟩, _⟩ := I.loc
  rw [z, ho'] at ho; cases ho; rw [hd'] at hd; cases hd
theorem Inv.funs (I : Inv X pins σ H s) : s.heap.FunFrames X.base X.outer := by
  have all : ∀ (l : List Env), (∀ b ∈ frs l, b ∈ X.fs) → X.s₀.heap.FunFrames X.base l → s.heap.FunFrames X.base l := by
    intro l
    induction l with
    | nil => intro _ _; trivial
    | cons env r ih =>
      intro hs hl
      obtain ⟨hk, ⟨L, o, hf, hn, ho, hd⟩, hr⟩ := hl
      have hL : L ∈ X.fs := hs L (by unfold frs; rw [List.filterMap_cons, hf]; exact List.mem_cons_self)
      obtain ⟨sl, e⟩ := I.base.slot L o ho (I.ok.frf L hL) hL fun z => I.ok.exfs L z hL
      exact ⟨hk, ⟨L, _, hf, hn, e, hd⟩, ih (fun b hb => hs b (by unfold frs; rw [List.filterMap_cons, hf]; exact List.mem_cons_of_mem _ hb)) hr⟩
  exact all X.outer (fun _ hb => hb) I.ok.funs

/-- the frames that run, for a call -/
theorem Inv.stack (I : Inv X pins σ H s) : s.heap.FunFrames X.base X.stack := by
  rcases I.ok.stk with e | ⟨e, hf⟩
  · rw [e]; exact I.funs
  · rw [e]
    obtain ⟨m, hn, _⟩ := I.loc
    refine .cons (by rw [I.ok.kind]; decide) hf hn ?_ I.funs
    exact Heap.get?_none_of_le (Nat.le_trans I.ok.bsz I.ok.above)
theorem Inv.stkSub (I : Inv X pins σ H s) : ∀ b ∈ frs X.stack, b ∈ X.env.locals :: X.fs := fun b hb => by
  rcases I.ok.stk with e | ⟨e, hf⟩
  · rw [e] at hb; exact List.mem_cons_of_mem _ hb
  · rw [e] at hb
    unfold frs at hb
    rw [List.filterMap_cons, hf] at hb
    exact hb
theorem Inv.stkFree (I : Inv X pins σ H s) : ∀ b ∈ frs X.stack, H b = none := fun b hb => by
  rcases List.mem_cons.mp (I.stkSub b hb) with e | hb
  · rw [e]; exact I.free
  · obtain ⟨_, o, ho, _⟩ := I.ok.funs.mem hb
    exact I.base.free b o ho (I.ok.frf b hb) fun z => I.ok.exfs b z hb

/-- THE STEP: the untracked objects but the frame and the records at ch are kept (the callers' frames up to slots), the frame's map is kept, the new abstract heap is held -/
theorem Inv.step {g' : Array GenState} {t' : Nat} {d' : Drawn} {ch : List Addr} (I : Inv X pins σ H s)
    (hch : ∀ b ∈ ch, (b ∈ X.ex ∨ X.s₀.heap.get? b = none) ∧ b ≠ X.env.locals ∧ (∀ x c, X.env.cells.lookup x = some c → c ≠ b) ∧ ∀ p ∈ X.pn ++ pins, p.1 ≠ b)
    (keep : ∀ b o, b ≠ X.env.locals → b ∉ X.fs → b ∉ ch → s.heap.get? b = some o → H b = none → h'.get? b = some o)
    (slot : ∀ b o, b ≠ X.env.locals → b ∈ X.fs → b ∉ ch → s.heap.get? b = some o → H b = none → ∃ sl, h'.get? b = some { o with slots := sl }) (free : ∀ b o, b ∉ ch → s.heap.get? b = some o → H b = none → H' b = none)
    (there : ∀ b o, b ∉ ch → s.heap.get? b = some o → ∃ o', h'.get? b = some o')
    (tups : ∀ b xs, H b = some (.tup xs) → H' b = some (.tup xs)) (frzs : ∀ b o u, H b = some (.frz o u) → H' b = some (.frz o u)) (tbls : ∀ b ps, H b = some (.tbl ps) → ∃ more, H' b = some (.tbl (ps ++ more)))
    (ns : ∀ m, s.heap.Ns X.env.locals m → h'.Ns X.env.locals m) (hok : HOk X.prog X.w H' h') (hg : AllBare g') :
    Inv X pins σ H' { s with heap := h', gens := g', drawn := d', toks := t' } := by
  have neL : ∀ b o, X.s₀.heap.get? b = some o → b ≠ X.env.locals := fun b o e => Nat.ne_of_lt (Nat.lt_of_lt_of_le (Heap.lt_size e) I.ok.above)
  have neC : ∀ b o, X.s₀.heap.get? b = some o → b ∉ X.ex → b ∉ ch := fun b o e hx hb => by
    rcases (hch b hb).1 with z | z
    · exact hx z
    · rw [e] at z; cases z
  have cellK : ∀ x c, X.env.cells.lookup x = some c → ∀ v, s.heap.IsCell c v → h'.IsCell c v := fun x c e v ⟨o, ho, hd⟩ => by
    have nch : c ∉ ch := fun z => (hch c z).2.2.1 x c e rfl
    by_cases hc : c ∈ X.fs
    · obtain ⟨sl, q⟩ := slot c o (I.cne x c e) hc nch ho (I.freeC x c e)
      exact ⟨_, q, hd⟩
    · exact ⟨o, keep c o (I.cne x c e) hc nch ho (I.freeC x c e), hd⟩
  refine ⟨I.ok, I.os, hg, ⟨fun b o e n hb hx => ?_, fun b o e n hb hx => ?_, fun b o e n hx => ?_, fun b o e hx => ?_, fun b xs e => tups b xs (I.base.tups b xs e), fun b o xs e => frzs b o xs (I.base.frzs b o xs e), fun b ps e => ?_⟩, ?_, fun x c e => ?_, ?_, fun x c e => ?_, fun p hp => ?_, hok, I.len⟩
  · exact keep b o (neL b o e) hb (neC b o e hx) (I.base.keep b o e n hb hx) (I.base.free b o e n hx)
  · obtain ⟨sl, e1⟩ := I.base.slot b o e n hb hx
    obtain ⟨sl', e2⟩ := slot b _ (neL b o e) hb (neC b o e hx) e1 (I.base.free b o e n hx)
    exact ⟨sl', e2⟩
  · obtain ⟨o', e1⟩ := I.base.there b o e hx
    exact free b o' (neC b o e hx) e1 (I.base.free b o e n hx)
  · obtain ⟨o', e1⟩ := I.base.there b o e hx
    exact there b o' (neC b o e hx) e1
  · obtain ⟨m1, e1⟩ := I.base.tbls b ps e
    obtain ⟨m2, e2⟩ := tbls b _ e1
    exact ⟨m1 ++ m2, by rw [e2, Array.append_assoc]⟩
  · obtain ⟨m, hn, hl⟩ := I.loc
    refine ⟨m, ns m hn, fun i x v e1 e2 e3 => ?_⟩
    obtain ⟨u, r, l⟩ := hl i x v e1 e2 e3
    refine ⟨u, r, ?_⟩
    rcases l with l | ⟨k, c, e, z⟩
    · exact .inl l
    · exact .inr ⟨k, c, e, cellK x c e _ z⟩
  · obtain ⟨v, z⟩ := I.cell x c e
    exact ⟨v, cellK x c e v z⟩
  · obtain ⟨m, ⟨o, _, _, ho, _⟩, _⟩ := I.loc
    exact free _ o (fun z => (hch _ z).2.1 rfl) ho I.free
  · obtain ⟨v, o, ho, hd⟩ := I.cell x c e
    exact free c o (fun z => (hch c z).2.2.1 x c e rfl) ho (I.freeC x c e)
  · obtain ⟨e, n, ne, nf, d⟩ := I.pin p hp
    have nch : p.1 ∉ ch := fun z => (hch p.1 z).2.2.2 p hp rfl
    exact ⟨keep p.1 p.2 ne nf nch e n, free p.1 p.2 nch e n, ne, nf, d⟩
/-- .. where the frame's own object is kept too -/
theorem Inv.un {t' : Nat} (I : Inv X pins σ H s) (u : Un X.fs [] H H' s.heap h') (hok : HOk X.prog X.w H' h') : Inv X pins σ H' { s with heap := h', toks := t' } := by
  obtain ⟨m, ⟨o, es, ep, ho, r⟩, _⟩ := id I.loc
  obtain ⟨sl, hL⟩ := u.any ho I.free (by simp)
  exact I.step (g' := s.gens) (d' := s.drawn) (ch := []) (fun _ z => nomatch z) (fun b o _ hb _ e n => u.keep b o e n hb (by simp)) (fun b o _ hb _ e n => u.slot b o e n hb (by simp)) (fun b o _ e n => u.free b o e n (by simp)) (fun b o _ e => u.there b o e (by simp)) u.tups u.frzs u.tbls (fun m' hm => by
    obtain ⟨o', es', ep', ho', r'⟩ := hm
    rw [ho] at ho'; cases ho'
    exact ⟨_, es', ep', hL, r'⟩) hok I.bare
/-- behind a call (or a comprehension's block): the slots of this frame may have changed too, the records at ch may have turned -/
theorem Inv.call {g' : Array GenState} {t' : Nat} {d' : Drawn} {ch : List Addr} (I : Inv X pins σ H s) (u : Un (frs X.stack) ch H H' s.heap h') (hok : HOk X.prog X.w H' h') (hg : AllBare g')
    (hch : ∀ b ∈ ch, (b ∈ X.ex ∨ X.s₀.heap.get? b = none) ∧ b ≠ X.env.locals ∧ (∀ x c, X.env.cells.lookup x = some c → c ≠ b) ∧ ∀ p ∈ X.pn ++ pins, p.1 ≠ b) :
    Inv X pins σ H' { s with heap := h', gens := g', drawn := d', toks := t' } := by
  obtain ⟨m, ⟨o, es, ep, ho, r⟩, _⟩ := id I.loc
  obtain ⟨sl, hL⟩ := u.any ho I.free fun z => (hch _ z).2.1 rfl
  exact I.step (ch := ch) hch (fun b o hL hb hc e n => u.keep b o e n (fun z => (List.mem_cons.mp (I.stkSub b z)).elim hL hb) hc) (fun b o _ _ hc e n => u.any e n hc) (fun b o hc e n => u.free b o e n hc) (fun b o hc e => u.there b o e hc) u.tups u.frzs u.tbls (fun m' hm => by
    obtain ⟨o', es', ep', ho', r'⟩ := hm
    rw [ho] at ho'; cases ho'
    exact ⟨_, es', ep', hL, r'⟩) hok hg
/-- an untracked record of ours (an iterator) has turned -/
theorem Inv.turned {t' : Nat} {it : Addr} (I : Inv X pins σ H s) (k : ∀ b o, b ≠ it → s.heap.get? b = some o → h'.get? b = some o) (hn : H it = none) (hL : it ≠ X.env.locals)
    (h1 : it ∈ X.ex ∨ X.s₀.heap.objs.size ≤ it) (h2 : ∀ x c, X.env.cells.lookup x = some c → c ≠ it) (h3 : ∀ p ∈ X.pn ++ pins, p.1 ≠ it) : Inv X pins σ H { s with heap := h', toks := t' } := by
  have nit : ∀ b u, H b = some u → b ≠ it := fun b u e z => by rw [z, hn] at e; cases e
  refine I.step (g' := s.gens) (d' := s.drawn) (ch := [it]) (fun b hb => ?_) (fun b o _ _ hc e _ => k b o (fun z => hc (by simp [z])) e) (fun b o _ _ hc e _ => ⟨o.slots, k b o (fun z => hc (by simp [z])) e⟩) (fun _ _ _ _ n => n)
    (fun b o hc e => ⟨o, k b o (fun z => hc (by simp [z])) e⟩) (fun _ _ e => e) (fun _ _ _ e => e) (fun b ps e => ⟨#[], by rw [e]; simp⟩) (fun m hm => ?_) (fun b u e => ?_) I.bare
  · have e : b = it := by simpa using hb
    subst e
    exact ⟨h1.imp id fun z => Heap.get?_none_of_le z, hL, h2, h3⟩
  · obtain ⟨o, es, ep, ho, r⟩ := hm
    exact ⟨o, es, ep, k _ o (Ne.symm hL) ho, r⟩
  · refine (I.hok b u e).stay (fun c v hc q => k c v ?_ q) (fun _ q => q) fun _ _ q => q
    rcases hc with z | z
    · rw [z]; exact nit b u e
    · exact nit c _ z
theorem Inv.tok (I : Inv X pins σ H s) (t : Nat) : Inv X pins σ H { s with toks := t } := I.un (h' := s.heap) (t' := t) Un.refl I.hok
/-- all objects kept -/
theorem Inv.kept {t' : Nat} (I : Inv X pins σ H s) (k : ∀ b u, s.heap.get? b = some u → h'.get? b = some u) : Inv X pins σ H { s with heap := h', toks := t' } := I.un (Un.kept k) (I.hok.kept k)
/-- a new object laid and tracked -/
theorem Inv.laid {a : Addr} {o : HO} {t' : Nat} (I : Inv X pins σ H s) (k : ∀ b u, s.heap.get? b = some u → h'.get? b = some u) (hp : s.heap.objs.size ≤ a) (new : ObjOk X.prog X.w (upd H a o) h' a o) :
    Inv X pins σ (upd H a o) { s with heap := h', toks := t' } := I.un (Un.laid k hp (I.hok.fresh hp)) (I.hok.laid k hp new)
/-- an object written -/
theorem Inv.write {x e : Addr} {o : HO} {t' : Nat} (I : Inv X pins σ H s) (mu : Mut (H x)) (he : e = x ∨ H e = some (.own x)) (k : ∀ b u, b ≠ e → s.heap.get? b = some u → h'.get? b = some u) (heo : ∃ u, h'.get? e = some u)
    (new : ObjOk X.prog X.w (upd H x o) h' x o) : Inv X pins σ (upd H x o) { s with heap := h', toks := t' } := I.un (Un.write mu he k heo) (I.hok.write mu he k heo new)
theorem Inv.pins_of {pins' : List (Addr × Obj)} (I : Inv X pins σ H s) (h : ∀ p ∈ pins', s.heap.get? p.1 = some p.2 ∧ H p.1 = none ∧ p.1 ≠ X.env.locals ∧ p.1 ∉ X.fs ∧ ∀ v, p.2.data ≠ .cell v) : Inv X pins' σ H s :=
  ⟨I.ok, I.os, I.bare, I.base, I.loc, I.cell, I.free, I.freeC, fun p hp => (List.mem_append.mp hp).elim (fun z => I.pin p (List.mem_append_left _ z)) (h p), I.hok, I.len⟩

theorem nodup_ix {N : List Str} (hN : N.Nodup) {i j : Nat} {x : Str} (a : N[i]? = some x) (b : N[j]? = some x) : i = j := by
  obtain ⟨h1, e1⟩ := List.getElem?_eq_some_iff.mp a
  obtain ⟨h2, e2⟩ := List.getElem?_eq_some_iff.mp b
  exact (List.getElem_inj hN).mp (e1.trans e2.symm)

/-- a name is stored; what changed -/
theorem store_ok2 {M : Model} {A : Around} {E : Value → Shared → Prop} {i : Nat} {x : Str} {v : V} {u : Value} {Q : Unit → Shared → Prop} (I : Inv X pins σ H s) (hN : X.N.Nodup) (hi : X.N[i]? = some x) (hx : Loc X.env.scope x) (r : RelV v u)
    (h : ∀ s', Inv X pins (σ.set i (some v)) H s' → (∃ a, Heap.SameBut a s.heap s'.heap ∧ (a = X.env.locals ∨ X.env.cells.lookup x = some a)) → Q () s') (hf : X.fn x = true ∨ X.env.scope.names.lookup x = some .local := by first | exact .inl rfl | exact .inr rfl | assumption) : wpAny M A (storeName X.env x u) Q E s := by
  obtain ⟨m, hn, hl⟩ := id I.loc
  have hcls : (X.env.scope.kind == .class || (X.env.scope.kind == .module && X.env.locals != X.env.globals)) = false := by rw [I.ok.kind]; rfl
  have hiσ : i < σ.length := by rw [I.len]; exact (List.getElem?_eq_some_iff.mp hi).1
  have cne := I.cne
  have tracked : ∀ {a : Addr} {h' : Heap}, (∃ o, s.heap.get? a = some o ∧ H a = none) → Heap.SameBut a s.heap h' → HOk X.prog X.w H h' := fun {a h'} ha hs b ob e => by
    obtain ⟨_, _, hfree⟩ := ha
    refine (I.hok b ob e).stay (fun c w' hc q => (hs.2 c ?_).trans q) (fun _ q => q) fun _ _ q => q
    rintro rfl
    rcases hc with rfl | hc
    · rw [hfree] at e; cases e
    · rw [hfree] at hc; cases hc
  rcases hx with hk | hk
  · refine wpAny_storeName_local hk hn (fun h' hn' hs => ?_) hcls
    obtain ⟨oL, _, _, hoL, _⟩ := id hn
    refine h _ ⟨I.ok, I.os, I.bare, ⟨fun b o e n hb hx => ?_, fun b o e n hb hx => ?_, I.base.free, fun b o e hx => ?_, I.base.tups, I.base.frzs, I.base.tbls⟩, ⟨_, hn', fun j y v' e1 e2 e3 => ?_⟩, fun y c e => ?_, I.free, I.freeC, fun p hp => ?_, tracked ⟨oL, hoL, I.free⟩ hs, by simpa using I.len⟩ ⟨_, hs, .inl rfl⟩
    · exact (hs.2 b (Nat.ne_of_lt (Nat.lt_of_lt_of_le (Heap.lt_size e) I.ok.above))).trans (I.base.keep b o e n hb hx)
    · obtain ⟨sl, e1⟩ := I.base.slot b o e n hb hx
      exact ⟨sl, (hs.2 b (Nat.ne_of_lt (Nat.lt_of_lt_of_le (Heap.lt_size e) I.ok.above))).trans e1⟩
    · obtain ⟨o', e1⟩ := I.base.there b o e hx
      exact ⟨o', (hs.2 b (Nat.ne_of_lt (Nat.lt_of_lt_of_le (Heap.lt_size e) I.ok.above))).trans e1⟩
    · by_cases hj : j = i
      · subst hj
        rw [hi] at e1; cases e1
        rw [List.getElem?_set_self hiσ] at e2
        cases e2
        exact ⟨u, r, .inl ⟨hk, by simp⟩⟩
      · rw [List.getElem?_set_ne (Ne.symm hj)] at e2
        obtain ⟨u', r', q⟩ := hl j y v' e1 e2 e3
        refine ⟨u', r', ?_⟩
        rcases q with ⟨k, e⟩ | ⟨k, c, e, z⟩
        · refine .inl ⟨k, ?_⟩
          have : y ≠ x := fun e => hj (nodup_ix hN e1 (e ▸ hi))
          simp [this, e]
        · exact .inr ⟨k, c, e, z.sameBut hs (cne y c e)⟩
    · obtain ⟨w', z⟩ := I.cell y c e
      exact ⟨w', z.sameBut hs (cne y c e)⟩
    · obtain ⟨e, n, ne, nf, d⟩ := I.pin p hp
      exact ⟨(hs.2 p.1 ne).trans e, n, ne, nf, d⟩
  · have hfn : X.fn x = true := by
      rcases hf with z | z
      · exact z
      · rw [z] at hk; cases hk
    obtain ⟨c, hc⟩ := I.ok.has x (.inl hk)
    obtain ⟨w', z⟩ := I.cell x c hc
    refine wpAny_storeName_cell I.ok.kind hk hc z (fun h' hc' hs => ?_)
    obtain ⟨oc, hoc, hocd⟩ := id z
    refine h { s with heap := h' } ⟨I.ok, I.os, I.bare, ⟨fun b o e n hb hx => ?_, fun b o e n hb hx => ?_, I.base.free, fun b o e hx => ?_, I.base.tups, I.base.frzs, I.base.tbls⟩, ⟨m, hn.sameBut hs (Ne.symm (cne x c hc)), fun j y v' e1 e2 e3 => ?_⟩, fun y c' e => ?_, I.free, I.freeC, fun p hp => ?_, tracked ⟨oc, hoc, I.freeC x c hc⟩ hs, by simpa using I.len⟩ ⟨c, hs, .inr hc⟩
    · exact (hs.2 b (Nat.ne_of_lt (Nat.lt_of_lt_of_le (Heap.lt_size e) (I.ok.cab x c hfn hc)))).trans (I.base.keep b o e n hb hx)
    · obtain ⟨sl, e1⟩ := I.base.slot b o e n hb hx
      exact ⟨sl, (hs.2 b (Nat.ne_of_lt (Nat.lt_of_lt_of_le (Heap.lt_size e) (I.ok.cab x c hfn hc)))).trans e1⟩
    · obtain ⟨o', e1⟩ := I.base.there b o e hx
      exact ⟨o', (hs.2 b (Nat.ne_of_lt (Nat.lt_of_lt_of_le (Heap.lt_size e) (I.ok.cab x c hfn hc)))).trans e1⟩
    · by_cases hj : j = i
      · subst hj
        rw [hi] at e1; cases e1
        rw [List.getElem?_set_self hiσ] at e2
        cases e2
        exact ⟨u, r, .inr ⟨.inl hk, c, hc, hc'⟩⟩
      · rw [List.getElem?_set_ne (Ne.symm hj)] at e2
        obtain ⟨u', r', q⟩ := hl j y v' e1 e2 e3
        refine ⟨u', r', ?_⟩
        rcases q with q | ⟨k, c', e, z'⟩
        · exact .inl q
        · refine .inr ⟨k, c', e, z'.sameBut hs ?_⟩
          rintro rfl
          exact hj (nodup_ix hN e1 (I.ok.inj _ _ _ e hc ▸ hi))
    · by_cases hcc : c' = c
      · subst hcc; exact ⟨_, hc'⟩
      · obtain ⟨w2, z2⟩ := I.cell y c' e
        exact ⟨w2, z2.sameBut hs hcc⟩
    · obtain ⟨e, n, ne, nf, d⟩ := I.pin p hp
      refine ⟨(hs.2 p.1 ?_).trans e, n, ne, nf, d⟩
      intro q
      rw [q, hoc] at e
      have q' : oc = p.2 := Option.some.inj e
      exact d w' (by rw [← q']; exact hocd)
theorem store_ok {M : Model} {A : Around} {E : Value → Shared → Prop} {i : Nat} {x : Str} {v : V} {u : Value} {Q : Unit → Shared → Prop} (I : Inv X pins σ H s) (hN : X.N.Nodup) (hi : X.N[i]? = some x) (hx : Loc X.env.scope x) (r : RelV v u)
    (h : ∀ s', Inv X pins (σ.set i (some v)) H s' → Q () s') (hf : X.fn x = true ∨ X.env.scope.names.lookup x = some .local := by first | exact .inl rfl | exact .inr rfl | assumption) : wpAny M A (storeName X.env x u) Q E s :=
  store_ok2 I hN hi hx r (fun s' I' _ => h s' I') hf
/-- behind a call or a block, the state as it is -/
theorem Inv.call' {s' : Shared} {ch : List Addr} (I : Inv X pins σ H s) (ho : s'.os = s.os) (u : Un (frs X.stack) ch H H' s.heap s'.heap) (hok : HOk X.prog X.w H' s'.heap) (hg : AllBare s'.gens)
    (hch : ∀ b ∈ ch, (b ∈ X.ex ∨ X.s₀.heap.get? b = none) ∧ b ≠ X.env.locals ∧ (∀ x c, X.env.cells.lookup x = some c → c ≠ b) ∧ ∀ p ∈ X.pn ++ pins, p.1 ≠ b) : Inv X pins σ H' s' := by
  obtain ⟨h', g', d', t', o'⟩ := s'
  have e : o' = s.os := ho
  subst e
  exact I.call (g' := g') (t' := t') (d' := d') u hok hg hch
end

/-! ### the judgements -/
/-- an exception: its class, its own dict's address (where it has one), the abstract heap behind it -/
noncomputable abbrev XK := Value → Option Addr → Hp → Prop
noncomputable abbrev St := List (Option V)
noncomputable abbrev VK := V → Hp → Prop
/-- an expression's reading; a test's; an argument list's -/
noncomputable abbrev TE := St → Hp → VK → Prop
noncomputable abbrev TT := St → Hp → (Bool → Hp → Prop) → Prop
noncomputable abbrev TA := St → Hp → (List V → Hp → Prop) → Prop
/-- what is wanted behind a statement -/
structure Ends where
  nx : St → Hp → Prop
  rt : VK
  bk : St → Hp → Prop := fun _ _ => False
  ct : St → Hp → Prop := fun _ _ => False
noncomputable abbrev TS := Ends → St → Hp → Prop

noncomputable def EP (X : Cx) (pins : List (Addr × Obj)) (σ : St) (Q : VK) (u : Value) (s' : Shared) : Prop := ∃ v H', Inv X pins σ H' s' ∧ RelV v u ∧ Q v H'
noncomputable def TP (X : Cx) (pins : List (Addr × Obj)) (σ : St) (Q : Bool → Hp → Prop) (b : Bool) (s' : Shared) : Prop := ∃ H', Inv X pins σ H' s' ∧ Q b H'
noncomputable def AP (X : Cx) (pins : List (Addr × Obj)) (σ : St) (Q : List V → Hp → Prop) (us : List Value) (s' : Shared) : Prop := ∃ vs H', Inv X pins σ H' s' ∧ Vals vs us ∧ Q vs H'
noncomputable def SP (X : Cx) (pins : List (Addr × Obj)) (D : Ends) (f : Flow) (s' : Shared) : Prop :=
  match f with
  | .next => ∃ σ' H', Inv X pins σ' H' s' ∧ D.nx σ' H'
  | .brk => ∃ σ' H', Inv X pins σ' H' s' ∧ D.bk σ' H'
  | .cont => ∃ σ' H', Inv X pins σ' H' s' ∧ D.ct σ' H'
  | .ret u => ∃ v σ' H', Inv X pins σ' H' s' ∧ RelV v u ∧ D.rt v H'

noncomputable def PE (X : Cx) (e : Expr) (t : TE) : Prop :=
  ∀ (pins : List (Addr × Obj)) (s : Shared) (σ : St) (H : Hp) (Q : VK), Inv X pins σ H s → t σ H Q → wpAny (model X.prog X.w) X.A (eval e X.env) (EP X pins σ Q) X.xe s
noncomputable def PT (X : Cx) (e : Expr) (t : TT) : Prop :=
  ∀ (pins : List (Addr × Obj)) (s : Shared) (σ : St) (H : Hp) (Q : Bool → Hp → Prop), Inv X pins σ H s → t σ H Q → wpAny (model X.prog X.w) X.A (isTrue e X.env (eval e X.env)) (TP X pins σ Q) X.xe s
/-- a test whatever its 'whole' is (and, or) -/
noncomputable def PW (X : Cx) (e : Expr) (t : TT) : Prop :=
  ∀ (whole : Sem Value) (pins : List (Addr × Obj)) (s : Shared) (σ : St) (H : Hp) (Q : Bool → Hp → Prop), Inv X pins σ H s → t σ H Q → wpAny (model X.prog X.w) X.A (isTrue e X.env whole) (TP X pins σ Q) X.xe s
theorem PW.pt {X : Cx} {e : Expr} {t : TT} (h : PW X e t) : PT X e t := h _
/-- an argument list (no star), from the left -/
noncomputable def PA (X : Cx) (es : List Expr) (t : TA) : Prop :=
  ∀ (pos : Pos) (pins : List (Addr × Obj)) (s : Shared) (σ : St) (H : Hp) (Q : List V → Hp → Prop), Inv X pins σ H s → t σ H Q → wpAny (model X.prog X.w) X.A (spliced (backTo pos (starEach es X.env))) (AP X pins σ Q) X.xe s
noncomputable def PS (X : Cx) (st : Stmt) (t : TS) : Prop :=
  ∀ (pins : List (Addr × Obj)) (s : Shared) (σ : St) (H : Hp) (D : Ends), Inv X pins σ H s → t D σ H → wpAny (model X.prog X.w) X.A (exec st X.env) (SP X pins D) X.xe s
noncomputable def PSs (X : Cx) (st : List Stmt) (t : TS) : Prop :=
  ∀ (pins : List (Addr × Obj)) (s : Shared) (σ : St) (H : Hp) (D : Ends), Inv X pins σ H s → t D σ H → wpAny (model X.prog X.w) X.A (execs st X.env) (SP X pins D) X.xe s
/-- weaken the end -/
theorem thn {α : Type} {t : Sem α} {Q Q' : α → Shared → Prop} {M : Model} {A : Around} {E : Value → Shared → Prop} {s : Shared} (h : wpAny M A t Q E s) (hQ : ∀ a s, Q a s → Q' a s) : wpAny M A t Q' E s := wpAny_mono h hQ fun _ _ x => x
end L2

namespace L2
open PySem PySem.Spec PyProof.Rows
section
variable {X : Cx}

/-! ### names and constants -/
noncomputable def tVar (i : Nat) : TE := fun σ H Q => ∃ v, σ[i]? = some (some v) ∧ Q v H
noncomputable def tC (v : V) : TE := fun _ H Q => Q v H
theorem pe_var {i : Nat} {x : Str} {pos : Pos} (hN : X.N[i]? = some x) (hv : Vis X.env.scope x) (hd : (x == ("__debug__" : Str)) = false := by decide) (hcd : (x == ("__classdict__" : Str)) = false := by decide) : PE X (.Name x pos) (tVar i) := by
  intro pins s σ H Q I h
  obtain ⟨v, e, h⟩ := h
  obtain ⟨m, hn, hl⟩ := I.loc
  obtain ⟨u, r, l⟩ := hl i x v hN e hv
  have fin : EP X pins σ Q u s := ⟨v, H, I, r, h⟩
  rcases l with ⟨hk, hm⟩ | ⟨hk, c, hc, hcell⟩
  · exact wpAny_Name (wpAny_loadName_local I.ok.kind hk hn hm fin) hd
  · rcases hk with hk | hk
    · exact wpAny_Name (wpAny_loadName_cell I.ok.kind hk hc hcell fin) hd
    · exact wpAny_Name (wpAny_loadName_free I.ok.kind hk hc hcell fin hcd) hd
theorem pe_int {i j pos} : PE X (.Constant (.int i) j pos) (tC (.int i)) := fun _ _ _ H _ I h => wpAny_Constant_int ⟨.int i, H, I.tok _, ⟨_, rfl⟩, h⟩
theorem pe_bl {b j pos} : PE X (.Constant (.bool b) j pos) (tC (.bl b)) := fun _ _ _ H _ I h => Constant_bool ⟨.bl b, H, I, rfl, h⟩
theorem pe_non {j pos} : PE X (.Constant .none j pos) (tC .non) := fun _ _ _ H _ I h => Constant_none ⟨.non, H, I, rfl, h⟩
theorem pe_str {x j pos} : PE X (.Constant (.str x) j pos) (tC (.str x)) := fun _ _ _ H _ I h => Calls.Constant_str ⟨.str x, H, I.tok _, ⟨_, rfl⟩, h⟩

/-- a global name of the def -/
noncomputable def Gl (X : Cx) (x : Str) : Prop := X.env.kindOf x = some .globalImplicit
theorem ld_glob {E : Value → Shared → Prop} {pins : List (Addr × Obj)} {s : Shared} {σ : St} {H : Hp} {x : Str} {u : Value} {pos : Pos} {Q : Value → Shared → Prop} (I : Inv X pins σ H s) (hg : Gl X x) (hm : X.mg x = some u) (h : Q u s)
    (hd : (x == ("__debug__" : Str)) = false := by decide) : wpAny (model X.prog X.w) X.A (eval (.Name x pos) X.env) Q E s :=
  Calls.Name_function_global I.ok.kind hg (Calls.loadGlobal_global (by rw [I.ok.glob]; exact I.mod.glob.keeps I.bk) hm h) hd
theorem ld_blt {E : Value → Shared → Prop} {pins : List (Addr × Obj)} {s : Shared} {σ : St} {H : Hp} {x : Str} {u : Value} {pos : Pos} {Q : Value → Shared → Prop} (I : Inv X pins σ H s) (hg : Gl X x) (hm : X.mg x = none) (hv : bootBuiltins x = some u) (h : Q u s)
    (hn : x ≠ "__name__" := by decide) (hd : (x == ("__debug__" : Str)) = false := by decide) : wpAny (model X.prog X.w) X.A (eval (.Name x pos) X.env) Q E s := by
  obtain ⟨mb, h1, h2⟩ := I.mod.blt
  exact Calls.Name_function_global I.ok.kind hg (Calls.loadGlobal_builtin (by rw [I.ok.glob]; exact I.mod.glob.keeps I.bk) hm (by rw [I.ok.blt]; exact h1.keeps I.bk) ((h2 x hn).trans hv) h) hd
/-- a module's constant, a class, a function, as a value -/
theorem pe_glob {x : Str} {v : V} {u : Value} {pos : Pos} (hg : Gl X x) (hm : X.mg x = some u) (r : RelV v u) (hd : (x == ("__debug__" : Str)) = false := by decide) : PE X (.Name x pos) (tC v) :=
  fun _ _ _ H _ I h => ld_glob I hg hm ⟨v, H, I, r, h⟩ hd
/-! ### arithmetic -/
variable {a b : Expr} {ta tb : TE} {pos : Pos}
/-! ### comparisons -/
/-- a comparison as a value, as a test -/
noncomputable def tB (t : TE) : TT := fun σ H Q => t σ H fun x H1 => ∃ c, x = .bl c ∧ Q c H1
/-- an expression whose value is a bool, as a test -/
theorem pt_val {e : Expr} {t : TE} (h : PE X e t) (he : ∀ whole, isTrue e X.env whole = (do let v ← whole; standAt e.pos; holding [v] (truthy v)) := by intro _; rfl) : PT X e (tB t) := by
  intro pins s σ H Q I hw
  refine isTrue_plain (thn (h pins s σ H _ I hw) fun v s1 ⟨x, H1, I1, r1, q1⟩ => ?_) (he _)
  obtain ⟨d, rfl, q⟩ := q1
  cases r1
  exact wpAny_truthy_bool ⟨H1, I1, q⟩

/-! ### and, or, not -/
variable {tA tB' : TT} {rest : List Expr}
noncomputable def tAnd (t u : TT) : TT := fun σ H Q => t σ H fun c H1 => if c = true then u σ H1 Q else Q false H1
noncomputable def tOr (t u : TT) : TT := fun σ H Q => t σ H fun c H1 => if c = true then Q true H1 else u σ H1 Q
noncomputable def tNot (t : TT) : TT := fun σ H Q => t σ H fun c H1 => Q (!c) H1
theorem pw_and1 (ha : PT X a tA) : PW X (.BoolOp .And [a] pos) tA := by
  intro wh pins s σ H Q I h
  refine isTrue_and (thn (ha pins s σ H Q I h) fun c s1 e => ?_)
  cases c with
  | true => exact isTrue_and_nil e
  | false => exact e
theorem pw_or1 (ha : PT X a tA) : PW X (.BoolOp .Or [a] pos) tA := by
  intro wh pins s σ H Q I h
  refine isTrue_or (thn (ha pins s σ H Q I h) fun c s1 e => ?_)
  cases c with
  | false => exact isTrue_or_nil e
  | true => exact e
theorem pw_and (ha : PT X a tA) (hb : PW X (.BoolOp .And (b :: rest) pos) tB') : PW X (.BoolOp .And (a :: b :: rest) pos) (tAnd tA tB') := by
  intro wh pins s σ H Q I h
  refine isTrue_and (thn (ha pins s σ H _ I h) fun c s1 ⟨H1, I1, q1⟩ => ?_)
  cases c with
  | true => exact hb wh pins s1 σ H1 Q I1 q1
  | false => exact ⟨H1, I1, q1⟩
theorem pw_or (ha : PT X a tA) (hb : PW X (.BoolOp .Or (b :: rest) pos) tB') : PW X (.BoolOp .Or (a :: b :: rest) pos) (tOr tA tB') := by
  intro wh pins s σ H Q I h
  refine isTrue_or (thn (ha pins s σ H _ I h) fun c s1 ⟨H1, I1, q1⟩ => ?_)
  cases c with
  | true => exact ⟨H1, I1, q1⟩
  | false => exact hb wh pins s1 σ H1 Q I1 q1
theorem pt_not (ha : PT X a tA) : PT X (.UnaryOp .Not a pos) (tNot tA) := by
  intro pins s σ H Q I h
  exact isTrue_not (ha pins s σ H (fun c H1 => Q (!c) H1) I h)
/-- .. as values (bools) -/
noncomputable def tAndV (ta tb : TE) : TE := fun σ H Q => ta σ H fun x H1 => ∃ c, x = .bl c ∧ if c = true then tb σ H1 Q else Q (.bl false) H1
noncomputable def tNotV (ta : TE) : TE := fun σ H Q => ta σ H fun x H1 => ∃ c, x = .bl c ∧ Q (.bl (!c)) H1
theorem pe_one {op} {t : TE} (h : PE X a t) : PE X (.BoolOp op [a] pos) t := fun pins s σ H Q I hw => BoolOp_one (h pins s σ H Q I hw)
theorem pe_and (ha : PE X a ta) (hb : PE X (.BoolOp .And (b :: rest) pos) tb) : PE X (.BoolOp .And (a :: b :: rest) pos) (tAndV ta tb) := by
  intro pins s σ H Q I h
  refine BoolOp_and (thn (ha pins s σ H _ I h) fun v s1 ⟨x, H1, I1, r1, q1⟩ => ?_)
  obtain ⟨c, rfl, q1⟩ := q1
  cases r1
  refine wpAny_truthy_bool ?_
  cases c with
  | true => exact hb pins s1 σ H1 Q I1 q1
  | false => exact ⟨.bl false, H1, I1, rfl, q1⟩
theorem pe_not (ha : PE X a ta) : PE X (.UnaryOp .Not a pos) (tNotV ta) := by
  intro pins s σ H Q I h
  refine UnaryOp_ (thn (ha pins s σ H _ I h) fun v s1 ⟨x, H1, I1, r1, q1⟩ => ?_)
  obtain ⟨c, rfl, q1⟩ := q1
  cases r1
  exact not_of (wpAny_truthy_bool ⟨.bl (!c), H1, I1, rfl, q1⟩)
end
end L2

namespace L2
open PySem PySem.Spec PyProof.Rows

/-! ### a list, a tuple that is read: tracked, frozen, or an object of the module -/
noncomputable def SqL (K : PySem.W.Frag) (H : Hp) (a : Addr) (xs : List V) : Prop :=
  Rd H a (.lst xs) ∨
    ∃ (o : Obj) (its : Array Value) (n : Nat), K.lookup a = some o ∧ o.cls = .type "list" ∧ o.dict = none ∧ o.data = .seq its n ∧ its.size ≤ sizeLine ∧ Vals xs its.toList
noncomputable def SqT (K : PySem.W.Frag) (H : Hp) (a : Addr) (xs : List V) : Prop :=
  Rd H a (.tup xs) ∨
    ∃ (o : Obj) (its : Array Value) (n : Nat), K.lookup a = some o ∧ o.cls = .type "tuple" ∧ o.data = .seq its n ∧ its.size ≤ sizeLine ∧ Vals xs its.toList
noncomputable def absV : Value → Option V
  | .none => some .non
  | .bool b => some (.bl b)
  | .int i _ => some (.int i)
  | .str x _ => some (.str x)
  | .bytes b _ => some (.byt b)
  | .float b _ => some (.flt b)
  | .ref a => some (.ref a)
  | .type n => some (.ty n)
  | _ => none
theorem RelV.abs {x : V} {u : Value} (r : RelV x u) : absV u = some x := by
  cases x with
  | non => cases r; rfl
  | bl _ => cases r; rfl
  | int _ => obtain ⟨t, rfl⟩ := r; rfl
  | str _ => obtain ⟨t, rfl⟩ := r; rfl
  | byt _ => obtain ⟨t, rfl⟩ := r; rfl
  | flt _ => obtain ⟨t, rfl⟩ := r; rfl
  | ref _ => cases r; rfl
  | ty _ => cases r; rfl
theorem RelV.inj {x y : V} {u : Value} (r : RelV x u) (q : RelV y u) : x = y := Option.some.inj (r.abs.symm.trans q.abs)
theorem Vals.inj : ∀ {xs ys : List V} {us : List Value}, Vals xs us → Vals ys us → xs = ys
  | _, _, _, .nil, .nil => rfl
  | _, _, _, .cons r t, .cons r' t' => by rw [r.inj r', Vals.inj t t']
section
variable {X : Cx} {pins : List (Addr × Obj)} {σ : St} {H : Hp} {s : Shared} {a : Addr} {xs ys : List V}
theorem SqL.of {K : PySem.W.Frag} (h : H a = some (.lst xs)) : SqL K H a xs := .inl (.inl h)
theorem SqT.of {K : PySem.W.Frag} (h : H a = some (.tup xs)) : SqT K H a xs := .inl (.inl h)
theorem Inv.list (I : Inv X pins σ H s) (h : SqL X.K H a xs) : ∃ its : List Value, Vals xs its ∧ PlainL s.heap a its.toArray ∧ xs.length ≤ sizeLine := by
  rcases h with h | ⟨o, its, n, hk, hc, hd, hs, hz, r⟩
  · obtain ⟨z, its, n, r, e⟩ := h.ok I.hok
    exact ⟨its, r, ⟨_, n, e, rfl, rfl, rfl⟩, z⟩
  · refine ⟨its.toList, r, ⟨o, n, I.kIn a o hk, hc, hd, by simpa using hs⟩, ?_⟩
    have e := r.length
    simp only [Array.length_toList] at e
    omega
theorem Inv.tuple (I : Inv X pins σ H s) (h : SqT X.K H a xs) : ∃ its : List Value, Vals xs its ∧ IsTup s.heap a its.toArray ∧ xs.length ≤ sizeLine := by
  rcases h with h | ⟨o, its, n, hk, hc, hs, hz, r⟩
  · obtain ⟨z, its, r, p⟩ := h.ok I.hok
    exact ⟨its, r, p, z⟩
  · refine ⟨its.toList, r, ⟨o, I.kIn a o hk, hc, n, by simpa using hs⟩, ?_⟩
    have e := r.length
    simp only [Array.length_toList] at e
    omega
theorem Inv.list_inj (I : Inv X pins σ H s) (h : SqL X.K H a xs) (h' : SqL X.K H a ys) : xs = ys := by
  obtain ⟨its, r, ⟨o, n, e, _, _, d⟩, _⟩ := I.list h
  obtain ⟨its', r', ⟨o', n', e', _, _, d'⟩, _⟩ := I.list h'
  rw [e] at e'; cases e'
  rw [d] at d'
  injection d' with d1 _
  have : its = its' := by simpa using congrArg Array.toList d1
  subst this
  exact r.inj r'
theorem Inv.tuple_inj (I : Inv X pins σ H s) (h : SqT X.K H a xs) (h' : SqT X.K H a ys) : xs = ys := by
  obtain ⟨its, r, ⟨o, e, _, n, d⟩, _⟩ := I.tuple h
  obtain ⟨its', r', ⟨o', e', _, n', d'⟩, _⟩ := I.tuple h'
  rw [e] at e'; cases e'
  rw [d] at d'
  injection d' with d1 _
  have : its = its' := by simpa using congrArg Array.toList d1
  subst this
  exact r.inj r'
end

/-! ### another wish about exceptions -/
section
variable {X : Cx} {pins : List (Addr × Obj)} {σ : St} {H : Hp} {s : Shared} {E : Value → Shared → Prop}
end

/-! ### blocks and small statements -/
section
variable {X : Cx} {st : Stmt} {rest : List Stmt} {t u : TS} {e : Expr} {te : TE} {pos : Pos}
noncomputable def tNext : TS := fun D σ H => D.nx σ H
noncomputable def tSeq (t u : TS) : TS := fun D σ H => t { D with nx := u D } σ H
theorem pss_nil : PSs X [] tNext := fun _ _ σ H _ I h => wpAny_execs_nil ⟨σ, H, I, h⟩
theorem pss_cons (h1 : PS X st t) (h2 : PSs X rest u) : PSs X (st :: rest) (tSeq t u) := by
  intro pins s σ H D I h
  refine wpAny_execs_cons (thn (h1 pins s σ H { D with nx := u D } I h) fun f s1 q => ?_)
  cases f with
  | next =>
    obtain ⟨σ', H', I', q⟩ := q
    exact h2 pins s1 σ' H' D I' q
  | ret v => exact q
  | brk => exact q
  | cont => exact q
/-- in a def's body nothing is shown -/
theorem Inv.quiet {pins : List (Addr × Obj)} {σ : St} {H : Hp} {s : Shared} (I : Inv X pins σ H s) : interactive X.env = false := by simp [interactive, I.ok.kind]
/-- an expression whose value is dropped -/
noncomputable def tDrop (te : TE) : TS := fun D σ H => te σ H fun _ H1 => D.nx σ H1
theorem ps_expr (he : PE X e te) (hs : swapsWith e none pos.line X.env = pure false := by rfl) : PS X (.Expr e pos) (tDrop te) := by
  intro pins s σ H D I h
  exact wpAny_Expr_any (thn (he pins s σ H _ I h) fun v s1 ⟨x, H1, I1, r1, q1⟩ => ⟨σ, H1, I1, q1⟩) I.quiet hs
noncomputable def tRet (te : TE) : TS := fun D σ H => te σ H D.rt
theorem ps_ret (he : PE X e te) : PS X (.Return (some e) pos) (tRet te) := by
  intro pins s σ H D I h
  exact wpAny_Return_some (thn (he pins s σ H _ I h) fun v s1 ⟨x, H1, I1, r1, q1⟩ => ⟨x, σ, H1, I1, r1, q1⟩)
noncomputable def tIfS (c : TT) (t u : TS) : TS := fun D σ H => c σ H fun b H1 => if b = true then t D σ H1 else u D σ H1
theorem ps_if {c : Expr} {a b : List Stmt} {tc : TT} (hc : PT X c tc) (ha : PSs X a t) (hb : PSs X b u) : PS X (.If c a b pos) (tIfS tc t u) := by
  intro pins s σ H D I h
  refine wpAny_If (thn (hc pins s σ H _ I h) fun d s1 ⟨H1, I1, q1⟩ => ?_)
  cases d with
  | true => exact ha pins s1 σ H1 D I1 q1
  | false => exact hb pins s1 σ H1 D I1 q1
end

/-! ### targets -/
noncomputable abbrev TG := V → St → Hp → (St → Hp → Prop) → Prop
noncomputable abbrev TGs := List V → St → Hp → (St → Hp → Prop) → Prop
noncomputable def PG (X : Cx) (target : Expr) (t : TG) : Prop :=
  ∀ (pins : List (Addr × Obj)) (s : Shared) (σ : St) (H : Hp) (v : V) (u : Value) (Q : St → Hp → Prop), Inv X pins σ H s → RelV v u → t v σ H Q →
    wpAny (model X.prog X.w) X.A (assign target X.env u) (fun _ s' => ∃ σ' H', Inv X pins σ' H' s' ∧ Q σ' H') X.xe s
/-- several targets, one after another -/
noncomputable def PGs (X : Cx) (ts : List Expr) (t : TGs) : Prop :=
  ∀ (pins : List (Addr × Obj)) (s : Shared) (σ : St) (H : Hp) (vs : List V) (us : List Value) (Q : St → Hp → Prop), Inv X pins σ H s → Vals vs us → t vs σ H Q →
    wpAny (model X.prog X.w) X.A (assignInOrder ((assignEach ts X.env).map (·.2)) us) (fun _ s' => ∃ σ' H', Inv X pins σ' H' s' ∧ Q σ' H') X.xe s
/-- o[i] = v, by values -/
noncomputable abbrev TSet := V → V → V → Hp → (Hp → Prop) → Prop
noncomputable def PSet (X : Cx) (t : TSet) : Prop :=
  ∀ (pins : List (Addr × Obj)) (s : Shared) (σ : St) (H : Hp) (o i v : V) (ov iv u : Value) (Q : Hp → Prop), Inv X pins σ H s → RelV o ov → RelV i iv → RelV v u → t o i v H Q →
    wpAny (model X.prog X.w) X.A (setItem ov iv u) (fun _ s' => ∃ H', Inv X pins σ H' s' ∧ Q H') X.xe s
section
variable {X : Cx} {pos : Pos}
noncomputable def gName (i : Nat) : TG := fun v σ H Q => Q (σ.set i (some v)) H
theorem pg_name {i : Nat} {x : Str} (hN : X.N.Nodup) (hi : X.N[i]? = some x) (hx : Loc X.env.scope x) (hf : X.fn x = true ∨ X.env.scope.names.lookup x = some .local := by first | exact .inl rfl | exact .inr rfl | assumption) : PG X (.Name x pos) (gName i) := by
  intro pins s σ H v u Q I r h
  exact wpAny_assign_Name (store_ok I hN hi hx r (fun s' I' => ⟨_, H, I', h⟩) hf)
noncomputable def gNil : TGs := fun vs σ H Q => vs = [] ∧ Q σ H
noncomputable def gCons (t : TG) (u : TGs) : TGs := fun vs σ H Q => ∃ v r, vs = v :: r ∧ t v σ H fun σ' H' => u r σ' H' Q
theorem pgs_nil : PGs X [] gNil := by
  intro pins s σ H vs us Q I r h
  obtain ⟨e, h⟩ := h
  subst e
  cases r
  exact assignInOrder_nil ⟨σ, H, I, h⟩
theorem pgs_cons {e : Expr} {es : List Expr} {t : TG} {u : TGs} (h1 : PG X e t) (h2 : PGs X es u)
    (hs : (assignEach (e :: es) X.env).map (·.2) = assign e X.env :: (assignEach es X.env).map (·.2) := by rfl) : PGs X (e :: es) (gCons t u) := by
  intro pins s σ H vs us Q I r h
  obtain ⟨v, vr, e1, h⟩ := h
  subst e1
  cases r with
  | cons r rr =>
    rw [hs]
    refine assignInOrder_cons (thn (h1 pins s σ H _ _ _ I r h) fun _ s1 ⟨σ1, H1, I1, q1⟩ => ?_)
    exact h2 pins s1 σ1 H1 _ _ Q I1 rr q1
/-- (a, b, ..) = a tuple of that length -/
noncomputable def gTup (K : PySem.W.Frag) (n : Nat) (t : TGs) : TG := fun v σ H Q => ∃ a xs, v = .ref a ∧ SqT K H a xs ∧ xs.length = n ∧ t xs σ H Q
theorem pg_tup {es : List Expr} {k : Nat} {t : TGs} {n : Nat} (hc : X.calm = true) (h : PGs X es t)
    (hn : (assignEach es X.env).length = n := by rfl) (hst : (assignEach es X.env).findIdx? (·.1) = none := by rfl) : PG X (.Tuple es k pos) (gTup X.K n t) := by
  intro pins s σ H v u Q I r hw
  obtain ⟨a, xs, e1, hq, hl, hw⟩ := hw
  subst e1
  cases r
  obtain ⟨its, rv, ht, hz⟩ := I.tuple hq
  refine assign_Tuple_tuple (I.ok.hd hc) ht (by simp [hn, ← hl, rv.length]) hst fun h' hx => ?_
  have I1 : Inv X pins σ H { s with heap := h' } := I.kept (t' := s.toks) fun b o e => hx b o (Nat.ne_of_lt (Heap.lt_size e)) e
  exact h pins _ σ H xs _ Q I1 (by simpa using rv) hw
/-- o[i] = .. -/
noncomputable def gSub (to ti : TE) (t : TSet) : TG := fun v σ H Q => to σ H fun o H1 => ti σ H1 fun i H2 => t o i v H2 fun H3 => Q σ H3
theorem pg_sub {o i : Expr} {to ti : TE} {t : TSet} (ho : PE X o to) (hi : PE X i ti) (hs : PSet X t)
    (ha : ∀ v, assign (.Subscript o i pos) X.env v = (do
      let ov ← holding [v] (eval o X.env)
      let iv ← holding [v, ov] (eval i X.env)
      standAt pos
      holding [v, ov, iv] (setItem ov iv v)
      release [v, ov, iv] []) := by intro _; rfl) : PG X (.Subscript o i pos) (gSub to ti t) := by
  intro pins s σ H v u Q I r h
  rw [ha]
  refine wpAny_bind (wpAny_holding (thn (ho pins s σ H _ I h) fun ov s1 ⟨x, H1, I1, r1, q1⟩ => ?_))
  refine wpAny_bind (wpAny_holding (thn (hi pins s1 σ H1 _ I1 q1) fun iv s2 ⟨y, H2, I2, r2, q2⟩ => ?_))
  refine wpAny_bind (wpAny_standAt (wpAny_bind (wpAny_holding (thn (hs pins s2 σ H2 x y v ov iv u _ I2 r1 r2 r q2) fun _ s3 ⟨H3, I3, q3⟩ => ?_))))
  exact wpAny_release ⟨σ, H3, I3, q3⟩
/-- target = value -/
noncomputable def tAsg (te : TE) (g : TG) : TS := fun D σ H => te σ H fun x H1 => g x σ H1 D.nx
theorem ps_asg {tg e : Expr} {te : TE} {g : TG} (he : PE X e te) (hg : PG X tg g) (hs : swapsWithSole [tg] e pos.line X.env = pure false := by rfl) (hw : swappedStores [tg] e X.env = pure none := by rfl)
    (h1 : (assignEach [tg] X.env).map (·.2) = [assign tg X.env] := by rfl) : PS X (.Assign [tg] e pos) (tAsg te g) := by
  intro pins s σ H D I h
  refine wpAny_Assign_stores (thn (he pins s σ H _ I h) fun v s1 ⟨x, H1, I1, r1, q1⟩ => ?_) hs hw
  rw [h1]
  exact thn (hg pins s1 σ H1 x v _ I1 r1 q1) fun _ s2 q => q
/-- name = value -/
theorem ps_set {i : Nat} {x : Str} {e : Expr} {te : TE} {pos' : Pos} (hN : X.N.Nodup) (hi : X.N[i]? = some x) (hx : Loc X.env.scope x) (he : PE X e te) (hs : swapsWith e (some (.Name x pos')) pos.line X.env = pure false := by rfl) (hf : X.fn x = true ∨ X.env.scope.names.lookup x = some .local := by first | exact .inl rfl | exact .inr rfl | assumption) :
    PS X (.Assign [.Name x pos'] e pos) (tAsg te (gName i)) := by
  intro pins s σ H D I h
  refine wpAny_Assign_Name (thn (he pins s σ H _ I h) fun v s1 ⟨y, H1, I1, r1, q1⟩ => ?_) hs
  exact store_ok I1 hN hi hx r1 (fun s2 I2 => ⟨_, H1, I2, q1⟩) hf
/-- a, b = x, y with plain local names: stored from the right; the pair itself is not tracked (the opening rows as in PyProof/Rows/TupAssign.lean:23) -/
noncomputable def tPar (i j : Nat) (ta : TA) : TS := fun D σ H => ta σ H fun vs H1 => ∃ v w, vs = [v, w] ∧ D.nx ((σ.set i (some v)).set j (some w)) H1
theorem ps_par {i j : Nat} {x y : Str} {a b : Expr} {ta : TA} {px py pt : Pos} {kt k2 pt2} (hc : X.calm = true) (hN : X.N.Nodup) (hi : X.N[i]? = some x) (hj : X.N[j]? = some y) (hij : i ≠ j)
    (hx : X.env.scope.names.lookup x = some .local) (hy : X.env.scope.names.lookup y = some .local) (ha : PA X [a, b] ta)
    (hw : swappedStores [.Tuple [.Name x px, .Name y py] kt pt] (.Tuple [a, b] k2 pt2) X.env = pure (some [x, y]))
    (hs : swapsWithSole [.Tuple [.Name x px, .Name y py] kt pt] (.Tuple [a, b] k2 pt2) pos.line X.env = pure false := by rfl) :
    PS X (.Assign [.Tuple [.Name x px, .Name y py] kt pt] (.Tuple [a, b] k2 pt2) pos) (tPar i j ta) := by
  intro pins s σ H D I h
  rw [exec_Assign_arm]
  refine wpAny_bind (wpAny_standAt ?_)
  rw [hs]
  refine wpAny_bind (wpAny_pure ?_)
  rw [if_neg (by decide)]
  refine wpAny_bind (Tuple_ (thn (ha _ pins s σ H _ I h) fun us s1 ⟨vs, H1, I1, r1, q1⟩ => ?_))
  obtain ⟨v, w, e1, q1⟩ := q1
  subst e1
  obtain ⟨u1, u2, rfl, rv, rw'⟩ : ∃ u1 u2, us = [u1, u2] ∧ RelV v u1 ∧ RelV w u2 := by
    cases r1 with
    | cons p q =>
      cases q with
      | cons p' q' =>
        cases q'
        exact ⟨_, _, rfl, p, p'⟩
  refine wpAny_newObj_type ?_ (by show 2 ≤ sizeLine; decide)
  have I2 : Inv X pins σ H1 { s1 with heap := s1.heap.push { cls := .type "tuple", data := .seq [u1, u2].toArray } } := I1.kept (t' := s1.toks) fun b o e => Heap.get?_push_of_some _ e
  rw [hw]
  refine wpAny_bind (wpAny_pure ?_)
  show wpAny (model X.prog X.w) X.A (do rule "assign.swapped-stores"; let items ← unpackItems (.ref s1.heap.objs.size) 2 none; assignInOrder [fun v => bindName X.env y v, fun v => bindName X.env x v] items.reverse; pure Flow.next) _ _ _
  refine wpAny_bind (wpAny_rule (wpAny_bind (unpackItems_tuple (items := #[u1, u2]) (I.ok.hd hc) (IsTup.new s1.heap _) fun h' hx' => ?_)))
  have I3 := I2.kept (h' := h') (t' := s1.toks) fun b o e => hx' b o (Nat.ne_of_lt (Heap.lt_size e)) e
  show wpAny _ _ (assignInOrder [fun v => bindName X.env y v, fun v => bindName X.env x v] [u2, u1] >>= fun _ => pure Flow.next) _ _ _
  refine wpAny_bind (assignInOrder_cons (wpAny_bindName (store_ok I3 hN hj (.inl hy) rw' (fun s2 I4 => ?_) (.inr hy))))
  refine assignInOrder_cons (wpAny_bindName (store_ok I4 hN hi (.inl hx) rv (fun s3 I5 => assignInOrder_nil (wpAny_pure ?_)) (.inr hx)))
  rw [List.set_comm _ _ (Ne.symm hij)] at I5
  exact ⟨_, H1, I5, q1⟩
end

/-! ### while -/
section
variable {X : Cx} {pos : Pos}
/-- the invariant W with its measure -/
noncomputable def tWhile (c : TT) (tb : TS) : TS := fun D σ H => ∃ W : Nat → St → Hp → Prop, (∃ m, W m σ H) ∧ ∀ m σ H, W m σ H →
  c σ H fun b H1 => if b = true then ∃ N : St → Hp → Prop, (∀ σ' H', N σ' H' → ∃ m', m' < m ∧ W m' σ' H') ∧ tb { D with nx := N, ct := N, bk := D.nx } σ H1 else D.nx σ H1
theorem ps_while {c : Expr} {body : List Stmt} {tc : TT} {tb : TS} (hp : PassesOwn (model X.prog X.w) X.A X.env X.xe) (hc : PT X c tc) (hb : PSs X body tb) : PS X (.While c body [] pos) (tWhile tc tb) := by
  intro pins s σ H D I h
  obtain ⟨W, ⟨m0, w0⟩, turn⟩ := h
  refine wpAny_While (codeAny_whileLoop (fun n s' => ∃ σ' H', Inv X pins σ' H' s' ∧ W n σ' H') ?_ m0 ⟨σ, H, I, w0⟩)
  rintro n s1 ⟨σ1, H1, I1, w1⟩
  refine wpAny_passesOwn hp (thn (hc pins s1 σ1 H1 _ I1 (turn n σ1 H1 w1)) fun b s2 ⟨H2, I2, q2⟩ => ?_)
  cases b with
  | true =>
    obtain ⟨N, hN, q2⟩ := q2
    rw [if_pos rfl]
    refine wpAny_passesOwn hp (thn (hb pins s2 σ1 H2 _ I2 q2) fun f s3 q3 => ?_)
    cases f with
    | next =>
      obtain ⟨σ3, H3, I3, n3⟩ := q3
      obtain ⟨m', hm, w3⟩ := hN σ3 H3 n3
      exact ⟨m', hm, σ3, H3, I3, w3⟩
    | cont =>
      obtain ⟨σ3, H3, I3, n3⟩ := q3
      obtain ⟨m', hm, w3⟩ := hN σ3 H3 n3
      exact ⟨m', hm, σ3, H3, I3, w3⟩
    | brk => exact q3
    | ret v => exact q3
  | false =>
    rw [if_neg Bool.false_ne_true]
    exact wpAny_execs_nil ⟨σ1, H2, I2, q2⟩
end

/-! ### what a loop or a comprehension walks -/
/-- at turn i: it yields x (the heap may grow), or it stops -/
structure It where
  go : Nat → Hp → Prop
  yld : Nat → Hp → V → Hp → Prop
  stop : Nat → Hp → Prop
/-- the iterator's own objects may turn: they are not the frame's, not pinned, younger than the entry (or a comprehension's own) -/
noncomputable def FpOk (X : Cx) (pins : List (Addr × Obj)) (H : Hp) (b : Addr) : Prop :=
  H b = none ∧ b ≠ X.env.locals ∧ b ∉ X.fs ∧ (b ∈ X.ex ∨ X.s₀.heap.objs.size ≤ b) ∧ (∀ x c, X.env.cells.lookup x = some c → c ≠ b) ∧ ∀ p ∈ X.pn ++ pins, p.1 ≠ b
theorem Inv.fpOk {X : Cx} {pins : List (Addr × Obj)} {σ : St} {H H' : Hp} {s : Shared} {b : Addr} (I : Inv X pins σ H s) (hb : s.heap.objs.size ≤ b) (hn : H' b = none) : FpOk X pins H' b := by
  refine ⟨hn, Nat.ne_of_gt (Nat.lt_of_lt_of_le I.lt hb), I.nofs hb, .inr (Nat.le_trans I.sz hb), fun x c e z => ?_, fun p hp z => ?_⟩
  · obtain ⟨v, q⟩ := I.cell x c e
    exact absurd (Nat.lt_of_lt_of_le q.lt (by rw [z]; exact hb)) (Nat.lt_irrefl _)
  · exact absurd (Nat.lt_of_lt_of_le (Heap.lt_size (I.pin p hp).1) (by rw [z]; exact hb)) (Nat.lt_irrefl _)
structure Turn (P : Program) (w : World) (K : PySem.W.Frag) (tg : Expr) (J : It) (fp : List Addr) (it : Addr) (tn : Nat → Heap → Prop) : Prop where
  mem : it ∈ fp
  obj : ∀ i h, tn i h → ∀ b ∈ fp, ∃ o, h.get? b = some o ∧ ∀ v, o.data ≠ .cell v
  keep : ∀ i h h', tn i h → (∀ b ∈ fp, ∀ o, h.get? b = some o → h'.get? b = some o) → tn i h'
  item : ∀ (X : Cx), X.prog = P → X.w = w → X.K = K → X.calm = true → ∀ (i : Nat) (pins : List (Addr × Obj)) (s : Shared) (σ : St) (H : Hp) (E : Value → Shared → Prop), Inv X pins σ H s → (∀ b ∈ fp, FpOk X pins H b) → tn i s.heap → J.go i H →
    wpAny (model P w) X.A (pyNext (.ref it)) (fun r s1 => ∃ u, r = some u ∧
      wpAny (model P w) X.A (letOwnedTupleGo tg (.ref it) u) (fun _ s2 => ∃ x H', Inv X pins σ H' s2 ∧ RelV x u ∧ J.yld i H x H' ∧ tn (i + 1) s2.heap ∧ ∀ b ∈ fp, H' b = none) E s1) E s
  done : ∀ (X : Cx), X.prog = P → X.w = w → X.K = K → X.calm = true → ∀ (i : Nat) (pins : List (Addr × Obj)) (s : Shared) (σ : St) (H : Hp) (E : Value → Shared → Prop), Inv X pins σ H s → (∀ b ∈ fp, FpOk X pins H b) → tn i s.heap → J.stop i H →
    wpAny (model P w) X.A (pyNext (.ref it)) (fun r s1 => r = none ∧ Inv X pins σ H s1) E s
  self : ∀ (A : Around) (i : Nat) (s : Shared) (Q : Value → Shared → Prop) (E : Value → Shared → Prop), tn i s.heap → Q (.ref it) s → wpAny (model P w) A (pyIter (.ref it)) Q E s
noncomputable abbrev TI := St → Hp → (It → Hp → Prop) → Prop
/-- an iterator has come -/
noncomputable def PIE (X : Cx) (pins : List (Addr × Obj)) (σ : St) (tg : Expr) (R : It → Hp → Prop) (itv : Value) (s2 : Shared) : Prop :=
  ∃ (it : Addr) (fp : List Addr) (tn : Nat → Heap → Prop) (J : It) (H' : Hp), itv = .ref it ∧ Inv X pins σ H' s2 ∧ Turn X.prog X.w X.K tg J fp it tn ∧ tn 0 s2.heap ∧ (∀ b ∈ fp, FpOk X pins H' b) ∧ R J H'
noncomputable def PI (X : Cx) (tg iter : Expr) (wi : TI) : Prop :=
  ∀ (pins : List (Addr × Obj)) (s : Shared) (σ : St) (H : Hp) (R : It → Hp → Prop), Inv X pins σ H s → wi σ H R →
    wpAny (model X.prog X.w) X.A (eval iter X.env) (fun v s1 => wpAny (model X.prog X.w) X.A (pyIter v) (PIE X pins σ tg R) X.xe s1) X.xe s

/-- the step ahead of the store is nothing for an iterator that keeps no tuple -/
theorem go_of {M : Model} {A : Around} {E : Value → Shared → Prop} {s : Shared} {tg : Expr} {it : Addr} {u : Value} {o : Obj} {n : String} {vs : Array Value} {Q : Unit → Shared → Prop} (ho : s.heap.get? it = some o) (hc : o.cls = .type n) (hd : o.data = .fields vs)
    (hn : ["enumerate", "zip", "dict_itemiterator", "dict_reverseitemiterator", "odict_iterator", "itertools.zip_longest", "itertools.pairwise"].contains n = false) (hQ : Q () s) : wpAny M A (letOwnedTupleGo tg (.ref it) u) Q E s := by
  unfold letOwnedTupleGo
  cases tg <;> first
    | exact wpAny_pure hQ
    | (cases u <;> first
        | exact wpAny_pure hQ
        | (refine wpAny_bind (wpAny_load ho ?_)
           rw [hc, hd]
           show wpAny M A (if (["enumerate", "zip", "dict_itemiterator", "dict_reverseitemiterator", "odict_iterator", "itertools.zip_longest", "itertools.pairwise"].contains n && vs[0]? == some (rawInt _)) = true then _ else _) Q E s
           rw [if_neg (by intro h; rw [hn, Bool.false_and] at h; cases h)]
           exact wpAny_pure hQ))

/-- the list at a, as it stands at each turn (a loop may append to it) -/
noncomputable def Itl (K : PySem.W.Frag) (a : Addr) : It :=
  ⟨fun i H => ∃ xs x, SqL K H a xs ∧ xs[i]? = some x, fun i H x H' => H' = H ∧ ∀ xs, SqL K H a xs → xs[i]? = some x, fun i H => ∃ xs, SqL K H a xs ∧ xs.length ≤ i⟩
noncomputable def Itt (K : PySem.W.Frag) (a : Addr) : It :=
  ⟨fun i H => ∃ xs x, SqT K H a xs ∧ xs[i]? = some x, fun i H x H' => H' = H ∧ ∀ xs, SqT K H a xs → xs[i]? = some x, fun i H => ∃ xs, SqT K H a xs ∧ xs.length ≤ i⟩
/-- lo, lo + 1, .. (n of them) -/
noncomputable def Itr (lo : Int) (n : Nat) : It := ⟨fun i _ => i < n, fun i H x H' => H' = H ∧ x = .int (lo + i), fun i _ => n ≤ i⟩
theorem turn_list {P : Program} {w : World} {K : PySem.W.Frag} {tg : Expr} (a it : Addr) : Turn P w K tg (Itl K a) [it] it (fun i h => h.IsListIter it a i) where
  mem := by simp
  obj := fun i h st b hb => by
    have e : b = it := by simpa using hb
    subst e
    obtain ⟨o, e, c, d⟩ := st
    exact ⟨o, e, fun v z => by rw [d] at z; cases z⟩
  keep := fun i h h' st k => st.at fun o e => k it (by simp) o e
  item := by
    intro X hP hw hK hc i pins s σ H E I hf st hg
    subst hP hw hK
    obtain ⟨xs, x, hq, hx⟩ := hg
    obtain ⟨its, rv, p, hz⟩ := I.list hq
    obtain ⟨u, hu, ru⟩ := rv.get hx
    obtain ⟨f0, f1, f2, f3, f4, f5⟩ := hf it (by simp)
    refine wpAny_pyNext_list_item st p.isList (x := u) (by simpa using hu) fun h' st' sb => ?_
    have I1 : Inv X pins σ H { s with heap := h' } := I.turned (t' := s.toks) (fun b o hb e => (sb.2 b hb).trans e) f0 f1 f3 f4 f5
    obtain ⟨o, e, c, d⟩ := id st'
    exact ⟨u, rfl, go_of (s := { s with heap := h' }) e c d (by decide) ⟨x, H, I1, ru, ⟨rfl, fun ys hy => by rw [I.list_inj hy hq]; exact hx⟩, st', fun b hb => (hf b hb).1⟩⟩
  done := by
    intro X hP hw hK hc i pins s σ H E I hf st hg
    subst hP hw hK
    obtain ⟨xs, hq, hx⟩ := hg
    obtain ⟨its, rv, p, hz⟩ := I.list hq
    obtain ⟨f0, f1, f2, f3, f4, f5⟩ := hf it (by simp)
    have hl := rv.length
    exact wpAny_pyNext_list_end (I.ok.hd hc) st p.isList (by simp; omega) fun h' eb => ⟨rfl, I.turned (t' := s.toks) (fun b o hb e => eb b o hb e) f0 f1 f3 f4 f5⟩
  self := fun _ _ _ _ _ st h => wpAny_pyIter_listiter st h
theorem turn_tuple {P : Program} {w : World} {K : PySem.W.Frag} {tg : Expr} (a it : Addr) : Turn P w K tg (Itt K a) [it] it (fun i h => h.IsTupleIter it a i) where
  mem := by simp
  obj := fun i h st b hb => by
    have e : b = it := by simpa using hb
    subst e
    obtain ⟨o, e, c, d⟩ := st
    exact ⟨o, e, fun v z => by rw [d] at z; cases z⟩
  keep := fun i h h' st k => st.at fun o e => k it (by simp) o e
  item := by
    intro X hP hw hK hc i pins s σ H E I hf st hg
    subst hP hw hK
    obtain ⟨xs, x, hq, hx⟩ := hg
    obtain ⟨its, rv, p, hz⟩ := I.tuple hq
    obtain ⟨u, hu, ru⟩ := rv.get hx
    obtain ⟨f0, f1, f2, f3, f4, f5⟩ := hf it (by simp)
    refine wpAny_pyNext_tuple_item st (show s.heap.IsTuple a its.toArray from p) (x := u) (by simpa using hu) fun h' st' sb => ?_
    have I1 : Inv X pins σ H { s with heap := h' } := I.turned (t' := s.toks) (fun b o hb e => (sb.2 b hb).trans e) f0 f1 f3 f4 f5
    obtain ⟨o, e, c, d⟩ := id st'
    exact ⟨u, rfl, go_of (s := { s with heap := h' }) e c d (by decide) ⟨x, H, I1, ru, ⟨rfl, fun ys hy => by rw [I.tuple_inj hy hq]; exact hx⟩, st', fun b hb => (hf b hb).1⟩⟩
  done := by
    intro X hP hw hK hc i pins s σ H E I hf st hg
    subst hP hw hK
    obtain ⟨xs, hq, hx⟩ := hg
    obtain ⟨its, rv, p, hz⟩ := I.tuple hq
    obtain ⟨f0, f1, f2, f3, f4, f5⟩ := hf it (by simp)
    have hl := rv.length
    exact wpAny_pyNext_tuple_end (I.ok.hd hc) st (show s.heap.IsTuple a its.toArray from p) (by simp; omega) fun h' eb => ⟨rfl, I.turned (t' := s.toks) (fun b o hb e => eb b o hb e) f0 f1 f3 f4 f5⟩
  self := fun _ _ _ _ _ st h => wpAny_pyIter_tupleiter st h
theorem turn_range {P : Program} {w : World} {K : PySem.W.Frag} {tg : Expr} (it : Addr) (lo : Int) (n : Nat) : Turn P w K tg (Itr lo n) [it] it (fun i h => IsRangeIter h it (lo + (i : Nat) * 1) ((n : Int) - (i : Nat)) 1) where
  mem := by simp
  obj := fun i h st b hb => by
    have e : b = it := by simpa using hb
    subst e
    exact ⟨_, st, fun v z => by
      have z' : Data.fields _ = Data.cell v := z
      cases z'⟩
  keep := fun i h h' st k => k it (by simp) _ st
  item := by
    intro X hP hw hK hc i pins s σ H E I hf st hg
    subst hP hw hK
    obtain ⟨f0, f1, f2, f3, f4, f5⟩ := hf it (by simp)
    have W := Walks.range (prog := X.prog) (w := X.w) (I.ok.hd hc) it lo 1 n
    refine W.item i s _ _ hg st fun v h' tk hv st' kk => ?_
    obtain ⟨t, rfl⟩ := hv
    have I1 : Inv X pins σ H { s with heap := h', toks := tk } := I.turned (fun b o hb e => kk b o (by simpa using hb) e) f0 f1 f3 f4 f5
    refine ⟨_, rfl, go_of (s := { s with heap := h', toks := tk }) (n := "range_iterator") st' rfl rfl (by decide) ⟨.int (lo + i), H, I1, ⟨t, ?_⟩, ⟨rfl, rfl⟩, st', fun b hb => (hf b hb).1⟩⟩
    rw [Int.mul_one]
  done := by
    intro X hP hw hK hc i pins s σ H E I hf st hg
    subst hP hw hK
    obtain ⟨f0, f1, f2, f3, f4, f5⟩ := hf it (by simp)
    exact wpAny_pyNext_range_end (I.ok.hd hc) st (by have : n ≤ i := hg; omega) fun h' eb => ⟨rfl, I.turned (t' := s.toks) (fun b o hb e => eb b o hb e) f0 f1 f3 f4 f5⟩
  self := fun _ _ _ _ _ st h => wpAny_pyIter_rangeiter st h
end L2

namespace L2
open PySem PySem.Spec PyProof.Rows
section
variable {X : Cx} {tg : Expr}
/-- a range object just made, walked -/
theorem range_it {pins : List (Addr × Obj)} {σ : St} {H : Hp} {s : Shared} {R : It → Hp → Prop} {E : Value → Shared → Prop} {lo hi : Int} {t u v : Tok} {tk : Nat} (I : Inv X pins σ H s) (h1 : -(2 ^ 62) ≤ lo) (h2 : lo < 2 ^ 62) (h3 : -(2 ^ 62) ≤ hi) (h4 : hi < 2 ^ 62)
    (q : R (Itr lo (hi - lo).toNat) H) : wpAny (model X.prog X.w) X.A (pyIter (.ref s.heap.objs.size)) (PIE X pins σ tg R) E { s with heap := s.heap.push { cls := .type "range", data := .fields #[.int lo t, .int hi u, .int 1 v] }, toks := tk } := by
  refine wpAny_pyIter_range (IsRange.new ..) (small_one h1 h2 h3 h4) ?_
  have I1 : Inv X pins σ H { s with heap := s.heap.push { cls := .type "range", data := .fields #[.int lo t, .int hi u, .int 1 v] }, toks := tk } := I.kept fun b o e => Heap.get?_push_of_some _ e
  refine ⟨(s.heap.push { cls := .type "range", data := .fields #[.int lo t, .int hi u, .int 1 v] }).objs.size, [(s.heap.push { cls := .type "range", data := .fields #[.int lo t, .int hi u, .int 1 v] }).objs.size], _, _, H, rfl,
    I1.kept (t' := tk) fun b o e => Heap.get?_push_of_some _ e, turn_range _ lo (hi - lo).toNat, ?_, fun b hb => ?_, q⟩
  · have e1 : lo + ((0 : Nat) : Int) * 1 = lo := by simp
    have e2 : (((hi - lo).toNat : Nat) : Int) - ((0 : Nat) : Int) = Builtin.Range.rangeSize lo hi 1 := by rw [rangeSize_one]; split <;> omega
    show IsRangeIter _ _ (lo + ((0 : Nat) : Int) * 1) ((((hi - lo).toNat : Nat) : Int) - ((0 : Nat) : Int)) 1
    rw [e1, e2]
    exact Heap.get?_push_size _ rfl
  · have e : b = (s.heap.push { cls := .type "range", data := .fields #[.int lo t, .int hi u, .int 1 v] }).objs.size := by simpa using hb
    subst e
    exact I1.fpOk (Nat.le_refl _) (I1.hok.fresh (Nat.le_refl _))
noncomputable def iRng1 (ta : TA) : TI := fun σ H R => ta σ H fun vs H1 => ∃ j : Int, vs = [.int j] ∧ -(2 ^ 62) ≤ j ∧ j < 2 ^ 62 ∧ R (Itr 0 j.toNat) H1
theorem pi_range1 {a : Expr} {ta : TA} {p pos : Pos} (hg : Gl X "range") (hm : X.mg "range" = none) (ha : PA X [a] ta) (hs : starEach [a] X.env = [(false, eval a X.env)] := by rfl) : PI X tg (.Call (.Name "range" p) [a] [] pos) (iRng1 ta) := by
  intro pins s σ H R I h
  refine Call_ (ld_blt I hg hm boot_range (PyProof.Rows.callWith_type1 (thn (ha pos pins s σ H _ I h) fun us s1 ⟨vs, H1, I1, r1, q1⟩ => ?_) hs rfl))
  obtain ⟨j, e, q1, q2, q⟩ := q1
  subst e
  cases r1 with
  | cons r rr =>
    cases rr
    obtain ⟨t, rfl⟩ := r
    exact call_range_1 (range_it I1 (by omega) (by omega) q1 q2 (by simpa using q))
/-! ### for -/
/-- W: the invariant by the turn and a measure; N: what the body is to reach -/
noncomputable def tFor (wi : TI) (g : TG) (tb : TS) : TS := fun D σ H => wi σ H fun J H1 => ∃ W : Nat → Nat → St → Hp → Prop, (∃ m, W 0 m σ H1) ∧ ∀ i m σ H, W i m σ H →
  (J.stop i H ∧ D.nx σ H) ∨ (J.go i H ∧ ∃ N : St → Hp → Prop, (∀ σ' H', N σ' H' → ∃ m', m' < m ∧ W (i + 1) m' σ' H') ∧ ∀ x H', J.yld i H x H' → g x σ H' fun σ2 H2 => tb { D with nx := N, ct := N, bk := D.nx } σ2 H2)
/-- the records at fp as they stand -/
noncomputable def pinsAt (fp : List Addr) (h : Heap) : List (Addr × Obj) := fp.filterMap fun b => (h.get? b).map fun o => (b, o)
theorem mem_pinsAt {fp : List Addr} {h : Heap} {b : Addr} {o : Obj} (hb : b ∈ fp) (e : h.get? b = some o) : (b, o) ∈ pinsAt fp h := List.mem_filterMap.mpr ⟨b, hb, by rw [e]; rfl⟩
theorem of_pinsAt {fp : List Addr} {h : Heap} {p : Addr × Obj} (hp : p ∈ pinsAt fp h) : p.1 ∈ fp ∧ h.get? p.1 = some p.2 := by
  obtain ⟨b, hb, e⟩ := List.mem_filterMap.mp hp
  cases q : h.get? b with
  | none => rw [q] at e; cases e
  | some o =>
    rw [q] at e
    have e' : (b, o) = p := Option.some.inj e
    subst e'
    exact ⟨hb, q⟩
theorem Inv.pinned {pins : List (Addr × Obj)} {σ : St} {H : Hp} {s : Shared} {fp : List Addr} (I : Inv X pins σ H s) (hf : ∀ b ∈ fp, FpOk X pins H b) (ho : ∀ b ∈ fp, ∃ o, s.heap.get? b = some o ∧ ∀ v, o.data ≠ .cell v) : Inv X (pins ++ pinsAt fp s.heap) σ H s :=
  I.pins_of fun p hp => (List.mem_append.mp hp).elim (fun z => I.pin p (List.mem_append_right _ z)) fun z => by
    obtain ⟨hb, e⟩ := of_pinsAt z
    obtain ⟨f0, f1, f2, _⟩ := hf p.1 hb
    obtain ⟨o, e', d⟩ := ho p.1 hb
    rw [e] at e'; cases e'
    exact ⟨e, f0, f1, f2, d⟩
theorem Inv.unpinned {pins pl : List (Addr × Obj)} {σ : St} {H : Hp} {s : Shared} (I : Inv X (pins ++ pl) σ H s) : Inv X pins σ H s := I.pins_of fun p hp => I.pin p (List.mem_append_right _ (List.mem_append_left _ hp))
theorem ps_for {iter : Expr} {body : List Stmt} {wi : TI} {g : TG} {tb : TS} {pos : Pos} (hp : PassesOwn (model X.prog X.w) X.A X.env X.xe) (hc : X.calm = true) (hi : PI X tg iter wi) (hg : PG X tg g) (hb : PSs X body tb)
    (hs : ∀ x, foldedSetIterable iter X.env x = pure x := by intro _; rfl) : PS X (.For tg iter body [] pos) (tFor wi g tb) := by
  intro pins s σ H D I h
  refine wpAny_For (thn (hi pins s σ H _ I h) fun v s1 h1 => thn h1 fun itv s2 h2 => ?_) hs
  obtain ⟨it, fp, tn, J, H2, e, I2, T, st2, f2, W, ⟨m0, w0⟩, turn⟩ := h2
  subst e
  -- what stays true of the iterator's objects through the loop
  have stat : ∀ {H' : Hp}, (∀ b ∈ fp, H' b = none) → ∀ b ∈ fp, FpOk X pins H' b := fun hn b hb => ⟨hn b hb, (f2 b hb).2⟩
  refine codeAny_forLoop_any (fun n s' => ∃ i σ' H', Inv X pins σ' H' s' ∧ tn i s'.heap ∧ (∀ b ∈ fp, H' b = none) ∧ W i n σ' H') ?_ m0 ⟨0, σ, H2, I2, st2, fun b hb => (f2 b hb).1, w0⟩
  rintro n s3 ⟨i, σ3, H3, I3, st3, fr3, w3⟩
  rcases turn i n σ3 H3 w3 with ⟨stop, qn⟩ | ⟨go, N, hN, step⟩
  · refine wpAny_passesOwn hp (thn (T.done X rfl rfl rfl hc i pins s3 σ3 H3 X.xe I3 (stat fr3) st3 stop) fun r s4 ⟨hr, I4⟩ => ?_)
    subst hr
    exact wpAny_execs_nil ⟨σ3, H3, I4, qn⟩
  · refine wpAny_passesOwn hp (thn (T.item X rfl rfl rfl hc i pins s3 σ3 H3 X.xe I3 (stat fr3) st3 go) fun r s4 ⟨u, hr, h4⟩ => ?_)
    subst hr
    refine wpAny_passesOwn hp (thn h4 fun _ s5 ⟨x, H5, I5, r5, y5, st5, fr5⟩ => ?_)
    have I5' := I5.pinned (stat fr5) (T.obj _ _ st5)
    refine wpAny_passesOwn hp (thn (hg _ s5 σ3 H5 x u _ I5' r5 (step x H5 y5)) fun _ s6 ⟨σ6, H6, I6, q6⟩ => ?_)
    refine wpAny_passesOwn hp (thn (hb _ s6 σ6 H6 _ I6 q6) fun f s7 q7 => ?_)
    have again : ∀ {σ7 : St} {H7 : Hp}, Inv X (pins ++ pinsAt fp s5.heap) σ7 H7 s7 → N σ7 H7 → ∃ m, m < n ∧ ∃ i σ' H', Inv X pins σ' H' s7 ∧ tn i s7.heap ∧ (∀ b ∈ fp, H' b = none) ∧ W i m σ' H' := fun {σ7 H7} I7 n7 => by
      obtain ⟨m', hm, w7⟩ := hN σ7 H7 n7
      refine ⟨m', hm, i + 1, σ7, H7, I7.unpinned, T.keep _ _ _ st5 fun b hb o e => (I7.pin (b, o) (List.mem_append_right _ (List.mem_append_right _ (mem_pinsAt hb e)))).1, fun b hb => ?_, w7⟩
      obtain ⟨o, e, d⟩ := T.obj _ _ st5 b hb
      exact (I7.pin (b, o) (List.mem_append_right _ (List.mem_append_right _ (mem_pinsAt hb e)))).2.1
    cases f with
    | next => obtain ⟨σ7, H7, I7, n7⟩ := q7; exact again I7 n7
    | cont => obtain ⟨σ7, H7, I7, n7⟩ := q7; exact again I7 n7
    | brk => obtain ⟨σ7, H7, I7, q7⟩ := q7; exact ⟨σ7, H7, I7.unpinned, q7⟩
    | ret v => obtain ⟨x7, σ7, H7, I7, r7, q7⟩ := q7; exact ⟨x7, σ7, H7, I7.unpinned, r7, q7⟩
end

/-! ### the forms one uses -/
end L2

namespace L2
open PySem PySem.Spec PyProof.Rows

noncomputable abbrev R2 := V → V → Hp → VK → Prop
/-- a two-place operation on values: f is binaryOp op, inplaceOp op or compareOp op -/
noncomputable def OpR (X : Cx) (f : Value → Value → Sem Value) (r : R2) : Prop :=
  ∀ (pins : List (Addr × Obj)) (s : Shared) (σ : St) (H : Hp) (x y : V) (v u : Value) (Q : VK), Inv X pins σ H s → RelV x v → RelV y u → r x y H Q →
    wpAny (model X.prog X.w) X.A (f v u) (EP X pins σ Q) X.xe s
/-- a one-place operation -/
noncomputable def UnR (X : Cx) (f : Value → Sem Value) (r : V → Hp → VK → Prop) : Prop :=
  ∀ (pins : List (Addr × Obj)) (s : Shared) (σ : St) (H : Hp) (x : V) (v : Value) (Q : VK), Inv X pins σ H s → RelV x v → r x H Q →
    wpAny (model X.prog X.w) X.A (f v) (EP X pins σ Q) X.xe s
/-- a call of a value that is known (a builtin, a type) with values -/
noncomputable def CallR (X : Cx) (f : Value) (r : List V → Hp → VK → Prop) : Prop :=
  ∀ (pins : List (Addr × Obj)) (s : Shared) (σ : St) (H : Hp) (xs : List V) (us : List Value) (Q : VK), Inv X pins σ H s → Vals xs us → r xs H Q →
    wpAny (model X.prog X.w) X.A (call f us) (EP X pins σ Q) X.xe s
noncomputable def tOp (r : R2) (ta tb : TE) : TE := fun σ H Q => ta σ H fun x H1 => tb σ H1 fun y H2 => r x y H2 Q
noncomputable def tUn (r : V → Hp → VK → Prop) (ta : TE) : TE := fun σ H Q => ta σ H fun x H1 => r x H1 Q
/-- ints in, under C, and a value out -/
noncomputable def rI (C : Int → Int → Prop) (g : Int → Int → V) : R2 := fun x y H Q => ∃ i j, x = .int i ∧ y = .int j ∧ C i j ∧ Q (g i j) H
noncomputable def rI0 (g : Int → Int → V) : R2 := fun x y H Q => ∃ i j, x = .int i ∧ y = .int j ∧ Q (g i j) H
noncomputable def rU (g : Int → V) : V → Hp → VK → Prop := fun x H Q => ∃ i, x = .int i ∧ Q (g i) H

section
variable {X : Cx} {a b c : Expr} {ta tb tc : TE} {pos : Pos}

theorem binT (ha : PE X a ta) (hb : PE X b tb) {pins : List (Addr × Obj)} {s : Shared} {σ : St} {H : Hp} {R : V → V → Hp → Prop} (I : Inv X pins σ H s)
    (h : ta σ H fun x H1 => tb σ H1 fun y H2 => R x y H2) {Q : Value → Shared → Prop} {f : Value → Value → Sem Value}
    (hf : ∀ v u s2 x y H2, Inv X pins σ H2 s2 → RelV x v → RelV y u → R x y H2 → wpAny (model X.prog X.w) X.A (f v u) Q X.xe s2) :
    wpAny (model X.prog X.w) X.A (eval a X.env) (fun v s₁ => wpAny (model X.prog X.w) X.A (eval b X.env) (fun u s₂ => wpAny (model X.prog X.w) X.A (f v u) Q X.xe s₂) X.xe s₁) X.xe s := by
  refine thn (ha pins s σ H _ I h) fun v s1 ⟨x, H1, I1, r1, q1⟩ => ?_
  refine thn (hb pins s1 σ H1 _ I1 q1) fun u s2 ⟨y, H2, I2, r2, q2⟩ => ?_
  exact hf v u s2 x y H2 I2 r1 r2 q2

theorem pe_op {op : Operator} {r : R2} (ho : OpR X (binaryOp op) r) (ha : PE X a ta) (hb : PE X b tb) : PE X (.BinOp a op b pos) (tOp r ta tb) := by
  intro pins s σ H Q I h
  exact wpAny_BinOp (binT ha hb I h fun v u s2 x y H2 I2 rx ry q => ho pins s2 σ H2 x y v u Q I2 rx ry q)
theorem pe_un {op : UnaryOp} {r : V → Hp → VK → Prop} (ho : UnR X (unaryOp op) r) (ha : PE X a ta) : PE X (.UnaryOp op a pos) (tUn r ta) := by
  intro pins s σ H Q I h
  exact UnaryOp_ (thn (ha pins s σ H _ I h) fun v s1 ⟨x, H1, I1, r1, q1⟩ => ho pins s1 σ H1 x v Q I1 r1 q1)
/-! ### ints -/
theorem opI {f : Value → Value → Sem Value} {C : Int → Int → Prop} {g : Int → Int → Int}
    (rule : ∀ (i j : Int) (t u : Tok) (s : Shared) (Q : Value → Shared → Prop) (E : Value → Shared → Prop), C i j → Q (.int (g i j) s.toks) { s with toks := s.toks + 1 } → wpAny (model X.prog X.w) X.A (f (.int i t) (.int j u)) Q E s) :
    OpR X f (rI C fun i j => .int (g i j)) := by
  intro pins s σ H x y v u Q I rx ry h
  obtain ⟨i, j, rfl, rfl, hc, q⟩ := h
  obtain ⟨t, rfl⟩ := rx
  obtain ⟨t', rfl⟩ := ry
  exact rule i j t t' s _ _ hc ⟨.int (g i j), H, I.tok _, ⟨_, rfl⟩, q⟩
theorem opI0 {f : Value → Value → Sem Value} {g : Int → Int → Int}
    (rule : ∀ (i j : Int) (t u : Tok) (s : Shared) (Q : Value → Shared → Prop) (E : Value → Shared → Prop), Q (.int (g i j) s.toks) { s with toks := s.toks + 1 } → wpAny (model X.prog X.w) X.A (f (.int i t) (.int j u)) Q E s) :
    OpR X f (rI0 fun i j => .int (g i j)) := by
  intro pins s σ H x y v u Q I rx ry h
  obtain ⟨i, j, rfl, rfl, q⟩ := h
  obtain ⟨t, rfl⟩ := rx
  obtain ⟨t', rfl⟩ := ry
  exact rule i j t t' s _ _ ⟨.int (g i j), H, I.tok _, ⟨_, rfl⟩, q⟩
theorem opB0 {f : Value → Value → Sem Value} {g : Int → Int → Bool}
    (rule : ∀ (i j : Int) (t u : Tok) (s : Shared) (Q : Value → Shared → Prop) (E : Value → Shared → Prop), Q (.bool (g i j)) s → wpAny (model X.prog X.w) X.A (f (.int i t) (.int j u)) Q E s) :
    OpR X f (rI0 fun i j => .bl (g i j)) := by
  intro pins s σ H x y v u Q I rx ry h
  obtain ⟨i, j, rfl, rfl, q⟩ := h
  obtain ⟨t, rfl⟩ := rx
  obtain ⟨t', rfl⟩ := ry
  exact rule i j t t' s _ _ ⟨.bl (g i j), H, I, rfl, q⟩

noncomputable def CDiv (i j : Int) : Prop := 0 < j ∧ j < 1073741824
noncomputable def CPow (i j : Int) : Prop := 0 ≤ j ∧ j ≤ 1000000 ∧ i.natAbs < 2 ^ 64
noncomputable def CMul (i j : Int) : Prop := (-(2 ^ 64) < i ∧ i < 2 ^ 64) ∨ (-(2 ^ 64) < j ∧ j < 2 ^ 64)
theorem CMul.ok {i j : Int} (h : CMul i j) : IntMulOk i j := by
  rcases h with ⟨h1, h2⟩ | ⟨h1, h2⟩
  · exact .of_left (intBits_le_64 h1 h2)
  · exact .of_right (intBits_le_64 h1 h2)
theorem op_add : OpR X (binaryOp .Add) (rI0 fun i j => .int (i + j)) := opI0 fun _ _ _ _ _ _ _ q => add_int q
theorem op_sub : OpR X (binaryOp .Sub) (rI0 fun i j => .int (i - j)) := opI0 fun _ _ _ _ _ _ _ q => sub_int q
theorem op_mul : OpR X (binaryOp .Mult) (rI CMul fun i j => .int (i * j)) := opI fun _ _ _ _ _ _ _ hc q => mul_int q hc.ok
/-- // by a positive divisor -/
theorem op_fdiv : OpR X (binaryOp .FloorDiv) (rI CDiv fun i j => .int (i / j)) := opI fun i j _ _ _ _ _ hc q => by
  have h1 : (0 : Int) < j := hc.1
  have h2 : j < 1073741824 := hc.2
  exact floordiv_int (by omega) (by rw [Int.fdiv_eq_ediv_of_nonneg i (by omega)]; exact q) (.inl (PyProof.noPylong_small (by omega)))
/-- % by a positive divisor of any size -/
theorem op_mod : OpR X (binaryOp .Mod) (rI (fun _ j => 0 < j) fun i j => .int (i % j)) := opI fun i j _ _ _ _ _ hc q => by
  have h1 : (0 : Int) < j := hc
  exact mod_int' (by omega) (by rw [Int.fmod_eq_emod_of_nonneg i (by omega)]; exact q)
theorem op_pow : OpR X (binaryOp .Pow) (rI CPow fun i j => .int (i ^ j.toNat)) := opI fun _ _ _ _ _ _ _ hc q => pow_int_small hc.1 hc.2.1 hc.2.2 q
theorem unI {f : Value → Sem Value} {g : Int → Int}
    (rule : ∀ (i : Int) (t : Tok) (s : Shared) (Q : Value → Shared → Prop) (E : Value → Shared → Prop), Q (.int (g i) s.toks) { s with toks := s.toks + 1 } → wpAny (model X.prog X.w) X.A (f (.int i t)) Q E s) :
    UnR X f (rU fun i => .int (g i)) := by
  intro pins s σ H x v Q I rx h
  obtain ⟨i, rfl, q⟩ := h
  obtain ⟨t, rfl⟩ := rx
  exact rule i t s _ _ ⟨.int (g i), H, I.tok _, ⟨_, rfl⟩, q⟩
theorem un_neg : UnR X (unaryOp .USub) (rU fun i => .int (-i)) := unI fun _ _ _ _ _ q => neg_int q
/-! ### bools among ints: n += (a < b) -/
end

/-! ### comparisons -/
/-- the scalars that == tells apart as data does -/
noncomputable def scal : V → V → Bool
  | .non, .non => true | .non, .int _ => true | .int _, .non => true | .non, .bl _ => true | .bl _, .non => true | .non, .str _ => true | .str _, .non => true
  | .int _, .int _ => true | .bl _, .bl _ => true | .str _, .str _ => true | .byt _, .byt _ => true
  | .int _, .str _ => true | .str _, .int _ => true | .bl _, .str _ => true | .str _, .bl _ => true
  | _, _ => false
noncomputable def rEq : R2 := fun x y H Q => scal x y = true ∧ Q (.bl (decide (x = y))) H
noncomputable def rNe : R2 := fun x y H Q => scal x y = true ∧ Q (.bl (!decide (x = y))) H

theorem dec_int {i j : Int} : decide (V.int i = V.int j) = (i == j) := by
  rw [Bool.eq_iff_iff]
  simp
theorem dec_bl {i j : Bool} : decide (V.bl i = V.bl j) = (i == j) := by
  rw [Bool.eq_iff_iff]
  simp
theorem dec_str {i j : Str} : decide (V.str i = V.str j) = (i == j) := by
  rw [Bool.eq_iff_iff]
  simp
theorem dec_byt {i j : Array UInt8} : decide (V.byt i = V.byt j) = (i.toList == j.toList) := by
  rw [Bool.eq_iff_iff]
  cases i
  cases j
  simp

section
variable {X : Cx} {a b c : Expr} {ta tb tc : TE} {pos : Pos}
theorem fin_bl {pins : List (Addr × Obj)} {σ : St} {H : Hp} {s : Shared} {Q : VK} {k k' : Bool} (I : Inv X pins σ H s) (q : Q (.bl k) H) (e : k = k') : EP X pins σ Q (.bool k') s := by
  subst e
  exact ⟨.bl k, H, I, rfl, q⟩
theorem op_eq : OpR X (compareOp .Eq) rEq := by
  intro pins s σ H x y v u Q I rx ry h
  obtain ⟨hs, q⟩ := h
  cases x with
  | non =>
    cases rx
    cases y with
    | non => cases ry; exact PySem.EqNone.eq_none_none (fin_bl I q (by simp))
    | bl j => cases ry; exact PySem.EqNone.eq_none_bool (fin_bl I q (by simp))
    | int j => obtain ⟨t', rfl⟩ := ry; exact PySem.EqNone.eq_none_int (fin_bl I q (by simp))
    | str j => obtain ⟨t', rfl⟩ := ry; exact PySem.EqNone.eq_none_str (fin_bl I q (by simp))
    | _ => exact absurd (show false = true from hs) Bool.false_ne_true
  | bl i =>
    cases rx
    cases y with
    | non => cases ry; exact PySem.EqNone.eq_bool_none (fin_bl I q (by simp))
    | bl j => cases ry; exact eq_bool (fin_bl I q dec_bl)
    | str j => obtain ⟨t', rfl⟩ := ry; exact PySem.EqMixed.eq_bool_str (fin_bl I q (by simp))
    | _ => exact absurd (show false = true from hs) Bool.false_ne_true
  | int i =>
    obtain ⟨t, rfl⟩ := rx
    cases y with
    | non => cases ry; exact PySem.EqNone.eq_int_none (fin_bl I q (by simp))
    | int j => obtain ⟨t', rfl⟩ := ry; exact eq_int (fin_bl I q dec_int)
    | str j => obtain ⟨t', rfl⟩ := ry; exact PySem.EqMixed.eq_int_str (fin_bl I q (by simp))
    | _ => exact absurd (show false = true from hs) Bool.false_ne_true
  | str i =>
    obtain ⟨t, rfl⟩ := rx
    cases y with
    | non => cases ry; exact PySem.EqNone.eq_str_none (fin_bl I q (by simp))
    | bl j => cases ry; exact PySem.EqMixed.eq_str_bool (fin_bl I q (by simp))
    | int j => obtain ⟨t', rfl⟩ := ry; exact PySem.EqMixed.eq_str_int (fin_bl I q (by simp))
    | str j => obtain ⟨t', rfl⟩ := ry; exact eq_str (fin_bl I q dec_str)
    | _ => exact absurd (show false = true from hs) Bool.false_ne_true
  | byt i =>
    obtain ⟨t, rfl⟩ := rx
    cases y with
    | byt j => obtain ⟨t', rfl⟩ := ry; exact PySem.W.eq_bytes (fin_bl I q dec_byt)
    | _ => exact absurd (show false = true from hs) Bool.false_ne_true
  | _ => cases y <;> exact absurd (show false = true from hs) Bool.false_ne_true
theorem op_ne : OpR X (compareOp .NotEq) rNe := by
  intro pins s σ H x y v u Q I rx ry h
  obtain ⟨hs, q⟩ := h
  cases x with
  | non =>
    cases rx
    cases y with
    | non => cases ry; exact PySem.EqNone.ne_none_none (fin_bl I q (by simp))
    | bl j => cases ry; exact PySem.EqNone.ne_none_bool (fin_bl I q (by simp))
    | int j => obtain ⟨t', rfl⟩ := ry; exact PySem.EqNone.ne_none_int (fin_bl I q (by simp))
    | str j => obtain ⟨t', rfl⟩ := ry; exact PySem.EqNone.ne_none_str (fin_bl I q (by simp))
    | _ => exact absurd (show false = true from hs) Bool.false_ne_true
  | bl i =>
    cases rx
    cases y with
    | non => cases ry; exact PySem.EqNone.ne_bool_none (fin_bl I q (by simp))
    | bl j => cases ry; exact ne_bool (fin_bl I q (congrArg not dec_bl))
    | str j => obtain ⟨t', rfl⟩ := ry; exact PySem.EqMixed.ne_bool_str (fin_bl I q (by simp))
    | _ => exact absurd (show false = true from hs) Bool.false_ne_true
  | int i =>
    obtain ⟨t, rfl⟩ := rx
    cases y with
    | non => cases ry; exact PySem.EqNone.ne_int_none (fin_bl I q (by simp))
    | int j => obtain ⟨t', rfl⟩ := ry; exact ne_int (fin_bl I q (congrArg not dec_int))
    | str j => obtain ⟨t', rfl⟩ := ry; exact PySem.EqMixed.ne_int_str (fin_bl I q (by simp))
    | _ => exact absurd (show false = true from hs) Bool.false_ne_true
  | str i =>
    obtain ⟨t, rfl⟩ := rx
    cases y with
    | non => cases ry; exact PySem.EqNone.ne_str_none (fin_bl I q (by simp))
    | bl j => cases ry; exact PySem.EqMixed.ne_str_bool (fin_bl I q (by simp))
    | int j => obtain ⟨t', rfl⟩ := ry; exact PySem.EqMixed.ne_str_int (fin_bl I q (by simp))
    | str j => obtain ⟨t', rfl⟩ := ry; exact ne_str (fin_bl I q (congrArg not dec_str))
    | _ => exact absurd (show false = true from hs) Bool.false_ne_true
  | byt i =>
    obtain ⟨t, rfl⟩ := rx
    cases y with
    | byt j => obtain ⟨t', rfl⟩ := ry; exact PySem.W.ne_bytes (fin_bl I q (congrArg not dec_byt))
    | _ => exact absurd (show false = true from hs) Bool.false_ne_true
  | _ => cases y <;> exact absurd (show false = true from hs) Bool.false_ne_true

theorem op_lt : OpR X (compareOp .Lt) (rI0 fun i j => .bl (decide (i < j))) := opB0 fun _ _ _ _ _ _ _ q => lt_int q
theorem op_le : OpR X (compareOp .LtE) (rI0 fun i j => .bl (decide (i ≤ j))) := opB0 fun _ _ _ _ _ _ _ q => le_int q
theorem op_gt : OpR X (compareOp .Gt) (rI0 fun i j => .bl (decide (j < i))) := opB0 fun _ _ _ _ _ _ _ q => gt_int q
theorem op_ge : OpR X (compareOp .GtE) (rI0 fun i j => .bl (decide (j ≤ i))) := opB0 fun _ _ _ _ _ _ _ q => ge_int q
/-- two rules for one operation: by cases -/
theorem OpR.or {f : Value → Value → Sem Value} {r r' : R2} (h : OpR X f r) (h' : OpR X f r') : OpR X f (fun x y H Q => r x y H Q ∨ r' x y H Q) := by
  intro pins s σ H x y v u Q I rx ry q
  rcases q with q | q
  · exact h pins s σ H x y v u Q I rx ry q
  · exact h' pins s σ H x y v u Q I rx ry q

theorem nomark (b : Expr) {op : CmpOp} (h : op ≠ .In := by decide) (h2 : op ≠ .NotIn := by decide) : behindInMarks op b = false := by
  have e1 : (op == CmpOp.In) = false := by cases op <;> first | rfl | exact absurd rfl h
  have e2 : (op == CmpOp.NotIn) = false := by cases op <;> first | rfl | exact absurd rfl h2
  cases b <;> simp [behindInMarks, e1, e2]
/-- a comparison as a value; hm: nomark b, or (for in, not in) by with_unfolding_all rfl -/
theorem pe_cmpR {op : CmpOp} {r : R2} (ho : OpR X (compareOp op) r) (ha : PE X a ta) (hb : PE X b tb) (hm : behindInMarks op b = false) : PE X (.Compare a [op] [b] pos) (tOp r ta tb) := by
  intro pins s σ H Q I h
  exact wpAny_Compare1 (binT ha hb I h fun v u s2 x y H2 I2 rx ry q => ho pins s2 σ H2 x y v u Q I2 rx ry q) hm
/-- a reading of a value as a test -/
noncomputable def tTest (t : TE) : TT := fun σ H Q => t σ H fun x H' => ∃ k, x = .bl k ∧ Q k H'
theorem pt_cmpR {op : CmpOp} {r : R2} (ho : OpR X (compareOp op) r) (ha : PE X a ta) (hb : PE X b tb) (hm : behindInMarks op b = false) : PT X (.Compare a [op] [b] pos) (tTest (tOp r ta tb)) := by
  intro pins s σ H Q I h
  refine wpAny_isTrue_Compare1 (thn (ha pins s σ H _ I h) fun v s1 ⟨x, H1, I1, r1, q1⟩ => thn (hb pins s1 σ H1 _ I1 q1) fun u s2 ⟨y, H2, I2, r2, q2⟩ =>
    thn (ho pins s2 σ H2 x y v u _ I2 r1 r2 q2) fun c s3 ⟨z, H3, I3, r3, k, e, q3⟩ => ?_) hm
  subst e
  cases r3
  exact wpAny_truthy_bool ⟨H3, I3, q3⟩
/-- a op1 b op2 c -/
noncomputable def tChain (r r' : R2) (ta tb tc : TE) : TE := fun σ H Q => ta σ H fun x H1 => tb σ H1 fun y H2 => r x y H2 fun z H3 => ∃ k, z = .bl k ∧
  (if k = true then tc σ H3 fun w' H4 => r' y w' H4 Q else Q (.bl false) H3)
theorem pe_chain {op op' : CmpOp} {r r' : R2} (ho : OpR X (compareOp op) r) (ho' : OpR X (compareOp op') r') (ha : PE X a ta) (hb : PE X b tb) (hc : PE X c tc)
    (hm : lastMarks [op, op'] [b, c] = false := by with_unfolding_all rfl) : PE X (.Compare a [op, op'] [b, c] pos) (tChain r r' ta tb tc) := by
  intro pins s σ H Q I h
  refine Compare_chain (thn (ha pins s σ H _ I h) fun v s1 ⟨x, H1, I1, r1, q1⟩ => chain_link (thn (hb pins s1 σ H1 _ I1 q1) fun u s2 ⟨y, H2, I2, r2, q2⟩ =>
    thn (ho pins s2 σ H2 x y v u _ I2 r1 r2 q2) fun d s3 ⟨z, H3, I3, r3, k, e, q3⟩ => ?_)) hm
  subst e
  cases r3
  refine wpAny_truthy_bool ?_
  cases k with
  | false => exact ite_ff ⟨.bl false, H3, I3, rfl, q3⟩
  | true => exact ite_tt (chain_last (thn (hc pins s3 σ H3 _ I3 q3) fun w' s4 ⟨z', H4, I4, r4, q4⟩ => ho' pins s4 σ H4 y z' u w' Q I4 r2 r4 q4))
/-! ### truth -/
theorem line63 : (sizeLine : Nat) < 2 ^ 63 := by rw [sizeLine_eq]; decide
/-! ### strs and bytes -/
/-! ### scalar builtins, by CallR -/
theorem vals1 {x : V} {us : List Value} (r : Vals [x] us) : ∃ u, us = [u] ∧ RelV x u := by
  cases r with
  | cons r1 r2 => cases r2; exact ⟨_, rfl, r1⟩
theorem vals2 {x y : V} {us : List Value} (r : Vals [x, y] us) : ∃ u w', us = [u, w'] ∧ RelV x u ∧ RelV y w' := by
  cases r with
  | cons r1 r2 =>
    cases r2 with
    | cons r3 r4 => cases r4; exact ⟨_, _, rfl, r1, r3⟩
theorem call_abs : CallR X (.builtin "abs") (fun xs H Q => ∃ i, xs = [.int i] ∧ Q (.int (if i < 0 then -i else i)) H) := by
  intro pins s σ H xs us Q I r h
  obtain ⟨i, rfl, q⟩ := h
  obtain ⟨u, rfl, t, rfl⟩ := vals1 r
  exact call_abs_int fun u tk => ⟨.int (if i < 0 then -i else i), H, I.tok _, ⟨_, rfl⟩, q⟩
theorem call_max2 (hc : X.calm = true) : CallR X (.builtin "max") (fun xs H Q => ∃ i j, xs = [.int i, .int j] ∧ Q (.int (if j > i then j else i)) H) := by
  intro pins s σ H xs us Q I r h
  obtain ⟨i, j, rfl, q⟩ := h
  obtain ⟨u, w', rfl, ⟨t, rfl⟩, ⟨t', rfl⟩⟩ := vals2 r
  refine max_two_ints (I.ok.hd hc) fun h' tk k => ⟨_, H, I.kept k, ?_, q⟩
  by_cases hj : j > i
  · rw [if_pos hj, if_pos hj]; exact ⟨_, rfl⟩
  · rw [if_neg hj, if_neg hj]; exact ⟨_, rfl⟩
theorem call_min2 (hc : X.calm = true) : CallR X (.builtin "min") (fun xs H Q => ∃ i j, xs = [.int i, .int j] ∧ Q (.int (if j < i then j else i)) H) := by
  intro pins s σ H xs us Q I r h
  obtain ⟨i, j, rfl, q⟩ := h
  obtain ⟨u, w', rfl, ⟨t, rfl⟩, ⟨t', rfl⟩⟩ := vals2 r
  refine min_two_ints (I.ok.hd hc) fun h' tk k => ⟨_, H, I.kept k, ?_, q⟩
  by_cases hj : j < i
  · rw [if_pos hj, if_pos hj]; exact ⟨_, rfl⟩
  · rw [if_neg hj, if_neg hj]; exact ⟨_, rfl⟩
theorem call_int1 : CallR X (.type "int") (fun xs H Q => (∃ i, xs = [.int i] ∧ Q (.int i) H) ∨ ∃ k, xs = [.bl k] ∧ Q (.int (if k then 1 else 0)) H) := by
  intro pins s σ H xs us Q I r h
  rcases h with ⟨i, rfl, q⟩ | ⟨k, rfl, q⟩
  · obtain ⟨u, rfl, t, rfl⟩ := vals1 r
    exact call_int_int ⟨.int i, H, I, ⟨_, rfl⟩, q⟩
  · obtain ⟨u, rfl, r1⟩ := vals1 r
    cases r1
    exact call_int_bool ⟨.int (if k then 1 else 0), H, I.tok _, ⟨_, rfl⟩, q⟩
/-- divmod: a new tuple -/
theorem call_divmod : CallR X (.builtin "divmod") (fun xs H Q => ∃ i j, xs = [.int i, .int j] ∧ CDiv i j ∧ ∀ p, H p = none → Q (.ref p) (upd H p (.tup [.int (i / j), .int (i % j)]))) := by
  intro pins s σ H xs us Q I r h
  obtain ⟨i, j, rfl, ⟨h1, h2⟩, q⟩ := h
  obtain ⟨u, w', rfl, ⟨t, rfl⟩, ⟨t', rfl⟩⟩ := vals2 r
  refine divmod_int (by omega) ?_ (.inl (PyProof.noPylong_small (by omega)))
  rw [Int.fdiv_eq_ediv_of_nonneg i (by omega), Int.fmod_eq_emod_of_nonneg i (by omega)]
  have hn : H s.heap.objs.size = none := I.hok.fresh (Nat.le_refl _)
  refine ⟨.ref s.heap.objs.size, _, ?_, rfl, q _ hn⟩
  refine I.laid (fun b o e => Heap.get?_push_of_some _ e) (Nat.le_refl _) ⟨by simp only [List.length_cons, List.length_nil]; rw [sizeLine_eq]; decide, [.int (i / j) s.toks, .int (i % j) (s.toks + 1)], .cons ⟨_, rfl⟩ (.cons ⟨_, rfl⟩ .nil), ?_⟩
  exact ⟨_, Heap.get?_push_size s.heap rfl, rfl, 0, rfl⟩
end
end L2

namespace L2
open PySem PySem.Spec PyProof.Rows

/-! ### an instance, its attributes a map -/
section
variable {prog : Program} {w : World} {A : Around} {E : Value → Shared → Prop} {s : Shared} {K : PySem.W.Frag} {x dx C f : Addr} {mA : Str → Option Value} {name : Str} {v : Value}

end

/-! ### the attributes as a list of pairs -/
section
variable {P : Program} {w : World} {H H' : Hp} {h h' : Heap} {a C dx : Addr} {fs fs' : List (Str × V)}
end

/-! ### what of the text a class must have -/
section
variable {X : Cx} {pins : List (Addr × Obj)} {σ : St} {H : Hp} {s : Shared} {a C dx : Addr} {fs : List (Str × V)} {f : Str} {v : V} {A : Around} {E : Value → Shared → Prop}

end

/-! ### readings and rules -/
section
variable {X : Cx} {o e value : Expr} {f : Str} {pos pos' tpos : Pos} {ta tv : TE}
end

/-! ### isinstance -/
section
variable {X : Cx} {pins : List (Addr × Obj)} {σ : St} {H : Hp} {s : Shared} {A : Around} {E : Value → Shared → Prop} {Q : Value → Shared → Prop} {c : Value} {b : Bool}
end
end L2

namespace L2
open PySem PySem.Spec PyProof.Rows

/-! ### room -/
structure Room (k : Nat) (A : Around) : Prop where
  dp : A.depth + 3 * k + 5 < recursionLimit
  un : A.units + 16 * k + 200 < cLine
theorem Room.deeper {k : Nat} {A : Around} (r : Room (k + 1) A) (env : Env) : Room k (A.deeper env) :=
  ⟨by have := r.dp; show A.depth + 1 + 3 * k + 5 < _; omega, by have := r.un; show A.units + 3 + 16 * k + 200 < _; omega⟩
theorem Room.depth {k : Nat} {A : Around} (r : Room k A) : A.depth < recursionLimit := by have := r.dp; omega
/-! ### argument lists and displays -/
noncomputable def tNil : TA := fun _ H Q => Q [] H
noncomputable def tCons (ta : TE) (tr : TA) : TA := fun σ H Q => ta σ H fun x H1 => tr σ H1 fun xs H2 => Q (x :: xs) H2
section
variable {X : Cx} {e : Expr} {es : List Expr} {te : TE} {t : TA} {pos : Pos}
theorem pa_nil : PA X [] tNil := fun _ _ _ _ H Q I h => Calls.spliced_nil ⟨[], H, I, .nil, h⟩
theorem pa_cons (ha : PE X e te) (hr : PA X es t) (hs : starEach (e :: es) X.env = (false, eval e X.env) :: starEach es X.env := by rfl) : PA X (e :: es) (tCons te t) := by
  intro pos pins s σ H Q I h
  rw [hs]
  show wpAny _ _ (spliced ((false, eval e X.env) :: backTo pos (starEach es X.env))) _ _ s
  refine Calls.spliced_cons (thn (ha pins s σ H _ I h) fun u s1 ⟨x, H1, I1, r1, q1⟩ => ?_)
  exact thn (hr pos pins s1 σ H1 _ I1 q1) fun us s2 ⟨xs, H2, I2, r2, q2⟩ => ⟨x :: xs, H2, I2, .cons r1 r2, q2⟩

/-- a tuple, a list of written items -/
noncomputable def tTup (t : TA) : TE := fun σ H Q => t σ H fun xs H1 => xs.length ≤ sizeLine ∧ ∀ p, H1 p = none → Q (.ref p) (upd H1 p (.tup xs))
noncomputable def tLst (t : TA) : TE := fun σ H Q => t σ H fun xs H1 => xs.length ≤ sizeLine ∧ ∀ p, H1 p = none → Q (.ref p) (upd H1 p (.lst xs))
theorem pe_tup {x1} (h : PA X es t) : PE X (.Tuple es x1 pos) (tTup t) := by
  intro pins s σ H Q I hq
  refine wpAny_Tuple_spliced (thn (h pos pins s σ H _ I hq) fun us s1 ⟨xs, H1, I1, r, z, q⟩ => ⟨by rw [← r.length]; exact z, ?_⟩)
  have hf : H1 s1.heap.objs.size = none := I1.hok.fresh (Nat.le_refl _)
  refine ⟨.ref s1.heap.objs.size, upd H1 s1.heap.objs.size (.tup xs), I1.laid (t' := s1.toks) (fun b u e => Heap.get?_push_of_some _ e) (Nat.le_refl _) ?_, rfl, q _ hf⟩
  exact ⟨z, us, r, ⟨_, Heap.get?_push_size _ rfl, rfl, _, rfl⟩⟩
theorem pe_lst (h : PA X es t) : PE X (.List es pos) (tLst t) := by
  intro pins s σ H Q I hq
  refine wpAny_List_spliced (thn (h pos pins s σ H _ I hq) fun us s1 ⟨xs, H1, I1, r, z, q⟩ => ⟨by rw [← r.length]; exact z, ?_⟩)
  have hf : H1 s1.heap.objs.size = none := I1.hok.fresh (Nat.le_refl _)
  refine ⟨.ref s1.heap.objs.size, upd H1 s1.heap.objs.size (.lst xs), I1.laid (t' := s1.toks) (fun b u e => Heap.get?_push_of_some _ e) (Nat.le_refl _) ?_, rfl, q _ hf⟩
  exact ⟨z, us, 0, r, Heap.get?_push_size _ rfl⟩
end

/-! ### what a def promises -/
/-- a def's promise: the bound arguments in the parameters' order, the heap, the wanted end, the wanted exception -/
noncomputable abbrev Sp := List V → Hp → VK → XK → Prop
/-- how an exception lies behind a call (file 08 gives it): the callers' frames, abstract heap and state ahead of the call, the wish, the exception, the state -/
noncomputable abbrev CXT := List Env → Hp → Shared → XK → Value → Shared → Prop

/-- the state at a call -/
structure Env0 (P : Program) (w : World) (K : PySem.W.Frag) (mg : Str → Option Value) (base : Heap) (A : Around) (outer : List Env) (s : Shared) (H : Hp) : Prop where
  frames : A.frames = some outer
  mod : Mod K mg base
  bs : ∀ b o, base.get? b = some o → s.heap.get? b = some o ∧ H b = none
  bsz : base.objs.size ≤ s.heap.objs.size
  funs : s.heap.FunFrames base outer
  frf : ∀ b ∈ frs outer, H b = none
  hok : HOk P w H s.heap
  bare : AllBare s.gens
/-- a call's end -/
noncomputable def CE (outer : List Env) (P : Program) (w : World) (H : Hp) (s : Shared) (Q : VK) (u : Value) (s' : Shared) : Prop :=
  ∃ v H', s'.os = s.os ∧ AllBare s'.gens ∧ Un (frs outer) [] H H' s.heap s'.heap ∧ HOk P w H' s'.heap ∧ RelV v u ∧ Q v H'
noncomputable def CR (CX : CXT) (outer : List Env) (P : Program) (w : World) (H : Hp) (s : Shared) (Q : VK) (E : XK) (r : Result) (s' : Shared) : Prop :=
  match r with
  | .ok (.ret u) => CE outer P w H s Q u s'
  | .ok _ => False
  | .error e => CX outer H s E e s'
structure FnOk (P : Program) (w : World) (K : PySem.W.Frag) (mg : Str → Option Value) (base : Heap) (CX : CXT) (cm : Bool) (k : Nat) (f : Addr) (fd : FuncData) (ps : List Str) (sp : Sp) : Prop where
  len : ∀ vs H Q E, sp vs H Q E → vs.length = ps.length
  run : ∀ (A : Around) (outer : List Env) (s : Shared) (H : Hp) (args : Args) (us : List Value) (vs : List V) (Q : VK) (E : XK), (cm = true → A.handled = none) → Room k A → Env0 P w K mg base A outer s H → BindsTo s fd args (ps.zip us) → Vals vs us → sp vs H Q E →
    codeAny (model P w) A (.call (.ref f) args) (CR CX outer P w H s Q E) s
/-- a weaker promise -/
theorem FnOk.imp {P : Program} {w : World} {K : PySem.W.Frag} {mg : Str → Option Value} {base : Heap} {CX : CXT} {cm : Bool} {k : Nat} {f : Addr} {fd : FuncData} {ps : List Str} {sp sp' : Sp} (F : FnOk P w K mg base CX cm k f fd ps sp)
    (h : ∀ vs H Q E, sp' vs H Q E → sp vs H Q E) : FnOk P w K mg base CX cm k f fd ps sp' :=
  ⟨fun vs H Q E q => F.len vs H Q E (h _ _ _ _ q), fun A outer s H args us vs Q E hcm hr he hb hv hs => F.run A outer s H args us vs Q E hcm hr he hb hv (h _ _ _ _ hs)⟩

section
variable {X : Cx} {pins : List (Addr × Obj)} {σ : St} {H : Hp} {s s' : Shared}
/-- from a body: what a callee wants -/
theorem Inv.env0 (I : Inv X pins σ H s) : Env0 X.prog X.w X.K X.mg X.base X.A X.stack s H :=
  ⟨I.ok.frames, I.ok.mod, I.bs, Nat.le_trans I.ok.bsz I.sz, I.stack, I.stkFree, I.hok, I.bare⟩
/-- behind a call -/
theorem Inv.after {Q : VK} {u : Value} (I : Inv X pins σ H s) (h : CE X.stack X.prog X.w H s Q u s') : EP X pins σ Q u s' := by
  obtain ⟨v, H', os, bare, un, hok, r, q⟩ := h
  obtain ⟨hh, g, d, t, os'⟩ := s'
  obtain rfl : os' = s.os := os
  exact ⟨v, H', I.call (h' := hh) (g' := g) (d' := d) (t' := t) (ch := []) un hok bare (fun b z => absurd z (by simp)), r, q⟩
end

/-! ### calls -/
/-- how the parameters are bound: us the positional arguments, kw the keywords' values by name, ds the defaults that fill up -/
noncomputable def Binds (K : PySem.W.Frag) (fd : FuncData) (ps : List Str) (ds : List Value) : Prop :=
  ∀ (s : Shared) (us : List Value), K.In s.heap → (us ++ ds).length = ps.length → BindsTo s fd ⟨us, []⟩ (ps.zip (us ++ ds))
/-- every parameter is given -/
theorem Binds.all {K : PySem.W.Frag} {fd : FuncData} {ps : List Str} (h : ∀ us : List Value, us.length = ps.length → bindArgs fd ⟨us, []⟩ = pure (ps.zip us)) : Binds K fd ps [] := fun s us _ hl => by
  rw [List.append_nil] at hl ⊢
  exact .of_eq (h us hl)

section
variable {X : Cx} {CX : CXT} {cm : Bool} {k : Nat} {f C : Addr} {fd : FuncData} {ps : List Str} {sp : Sp} {dvs : List V} {ds : List Value} {E : XK} {x m : Str} {p pos apos : Pos} {e o : Expr} {es : List Expr} {ta : TE} {t : TA}

end

/-! ### keywords -/
section
variable {X : Cx} {CX : CXT} {cm : Bool} {k : Nat} {f C : Addr} {fd : FuncData} {ps ks : List Str} {sp : Sp} {E : XK} {x m : Str} {p pos apos kpos : Pos} {e o : Expr} {es : List Expr} {kws : List Keyword} {te ta : TE} {t tk : TA} {nm : Option Str}
variable {g : List Value → List Value → List Value} {gV : List V → List V → List V}
end

/-! ### a def's body keeps its promise -/
/-- names: the parameters first -/
structure FnScope (N P : List Str) (sc : Scope) : Prop where
  kind : sc.kind = .function
  co : sc.isCoroutine = false
  gen : sc.isGenerator = false
  nd : N.Nodup
  pre : N.take P.length = P
  par : ∀ x ∈ P, sc.names.lookup x = some .local ∨ sc.names.lookup x = some .cell
  nofree : ∀ y ∈ sc.names, y.2 ≠ .free

theorem bindL_out {kindOf : Str → Option NameKind} {x : Str} : ∀ {binds : List (Str × Value)} {m : Str → Option Value}, (∀ v, (x, v) ∉ binds) → bindL kindOf binds m x = m x
  | [], _, _ => rfl
  | (n, v) :: r, m, h => by
    unfold bindL
    rw [bindL_out fun w hw => h w (List.mem_cons_of_mem _ hw)]
    split
    · have : x ≠ n := by rintro rfl; exact h v List.mem_cons_self
      simp [this]
    · rfl
theorem bindC_out {kindOf : Str → Option NameKind} {x : Str} : ∀ {binds : List (Str × Value)} {m : Str → Option Value}, (∀ v, (x, v) ∉ binds) → bindC kindOf binds m x = m x
  | [], _, _ => rfl
  | (n, v) :: r, m, h => by
    unfold bindC
    rw [bindC_out fun w hw => h w (List.mem_cons_of_mem _ hw)]
    split
    · rfl
    · have : x ≠ n := by rintro rfl; exact h v List.mem_cons_self
      simp [this]
theorem bindL_get {kindOf : Str → Option NameKind} {x : Str} {v : Value} : ∀ {P : List Str} {vs : List Value} {i : Nat} {m : Str → Option Value}, P.Nodup → P[i]? = some x → vs[i]? = some v → kindOf x = some .local →
    bindL kindOf (P.zip vs) m x = some v
  | [], _, _, _, _, h, _, _ => by simp at h
  | _ :: _, [], _, _, _, _, h, _ => by simp at h
  | p :: P, w :: vs, 0, m, nd, h1, h2, hk => by
    simp at h1 h2; subst h1; subst h2
    show bindL kindOf ((p, w) :: P.zip vs) m p = _
    unfold bindL
    rw [bindL_out fun v hv => (List.nodup_cons.mp nd).1 (List.of_mem_zip hv).1, if_pos hk]
    simp
  | p :: P, w :: vs, i + 1, m, nd, h1, h2, hk => by
    show bindL kindOf ((p, w) :: P.zip vs) m x = _
    unfold bindL
    exact bindL_get (i := i) (List.nodup_cons.mp nd).2 (by simpa using h1) (by simpa using h2) hk
theorem bindC_get {kindOf : Str → Option NameKind} {x : Str} {v : Value} : ∀ {P : List Str} {vs : List Value} {i : Nat} {m : Str → Option Value}, P.Nodup → P[i]? = some x → vs[i]? = some v → kindOf x ≠ some .local →
    bindC kindOf (P.zip vs) m x = some v
  | [], _, _, _, _, h, _, _ => by simp at h
  | _ :: _, [], _, _, _, _, h, _ => by simp at h
  | p :: P, w :: vs, 0, m, nd, h1, h2, hk => by
    simp at h1 h2; subst h1; subst h2
    show bindC kindOf ((p, w) :: P.zip vs) m p = _
    unfold bindC
    rw [bindC_out fun v hv => (List.nodup_cons.mp nd).1 (List.of_mem_zip hv).1, if_neg hk]
    simp
  | p :: P, w :: vs, i + 1, m, nd, h1, h2, hk => by
    show bindC kindOf ((p, w) :: P.zip vs) m x = _
    unfold bindC
    exact bindC_get (i := i) (List.nodup_cons.mp nd).2 (by simpa using h1) (by simpa using h2) hk

/-- the names' values at the entry -/
noncomputable def start (N : List Str) (vs : List V) : St := vs.map some ++ List.replicate (N.length - vs.length) none

/-- the context of a def's body, at its entry; an exception leaves the frame, then lies as CX says -/
noncomputable def cxOf (CX : CXT) (P : Program) (w : World) (K : PySem.W.Frag) (mg : Str → Option Value) (base : Heap) (N : List Str) (qual : Str) (scope : Scope) (f : Addr) (cd : Value) (A : Around) (outer : List Env) (s : Shared) (H : Hp) (E : XK) (cm : Bool) : Cx where
  prog := P
  w := w
  K := K
  mg := mg
  base := base
  A := A.deeper (envOfC qual scope s.heap.objs.size f cd)
  N := N
  s₀ := s
  H₀ := H
  env := envOfC qual scope s.heap.objs.size f cd
  outer := outer
  stack := envOfC qual scope s.heap.objs.size f cd :: outer
  ex := []
  calm := cm
  fn := fun _ => true
  pn := []
  xe := fun e s' => wpAny (model P w) (A.deeper (envOfC qual scope s.heap.objs.size f cd)) (leaving (envOfC qual scope s.heap.objs.size f cd) e) (fun _ s'' => CX outer H s E e s'') (fun e' s'' => CX outer H s E e' s'') s'

theorem cell_has {sc : Scope} {n : Nat} {x : Str} (h : sc.names.lookup x = some .cell) : ∃ c, (cellsFrom n sc.names []).lookup x = some c := by
  have q := PySem.W.cellsFrom_some sc.names n [] (.inl h)
  exact Option.isSome_iff_exists.mp q

theorem inv_start {CX : CXT} {P : Program} {w : World} {K : PySem.W.Frag} {mg : Str → Option Value} {base : Heap} {N ps : List Str} {qual : Str} {scope : Scope} {f : Addr} {cd : Value} {A : Around} {outer : List Env} {s s1 : Shared} {H : Hp} {E : XK} {us : List Value} {vs : List V}
    {cm : Bool} (S : FnScope N ps scope) (hd : cm = true → A.handled = none) (e0 : Env0 P w K mg base A outer s H) (hl : vs.length = ps.length) (r : Vals vs us)
    (x : InCallC s s.heap.objs.size (bindL (envOfC qual scope s.heap.objs.size f cd).kindOf (ps.zip us) fun _ => none) (cellsFrom (s.heap.objs.size + 1) scope.names []) (bindC (envOfC qual scope s.heap.objs.size f cd).kindOf (ps.zip us) fun _ => none) s1) :
    Inv (cxOf CX P w K mg base N qual scope f cd A outer s H E cm) [] (start N vs) H s1 := by
  have hpl : ps.length ≤ N.length := by have := congrArg List.length S.pre; rw [List.length_take] at this; omega
  obtain ⟨h1, tk, rfl, hk⟩ := x.done
  have noA : ∀ b : Addr, b ∉ (cxOf CX P w K mg base N qual scope f cd A outer s H E cm).ex := fun b z => absurd (show b ∈ ([] : List Addr) from z) (by simp)
  refine ⟨⟨e0.mod, S.kind, rfl, rfl, Nat.le_refl _, fun y z c h1 h2 => ?_, fun y hy => ?_, fun y c _ h => ?_, hd, Around.frames_deeper e0.frames, .inr ⟨rfl, rfl⟩, fun b z => absurd z (noA b), e0.bs, e0.bsz, fun b _ _ => noA b, fun b z => absurd z (noA b), e0.funs, e0.frf⟩,
    rfl, e0.bare, Un.kept hk, ⟨_, x.toInCall.ns, fun i y v h1 h2 h3 => ?_⟩, fun y c h => ⟨_, x.cell y c h⟩, e0.hok.fresh (Nat.le_refl _), fun y c h => ?_, fun p hp => absurd (show p ∈ ([] : List (Addr × Obj)) from hp) (by simp), e0.hok.kept hk, ?_⟩
  · exact name_of_addr x.apart (PySem.mem_of_lookup h1) (PySem.mem_of_lookup h2)
  · have hy : scope.names.lookup y = some .cell ∨ scope.names.lookup y = some .free := hy
    rcases hy with hy | hy
    · exact cell_has hy
    · exact absurd rfl (S.nofree _ (PySem.mem_of_lookup hy))
  · exact Nat.le_of_lt (x.above y c (PySem.mem_of_lookup h))
  · have hi : i < vs.length := by
      unfold start at h2
      by_cases hi : i < vs.length
      · exact hi
      · rw [List.getElem?_append_right (by simpa using hi)] at h2
        rw [List.getElem?_replicate] at h2
        split at h2 <;> cases h2
    have ha : vs[i]? = some v := by
      unfold start at h2
      rw [List.getElem?_append_left (by simpa using hi), List.getElem?_map] at h2
      cases e : vs[i]? with
      | none => rw [e] at h2; cases h2
      | some a => rw [e] at h2; cases h2; rfl
    obtain ⟨u, hu, rv⟩ := r.get ha
    have hp : ps[i]? = some y := by
      rw [← S.pre, List.getElem?_take_of_lt (by omega)]; exact h1
    have ndP : ps.Nodup := by rw [← S.pre]; exact S.nd.sublist (List.take_sublist _ _)
    refine ⟨u, rv, ?_⟩
    rcases S.par y (List.mem_of_getElem? hp) with k | k
    · exact .inl ⟨k, bindL_get ndP hp hu k⟩
    · obtain ⟨c, e⟩ := cell_has (n := s.heap.objs.size + 1) k
      refine .inr ⟨.inl k, c, e, ?_⟩
      have q := x.cell y c e
      rw [bindC_get ndP hp hu (by show scope.names.lookup y ≠ _; rw [k]; decide)] at q
      exact q
  · exact e0.hok.fresh (Nat.le_of_lt (x.above y c (PySem.mem_of_lookup h)))
  · unfold start
    show _ = N.length
    rw [List.length_append, List.length_map, List.length_replicate]
    omega

/-- THE RULE: a def (or a method) of the text, by its body. The body's reading t is chosen for each entry; it is run at the parameters' values -/
theorem fn_of {CX : CXT} {cm : Bool} {P : Program} {w : World} {K : PySem.W.Frag} {mg : Str → Option Value} {base : Heap} {k : Nat} {f : Addr} {name qual : Str} {params : Arguments} {body : List Stmt} {scope : Scope} {dV kV doc pm cdv ct oc : Value} {an od : Option Addr}
    {osl : Array (Option Value)} {N ps : List Str} {sp : Sp} (lk : K.lookup f = some ⟨oc, od, .func (PySem.W.fnOf name qual params body scope dV kV doc pm an cdv ct), osl⟩) (hcd : PySem.W.codeIn K cdv qual = true) (S : FnScope N ps scope)
    (len : ∀ vs H Q E, sp vs H Q E → vs.length = ps.length)
    (hbody : ∀ (A : Around) (outer : List Env) (s : Shared) (H : Hp) (vs : List V) (Q : VK) (E : XK), Room k (A.deeper (envOfC qual scope s.heap.objs.size f cdv)) → sp vs H Q E →
      ∃ t, PSs (cxOf CX P w K mg base N qual scope f cdv A outer s H E cm) body t ∧ t { nx := fun _ H' => Q .non H', rt := Q } (start N vs) H) :
    FnOk P w K mg base CX cm (k + 1) f (PySem.W.fnOf name qual params body scope dV kV doc pm an cdv ct) ps sp := by
  refine ⟨len, fun A outer s H args us vs Q E hcm hr e0 hb r hsp => ?_⟩
  have hl := len _ _ _ _ hsp
  have KX : K.In s.heap := e0.mod.kin.keeps fun b o e => (e0.bs b o e).1
  have lim : s.heap.NoLimit := e0.mod.nolimit.keeps fun b o e => (e0.bs b o e).1
  have hkind : ∀ y ∈ ps.zip us, scope.names.lookup y.1 = some .local ∨ (scope.names.lookup y.1 = some .cell ∧ ((cellsFrom (s.heap.objs.size + 1) scope.names []).lookup y.1).isSome = true) := fun ⟨n, v⟩ hy => by
    rcases S.par n (List.of_mem_zip hy).1 with q | q
    · exact .inl q
    · exact .inr ⟨q, PySem.W.cellsFrom_some _ _ _ (.inl q)⟩
  refine codeAny_call_function hr.depth (KX _ _ lk) rfl S.co S.gen rfl (PySem.W.codeRec_of KX hcd) (hb _ _ _ _ ?_)
  refine wpAny_newFunctionEnv_cells S.kind hkind fun env he s1 x => ?_
  subst he
  refine ⟨lim.keeps x.toInCall.keep, codeAny_func ?_⟩
  obtain ⟨t, ht, hq⟩ := hbody A outer s H vs Q E (hr.deeper _) hsp
  have I : Inv (cxOf CX P w K mg base N qual scope f cdv A outer s H E cm) [] (start N vs) H s1 := inv_start S hcm e0 hl r x
  refine wpAny_mono (ht [] s1 (start N vs) H _ I hq) (fun fl s' hs => ?_) fun e s' hs => hs
  have fin : ∀ {σ' : St} {H' : Hp} {v : V} {u : Value}, Inv (cxOf CX P w K mg base N qual scope f cdv A outer s H E cm) [] σ' H' s' → RelV v u → Q v H' → CE outer P w H s Q u s' :=
    fun {σ' H' v u} J rv q => ⟨v, H', J.os, J.bare, J.base, J.hok, rv, q⟩
  cases fl with
  | ret u =>
    obtain ⟨v, σ', H', J, rv, q⟩ := hs
    exact fin J rv q
  | next =>
    obtain ⟨σ', H', J, q⟩ := hs
    exact fin (v := V.non) (u := Value.none) J rfl q
  | brk =>
    obtain ⟨_, _, _, q⟩ := hs
    exact False.elim q
  | cont =>
    obtain ⟨_, _, _, q⟩ := hs
    exact False.elim q
end L2

namespace L2
open PySem PySem.Spec PyProof.Rows
section
variable {X : Cx} {x : Str} {p pos : Pos} {e : Expr} {es : List Expr} {t : TA} {id T : String} {r : List V → Hp → VK → Prop}

noncomputable def tCB (r : List V → Hp → VK → Prop) (t : TA) : TE := fun σ H Q => t σ H fun vs H1 => r vs H1 Q
/-- f(e, ..), f a built-in function -/
theorem pe_callB (hc : CallR X (.builtin id) r) (hg : Gl X x) (hm : X.mg x = none) (hv : bootBuiltins x = some (.builtin id)) (ha : PA X (e :: es) t) (hn : x ≠ "__name__" := by decide) (hdb : (x == ("__debug__" : Str)) = false := by decide)
    (he : starEach (e :: es) X.env = (false, eval e X.env) :: starEach es X.env := by rfl) (hpl : (backTo pos (starEach es X.env)).any (·.1) = false := by rfl) : PE X (.Call (.Name x p) (e :: es) [] pos) (tCB r t) := by
  intro pins s σ H Q I h
  refine wpAny_Call_Name_kw (ld_blt I hg hm hv ?_ hn hdb)
  exact PyProof.Rows.callWith_builtin1 (thn (ha pos pins s σ H _ I h) fun us s1 ⟨vs, H1, I1, r1, q1⟩ => hc pins s1 σ H1 vs us Q I1 r1 q1) he hpl
/-- T(e, ..), T a built-in type -/
theorem pe_callTy (hc : CallR X (.type T) r) (hg : Gl X x) (hm : X.mg x = none) (hv : bootBuiltins x = some (.type T)) (ha : PA X (e :: es) t) (hn : x ≠ "__name__" := by decide) (hdb : (x == ("__debug__" : Str)) = false := by decide)
    (he : starEach (e :: es) X.env = (false, eval e X.env) :: starEach es X.env := by rfl) (hpl : (backTo pos (starEach es X.env)).any (·.1) = false := by rfl) : PE X (.Call (.Name x p) (e :: es) [] pos) (tCB r t) := by
  intro pins s σ H Q I h
  refine wpAny_Call_Name_kw (ld_blt I hg hm hv ?_ hn hdb)
  exact PyProof.Rows.callWith_type1 (thn (ha pos pins s σ H _ I h) fun us s1 ⟨vs, H1, I1, r1, q1⟩ => hc pins s1 σ H1 vs us Q I1 r1 q1) he hpl
end
end L2

namespace HT
open PySem PyProof.Rows

section
open PySem.SeqAt
open PySem.AutoSeq1 (wpAny_loadPart')
open PySem.MeetsSeq PySem.MeetsSeq2 PySem.MeetsSeq3

end

section
variable {prog : Program} {w : World} {A : Around} {E : Value → Shared → Prop} {s : Shared}

/-! ### t[a:b], not the whole -/
/-- a slice's bound as a place among n (d where it is left out) -/
noncomputable def sIx (n d : Nat) : Option Int → Nat
  | none => d
  | some v => if v < 0 then (v + (n : Int)).toNat else min v.toNat n
end
end HT

namespace L2
open PySem PySem.Spec PyProof.Rows

/-! ### the parts of a slice -/
noncomputable abbrev TO := St → Hp → (Option Int → Hp → Prop) → Prop
/-- a slice's part (left out, or an int) -/
noncomputable def PO (X : Cx) (e : Option Expr) (t : TO) : Prop :=
  ∀ (pins : List (Addr × Obj)) (s : Shared) (σ : St) (H : Hp) (Q : Option Int → Hp → Prop), Inv X pins σ H s → t σ H Q →
    wpAny (model X.prog X.w) X.A (evalPart e X.env) (fun u s' => ∃ o H', Inv X pins σ H' s' ∧ IsPart u o ∧ Q o H') X.xe s
noncomputable def tPart (t : TE) : TO := fun σ H Q => t σ H fun x H1 => ∃ i, x = .int i ∧ Q (some i) H1

section
variable {X : Cx} {e : Expr} {te : TE} {lo hi : Option Expr} {tl th : TO} {pos p2 : Pos}

theorem po_some (h : PE X e te) : PO X (some e) (tPart te) := by
  intro pins s σ H Q I hw
  rw [evalPart_some]
  refine thn (h pins s σ H _ I hw) fun u s1 ⟨x, H1, I1, r1, q1⟩ => ?_
  obtain ⟨i, rfl, q⟩ := q1
  obtain ⟨t, rfl⟩ := r1
  exact ⟨some i, H1, I1, .int i t, q⟩

/-- what a slice of a value is, by values: the slice object stands at sl -/
noncomputable def SlR (X : Cx) (r : V → Option Int → Option Int → Hp → VK → Prop) : Prop :=
  ∀ (pins : List (Addr × Obj)) (s : Shared) (σ : St) (H : Hp) (x : V) (v vl vu : Value) (lo hi : Option Int) (sl : Addr) (Q : VK), Inv X pins σ H s → RelV x v → s.heap.IsSliceOf sl vl vu .none → IsPart vl lo → IsPart vu hi → r x lo hi H Q →
    ∃ T id, typeLookup (.type T) "__getitem__" = pure (some (.builtin id)) ∧ s.TypeIs v T ∧ wpAny (model X.prog X.w) X.A (getItem v (.ref sl)) (EP X pins σ Q) X.xe s
noncomputable def tSl (r : V → Option Int → Option Int → Hp → VK → Prop) (te : TE) (tl th : TO) : TE := fun σ H Q => te σ H fun x H1 => tl σ H1 fun l H2 => th σ H2 fun u H3 => r x l u H3 Q
/-- a[lo:hi], any a -/
theorem pe_slice {r : V → Option Int → Option Int → Hp → VK → Prop} (hr : SlR X r) (he : PE X e te) (hl : PO X lo tl) (hu : PO X hi th) : PE X (.Subscript e (.Slice lo hi none p2) pos) (tSl r te tl th) := by
  intro pins s σ H Q I h
  refine Subscript_ (thn (he pins s σ H _ I h) fun v s1 ⟨x, H1, I1, r1, q1⟩ => ?_)
  refine wpAny_Slice (thn (hl pins s1 σ H1 _ I1 q1) fun vl s2 ⟨l, H2, I2, pl, q2⟩ => thn (hu pins s2 σ H2 _ I2 q2) fun vu s3 ⟨u, H3, I3, pu, q3⟩ => ?_)
  rw [evalPart_none]
  refine wpAny_pure ?_
  have I4 : Inv X pins σ H3 { s3 with heap := s3.heap.push { cls := .type "slice", data := .fields #[vl, vu, .none] } } := I3.kept (t' := s3.toks) fun b ob q => Heap.get?_push_of_some _ q
  obtain ⟨T, id, hT, ht, hg⟩ := hr pins { s3 with heap := s3.heap.push { cls := .type "slice", data := .fields #[vl, vu, .none] } } σ H3 x v vl vu l u s3.heap.objs.size Q I4 r1 (Heap.IsSliceOf.new ..) pl pu q3
  show wpAny (model X.prog X.w) X.A (subscriptTail e (.Slice lo hi none p2) v (.ref s3.heap.objs.size)) (EP X pins σ Q) X.xe { s3 with heap := s3.heap.push { cls := .type "slice", data := .fields #[vl, vu, .none] } }
  exact tail_any (ops := [.ref s3.heap.objs.size, v]) ht hT hg (by with_unfolding_all rfl)

/-- the items of xs[lo:hi] -/
noncomputable def cutV (xs : List V) (lo hi : Option Int) : List V := (xs.drop (HT.sIx xs.length 0 lo)).take (HT.sIx xs.length xs.length hi - HT.sIx xs.length 0 lo)
theorem cutV_length (xs : List V) (lo hi : Option Int) : (cutV xs lo hi).length ≤ xs.length := by
  unfold cutV
  rw [List.length_take, List.length_drop]
  omega
/-! ### t < u, t + u -/
end
end L2

namespace L2
open PySem PySem.Spec PyProof.Rows

/-! ### places -/
/-- the place that an index of any sign means -/
noncomputable def ixN (n : Nat) (i : Int) : Option Nat := if 0 ≤ i then (if i < n then some i.toNat else none) else if -(n : Int) ≤ i then some (i + n).toNat else none
noncomputable def atI {α : Type} (xs : List α) (i : Int) : Option α := (ixN xs.length i).bind fun j => xs[j]?
theorem ixN_seq {n : Nat} {i : Int} {j : Nat} (h : ixN n i = some j) : seqIndex? i n = some j ∧ j < n ∧ -(n : Int) ≤ i ∧ i < n := by
  unfold ixN at h
  by_cases h0 : 0 ≤ i
  · rw [if_pos h0] at h
    by_cases h1 : i < n
    · rw [if_pos h1] at h
      have e : i.toNat = j := Option.some.inj h
      exact ⟨by rw [seqIndex_of h0 h1, e], by omega, by omega, h1⟩
    · rw [if_neg h1] at h; cases h
  · rw [if_neg h0] at h
    by_cases h1 : -(n : Int) ≤ i
    · rw [if_pos h1] at h
      have e : (i + n).toNat = j := Option.some.inj h
      exact ⟨by rw [seqIndex_neg (by omega) h1, e], by omega, h1, by omega⟩
    · rw [if_neg h1] at h; cases h
theorem atI_get {α : Type} {xs : List α} {i : Int} {v : α} (h : atI xs i = some v) : ∃ j, seqIndex? i xs.length = some j ∧ xs[j]? = some v ∧ j < xs.length ∧ -(xs.length : Int) ≤ i ∧ i < xs.length := by
  unfold atI at h
  cases e : ixN xs.length i with
  | none => rw [e] at h; cases h
  | some j =>
    rw [e] at h
    obtain ⟨h1, h2, h3, h4⟩ := ixN_seq e
    exact ⟨j, h1, h, h2, h3, h4⟩
/-! ### what may be subscripted -/
/-- what stands as an index of a plain subscript -/
noncomputable def PlainIx (b : Expr) : Prop := ∀ o i, subscripted b false o i = operate [o, i] (getItem o i)
/-- a subscript by values -/
noncomputable def IxR (X : Cx) (r : R2) : Prop :=
  ∀ (value slice : Expr) (pins : List (Addr × Obj)) (s : Shared) (σ : St) (H : Hp) (x y : V) (v u : Value) (Q : VK), Inv X pins σ H s → RelV x v → RelV y u → r x y H Q →
    subscripted slice false v u = operate [v, u] (getItem v u) → wpAny (model X.prog X.w) X.A (subscriptTail value slice v u) (EP X pins σ Q) X.xe s
/-- a call of a builtin's method by values: the receiver, the arguments -/
noncomputable def MtR (X : Cx) (id : String) (r : V → List V → Hp → VK → Prop) : Prop :=
  ∀ (pins : List (Addr × Obj)) (s : Shared) (σ : St) (H : Hp) (x : V) (xs : List V) (v : Value) (us : List Value) (Q : VK), Inv X pins σ H s → RelV x v → Vals xs us → r x xs H Q →
    wpAny (model X.prog X.w) X.A (call (.builtin id) (v :: us)) (EP X pins σ Q) X.xe s
section
variable {X : Cx} {a b : Expr} {ta tb : TE} {pos : Pos}
theorem IxR.or {r r' : R2} (h : IxR X r) (h' : IxR X r') : IxR X (fun x y H Q => r x y H Q ∨ r' x y H Q) := by
  intro value slice pins s σ H x y v u Q I rx ry q hs
  rcases q with q | q
  · exact h value slice pins s σ H x y v u Q I rx ry q hs
  · exact h' value slice pins s σ H x y v u Q I rx ry q hs
/-- a[b] -/
theorem pe_ix {r : R2} (hr : IxR X r) (ha : PE X a ta) (hb : PE X b tb) (hs : PlainIx b) : PE X (.Subscript a b pos) (tOp r ta tb) := by
  intro pins s σ H Q I h
  exact Subscript_ (binT ha hb I h fun v u s2 x y H2 I2 rx ry q => hr a b pins s2 σ H2 x y v u Q I2 rx ry q (hs _ _))

noncomputable def rIxL (K : PySem.W.Frag) : R2 := fun x y H Q => ∃ p xs i v, x = .ref p ∧ y = .int i ∧ SqL K H p xs ∧ atI xs i = some v ∧ Q v H
noncomputable def rIxT (K : PySem.W.Frag) : R2 := fun x y H Q => ∃ p xs i v, x = .ref p ∧ y = .int i ∧ SqT K H p xs ∧ atI xs i = some v ∧ Q v H
noncomputable def rIxS : R2 := fun x y H Q => ∃ z i c, x = .str z ∧ y = .int i ∧ z.length ≤ sizeLine ∧ atI z.cps.toList i = some c ∧ Q (.str ⟨#[c]⟩) H
theorem ix_list : IxR X (rIxL X.K) := by
  intro value slice pins s σ H x y v u Q I rx ry h hs
  obtain ⟨p, xs, i, z, rfl, rfl, hq, he, q⟩ := h
  cases rx
  obtain ⟨t, rfl⟩ := ry
  obtain ⟨its, r, pl, hz⟩ := I.list hq
  obtain ⟨j, h1, h2, h3, h4, h5⟩ := atI_get he
  obtain ⟨w, ew, rw'⟩ := r.get h2
  have hl := r.length
  have hn := line63
  have fin : EP X pins σ Q w s := ⟨z, H, I, rw', q⟩
  by_cases h0 : 0 ≤ i
  · have hj : i.toNat = j := by
      rw [seqIndex_of h0 h5] at h1
      exact Option.some.inj h1
    exact item_listR pl.isList h0 (by omega) (by rw [hj]; simpa using ew) fin hs
  · have hj : (i + (its.toArray.size : Int)).toNat = j := by
      rw [seqIndex_neg (by omega) h4] at h1
      rw [List.size_toArray, ← hl]
      exact Option.some.inj h1
    exact subscriptTail_builtinR (x := w) pl.isList.typeIs slot_list_getitem.lookup
      (wpAny_getItem_list_neg (Q := fun r s' => r = w ∧ EP X pins σ Q r s') pl.isList (by omega) (by rw [List.size_toArray] <;> omega) (by omega) (by rw [hj]; simpa using ew) ⟨rfl, fin⟩) hs
theorem ix_tup : IxR X (rIxT X.K) := by
  intro value slice pins s σ H x y v u Q I rx ry h hs
  obtain ⟨p, xs, i, z, rfl, rfl, hq, he, q⟩ := h
  cases rx
  obtain ⟨t, rfl⟩ := ry
  obtain ⟨its, r, pl, hz⟩ := I.tuple hq
  obtain ⟨j, h1, h2, h3, h4, h5⟩ := atI_get he
  obtain ⟨w, ew, rw'⟩ := r.get h2
  have hl := r.length
  have hn := line63
  have fin : EP X pins σ Q w s := ⟨z, H, I, rw', q⟩
  exact subscriptTail_builtinR (x := w) pl.typeIs slot_tuple_getitem.lookup
    (getItem_tuple (j := j) (Q := fun r s' => r = w ∧ EP X pins σ Q r s') pl (by omega) (by omega) (by rw [List.size_toArray, ← hl]; exact h1) (by simpa using ew) ⟨rfl, fin⟩) hs
theorem ix_str : IxR X rIxS := by
  intro value slice pins s σ H x y v u Q I rx ry h hs
  obtain ⟨z, i, c, rfl, rfl, hz, he, q⟩ := h
  obtain ⟨t, rfl⟩ := rx
  obtain ⟨t', rfl⟩ := ry
  obtain ⟨j, h1, h2, h3, h4, h5⟩ := atI_get he
  have hl : z.cps.toList.length = z.length := by simp [Str.length]
  rw [hl] at h1 h4 h5
  have hn := line63
  exact tail_any (typeIs_str s z t) slot_str_getitem.lookup (getItem_str (c := c) (by
    have e1 : decide (i < -(2 ^ 63 : Int)) = false := decide_eq_false (by omega)
    have e2 : decide (i ≥ 2 ^ 63) = false := decide_eq_false (by omega)
    rw [e1, e2, Bool.or_false]) (by rw [h1]; simpa using h2) ⟨.str ⟨#[c]⟩, H, I.tok _, ⟨_, rfl⟩, q⟩) hs
/-- list, tuple or str -/
noncomputable def rIx (K : PySem.W.Frag) : R2 := fun x y H Q => rIxL K x y H Q ∨ rIxT K x y H Q ∨ rIxS x y H Q
theorem ix_seq : IxR X (rIx X.K) := ix_list.or (ix_tup.or ix_str)

/-! ### xs[i] = v, any sign -/
/-- the list's object behind a store -/
theorem mapSeq_set (its : List Value) (n j : Nat) (u : Value) : Obj.mapSeq (·.setIfInBounds j u) { cls := .type "list", data := .seq its.toArray n } = { cls := .type "list", data := .seq (its.set j u).toArray n } := by
  simp [Obj.mapSeq]
theorem Inv.lst {pins : List (Addr × Obj)} {σ : St} {H : Hp} {s : Shared} {p : Addr} {xs : List V} (I : Inv X pins σ H s) (h : H p = some (.lst xs)) :
    ∃ (its : List Value) (n : Nat), Vals xs its ∧ s.heap.get? p = some { cls := .type "list", data := .seq its.toArray n } ∧ xs.length ≤ sizeLine := by
  obtain ⟨z, its, n, r, e⟩ := I.hok p _ h
  exact ⟨its, n, r, e, z⟩
/-- the list at p is written by an update of its object -/
theorem Inv.lstUpd {pins : List (Addr × Obj)} {σ : St} {H : Hp} {s : Shared} {p : Addr} {xs ys : List V} {its its' : List Value} {n n' : Nat} {f : Obj → Obj} (I : Inv X pins σ H s) (h : H p = some (.lst xs))
    (ho : s.heap.get? p = some { cls := .type "list", data := .seq its.toArray n }) (hf : f { cls := .type "list", data := .seq its.toArray n } = { cls := .type "list", data := .seq its'.toArray n' }) (r : Vals ys its') (hz : ys.length ≤ sizeLine) (t : Nat) :
    Inv X pins σ (upd H p (.lst ys)) { s with heap := s.heap.update p f, toks := t } := by
  have e : (s.heap.update p f).get? p = some { cls := .type "list", data := .seq its'.toArray n' } := by
    rw [Heap.get?_update_self f ho (by rw [hf] <;> rfl), hf]
  refine I.write (x := p) (e := p) (by rw [h]; trivial) (.inl rfl) (fun b u hb q => (Heap.get?_update_other _ _ (Ne.symm hb)).trans q) ⟨_, e⟩ ?_
  exact ⟨hz, its', n', r, e⟩
noncomputable def rSetL : V → V → V → Hp → (Hp → Prop) → Prop := fun o i v H Q => ∃ p xs k j, o = .ref p ∧ i = .int k ∧ H p = some (.lst xs) ∧ ixN xs.length k = some j ∧ Q (upd H p (.lst (xs.set j v)))
theorem set_list : PSet X rSetL := by
  intro pins s σ H o i v ov iv u Q I ro ri rv h
  obtain ⟨p, xs, k, j, rfl, rfl, hp, hj, q⟩ := h
  cases ro
  obtain ⟨t, rfl⟩ := ri
  obtain ⟨its, n, r, ho, hz⟩ := I.lst hp
  obtain ⟨h1, h2, h3, h4⟩ := ixN_seq hj
  have hl := r.length
  have hn := line63
  have I' : Inv X pins σ (upd H p (.lst (xs.set j v))) { s with heap := s.heap.update p (Obj.mapSeq (·.setIfInBounds j u)) } :=
    I.lstUpd hp ho (mapSeq_set its n j u) (r.set rv j) (by rw [List.length_set]; exact hz) s.toks
  by_cases h0 : 0 ≤ k
  · have hk : k.toNat = j := by
      rw [seqIndex_of h0 h4] at h1
      exact Option.some.inj h1
    exact PySem.W.ki_setAt ho h0 (by omega) (by rw [List.size_toArray, ← hl]; exact h4) (by rw [hk]; exact ⟨_, I', q⟩)
  · have hk : (k + (its.toArray.size : Int)).toNat = j := by
      rw [seqIndex_neg (by omega) h3] at h1
      rw [List.size_toArray, ← hl]
      exact Option.some.inj h1
    exact PySem.W.ki_setBack ho (by omega) (by rw [List.size_toArray, ← hl]; exact h3) (by omega) (by rw [hk]; exact ⟨_, I', q⟩)

/-! ### slices -/
theorem slice_bounds (lo hi : Option Int) (n : Nat) : (sliceBounds lo hi none n).1 = ((HT.sIx n 0 lo : Nat) : Int) ∧ (sliceBounds lo hi none n).2.1 = ((HT.sIx n n hi : Nat) : Int) ∧ (sliceBounds lo hi none n).2.2 = 1 := by
  refine ⟨?_, ?_, rfl⟩
  · cases lo with
    | none => simp [sliceBounds, HT.sIx]
    | some i =>
      simp only [sliceBounds, HT.sIx, Option.getD_none, show (1 : Int) > 0 by decide, if_true]
      by_cases h : i < 0
      · simp only [h, if_true] <;> omega
      · simp only [h, if_false] <;> omega
  · cases hi with
    | none => simp [sliceBounds, HT.sIx]
    | some i =>
      simp only [sliceBounds, HT.sIx, Option.getD_none, show (1 : Int) > 0 by decide, if_true]
      by_cases h : i < 0
      · simp only [h, if_true] <;> omega
      · simp only [h, if_false] <;> omega
theorem slicePick_cut (its : List Value) (lo hi : Option Int) : slicePick its.toArray lo hi none = ((its.drop (HT.sIx its.length 0 lo)).take (HT.sIx its.length its.length hi - HT.sIx its.length 0 lo)).toArray := by
  obtain ⟨h1, h2, h3⟩ := slice_bounds lo hi its.toArray.size
  unfold slicePick
  rw [h1, h2, h3]
  simp only [sliceRange_one, pick_run, List.size_toArray] <;> rfl
/-- xs[lo:hi] of a list: a new list -/
noncomputable def rSlL (K : PySem.W.Frag) : V → Option Int → Option Int → Hp → VK → Prop := fun x lo hi H Q => ∃ a xs, x = .ref a ∧ SqL K H a xs ∧ ∀ p, H p = none → Q (.ref p) (upd H p (.lst (cutV xs lo hi)))
theorem sl_list : SlR X (rSlL X.K) := by
  intro pins s σ H x v vl vu lo hi sl Q I rx hs pl pu h
  obtain ⟨a, xs, rfl, hx, q⟩ := h
  cases rx
  obtain ⟨its, r, ht, hz⟩ := I.list hx
  have hlen := r.length
  refine ⟨"list", _, slot_list_getitem.lookup, ht.isList.typeIs, ?_⟩
  refine wpAny_getItem_list_slice ht.isList hs pl pu .none (by simp) ?_ (by rw [List.size_toArray] <;> omega)
  rw [slicePick_cut, ← hlen]
  refine ⟨.ref s.heap.objs.size, _, I.laid (t' := s.toks) (o := .lst (cutV xs lo hi)) (fun b ob q => Heap.get?_push_of_some _ q) (Nat.le_refl _) ?_, rfl, q _ (I.hok.fresh (Nat.le_refl _))⟩
  exact ⟨Nat.le_trans (cutV_length xs lo hi) hz, _, 0, (r.drop (HT.sIx xs.length 0 lo)).take (HT.sIx xs.length xs.length hi - HT.sIx xs.length 0 lo), Heap.get?_push_size _ rfl⟩

/-! ### in, not in: flat items -/
noncomputable def flatV : V → Bool
  | .non => true
  | .bl _ => true
  | .int _ => true
  | .str _ => true
  | _ => false
/-- == of flat values -/
noncomputable def eqV : V → V → Bool
  | .non, .non => true
  | .bl a, .bl b => a == b
  | .bl a, .int b => (if a then 1 else 0) == b
  | .int a, .bl b => a == (if b then 1 else 0)
  | .int a, .int b => a == b
  | .str a, .str b => a == b
  | _, _ => false
theorem eqAt_V {A : Around} {s : Shared} {y x : V} {u v : Value} (ry : RelV y u) (rx : RelV x v) (fy : flatV y = true) (fx : flatV x = true) : SeqAt.EqAt A s u v (eqV y x) := by
  cases y with
  | non =>
    cases ry
    cases x with
    | non => cases rx; exact SeqAt.EqAt.same _
    | bl b => cases rx; exact SeqAt.EqAt.none_bool b
    | int b => obtain ⟨t, rfl⟩ := rx; exact SeqAt.EqAt.none_int b t
    | str b => obtain ⟨t, rfl⟩ := rx; exact SeqAt.EqAt.none_str b t
    | _ => exact absurd (show false = true from fx) Bool.false_ne_true
  | bl a =>
    cases ry
    cases x with
    | non => cases rx; exact SeqAt.EqAt.bool_none a
    | bl b => cases rx; exact SeqAt.EqAt.bool_bool a b
    | int b => obtain ⟨t, rfl⟩ := rx; exact SeqAt.EqAt.bool_int a b t
    | str b => obtain ⟨t, rfl⟩ := rx; exact SeqAt.EqAt.bool_str a b t
    | _ => exact absurd (show false = true from fx) Bool.false_ne_true
  | int a =>
    obtain ⟨t', rfl⟩ := ry
    cases x with
    | non => cases rx; exact SeqAt.EqAt.int_none a t'
    | bl b => cases rx; exact SeqAt.EqAt.int_bool a t' b
    | int b => obtain ⟨t, rfl⟩ := rx; exact SeqAt.EqAt.int_int a t' b t
    | str b => obtain ⟨t, rfl⟩ := rx; exact SeqAt.EqAt.int_str a t' b t
    | _ => exact absurd (show false = true from fx) Bool.false_ne_true
  | str a =>
    obtain ⟨t', rfl⟩ := ry
    cases x with
    | non => cases rx; exact SeqAt.EqAt.str_none a t'
    | bl b => cases rx; exact SeqAt.EqAt.str_bool a t' b
    | int b => obtain ⟨t, rfl⟩ := rx; exact SeqAt.EqAt.str_int a t' b t
    | str b => obtain ⟨t, rfl⟩ := rx; exact SeqAt.EqAt.str_str a t' b t
    | _ => exact absurd (show false = true from fx) Bool.false_ne_true
  | _ => exact absurd (show false = true from fy) Bool.false_ne_true
/-! ### len, list(x), tuple(x) of any list or tuple that is read -/
theorem call_len_seq : CallR X (.builtin "len") (fun xs H Q => ∃ p ys, xs = [.ref p] ∧ (SqL X.K H p ys ∨ SqT X.K H p ys) ∧ Q (.int ys.length) H) := by
  intro pins s σ H xs us Q I r h
  obtain ⟨p, ys, rfl, hq, q⟩ := h
  obtain ⟨u, rfl, rx⟩ := vals1 r
  cases rx
  have hn := line63
  rcases hq with hq | hq
  · obtain ⟨its, r', pl, hz⟩ := I.list hq
    have hlen := r'.length
    exact Calls.call_len_list pl.isList (by simp only [List.size_toArray] <;> omega) ⟨.int ys.length, H, I.tok _, ⟨s.toks + 1, by rw [List.size_toArray, hlen]⟩, q⟩
  · obtain ⟨its, r', pl, hz⟩ := I.tuple hq
    have hlen := r'.length
    exact len_tuple pl (by simp only [List.size_toArray] <;> omega) ⟨.int ys.length, H, I.tok _, ⟨s.toks + 1, by rw [List.size_toArray, hlen]⟩, q⟩
/-! ### the call of a builtin's method: o.m(..) -/
/-- the value is of that builtin type -/
noncomputable def tyV (K : PySem.W.Frag) (T : String) (x : V) (H : Hp) : Prop := match x with
  | .str _ => T = "str"
  | .int _ => T = "int"
  | .ref p => (T = "list" ∧ ∃ xs, SqL K H p xs) ∨ (T = "tuple" ∧ ∃ o, K.lookup p = some o ∧ o.cls = .type "tuple" ∧ o.dict = none) ∨
      (T = "dict" ∧ ((∃ kvs, H p = some (.dK kvs)) ∨ ∃ kvs, H p = some (.dT kvs))) ∨ (T = "set" ∧ ∃ S n, H p = some (.set S n))
  | _ => False
theorem tyV_is {pins : List (Addr × Obj)} {σ : St} {H : Hp} {s : Shared} {T : String} {x : V} {v : Value} (I : Inv X pins σ H s) (r : RelV x v) (ty : tyV X.K T x H) :
    s.TypeIs v T ∧ ∀ a, v = .ref a → ∃ ob, s.heap.get? a = some ob ∧ ob.dict = none := by
  cases x with
  | str z =>
    obtain ⟨t, rfl⟩ := r
    cases (show T = "str" from ty)
    exact ⟨typeIs_str s z t, fun _ e => nomatch e⟩
  | int i =>
    obtain ⟨t, rfl⟩ := r
    cases (show T = "int" from ty)
    exact ⟨typeIs_int s i t, fun _ e => nomatch e⟩
  | ref p =>
    cases r
    rcases ty with ⟨rfl, xs, hq⟩ | ⟨rfl, o, hk, hc, hd⟩ | ⟨rfl, hk⟩ | ⟨rfl, S, n, hk⟩
    · obtain ⟨its, _, pl, _⟩ := I.list hq
      refine ⟨pl.isList.typeIs, fun a e => ?_⟩
      cases e
      obtain ⟨o, n, e, c, hd, _⟩ := pl
      exact ⟨o, e, hd⟩
    · refine ⟨⟨o, I.kIn p o hk, hc⟩, fun a e => ?_⟩
      cases e
      exact ⟨o, I.kIn _ o hk, hd⟩
    · have z : ∃ o, s.heap.get? p = some o ∧ o.ExactDict := by
        rcases hk with ⟨kvs, hk⟩ | ⟨kvs, hk⟩
        · obtain ⟨_, _, _, _, o, _, _, e, ex, _⟩ := I.hok p _ hk
          exact ⟨o, e, ex⟩
        · obtain ⟨_, _, _, _, o, _, _, e, ex, _⟩ := I.hok p _ hk
          exact ⟨o, e, ex⟩
      obtain ⟨o, e, ex⟩ := z
      refine ⟨⟨o, e, ex.1⟩, fun a e2 => ?_⟩
      cases e2
      exact ⟨o, e, ex.2.1⟩
    · obtain ⟨o, _, _, _, e, ex, _⟩ := I.hok p _ hk
      refine ⟨⟨o, e, ex.1⟩, fun a e2 => ?_⟩
      cases e2
      exact ⟨o, e, ex.2.1⟩
  | _ => exact False.elim ty
noncomputable def tBM (K : PySem.W.Frag) (T : String) (r : V → List V → Hp → VK → Prop) (to : TE) (t : TA) : TE := fun σ H Q => to σ H fun x H1 => tyV K T x H1 ∧ t σ H1 fun xs H2 => r x xs H2 Q
variable {o e : Expr} {es : List Expr} {to : TE} {t : TA} {name : Str} {apos cpos : Pos} {T id : String} {r : V → List V → Hp → VK → Prop}
theorem pe_bm (pa : PlainAttrs T) (slot : Slot T name id) (hty : typeOf (.builtin id) = pure (.type "method_descriptor")) (hm : MtR X id r) (ho : PE X o to) (ha : PA X (e :: es) t)
    (hbase : attributeBase o name X.env (eval o X.env) = eval o X.env := by rfl)
    (hfew : ((backTo cpos (starEach (e :: es) X.env)).all (fun x => !x.1) && (backToKw cpos (keywordEach [] X.env)).all (fun x => x.1.isSome)
      && decide ((e :: es).length + ([] : List Keyword).length + (if ([] : List Keyword).isEmpty then 0 else 1) < 30)) = true := by rfl)
    (hline : (apos.endLine == cpos.line) = true := by rfl) (hs : starEach (e :: es) X.env = (false, eval e X.env) :: starEach es X.env := by rfl) (hplain : (backTo cpos (starEach es X.env)).any (·.1) = false := by rfl) :
    PE X (.Call (.Attribute o name apos) (e :: es) [] cpos) (tBM X.K T r to t) := by
  intro pins s σ H Q I h
  refine wpAny_Call_method_late hbase hfew hline rfl (thn (ho pins s σ H _ I h) fun v s1 ⟨x, H1, I1, r1, ty, q1⟩ => ?_)
  obtain ⟨h1, h2⟩ := tyV_is I1 r1 ty
  refine ⟨T, id, pa, slot, hty, h1, h2, ?_⟩
  have hA := ha cpos pins s1 σ H1 _ I1 q1
  rw [hs] at hA ⊢
  refine Calls.callWith_builtin (by show (false || (backTo cpos (starEach es X.env)).any (·.1)) = false; rw [hplain] <;> rfl) (Calls.evalArgs_plain ?_)
  exact thn hA fun us s2 ⟨vs, H2, I2, r2, q2⟩ => hm pins s2 σ H2 x vs v us Q I2 r1 r2 q2
/- xs.append(e), list.index on a module's tuple .. are MtR facts of 06m -/
end
end L2

namespace L2
open PySem PySem.Spec PyProof.Rows

noncomputable def MtM (X : Cx) (id : String) (r : V → List V → Hp → VK → Prop) : Prop :=
  ∀ (pins : List (Addr × Obj)) (s : Shared) (σ : St) (H : Hp) (x : V) (xs : List V) (v : Value) (us : List Value) (Q : VK), Inv X pins σ H s → RelV x v → Vals xs us → r x xs H Q →
    wpAny (model X.prog X.w) X.A (call (.builtin id) (v :: us)) (EP X pins σ Q) X.xe s

/-! ### lists of values -/
theorem Vals.one : ∀ {x : V} {us : List Value}, Vals [x] us → ∃ u, us = [u] ∧ RelV x u
  | _, _, .cons r .nil => ⟨_, rfl, r⟩
theorem Vals.two : ∀ {x y : V} {us : List Value}, Vals [x, y] us → ∃ u v, us = [u, v] ∧ RelV x u ∧ RelV y v
  | _, _, _, .cons r (.cons q .nil) => ⟨_, _, rfl, r, q⟩
section
variable {X : Cx} {pins : List (Addr × Obj)} {σ : St} {H : Hp} {s : Shared} {l b : Addr} {xs ys zs : List V}

/-! ### the two steps: a tracked list is rewritten, a new list is laid -/
theorem Inv.lset {its its' : List Value} {n : Nat} {f : Array Value → Array Value} {t' : Nat} (I : Inv X pins σ H s) (hH : H l = some (.lst xs))
    (e : s.heap.get? l = some { cls := .type "list", data := .seq its.toArray n }) (hf : f its.toArray = its'.toArray) (hv : Vals ys its') (hz : ys.length ≤ sizeLine) :
    Inv X pins σ (upd H l (.lst ys)) { s with heap := s.heap.update l (Obj.mapSeq f), toks := t' } := by
  have q := PySem.IsL.update e f
  rw [hf] at q
  refine I.write (x := l) (e := l) (by rw [hH]; exact trivial) (.inl rfl) (fun b' u hb hu => (Heap.get?_update_other s.heap (Obj.mapSeq f) (Ne.symm hb)).trans hu) ⟨_, q⟩ ?_
  exact ⟨hz, its', _, hv, q⟩
theorem Inv.lnew {its : List Value} {t' : Nat} (I : Inv X pins σ H s) (hv : Vals ys its) (hz : ys.length ≤ sizeLine) :
    Inv X pins σ (upd H s.heap.objs.size (.lst ys)) { s with heap := s.heap.push { cls := .type "list", data := .seq its.toArray }, toks := t' } :=
  I.laid (fun _ _ q => Heap.get?_push_of_some _ q) (Nat.le_refl _) ⟨hz, its, 0, hv, Heap.get?_push_size _ rfl⟩
theorem Inv.fresh (I : Inv X pins σ H s) : H s.heap.objs.size = none := I.hok.fresh (Nat.le_refl _)
theorem Inv.lstM (I : Inv X pins σ H s) (hH : H l = some (.lst xs)) : xs.length ≤ sizeLine ∧ ∃ (its : List Value) (n : Nat), Vals xs its ∧ xs.length = its.length ∧ s.heap.get? l = some { cls := .type "list", data := .seq its.toArray n } := by
  obtain ⟨z, its, n, r, e⟩ := I.hok l _ hH
  exact ⟨z, its, n, r, r.length, e⟩

end

section
variable {X : Cx}

/-! ### methods -/
noncomputable def rAppend : V → List V → Hp → VK → Prop := fun x vs H Q => ∃ l xs y, x = .ref l ∧ vs = [y] ∧ H l = some (.lst xs) ∧ xs.length < sizeLine ∧ Q .non (upd H l (.lst (xs ++ [y])))
theorem mt_append : MtM X "list.append" rAppend := by
  intro pins s σ H x vs v us Q I rx rv h
  obtain ⟨l, xs, y, rfl, rfl, hH, hz, q⟩ := h
  cases rx
  obtain ⟨u, rfl, ru⟩ := rv.one
  obtain ⟨z, its, n, r, hl, e⟩ := I.lstM hH
  refine call_meets F.slot_list_append ⟨_, e, rfl⟩ F.entry_list_append (F.args_list_append_2 _ _) (PySem.list_append l its.toArray n u (by rw [List.size_toArray]; omega)) ⟨e, ?_⟩
  refine ⟨.non, _, I.lset (its' := its ++ [u]) hH e (by simp) (r.append (.cons ru .nil)) ?_, rfl, q⟩
  rw [List.length_append, List.length_singleton]
  omega

/-! ### list + list, list += list, list * int -/
noncomputable def rCat : R2 := fun x y H Q => ∃ l b xs zs, x = .ref l ∧ y = .ref b ∧ H l = some (.lst xs) ∧ H b = some (.lst zs) ∧ xs.length + zs.length ≤ sizeLine ∧ ∀ p, H p = none → Q (.ref p) (upd H p (.lst (xs ++ zs)))
theorem op_cat : OpR X (binaryOp .Add) rCat := by
  intro pins s σ H x y v u Q I rx ry h
  obtain ⟨l, b, xs, zs, rfl, rfl, hH, hB, hz, q⟩ := h
  cases rx
  cases ry
  obtain ⟨z, its, n, r, hl, e⟩ := I.lstM hH
  obtain ⟨z2, its2, n2, r2, hl2, e2⟩ := I.lstM hB
  refine PySem.P.add_list e e2 ?_ (by rw [List.size_toArray, List.size_toArray]; omega)
  have ea : its.toArray ++ its2.toArray = (its ++ its2).toArray := by simp
  rw [ea]
  exact ⟨.ref _, _, I.lnew (t' := s.toks) (r.append r2) (by rw [List.length_append]; omega), rfl, q _ I.fresh⟩
/-! ### del xs[i] -/
end

/-! ### xs[a:b] = ys -/
section
variable {prog : Program} {w : World} {A : Around} {E : Value → Shared → Prop} {s : Shared}
set_option maxRecDepth 100000 in
end

section
variable {X : Cx}
end
end L2

namespace Att
open PySem PySem.W PySem.Calls PyProof.Rows

/-! ### the script -/
theorem ints_of_wellAll {P : Params} {h : Heap} : ∀ (ns : List Int) (vs : List Value), WellAll P h vs (ns.map WData.int) → IntsAre vs ns := by
  intro ns
  induction ns with
  | nil =>
    intro vs w
    rw [List.map_nil] at w
    cases w
    exact .nil
  | cons n ns ih =>
    intro vs w
    rw [List.map_cons] at w
    cases w with
    | cons a b =>
      cases a
      exact .cons _ _ (ih _ b)

theorem script_of {l : OpenLaw} {n : Nat} (hn : l.most = some n) {P : Params} {h : Heap} {args : List WData} {vals : List Value}
    (hpre : l.row.toRowW.claim.pre args = true) (hwl : WellAll P h vals args) :
    ∃ a vs ns, vals = [Value.ref a] ∧ args = [WData.list (ns.map WData.int)] ∧ h.get? a = some { cls := .type "list", data := .seq vs.toArray } ∧ IntsAre vs ns ∧ ns.length ≤ n := by
  have hsh : WShape.hasAll [] args [.list .int] = true := (pre_splitW hpre).1
  have hc : l.pre.holds [] { args := args } = true := (pre_splitW hpre).2
  obtain ⟨d, r, rfl, h1, h2⟩ := hasAllW_cons hsh
  obtain rfl := hasAllW_nil h2
  obtain ⟨xs, rfl, h3⟩ := hasW_list h1
  obtain ⟨ns, rfl⟩ := items_int h3
  have hlen : ns.length ≤ n := by
    unfold OpenLaw.pre at hc
    have h4 : (WTm.not (.lt (.lit (.int (n : Int))) (.len (.arg 0)))).holds [] { args := [.list (ns.map .int)] } = true := by
      have h4 := (holds_andW hc).1
      rw [hn] at h4
      exact h4
    have h5 := condW_of h4 (w_not (w_lt w_lit (w_len_list (w_arg rfl))))
    rw [List.length_map] at h5
    refine Nat.le_of_not_lt fun q => ?_
    have q' : (n : Int) < ((ns.length : Nat) : Int) := by omega
    first
      | (rw [decide_eq_true q'] at h5; exact absurd h5 (by decide))
      | (simp at h5; omega)
  cases hwl with
  | cons w1 w2 =>
    cases w2
    cases w1 with
    | list ho hall => exact ⟨_, _, ns, rfl, rfl, ho, ints_of_wellAll ns _ hall, hlen⟩

theorem post_true (l : OpenLaw) (args : List WData) : l.row.toRowW.claim.post args (.bool true) args = true :=
  postW_of (r := l.row.toRowW) (X := (true == true))
    (show WShape.has [] (.bool true) .bool = true by first | rfl | decide | simp [WShape.has, WShape.arms, WShape.armsAll])
    (show (WTm.eq .res (.lit (.bool true))).value [] { args := args, res := some (.bool true), after := args } = some (.bool (true == true)) from w_eq_bool (w_res rfl) w_lit) rfl

/-! ### the attachment: holds_open's last premise (the goal 'hc' behind k_head) from a wpAny of the law's body -/
/-- the same from a codeAny of the CALL (for a layer whose function contracts speak of calls) -/
theorem attach_call {l : OpenLaw} {n : Nat} {q : Program} {loose : List Str} {XP : (Str → Option Value) → Heap → Prop} {YP : World → Heap → Prop} {d : DefRec}
    (hn : l.most = some n) (hdf : d.params.defaults = [])
    (call : ∀ (w : World) (s₀ s₁ : Shared) (mg mb : Str → Option Value) (fa : Addr) (o : Obj) (pm cd doc : Value) (a : Addr) (vs : List Value) (ns : List Int),
      Ground q loose [] XP w s₀ mg mb s₁.heap → YP w s₁.heap →
      s₁.heap.get? fa = some o → o.data = .func (docDef d.name d.params d.body d.scope pm cd doc) → s₁.heap.CodeRec cd d.name → mg d.name = some (.ref fa) →
      s₁.heap.get? a = some { cls := .type "list", data := .seq vs.toArray } → IntsAre vs ns → ns.length ≤ n → s₁.gens = #[] →
      codeAny (model l.prog w) callerA (.call (.ref fa) ⟨[.ref a], []⟩) (fun r s' => r = .ok (.ret (.bool true)) ∧ OldK s₁.heap s'.heap ∧ s'.os = s₁.os ∧ AllBare s'.gens) s₁) :
    WalkO q loose XP YP l.row.toRowW d [] (fun f vs => PySem.call f vs) := by
  intro w s₀ s₁ mg mb G Y fa o pm cd doc dV kV ho hd hcd hD hmg hg args vals as hpre hlay hrd hwl hlo
  obtain rfl : dV = .none := Dflts.none hD hdf
  obtain rfl : kV = .none := Dflts.noKw hD
  obtain ⟨a, vs, ns, rfl, rfl, hobj, hints, hlen⟩ := script_of hn hpre hwl
  refine enter_call (codeAny_mono (call w s₀ s₁ mg mb fa o pm cd doc a vs ns G Y ho (fd_plain hd) hcd hmg hobj hints hlen hg) fun r s' hq => ?_)
  obtain ⟨rfl, h2, h3, h4⟩ := hq
  exact ⟨.inl ⟨.bool true, .bool true, [], rfl, fun _ => rfl, .bool true, post_true l _, fun _ => ⟨List.Pairwise.nil, fun _ hm => (nomatch hm)⟩⟩, h2, h3, h4⟩

/-! ### rules over ANY heap (no ledger) from facts about the written part K: the library's own take a ledger (News) for what they write -/
section
variable {prog : Program} {w : World} {A : Around} {E : Value → Shared → Prop} {s : Shared} {K : Frag}

/-! the whole heap as the ledger: makes every rule that writes through a ledger a rule over any heap -/
end
end Att

namespace L2
open PySem PySem.Spec PyProof.Rows

theorem vals_ints : ∀ {vs : List Value} {ns : List Int}, IntsAre vs ns → Vals (ns.map V.int) vs
  | _, _, .nil => .nil
  | _, _, .cons n t h => .cons ⟨t, rfl⟩ (vals_ints h)

/-- nothing is tracked but the script, known to the object (or it is an object of the module) -/
noncomputable def Only (H : Hp) : Prop := ∀ b, H b = none ∨ ∃ o xs, H b = some (.frz o (.lst xs))

/-- THE HEAD: the law's promise, at the heap behind the top. F, the promise of the law's def, may use that base is part of the heap (so K.In base, base.Ns mainGlobals mg stand in Mod) -/
theorem law_call {P : Program} {w : World} {K : PySem.W.Frag} {mg mb : Str → Option Value} {CX : CXT} {k : Nat} {fa a : Addr} {fd : FuncData} {x : Str} {sp : Sp} {s₁ : Shared} {vs : List Value} {ns : List Int}
    (KX : K.In s₁.heap) (hns : s₁.heap.Ns mainGlobals mg) (hb : s₁.heap.Ns builtinsNs mb) (hbb : ∀ x : Str, x ≠ "__name__" → mb x = bootBuiltins x) (hlim : s₁.heap.NoLimit) (hg : s₁.gens = #[])
    (ha : s₁.heap.get? a = some { cls := .type "list", data := .seq vs.toArray }) (hi : IntsAre vs ns) (hl : ns.length ≤ sizeLine) (hr : Room k callerA)
    (F : ∀ base : Heap, K.In base → base.Ns mainGlobals mg → FnOk P w K mg base CX true k fa fd [x] sp) (hbind : ∀ (s : Shared) (u : Value), BindsTo s fd ⟨[u], []⟩ [(x, u)])
    (hsp : ∀ H : Hp, Only H → SqL K H a (ns.map V.int) → sp [.ref a] H (fun v _ => v = .bl true) fun _ _ _ => False)
    (hCX : ∀ H e s', CX [] H s₁ (fun _ _ _ => False) e s' → False) :
    codeAny (model P w) callerA (.call (.ref fa) ⟨[.ref a], []⟩) (fun r s' => r = .ok (.ret (.bool true)) ∧ OldK s₁.heap s'.heap ∧ s'.os = s₁.os ∧ AllBare s'.gens) s₁ := by
  have rv := vals_ints hi
  have lenV := hi.length
  -- from an abstract heap in which nothing but the script may be tracked
  have core : ∀ H : Hp, Only H → SqL K H a (ns.map V.int) → HOk P w H s₁.heap → (∀ b, H b ≠ none → b = a) → (H a ≠ none → K.lookup a = none) →
      codeAny (model P w) callerA (.call (.ref fa) ⟨[.ref a], []⟩) (fun r s' => r = .ok (.ret (.bool true)) ∧ OldK s₁.heap s'.heap ∧ s'.os = s₁.os ∧ AllBare s'.gens) s₁ := by
    intro H hO hS hok hA hK
    have base_of : ∀ {b : Addr} {o : Obj}, s₁.heap.get? b = some o → H b = none → (hidT s₁.heap H).get? b = some o := fun e n => hidT_get e n
    have noA : ∀ {b : Addr} {o : Obj} {es : Array DictEntry} {ep : Nat}, s₁.heap.get? b = some o → o.data = .dict es ep → H b = none := fun {b o es ep} e d => by
      cases q : H b with
      | none => rfl
      | some u =>
        have e' : b = a := hA b (by rw [q]; simp)
        subst e'
        rw [ha] at e; cases e
        have d' : Data.seq vs.toArray _ = Data.dict es ep := d
        cases d'
    have nsK : ∀ {b : Addr} {m : Str → Option Value}, s₁.heap.Ns b m → (hidT s₁.heap H).Ns b m := fun {b m} ⟨o, es, ep, e, d, r⟩ => ⟨o, es, ep, base_of e (noA e d), d, r⟩
    have hKb : K.In (hidT s₁.heap H) := fun b o e => base_of (KX b o e) (by
      cases q : H b with
      | none => rfl
      | some u =>
        have e' : b = a := hA b (by rw [q]; simp)
        subst e'
        rw [hK (by rw [q]; simp)] at e; cases e)
    have hM : Mod K mg (hidT s₁.heap H) := ⟨hKb, nsK hns, ⟨mb, nsK hb, hbb⟩, let ⟨mc, h1, h2⟩ := hlim; ⟨mc, nsK h1, h2⟩⟩
    have e0 : Env0 P w K mg (hidT s₁.heap H) callerA [] s₁ H := ⟨rfl, hM, fun b o e => of_hidT e, Nat.le_of_eq (hidT_size _ _), trivial, fun b hb => absurd (show b ∈ ([] : List Addr) from hb) (by simp), hok, .of_eq hg⟩
    refine codeAny_mono ((F _ hKb (nsK hns)).run callerA [] s₁ H ⟨[.ref a], []⟩ [.ref a] [.ref a] _ _ (fun _ => rfl) hr e0 (hbind s₁ (.ref a)) (.cons rfl .nil) (hsp H hO hS)) fun r s' h => ?_
    cases r with
    | error e => exact (hCX H e s' h).elim
    | ok fl =>
      cases fl with
      | next => exact False.elim h
      | brk => exact False.elim h
      | cont => exact False.elim h
      | ret u =>
        obtain ⟨v, H', os, bare, un, hok', r', q⟩ := h
        have q' : v = .bl true := q
        subst q'
        obtain rfl : u = Value.bool true := r'
        refine ⟨rfl, OldK.of_keep fun b o e => ?_, os, bare⟩
        cases q : H b with
        | none => exact un.keep b o e q (by intro z; exact absurd (show b ∈ ([] : List Addr) from z) (by simp)) (by simp)
        | some u =>
          rcases hO b with z | ⟨ob, xs, z⟩
          · rw [q] at z; cases z
          · have z2 := un.frzs b ob _ z
            obtain ⟨e1, _⟩ := hok b _ z
            obtain ⟨e2, _⟩ := hok' b _ z2
            rw [e] at e1; cases e1
            exact e2
  cases hk : K.lookup a with
  | some o =>
    -- the script is one of the module's own objects
    have e := KX a o hk
    rw [ha] at e
    cases e
    refine core (fun _ => none) (fun _ => .inl rfl) (.inr ⟨_, vs.toArray, _, hk, rfl, rfl, rfl, by rw [List.size_toArray, lenV]; exact hl, by simpa using rv⟩) (fun b u z => by have z' : (none : Option HO) = some u := z; cases z') (fun b z => absurd rfl z) fun z => absurd rfl z
  | none =>
    refine core (fun b => if b = a then some (.frz { cls := .type "list", data := .seq vs.toArray } (.lst (ns.map V.int))) else none) (fun b => ?_) (.inl (.inr ⟨{ cls := .type "list", data := .seq vs.toArray }, if_pos rfl⟩)) (fun b u z => ?_) (fun b z => ?_) fun _ => hk
    · by_cases hb : b = a
      · exact .inr ⟨_, _, if_pos hb⟩
      · exact .inl (if_neg hb)
    · by_cases hb : b = a
      · have z' := (if_pos hb).symm.trans z
        cases z'
        subst hb
        exact ⟨ha, by rw [List.length_map]; exact hl, vs, _, rv, ha⟩
      · have z' := (if_neg hb).symm.trans z
        cases z'
    · by_cases hb : b = a
      · exact hb
      · exact absurd (if_neg hb) z
end L2

namespace L2
open PySem PySem.Spec PyProof.Rows

/-- the goal that k_head leaves (case hc), from the law's promise. F gives the function object fd (K's own) once, then the promise over every base -/
theorem walk_of {l : PySem.W.OpenLaw} {n k : Nat} {q : Program} {loose : List Str} {XP : (Str → Option Value) → Heap → Prop} {YP : World → Heap → Prop} {d : DefRec} {K : Params → PySem.W.Frag} {CX : World → CXT} {sp : World → Sp} {x : Str}
    (hn : l.most = some n) (hn2 : n ≤ sizeLine) (hdf : d.params.defaults = []) (hr : Room k callerA)
    (hY : ∀ (w : World) (h : Heap), YP w h → (K w.params).In h)
    (F : ∀ (w : World) (mg : Str → Option Value) (fa : Addr) (h : Heap), (K w.params).In h → h.Ns mainGlobals mg → mg d.name = some (.ref fa) →
      ∃ fd : FuncData, (∀ (s : Shared) (u : Value), BindsTo s fd ⟨[u], []⟩ [(x, u)]) ∧
        ∀ base : Heap, (K w.params).In base → base.Ns mainGlobals mg → FnOk l.prog w (K w.params) mg base (CX w) true k fa fd [x] (sp w))
    (hsp : ∀ (w : World) (H : Hp) (a : Addr) (ns : List Int), ns.length ≤ n → Only H → SqL (K w.params) H a (ns.map V.int) → sp w [.ref a] H (fun v _ => v = .bl true) fun _ _ _ => False)
    (hCX : ∀ (w : World) (H : Hp) (s : Shared) (e : Value) (s' : Shared), CX w [] H s (fun _ _ _ => False) e s' → False) :
    PySem.W.WalkO q loose XP YP l.row.toRowW d [] (fun f vs => PySem.call f vs) := by
  refine Att.attach_call hn hdf fun w s₀ s₁ mg mb fa o pm cd doc a vs ns G Y ho hd hcd hmg hobj hints hlen hg => ?_
  have KX := hY w _ Y
  obtain ⟨fd, hb, hF⟩ := F w mg fa _ KX G.T.g hmg
  exact law_call KX G.T.g G.T.b G.T.builtins G.T.nolimit hg hobj hints (Nat.le_trans hlen hn2) hr hF hb (fun H hO hS => hsp w H a ns hlen hO hS) fun H e s' => hCX w H s₁ e s'
end L2




set_option Elab.async false
set_option linter.all false
set_option maxRecDepth 100000
set_option maxHeartbeats 4000000
/-! EXCEPTIONS OVER THE LAYER: the record of an exception in flight, a frame left by it. -/
namespace L2
open PySem PySem.Spec PyProof.Rows

/-- where the record's head may point: nowhere yet, or to an entry of its own that is not in flight -/
noncomputable def TbOk (h0 : Heap) (H : Hp) (h : Heap) (e : Addr) (hd : Value) : Prop :=
  hd = .none ∨ ∃ T oT ts, hd = .ref T ∧ h0.get? T = none ∧ H T = none ∧ T ≠ e ∧ h.get? T = some oT ∧ oT.data = .fields ts ∧ ts[3]? = some .none
/-- an exception of the class at C, new to h0, untracked -/
structure Exc (h0 : Heap) (H : Hp) (h : Heap) (e C : Addr) (dx : Option Addr) : Prop where
  new : h0.get? e = none
  un : H e = none
  ob : ∃ oe vs hd, h.get? e = some oe ∧ oe.cls = .ref C ∧ oe.dict = dx ∧ oe.data = .fields vs ∧ vs[1]? = some hd ∧ TbOk h0 H h e hd
/-- the records at ch have turned, the frames' slots at fr too -/
structure Tbd (h0 : Heap) (H : Hp) (fr : List Addr) (h h' : Heap) (ch : List Addr) : Prop where
  rec_ : ∀ b ∈ ch, h0.get? b = none ∧ H b = none ∧ ∃ o vs, h.get? b = some o ∧ o.data = .fields vs
  keep : ∀ b o, h.get? b = some o → b ∉ fr → b ∉ ch → h'.get? b = some o
  slot : ∀ b o, h.get? b = some o → b ∈ fr → ∃ sl, h'.get? b = some { o with slots := sl }
  there : ∀ b o, h.get? b = some o → ∃ o', h'.get? b = some o'

noncomputable def tbObj (head : Value) (L : Addr) (pl : List Value) : Obj :=
  { cls := .type "traceback", dict := none, data := .fields ([head, .ref L, .none, rawInt L, .none] ++ (if pl.isEmpty then List.replicate 6 Value.none else pl)).toArray }
theorem mapF_dict (o : Obj) (f : Array Value → Array Value) : (o.mapFields f).dict = o.dict := by
  obtain ⟨c, d, dt, sl⟩ := o; cases dt <;> rfl
theorem mapF_cls (o : Obj) (f : Array Value → Array Value) : (o.mapFields f).cls = o.cls := by
  obtain ⟨c, d, dt, sl⟩ := o; cases dt <;> rfl

section
variable {M : Model} {A : Around} {E : Value → Shared → Prop} {s : Shared} {base h0 : Heap} {env : Env} {outer : List Env} {L e C : Addr} {dx : Option Addr} {H : Hp} {Q : Unit → Shared → Prop}

/-- a new entry ahead of the head, flying; then at rest (fl none) or not -/
theorem entry_rec {oe : Obj} {vs : Array Value} {head : Value} {hn : Bool} (hfr : A.frames = some (env :: outer)) (hl : s.heap.FunFrames base (env :: outer)) (hf : env.frame = some L)
    (he : s.heap.get? e = some oe) (hd : oe.data = .fields vs) (hsz : 1 < vs.size)
    (k : ∀ h' T oT ts, s.heap.objs.size ≤ T → (∀ b o, s.heap.get? b = some o → b ∉ frs (env :: outer) → b ≠ e → h'.get? b = some o) → (∀ b o, s.heap.get? b = some o → b ∈ frs (env :: outer) → ∃ sl, h'.get? b = some { o with slots := sl }) →
      h'.get? e = some (oe.mapFields (·.setIfInBounds 1 (.ref T))) → h'.get? T = some oT → oT.data = .fields ts → 3 < ts.size → ts[3]? = some (rawInt L) → Q () { s with heap := h' }) :
    wpAny M A (do let a ← frameOf env; let pl ← entryPlaceOf L hn; let b ← EntryCells.newEntry head a .none (rawInt L) .none pl; setField (.ref e) 1 b) Q E s := by
  have nfr : e ∉ frs (env :: outer) := fun hm => by
    obtain ⟨_, o, ho, hx⟩ := hl.mem hm
    rw [he] at ho
    cases ho
    exact hx vs hd
  refine wpAny_bind (wpAny_frameOf_fun hfr hl hf fun h₁ sl₁ => ?_)
  refine wpAny_bind (wpAny_entryPlaceOf fun pl hpl => ?_)
  unfold EntryCells.newEntry newFields
  refine wpAny_bind (wpAny_newObj_type ?_ (hpl.sizeOk5 _ _ _ _ _))
  have e1 : h₁.get? e = some oe := (sl₁.2.1 e nfr).trans he
  have e2 : (h₁.push (tbObj head L pl)).get? e = some oe := Heap.get?_push_of_some _ e1
  refine wpAny_setField e2 hd hsz ?_
  have ne : h₁.objs.size ≠ e := Nat.ne_of_gt (Heap.lt_size e1)
  have d3 := Obj.data_mapFields hd (·.setIfInBounds 1 (Value.ref h₁.objs.size))
  have kp : ∀ b o, h₁.get? b = some o → b ≠ e → ((h₁.push (tbObj head L pl)).update e (Obj.mapFields (·.setIfInBounds 1 (Value.ref h₁.objs.size)))).get? b = some o := fun b o q n => by
    rw [Heap.get?_update_other _ _ n.symm]
    exact Heap.get?_push_of_some _ q
  refine k _ h₁.objs.size (tbObj head L pl) _ (by rw [sl₁.1]; exact Nat.le_refl _) (fun b o q n1 n2 => kp b o ((sl₁.2.1 b n1).trans q) n2) (fun b o q m => ?_) (Heap.get?_update_self _ e2 (Obj.isFreed_of_fields d3)) ?_ rfl ?_ ?_
  · obtain ⟨sl, z⟩ := sl₁.2.2 b o q
    exact ⟨sl, kp b _ z fun y => nfr (y ▸ m)⟩
  · rw [Heap.get?_update_other _ _ ne.symm]
    exact Heap.get?_push_size _ rfl
  · simp only [List.size_toArray, List.length_append, List.length_cons, List.length_nil] <;> omega
  · first
      | (simp; done)
      | (rcases hpl with rfl | ⟨_, _, _, _, _, _, _, rfl⟩ <;> simp)

/-- noteFrame, the new entry in flight at L -/
theorem note_rec (hfr : A.frames = some (env :: outer)) (hl : s.heap.FunFrames base (env :: outer)) (hf : env.frame = some L) (x : Exc h0 H s.heap e C dx)
    (k : ∀ h' T oT oe ts vs ch, Tbd h0 H (frs (env :: outer)) s.heap h' ch → s.heap.objs.size ≤ T → h'.get? e = some oe → oe.cls = .ref C → oe.dict = dx → oe.data = .fields vs → vs[1]? = some (.ref T) → h'.get? T = some oT → oT.data = .fields ts →
      3 < ts.size → ts[3]? = some (rawInt L) → Q () { s with heap := h' }) : wpAny M A (noteFrame (.ref e) env) Q E s := by
  obtain ⟨oe, vs, hd, he, hc, hdx, hda, h1, tb⟩ := x.ob
  have hsz : 1 < vs.size := (Array.getElem?_eq_some_iff.mp h1).1
  have nfr : ∀ b o ws, s.heap.get? b = some o → o.data = .fields ws → b ∉ frs (env :: outer) := fun b o ws q d hm => by
    obtain ⟨_, o', ho, hx⟩ := hl.mem hm
    rw [q] at ho
    cases ho
    exact hx ws d
  unfold noteFrame
  simp only [hf]
  refine wpAny_bind (wpAny_field he hda h1 ?_)
  rcases tb with rfl | ⟨T, oT, ts, rfl, nT, uT, neT, gT, dT, h3⟩
  · rw [if_neg (by decide)]
    refine entry_rec hfr hl hf he hda hsz fun h' T oT ts lt kp sl ge gT dT z3 z4 => ?_
    refine k h' T oT _ ts _ [e] ⟨fun b hb => ?_, fun b o q n1 n2 => kp b o q n1 fun z => n2 (by rw [z]; exact .head _), sl, fun b o q => ?_⟩ lt ge ((mapF_cls _ _).trans hc) ((mapF_dict _ _).trans hdx) (Obj.data_mapFields hda _) (by simp [hsz]) gT dT z3 z4
    · obtain rfl : b = e := by simpa using hb
      exact ⟨x.new, x.un, oe, vs, he, hda⟩
    · by_cases z : b = e
      · subst z; exact ⟨_, ge⟩
      · by_cases m : b ∈ frs (env :: outer)
        · obtain ⟨w, q'⟩ := sl b o q m
          exact ⟨_, q'⟩
        · exact ⟨o, kp b o q m z⟩
  · rw [if_pos (show (Value.ref T != Value.none) = true from by simp)]
    refine wpAny_bind (wpAny_field gT dT h3 ?_)
    rw [if_neg (show ¬ ((Value.none == rawInt L) = true) from by simp [rawInt])]
    have z3 : 3 < ts.size := (Array.getElem?_eq_some_iff.mp h3).1
    refine wpAny_bind (wpAny_setField gT dT z3 ?_)
    have oth : ∀ b, b ≠ T → (s.heap.update T (Obj.mapFields (·.setIfInBounds 3 Value.none))).get? b = s.heap.get? b := fun b n => Heap.get?_update_other _ _ n.symm
    have hl' : (s.heap.update T (Obj.mapFields (·.setIfInBounds 3 Value.none))).FunFrames base (env :: outer) := hl.of_keeps fun b o q nd => ⟨o, (oth b fun z => by subst z; rw [gT] at q; cases q; exact nd ts dT).trans q, rfl⟩
    have sT : (s.heap.update T (Obj.mapFields (·.setIfInBounds 3 Value.none))).get? T = some (oT.mapFields (·.setIfInBounds 3 Value.none)) := Heap.get?_update_self _ gT (Obj.isFreed_of_fields (Obj.data_mapFields dT _))
    refine entry_rec hfr hl' hf ((oth e neT.symm).trans he) hda hsz fun h' T' oT' ts' lt kp sl ge gT' dT' z3' z4' => ?_
    have lt' : s.heap.objs.size ≤ T' := by
      have := lt
      simp only [Heap.size_after_update] at this
      exact this
    refine k h' T' oT' _ ts' _ [e, T] ⟨fun b hb => ?_, fun b o q n1 n2 => kp b o ((oth b fun z => n2 (by simp [z])).trans q) n1 fun z => n2 (by simp [z]), fun b o q m => ?_, fun b o q => ?_⟩ lt' ge ((mapF_cls _ _).trans hc) ((mapF_dict _ _).trans hdx) (Obj.data_mapFields hda _) (by simp [hsz]) gT' dT' z3' z4'
    · have hb' : b = e ∨ b = T := by simpa using hb
      rcases hb' with rfl | rfl
      · exact ⟨x.new, x.un, oe, vs, he, hda⟩
      · exact ⟨nT, uT, oT, ts, gT, dT⟩
    · exact sl b o ((oth b fun z => by subst z; exact nfr b o ts q (by rw [gT] at q; cases q; exact dT) m).trans q) m
    · by_cases z : b = e
      · subst z; exact ⟨_, ge⟩
      · by_cases y : b = T
        · subst y
          exact ⟨_, kp b _ sT (nfr b oT ts gT dT) z⟩
        · by_cases m : b ∈ frs (env :: outer)
          · obtain ⟨w, q'⟩ := sl b o ((oth b y).trans q) m
            exact ⟨_, q'⟩
          · exact ⟨o, kp b o ((oth b y).trans q) m z⟩

/-- setFlight none: the head is at rest -/
theorem rest_rec {oe oT : Obj} {vs ts : Array Value} {T : Addr} (he : s.heap.get? e = some oe) (hd : oe.data = .fields vs) (h1 : vs[1]? = some (.ref T)) (gT : s.heap.get? T = some oT) (dT : oT.data = .fields ts) (z3 : 3 < ts.size)
    (k : ∀ h', (∀ b o, b ≠ T → s.heap.get? b = some o → h'.get? b = some o) → h'.get? T = some (oT.mapFields (·.setIfInBounds 3 Value.none)) → Q () { s with heap := h' }) : wpAny M A (setFlight (.ref e) none) Q E s := by
  unfold setFlight
  refine wpAny_bind (wpAny_field he hd h1 ?_)
  rw [if_pos (show (Value.ref T != Value.none) = true from by simp)]
  exact wpAny_setField gT dT z3 (k _ (fun b o n q => (Heap.get?_update_other _ _ n.symm).trans q) (Heap.get?_update_self _ gT (Obj.isFreed_of_fields (Obj.data_mapFields dT _))))

/-- the frame noted, the head at rest -/
theorem noted_rec (hfr : A.frames = some (env :: outer)) (hl : s.heap.FunFrames base (env :: outer)) (hf : env.frame = some L) (x : Exc h0 H s.heap e C dx)
    (hfree : ∀ b, s.heap.objs.size ≤ b → H b = none) (h0s : ∀ b o, h0.get? b = some o → ∃ o', s.heap.get? b = some o')
    (k : ∀ h' ch, Tbd h0 H (frs (env :: outer)) s.heap h' ch → Exc h0 H h' e C dx → Q () { s with heap := h' }) :
    wpAny M A (noteFrame (.ref e) env) (fun _ s₁ => wpAny M A (setFlight (.ref e) none) Q E s₁) E s := by
  have ele : ∃ o, s.heap.get? e = some o := let ⟨oe, _, _, he, _⟩ := x.ob; ⟨oe, he⟩
  refine note_rec hfr hl hf x fun h' T oT oe ts vs ch t lt ge hc hdx hda h1 gT dT z3 z4 => ?_
  have neT : T ≠ e := fun z => by
    obtain ⟨o, q⟩ := ele
    exact absurd (Nat.lt_of_lt_of_le (Heap.lt_size q) (z ▸ lt)) (Nat.lt_irrefl _)
  refine rest_rec (s := { s with heap := h' }) ge hda h1 gT dT z3 fun h2 kp gT2 => ?_
  have nT : ∀ b o, s.heap.get? b = some o → b ≠ T := fun b o q z => absurd (Nat.lt_of_lt_of_le (Heap.lt_size q) (z ▸ lt)) (Nat.lt_irrefl _)
  refine k h2 ch ⟨t.rec_, fun b o q n1 n2 => kp b o (nT b o q) (t.keep b o q n1 n2), fun b o q m => ?_, fun b o q => ?_⟩ ⟨x.new, x.un, oe, vs, .ref T, kp e oe neT.symm ge, hc, hdx, hda, h1, .inr ⟨T, _, _, rfl, ?_, hfree T lt, neT, gT2, Obj.data_mapFields dT _, by simp [z3]⟩⟩
  · obtain ⟨sl, q'⟩ := t.slot b o q m
    exact ⟨sl, kp b _ (nT b o q) q'⟩
  · obtain ⟨o', q'⟩ := t.there b o q
    exact ⟨o', kp b o' (nT b o q) q'⟩
  · cases z : h0.get? T with
    | none => rfl
    | some o =>
      obtain ⟨o', q⟩ := h0s T o z
      exact absurd rfl (nT T o' q)
end
end L2


set_option Elab.async false
set_option linter.all false
set_option maxRecDepth 100000
set_option maxHeartbeats 4000000
/-! EXCEPTIONS OVER THE LAYER, 2: what a body wants of them; a frame left; a call that may raise; raise. -/
namespace L2
open PySem PySem.Spec PyProof.Rows

/-- what is wanted of an exception: by the frame's values, its class, its dict, the heap -/
noncomputable abbrev XS := St → Value → Option Addr → Hp → Prop
/-- all of h0 is there in h -/
noncomputable def Sub (h0 h : Heap) : Prop := ∀ b o, h0.get? b = some o → ∃ o', h.get? b = some o'
theorem Sub.none {h0 h : Heap} (x : Sub h0 h) {b : Addr} (e : h.get? b = none) : h0.get? b = none := by
  cases q : h0.get? b with
  | none => rfl
  | some o =>
    obtain ⟨o', z⟩ := x b o q
    rw [e] at z; cases z
theorem Exc.older {h0 h1 : Heap} {H : Hp} {h : Heap} {e C : Addr} {dx : Option Addr} (x : Exc h1 H h e C dx) (y : Sub h0 h1) : Exc h0 H h e C dx := by
  obtain ⟨oe, vs, hd, a, b, c, d, f, tb⟩ := x.ob
  refine ⟨y.none x.new, x.un, oe, vs, hd, a, b, c, d, f, ?_⟩
  rcases tb with z | ⟨T, oT, ts, z1, z2, z3⟩
  · exact .inl z
  · exact .inr ⟨T, oT, ts, z1, y.none z2, z3⟩

section
variable {X : Cx} {pins : List (Addr × Obj)} {σ : St} {H : Hp} {s : Shared} {h0 h' : Heap} {ch fr : List Addr}
theorem HOk.tbd {P : Program} {w : World} {h : Heap} (x : HOk P w H h) (t : Tbd h0 H fr h h' ch) (hf : ∀ b ∈ fr, H b = none) : HOk P w H h' := fun a o e => by
  have st : ∀ b u, (b = a ∨ H b = some (.own a)) → h.get? b = some u → h'.get? b = some u := fun b u z q => by
    have nb : H b ≠ none := by
      rcases z with z | z
      · rw [z, e]; simp
      · rw [z]; simp
    exact t.keep b u q (fun m => nb (hf b m)) fun m => nb (t.rec_ b m).2.1
  exact (x a o e).stay st (fun _ z => z) fun _ _ z => z
theorem Inv.tbd (I : Inv X pins σ H s) (t : Tbd h0 H (frs X.stack) s.heap h' ch) (hs : ∀ b o, X.s₀.heap.get? b = some o → b ∉ X.ex → ∃ o', h0.get? b = some o') (hp : ∀ p ∈ X.pn ++ pins, ∃ o, h0.get? p.1 = some o) : Inv X pins σ H { s with heap := h' } := by
  refine I.call (g' := s.gens) (d' := s.drawn) (t' := s.toks) (ch := ch) ⟨fun b o q _ n1 n2 => t.keep b o q n1 n2, fun b o q _ m _ => t.slot b o q m, fun _ _ _ n _ => n, fun b o q _ => t.there b o q, fun _ _ q => q, fun _ _ _ q => q, fun _ ps q => ⟨#[], by rw [q]; simp⟩⟩ (I.hok.tbd t I.stkFree) I.bare fun b hb => ?_
  obtain ⟨n0, _, o, vs, q, d⟩ := t.rec_ b hb
  refine ⟨?_, fun z => ?_, fun x c e z => ?_, fun p hq z => ?_⟩
  · by_cases m : b ∈ X.ex
    · exact .inl m
    · refine .inr ?_
      cases z : X.s₀.heap.get? b with
      | none => rfl
      | some u =>
        obtain ⟨o', z'⟩ := hs b u z m
        rw [n0] at z'; cases z'
  · subst z
    obtain ⟨m, ⟨ol, es, ep, e1, e2, _⟩, _⟩ := I.loc
    rw [q] at e1; cases e1
    rw [d] at e2; cases e2
  · subst z
    obtain ⟨v, oc, e1, e2⟩ := I.cell x c e
    rw [q] at e1; cases e1
    rw [d] at e2; cases e2
  · obtain ⟨u, e1⟩ := hp p hq
    rw [z, n0] at e1; cases e1
end

/-- an exception that flies in the body of X, EX wanted of it, is as X wants it -/
noncomputable def Raises (X : Cx) (EX : XS) : Prop :=
  ∀ (pins : List (Addr × Obj)) (σ : St) (H : Hp) (s : Shared) (h0 : Heap) (e C : Addr) (dx : Option Addr), Inv X pins σ H s → (∀ b o, X.s₀.heap.get? b = some o → b ∉ X.ex → ∃ o', h0.get? b = some o') →
    (∀ p ∈ X.pn ++ pins, ∃ o, h0.get? p.1 = some o) → Sub h0 s.heap → Exc h0 H s.heap e C dx → EX σ (.ref C) dx H → X.xe (.ref e) s

/-- how an exception lies behind a call -/
noncomputable def CXe (P : Program) (w : World) : CXT := fun outer H s E e s' =>
  ∃ (a C : Addr) (dx : Option Addr) (H' : Hp), e = .ref a ∧ s'.os = s.os ∧ AllBare s'.gens ∧ Un (frs outer) [] H H' s.heap s'.heap ∧ HOk P w H' s'.heap ∧ Exc s.heap H' s'.heap a C dx ∧ E (.ref C) dx H'

/-- a def's body: the exception leaves the frame -/
theorem raises_def {P : Program} {w : World} {K : PySem.W.Frag} {mg : Str → Option Value} {base : Heap} {N : List Str} {qual : Str} {scope : Scope} {f : Addr} {cd : Value} {A : Around} {outer : List Env} {s : Shared} {H : Hp} {E : XK} {cm : Bool} :
    Raises (cxOf (CXe P w) P w K mg base N qual scope f cd A outer s H E cm) (fun _ C dx H' => E C dx H') := by
  intro pins σ H1 s1 h0 e C dx I hs hp h01 x ex
  have I0 : Inv (cxOf (CXe P w) P w K mg base N qual scope f cd A outer s H E cm) [] σ H1 s1 := I.pins_of fun p z => absurd z (by simp)
  show wpAny (model P w) (A.deeper (envOfC qual scope s.heap.objs.size f cd)) (leaving (envOfC qual scope s.heap.objs.size f cd) (.ref e)) _ _ s1
  unfold leaving
  have hsub : Sub s.heap h0 := fun b o q => hs b o q (by show b ∉ ([] : List Addr); simp)
  refine wpAny_bind (noted_rec (base := base) (outer := outer) (L := s.heap.objs.size) I0.ok.frames I0.stack rfl x (fun b z => I0.hok.fresh z) h01 fun h' ch t x' => ?_)
  have fin : ∀ b o, s.heap.get? b = some o → b ∉ ch := fun b o q m => by
    have z := hsub.none (t.rec_ b m).1
    rw [q] at z; cases z
  have nL : ∀ b o, s.heap.get? b = some o → b ∉ frs outer → b ∉ frs (envOfC qual scope s.heap.objs.size f cd :: outer) := fun b o q n m => by
    have m' : b ∈ s.heap.objs.size :: frs outer := m
    rcases List.mem_cons.mp m' with z | z
    · exact absurd (Heap.lt_size q) (by rw [z]; exact Nat.lt_irrefl _)
    · exact n z
  refine ⟨e, C, dx, H1, rfl, I0.os, I0.bare, ⟨fun b o q n hb _ => ?_, fun b o q n hb _ => ?_, fun b o q n _ => I0.base.free b o q n (by show b ∉ ([] : List Addr); simp), fun b o q _ => ?_, I0.base.tups, I0.base.frzs, I0.base.tbls⟩, I0.hok.tbd t I0.stkFree, x'.older hsub, ex⟩
  · exact t.keep b o (I0.base.keep b o q n hb (by show b ∉ ([] : List Addr); simp)) (nL b o q hb) (fin b o q)
  · obtain ⟨sl, q1⟩ := I0.base.slot b o q n hb (by show b ∉ ([] : List Addr); simp)
    obtain ⟨sl', q2⟩ := t.slot b _ q1 (show b ∈ s.heap.objs.size :: frs outer from List.mem_cons_of_mem _ hb)
    exact ⟨sl', q2⟩
  · obtain ⟨o', q1⟩ := I0.base.there b o q (by show b ∉ ([] : List Addr); simp)
    exact t.there b o' q1

section
variable {X : Cx} {cm : Bool} {k : Nat} {f C : Addr} {fd : FuncData} {ps : List Str} {sp : Sp} {EX : XS} {x m : Str} {p pos apos : Pos} {e o : Expr} {es : List Expr} {ta : TE} {t : TA}
/-- an exception out of a call -/
theorem Raises.pass (R : Raises X EX) {pins : List (Addr × Obj)} {σ : St} {H : Hp} {s s' : Shared} {v : Value} (I : Inv X pins σ H s) (h : CXe X.prog X.w X.stack H s (EX σ) v s') : X.xe v s' := by
  obtain ⟨a, C, dx, H', rfl, os, bare, un, hok, x, q⟩ := h
  have sub : Sub s.heap s'.heap := fun b o z => un.there b o z (by simp)
  refine R pins σ H' s' s.heap a C dx (I.call' os un hok bare fun b z => absurd z (by simp)) (fun b o z n => I.base.there b o z n) (fun p hp => ?_) sub x q
  exact ⟨p.2, (I.pin p hp).1⟩
/-- f(..), which may raise -/
noncomputable def tCallX (sp : Sp) (EX : XS) (t : TA) : TE := fun σ H Q => t σ H fun vs H1 => sp vs H1 Q (EX σ)
theorem run_fnX {pins : List (Addr × Obj)} {σ : St} {H : Hp} {s : Shared} {Q : VK} {us : List Value} {vs : List V} (F : FnOk X.prog X.w X.K X.mg X.base (CXe X.prog X.w) cm k f fd ps sp) (hcm : cm = true → X.calm = true) (hr : Room k X.A) (hb : Binds X.K fd ps []) (R : Raises X EX)
    (I : Inv X pins σ H s) (r : Vals vs us) (h : sp vs H Q (EX σ)) : wpAny (model X.prog X.w) X.A (call (.ref f) us) (EP X pins σ Q) X.xe s := by
  have hl : us.length = ps.length := by rw [← r.length]; exact F.len _ _ _ _ h
  have hb' := hb s us I.kIn (by rw [List.append_nil]; exact hl)
  rw [List.append_nil] at hb'
  refine wpAny_call (codeAny_mono (F.run X.A X.stack s H ⟨us, []⟩ us vs Q (EX σ) (fun z => I.ok.hd (hcm z)) hr I.env0 hb' r h) fun r s' hq => ?_)
  cases r with
  | error v => exact R.pass I hq
  | ok fl =>
    cases fl with
    | ret u => exact I.after hq
    | next => exact False.elim hq
    | brk => exact False.elim hq
    | cont => exact False.elim hq
theorem pe_callX (F : FnOk X.prog X.w X.K X.mg X.base (CXe X.prog X.w) cm k f fd ps sp) (hcm : cm = true → X.calm = true) (hr : Room k X.A) (hg : Gl X x) (hm : X.mg x = some (.ref f)) (hk : PySem.W.keepIn X.K (.ref f) = true) (hb : Binds X.K fd ps []) (R : Raises X EX)
    (ha : PA X (e :: es) t) (hdb : (x == ("__debug__" : Str)) = false := by decide) (he : starEach (e :: es) X.env = (false, eval e X.env) :: starEach es X.env := by rfl) (hpl : (backTo pos (starEach es X.env)).any (·.1) = false := by rfl) :
    PE X (.Call (.Name x p) (e :: es) [] pos) (tCallX sp EX t) := by
  intro pins s σ H Q I h
  refine wpAny_Call_Name_kw (ld_glob I hg hm ?_ hdb)
  exact PySem.W.callWith_K (h₀ := X.base) I.ok.mod.kin hk (thn (ha pos pins s σ H _ I h) fun us s1 ⟨vs, H1, I1, r, q⟩ => ⟨I1.kIn, run_fnX F hcm hr hb R I1 r q⟩) he hpl

/-- a tracked object is there -/
theorem ObjOk.there {P : Program} {w : World} {H : Hp} {h : Heap} {a : Addr} {o : HO} (x : ObjOk P w H h a o) : ∃ ob, h.get? a = some ob := by
  cases o with
  | lst xs => obtain ⟨_, _, _, _, q⟩ := x; exact ⟨_, q⟩
  | tup xs => obtain ⟨_, _, _, ob, q, _⟩ := x; exact ⟨_, q⟩
  | dK kvs => obtain ⟨_, _, _, _, ob, _, _, q, _⟩ := x; exact ⟨_, q⟩
  | dT kvs => obtain ⟨_, _, _, _, ob, _, _, q, _⟩ := x; exact ⟨_, q⟩
  | set S n => obtain ⟨ob, _, _, _, q, _⟩ := x; exact ⟨_, q⟩
  | ins C dx fs => obtain ⟨_, _, _, q, _⟩ := x; exact ⟨_, q⟩
  | own y => exact x
  | xd fs => obtain ⟨_, ⟨_, _, _, q, _⟩, _⟩ := x; exact ⟨_, q⟩
  | rng lo hi => obtain ⟨_, _, _, q⟩ := x; exact ⟨_, q⟩
  | frz ob u => obtain ⟨q, _⟩ := x; exact ⟨_, q⟩
  | tbl ps => exact ⟨_, (show h.get? a = some _ from x)⟩
  | met f y => exact ⟨_, (show h.get? a = some _ from x)⟩
  | ext φ => obtain ⟨_, q, _⟩ := x; exact q
/-! ### raise C(..), C an own class without __init__ (nor above it, own) -/
theorem exc_obj {K : PySem.W.Frag} {h : Heap} {C : Addr} {bmB : List Value} {newId : String} (XI : K.In h) (q : PySem.W.excIn K C bmB newId = true) :
    ∃ bm N nm qn bs hdct sn sub ab col dd k0 k1 k2 k3 k5 mN, h.get? C = some (excClassObj nm qn C N bs bm hdct sn sub ab col dd k0 k1 k2 k3 k5 newId) ∧ h.Ns N mN ∧ mN "__init__" = none ∧ OwnTail h bmB bm := by
  unfold PySem.W.excIn at q
  split at q
  · rename_i dd cd sl lk
    split at q
    · rename_i C' bm k0 k1 k2 k3 nw k5 em es
      simp only [Bool.and_eq_true, beq_iff_eq, Bool.not_eq_true'] at q
      obtain ⟨⟨⟨⟨⟨rfl, rfl⟩, nodel⟩, tl⟩, nok⟩, noi⟩ := q
      obtain ⟨nm, bs, mro, ns, qn, hd, sn, sub, ab, col, del⟩ := cd
      dsimp only at em nodel nok noi
      subst em nodel
      have esl : sl = #[k0, k1, k2, k3, some (.builtin nw), k5] := by
        obtain ⟨ll⟩ := sl
        simp only at es
        rw [es]
      subst esl
      exact ⟨bm, ns, nm, qn, bs, hd, sn, sub, ab, col, dd, k0, k1, k2, k3, k5, _, XI _ _ lk, .of_isNs (PySem.W.isNs_of_in XI nok), PySem.W.nsMap_none_of_in XI nok noi, PySem.W.tail_of_in XI tl⟩
    · cases q
  · cases q
noncomputable def tRaise (EX : XS) (C : Addr) (t : TA) : TS := fun _ σ H => t σ H fun vs H1 => vs.length ≤ sizeLine ∧ EX σ (.ref C) none H1
theorem ps_raise {B Bn newId nid initId inN : String} {bmB bmN : List Value} (Fn : ExcBaseFacts Bn newId inN bmN) (hBn : bmB.contains (.type Bn) = true) (FB : ExcBaseFacts B nid initId bmB) (hc : X.calm = true) (hX : PySem.W.excIn X.K C bmB newId = true) (hg : Gl X x) (hm : X.mg x = some (.ref C))
    (R : Raises X EX) (ha : PA X (e :: es) t) (hdb : (x == ("__debug__" : Str)) = false := by decide) (he : starEach (e :: es) X.env = (false, eval e X.env) :: starEach es X.env := by rfl) (hpl : (backTo apos (starEach es X.env)).any (·.1) = false := by rfl) :
    PS X (.Raise (some (.Call (.Name x p) (e :: es) [] apos)) none pos) (tRaise EX C t) := by
  intro pins s σ H D I h
  obtain ⟨bm, N, nm, qn, bs, hdct, sn, sub, ab, col, dd, k0, k1, k2, k3, k5, mN, hC, hN, hni, T⟩ := exc_obj I.mod.kin hX
  refine wpAny_Raise_call_subU (C := C) (nm := nm) (q := qn) (N := N) (bs := bs) (bm := bm) (hdct := hdct) (sn := sn) (sub := sub) (ab := ab) (col := col) (dd := dd) (k0 := k0) (k1 := k1) (k2 := k2) (k3 := k3) (k5 := k5)
    Fn hBn FB (mN := mN) (T.hasType FB.hasBase) (I.ok.hd hc) (by rw [he]; show (false || (backTo apos (starEach es X.env)).any (·.1)) = false; rw [hpl]; rfl) hni (ld_glob I hg hm ⟨rfl, ?_⟩ hdb)
  have h2 := ha apos pins s σ H _ I h
  rw [he] at h2 ⊢
  refine Calls.evalArgs_plain (thn h2 fun us s2 ⟨vs, H2, I2, r, z, q⟩ => ⟨rfl, by rw [← r.length]; exact z, I2.bk _ _ hC, hN.keeps I2.bk, T.keeps I2.bk, fun h' a mx => ?_⟩)
  obtain ⟨tt, ge, _, _⟩ := mx.there
  have un : H2 a = none := by
    cases z : H2 a with
    | none => rfl
    | some u =>
      have lt := I2.hok.lt z
      obtain ⟨ob, z'⟩ : ∃ ob, s2.heap.get? a = some ob := by
        have := I2.hok a u z
        exact ObjOk.there this
      rw [mx.new] at z'; cases z'
  exact R pins σ H2 _ s2.heap a C none (I2.kept (t' := s2.toks) mx.keeps) (fun b ob z n => I2.base.there b ob z n) (fun q hq => ⟨q.2, (I2.pin q hq).1⟩) (fun b ob z => ⟨ob, mx.keeps b ob z⟩) ⟨mx.new, un, _, _, _, ge, rfl, rfl, rfl, rfl, .inl rfl⟩ q
end
end L2


set_option Elab.async false
set_option linter.all false
set_option maxRecDepth 100000
set_option maxHeartbeats 4000000
/-! EXCEPTIONS OVER THE LAYER, 3: try .. except Own as e. -/
namespace L2
open PySem PySem.Spec PyProof.Rows

/-- an exception's record as a tracked thing -/
noncomputable def excO (a C : Addr) (dx : Option Addr) : HO := .ext fun h => ∃ oe vs, h.get? a = some oe ∧ oe.cls = .ref C ∧ oe.dict = dx ∧ oe.data = .fields vs
theorem excO_ok {P : Program} {w : World} {H : Hp} {h h0 : Heap} {a C : Addr} {dx : Option Addr} {H0 : Hp} (x : Exc h0 H0 h a C dx) : ObjOk P w H h a (excO a C dx) := by
  obtain ⟨oe, vs, hd, q, c, d, f, _⟩ := x.ob
  exact ⟨⟨oe, vs, q, c, d, f⟩, ⟨oe, q⟩, fun h1 h2 ⟨o1, v1, q1, c1, d1, f1⟩ k => ⟨o1, v1, k o1 q1, c1, d1, f1⟩⟩

section
variable {X : Cx} {pins : List (Addr × Obj)} {σ : St} {H : Hp} {s : Shared} {e : Addr} {o : HO}
/-- an untracked thing is tracked from now on -/
theorem Inv.track (I : Inv X pins σ H s) (hn : X.s₀.heap.get? e = none) (un : H e = none) (hp : ∀ p ∈ X.pn ++ pins, p.1 ≠ e) (hL : e ≠ X.env.locals) (hc : ∀ x c, X.env.cells.lookup x = some c → c ≠ e)
    (new : ObjOk X.prog X.w (upd H e o) s.heap e o) : Inv X pins σ (upd H e o) s := by
  have ne : ∀ b u, H b = some u → b ≠ e := fun b u q z => by rw [z, un] at q; cases q
  have n0 : ∀ b u, X.s₀.heap.get? b = some u → b ≠ e := fun b u q z => by rw [z, hn] at q; cases q
  refine ⟨I.ok, I.os, I.bare, ⟨I.base.keep, I.base.slot, fun b u q n hx => ?_, I.base.there, fun b xs q => ?_, fun b u v q => ?_, fun b ps q => ?_⟩, I.loc, I.cell, ?_, fun x c q => ?_, fun p q => ?_, fun b u q => ?_, I.len⟩
  · rw [upd_ne (n0 b u q)]; exact I.base.free b u q n hx
  · have z := I.base.tups b xs q
    rw [upd_ne (ne b _ z)]; exact z
  · have z := I.base.frzs b u v q
    rw [upd_ne (ne b _ z)]; exact z
  · obtain ⟨m, z⟩ := I.base.tbls b ps q
    exact ⟨m, by rw [upd_ne (ne b _ z)]; exact z⟩
  · rw [upd_ne hL.symm]; exact I.free
  · rw [upd_ne (hc x c q)]; exact I.freeC x c q
  · obtain ⟨a1, a2, a3⟩ := I.pin p q
    exact ⟨a1, by rw [upd_ne (hp p q)]; exact a2, a3⟩
  · by_cases z : b = e
    · subst z
      rw [upd_same] at q
      cases q
      exact new
    · rw [upd_ne z] at q
      exact (I.hok b u q).stay (fun _ _ _ r => r) (fun c r => by rw [upd_ne (ne c _ r)]; exact r) fun c xs r => by rw [upd_ne (ne c _ r)]; exact r

/-- the same frame seen from elsewhere: another A, wish, pins of the context -/
noncomputable def Cx.seen (X : Cx) (A : Around) (calm : Bool) (pn : List (Addr × Obj)) (E : Value → Shared → Prop) : Cx := { X with A := A, calm := calm, pn := pn, xe := E }
theorem Inv.seen (I : Inv X pins σ H s) {A : Around} {c : Bool} {pn ps : List (Addr × Obj)} {E : Value → Shared → Prop} (hA : A.frames = X.A.frames) (hc : c = true → A.handled = none) (hp : ∀ p ∈ pn ++ ps, p ∈ X.pn ++ pins) : Inv (X.seen A c pn E) ps σ H s :=
  ⟨⟨I.ok.mod, I.ok.kind, I.ok.glob, I.ok.blt, I.ok.above, I.ok.inj, I.ok.has, I.ok.cab, hc, hA.trans I.ok.frames, I.ok.stk, I.ok.exf, I.ok.bs, I.ok.bsz, I.ok.noex, I.ok.exfs, I.ok.funs, I.ok.frf⟩, I.os, I.bare, I.base, I.loc, I.cell, I.free, I.freeC, fun p z => I.pin p (hp p z), I.hok, I.len⟩
theorem Inv.unseen {A : Around} {c : Bool} {pn ps : List (Addr × Obj)} {E : Value → Shared → Prop} (I : Inv (X.seen A c pn E) ps σ H s) (hA : X.A.frames = A.frames) (hc : X.calm = true → X.A.handled = none) (hp : ∀ p ∈ X.pn ++ pins, p ∈ pn ++ ps) : Inv X pins σ H s :=
  ⟨⟨I.ok.mod, I.ok.kind, I.ok.glob, I.ok.blt, I.ok.above, I.ok.inj, I.ok.has, I.ok.cab, hc, hA.trans I.ok.frames, I.ok.stk, I.ok.exf, I.ok.bs, I.ok.bsz, I.ok.noex, I.ok.exfs, I.ok.funs, I.ok.frf⟩, I.os, I.bare, I.base, I.loc, I.cell, I.free, I.freeC, fun p z => I.pin p (hp p z), I.hok, I.len⟩
theorem SP.unseen {A : Around} {c : Bool} {pn ps : List (Addr × Obj)} {E : Value → Shared → Prop} {D : Ends} {f : Flow} (h : SP (X.seen A c pn E) ps D f s) (hA : X.A.frames = A.frames) (hc : X.calm = true → X.A.handled = none) (hp : ∀ p ∈ X.pn ++ pins, p ∈ pn ++ ps) : SP X pins D f s := by
  cases f with
  | next => obtain ⟨a, b, J, q⟩ := h; exact ⟨a, b, J.unseen hA hc hp, q⟩
  | brk => obtain ⟨a, b, J, q⟩ := h; exact ⟨a, b, J.unseen hA hc hp, q⟩
  | cont => obtain ⟨a, b, J, q⟩ := h; exact ⟨a, b, J.unseen hA hc hp, q⟩
  | ret u => obtain ⟨v, a, b, J, r, q⟩ := h; exact ⟨v, a, b, J.unseen hA hc hp, r, q⟩

/-- a name of the frame goes -/
theorem Inv.gone {i : Nat} {n : Str} {m : Str → Option Value} {h' : Heap} {v : Option Value} {t' : Nat} (I : Inv X pins σ H s) (hN : X.N.Nodup) (hi : X.N[i]? = some n) (hl : X.env.kindOf n = some .local) (hm : s.heap.Ns X.env.locals m)
    (hn : h'.Ns X.env.locals (fun x => if x = n then v else m x)) (sb : Heap.SameBut X.env.locals s.heap h') : Inv X pins (σ.set i none) H { s with heap := h', toks := t' } := by
  have kp : ∀ b u, b ≠ X.env.locals → s.heap.get? b = some u → h'.get? b = some u := fun b u z q => (sb.2 b z).trans q
  have n0 : ∀ b u, X.s₀.heap.get? b = some u → b ≠ X.env.locals := fun b u q => Nat.ne_of_lt (Nat.lt_of_lt_of_le (Heap.lt_size q) I.ok.above)
  have nH : ∀ b u, H b = some u → b ≠ X.env.locals := fun b u q z => by rw [z, I.free] at q; cases q
  refine ⟨I.ok, I.os, I.bare, ⟨fun b u q n hb hx => kp b u (n0 b u q) (I.base.keep b u q n hb hx), fun b u q n hb hx => ?_, I.base.free, fun b u q hx => ?_, I.base.tups, I.base.frzs, I.base.tbls⟩, ⟨_, hn, fun j x w e1 e2 e3 => ?_⟩, fun x c q => ?_, I.free, I.freeC, fun p q => ?_, fun b u q => ?_, by rw [List.length_set]; exact I.len⟩
  · obtain ⟨sl, z⟩ := I.base.slot b u q n hb hx
    exact ⟨sl, kp b _ (n0 b u q) z⟩
  · obtain ⟨u', z⟩ := I.base.there b u q hx
    exact ⟨u', kp b u' (n0 b u q) z⟩
  · have nij : i ≠ j := fun z => by
      subst z
      by_cases hl : i < σ.length
      · rw [List.getElem?_set_self hl] at e2; cases e2
      · rw [List.getElem?_eq_none (by rw [List.length_set]; omega)] at e2; cases e2
    rw [List.getElem?_set_ne nij] at e2
    obtain ⟨m2, hm2, hl2⟩ := I.loc
    obtain ⟨u, r, l⟩ := hl2 j x w e1 e2 e3
    refine ⟨u, r, ?_⟩
    rcases l with ⟨k1, k2⟩ | ⟨k1, c, k2, oc, k3, k4⟩
    · refine .inl ⟨k1, ?_⟩
      have nx : x ≠ n := fun z => nij (nodup_ix hN (by rw [z] at e1; exact hi) (z ▸ e1))
      have em : m = m2 := by
        obtain ⟨o1, es1, ep1, g1, d1, t1, f1⟩ := hm
        obtain ⟨o2, es2, ep2, g2, d2, t2, f2⟩ := hm2
        rw [g1] at g2; cases g2
        rw [d1] at d2; cases d2
        funext y
        rw [← f1, ← f2]
      show (if x = n then v else m x) = some u
      rw [if_neg nx, em]; exact k2
    · exact .inr ⟨k1, c, k2, oc, kp c oc (I.cne x c k2) k3, k4⟩
  · obtain ⟨u, oc, k3, k4⟩ := I.cell x c q
    exact ⟨u, oc, kp c oc (I.cne x c q) k3, k4⟩
  · obtain ⟨a1, a2, a3, a4⟩ := I.pin p q
    exact ⟨kp _ _ a3 a1, a2, a3, a4⟩
  · exact (I.hok b u q).stay (fun c w z r => kp c w (z.elim (fun y => y ▸ nH b u q) fun y => nH c _ y) r) (fun _ r => r) fun _ _ r => r
end

/-- setFlight none, whatever the head -/
theorem rest_exc {M : Model} {A : Around} {E : Value → Shared → Prop} {s : Shared} {h0 : Heap} {H : Hp} {e C : Addr} {dx : Option Addr} {Q : Unit → Shared → Prop} {fr : List Addr} (x : Exc h0 H s.heap e C dx) (hf : ∀ b ∈ fr, ∀ o vs, s.heap.get? b = some o → o.data ≠ .fields vs)
    (k : ∀ h' ch, Tbd h0 H fr s.heap h' ch → Exc h0 H h' e C dx → Q () { s with heap := h' }) : wpAny M A (setFlight (.ref e) none) Q E s := by
  obtain ⟨oe, vs, hd, he, hc, hdx, hda, h1, tb⟩ := x.ob
  rcases tb with rfl | ⟨T, oT, ts, rfl, nT, uT, neT, gT, dT, h3⟩
  · unfold setFlight
    refine wpAny_bind (wpAny_field he hda h1 ?_)
    rw [if_neg (by decide)]
    exact wpAny_pure (k s.heap [] { rec_ := (fun _ z => nomatch z), keep := (fun b o q _ _ => q), slot := (fun b o q _ => ⟨o.slots, q⟩), there := (fun b o q => ⟨o, q⟩) } x)
  · refine rest_rec he hda h1 gT dT (Array.getElem?_eq_some_iff.mp h3).1 fun h' kp g' => ?_
    have z3 : 3 < ts.size := (Array.getElem?_eq_some_iff.mp h3).1
    refine k h' [T] ⟨fun b z => ?_, fun b o q _ n => kp b o (fun z => n (by simp [z])) q, fun b o q m => ?_, fun b o q => ?_⟩ ⟨x.new, x.un, oe, vs, .ref T, kp e oe neT.symm he, hc, hdx, hda, h1, .inr ⟨T, _, _, rfl, nT, uT, neT, g', Obj.data_mapFields dT _, by simp [z3]⟩⟩
    · obtain rfl : b = T := by simpa using z
      exact ⟨nT, uT, oT, ts, gT, dT⟩
    · refine ⟨o.slots, kp b o (fun z => ?_) q⟩
      subst z
      rw [gT] at q; cases q
      exact hf b m _ ts gT dT
    · by_cases z : b = T
      · subst z; exact ⟨_, g'⟩
      · exact ⟨o, kp b o z q⟩

/-- a class under D (or D), both own exceptions -/
noncomputable def subIn (K : PySem.W.Frag) (C D : Addr) : Bool := PySem.W.ktsIn K C "BaseException" && PySem.W.ktsIn K D "BaseException" && match K.lookup C with
  | some ⟨_, _, .cls cd, _⟩ => cd.mro.contains (.ref D)
  | _ => false
theorem excMatches_own {M : Model} {A : Around} {E : Value → Shared → Prop} {K : PySem.W.Frag} {h : Heap} {g : Array GenState} {d : Drawn} {t : Nat} {os : OsState} {e C D : Addr} {oe : Obj} {Q : Bool → Shared → Prop} (KI : K.In h) (q : subIn K C D = true)
    (he : h.get? e = some oe) (hcls : oe.cls = .ref C) (hq : Q true ⟨h, g, d, t, os⟩) : wpAny M A (excMatches (.ref e) (.ref D)) Q E ⟨h, g, d, t, os⟩ := by
  unfold subIn at q
  simp only [Bool.and_eq_true] at q
  obtain ⟨⟨q1, q2⟩, q3⟩ := q
  obtain ⟨nm, qn, N, bs, bm, hdct, sn, sub, ab, col, dd, k0, k1, k2, k3, k5, newId, hC, _, _⟩ := PySem.W.kts_cls KI q1
  obtain ⟨nm', qn', N', bs', bm', hdct', sn', sub', ab', col', dd', k0', k1', k2', k3', k5', newId', hD, hb', _⟩ := PySem.W.kts_cls KI q2
  have m1 : (Value.ref C :: bm).contains (.ref D) = true := by
    split at q3
    · rename_i c0 d0 cd sl lk
      have z := KI _ _ lk
      rw [hC] at z
      cases z
      exact q3
    · cases q3
  have m2 : (Value.ref D :: bm').contains (.type "BaseException") = true := by rw [List.contains_cons, hb', Bool.or_true]
  have f := tc_notTuple
  unfold excMatches
  repeat (first | (with_reducible refine wpAny_loadPart_at he ?_; rw [hcls]) | with_reducible refine wpAny_loadPart_at hD ?_ | (with_reducible refine wpAny_isSubtype_exc hD ?_; rw [m2]) | (with_reducible refine wpAny_isSubtype_exc hC ?_; rw [m1]) | wp_step)
  exact hq

/-- the ends behind a suite whose name goes -/
noncomputable def endsAs (D : Ends) (i : Nat) : Ends := { nx := fun σ H => D.nx (σ.set i none) H, rt := D.rt, bk := fun σ H => D.bk (σ.set i none) H, ct := fun σ H => D.ct (σ.set i none) H }
/-- what the try's body wants of exceptions -/
noncomputable def xTry (K : PySem.W.Frag) (Dc : Addr) (i : Nat) (th : TS) (D : Ends) : XS := fun σ C dx H => ∃ Ca, C = .ref Ca ∧ subIn K Ca Dc = true ∧ ∀ a, H a = none → th (endsAs D i) (σ.set i (some (.ref a))) (upd H a (excO a Ca dx))
section
variable {X : Cx} {x n : Str} {np hpos pos : Pos} {b₀ : Stmt} {body suite : List Stmt} {Dc : Addr} {i : Nat} {tb : XS → TS} {th : TS}
theorem ps_try (hex : X.ex = []) (hst : X.stack = X.env :: X.outer ∧ X.env.frame = some X.env.locals) (hg : Gl X x) (hm : X.mg x = some (.ref Dc)) (hN : X.N.Nodup) (hi : X.N[i]? = some n) (hl : X.env.scope.names.lookup n = some .local)
    (hb : ∀ (pn : List (Addr × Obj)) (E' : Value → Shared → Prop) (EX' : XS), Raises (X.seen X.A X.calm pn E') EX' → PassesOwn (model X.prog X.w) X.A X.env E' → PSs (X.seen X.A X.calm pn E') body (tb EX'))
    (hh : ∀ e : Value, PSs (X.seen (X.A.mark (some e)) false X.pn (fun _ _ => False)) (b₀ :: suite) th) (hdb : (x == ("__debug__" : Str)) = false := by decide) :
    PS X (.Try body [.ExceptHandler (some (.Name x np)) (some n) (b₀ :: suite) hpos] [] [] pos) (fun D σ H => tb (xTry X.K Dc i th D) D σ H) := by
  intro pins s σ H D I h
  refine wpAny_Try_except ?_
  have B := hb (X.pn ++ pins) (fun e s₁ => wpAny (model X.prog X.w) X.A (noteFrame e X.env) (fun _ s₂ => wpAny (model X.prog X.w) X.A (setFlight e none) (fun _ s₃ => wpAny (model X.prog X.w) X.A (handleBy e X.env [.ExceptHandler (some (.Name x np)) (some n) (b₀ :: suite) hpos]) (SP X pins D) X.xe s₃) X.xe s₂) X.xe s₁) (xTry X.K Dc i th D) ?R PassesOwn.looking [] s σ H D (I.seen rfl I.ok.hd (by intro p z; simpa using z)) h
  case R =>
    intro pins' σ' H' s' h0 e C dx J hs hp sub xc ⟨Ca, eC, sI, k⟩
    cases eC
    have I1 : Inv X pins σ' H' s' := J.unseen rfl I.ok.hd (fun p z => List.mem_append_left _ z)
    have hp1 : ∀ p ∈ X.pn ++ pins, ∃ o, h0.get? p.1 = some o := fun p z => hp p (List.mem_append_left _ z)
    show wpAny (model X.prog X.w) X.A (noteFrame (.ref e) X.env) _ X.xe s'
    refine noted_rec (base := X.base) (outer := X.outer) (L := X.env.locals) (I1.ok.frames.trans (congrArg some hst.1)) (hst.1 ▸ I1.stack) hst.2 xc (fun b z => I1.hok.fresh z) sub fun h1 ch1 t1 x1 => ?_
    have I2 := I1.tbd (hst.1 ▸ t1) hs hp1
    refine wpAny_handleBy_cons (codeAny_handlers_test ?_) (by intro z; cases z)
    have I2h : Inv (X.seen (X.A.mark (some (.ref e))) false X.pn (fun _ _ => False)) pins σ' H' { s' with heap := h1 } := I2.seen rfl (fun z => by cases z) (fun p z => z)
    refine ld_glob (E := _) I2h hg hm ?_ hdb
    obtain ⟨oe, vs, hd, g1, c1, d1, f1, _⟩ := x1.ob
    refine excMatches_own I2.kIn sI g1 c1 ?_
    refine codeAny_handlers_suite_as ?_
    have nofl : ∀ b ∈ frs X.stack, ∀ o vs, h1.get? b = some o → o.data ≠ .fields vs := fun b hb o vs q d => by
      obtain ⟨_, o', q', nd⟩ := I2.stack.mem hb
      have q'' : h1.get? b = some o' := q'
      rw [q] at q''; cases q''
      exact nd vs d
    refine rest_exc (s := { s' with heap := h1 }) (fr := frs X.stack) x1 nofl fun h2 ch2 t2 x2 => ?_
    have I3 : Inv X pins σ' H' { s' with heap := h2 } := I2.tbd t2 hs hp1
    obtain ⟨oe2, vs2, hd2, g2, c2, d2, f2, _⟩ := x2.ob
    have ns0 : X.s₀.heap.get? e = none := by
      cases z : X.s₀.heap.get? e with
      | none => rfl
      | some u =>
        obtain ⟨u', z'⟩ := hs e u z (by show e ∉ X.ex; rw [hex]; simp)
        rw [x2.new] at z'; cases z'
    have nL : e ≠ X.env.locals := fun z => by
      obtain ⟨m, ⟨ol, es, ep, e1, e2, _⟩, _⟩ := I3.loc
      have e1' : h2.get? X.env.locals = some ol := e1
      rw [← z, g2] at e1'; cases e1'
      rw [f2] at e2; cases e2
    have nC : ∀ y c, X.env.cells.lookup y = some c → c ≠ e := fun y c q z => by
      obtain ⟨v, oc, e1, e2⟩ := I3.cell y c q
      have e1' : h2.get? c = some oc := e1
      rw [z, g2] at e1'; cases e1'
      rw [f2] at e2; cases e2
    have I4 := I3.track (o := excO e C dx) ns0 x2.un (fun p z y => by
      obtain ⟨u, q⟩ := hp1 p z
      rw [y, x2.new] at q; cases q) nL nC (excO_ok x2)
    have I4h : Inv (X.seen (X.A.mark (some (.ref e))) false X.pn (fun _ _ => False)) pins σ' (upd H' e (excO e C dx)) { s' with heap := h2 } := I4.seen rfl (fun z => by cases z) (fun p z => z)
    refine store_ok (X := X.seen (X.A.mark (some (.ref e))) false X.pn (fun _ _ => False)) (v := .ref e) I4h hN hi (.inl hl) rfl (fun s5 I5 => ?_) (.inr hl)
    refine wpAny_mono (hh (.ref e) pins s5 _ _ (endsAs D i) I5 (k e x2.un)) (fun f s6 q6 => ?_) (fun _ _ z => z.elim)
    have hkd : (X.env.scope.kind == .class || (X.env.scope.kind == .module && X.env.locals != X.env.globals)) = false := by rw [I.ok.kind]; rfl
    have fin : ∀ {σ6 : St} {H6 : Hp} {Q : Shared → Prop}, Inv (X.seen (X.A.mark (some (.ref e))) false X.pn (fun _ _ => False)) pins σ6 H6 s6 → (∀ s7, Inv X pins (σ6.set i none) H6 s7 → Q s7) →
        wpAny (model X.prog X.w) X.A (do bindName X.env n .none; unbindBehindTheSuite X.env n hpos) (fun _ s7 => Q s7) X.xe s6 := fun {σ6 H6 Q} J6 kq => by
      have J : Inv X pins σ6 H6 s6 := J6.unseen rfl I.ok.hd (fun p z => z)
      obtain ⟨m, hm6, _⟩ := id J.loc
      exact wpAny_nameGoes_keeps hl hm6 hkd fun h' v hn' sb => kq _ (J.gone hN hi hl hm6 hn' sb)
    cases f with
    | next => obtain ⟨σ6, H6, J6, q⟩ := q6; exact fin J6 fun s7 J7 => ⟨_, _, J7, q⟩
    | brk => obtain ⟨σ6, H6, J6, q⟩ := q6; exact fin J6 fun s7 J7 => ⟨_, _, J7, q⟩
    | cont => obtain ⟨σ6, H6, J6, q⟩ := q6; exact fin J6 fun s7 J7 => ⟨_, _, J7, q⟩
    | ret u => obtain ⟨v, σ6, H6, J6, r, q⟩ := q6; exact fin J6 fun s7 J7 => ⟨v, _, _, J7, r, q⟩
  refine wpAny_mono B (fun f s1 q => ?_) fun _ _ z => z
  have q' : SP X pins D f s1 := SP.unseen q rfl I.ok.hd (by intro p z; simpa using z)
  cases f with
  | next => exact wpAny_execs_nil q'
  | brk => exact q'
  | cont => exact q'
  | ret u => exact q'
end
end L2


set_option Elab.async false
set_option linter.all false
set_option maxRecDepth 100000
set_option maxHeartbeats 4000000
/-! EXCEPTIONS OVER THE LAYER, 4: what is asked of an exception: its class, its own fields. -/
namespace L2
open PySem PySem.Spec PyProof.Rows PySem.W Builtin.ObjectAttr

section
variable {prog : Program} {w : World} {A : Around} {E : Value → Shared → Prop} {s : Shared} {K : Frag} {x C : Addr} {ox : Obj} {od : Option Obj} {name : Str} {tk : Tok}

theorem ga_find {r : Found} {Q : PySem.Fin → Shared → Prop} (XI : K.In s.heap) (I : InstAt s.heap x ox C od) (hf : findObj K C od name = some r)
    (h : match r with | .value v => Q (.done (.ret v)) s | .bind g a => wpAny (model prog w) A (call g [a, .ref x, .ref C]) (fun v s' => Q (.done (.ret v)) s') E s | .missing => False) :
    wpAny (model prog w) A (Builtin.«object.__getattribute__» ⟨[.ref x, .str name tk], []⟩) Q E s := by
  obtain ⟨hh, g, d, t, os⟩ := s
  have L0 := I.type (M := model prog w)
  have L1 := looks_find (M := model prog w) XI I hf
  unfold Builtin.«object.__getattribute__»
  refine wpAny_bind (wpAny_of_eq (a := (Value.ref x, [Value.str name tk])) (by rfl) ?_)
  refine wpAny_bind (wpAny_of_eq (a := name) (by rfl) ?_)
  refine wpAny_bind (L0.at (wpAny_bind (L1.at ?_)))
  cases r with
  | value v => exact wpAny_pure h
  | bind g a =>
    show wpAny _ _ (holding [a] (call g [a, .ref x, .ref C]) >>= ret) _ _ _
    exact wpAny_bind (wpAny_holding (wpAny_mono h (fun v s' z => wpAny_pure z) fun _ _ z => z))
  | missing => exact h.elim

/-- the call of BaseException's own way -/
theorem bexc_call {r : Found} {R : Result → Shared → Prop} (XI : K.In s.heap) (I : InstAt s.heap x ox C od) (hb : mroIn K C (.type "BaseException") = some true) (hf : findObj K C od name = some r)
    (h : match r with | .value v => R (.ok (.ret v)) s | .bind g a => wpAny (model prog w) A.in1 (call g [a, .ref x, .ref C]) (fun v s' => R (.ok (.ret v)) s') (fun e s' => R (.error e) s') s | .missing => False) :
    codeAny (model prog w) A (.call (.builtin "BaseException.__getattribute__") ⟨[.ref x, .str name tk], []⟩) R s := by
  have hk : builtinKind "BaseException.__getattribute__" = some .slot := by decide +kernel
  have hsplit : splitId "BaseException.__getattribute__" = some ("BaseException", "__getattribute__") := by decide +kernel
  have ha := F.args_bexc_ga (.ref x) (.str name tk)
  refine codeAny_call_builtin F.attr_ValueError.ga.plain F.entry_bexc_ga ?_
  have fin : wpAny (model prog w) A.in1 (Builtin.«object.__getattribute__» ⟨[.ref x, .str name tk], []⟩) (fun fin s' => match fin with | .done f => R (.ok f) s' | .again c' => c'.quiet = true ∧ codeAny (model prog w) A c' R s') (fun e s' => R (.error e) s') s := by
    refine ga_find XI I hf ?_
    cases r with
    | value v => exact h
    | bind g a => exact h
    | missing => exact h.elim
  have chk : ∀ Q : Unit → Shared → Prop, Q () s → wpAny (model prog w) A.in1 (checkBuiltinCall "BaseException.__getattribute__" ⟨[.ref x, .str name tk], []⟩) Q (fun e s' => R (.error e) s') s := fun Q hq => by
    obtain ⟨hh, g, d, t, os⟩ := s
    have L0 := I.type (M := model prog w)
    have L1 := looks_mroIn (M := model prog w) XI hb
    have LI : Looks (model prog w) hh (isInstance (.ref x) (.type "BaseException")) true := L0.andThen L1
    simp only [checkBuiltinCall, hk, hsplit]
    refine wpAny_bind ?_
    repeat (first | with_reducible exact hq | with_reducible refine LI.at ?_ | wp_step)
  exact chk _ fin

/-- asked by its name, quietly -/
theorem bexc_get? {r : Found} {Q : Option Value → Shared → Prop} (XI : K.In s.heap) (I : InstAt s.heap x ox C od) (hb : mroIn K C (.type "BaseException") = some true) (hga : findIn K (.ref C) "__getattribute__" = some (some (.builtin "BaseException.__getattribute__")))
    (hgn : findIn K (.ref C) "__getattr__" = some none) (hf : findObj K C od name = some r)
    (h : match r with | .value v => wpAny (model prog w) A (handedOut v) (fun u s' => Q (some u) s') (fun _ _ => False) { s with toks := s.toks + 1 } | .bind g a => wpAny (model prog w) A.in1 (call g [a, .ref x, .ref C]) (fun v s' => wpAny (model prog w) A (handedOut v) (fun u s'' => Q (some u) s'') (fun _ _ => False) s') (fun _ _ => False) { s with toks := s.toks + 1 } | .missing => False) :
    wpAny (model prog w) A (getAttr? (.ref x) name) Q E s := by
  obtain ⟨hh, g, d, t, os⟩ := s
  have L0 := I.type (M := model prog w)
  have L1 := looks_findIn (M := model prog w) XI hga
  have L2 := looks_findIn (M := model prog w) XI hgn
  have hx2 : (Value.builtin "BaseException.__getattribute__" == Value.builtin "object.__getattribute__") = false := by decide +kernel
  unfold getAttr? getAttrBy? getAttrBy
  refine wpAny_bind (wpAny_mkText (wpAny_bind (wpAny_attempt (wpAny_holding (wpAny_bind (L0.at (wpAny_bind (L1.at ?_))))))))
  show wpAny _ _ (if (onTheHeap (.ref C) && (Value.builtin "BaseException.__getattribute__" == Value.builtin "object.__getattribute__")) = true then _ else getAttrByItsOwn _ _ _ _ _ _) _ _ _
  rw [hx2, Bool.and_false, if_neg (by decide)]
  unfold getAttrByItsOwn hookBefore callGetattribute boundAndCalled
  refine wpAny_bind (L2.at ?_)
  refine wpAny_bind (wpAny_attempt (wpAny_holding (wpAny_bind (wpAny_of_eq (F.attr_ValueError.ga.bind (.ref x)) ?_))))
  refine wpAny_call (bexc_call XI I hb hf ?_)
  cases r with
  | value v => exact wpAny_mono h (fun v s'' hv => wpAny_pure hv) (fun _ _ z => z.elim)
  | bind g a => exact wpAny_mono h (fun v s' hv => wpAny_mono hv (fun u s'' z => wpAny_pure z) fun _ _ z => z.elim) (fun _ _ z => z.elim)
  | missing => exact h.elim
end
/-! ### isinstance of an exception -/
/-- what must be known of its class: where it is asked as an exception of the text's own classes -/
structure XC (K : Frag) (C : Addr) : Prop where
  ga : findIn K (.ref C) "__getattribute__" = some (some (.builtin "BaseException.__getattribute__"))
  gn : findIn K (.ref C) "__getattr__" = some none
  cl : findIn K (.ref C) "__class__" = some (some (.builtin "object.__class__"))
  mb : mroIn K C (.type "BaseException") = some true
  mo : mroIn K C (.type "object") = some true
  cd : (clsIn K C).isSome = true
  dg : specialIn K (.builtin "object.__class__") "__get__" = some (some (.builtin "getset_descriptor.__get__"))
  dt : takesIn K (.builtin "object.__class__") = some true
theorem find_data {K : Frag} {C : Addr} {od : Option Obj} {name : Str} {a g : Value} (hc : (clsIn K C).isSome = true) (ha : findIn K (.ref C) name = some (some a)) (hg : specialIn K a "__get__" = some (some g)) (ht : takesIn K a = some true) : findObj K C od name = some (.bind g a) := by
  obtain ⟨cd, z⟩ := Option.isSome_iff_exists.mp hc
  simp only [findObj, z, ha, hg, ht, Option.bind_some]
theorem kitx_exc {K : Frag} {e C : Addr} (c : XC K C) : KitX K (.ref e) (.ref C) (fun h => ∃ ox od, InstAt h e ox C od) where
  ty := fun _ _ _ ⟨_, _, I⟩ => I.type
  it := fun _ _ XI _ => by
    have q := c.cd
    unfold clsIn at q
    split at q
    · rename_i c' d' cd' sl' lk
      intro A' Q' E' s' k z
      unfold isType loadHead
      exact wpAny_bind (wpAny_loadPart (k _ _ (XI _ _ lk)) (wpAny_pure z))
    · cases q
  ne := fun h tp dd its n sl XI htp => by
    refine Bool.eq_false_iff.mpr fun z => ?_
    have ee : C = tp := Value.ref.inj (beq_iff_eq.mp z)
    subst ee
    have q := c.cd
    unfold clsIn at q
    split at q
    · rename_i c' d' cd' sl' lk
      have y := (XI _ _ lk).symm.trans htp
      cases y
    · cases q
  ca := fun {prog w A E Q s} XI ⟨ox, od, I⟩ k => by
    have hf : findObj K C od "__class__" = some (.bind (.builtin "getset_descriptor.__get__") (.builtin "object.__class__")) := find_data c.cd c.cl c.dg c.dt
    refine bexc_get? XI I c.mb c.ga c.gn hf ?_
    exact wpAny_call (class_get (s := { s with toks := s.toks + 1 }) (ox := ox) (od := od) XI I c.mo (handed_on rfl k))
end L2


set_option Elab.async false
set_option linter.all false
set_option maxRecDepth 100000
set_option maxHeartbeats 4000000
/-! COMPREHENSIONS OVER THE LAYER: [elt for tg in iter if ..] -/
namespace L2
open PySem PySem.Spec PyProof.Rows

/-- the cells of a block's free names -/
theorem closure_go {env : Env} : ∀ (names : List (Str × NameKind)) (cs : List (Str × Addr)), (∀ x ∈ names, x.2 = .free → ∃ c, env.cells.lookup x.1 = some c) → (∀ x c, cs.lookup x = some c → env.cells.lookup x = some c) →
    ∃ cl, (forIn names cs fun x r => (do
        if x.2 == .free then
          let a ← cellOf env x.1
          pure (ForInStep.yield ((x.1, a) :: r))
        else pure (ForInStep.yield r)) : Sem (List (Str × Addr))) = pure cl ∧ (∀ x c, cl.lookup x = some c → env.cells.lookup x = some c) ∧ (∀ x c, cs.lookup x = some c → cl.lookup x = some c) ∧ ∀ x ∈ names, x.2 = .free → ∃ c, cl.lookup x.1 = some c := by
  intro names
  induction names with
  | nil => intro cs _ h; exact ⟨cs, rfl, h, fun _ _ q => q, fun x z => nomatch z⟩
  | cons y r ih =>
    intro cs h1 h2
    obtain ⟨n, k⟩ := y
    by_cases hk : k = .free
    · subst hk
      obtain ⟨c, hc⟩ := h1 (n, .free) List.mem_cons_self rfl
      have hc : env.cells.lookup n = some c := hc
      have h3 : ∀ x d, ((n, c) :: cs).lookup x = some d → env.cells.lookup x = some d := fun x d q => by
        rw [List.lookup_cons] at q
        by_cases z : x = n
        · subst z
          simp at q
          subst q
          exact hc
        · have z' : (x == n) = false := by simpa using z
          rw [z'] at q
          exact h2 x d q
      obtain ⟨cl, e, a, b, d⟩ := ih ((n, c) :: cs) (fun x z => h1 x (List.mem_cons_of_mem _ z)) h3
      have hco : cellOf env n = pure c := by
        unfold cellOf
        rw [hc]
      refine ⟨cl, ?_, a, fun x q z => ?_, fun x z q => ?_⟩
      · rw [List.forIn_cons]
        simp only [beq_self_eq_true, if_true, hco]
        exact e
      · by_cases y : x = n
        · subst y
          have z1 := h2 x q z
          rw [hc] at z1
          cases z1
          exact b x c (by simp)
        · have y' : (x == n) = false := by simpa using y
          exact b x q (by rw [List.lookup_cons, y']; exact z)
      · rcases List.mem_cons.mp z with z | z
        · subst z
          exact ⟨c, b n c (by simp)⟩
        · exact d x z q
    · have hb : (k == NameKind.free) = false := by simpa using hk
      obtain ⟨cl, e, a, b, d⟩ := ih cs (fun x z => h1 x (List.mem_cons_of_mem _ z)) h2
      refine ⟨cl, ?_, a, b, fun x z q => ?_⟩
      · rw [List.forIn_cons]
        simp only [hb, Bool.false_eq_true, if_false]
        exact e
      · rcases List.mem_cons.mp z with z | z
        · subst z; exact absurd q hk
        · exact d x z q
theorem closure_of {env : Env} {scope : Scope} (h : ∀ x ∈ scope.names, x.2 = .free → ∃ c, env.cells.lookup x.1 = some c) : ∃ cl, closureFor scope env = pure cl ∧ (∀ x c, cl.lookup x = some c → env.cells.lookup x = some c) ∧ ∀ x ∈ scope.names, x.2 = .free → ∃ c, cl.lookup x.1 = some c := by
  obtain ⟨cl, e, a, _, d⟩ := closure_go scope.names [] h (fun x c q => by cases q)
  refine ⟨cl, ?_, a, d⟩
  unfold closureFor
  have e' := e
  simp only [pure_bind, bind_pure] at e' ⊢
  exact e'
end L2


set_option Elab.async false
set_option linter.all false
set_option maxRecDepth 100000
set_option maxHeartbeats 4000000
/-! COMPREHENSIONS OVER THE LAYER, 2: the block's own context, its loop. -/
namespace L2
open PySem PySem.Spec PyProof.Rows

theorem relabel_back {env : Env} {k : NameKind} : ∀ {names : List (Str × NameKind)} {x : Str}, (names.map fun (n, k) => if (k == NameKind.free && env.scope.kind == .function && env.kindOf n == some .cell) then (n, NameKind.cell) else (n, k)).lookup x = some k →
    names.lookup x = some k ∨ (k = .cell ∧ names.lookup x = some .free)
  | [], x, h => by simp at h
  | (n, q) :: r, x, h => by
    rw [List.map_cons, List.lookup_cons] at h
    rw [List.lookup_cons]
    have hd : ∀ c : Bool, (if c = true then (n, NameKind.cell) else (n, q)).1 = n := fun c => by cases c <;> rfl
    rw [hd] at h
    by_cases z : x = n
    · subst z
      simp only [beq_self_eq_true] at h ⊢
      split at h
      · rename_i y
        simp only [Bool.and_eq_true, beq_iff_eq] at y
        cases h
        exact .inr ⟨rfl, by rw [y.1.1]⟩
      · cases h; exact .inl rfl
    · have z' : (x == n) = false := by simpa using z
      simp only [z'] at h ⊢
      exact relabel_back h
theorem relabel_free {env : Env} : ∀ {names : List (Str × NameKind)} {x : Str}, names.lookup x = some .free →
    (names.map fun (n, k) => if (k == NameKind.free && env.scope.kind == .function && env.kindOf n == some .cell) then (n, NameKind.cell) else (n, k)).lookup x = some .cell ∨
    (names.map fun (n, k) => if (k == NameKind.free && env.scope.kind == .function && env.kindOf n == some .cell) then (n, NameKind.cell) else (n, k)).lookup x = some .free
  | [], x, h => by simp at h
  | (n, q) :: r, x, h => by
    rw [List.lookup_cons] at h
    rw [List.map_cons, List.lookup_cons]
    have hd : ∀ c : Bool, (if c = true then (n, NameKind.cell) else (n, q)).1 = n := fun c => by cases c <;> rfl
    rw [hd]
    by_cases z : x = n
    · subst z
      simp only [beq_self_eq_true] at h ⊢
      cases h
      split
      · exact .inl rfl
      · exact .inr rfl
    · have z' : (x == n) = false := by simpa using z
      simp only [z'] at h ⊢
      exact relabel_free h

/-- the context of a comprehension's block -/
noncomputable def Cx.blk (X : Cx) (scope : Scope) (cl : List (Str × Addr)) (N : List Str) (C : Addr) (s3 : Shared) (H3 : Hp) (fp : List Addr) (pins : List (Addr × Obj)) : Cx where
  prog := X.prog
  w := X.w
  K := X.K
  mg := X.mg
  base := X.base
  A := X.A
  N := N
  s₀ := s3
  H₀ := H3
  env := compEnvC scope cl C X.env
  outer := X.stack
  stack := X.stack
  ex := fp
  fn := fun _ => false
  calm := X.calm
  pn := X.pn ++ pins
  xe := fun _ _ => False

/-- how a block's names lie in those of the body: no cells of its own; free ones are the body's cells -/
structure BlkOk (sc scope : Scope) : Prop where
  kind : scope.kind = .function
  nocell : ∀ y ∈ scope.names, y.2 ≠ .cell
  free : ∀ y ∈ scope.names, y.2 = .free → sc.names.lookup y.1 = some .cell ∨ sc.names.lookup y.1 = some .free
  loc : ∀ y ∈ scope.names, y.2 = .local → scope.names.lookup y.1 = some .local

section
variable {X : Cx} {pins : List (Addr × Obj)} {σ : St} {H : Hp} {s : Shared} {scope : Scope} {cl : List (Str × Addr)} {N : List Str} {fp : List Addr} {σY : St}
theorem inv_blk {h1 : Heap} {t : Nat} (I : Inv X pins σ H s) (B : BlkOk X.env.scope scope) (c1 : ∀ x c, cl.lookup x = some c → X.env.cells.lookup x = some c) (c2 : ∀ x ∈ scope.names, x.2 = .free → ∃ c, cl.lookup x.1 = some c)
    (f : ∀ b ∈ fp, FpOk X pins H b) (fo : ∀ b ∈ fp, ∃ o, s.heap.get? b = some o) (hn : h1.Ns s.heap.objs.size (fun _ => none)) (kp : ∀ b o, s.heap.get? b = some o → h1.get? b = some o)
    (hl : σY.length = N.length) (hσ : ∀ (i : Nat) (x : Str) (v : V), N[i]? = some x → σY[i]? = some (some v) → scope.names.lookup x = some .free ∧ ∃ j : Nat, X.N[j]? = some x ∧ σ[j]? = some (some v)) :
    Inv (X.blk scope cl N s.heap.objs.size s H fp pins) [] σY H { s with heap := h1, toks := t } := by
  have lt : ∀ b o, s.heap.get? b = some o → b ≠ s.heap.objs.size := fun b o q => Nat.ne_of_lt (Heap.lt_size q)
  have nfs : ∀ b, b ≠ X.env.locals → b ∉ X.fs → b ∉ frs X.stack := fun b a c z => (List.mem_cons.mp (I.stkSub b z)).elim a c
  have mem_of : ∀ x k, scope.names.lookup x = some k → (x, k) ∈ scope.names := fun x k q => PySem.mem_of_lookup q
  refine ⟨⟨I.ok.mod, B.kind, I.ok.glob, I.ok.blt, Nat.le_refl _, fun x y c a b => I.ok.inj x y c (c1 x c a) (c1 y c b), fun x hx => ?_, fun x c z => absurd z (by show ¬ (false = true); decide), I.ok.hd, I.ok.frames, .inl rfl, fun b hb => ?_, I.bs, Nat.le_trans I.ok.bsz I.sz, fun b o q hb => ?_, fun b hb => nfs b (f b hb).2.1 (f b hb).2.2.1, I.stack, I.stkFree⟩,
    rfl, I.bare, Un.kept kp, ⟨_, hn, fun i x v e1 e2 e3 => ?_⟩, fun x c q => ?_, I.hok.fresh (Nat.le_refl _), fun x c q => I.freeC x c (c1 x c q), fun p hp => ?_, I.hok.kept kp, hl⟩
  · have hx : (relabel scope X.env).names.lookup x = some .cell ∨ (relabel scope X.env).names.lookup x = some .free := hx
    have fr : scope.names.lookup x = some .free := by
      rcases hx with hx | hx
      · rcases relabel_back hx with z | ⟨_, z⟩
        · exact absurd rfl (B.nocell _ (mem_of x _ z))
        · exact z
      · rcases relabel_back hx with z | ⟨z, _⟩
        · exact z
        · cases z
    exact c2 (x, .free) (mem_of x _ fr) rfl
  · refine ⟨?_, fun x c q => (f b hb).2.2.2.2.1 x c (c1 x c q)⟩
    obtain ⟨o, q⟩ := fo b hb
    exact lt b o q
  · obtain ⟨_, _, _, z, _⟩ := f b hb
    rcases z with z | z
    · exact I.ok.noex b o q z
    · exact absurd (Nat.lt_of_lt_of_le (Heap.lt_size q) (Nat.le_trans I.ok.bsz z)) (Nat.lt_irrefl _)
  · obtain ⟨fr, j, hj, hv⟩ := hσ i x v e1 e2
    have hk := B.free (x, .free) (mem_of x _ fr) rfl
    obtain ⟨m, hm, hlk⟩ := I.loc
    obtain ⟨u, r, l⟩ := hlk j x v hj hv (hk.elim (fun z => .inr (.inl z)) fun z => .inr (.inr z))
    obtain ⟨c', hc'⟩ := c2 (x, .free) (mem_of x _ fr) rfl
    have hc' : cl.lookup x = some c' := hc'
    refine ⟨u, r, .inr ⟨relabel_free fr, c', hc', ?_⟩⟩
    rcases l with ⟨k1, _⟩ | ⟨_, c, k2, oc, k3, k4⟩
    · have k1 : X.env.scope.names.lookup x = some .local := k1
      rcases hk with hk | hk
      · have hk : X.env.scope.names.lookup x = some .cell := hk
        rw [k1] at hk; cases hk
      · have hk : X.env.scope.names.lookup x = some .free := hk
        rw [k1] at hk; cases hk
    · have e := c1 x c' hc'
      rw [k2] at e
      cases e
      exact ⟨oc, kp _ oc k3, k4⟩
  · obtain ⟨v, o, q1, q2⟩ := I.cell x c (c1 x c q)
    exact ⟨v, o, kp c o q1, q2⟩
  · have hp : p ∈ X.pn ++ pins := by
      have z : p ∈ (X.pn ++ pins) ++ [] := hp
      simpa using z
    obtain ⟨a1, a2, a3, a4, a5⟩ := I.pin p hp
    exact ⟨kp _ _ a1, a2, lt _ _ a1, nfs _ a3 a4, a5⟩

/-- behind the block: the body's own state again -/
theorem inv_blk_end {σ' : St} {H' : Hp} {s' : Shared} (I : Inv X pins σ H s) (f : ∀ b ∈ fp, FpOk X pins H b) (J : Inv (X.blk scope cl N s.heap.objs.size s H fp pins) [] σ' H' s') : Inv X pins σ H' s' :=
  I.call' (ch := fp) J.os J.base J.hok J.bare fun b hb => by
    obtain ⟨_, a2, _, a4, a5, a6⟩ := f b hb
    exact ⟨a4.imp id fun z => Heap.get?_none_of_le z, a2, a5, a6⟩
/-- .. when the block's names have gone -/
theorem inv_blk_gone {σ' : St} {H' : Hp} {s' : Shared} {h2 : Heap} {C : Addr} (J : Inv X pins σ H' s') (hC : X.s₀.heap.objs.size ≤ C) (n1 : H' C = none) (n2 : C ≠ X.env.locals) (n3 : ∀ x c, X.env.cells.lookup x = some c → c ≠ C) (n4 : ∀ p ∈ X.pn ++ pins, p.1 ≠ C)
    (sb : Heap.SameBut C s'.heap h2) : Inv X pins σ H' { s' with heap := h2 } :=
  J.turned (t' := s'.toks) (fun b o z q => (sb.2 b z).trans q) n1 n2 (.inr hC) n3 n4
end
end L2


set_option Elab.async false
set_option linter.all false
set_option maxRecDepth 100000
set_option maxHeartbeats 4000000
/-! COMPREHENSIONS OVER THE LAYER, 3: the rules. -/
namespace L2
open PySem PySem.Spec PyProof.Rows

/-- the tests of a clause, as the turn runs them -/
noncomputable abbrev testsOf (ifs : List Expr) (env : Env) : Sem Bool := forIn ifs true fun c r => if r = true then do let ok ← isTrue c env (eval c env); pure (ForInStep.yield ok) else pure (ForInStep.yield r)

theorem loop_comp {prog : Program} {w : World} {A : Around} {R : Result → Shared → Prop} {s : Shared} {elt target iter : Expr} {ifs : List Expr} {scope : Scope} {pos : Pos} {it acc : Value} {env : Env} (V : Nat → Shared → Prop)
    (turn : ∀ n s, V n s → wpAny (model prog w) A (pyNext it) (fun r s₁ => match r with
      | none => R (.ok .next) s₁
      | some v => wpAny (model prog w) A (letOwnedTupleGo target it v) (fun _ s₂ => wpAny (model prog w) A (assign target env v) (fun _ s₃ =>
          wpAny (model prog w) A (testsOf ifs env) (fun ok s₄ =>
            if ok = true then wpAny (model prog w) A (eval elt env) (fun x s₅ => wpAny (model prog w) A (call (.builtin "list.append") [acc, x]) (fun _ s₆ => ∃ m, m < n ∧ V m s₆) (fun _ _ => False) s₅) (fun _ _ => False) s₄
            else ∃ m, m < n ∧ V m s₄) (fun _ _ => False) s₃) (fun _ _ => False) s₂) (fun _ _ => False) s₁) (fun _ _ => False) s)
    (n : Nat) (h : V n s) : codeAny (model prog w) A (.compLoop (.ListComp elt [⟨target, iter, ifs, 0⟩] scope pos) 0 it acc env) R s := by
  refine codeAny_loop rfl V (fun n s hV => ?_) n h
  show wpAny _ A ((compTurn (.ListComp elt [⟨target, iter, ifs, 0⟩] scope pos) 0 it acc env).onRaise (fun x => do noteFrame x env; theTreesLotGoes x)) _ _ s
  refine wpAny_noted ?_
  rw [compTurn_list]
  refine wpAny_bind (wpAny_standAt (wpAny_bind (wpAny_mono (turn n s hV) (fun r s₁ h₁ => ?_) fun _ _ z => z.elim)))
  cases r with
  | none => exact wpAny_pure h₁
  | some v =>
    refine wpAny_bind (wpAny_mono h₁ (fun _ s₂ h₂ => ?_) fun _ _ z => z.elim)
    refine wpAny_bind (wpAny_mono h₂ (fun _ s₃ h₃ => wpAny_bind (wpAny_mono h₃ (fun ok s₄ h₄ => ?_) fun _ _ z => z.elim)) fun _ _ z => z.elim)
    cases ok with
    | true =>
      simp only [if_true] at h₄ ⊢
      exact wpAny_bind (wpAny_bind (wpAny_mono h₄ (fun x s₅ h₅ => wpAny_bind (wpAny_mono h₅ (fun _ s₆ h₆ => wpAny_pure (wpAny_pure ⟨rfl, h₆⟩)) fun _ _ z => z.elim)) fun _ _ z => z.elim))
    | false =>
      simp only [Bool.false_eq_true, if_false] at h₄ ⊢
      exact wpAny_pure ⟨rfl, h₄⟩

/-- a clause's tests: none, or one -/
noncomputable def PTs (X : Cx) (ifs : List Expr) (t : TT) : Prop :=
  ∀ (pins : List (Addr × Obj)) (s : Shared) (σ : St) (H : Hp) (Q : Bool → Hp → Prop), Inv X pins σ H s → t σ H Q → wpAny (model X.prog X.w) X.A (testsOf ifs X.env) (TP X pins σ Q) X.xe s
noncomputable def tYes : TT := fun _ H Q => Q true H
theorem pts_nil {X : Cx} : PTs X [] tYes := fun _ _ _ H _ I h => wpAny_tests_nil ⟨H, I, h⟩
/-- the block's reading: D the new list; W by the turn and a measure -/
noncomputable def tBlk (σY : St → St) (g : TG) (tt : TT) (te : TE) (J : It) (σ : St) (H : Hp) (Q : VK) : Prop := ∀ D, H D = none → ∃ W : Nat → Nat → St → Hp → Prop, (∃ m, W 0 m (σY σ) (upd H D (.lst []))) ∧ ∀ i m σ' H', W i m σ' H' →
  (J.stop i H' ∧ Q (.ref D) H') ∨ (J.go i H' ∧ ∃ N : St → Hp → Prop, (∀ σ2 H2, N σ2 H2 → ∃ m', m' < m ∧ W (i + 1) m' σ2 H2) ∧ ∀ x H2, J.yld i H' x H2 → g x σ' H2 fun σ3 H3 => tt σ3 H3 fun ok H4 =>
    if ok = true then te σ3 H4 fun y H5 => ∃ ys, H5 D = some (.lst ys) ∧ ys.length < sizeLine ∧ N σ3 (upd H5 D (.lst (ys ++ [y]))) else N σ3 H4)

section
variable {X : Cx} {elt tg iter : Expr} {ifs : List Expr} {scope : Scope} {pos : Pos} {N : List Str} {σY : St → St} {wi : TI} {g : TG} {tt : TT} {te : TE}
/-- the parts of a block, whatever its context -/
structure Parts (X : Cx) (elt tg : Expr) (ifs : List Expr) (scope : Scope) (N : List Str) (g : TG) (tt : TT) (te : TE) : Prop where
  tgt : ∀ cl C s3 H3 fp pins, PG (X.blk scope cl N C s3 H3 fp pins) tg g
  tst : ∀ cl C s3 H3 fp pins, PTs (X.blk scope cl N C s3 H3 fp pins) ifs tt
  el : ∀ cl C s3 H3 fp pins, PE (X.blk scope cl N C s3 H3 fp pins) elt te

theorem comp_core (hc : X.calm = true) (B : BlkOk X.env.scope scope) (P : Parts X elt tg ifs scope N g tt te) (hl : ∀ σ, (σY σ).length = N.length)
    (hσ : ∀ (σ : St) (i : Nat) (x : Str) (v : V), N[i]? = some x → (σY σ)[i]? = some (some v) → scope.names.lookup x = some .free ∧ ∃ j : Nat, X.N[j]? = some x ∧ σ[j]? = some (some v))
    {pins : List (Addr × Obj)} {s : Shared} {σ : St} {H : Hp} {Q : VK} {it : Addr} {fp : List Addr} {tn : Nat → Heap → Prop} {J : It} (I : Inv X pins σ H s) (T : Turn X.prog X.w X.K tg J fp it tn) (st : tn 0 s.heap) (f : ∀ b ∈ fp, FpOk X pins H b) (h : tBlk σY g tt te J σ H Q)
    {cl : List (Str × Addr)} (c1 : ∀ x c, cl.lookup x = some c → X.env.cells.lookup x = some c) (c2 : ∀ x ∈ scope.names, x.2 = .free → ∃ c, cl.lookup x.1 = some c) {R : Value → Addr → Result → Shared → Prop} {E : Value → Shared → Prop}
    (k : ∀ D C s' H', Inv X pins σ H' s' → X.s₀.heap.objs.size ≤ C → H' C = none → C ≠ X.env.locals → (∀ x c, X.env.cells.lookup x = some c → c ≠ C) → (∀ p ∈ X.pn ++ pins, p.1 ≠ C) → (∃ m, s'.heap.Ns C m) → Q (.ref D) H' → R (.ref D) C (.ok .next) s') :
    wpAny (model X.prog X.w) X.A (newList []) (fun acc s₃ => wpAny (model X.prog X.w) X.A (newFunctionEnv scope X.env.globals cl [] X.env.qual none .none (some X.env)) (fun cenv s₄ =>
      codeAny (model X.prog X.w) X.A (.compStart (.ListComp elt [⟨tg, iter, ifs, 0⟩] scope pos) 0 (.ref it) acc { cenv with scope := relabel scope X.env }) (R acc cenv.locals) s₄) E s₃) E s := by
  refine wpAny_newObj_type ?_
  have hD : H s.heap.objs.size = none := I.hok.fresh (Nat.le_refl _)
  have I3 : Inv X pins σ (upd H s.heap.objs.size (.lst [])) { s with heap := s.heap.push { cls := .type "list", dict := none, data := .seq ([] : List Value).toArray } } :=
    I.laid (t' := s.toks) (fun b u q => Heap.get?_push_of_some _ q) (Nat.le_refl _) ⟨Nat.zero_le _, [], 0, .nil, Heap.get?_push_size _ rfl⟩
  have f3 : ∀ b ∈ fp, FpOk X pins (upd H s.heap.objs.size (.lst [])) b := fun b hb => by
    obtain ⟨a1, a2⟩ := f b hb
    obtain ⟨o, q, _⟩ := T.obj 0 _ st b hb
    exact ⟨by rw [upd_ne (Nat.ne_of_lt (Heap.lt_size q))]; exact a1, a2⟩
  have st3 : tn 0 (s.heap.push { cls := .type "list", dict := none, data := .seq ([] : List Value).toArray }) := T.keep _ _ _ st fun b hb o q => Heap.get?_push_of_some _ q
  obtain ⟨W, ⟨m0, w0⟩, turn⟩ := h s.heap.objs.size hD
  generalize hs3 : ({ s with heap := s.heap.push { cls := .type "list", dict := none, data := .seq ([] : List Value).toArray } } : Shared) = s3 at *
  have st3' : tn 0 s3.heap := by rw [← hs3]; exact st3
  generalize hH3 : upd H s.heap.objs.size (.lst []) = H3 at *
  refine wpAny_newFunctionEnv B.nocell (fun y hy => by simp at hy) (fun h1 hn sb => ?_) B.kind
  have kp : ∀ b o, s3.heap.get? b = some o → h1.get? b = some o := fun b o q => (sb.2 b (Nat.ne_of_lt (Heap.lt_size q))).trans (Heap.get?_push_of_some _ q)
  have hn' : h1.Ns s3.heap.objs.size (fun _ => none) := hn
  have J0 : Inv (X.blk scope cl N s3.heap.objs.size s3 H3 fp pins) [] (σY σ) H3 { s3 with heap := h1, toks := s3.toks + ([] : List (Str × Value)).length } :=
    inv_blk I3 B c1 c2 f3 (fun b hb => let ⟨o, q, _⟩ := T.obj 0 _ st3' b hb; ⟨o, q⟩) hn' kp (hl σ) (hσ σ)
  have st4 : tn 0 h1 := T.keep _ _ _ st3' fun b hb o q => kp b o q
  have fY : ∀ {H' : Hp}, (∀ b ∈ fp, H' b = none) → ∀ b ∈ fp, FpOk (X.blk scope cl N s3.heap.objs.size s3 H3 fp pins) [] H' b := fun {H'} z b hb => by
    obtain ⟨a1, a2, a3, a4, a5, a6⟩ := f3 b hb
    obtain ⟨o, q, _⟩ := T.obj 0 _ st3' b hb
    refine ⟨z b hb, Nat.ne_of_lt (Heap.lt_size q), fun y => (List.mem_cons.mp (I3.stkSub b y)).elim a2 a3, .inl hb, fun x c y => a5 x c (c1 x c y), fun p hp => a6 p ?_⟩
    have y : p ∈ (X.pn ++ pins) ++ [] := hp
    simpa using y
  have loop : codeAny (model X.prog X.w) X.A (.compLoop (.ListComp elt [⟨tg, iter, ifs, 0⟩] scope pos) 0 (.ref it) (.ref s.heap.objs.size) (compEnvC scope cl s3.heap.objs.size X.env)) (R (.ref s.heap.objs.size) s3.heap.objs.size) { s3 with heap := h1, toks := s3.toks + ([] : List (Str × Value)).length } := by
    refine loop_comp (fun n s' => ∃ i σ' H', Inv (X.blk scope cl N s3.heap.objs.size s3 H3 fp pins) [] σ' H' s' ∧ tn i s'.heap ∧ (∀ b ∈ fp, H' b = none) ∧ W i n σ' H') ?_ m0 ⟨0, σY σ, H3, J0, st4, fun b hb => (f3 b hb).1, w0⟩
    rintro n s5 ⟨i, σ5, H5, J5, st5, fr5, w5⟩
    rcases turn i n σ5 H5 w5 with ⟨stop, q⟩ | ⟨go, Nx, hN, step⟩
    · refine thn (T.done (X.blk scope cl N s3.heap.objs.size s3 H3 fp pins) rfl rfl rfl hc i [] s5 σ5 H5 _ J5 (fY fr5) st5 stop) fun r s6 ⟨hr, J6⟩ => ?_
      subst hr
      have JX := inv_blk_end I3 f3 J6
      refine k s.heap.objs.size s3.heap.objs.size s6 H5 JX I3.sz J6.free (Nat.ne_of_gt I3.lt) (fun x c y z => ?_) (fun p hp z => ?_) ?_ q
      · obtain ⟨v, qc⟩ := I3.cell x c y
        exact absurd qc.lt (by rw [z]; exact Nat.lt_irrefl _)
      · exact absurd (Heap.lt_size (I3.pin p hp).1) (by rw [z]; exact Nat.lt_irrefl _)
      · obtain ⟨m, hm, _⟩ := J6.loc
        exact ⟨m, hm⟩
    · refine thn (T.item (X.blk scope cl N s3.heap.objs.size s3 H3 fp pins) rfl rfl rfl hc i [] s5 σ5 H5 _ J5 (fY fr5) st5 go) fun r s6 ⟨u, hr, h6⟩ => ?_
      subst hr
      refine thn h6 fun _ s7 ⟨x, H7, J7, r7, y7, st7, fr7⟩ => ?_
      have J7' := J7.pinned (fY fr7) (T.obj _ _ st7)
      refine thn (P.tgt cl s3.heap.objs.size s3 H3 fp pins _ s7 σ5 H7 x u _ J7' r7 (step x H7 y7)) fun _ s8 ⟨σ8, H8, J8, q8⟩ => ?_
      refine thn (P.tst cl s3.heap.objs.size s3 H3 fp pins _ s8 σ8 H8 _ J8 q8) fun ok s9 ⟨H9, J9, q9⟩ => ?_
      have again : ∀ {H' : Hp} {s' : Shared}, Inv (X.blk scope cl N s3.heap.objs.size s3 H3 fp pins) ([] ++ pinsAt fp s7.heap) σ8 H' s' → Nx σ8 H' → ∃ m, m < n ∧ ∃ i σ' H', Inv (X.blk scope cl N s3.heap.objs.size s3 H3 fp pins) [] σ' H' s' ∧ tn i s'.heap ∧ (∀ b ∈ fp, H' b = none) ∧ W i m σ' H' := fun {H' s'} J' n' => by
        obtain ⟨m', hm, w'⟩ := hN σ8 H' n'
        refine ⟨m', hm, i + 1, σ8, H', J'.unpinned, T.keep _ _ _ st7 fun b hb o e => (J'.pin (b, o) (List.mem_append_right _ (List.mem_append_right _ (mem_pinsAt hb e)))).1, fun b hb => ?_, w'⟩
        obtain ⟨o, e, d⟩ := T.obj _ _ st7 b hb
        exact (J'.pin (b, o) (List.mem_append_right _ (List.mem_append_right _ (mem_pinsAt hb e)))).2.1
      cases ok with
      | false =>
        rw [if_neg (by decide)] at q9 ⊢
        exact again J9 q9
      | true =>
        rw [if_pos rfl] at q9 ⊢
        refine thn (P.el cl s3.heap.objs.size s3 H3 fp pins _ s9 σ8 H9 _ J9 q9) fun v s10 ⟨y, H10, J10, r10, ys, hD10, hz, q10⟩ => ?_
        refine thn (mt_append (X := (X.blk scope cl N s3.heap.objs.size s3 H3 fp pins)) _ s10 σ8 H10 (.ref s.heap.objs.size) [y] (.ref s.heap.objs.size) [v] (fun _ H' => Nx σ8 H') J10 rfl (.cons r10 .nil) ⟨s.heap.objs.size, ys, y, rfl, rfl, hD10, hz, q10⟩) fun _ s11 ⟨_, H11, J11, _, q11⟩ => again J11 q11
  exact codeAny_compStart_list loop (T.self _ 0 _ _ _ st4 loop)
end
end L2


set_option Elab.async false
set_option linter.all false
set_option maxRecDepth 100000
set_option maxHeartbeats 4000000
/-! COMPREHENSIONS OVER THE LAYER, 4: as a value, as what a name is given. -/
namespace L2
open PySem PySem.Spec PyProof.Rows
noncomputable def tComp (wi : TI) (σY : St → St) (g : TG) (tt : TT) (te : TE) : TE := fun σ H Q => wi σ H fun J H1 => tBlk σY g tt te J σ H1 Q
section
variable {X : Cx} {elt tg iter : Expr} {ifs : List Expr} {scope : Scope} {pos spos py : Pos} {N : List Str} {σY : St → St} {wi : TI} {g : TG} {tt : TT} {te : TE} {i : Nat} {y : Str}
theorem clos_of {pins : List (Addr × Obj)} {s : Shared} {σ : St} {H : Hp} (I : Inv X pins σ H s) (B : BlkOk X.env.scope scope) : ∃ cl, closureFor scope X.env = pure cl ∧ (∀ x c, cl.lookup x = some c → X.env.cells.lookup x = some c) ∧ ∀ x ∈ scope.names, x.2 = .free → ∃ c, cl.lookup x.1 = some c :=
  closure_of fun x hx hf => I.ok.has x.1 (B.free x hx hf)
theorem pe_comp (hc : X.calm = true) (B : BlkOk X.env.scope scope) (hi : PI X tg iter wi) (P : Parts X elt tg ifs scope N g tt te) (hl : ∀ σ, (σY σ).length = N.length)
    (hσ : ∀ (σ : St) (i : Nat) (x : Str) (v : V), N[i]? = some x → (σY σ)[i]? = some (some v) → scope.names.lookup x = some .free ∧ ∃ j : Nat, X.N[j]? = some x ∧ σ[j]? = some (some v))
    (hs : ∀ x, foldedSetIterable iter X.env x = pure x := by intro _; rfl) : PE X (.ListComp elt [⟨tg, iter, ifs, 0⟩] scope pos) (tComp wi σY g tt te) := by
  intro pins s σ H Q I h
  obtain ⟨cl, hcl, c1, c2⟩ := clos_of I B
  rw [eval_ListComp]
  refine wpAny_comprehension_free (use := none) rfl hs hcl B.kind B.loc (thn (hi pins s σ H _ I h) fun xv s1 h1 => thn h1 fun itv s2 h2 => ?_)
  obtain ⟨it, fp, tn, J, H2, e, I2, T, st2, f2, hq⟩ := h2
  subst e
  exact comp_core hc B P hl hσ I2 T st2 f2 hq c1 c2 (R := fun acc C => compPost (model X.prog X.w) X.A X.xe none (EP X pins σ Q) acc C) fun D C s' H' J' a b c d e ⟨m, hm⟩ q => ⟨m, hm, fun h' sb => ⟨.ref D, H', inv_blk_gone (σ' := σ) J' a b c d e sb, rfl, q⟩⟩
end
end L2


set_option Elab.async false
set_option linter.all false
set_option maxRecDepth 100000
set_option maxHeartbeats 4000000
/-! THE MIRROR: plain data, a store of lists, small trees of the text's expressions and statements, and what they reckon. -/
namespace It
open PySem

/-- plain data: a list (or dict) is a place in the store; an exception is its class's number -/
inductive D where
  | non | bl (b : Bool) | int (i : Int) | str (s : Str) | tup (xs : List D) | loc (n : Nat) | exc (c : Nat)
inductive SO where
  | lst (xs : List D)
  /-- a list that is only read (the script) -/
  | ro (xs : List D)
  /-- a dict of texts -/
  | dct (kvs : List (Str × D))
noncomputable abbrev S := List SO
/-- an end: a value, or an exception's class -/
inductive Rs (α : Type) where
  | ok (a : α) | er (c : Nat)
noncomputable abbrev M (α : Type) := S → Option (Rs α × S)
noncomputable def M.ret {α : Type} (a : α) : M α := fun s => some (.ok a, s)
noncomputable def M.bd {α β : Type} (m : M α) (k : α → M β) : M β := fun s => match m s with
  | some (.ok a, s') => k a s'
  | some (.er c, s') => some (.er c, s')
  | none => none
/-- no exception is told of -/
noncomputable def M.qt {α : Type} (m : M α) : M α := fun s => match m s with
  | some (.ok a, s') => some (.ok a, s')
  | _ => none
noncomputable def M.no {α : Type} : M α := fun _ => none
noncomputable def M.opt {α : Type} : Option α → M α
  | some a => M.ret a
  | none => M.no
noncomputable instance : Monad M where
  pure := M.ret
  bind := M.bd

inductive Bop where
  | add | sub | mul | fdiv | mod | pow
inductive Cop where
  | eq | ne | lt | le | gt | ge
inductive Kd where
  | int | bool | str | tuple | list | dict | cls (c : Nat) | verr
inductive Bi where
  | len | abs | max | min | int | divmod | all
inductive Mt where
  | count | index | append

mutual
inductive E where
  | c (d : D)
  | v (i : Nat)
  | bin (op : Bop) (a b : E)
  | cmp (op : Cop) (a b : E)
  | ch2 (o1 o2 : Cop) (a b c : E)
  | ch3 (o1 o2 o3 : Cop) (a b c d : E)
  | isN (neg : Bool) (a : E)
  | and (a b : E)
  | or (a b : E)
  | not (a : E)
  | ite (c a b : E)
  | tup (xs : Es)
  | lst (xs : Es)
  | dct1 (k : Str) (i : Int)
  | call (f : Nat) (xs : Es)
  | bi (b : Bi) (xs : Es)
  | isi (a : E) (k : Kd)
  | ix (a i : E)
  | sl (a : E) (lo hi : Eo)
  | meth (m : Mt) (o : E) (xs : Es)
  | comp (elt : E) (it : E) (fr : List Nat) (cond : Eo)
inductive Es where
  | nil
  | cons (a : E) (r : Es)
inductive Eo where
  | no
  | yes (a : E)
end
noncomputable def Es.len : Es → Nat
  | .nil => 0
  | .cons _ r => r.len + 1
inductive Tg where
  | nm (i : Nat)
  | tp (is : List Nat)
  | sub (o i : E)
/-- what a for walks -/
inductive Wk where
  | seq (e : E)
  | rg (n : E)
mutual
inductive St where
  | pass
  | ex (e : E)
  | asg (t : Tg) (e : E)
  | par (i j : Nat) (a b : E)
  | ret (e : E)
  | rise (c : Nat) (xs : Es)
  | iff (c : E) (t e : Sts)
  | wh (c : E) (b : Sts)
  | fr (t : Tg) (w : Wk) (b : Sts)
  | tryc (b : Sts) (d : Nat) (i : Nat) (h : Sts)
inductive Sts where
  | nil
  | cons (a : St) (r : Sts)
end

noncomputable def D.isInt : D → Option Int
  | .int i => some i
  | _ => none
noncomputable def D.isBl : D → Option Bool
  | .bl b => some b
  | _ => none
noncomputable def boolOf (d : D) : M Bool := M.opt d.isBl
noncomputable def intOf (d : D) : M Int := M.opt d.isInt
noncomputable def evBin : Bop → Int → Int → Option Int
  | .add, i, j => some (i + j)
  | .sub, i, j => some (i - j)
  | .mul, i, j => if (-(2 ^ 64) < i ∧ i < 2 ^ 64) ∨ (-(2 ^ 64) < j ∧ j < 2 ^ 64) then some (i * j) else none
  | .fdiv, i, j => if 0 < j ∧ j < 1073741824 then some (i / j) else none
  | .mod, i, j => if 0 < j then some (i % j) else none
  | .pow, i, j => if 0 ≤ j ∧ j ≤ 1000000 ∧ i.natAbs < 2 ^ 64 then some (i ^ j.toNat) else none
noncomputable def deqs (eq : D → D → Option Bool) : List D → List D → Option Bool
  | [], [] => some true
  | [], _ :: _ => some false
  | _ :: _, [] => some false
  | x :: xs, y :: ys => match eq x y, deqs eq xs ys with
    | some a, some b => some (a && b)
    | _, _ => none
/-- == of data without lists, so deep; none where the mirror does not say -/
noncomputable def deq : Nat → D → D → Option Bool
  | n + 1, .tup xs, .tup ys => deqs (deq n) xs ys
  | _, .non, .non => some true
  | _, .non, .bl _ => some false
  | _, .bl _, .non => some false
  | _, .non, .int _ => some false
  | _, .int _, .non => some false
  | _, .non, .str _ => some false
  | _, .str _, .non => some false
  | _, .bl a, .bl b => some (decide (a = b))
  | _, .int a, .int b => some (decide (a = b))
  | _, .str a, .str b => some (decide (a = b))
  | _, .int _, .str _ => some false
  | _, .str _, .int _ => some false
  | _, .bl _, .str _ => some false
  | _, .str _, .bl _ => some false
  | _, _, _ => none
noncomputable def evCmp : Cop → D → D → Option Bool
  | .eq, a, b => deq 50 a b
  | .ne, a, b => (deq 50 a b).map (!·)
  | .lt, .int i, .int j => some (decide (i < j))
  | .le, .int i, .int j => some (decide (i ≤ j))
  | .gt, .int i, .int j => some (decide (j < i))
  | .ge, .int i, .int j => some (decide (j ≤ i))
  | _, _, _ => none
noncomputable def lenOf (d : D) : M Nat := fun s => match d with
  | .tup xs => some (.ok xs.length, s)
  | .loc n => match s[n]? with
    | some (.lst xs) => some (.ok xs.length, s)
    | some (.ro xs) => some (.ok xs.length, s)
    | _ => none
  | _ => none
noncomputable def itemsOf (d : D) : M (List D) := fun s => match d with
  | .tup xs => some (.ok xs, s)
  | .loc n => match s[n]? with
    | some (.lst xs) => some (.ok xs, s)
    | some (.ro xs) => some (.ok xs, s)
    | _ => none
  | _ => none
noncomputable def listOf (d : D) : M (List D) := fun s => match d with
  | .loc n => match s[n]? with
    | some (.lst xs) => some (.ok xs, s)
    | _ => none
  | _ => none
noncomputable def newL (o : SO) : M D := fun s => some (.ok (.loc s.length), s ++ [o])
noncomputable def putL (n : Nat) (o : SO) : M Unit := fun s => some (.ok (), s.set n o)
/-- isinstance; sub c d: the class c stands under d (or is it), among the text's own -/
noncomputable def isiOf (sub : Nat → Nat → Bool) (d : D) (k : Kd) : M Bool := fun s => match d, k with
  | .exc c, .cls e => some (.ok (sub c e), s)
  | .exc _, .verr => some (.ok true, s)
  | .exc _, _ => none
  | _, .cls _ => none
  | _, .verr => none
  | .bl _, .bool => some (.ok true, s)
  | .bl _, .int => some (.ok true, s)
  | .bl _, _ => some (.ok false, s)
  | .int _, .int => some (.ok true, s)
  | .int _, _ => some (.ok false, s)
  | .non, _ => some (.ok false, s)
  | .str _, .str => some (.ok true, s)
  | .str _, _ => some (.ok false, s)
  | .tup _, .tuple => some (.ok true, s)
  | .tup _, _ => some (.ok false, s)
  | .loc n, k => match s[n]?, k with
    | some (.lst _), .list => some (.ok true, s)
    | some (.lst _), _ => some (.ok false, s)
    | some (.dct _), .dict => some (.ok true, s)
    | some (.dct _), _ => some (.ok false, s)
    | _, _ => none
noncomputable def ixAt {α : Type} (xs : List α) (i : Int) : Option α := L2.atI xs i
noncomputable def evIx (a : D) (i : Int) : M D := do
  let xs ← itemsOf a
  M.opt (ixAt xs i)
noncomputable def cut (xs : List D) (lo hi : Option Int) : List D := (xs.drop (HT.sIx xs.length 0 lo)).take (HT.sIx xs.length xs.length hi - HT.sIx xs.length 0 lo)
noncomputable def allBl : List D → Option (List Bool)
  | [] => some []
  | .bl b :: r => (allBl r).map (b :: ·)
  | _ => none
noncomputable def evOp : Bop → D → D → M D
  | op, .int i, .int j => M.bd (M.opt (evBin op i j)) fun k => M.ret (.int k)
  | .add, .loc m, .loc n => M.bd (listOf (.loc m)) fun xs => M.bd (listOf (.loc n)) fun ys => if xs.length + ys.length ≤ sizeLine then newL (.lst (xs ++ ys)) else M.no
  | _, _, _ => M.no
noncomputable def evSl (x : D) (lo hi : Option Int) : M D := match x with
  | .loc n => M.bd (itemsOf (.loc n)) fun xs => newL (.lst (cut xs lo hi))
  | _ => M.no
noncomputable def evMt (m : Mt) (x : D) (ds : List D) : M D := match m, x, ds with
  | .count, .loc n, [.bl b] => M.bd (listOf (.loc n)) fun l => M.bd (M.opt (allBl l)) fun bs => M.ret (.int (bs.count b))
  | .index, .loc n, [.bl b] => M.bd (listOf (.loc n)) fun l => M.bd (M.opt (allBl l)) fun bs => M.bd (M.opt (bs.idxOf? b)) fun i => M.ret (.int i)
  | .append, .loc n, [d] => M.bd (listOf (.loc n)) fun l => if l.length < sizeLine then M.bd (putL n (.lst (l ++ [d]))) fun _ => M.ret .non else M.no
  | _, _, _ => M.no
noncomputable abbrev Vs := List (Option D)
/-- the i-th thing of what is walked, as it stands: none where nothing is to be walked -/
noncomputable def itemAt (d : D) (i : Nat) (s : S) : Option (Option D) := match d with
  | .tup xs => some xs[i]?
  | .loc n => match s[n]? with
    | some (.lst xs) => some xs[i]?
    | some (.ro xs) => some xs[i]?
    | _ => none
  | _ => none
noncomputable def walk (it : D) (f : D → M Unit) : Nat → Nat → M Unit
  | 0, _ => M.no
  | k + 1, i => fun s => match itemAt it i s with
    | none => none
    | some none => some (.ok (), s)
    | some (some x) => M.bd (f x) (fun _ => walk it f k (i + 1)) s
/-- one more at the list's end -/
noncomputable def push (n : Nat) (d : D) : M Unit := fun s => match s[n]? with
  | some (.lst xs) => if xs.length < sizeLine then some (.ok (), s.set n (.lst (xs ++ [d]))) else none
  | _ => none
/-- the calls: a def's number, the arguments -/
noncomputable abbrev Fn := Nat → List D → M D
noncomputable def evBi (calm : Bool) (b : Bi) (xs : List D) : M D := match b, xs with
  | .len, [d] => do return .int (← lenOf d)
  | .abs, [.int i] => M.ret (.int (if i < 0 then -i else i))
  | .max, [.int i, .int j] => if calm = true then M.ret (.int (if j > i then j else i)) else M.no
  | .min, [.int i, .int j] => if calm = true then M.ret (.int (if j < i then j else i)) else M.no
  | .int, [.int i] => M.ret (.int i)
  | .int, [.bl k] => M.ret (.int (if k then 1 else 0))
  | .divmod, [.int i, .int j] => if 0 < j ∧ j < 1073741824 then M.ret (.tup [.int (i / j), .int (i % j)]) else M.no
  | .all, [d] => do
    let xs ← listOf d
    let bs ← M.opt (allBl xs)
    return .bl (bs.all id)
  | _, _ => M.no

section
variable (sub : Nat → Nat → Bool) (calm : Bool) (F : Fn)
mutual
noncomputable def ev : E → Vs → M D
  | .c d, _ => M.ret d
  | .v i, τ => M.opt (τ[i]?.join)
  | .bin op a b, τ => do
    let x ← ev a τ
    let y ← ev b τ
    evOp op x y
  | .cmp op a b, τ => do
    let x ← ev a τ
    let y ← ev b τ
    return .bl (← M.opt (evCmp op x y))
  | .ch2 o1 o2 a b c, τ => do
    let x ← ev a τ
    let y ← ev b τ
    if ← M.opt (evCmp o1 x y) then
      let z ← ev c τ
      return .bl (← M.opt (evCmp o2 y z))
    else return .bl false
  | .ch3 o1 o2 o3 a b c d, τ => do
    let x ← ev a τ
    let y ← ev b τ
    if ← M.opt (evCmp o1 x y) then
      let z ← ev c τ
      if ← M.opt (evCmp o2 y z) then
        let w ← ev d τ
        return .bl (← M.opt (evCmp o3 z w))
      else return .bl false
    else return .bl false
  | .isN neg a, τ => do
    let x ← ev a τ
    return .bl (match x with | .non => !neg | _ => neg)
  | .and a b, τ => do
    let x ← ev a τ
    if ← boolOf x then ev b τ else return .bl false
  | .or a b, τ => do
    let x ← ev a τ
    if ← boolOf x then return .bl true else ev b τ
  | .not a, τ => do
    let x ← ev a τ
    return .bl (!(← boolOf x))
  | .ite c a b, τ => do
    let x ← ev c τ
    if ← boolOf x then ev a τ else ev b τ
  | .tup xs, τ => do return .tup (← evs xs τ)
  | .lst xs, τ => do newL (.lst (← evs xs τ))
  | .dct1 k i, _ => newL (.dct [(k, .int i)])
  | .call f xs, τ => do
    let ds ← evs xs τ
    F f ds
  | .bi b xs, τ => do
    let ds ← evs xs τ
    evBi calm b ds
  | .isi a k, τ => do
    let x ← ev a τ
    return .bl (← isiOf sub x k)
  | .ix a i, τ => do
    let x ← ev a τ
    let y ← ev i τ
    evIx x (← intOf y)
  | .sl a lo hi, τ => do
    let x ← ev a τ
    let l ← evo lo τ
    let h ← evo hi τ
    evSl x l h
  | .meth m o xs, τ => do
    let x ← ev o τ
    let _ ← listOf x
    let ds ← evs xs τ
    evMt m x ds
  | .comp elt it fr cond, τ => M.bd (ev it τ) fun x => M.bd (lenOf x) fun n => if calm = true then fun s =>
      M.bd (walk x (fun d => M.bd (M.qt (evc cond (some d :: fr.map fun j => τ[j]?.join))) fun ok =>
        if ok = true then M.bd (M.qt (ev elt (some d :: fr.map fun j => τ[j]?.join))) fun y => push s.length y else M.ret ()) (n + 1) 0) (fun _ => M.ret (.loc s.length)) (s ++ [.lst []])
    else M.no
noncomputable def evc : Eo → Vs → M Bool
  | .no, _ => M.ret true
  | .yes a, τ => do boolOf (← ev a τ)
noncomputable def evs : Es → Vs → M (List D)
  | .nil, _ => M.ret []
  | .cons a r, τ => do
    let x ← ev a τ
    let xs ← evs r τ
    return x :: xs
noncomputable def evo : Eo → Vs → M (Option Int)
  | .no, _ => M.ret none
  | .yes a, τ => do return some (← intOf (← ev a τ))
end
end
/-- a statement's end -/
inductive Out where
  | nx (τ : Vs) | rt (d : D) | bk (τ : Vs) | ct (τ : Vs) | er (c : Nat) (τ : Vs)
noncomputable abbrev MS := S → Option (Out × S)
noncomputable def ofM {α : Type} (m : M α) (τ : Vs) (k : α → MS) : MS := fun s => match m s with
  | some (.ok a, s') => k a s'
  | some (.er c, s') => some (.er c τ, s')
  | none => none
noncomputable def thenS (m : MS) (k : Vs → MS) : MS := fun s => match m s with
  | some (.nx τ, s') => k τ s'
  | r => r
noncomputable def setAll : List Nat → List D → Vs → Option Vs
  | [], [], τ => some τ
  | i :: is, d :: ds, τ => setAll is ds (τ.set i (some d))
  | _, _, _ => none
noncomputable def tupOf : D → Option (List D)
  | .tup xs => some xs
  | _ => none
section
variable (sub : Nat → Nat → Bool)
noncomputable def store (calm : Bool) (F : Fn) (t : Tg) (d : D) (τ : Vs) : MS := match t with
  | .nm i => fun s => some (.nx (τ.set i (some d)), s)
  | .tp is => if calm = true then ofM (M.opt ((tupOf d).bind fun ds => setAll is ds τ)) τ (fun τ' s => some (.nx τ', s)) else fun _ => none
  | .sub o i => ofM (do
      let x ← ev sub calm F o τ
      let y ← intOf (← ev sub calm F i τ)
      let xs ← listOf x
      match x, L2.ixN xs.length y with
      | .loc n, some j => putL n (.lst (xs.set j d))
      | _, _ => M.no) τ (fun _ s => some (.nx τ, s))
/-- a while, by fuel -/
noncomputable def whileS (c : Vs → M Bool) (b : Vs → MS) : Nat → Vs → MS
  | 0, _ => fun _ => none
  | k + 1, τ => ofM (c τ) τ fun ok => if ok = true then fun s => match b τ s with
      | some (.nx τ', s') => whileS c b k τ' s'
      | some (.ct τ', s') => whileS c b k τ' s'
      | some (.bk τ', s') => some (.nx τ', s')
      | r => r
    else fun s => some (.nx τ, s)
/-- a for: it tells the i-th thing -/
noncomputable def forS (it : Nat → S → Option (Option D)) (b : D → Vs → MS) : Nat → Nat → Vs → MS
  | 0, _, _ => fun _ => none
  | k + 1, i, τ => fun s => match it i s with
    | none => none
    | some none => some (.nx τ, s)
    | some (some d) => match b d τ s with
      | some (.nx τ', s') => forS it b k (i + 1) τ' s'
      | some (.ct τ', s') => forS it b k (i + 1) τ' s'
      | some (.bk τ', s') => some (.nx τ', s')
      | r => r
noncomputable def rgAt (n : Nat) (i : Nat) (_ : S) : Option (Option D) := some (if i < n then some (.int (0 + (i : Int))) else none)
/-- behind an except suite its name goes -/
noncomputable def goes (i : Nat) : Out → Out
  | .nx τ => .nx (τ.set i none)
  | .bk τ => .bk (τ.set i none)
  | .ct τ => .ct (τ.set i none)
  | r => r
mutual
noncomputable def ex (calm : Bool) (F : Bool → Fn) : St → Vs → MS
  | .pass, τ => fun s => some (.nx τ, s)
  | .ex e, τ => ofM (ev sub calm (F calm) e τ) τ fun _ s => some (.nx τ, s)
  | .asg t e, τ => ofM (ev sub calm (F calm) e τ) τ fun d => store sub calm (F calm) t d τ
  | .par i j a b, τ => if calm = true then ofM (do
      let x ← ev sub calm (F calm) a τ
      let y ← ev sub calm (F calm) b τ
      return (x, y)) τ fun xy s => some (.nx ((τ.set i (some xy.1)).set j (some xy.2)), s) else fun _ => none
  | .ret e, τ => ofM (ev sub calm (F calm) e τ) τ fun d s => some (.rt d, s)
  | .rise c xs, τ => if calm = true then ofM (evs sub calm (F calm) xs τ) τ fun _ s => some (.er c τ, s) else fun _ => none
  | .iff c t e, τ => ofM (do boolOf (← ev sub calm (F calm) c τ)) τ fun b => if b = true then exs calm F t τ else exs calm F e τ
  | .wh c b, τ => whileS (fun τ => do boolOf (← ev sub calm (F calm) c τ)) (fun τ => exs calm F b τ) 1000 τ
  | .fr t (.seq e) b, τ => if calm = true then ofM (do
      let x ← ev sub calm (F calm) e τ
      return (x, ← lenOf x)) τ fun xn => forS (itemAt xn.1) (fun d τ => thenS (store sub calm (F calm) t d τ) fun τ' => exs calm F b τ') (xn.2 + 1) 0 τ else fun _ => none
  | .fr t (.rg e) b, τ => if calm = true then ofM (do
      let i ← intOf (← ev sub calm (F calm) e τ)
      if -(2 ^ 62) < i ∧ i < 2 ^ 62 then return i else M.no) τ fun i => forS (rgAt i.toNat) (fun d τ => thenS (store sub calm (F calm) t d τ) fun τ' => exs calm F b τ') (i.toNat + 1) 0 τ else fun _ => none
  | .tryc b d i h, τ => if calm = true then fun s => match exs calm F b τ s with
      | some (.er c τ', s') => if sub c d = true then (match exs false F h (τ'.set i (some (.exc c))) s' with
        | some (r, s'') => (match r with
          | .er _ _ => none
          | r => some (goes i r, s''))
        | none => none) else none
      | r => r
    else fun _ => none
noncomputable def exs (calm : Bool) (F : Bool → Fn) : Sts → Vs → MS
  | .nil, τ => fun s => some (.nx τ, s)
  | .cons a r, τ => thenS (ex calm F a τ) fun τ' => exs calm F r τ'
end
/-- a def: how many names, its parameters, its rows -/
structure Df where
  many : Nat
  pars : Nat
  body : Sts
/-- the calls, k deep -/
noncomputable def call (T : Nat → Option Df) : Nat → Bool → Fn
  | 0, _, _, _ => M.no
  | k + 1, calm, f, ds => match T f with
    | none => M.no
    | some d => if ds.length = d.pars then fun s => match exs sub calm (fun c => call T k c) d.body (ds.map some ++ List.replicate (d.many - d.pars) none) s with
        | some (.nx _, s') => some (.ok .non, s')
        | some (.rt v, s') => some (.ok v, s')
        | some (.er c _, s') => some (.er c, s')
        | _ => none
      else M.no
end
end It


set_option Elab.async false
set_option linter.all false
set_option maxRecDepth 100000
set_option maxHeartbeats 4000000
/-! THE MIRROR AND THE HEAP: what stands for what. -/
namespace It
open PySem L2

section
variable (K : PySem.W.Frag) (cA : Nat → Addr)
mutual
inductive Rep (φ : List Addr) (H : Hp) : D → V → Prop where
  | non : Rep φ H .non .non
  | bl (b : Bool) : Rep φ H (.bl b) (.bl b)
  | int (i : Int) : Rep φ H (.int i) (.int i)
  | str (x : Str) : Rep φ H (.str x) (.str x)
  | tup {a : Addr} {xs : List D} {vs : List V} (h : SqT K H a vs) (r : Reps φ H xs vs) : Rep φ H (.tup xs) (.ref a)
  | loc {n : Nat} {a : Addr} (h : φ[n]? = some a) : Rep φ H (.loc n) (.ref a)
  | exc {c : Nat} {a : Addr} (h : H a = some (excO a (cA c) none)) : Rep φ H (.exc c) (.ref a)
inductive Reps (φ : List Addr) (H : Hp) : List D → List V → Prop where
  | nil : Reps φ H [] []
  | cons {d : D} {v : V} {ds : List D} {vs : List V} (h : Rep φ H d v) (r : Reps φ H ds vs) : Reps φ H (d :: ds) (v :: vs)
end
/-- the script's list: frozen, or the module's own -/
noncomputable def RoL (H : Hp) (a : Addr) (vs : List V) : Prop := (∃ o, H a = some (.frz o (.lst vs))) ∨
  ∃ (o : Obj) (its : Array Value) (n : Nat), K.lookup a = some o ∧ o.cls = .type "list" ∧ o.dict = none ∧ o.data = .seq its n ∧ its.size ≤ sizeLine ∧ Vals vs its.toList
noncomputable def ObR (φ : List Addr) (H : Hp) (a : Addr) : SO → Prop
  | .lst xs => ∃ vs, H a = some (.lst vs) ∧ Reps K cA φ H xs vs
  | .ro xs => ∃ vs, RoL K H a vs ∧ Reps K cA φ H xs vs
  | .dct _ => ∃ kvs, H a = some (.dK kvs)
structure RepS (φ : List Addr) (H : Hp) (s : S) : Prop where
  len : φ.length = s.length
  obj : ∀ (n : Nat) o a, s[n]? = some o → φ[n]? = some a → ObR K cA φ H a o
  uniq : ∀ (m n : Nat) a xs ys, s[m]? = some (.lst xs) → s[n]? = some (.lst ys) → φ[m]? = some a → φ[n]? = some a → m = n
structure Ext (φ : List Addr) (H : Hp) (φ' : List Addr) (H' : Hp) : Prop where
  more : ∃ r, φ' = φ ++ r
  tup : ∀ a xs, H a = some (.tup xs) → H' a = some (.tup xs)
  frz : ∀ a o u, H a = some (.frz o u) → H' a = some (.frz o u)
  exc : ∀ a c, H a = some (excO a (cA c) none) → H' a = some (excO a (cA c) none)
noncomputable def RepL (φ : List Addr) (H : Hp) (σ : L2.St) (τ : Vs) : Prop := σ.length = τ.length ∧ ∀ (i : Nat) (d : D), τ[i]? = some (some d) → ∃ v, σ[i]? = some (some v) ∧ Rep K cA φ H d v
end

section
variable {K : PySem.W.Frag} {cA : Nat → Addr} {φ φ' φ'' : List Addr} {H H' H'' : Hp} {s : S} {σ : L2.St} {τ : Vs}
theorem Ext.refl : Ext cA φ H φ H := ⟨⟨[], by simp⟩, fun _ _ h => h, fun _ _ _ h => h, fun _ _ h => h⟩
theorem Ext.trans (x : Ext cA φ H φ' H') (y : Ext cA φ' H' φ'' H'') : Ext cA φ H φ'' H'' := by
  obtain ⟨⟨r, e⟩, a, b, c⟩ := x
  obtain ⟨⟨r', e'⟩, a', b', c'⟩ := y
  exact ⟨⟨r ++ r', by rw [e', e, List.append_assoc]⟩, fun p xs h => a' p xs (a p xs h), fun p o u h => b' p o u (b p o u h), fun p q h => c' p q (c p q h)⟩
theorem Ext.get (x : Ext cA φ H φ' H') {n : Nat} {a : Addr} (h : φ[n]? = some a) : φ'[n]? = some a := by
  obtain ⟨r, e⟩ := x.more
  rw [e, List.getElem?_append_left (List.getElem?_eq_some_iff.mp h).1]
  exact h
theorem Ext.sqT (x : Ext cA φ H φ' H') {a : Addr} {vs : List V} (h : SqT K H a vs) : SqT K H' a vs := by
  rcases h with (h | ⟨o, h⟩) | h
  · exact .inl (.inl (x.tup _ _ h))
  · exact .inl (.inr ⟨o, x.frz _ _ _ h⟩)
  · exact .inr h
mutual
theorem Rep.mono (x : Ext cA φ H φ' H') : ∀ {d : D} {v : V}, Rep K cA φ H d v → Rep K cA φ' H' d v
  | _, _, .non => .non
  | _, _, .bl b => .bl b
  | _, _, .int i => .int i
  | _, _, .str z => .str z
  | _, _, .tup h r => .tup (x.sqT h) (Reps.mono x r)
  | _, _, .loc h => .loc (x.get h)
  | _, _, .exc h => .exc (x.exc _ _ h)
theorem Reps.mono (x : Ext cA φ H φ' H') : ∀ {ds : List D} {vs : List V}, Reps K cA φ H ds vs → Reps K cA φ' H' ds vs
  | _, _, .nil => .nil
  | _, _, .cons h r => .cons (Rep.mono x h) (Reps.mono x r)
end
theorem RepL.mono (x : Ext cA φ H φ' H') (h : RepL K cA φ H σ τ) : RepL K cA φ' H' σ τ := ⟨h.1, fun i d e => let ⟨v, a, b⟩ := h.2 i d e; ⟨v, a, b.mono x⟩⟩
theorem Reps.len : ∀ {ds : List D} {vs : List V}, Reps K cA φ H ds vs → ds.length = vs.length
  | _, _, .nil => rfl
  | _, _, .cons _ r => by rw [List.length_cons, List.length_cons, Reps.len r]
theorem Reps.get : ∀ {ds : List D} {vs : List V} {i : Nat} {d : D}, Reps K cA φ H ds vs → ds[i]? = some d → ∃ v, vs[i]? = some v ∧ Rep K cA φ H d v
  | _, _, _, _, .nil, e => by simp at e
  | _, _, 0, _, .cons h _, e => by simp at e; subst e; exact ⟨_, rfl, h⟩
  | _, _, i + 1, d, .cons _ r, e => by
    obtain ⟨v, a, b⟩ := Reps.get (i := i) (d := d) r (by simpa using e)
    exact ⟨v, by simpa using a, b⟩
theorem Reps.none : ∀ {ds : List D} {vs : List V} {i : Nat}, Reps K cA φ H ds vs → ds[i]? = none → vs[i]? = none := fun {ds vs i} r e => by
  have := r.len
  have h2 : ds.length ≤ i := List.getElem?_eq_none_iff.mp e
  exact List.getElem?_eq_none_iff.mpr (by omega)
theorem Reps.app : ∀ {ds es : List D} {vs us : List V}, Reps K cA φ H ds vs → Reps K cA φ H es us → Reps K cA φ H (ds ++ es) (vs ++ us)
  | _, _, _, _, .nil, s => s
  | _, _, _, _, .cons h r, s => .cons h (Reps.app r s)
theorem Reps.take : ∀ {ds : List D} {vs : List V} (n : Nat), Reps K cA φ H ds vs → Reps K cA φ H (ds.take n) (vs.take n)
  | _, _, 0, _ => by simp; exact .nil
  | _, _, n + 1, .nil => by simp; exact .nil
  | _, _, n + 1, .cons h r => by simp only [List.take_succ_cons]; exact .cons h (Reps.take n r)
theorem Reps.drop : ∀ {ds : List D} {vs : List V} (n : Nat), Reps K cA φ H ds vs → Reps K cA φ H (ds.drop n) (vs.drop n)
  | _, _, 0, r => r
  | _, _, n + 1, .nil => by simp; exact .nil
  | _, _, n + 1, .cons _ r => by simp only [List.drop_succ_cons]; exact Reps.drop n r
theorem Reps.set {d : D} {v : V} (h : Rep K cA φ H d v) : ∀ {ds : List D} {vs : List V} (i : Nat), Reps K cA φ H ds vs → Reps K cA φ H (ds.set i d) (vs.set i v)
  | _, _, _, .nil => .nil
  | _, _, 0, .cons _ r => .cons h r
  | _, _, i + 1, .cons q r => .cons q (Reps.set h i r)

/-! ### the heap grows, a list is written -/
theorem Ext.new {p : Addr} {o : HO} (hp : H p = none) : Ext cA φ H φ (upd H p o) :=
  ⟨⟨[], by simp⟩, fun a xs h => by rw [upd_ne (ne_of_none h hp)]; exact h, fun a u w h => by rw [upd_ne (ne_of_none h hp)]; exact h, fun a c h => by rw [upd_ne (ne_of_none h hp)]; exact h⟩
theorem Ext.newL {p : Addr} {o : HO} (hp : H p = none) : Ext cA φ H (φ ++ [p]) (upd H p o) :=
  ⟨⟨[p], rfl⟩, (Ext.new (cA := cA) (φ := φ) hp).tup, (Ext.new (cA := cA) (φ := φ) hp).frz, (Ext.new (cA := cA) (φ := φ) hp).exc⟩
theorem Ext.write {p : Addr} {xs ys : List V} (hp : H p = some (.lst xs)) : Ext cA φ H φ (upd H p (.lst ys)) :=
  ⟨⟨[], by simp⟩, fun a zs h => by rw [upd_ne (ne_of h hp (by intro z; cases z))]; exact h, fun a u w h => by rw [upd_ne (ne_of h hp (by intro z; cases z))]; exact h, fun a c h => by rw [upd_ne (ne_of h hp (by intro z; cases z))]; exact h⟩
theorem ObR.mono {a : Addr} {o : SO} (x : Ext cA φ H φ' H') (hl : ∀ xs, o = .lst xs → ∀ vs, H a = some (.lst vs) → H' a = some (.lst vs)) (hd : ∀ vs, H a = some (.dK vs) → H' a = some (.dK vs)) (h : ObR K cA φ H a o) : ObR K cA φ' H' a o := by
  cases o with
  | lst xs => obtain ⟨vs, a, b⟩ := h; exact ⟨vs, hl xs rfl vs a, b.mono x⟩
  | ro xs =>
    obtain ⟨vs, a, b⟩ := h
    refine ⟨vs, ?_, b.mono x⟩
    rcases a with ⟨o, a⟩ | a
    · exact .inl ⟨o, x.frz _ _ _ a⟩
    · exact .inr a
  | dct kvs => obtain ⟨vs, a⟩ := h; exact ⟨vs, hd vs a⟩
theorem RepS.new {p : Addr} {o : HO} (h : RepS K cA φ H s) (hp : H p = none) : RepS K cA φ (upd H p o) s :=
  ⟨h.len, fun n u a e1 e2 => (h.obj n u a e1 e2).mono (Ext.new hp) (fun _ _ vs z => by rw [upd_ne (ne_of_none z hp)]; exact z) (fun vs z => by rw [upd_ne (ne_of_none z hp)]; exact z), h.uniq⟩
theorem RepS.newL {p : Addr} {xs : List D} {vs : List V} (h : RepS K cA φ H s) (hp : H p = none) (r : Reps K cA φ H xs vs) : RepS K cA (φ ++ [p]) (upd H p (.lst vs)) (s ++ [.lst xs]) := by
  have key : ∀ (n : Nat) o a, (s ++ [SO.lst xs])[n]? = some o → (φ ++ [p])[n]? = some a → (s[n]? = some o ∧ φ[n]? = some a) ∨ (n = s.length ∧ o = .lst xs ∧ a = p) := fun n o a e1 e2 => by
    by_cases hn : n < s.length
    · rw [List.getElem?_append_left hn] at e1
      rw [List.getElem?_append_left (by rw [h.len]; exact hn)] at e2
      exact .inl ⟨e1, e2⟩
    · have hl : n = s.length := by
        have z := (List.getElem?_eq_some_iff.mp e1).1
        rw [List.length_append] at z
        simp at z
        omega
      subst hl
      rw [List.getElem?_append_right (Nat.le_refl _)] at e1
      rw [List.getElem?_append_right (by rw [h.len]; exact Nat.le_refl _)] at e2
      simp at e1
      simp [h.len] at e2
      exact .inr ⟨rfl, e1.symm, e2.symm⟩
  refine ⟨by rw [List.length_append, List.length_append, h.len]; rfl, fun n o a e1 e2 => ?_, fun m n a ys zs e1 e2 e3 e4 => ?_⟩
  · rcases key n o a e1 e2 with ⟨e1, e2⟩ | ⟨_, rfl, rfl⟩
    · exact (h.obj n o a e1 e2).mono (Ext.newL hp) (fun _ _ vs z => by rw [upd_ne (ne_of_none z hp)]; exact z) (fun vs z => by rw [upd_ne (ne_of_none z hp)]; exact z)
    · exact ⟨vs, upd_same, r.mono (Ext.newL hp)⟩
  · have ht : ∀ (n : Nat) ys, s[n]? = some (.lst ys) → φ[n]? = some a → H a ≠ none := fun n ys e1 e2 => by
      obtain ⟨vs, z, _⟩ := h.obj n _ a e1 e2
      rw [z]; simp
    rcases key m _ a e1 e3 with ⟨q1, q3⟩ | ⟨q1, _, q3⟩
    · rcases key n _ a e2 e4 with ⟨q2, q4⟩ | ⟨q2, _, q4⟩
      · exact h.uniq m n a ys zs q1 q2 q3 q4
      · exact absurd (q4 ▸ hp) (ht m ys q1 q3)
    · rcases key n _ a e2 e4 with ⟨q2, q4⟩ | ⟨q2, _, q4⟩
      · exact absurd (q3 ▸ hp) (ht n zs q2 q4)
      · rw [q1, q2]
theorem RepS.newD {p : Addr} {kvs : List (Str × D)} {w : List (Key × V)} (h : RepS K cA φ H s) (hp : H p = none) : RepS K cA (φ ++ [p]) (upd H p (.dK w)) (s ++ [.dct kvs]) := by
  have key : ∀ (n : Nat) o a, (s ++ [SO.dct kvs])[n]? = some o → (φ ++ [p])[n]? = some a → (s[n]? = some o ∧ φ[n]? = some a) ∨ (n = s.length ∧ o = .dct kvs ∧ a = p) := fun n o a e1 e2 => by
    by_cases hn : n < s.length
    · rw [List.getElem?_append_left hn] at e1
      rw [List.getElem?_append_left (by rw [h.len]; exact hn)] at e2
      exact .inl ⟨e1, e2⟩
    · have hl : n = s.length := by
        have z := (List.getElem?_eq_some_iff.mp e1).1
        rw [List.length_append] at z
        simp at z
        omega
      subst hl
      rw [List.getElem?_append_right (Nat.le_refl _)] at e1
      rw [List.getElem?_append_right (by rw [h.len]; exact Nat.le_refl _)] at e2
      simp at e1
      simp [h.len] at e2
      exact .inr ⟨rfl, e1.symm, e2.symm⟩
  refine ⟨by rw [List.length_append, List.length_append, h.len]; rfl, fun n o a e1 e2 => ?_, fun m n a ys zs e1 e2 e3 e4 => ?_⟩
  · rcases key n o a e1 e2 with ⟨e1, e2⟩ | ⟨_, rfl, rfl⟩
    · exact (h.obj n o a e1 e2).mono (Ext.newL hp) (fun _ _ vs z => by rw [upd_ne (ne_of_none z hp)]; exact z) (fun vs z => by rw [upd_ne (ne_of_none z hp)]; exact z)
    · exact ⟨w, upd_same⟩
  · rcases key m _ a e1 e3 with ⟨q1, q3⟩ | ⟨_, q, _⟩
    · rcases key n _ a e2 e4 with ⟨q2, q4⟩ | ⟨_, q, _⟩
      · exact h.uniq m n a ys zs q1 q2 q3 q4
      · cases q
    · cases q
theorem RepS.write {n : Nat} {p : Addr} {xs ys : List D} {vs us : List V} (h : RepS K cA φ H s) (hn : s[n]? = some (.lst xs)) (hp : φ[n]? = some p) (hv : H p = some (.lst vs)) (r : Reps K cA φ H ys us) : RepS K cA φ (upd H p (.lst us)) (s.set n (.lst ys)) := by
  refine ⟨by rw [List.length_set]; exact h.len, fun m o a e1 e2 => ?_, fun m k a zs ws e1 e2 e3 e4 => ?_⟩
  · by_cases hm : n = m
    · subst hm
      rw [List.getElem?_set_self (List.getElem?_eq_some_iff.mp hn).1] at e1
      cases e1
      rw [hp] at e2
      cases e2
      exact ⟨us, upd_same, r.mono (Ext.write hv)⟩
    · rw [List.getElem?_set_ne hm] at e1
      refine (h.obj m o a e1 e2).mono (Ext.write hv) (fun zs eo vs' z => ?_) (fun vs' z => by rw [upd_ne (ne_of z hv (by intro y; cases y))]; exact z)
      subst eo
      have ne : a ≠ p := fun y => hm ((h.uniq m n a zs xs e1 hn e2 (y ▸ hp)).symm)
      rw [upd_ne ne]; exact z
  · have up : ∀ (m : Nat) zs, (s.set n (SO.lst ys))[m]? = some (.lst zs) → ∃ zs', s[m]? = some (.lst zs') := fun m zs e => by
      by_cases hm : n = m
      · subst hm; exact ⟨xs, hn⟩
      · rw [List.getElem?_set_ne hm] at e; exact ⟨zs, e⟩
    obtain ⟨z1, q1⟩ := up m zs e1
    obtain ⟨z2, q2⟩ := up k ws e2
    exact h.uniq m k a z1 z2 q1 q2 e3 e4
end
end It


set_option Elab.async false
set_option linter.all false
set_option maxRecDepth 100000
set_option maxHeartbeats 4000000
/-! THE MIRROR IS SOUND, 1: expressions. -/
namespace It
theorem un {α β γ : Type} {A B C : α → β → γ → Prop} {R : Prop} (h : ∃ a b c, A a b c ∧ B a b c ∧ C a b c) (f : ∀ a b c, A a b c → B a b c → C a b c → R) : R := by
  obtain ⟨a, b, c, x, y, z⟩ := h
  exact f a b c x y z
open PySem PySem.Spec PyProof.Rows L2

section
variable (K : PySem.W.Frag) (cA : Nat → Addr)
noncomputable def Run {α : Type} (m : M α) (φ : List Addr) (H : Hp) (s : S) (P : α → S → List Addr → Hp → Prop) (Ee : Nat → S → List Addr → Hp → Prop) : Prop :=
  match m s with
  | some (.ok a, s') => ∀ φ' H', Ext cA φ H φ' H' → RepS K cA φ' H' s' → P a s' φ' H'
  | some (.er c, s') => ∀ φ' H', Ext cA φ H φ' H' → RepS K cA φ' H' s' → Ee c s' φ' H'
  | none => False
/-- an exception's wish, in the mirror's words -/
noncomputable def eX (EX : XS) (σ : L2.St) : Nat → S → List Addr → Hp → Prop := fun c _ _ H' => EX σ (.ref (cA c)) none H'
noncomputable def tE (EX : XS) (m : Vs → M D) : TE := fun σ H Q => ∃ φ τ s, RepL K cA φ H σ τ ∧ RepS K cA φ H s ∧ Run K cA (m τ) φ H s (fun d _ φ' H' => ∀ v, Rep K cA φ' H' d v → Q v H') (eX cA EX σ)
noncomputable def tAs (EX : XS) (m : Vs → M (List D)) : TA := fun σ H Q => ∃ φ τ s, RepL K cA φ H σ τ ∧ RepS K cA φ H s ∧ Run K cA (m τ) φ H s (fun d _ φ' H' => ∀ v, Reps K cA φ' H' d v → Q v H') (eX cA EX σ)
noncomputable def tTs (EX : XS) (m : Vs → M Bool) : TT := fun σ H Q => ∃ φ τ s, RepL K cA φ H σ τ ∧ RepS K cA φ H s ∧ Run K cA (m τ) φ H s (fun d _ φ' H' => Q d H') (eX cA EX σ)
end
section
variable {K : PySem.W.Frag} {cA : Nat → Addr} {φ : List Addr} {H : Hp} {s : S} {σ : L2.St} {τ : Vs} {EX : XS}
theorem Run.bd {α β : Type} {m : M α} {k : α → M β} {P : β → S → List Addr → Hp → Prop} {Ee : Nat → S → List Addr → Hp → Prop} (h : Run K cA (M.bd m k) φ H s P Ee) : Run K cA m φ H s (fun a s1 φ1 H1 => Ext cA φ H φ1 H1 ∧ RepS K cA φ1 H1 s1 ∧ Run K cA (k a) φ1 H1 s1 P Ee) Ee := by
  unfold Run M.bd at *
  cases e : m s with
  | none => rw [e] at h; exact h
  | some r =>
    obtain ⟨r, s1⟩ := r
    rw [e] at h
    cases r with
    | er c => exact h
    | ok a =>
      intro φ1 H1 x1 r1
      refine ⟨x1, r1, ?_⟩
      dsimp only at h ⊢
      cases e2 : k a s1 with
      | none => rw [e2] at h; exact h
      | some q =>
        obtain ⟨q, s2⟩ := q
        rw [e2] at h
        cases q with
        | ok b => exact fun φ2 H2 x2 r2 => h φ2 H2 (x1.trans x2) r2
        | er c => exact fun φ2 H2 x2 r2 => h φ2 H2 (x1.trans x2) r2
theorem Run.imp {α : Type} {m : M α} {P P' : α → S → List Addr → Hp → Prop} {Ee : Nat → S → List Addr → Hp → Prop} (h : Run K cA m φ H s P Ee) (f : ∀ a s' φ' H', P a s' φ' H' → P' a s' φ' H') : Run K cA m φ H s P' Ee := by
  unfold Run at *
  split at h
  · exact fun φ' H' x r => f _ _ _ _ (h φ' H' x r)
  · exact h
  · exact h
/-- a step that reads alone -/
theorem Run.pure_ {α : Type} {a : α} {P : α → S → List Addr → Hp → Prop} {Ee : Nat → S → List Addr → Hp → Prop} (r : RepS K cA φ H s) (h : Run K cA (M.ret a) φ H s P Ee) : P a s φ H := h φ H Ext.refl r
theorem Run.opt {α : Type} {o : Option α} {P : α → S → List Addr → Hp → Prop} {Ee : Nat → S → List Addr → Hp → Prop} (r : RepS K cA φ H s) (h : Run K cA (M.opt o) φ H s P Ee) : ∃ a, o = some a ∧ P a s φ H := by
  cases o with
  | none => exact h.elim
  | some a => exact ⟨a, rfl, h φ H Ext.refl r⟩
theorem Run.opt2 {α β : Type} {o : Option α} {k : α → M β} {P : β → S → List Addr → Hp → Prop} {Ee : Nat → S → List Addr → Hp → Prop} (r : RepS K cA φ H s) (h : Run K cA (M.bd (M.opt o) k) φ H s P Ee) : ∃ a, o = some a ∧ Run K cA (k a) φ H s P Ee := by
  cases o with
  | none => exact h.elim
  | some a => exact ⟨a, rfl, h⟩

theorem useE {β : Type} {ma : Vs → M D} {k : D → M β} {P : β → S → List Addr → Hp → Prop} (hL : RepL K cA φ H σ τ) (hS : RepS K cA φ H s) (h : Run K cA (M.bd (ma τ) k) φ H s P (eX cA EX σ)) {Q : VK}
    (f : ∀ x H1 φ1 d s1, Ext cA φ H φ1 H1 → RepL K cA φ1 H1 σ τ → RepS K cA φ1 H1 s1 → Rep K cA φ1 H1 d x → Run K cA (k d) φ1 H1 s1 P (eX cA EX σ) → Q x H1) : tE K cA EX ma σ H Q :=
  ⟨φ, τ, s, hL, hS, h.bd.imp fun d s1 φ1 H1 ⟨x1, r1, h1⟩ v rv => f v H1 φ1 d s1 x1 (hL.mono x1) r1 rv h1⟩
theorem useA {β : Type} {ma : Vs → M (List D)} {k : List D → M β} {P : β → S → List Addr → Hp → Prop} (hL : RepL K cA φ H σ τ) (hS : RepS K cA φ H s) (h : Run K cA (M.bd (ma τ) k) φ H s P (eX cA EX σ)) {Q : List V → Hp → Prop}
    (f : ∀ x H1 φ1 d s1, Ext cA φ H φ1 H1 → RepL K cA φ1 H1 σ τ → RepS K cA φ1 H1 s1 → Reps K cA φ1 H1 d x → Run K cA (k d) φ1 H1 s1 P (eX cA EX σ) → Q x H1) : tAs K cA EX ma σ H Q :=
  ⟨φ, τ, s, hL, hS, h.bd.imp fun d s1 φ1 H1 ⟨x1, r1, h1⟩ v rv => f v H1 φ1 d s1 x1 (hL.mono x1) r1 rv h1⟩
theorem useT {β : Type} {ma : Vs → M Bool} {k : Bool → M β} {P : β → S → List Addr → Hp → Prop} (hL : RepL K cA φ H σ τ) (hS : RepS K cA φ H s) (h : Run K cA (M.bd (ma τ) k) φ H s P (eX cA EX σ)) {Q : Bool → Hp → Prop}
    (f : ∀ b H1 φ1 s1, Ext cA φ H φ1 H1 → RepL K cA φ1 H1 σ τ → RepS K cA φ1 H1 s1 → Run K cA (k b) φ1 H1 s1 P (eX cA EX σ) → Q b H1) : tTs K cA EX ma σ H Q :=
  ⟨φ, τ, s, hL, hS, h.bd.imp fun d s1 φ1 H1 ⟨x1, r1, h1⟩ => f d H1 φ1 s1 x1 (hL.mono x1) r1 h1⟩
end

/-! ### the judgement: e of the text is E in the mirror -/
section
variable (X : Cx) (cA : Nat → Addr) (sub : Nat → Nat → Bool) (calm : Bool) (F : Fn) (EX : XS)
noncomputable def SE (e : Expr) (m : E) : Prop := PE X e (tE X.K cA EX (ev sub calm F m))
noncomputable def SA (es : List Expr) (m : Es) : Prop := PA X es (tAs X.K cA EX (evs sub calm F m))
noncomputable def ST (e : Expr) (m : E) : Prop := PT X e (tTs X.K cA EX (fun τ => M.bd (ev sub calm F m τ) boolOf))
noncomputable def SW (e : Expr) (m : E) : Prop := PW X e (tTs X.K cA EX (fun τ => M.bd (ev sub calm F m τ) boolOf))
end
section
variable {X : Cx} {cA : Nat → Addr} {sub : Nat → Nat → Bool} {calm : Bool} {F : Fn} {EX : XS} {a b c d e : Expr} {A B C Dd E' : E} {pos : Pos} {es : List Expr} {Xs : Es}
theorem PE.weak {t t' : TE} (h : PE X e t) (f : ∀ σ H Q, t' σ H Q → t σ H Q) : PE X e t' := fun pins s σ H Q I q => h pins s σ H Q I (f σ H Q q)
theorem PT.weak {t t' : TT} (h : PT X e t) (f : ∀ σ H Q, t' σ H Q → t σ H Q) : PT X e t' := fun pins s σ H Q I q => h pins s σ H Q I (f σ H Q q)
theorem PW.weak {t t' : TT} (h : PW X e t) (f : ∀ σ H Q, t' σ H Q → t σ H Q) : PW X e t' := fun wh pins s σ H Q I q => h wh pins s σ H Q I (f σ H Q q)
theorem PA.weak {t t' : TA} (h : PA X es t) (f : ∀ σ H Q, t' σ H Q → t σ H Q) : PA X es t' := fun p pins s σ H Q I q => h p pins s σ H Q I (f σ H Q q)

theorem se_int {i j p} : SE X cA sub calm F EX (.Constant (.int i) j p) (.c (.int i)) := PE.weak pe_int fun σ H Q hh => un hh fun φ τ s hL hS h => h.pure_ hS _ (.int i)
theorem se_bl {i j p} : SE X cA sub calm F EX (.Constant (.bool i) j p) (.c (.bl i)) := PE.weak pe_bl fun σ H Q hh => un hh fun φ τ s hL hS h => h.pure_ hS _ (.bl i)
theorem se_non {j p} : SE X cA sub calm F EX (.Constant .none j p) (.c .non) := PE.weak pe_non fun σ H Q hh => un hh fun φ τ s hL hS h => h.pure_ hS _ .non
theorem se_str {i j p} : SE X cA sub calm F EX (.Constant (.str i) j p) (.c (.str i)) := PE.weak pe_str fun σ H Q hh => un hh fun φ τ s hL hS h => h.pure_ hS _ (.str i)
theorem se_v (i : Nat) {x : Str} (hN : X.N[i]? = some x := by rfl) (hv : Vis X.env.scope x := by first | exact Or.inl rfl | exact Or.inr (Or.inl rfl) | exact Or.inr (Or.inr rfl)) (hd : (x == ("__debug__" : Str)) = false := by decide)
    (hcd : (x == ("__classdict__" : Str)) = false := by decide) : SE X cA sub calm F EX (.Name x pos) (.v i) := PE.weak (pe_var hN hv hd hcd) fun σ H Q hh => un hh fun φ τ s hL hS h => by
  obtain ⟨dd, e1, q⟩ := Run.opt hS h
  have e2 : τ[i]? = some (some dd) := by
    cases z : τ[i]? with
    | none => rw [z] at e1; cases e1
    | some o => rw [z] at e1; cases o with
      | none => cases e1
      | some d' => cases e1; rfl
  obtain ⟨v, q1, q2⟩ := hL.2 i dd e2
  exact ⟨v, q1, q v q2⟩
/-- a module's whole number -/
theorem se_gint {x : Str} {i : Int} {t : Tok} (hg : Gl X x) (hm : X.mg x = some (.int i t)) (hd : (x == ("__debug__" : Str)) = false := by decide) : SE X cA sub calm F EX (.Name x pos) (.c (.int i)) := PE.weak (pe_glob (v := .int i) hg hm ⟨t, rfl⟩ hd) fun σ H Q hh => un hh fun φ τ s hL hS h => h.pure_ hS _ (.int i)

theorem Rep.of_int {K : PySem.W.Frag} {φ : List Addr} {H : Hp} {i : Int} {v : V} (h : Rep K cA φ H (.int i) v) : v = .int i := by cases h; rfl
theorem Rep.of_bl {K : PySem.W.Frag} {φ : List Addr} {H : Hp} {i : Bool} {v : V} (h : Rep K cA φ H (.bl i) v) : v = .bl i := by cases h; rfl
theorem isInt_eq {d : D} {i : Int} (h : d.isInt = some i) : d = .int i := by cases d <;> simp [D.isInt] at h; subst h; rfl
theorem isBl_eq {d : D} {i : Bool} (h : d.isBl = some i) : d = .bl i := by cases d <;> simp [D.isBl] at h; subst h; rfl

theorem if_some {α : Type} {c : Prop} [Decidable c] {x y : α} (h : (if c then some x else none) = some y) : c ∧ y = x := by
  split at h
  · rename_i z; cases h; exact ⟨z, rfl⟩
  · cases h
theorem se_bin {op : Operator} {bop : Bop} {r : R2} (ho : OpR X (binaryOp op) r) (hr : ∀ d1 d2 x y φ H s Q Ee, RepS X.K cA φ H s → Rep X.K cA φ H d1 x → Rep X.K cA φ H d2 y → Run X.K cA (evOp bop d1 d2) φ H s (fun d _ φ' H' => ∀ v, Rep X.K cA φ' H' d v → Q v H') Ee → r x y H Q)
    (ha : SE X cA sub calm F EX a A) (hb : SE X cA sub calm F EX b B) : SE X cA sub calm F EX (.BinOp a op b pos) (.bin bop A B) := PE.weak (pe_op ho ha hb) fun σ H Q hh => un hh fun φ τ s hL hS h => by
  refine useE hL hS h fun x H1 φ1 d1 s1 x1 hL1 hS1 r1 h1 => useE hL1 hS1 h1 fun y H2 φ2 d2 s2 x2 hL2 hS2 r2 h2 => ?_
  exact hr d1 d2 x y φ2 H2 s2 Q _ hS2 (r1.mono x2) r2 h2
theorem noOp {bop : Bop} {d1 d2 : D} {s : S} (h : ∀ i j, d1 = .int i → d2 = .int j → False) (h2 : bop = .add → ∀ m n, d1 = .loc m → d2 = .loc n → False) : evOp bop d1 d2 s = none := by
  cases bop <;> cases d1 <;> cases d2 <;> first
    | rfl
    | exact (h _ _ rfl rfl).elim
    | exact (h2 rfl _ _ rfl rfl).elim
/-- an operation of two ints -/
theorem op_ints {bop : Bop} {C : Int → Int → Prop} {g : Int → Int → Int} (hg : ∀ i j k, evBin bop i j = some k → C i j ∧ k = g i j) {d1 d2 : D} {x y : V} {φ : List Addr} {H : Hp} {s : S} {Q : VK} {Ee : Nat → S → List Addr → Hp → Prop} (h2 : bop = .add → ∀ m n, d1 = .loc m → d2 = .loc n → False)
    (hS : RepS X.K cA φ H s) (r1 : Rep X.K cA φ H d1 x) (r2 : Rep X.K cA φ H d2 y) (h : Run X.K cA (evOp bop d1 d2) φ H s (fun d _ φ' H' => ∀ v, Rep X.K cA φ' H' d v → Q v H') Ee) : rI C (fun i j => .int (g i j)) x y H Q := by
  by_cases hi : ∃ i j, d1 = .int i ∧ d2 = .int j
  · obtain ⟨i, j, rfl, rfl⟩ := hi
    have h : Run X.K cA (M.bd (M.opt (evBin bop i j)) fun k => M.ret (D.int k)) φ H s (fun d _ φ' H' => ∀ v, Rep X.K cA φ' H' d v → Q v H') Ee := by cases bop <;> exact h
    obtain ⟨k, e, q⟩ := Run.opt2 hS h
    obtain ⟨c, rfl⟩ := hg i j k e
    exact ⟨i, j, r1.of_int, r2.of_int, c, q.pure_ hS _ (.int _)⟩
  · unfold Run at h
    rw [noOp (fun i j a b => hi ⟨i, j, a, b⟩) h2] at h
    exact h.elim
theorem rI_0 {g : Int → Int → V} {x y : V} {H : Hp} {Q : VK} (h : rI (fun _ _ => True) g x y H Q) : rI0 g x y H Q := let ⟨i, j, a, b, _, q⟩ := h; ⟨i, j, a, b, q⟩
theorem se_sub (ha : SE X cA sub calm F EX a A) (hb : SE X cA sub calm F EX b B) : SE X cA sub calm F EX (.BinOp a .Sub b pos) (.bin .sub A B) := se_bin op_sub (fun d1 d2 x y φ H s Q Ee hS r1 r2 h => rI_0 (op_ints (C := fun _ _ => True) (g := fun i j => i - j) (fun i j k e => by cases e; exact ⟨trivial, rfl⟩) (fun z => by cases z) hS r1 r2 h)) ha hb
theorem se_mul (ha : SE X cA sub calm F EX a A) (hb : SE X cA sub calm F EX b B) : SE X cA sub calm F EX (.BinOp a .Mult b pos) (.bin .mul A B) := se_bin op_mul (fun d1 d2 x y φ H s Q Ee hS r1 r2 h => op_ints (bop := .mul) (g := fun i j => i * j) (fun i j k e => if_some (c := ((-(2 ^ 64) < i ∧ i < 2 ^ 64) ∨ (-(2 ^ 64) < j ∧ j < 2 ^ 64))) e) (fun z => by cases z) hS r1 r2 h) ha hb
theorem se_fdiv (ha : SE X cA sub calm F EX a A) (hb : SE X cA sub calm F EX b B) : SE X cA sub calm F EX (.BinOp a .FloorDiv b pos) (.bin .fdiv A B) := se_bin op_fdiv (fun d1 d2 x y φ H s Q Ee hS r1 r2 h => op_ints (bop := .fdiv) (g := fun i j => i / j) (fun i j k e => if_some (c := (0 < j ∧ j < 1073741824)) e) (fun z => by cases z) hS r1 r2 h) ha hb
theorem se_mod (ha : SE X cA sub calm F EX a A) (hb : SE X cA sub calm F EX b B) : SE X cA sub calm F EX (.BinOp a .Mod b pos) (.bin .mod A B) := se_bin op_mod (fun d1 d2 x y φ H s Q Ee hS r1 r2 h => op_ints (bop := .mod) (g := fun i j => i % j) (fun i j k e => if_some (c := (0 < j)) e) (fun z => by cases z) hS r1 r2 h) ha hb
theorem se_pow (ha : SE X cA sub calm F EX a A) (hb : SE X cA sub calm F EX b B) : SE X cA sub calm F EX (.BinOp a .Pow b pos) (.bin .pow A B) := se_bin op_pow (fun d1 d2 x y φ H s Q Ee hS r1 r2 h => op_ints (bop := .pow) (g := fun i j => i ^ j.toNat) (fun i j k e => if_some (c := (0 ≤ j ∧ j ≤ 1000000 ∧ i.natAbs < 2 ^ 64)) e) (fun z => by cases z) hS r1 r2 h) ha hb
/-- a list of the store -/
theorem list_run {K : PySem.W.Frag} {φ : List Addr} {H : Hp} {s : S} {α : Type} {n : Nat} {k : List D → M α} {v : V} {P : α → S → List Addr → Hp → Prop} {Ee : Nat → S → List Addr → Hp → Prop} (hS : RepS K cA φ H s) (r : Rep K cA φ H (.loc n) v) (h : Run K cA (M.bd (listOf (.loc n)) k) φ H s P Ee) :
    ∃ a xs vs, v = .ref a ∧ s[n]? = some (.lst xs) ∧ φ[n]? = some a ∧ H a = some (.lst vs) ∧ Reps K cA φ H xs vs ∧ Run K cA (k xs) φ H s P Ee := by
  cases r with
  | loc hl =>
    unfold Run M.bd listOf at h
    dsimp only at h
    cases e : s[n]? with
    | none => rw [e] at h; exact h.elim
    | some o =>
      rw [e] at h
      cases o with
      | lst xs =>
        obtain ⟨vs, q1, q2⟩ := hS.obj n _ _ e hl
        exact ⟨_, xs, vs, rfl, rfl, hl, q1, q2, h⟩
      | ro xs => exact h.elim
      | dct xs => exact h.elim
theorem se_add (ha : SE X cA sub calm F EX a A) (hb : SE X cA sub calm F EX b B) : SE X cA sub calm F EX (.BinOp a .Add b pos) (.bin .add A B) := se_bin (op_add.or op_cat) (fun d1 d2 x y φ H s Q Ee hS r1 r2 h => by
  by_cases hi : ∃ m n, d1 = .loc m ∧ d2 = .loc n
  · obtain ⟨m, n, rfl, rfl⟩ := hi
    refine .inr ?_
    obtain ⟨p1, xs, vs, rfl, e1, f1, g1, q1, h⟩ := list_run hS r1 h
    obtain ⟨p2, ys, us, rfl, e2, f2, g2, q2, h⟩ := list_run hS r2 h
    by_cases hz : xs.length + ys.length ≤ sizeLine
    · rw [if_pos hz] at h
      refine ⟨p1, p2, vs, us, rfl, rfl, g1, g2, by rw [← q1.len, ← q2.len]; exact hz, fun p hp => ?_⟩
      exact h (φ ++ [p]) _ (Ext.newL hp) (hS.newL hp (q1.app q2)) _ (.loc (by rw [← hS.len]; simp))
    · rw [if_neg hz] at h
      exact h.elim
  · exact .inl (rI_0 (op_ints (C := fun _ _ => True) (g := fun i j => i + j) (fun i j k e => by cases e; exact ⟨trivial, rfl⟩) (fun _ m n a b => hi ⟨m, n, a, b⟩) hS r1 r2 h))) ha hb

theorem se_not (ha : SE X cA sub calm F EX a A) : SE X cA sub calm F EX (.UnaryOp .Not a pos) (.not A) := PE.weak (pe_not ha) fun σ H Q hh => un hh fun φ τ s hL hS h => by
  refine useE hL hS h fun x H1 φ1 d1 s1 x1 hL1 hS1 r1 h1 => ?_
  obtain ⟨i, e1, h3⟩ := Run.opt2 hS1 h1
  rw [isBl_eq e1] at r1
  exact ⟨i, r1.of_bl, h3.pure_ hS1 _ (.bl _)⟩
theorem se_one {op} (ha : SE X cA sub calm F EX a A) : SE X cA sub calm F EX (.BoolOp op [a] pos) A := pe_one ha
theorem se_and {rest : List Expr} (ha : SE X cA sub calm F EX a A) (hb : SE X cA sub calm F EX (.BoolOp .And (b :: rest) pos) B) : SE X cA sub calm F EX (.BoolOp .And (a :: b :: rest) pos) (.and A B) := PE.weak (pe_and ha hb) fun σ H Q hh => un hh fun φ τ s hL hS h => by
  refine useE hL hS h fun x H1 φ1 d1 s1 x1 hL1 hS1 r1 h1 => ?_
  obtain ⟨i, e1, h3⟩ := Run.opt2 hS1 h1
  rw [isBl_eq e1] at r1
  refine ⟨i, r1.of_bl, ?_⟩
  cases i with
  | true => exact iteT' ⟨φ1, τ, s1, hL1, hS1, h3⟩
  | false => exact iteF' (h3.pure_ hS1 _ (.bl _))
where
  iteT' {A B : Prop} (h : A) : if true = true then A else B := by rw [if_pos rfl]; exact h
  iteF' {A B : Prop} (h : B) : if false = true then A else B := by rw [if_neg Bool.false_ne_true]; exact h
theorem iT {A B : Prop} (h : A) : if true = true then A else B := by rw [if_pos rfl]; exact h
theorem iF {A B : Prop} (h : B) : if false = true then A else B := by rw [if_neg Bool.false_ne_true]; exact h
end
end It


set_option Elab.async false
set_option linter.all false
set_option maxRecDepth 100000
set_option maxHeartbeats 4000000
/-! THE MIRROR IS SOUND, 2: comparisons. -/
namespace It
open PySem PySem.Spec PyProof.Rows L2

theorem deqs_spec {eq : D → D → Option Bool} : ∀ {xs ys : List D} {b : Bool}, deqs eq xs ys = some b → ∃ e : Nat → Bool, (∀ (j : Nat) x y, xs[j]? = some x → ys[j]? = some y → eq x y = some (e j)) ∧ b = ((List.range (min xs.length ys.length)).all e && xs.length == ys.length)
  | [], [], b, h => by cases h; exact ⟨fun _ => true, fun j x y q => by simp at q, by simp⟩
  | [], y :: ys, b, h => by cases h; exact ⟨fun _ => true, fun j x y q => by simp at q, by simp⟩
  | x :: xs, [], b, h => by cases h; exact ⟨fun _ => true, fun j x y q r => by simp at r, by simp⟩
  | x :: xs, y :: ys, b, h => by
    simp only [deqs] at h
    cases e1 : eq x y with
    | none => rw [e1] at h; cases h
    | some a =>
      cases e2 : deqs eq xs ys with
      | none => rw [e1, e2] at h; cases h
      | some c =>
        rw [e1, e2] at h
        cases h
        obtain ⟨e, h1, h2⟩ := deqs_spec e2
        refine ⟨fun j => match j with | 0 => a | j + 1 => e j, fun j p q r1 r2 => ?_, ?_⟩
        · cases j with
          | zero =>
            simp at r1 r2
            subst r1 r2
            exact e1
          | succ j => exact h1 j p q (by simpa using r1) (by simpa using r2)
        · rw [h2]
          simp only [List.length_cons, Nat.succ_min_succ, List.range_succ_eq_map, List.all_cons, List.all_map, Function.comp_def]
          rw [Bool.and_assoc]
          congr 2
          simp

section
variable {X : Cx} {cA : Nat → Addr} {pins : List (Addr × Obj)} {σ : L2.St} {H : Hp} {s : Shared} {φ : List Addr}
theorem deq_same (I : Inv X pins σ H s) : ∀ (n : Nat) {d1 d2 : D} {v : V} {b : Bool}, Rep X.K cA φ H d1 v → Rep X.K cA φ H d2 v → deq n d1 d2 = some b → b = true := by
  intro n
  induction n with
  | zero =>
    intro d1 d2 v b r1 r2 h
    cases r1 <;> cases r2 <;> first
      | (cases h; rfl)
      | (cases h; simp)
      | cases h
  | succ n ih =>
    intro d1 d2 v b r1 r2 h
    cases r1 with
    | tup h1 q1 =>
      cases r2 with
      | tup h2 q2 =>
        have ev := I.tuple_inj h1 h2
        subst ev
        obtain ⟨e, a1, a2⟩ := deqs_spec (eq := deq n) h
        rw [a2]
        have hl : _ = _ := q1.len.trans q2.len.symm
        rw [Bool.and_eq_true]
        refine ⟨List.all_eq_true.mpr fun j hj => ?_, by rw [hl]; simp⟩
        have hj := List.mem_range.mp hj
        obtain ⟨x, hx⟩ : ∃ x, _ = some x := ⟨_, List.getElem?_eq_getElem (Nat.lt_of_lt_of_le hj (Nat.min_le_left _ _))⟩
        obtain ⟨y, hy⟩ : ∃ y, _ = some y := ⟨_, List.getElem?_eq_getElem (Nat.lt_of_lt_of_le hj (Nat.min_le_right _ _))⟩
        obtain ⟨v1, e1, p1⟩ := q1.get hx
        obtain ⟨v2, e2, p2⟩ := q2.get hy
        rw [e1] at e2
        cases e2
        exact ih p1 p2 (a1 j x y hx hy)
      | loc h2 => cases h
      | exc h2 => cases h
    | loc h1 => cases r2 <;> cases h
    | exc h1 => cases r2 <;> cases h
    | non => cases r2; cases h; rfl
    | bl x => cases r2; cases h; simp
    | int x => cases r2; cases h; simp
    | str x => cases r2; cases h; simp

theorem eqAt_flat {A : Around} {n : Nat} {d1 d2 : D} {v1 v2 : V} {u1 u2 : Value} {b : Bool} (hf : flatV v1 = true) (hf2 : flatV v2 = true) (r1 : Rep X.K cA φ H d1 v1) (r2 : Rep X.K cA φ H d2 v2) (q1 : RelV v1 u1) (q2 : RelV v2 u2) (h : deq n d1 d2 = some b) : SeqAt.EqAt A s u1 u2 b := by
  have z : eqV v1 v2 = b := by
    cases n <;> cases r1 <;> first
      | (exfalso; have hf' : false = true := hf; cases hf'; done)
      | (cases r2 <;> first
          | (exfalso; have hf' : false = true := hf2; cases hf'; done)
          | (cases h; rfl)
          | (cases h; simp [eqV])
          | (cases h))
  rw [← z]
  exact eqAt_V q1 q2 hf hf2

/-- the parts of two tuples -/
theorem tup_parts (I : Inv X pins σ H s) {n : Nat} {A : Around} {xs ys : List D} {vs us : List V} {l m : Addr} {b : Bool} (hl : SqT X.K H l vs) (hm : SqT X.K H m us) (r1 : Reps X.K cA φ H xs vs) (r2 : Reps X.K cA φ H ys us) (h : deqs (deq n) xs ys = some b)
    (ih : ∀ {d1 d2 : D} {v1 v2 : V} {u1 u2 : Value} {b : Bool}, Rep X.K cA φ H d1 v1 → Rep X.K cA φ H d2 v2 → RelV v1 u1 → RelV v2 u2 → deq n d1 d2 = some b → SeqAt.EqAt A s u1 u2 b) :
    ∃ (is js : Array Value) (e : Nat → Bool), s.heap.IsTuple l is ∧ s.heap.IsTuple m js ∧ (∀ j (h1 : j < is.size) (h2 : j < js.size), SeqAt.EqAt A s is[j] js[j] (e j)) ∧ b = ((List.range (min is.size js.size)).all e && is.size == js.size) := by
  obtain ⟨its, rv, ht, _⟩ := I.tuple hl
  obtain ⟨jts, rw_, hu, _⟩ := I.tuple hm
  obtain ⟨e, a1, a2⟩ := deqs_spec h
  have z1 : xs.length = its.length := r1.len.trans rv.length
  have z2 : ys.length = jts.length := r2.len.trans rw_.length
  refine ⟨its.toArray, jts.toArray, e, ht, hu, fun j h1 h2 => ?_, by simp only [List.size_toArray, ← z1, ← z2]; exact a2⟩
  simp only [List.size_toArray] at h1 h2
  obtain ⟨x, hx⟩ : ∃ x, xs[j]? = some x := ⟨_, List.getElem?_eq_getElem (by rw [z1]; exact h1)⟩
  obtain ⟨y, hy⟩ : ∃ y, ys[j]? = some y := ⟨_, List.getElem?_eq_getElem (by rw [z2]; exact h2)⟩
  obtain ⟨v, e1, p1⟩ := r1.get hx
  obtain ⟨v', e2, p2⟩ := r2.get hy
  obtain ⟨u, f1, g1⟩ := rv.get e1
  obtain ⟨u', f2, g2⟩ := rw_.get e2
  have k1 : its.toArray[j] = u := by
    have := List.getElem?_eq_some_iff.mp f1
    simpa using this.2
  have k2 : jts.toArray[j] = u' := by
    have := List.getElem?_eq_some_iff.mp f2
    simpa using this.2
  rw [k1, k2]
  exact ih p1 p2 g1 g2 (a1 j x y hx hy)

theorem eqAt_rep (I : Inv X pins σ H s) : ∀ (n : Nat) {A : Around} {d1 d2 : D} {v1 v2 : V} {u1 u2 : Value} {b : Bool}, A.units + n < cLine → Rep X.K cA φ H d1 v1 → Rep X.K cA φ H d2 v2 → RelV v1 u1 → RelV v2 u2 → deq n d1 d2 = some b → SeqAt.EqAt A s u1 u2 b := by
  intro n
  induction n with
  | zero =>
    intro A d1 d2 v1 v2 u1 u2 b hu r1 r2 q1 q2 h
    cases r1 with
    | tup h1 p1 => cases r2 <;> cases h
    | loc h1 => cases r2 <;> cases h
    | exc h1 => cases r2 <;> cases h
    | _ => cases r2 with
      | tup h1 p1 => cases h
      | loc h1 => cases h
      | exc h1 => cases h
      | _ => exact eqAt_flat (X := X) (cA := cA) (φ := φ) (H := H) (n := 0) rfl rfl (by constructor) (by constructor) q1 q2 h
  | succ n ih =>
    intro A d1 d2 v1 v2 u1 u2 b hu r1 r2 q1 q2 h
    cases r1 with
    | tup h1 p1 => cases r2 with
      | tup h2 p2 =>
        have hw := h
        rename_i a1 xs1 vs1 a2 xs2 vs2
        have h : deqs (deq n) xs1 xs2 = some b := hw
        cases (show u1 = Value.ref a1 from q1)
        cases (show u2 = Value.ref a2 from q2)
        by_cases ea : a1 = a2
        · subst ea
          have := deq_same I (n + 1) (.tup h1 p1) (.tup h2 p2) hw
          subst this
          exact SeqAt.EqAt.same _
        · have hin : A.in1.units + n < cLine := by show A.units + 1 + n < cLine; omega
          obtain ⟨is, js, e, t1, t2, he, hb⟩ := tup_parts (A := A.in1) I h1 h2 p1 p2 h fun a b c d e => ih hin a b c d e
          rw [hb]
          exact SeqAt.EqAt.of_refs ea (SeqAt.RcAt.tuples t1 t2 (by omega) he)
      | _ => cases h
    | loc h1 => cases r2 <;> cases h
    | exc h1 => cases r2 <;> cases h
    | _ => cases r2 with
      | tup h1 p1 => cases h
      | loc h1 => cases h
      | exc h1 => cases h
      | _ => exact eqAt_flat (X := X) (cA := cA) (φ := φ) (H := H) (n := n + 1) rfl rfl (by constructor) (by constructor) q1 q2 h
end
end It


set_option Elab.async false
set_option linter.all false
set_option maxRecDepth 100000
set_option maxHeartbeats 4000000
/-! THE MIRROR IS SOUND, 3: comparisons as expressions, tests, displays, calls. -/
namespace It
open PySem PySem.Spec PyProof.Rows L2

section
variable {X : Cx} {cA : Nat → Addr}
noncomputable def rD (K : PySem.W.Frag) (cA : Nat → Addr) (op : Cop) : R2 := fun x y H Q => ∃ φ d1 d2 b, Rep K cA φ H d1 x ∧ Rep K cA φ H d2 y ∧ evCmp op d1 d2 = some b ∧ Q (.bl b) H
theorem deq_0 {n : Nat} {d1 d2 : D} (ht : ∀ xs ys, d1 = .tup xs → d2 = .tup ys → False) : deq n d1 d2 = deq 0 d1 d2 := by
  cases n with
  | zero => rfl
  | succ n => cases d1 <;> cases d2 <;> first | rfl | exact (ht _ _ rfl rfl).elim
theorem scal_of {K : PySem.W.Frag} {φ : List Addr} {H : Hp} {n : Nat} {d1 d2 : D} {x y : V} {b : Bool} (r1 : Rep K cA φ H d1 x) (r2 : Rep K cA φ H d2 y) (h : deq n d1 d2 = some b) (ht : ∀ xs ys, d1 = .tup xs → d2 = .tup ys → False) : scal x y = true ∧ decide (x = y) = b := by
  rw [deq_0 ht] at h
  cases r1 <;> cases r2 <;> first
    | (exact (ht _ _ rfl rfl).elim)
    | (cases h; exact ⟨rfl, rfl⟩)
    | (cases h; exact ⟨rfl, by simp⟩)
    | cases h
theorem opD_eq (hu : X.A.units + 60 < cLine) : OpR X (compareOp .Eq) (rD X.K cA .eq) := by
  intro pins s σ H x y v u Q I rx ry ⟨φ, d1, d2, b, r1, r2, h, q⟩
  have h : deq 50 d1 d2 = some b := h
  by_cases ht : ∃ xs ys, d1 = .tup xs ∧ d2 = .tup ys
  · obtain ⟨xs, ys, rfl, rfl⟩ := ht
    cases r1 with
    | tup h1 p1 => cases r2 with
      | tup h2 p2 =>
        rename_i a1 vs1 a2 vs2
        cases (show v = Value.ref a1 from rx)
        cases (show u = Value.ref a2 from ry)
        have h : deqs (deq 49) xs ys = some b := h
        obtain ⟨is, js, e, t1, t2, he, hb⟩ := tup_parts (A := X.A.in1) I h1 h2 p1 p2 h fun a b c d e => eqAt_rep I 49 (by show X.A.units + 1 + 49 < cLine; omega) a b c d e
        exact SeqAt.RcAt.tuples t1 t2 (by omega) he X.prog X.w X.xe _ ⟨.bl b, H, I, by rw [hb]; rfl, q⟩
  · obtain ⟨z1, z2⟩ := scal_of r1 r2 h fun xs ys a b => ht ⟨xs, ys, a, b⟩
    exact op_eq pins s σ H x y v u Q I rx ry ⟨z1, by rw [z2]; exact q⟩
theorem opD_ne (hu : X.A.units + 60 < cLine) : OpR X (compareOp .NotEq) (rD X.K cA .ne) := by
  intro pins s σ H x y v u Q I rx ry ⟨φ, d1, d2, b, r1, r2, h, q⟩
  obtain ⟨c, h', hb⟩ : ∃ c, deq 50 d1 d2 = some c ∧ (!c) = b := Option.map_eq_some_iff.mp h
  clear h
  have h := h'
  clear h'
  subst hb
  by_cases ht : ∃ xs ys, d1 = .tup xs ∧ d2 = .tup ys
  · obtain ⟨xs, ys, rfl, rfl⟩ := ht
    cases r1 with
    | tup h1 p1 => cases r2 with
      | tup h2 p2 =>
        rename_i a1 vs1 a2 vs2
        cases (show v = Value.ref a1 from rx)
        cases (show u = Value.ref a2 from ry)
        have h : deqs (deq 49) xs ys = some c := h
        obtain ⟨is, js, e, t1, t2, he, hb⟩ := tup_parts (A := X.A.in1) I h1 h2 p1 p2 h fun a b c d e => eqAt_rep I 49 (by show X.A.units + 1 + 49 < cLine; omega) a b c d e
        exact SeqAt.RcNeAt.tuples t1 t2 (by omega) he X.prog X.w X.xe _ ⟨.bl (!c), H, I, by rw [hb]; rfl, q⟩
  · obtain ⟨z1, z2⟩ := scal_of r1 r2 h fun xs ys a b => ht ⟨xs, ys, a, b⟩
    exact op_ne pins s σ H x y v u Q I rx ry ⟨z1, by rw [z2]; exact q⟩
theorem opD_lt : OpR X (compareOp .Lt) (rD X.K cA .lt) := by
  intro pins s σ H x y v u Q I rx ry ⟨φ, d1, d2, b, r1, r2, h, q⟩
  cases d1 <;> cases d2 <;> simp only [evCmp] at h <;> cases h
  rw [r1.of_int] at rx
  rw [r2.of_int] at ry
  exact op_lt pins s σ H _ _ v u Q I rx ry ⟨_, _, rfl, rfl, q⟩
theorem opD_le : OpR X (compareOp .LtE) (rD X.K cA .le) := by
  intro pins s σ H x y v u Q I rx ry ⟨φ, d1, d2, b, r1, r2, h, q⟩
  cases d1 <;> cases d2 <;> simp only [evCmp] at h <;> cases h
  rw [r1.of_int] at rx
  rw [r2.of_int] at ry
  exact op_le pins s σ H _ _ v u Q I rx ry ⟨_, _, rfl, rfl, q⟩
theorem opD_gt : OpR X (compareOp .Gt) (rD X.K cA .gt) := by
  intro pins s σ H x y v u Q I rx ry ⟨φ, d1, d2, b, r1, r2, h, q⟩
  cases d1 <;> cases d2 <;> simp only [evCmp] at h <;> cases h
  rw [r1.of_int] at rx
  rw [r2.of_int] at ry
  exact op_gt pins s σ H _ _ v u Q I rx ry ⟨_, _, rfl, rfl, q⟩
theorem opD_ge : OpR X (compareOp .GtE) (rD X.K cA .ge) := by
  intro pins s σ H x y v u Q I rx ry ⟨φ, d1, d2, b, r1, r2, h, q⟩
  cases d1 <;> cases d2 <;> simp only [evCmp] at h <;> cases h
  rw [r1.of_int] at rx
  rw [r2.of_int] at ry
  exact op_ge pins s σ H _ _ v u Q I rx ry ⟨_, _, rfl, rfl, q⟩
end

section
variable {X : Cx} {cA : Nat → Addr} {sub : Nat → Nat → Bool} {calm : Bool} {F : Fn} {EX : XS} {a b c d e : Expr} {A B C Dd E' : E} {pos : Pos} {es : List Expr} {Xs : Es} {op op' op'' : CmpOp} {o o' o'' : Cop}
theorem se_cmp (ho : OpR X (compareOp op) (rD X.K cA o)) (ha : SE X cA sub calm F EX a A) (hb : SE X cA sub calm F EX b B) (hm : behindInMarks op b = false) : SE X cA sub calm F EX (.Compare a [op] [b] pos) (.cmp o A B) := PE.weak (pe_cmpR ho ha hb hm) fun σ H Q hh => un hh fun φ τ s hL hS h => by
  refine useE hL hS h fun x H1 φ1 d1 s1 x1 hL1 hS1 r1 h1 => useE hL1 hS1 h1 fun y H2 φ2 d2 s2 x2 hL2 hS2 r2 h2 => ?_
  obtain ⟨k, e3, h5⟩ := Run.opt2 hS2 h2
  exact ⟨φ2, d1, d2, k, r1.mono x2, r2, e3, h5.pure_ hS2 _ (.bl k)⟩
theorem bq {K : PySem.W.Frag} {φ : List Addr} {H : Hp} {s : S} {k : Bool} {P : Bool → S → List Addr → Hp → Prop} {Ee : Nat → S → List Addr → Hp → Prop} (r : RepS K cA φ H s) (h : Run K cA (boolOf (.bl k)) φ H s P Ee) : P k s φ H := h φ H Ext.refl r
theorem st_cmp (ho : OpR X (compareOp op) (rD X.K cA o)) (ha : SE X cA sub calm F EX a A) (hb : SE X cA sub calm F EX b B) (hm : behindInMarks op b = false) : ST X cA sub calm F EX (.Compare a [op] [b] pos) (.cmp o A B) := PT.weak (pt_cmpR ho ha hb hm) fun σ H Q hh => un hh fun φ τ s hL hS h => by
  refine useE hL hS h.bd fun x H1 φ1 d1 s1 x1 hL1 hS1 r1 h1 => useE hL1 hS1 h1 fun y H2 φ2 d2 s2 x2 hL2 hS2 r2 h2 => ?_
  obtain ⟨k, e3, h5⟩ := Run.opt2 hS2 h2
  obtain ⟨_, r3, q⟩ := h5.pure_ hS2
  exact ⟨φ2, d1, d2, k, r1.mono x2, r2, e3, k, rfl, bq r3 q⟩
theorem se_ch2 (ho : OpR X (compareOp op) (rD X.K cA o)) (ho' : OpR X (compareOp op') (rD X.K cA o')) (ha : SE X cA sub calm F EX a A) (hb : SE X cA sub calm F EX b B) (hc : SE X cA sub calm F EX c C) (hm : lastMarks [op, op'] [b, c] = false := by with_unfolding_all rfl) :
    SE X cA sub calm F EX (.Compare a [op, op'] [b, c] pos) (.ch2 o o' A B C) := PE.weak (pe_chain ho ho' ha hb hc hm) fun σ H Q hh => un hh fun φ τ s hL hS h => by
  refine useE hL hS h fun x H1 φ1 d1 s1 x1 hL1 hS1 r1 h1 => useE hL1 hS1 h1 fun y H2 φ2 d2 s2 x2 hL2 hS2 r2 h2 => ?_
  obtain ⟨k, e3, h5⟩ := Run.opt2 hS2 h2
  refine ⟨φ2, d1, d2, k, r1.mono x2, r2, e3, k, rfl, ?_⟩
  cases k with
  | false => exact iF (h5.pure_ hS2 _ (.bl _))
  | true =>
    refine iT (useE hL2 hS2 h5 fun z H3 φ3 d3 s3 x3 hL3 hS3 r3 h3 => ?_)
    obtain ⟨k2, e4, h6⟩ := Run.opt2 hS3 h3
    exact ⟨φ3, d2, d3, k2, r2.mono x3, r3, e4, h6.pure_ hS3 _ (.bl k2)⟩
/-- a value that is a truth, as a test -/
theorem st_val (ha : SE X cA sub calm F EX a A) (he : ∀ whole, isTrue a X.env whole = (do let v ← whole; standAt a.pos; holding [v] (truthy v)) := by intro _; rfl) : ST X cA sub calm F EX a A := PT.weak (pt_val ha he) fun σ H Q hh => un hh fun φ τ s hL hS h => by
  refine useE hL hS h fun x H1 φ1 d1 s1 x1 hL1 hS1 r1 h1 => ?_
  obtain ⟨k, e3, q⟩ := Run.opt hS1 h1
  rw [isBl_eq e3] at r1
  exact ⟨k, r1.of_bl, q⟩
theorem st_not (ha : ST X cA sub calm F EX a A) : ST X cA sub calm F EX (.UnaryOp .Not a pos) (.not A) := PT.weak (pt_not ha) fun σ H Q hh => un hh fun φ τ s hL hS h => by
  have h2 : Run X.K cA (M.bd (ev sub calm F A τ) fun x => M.bd (boolOf x) fun k => M.ret (D.bl (!k))) φ H s _ _ := h.bd
  refine ⟨φ, τ, s, hL, hS, ?_⟩
  unfold Run at h2 ⊢
  simp only [M.bd] at h2 ⊢
  cases e1 : ev sub calm F A τ s with
  | none => rw [e1] at h2; exact h2
  | some r =>
    obtain ⟨r, s1⟩ := r
    rw [e1] at h2
    cases r with
    | er c => exact h2
    | ok d =>
      dsimp only at h2 ⊢
      cases e2 : boolOf d s1 with
      | none => rw [e2] at h2; exact h2
      | some r2 =>
        obtain ⟨r2, s2⟩ := r2
        rw [e2] at h2
        cases r2 with
        | er c => exact h2
        | ok k => exact fun φ' H' x r => (h2 φ' H' x r).2.2 φ' H' Ext.refl (h2 φ' H' x r).2.1
theorem sw_and1 (ha : ST X cA sub calm F EX a A) : SW X cA sub calm F EX (.BoolOp .And [a] pos) A := pw_and1 ha
theorem sw_or1 (ha : ST X cA sub calm F EX a A) : SW X cA sub calm F EX (.BoolOp .Or [a] pos) A := pw_or1 ha
theorem run_bb {K : PySem.W.Frag} {φ : List Addr} {H : Hp} {s : S} {τ : Vs} {k : Bool → M D} {P : Bool → S → List Addr → Hp → Prop} {Ee : Nat → S → List Addr → Hp → Prop} (h : Run K cA (M.bd (M.bd (ev sub calm F A τ) fun x => M.bd (boolOf x) k) boolOf) φ H s P Ee) :
    Run K cA (M.bd (M.bd (ev sub calm F A τ) boolOf) fun b => M.bd (k b) boolOf) φ H s P Ee := by
  unfold Run M.bd at *
  cases e1 : ev sub calm F A τ s with
  | none => rw [e1] at h; exact h
  | some r =>
    obtain ⟨r, s1⟩ := r
    rw [e1] at h
    cases r with
    | er c => exact h
    | ok d =>
      dsimp only at h ⊢
      cases e2 : boolOf d s1 with
      | none => rw [e2] at h; exact h
      | some r2 =>
        obtain ⟨r2, s2⟩ := r2
        rw [e2] at h
        cases r2 with
        | er c => exact h
        | ok k => exact h
theorem sw_and {rest : List Expr} (ha : ST X cA sub calm F EX a A) (hb : SW X cA sub calm F EX (.BoolOp .And (b :: rest) pos) B) : SW X cA sub calm F EX (.BoolOp .And (a :: b :: rest) pos) (.and A B) := PW.weak (pw_and ha hb) fun σ H Q hh => un hh fun φ τ s hL hS h => by
  have h2 := run_bb (k := fun k => if k = true then ev sub calm F B τ else M.ret (.bl false)) h
  refine useT hL hS h2 fun k H1 φ1 s1 x1 hL1 hS1 h3 => ?_
  cases k with
  | true => exact iT ⟨φ1, τ, s1, hL1, hS1, h3⟩
  | false => exact iF (bq hS1 h3)
theorem sw_or {rest : List Expr} (ha : ST X cA sub calm F EX a A) (hb : SW X cA sub calm F EX (.BoolOp .Or (b :: rest) pos) B) : SW X cA sub calm F EX (.BoolOp .Or (a :: b :: rest) pos) (.or A B) := PW.weak (pw_or ha hb) fun σ H Q hh => un hh fun φ τ s hL hS h => by
  have h2 := run_bb (k := fun k => if k = true then M.ret (.bl true) else ev sub calm F B τ) h
  refine useT hL hS h2 fun k H1 φ1 s1 x1 hL1 hS1 h3 => ?_
  cases k with
  | true => exact iT (bq hS1 h3)
  | false => exact iF ⟨φ1, τ, s1, hL1, hS1, h3⟩
theorem st_w (h : SW X cA sub calm F EX a A) : ST X cA sub calm F EX a A := PW.pt h
/-! ### argument lists, displays -/
theorem sa_nil : SA X cA sub calm F EX [] .nil := PA.weak pa_nil fun σ H Q hh => un hh fun φ τ s hL hS h => h.pure_ hS _ .nil
theorem sa_cons (ha : SE X cA sub calm F EX a A) (hr : SA X cA sub calm F EX es Xs) (hs : starEach (a :: es) X.env = (false, eval a X.env) :: starEach es X.env := by rfl) : SA X cA sub calm F EX (a :: es) (.cons A Xs) := PA.weak (pa_cons ha hr hs) fun σ H Q hh => un hh fun φ τ s hL hS h => by
  refine useE hL hS h fun x H1 φ1 d1 s1 x1 hL1 hS1 r1 h1 => useA hL1 hS1 h1 fun ys H2 φ2 d2 s2 x2 hL2 hS2 r2 h2 => h2.pure_ hS2 _ (.cons (r1.mono x2) r2)
theorem se_tup {k} (ha : SA X cA sub calm F EX es Xs) (hz : ∀ τ s ds s', evs sub calm F Xs τ s = some (.ok ds, s') → ds.length ≤ sizeLine) : SE X cA sub calm F EX (.Tuple es k pos) (.tup Xs) := PE.weak (pe_tup ha) fun σ H Q hh => un hh fun φ τ s hL hS h => by
  have h0 : Run X.K cA (M.bd (evs sub calm F Xs τ) fun ds => M.ret (D.tup ds)) φ H s _ _ := h
  refine ⟨φ, τ, s, hL, hS, ?_⟩
  unfold Run M.bd at *
  cases e1 : evs sub calm F Xs τ s with
  | none => rw [e1] at h0; exact h0
  | some r =>
    obtain ⟨r, s1⟩ := r
    rw [e1] at h0
    cases r with
    | er c => exact h0
    | ok ds =>
      intro φ1 H1 x1 r1 vs rv
      refine ⟨by rw [← rv.len]; exact hz τ s ds s1 e1, fun p hp => ?_⟩
      exact h0 φ1 (upd H1 p (.tup vs)) (x1.trans (Ext.new hp)) (r1.new hp) _ (.tup (SqT.of upd_same) (rv.mono (Ext.new hp)))
theorem se_lst (ha : SA X cA sub calm F EX es Xs) (hz : ∀ τ s ds s', evs sub calm F Xs τ s = some (.ok ds, s') → ds.length ≤ sizeLine) : SE X cA sub calm F EX (.List es pos) (.lst Xs) := PE.weak (pe_lst ha) fun σ H Q hh => un hh fun φ τ s hL hS h => by
  have h0 : Run X.K cA (M.bd (evs sub calm F Xs τ) fun ds => newL (.lst ds)) φ H s _ _ := h
  refine ⟨φ, τ, s, hL, hS, ?_⟩
  unfold Run M.bd at *
  cases e1 : evs sub calm F Xs τ s with
  | none => rw [e1] at h0; exact h0
  | some r =>
    obtain ⟨r, s1⟩ := r
    rw [e1] at h0
    cases r with
    | er c => exact h0
    | ok ds =>
      intro φ1 H1 x1 r1 vs rv
      refine ⟨by rw [← rv.len]; exact hz τ s ds s1 e1, fun p hp => ?_⟩
      refine h0 (φ1 ++ [p]) (upd H1 p (.lst vs)) (x1.trans (Ext.newL hp)) (r1.newL hp rv) _ (.loc ?_)
      rw [← r1.len]
      simp
theorem evs_len {sub : Nat → Nat → Bool} {calm : Bool} {F : Fn} : ∀ (Xs : Es) (τ : Vs) (s : S) (ds : List D) (s' : S), evs sub calm F Xs τ s = some (.ok ds, s') → ds.length = Es.len Xs
  | .nil, τ, s, ds, s', h => by cases h; rfl
  | .cons a r, τ, s, ds, s', h => by
    have h : M.bd (ev sub calm F a τ) (fun x => M.bd (evs sub calm F r τ) fun xs => M.ret (x :: xs)) s = some (.ok ds, s') := h
    unfold M.bd at h
    cases e1 : ev sub calm F a τ s with
    | none => rw [e1] at h; cases h
    | some q =>
      obtain ⟨q, s1⟩ := q
      rw [e1] at h
      cases q with
      | er c => cases h
      | ok d =>
        dsimp only at h
        cases e2 : evs sub calm F r τ s1 with
        | none => rw [e2] at h; cases h
        | some q =>
          obtain ⟨q, s2⟩ := q
          rw [e2] at h
          cases q with
          | er c => cases h
          | ok ds' =>
            cases h
            rw [List.length_cons, evs_len r τ s1 ds' _ e2]
            rfl
end
end It


set_option Elab.async false
set_option linter.all false
set_option maxRecDepth 100000
set_option maxHeartbeats 4000000
namespace L2
open PySem PySem.Spec PyProof.Rows

/-! ### lists of pairs as tables -/
section
variable {κ : Type} [DecidableEq κ]
/-- in its place, or at the end -/
noncomputable def putK (kvs : List (κ × V)) (k : κ) (v : V) : List (κ × V) :=
  if (kvs.any fun kv => decide (kv.1 = k)) = true then kvs.map (fun kv => if kv.1 = k then (kv.1, v) else kv) else kvs ++ [(k, v)]
theorem length_putK (kvs : List (κ × V)) (k : κ) (v : V) : (putK kvs k v).length ≤ kvs.length + 1 := by
  unfold putK
  split
  · rw [List.length_map]; omega
  · rw [List.length_append, List.length_cons, List.length_nil]; omega
theorem KV.any {kvs : List (κ × V)} {vs : List (κ × Value)} (r : KV kvs vs) (k : κ) : (kvs.any fun kv => decide (kv.1 = k)) = vs.any fun kv => decide (kv.1 = k) := by
  unfold KV at r
  induction r with
  | nil => rfl
  | cons h t ih => rw [List.any_cons, List.any_cons, ih, h.1]
theorem KV.repl {kvs : List (κ × V)} {vs : List (κ × Value)} (r : KV kvs vs) (k : κ) {y : V} {u : Value} (ry : RelV y u) :
    KV (kvs.map fun kv => if kv.1 = k then (kv.1, y) else kv) (vs.map fun kv => if kv.1 = k then (kv.1, u) else kv) := by
  unfold KV at r ⊢
  induction r with
  | nil => exact .nil
  | @cons p q ps qs h t ih =>
    rw [List.map_cons, List.map_cons]
    refine .cons ?_ ih
    obtain ⟨h1, h2⟩ := h
    by_cases e : p.1 = k
    · rw [if_pos e, if_pos (h1.symm.trans e)]; exact ⟨h1, ry⟩
    · rw [if_neg e, if_neg (fun z => e (h1.trans z))]; exact ⟨h1, h2⟩
theorem KV.put {kvs : List (κ × V)} {vs : List (κ × Value)} (r : KV kvs vs) (k : κ) {y : V} {u : Value} (ry : RelV y u) : KV (putK kvs k y) (stored vs k u) := by
  unfold putK stored
  rw [r.any k]
  by_cases e : (vs.any fun kv => decide (kv.1 = k)) = true
  · rw [if_pos e, if_pos e]; exact r.repl k ry
  · rw [if_neg e, if_neg e]; exact Paired.snoc r ⟨rfl, ry⟩
end


/-! ### a tracked dict, its keys ints and texts or tuples of these -/
theorem kV_is {P : Program} {w : World} {k : Key} {u : Value} (r : RelV (kV k) u) : (mixKind P w).is k u = true := by
  cases k with
  | inl i => obtain ⟨t, e⟩ := (show ∃ t, u = Value.int i t from r); subst e; exact mixKind_int P w i t
  | inr x => obtain ⟨t, e⟩ := (show ∃ t, u = Value.str x t from r); subst e; exact mixKind_str P w x t
section
variable {P : Program} {w : World} {H : Hp} {h : Heap} {a : Addr}
theorem rd_of {u : HO} (ok : HOk P w H h) (e : Rd H a u) : ObjOk P w H h a u := e.ok ok
theorem dk_rd {kvs : List (Key × V)} (ok : HOk P w H h) (e : Rd H a (.dK kvs)) : kvs.length ≤ sizeLine ∧ (a == sysModules) = false ∧ ∃ vs, KV kvs vs ∧ h.DictOf (mixKind P w) a vs :=
  show ObjOk P w H h a (.dK kvs) from rd_of ok e
theorem dk_of {kvs : List (Key × V)} (ok : HOk P w H h) (e : H a = some (.dK kvs)) : kvs.length ≤ sizeLine ∧ (a == sysModules) = false ∧ ∃ vs, KV kvs vs ∧ h.DictOf (mixKind P w) a vs := dk_rd ok (.inl e)
end

section
variable {X : Cx} {pins : List (Addr × Obj)} {σ : St} {H : Hp} {s : Shared} {a : Addr} {y v : V} {u r : Value} {o : Option V} {A : Around} {E : Value → Shared → Prop}

theorem Inv.big (I : Inv X pins σ H s) : sysModules < s.heap.objs.size := by
  have h : mainGlobals < s.heap.objs.size := (I.mod.glob.keeps I.bk).lt
  exact Nat.lt_trans (by decide) h

/-- a dict's object is replaced -/
theorem d_write {h' : Heap} {t' : Nat} {ob : HO} (I : Inv X pins σ H s) (mu : Mut (H a)) (hs : Heap.SameBut a s.heap h') (he : ∃ q, h'.get? a = some q) (new : ObjOk X.prog X.w (upd H a ob) h' a ob) :
    Inv X pins σ (upd H a ob) { s with heap := h', toks := t' } :=
  I.write (x := a) (e := a) mu (.inl rfl) (fun b q hb z => (hs.2 b hb).trans z) he new
theorem dk_new {P : Program} {w : World} {H' : Hp} {h' : Heap} {kvs : List (Key × V)} {vs : List (Key × Value)} (z : kvs.length ≤ sizeLine) (hd : (a == sysModules) = false) (rel : KV kvs vs) (dd : h'.DictOf (mixKind P w) a vs) :
    ObjOk P w H' h' a (.dK kvs) := ⟨z, hd, vs, rel, dd⟩
end

section
variable {X : Cx} {pins : List (Addr × Obj)} {σ : St} {H : Hp} {s : Shared} {a : Addr} {kvs : List (Key × V)} {k : Key} {u : Value} {A : Around} {E : Value → Shared → Prop}
end


/-! ### readings and rules -/
section
variable {X : Cx} {o i e value : Expr} {pos pos' tpos : Pos} {td ty tv : TE}
end


/-! ### displays -/
theorem dk_empty {P : Program} {w : World} {H : Hp} (h : Heap) (hb : sysModules < h.objs.size) : ObjOk P w H (h.push { cls := .type "dict", data := .dict #[] }) h.objs.size (.dK []) :=
  ⟨Nat.zero_le _, beq_eq_false_iff_ne.mpr (Ne.symm (Nat.ne_of_lt hb)), [], .nil, Heap.DictOf.new h⟩
section
variable {X : Cx} {pos : Pos}
end

/-- the pairs of a display, from the left -/
noncomputable def tPairs : List (TE × TE) → St → Hp → (List (V × V) → Hp → Prop) → Prop
  | [], _, H, Q => Q [] H
  | (tk, tv) :: r, σ, H, Q => tk σ H fun x H1 => tv σ H1 fun y H2 => tPairs r σ H2 fun ps H3 => Q ((x, y) :: ps) H3
noncomputable abbrev VV : List (V × V) → List (Value × Value) → Prop := Paired fun p q => RelV p.1 q.1 ∧ RelV p.2 q.2
noncomputable def PPs (X : Cx) (pos : Pos) (keys : List (Option Expr)) (values : List Expr) (trs : List (TE × TE)) : Prop :=
  ∀ (pins : List (Addr × Obj)) (s : Shared) (σ : St) (H : Hp) (Q : List (V × V) → Hp → Prop), Inv X pins σ H s → tPairs trs σ H Q →
    wpAny (model X.prog X.w) X.A (evalPairs (pairTrees keys values X.env pos)) (fun vs s' => ∃ ps H', Inv X pins σ H' s' ∧ VV ps vs ∧ Q ps H') X.xe s
theorem pps_nil {X : Cx} {pos : Pos} : PPs X pos [] [] [] := fun pins s σ H Q I h => pairTrees_nil_walk ⟨[], H, I, .nil, h⟩
theorem pps_cons {X : Cx} {pos : Pos} {k v : Expr} {ks : List (Option Expr)} {vs : List Expr} {tk tv : TE} {trs : List (TE × TE)} (hk : PE X k tk) (hv : PE X v tv) (hr : PPs X pos ks vs trs) :
    PPs X pos (some k :: ks) (v :: vs) ((tk, tv) :: trs) := fun pins s σ H Q I h =>
  pairTrees_cons_walk (thn (hk pins s σ H _ I h) fun u s1 ⟨x, H1, I1, rx, q1⟩ => thn (hv pins s1 σ H1 _ I1 q1) fun w2 s2 ⟨y, H2, I2, ry, q2⟩ =>
    thn (hr pins s2 σ H2 _ I2 q2) fun ws s3 ⟨ps, H3, I3, rel, q3⟩ => ⟨(x, y) :: ps, H3, I3, .cons ⟨rx, ry⟩ rel, q3⟩)

noncomputable def mergeK (kvs more : List (Key × V)) : List (Key × V) := more.foldl (fun acc kv => putK acc kv.1 kv.2) kvs
theorem KV.merge : ∀ {more : List (Key × V)} {rs : List (Key × Value)} {kvs : List (Key × V)} {vs : List (Key × Value)}, KV more rs → KV kvs vs → KV (mergeK kvs more) (merged vs rs) := by
  intro more rs kvs vs r
  unfold KV at r
  induction r generalizing kvs vs with
  | nil => intro q; exact q
  | @cons p q ps qs h t ih =>
    intro r0
    have e : KV (putK kvs p.1 p.2) (stored vs q.1 q.2) := by
      have := r0.put p.1 h.2
      rw [← h.1]; exact this
    exact ih e
theorem length_mergeK : ∀ (more kvs : List (Key × V)), (mergeK kvs more).length ≤ kvs.length + more.length
  | [], kvs => by show kvs.length ≤ kvs.length + 0; omega
  | p :: r, kvs => by
    have h1 := length_mergeK r (putK kvs p.1 p.2)
    have h2 := length_putK kvs p.1 p.2
    show (mergeK (putK kvs p.1 p.2) r).length ≤ _
    rw [List.length_cons]; omega
theorem carries_of {P : Program} {w : World} : ∀ {kvs : List (Key × V)} {ws : List (Value × Value)}, VV (kvs.map fun kv => (kV kv.1, kv.2)) ws → ∃ rs, Carries (mixKind P w) ws rs ∧ KV kvs rs
  | [], _, r => by rw [List.map_nil] at r; cases r; exact ⟨[], True.intro, .nil⟩
  | p :: kvs, _, r => by
    rw [List.map_cons] at r
    cases r with
    | @cons a b as bs h t =>
      obtain ⟨rs, c, q⟩ := carries_of (P := P) (w := w) t
      obtain ⟨b1, b2⟩ := b
      exact ⟨(p.1, b2) :: rs, ⟨kV_is h.1, rfl, c⟩, .cons ⟨rfl, h.2⟩ q⟩
/-- {k: v, ..} with keys ints and texts; the new dict stands empty while the pairs are made -/
noncomputable def tDisp (trs : List (TE × TE)) : TE := fun σ H Q => ∀ p, H p = none → tPairs trs σ (upd H p (.dK [])) fun ps H2 => H2 p = some (.dK []) ∧ ∃ kvs : List (Key × V), ps = kvs.map (fun kv => (kV kv.1, kv.2)) ∧ kvs.length ≤ 15 ∧ Q (.ref p) (upd H2 p (.dK (mergeK [] kvs)))
theorem pe_disp {X : Cx} {pos : Pos} {keys : List (Option Expr)} {values : List Expr} {trs : List (TE × TE)} (h : PPs X pos keys values trs) (hall : keys.all (·.isSome) = true) (hl : keys.length = values.length) (h0 : keys ≠ [])
    (h15 : keys.length ≤ 15) : PE X (.Dict keys values pos) (tDisp trs) := by
  intro pins s σ H Q I q
  have hn := I.hok.fresh (Nat.le_refl s.heap.objs.size)
  have I1 := I.laid (a := s.heap.objs.size) (o := .dK []) (h' := s.heap.push { cls := .type "dict", data := .dict #[] }) (t' := s.toks) (fun _ _ q => Heap.get?_push_of_some _ q) (Nat.le_refl _) (dk_empty s.heap I.big)
  refine wpAny_Dict_walk (knd := mixKind X.prog X.w) hall hl h0 h15 (thn (h pins _ σ _ _ I1 (q _ hn)) fun ws s2 ⟨ps, H2, I2, rel, e, kvs, ep, lk, q2⟩ => ?_)
  subst ep
  obtain ⟨rs, c, rk⟩ := carries_of (P := X.prog) (w := X.w) rel
  obtain ⟨z, hd, vs0, r0, dd⟩ := dk_of I2.hok e
  cases r0
  refine ⟨rs, c, dd, fun h' dd' hs => ⟨.ref s.heap.objs.size, _, ?_, rfl, q2⟩⟩
  have hz : (mergeK [] kvs).length ≤ sizeLine := by
    have h1 := length_mergeK kvs []
    rw [List.length_nil] at h1
    rw [sizeLine_eq]; omega
  have he : ∃ q, h'.get? s.heap.objs.size = some q := let ⟨q, _, _, hq, _⟩ := dd'; ⟨q, hq⟩
  exact d_write I2 (by rw [e]; exact True.intro) hs he (dk_new hz hd (rk.merge .nil) dd')


/-! ### methods -/
section
variable {X : Cx} {pins : List (Addr × Obj)} {σ : St} {H : Hp} {s : Shared} {a : Addr} {y d : V} {u r : Value} {o : Option V} {A : Around} {E : Value → Shared → Prop}
end

section
variable {X : Cx} {o e f : Expr} {apos cpos : Pos} {td ty tx : TE}
end

/-! ### dict(d): a copy -/
section
variable {X : Cx} {pins : List (Addr × Obj)} {σ : St} {H : Hp} {s : Shared} {a : Addr} {kvs : List (Key × V)} {A : Around} {E : Value → Shared → Prop}
end


section
variable {X : Cx} {pins : List (Addr × Obj)} {σ : St} {H : Hp} {s : Shared} {a : Addr} {y : V} {u : Value} {A : Around} {E : Value → Shared → Prop}
end
end L2



set_option Elab.async false
set_option linter.all false
set_option maxRecDepth 100000
set_option maxHeartbeats 4000000
/-! THE MIRROR IS SOUND, 4: Python's own names, items, cuts, methods. -/
namespace It
open PySem PySem.Spec PyProof.Rows L2

section
variable {X : Cx} {cA : Nat → Addr} {sub : Nat → Nat → Bool} {calm : Bool} {F : Fn} {EX : XS} {a b c d e : Expr} {A B C Dd E' : E} {pos p : Pos} {es : List Expr} {Xs : Es} {x : Str} {φ : List Addr} {H : Hp} {s : S}
/-- a sequence that is read -/
noncomputable def SqX (K : PySem.W.Frag) (H : Hp) (a : Addr) (vs : List V) : Prop := SqL K H a vs ∨ SqT K H a vs
theorem RoL.sq {K : PySem.W.Frag} {H : Hp} {a : Addr} {vs : List V} (h : RoL K H a vs) : SqL K H a vs := by
  rcases h with ⟨o, h⟩ | h
  · exact .inl (.inr ⟨o, h⟩)
  · exact .inr h
theorem items_run {K : PySem.W.Frag} {α : Type} {d : D} {k : List D → M α} {v : V} {P : α → S → List Addr → Hp → Prop} {Ee : Nat → S → List Addr → Hp → Prop} (hS : RepS K cA φ H s) (r : Rep K cA φ H d v) (h : Run K cA (M.bd (itemsOf d) k) φ H s P Ee) :
    ∃ a xs vs, v = .ref a ∧ SqX K H a vs ∧ Reps K cA φ H xs vs ∧ Run K cA (k xs) φ H s P Ee ∧ (∀ n, d = .loc n → SqL K H a vs) ∧ (∀ ys, d = .tup ys → ys = xs ∧ SqT K H a vs) := by
  cases r with
  | loc hl =>
    rename_i n ad
    unfold Run M.bd itemsOf at h
    dsimp only at h
    cases e : s[n]? with
    | none => rw [e] at h; exact h.elim
    | some o =>
      rw [e] at h
      cases o with
      | lst xs =>
        obtain ⟨vs, q1, q2⟩ := hS.obj n _ _ e hl
        exact ⟨_, xs, vs, rfl, .inl (SqL.of q1), q2, h, fun _ _ => SqL.of q1, fun _ z => by cases z⟩
      | ro xs =>
        obtain ⟨vs, q1, q2⟩ := hS.obj n _ _ e hl
        exact ⟨_, xs, vs, rfl, .inl q1.sq, q2, h, fun _ _ => q1.sq, fun _ z => by cases z⟩
      | dct xs => exact h.elim
  | tup h1 h2 => exact ⟨_, _, _, rfl, .inr h1, h2, h, (fun _ z => by cases z), (fun _ z => by cases z; exact ⟨rfl, h1⟩)⟩
  | _ => exact h.elim
theorem len_run {K : PySem.W.Frag} {α : Type} {d : D} {k : Nat → M α} {v : V} {P : α → S → List Addr → Hp → Prop} {Ee : Nat → S → List Addr → Hp → Prop} (hS : RepS K cA φ H s) (r : Rep K cA φ H d v) (h : Run K cA (M.bd (lenOf d) k) φ H s P Ee) :
    ∃ a vs, v = .ref a ∧ SqX K H a vs ∧ Run K cA (k vs.length) φ H s P Ee := by
  cases r with
  | loc hl =>
    rename_i n ad
    unfold Run M.bd lenOf at h
    dsimp only at h
    cases e : s[n]? with
    | none => rw [e] at h; exact h.elim
    | some o =>
      rw [e] at h
      cases o with
      | lst xs =>
        obtain ⟨vs, q1, q2⟩ := hS.obj n _ _ e hl
        refine ⟨_, vs, rfl, .inl (SqL.of q1), ?_⟩
        rw [← q2.len]; exact h
      | ro xs =>
        obtain ⟨vs, q1, q2⟩ := hS.obj n _ _ e hl
        refine ⟨_, vs, rfl, .inl q1.sq, ?_⟩
        rw [← q2.len]; exact h
      | dct xs => exact h.elim
  | tup h1 h2 =>
    refine ⟨_, _, rfl, .inr h1, ?_⟩
    rw [← h2.len]; exact h
  | _ => exact h.elim

/-- a call of a built-in, a type -/
theorem se_biB {bb : Bi} {id : String} {r : List V → Hp → VK → Prop} (hc : CallR X (.builtin id) r) (hr : ∀ ds vs φ H s Q Ee, RepS X.K cA φ H s → Reps X.K cA φ H ds vs → Run X.K cA (evBi calm bb ds) φ H s (fun d _ φ' H' => ∀ v, Rep X.K cA φ' H' d v → Q v H') Ee → r vs H Q)
    (hg : Gl X x) (hm : X.mg x = none) (hv : bootBuiltins x = some (.builtin id)) (ha : SA X cA sub calm F EX (e :: es) Xs) (hn : x ≠ "__name__" := by decide) (hdb : (x == ("__debug__" : Str)) = false := by decide)
    (he : starEach (e :: es) X.env = (false, eval e X.env) :: starEach es X.env := by rfl) (hpl : (backTo pos (starEach es X.env)).any (·.1) = false := by rfl) : SE X cA sub calm F EX (.Call (.Name x p) (e :: es) [] pos) (.bi bb Xs) := PE.weak (pe_callB hc hg hm hv ha hn hdb he hpl) fun σ H Q hh => un hh fun φ τ s hL hS h =>
  useA hL hS h fun vs H1 φ1 ds s1 x1 hL1 hS1 r1 h1 => hr ds vs φ1 H1 s1 Q _ hS1 r1 h1
theorem se_biT {bb : Bi} {id : String} {r : List V → Hp → VK → Prop} (hc : CallR X (.type id) r) (hr : ∀ ds vs φ H s Q Ee, RepS X.K cA φ H s → Reps X.K cA φ H ds vs → Run X.K cA (evBi calm bb ds) φ H s (fun d _ φ' H' => ∀ v, Rep X.K cA φ' H' d v → Q v H') Ee → r vs H Q)
    (hg : Gl X x) (hm : X.mg x = none) (hv : bootBuiltins x = some (.type id)) (ha : SA X cA sub calm F EX (e :: es) Xs) (hn : x ≠ "__name__" := by decide) (hdb : (x == ("__debug__" : Str)) = false := by decide)
    (he : starEach (e :: es) X.env = (false, eval e X.env) :: starEach es X.env := by rfl) (hpl : (backTo pos (starEach es X.env)).any (·.1) = false := by rfl) : SE X cA sub calm F EX (.Call (.Name x p) (e :: es) [] pos) (.bi bb Xs) := PE.weak (pe_callTy hc hg hm hv ha hn hdb he hpl) fun σ H Q hh => un hh fun φ τ s hL hS h =>
  useA hL hS h fun vs H1 φ1 ds s1 x1 hL1 hS1 r1 h1 => hr ds vs φ1 H1 s1 Q _ hS1 r1 h1
theorem Reps.one {K : PySem.W.Frag} {d : D} {vs : List V} (h : Reps K cA φ H [d] vs) : ∃ v, vs = [v] ∧ Rep K cA φ H d v := by cases h with | cons a r => cases r; exact ⟨_, rfl, a⟩
theorem Reps.two {K : PySem.W.Frag} {d d' : D} {vs : List V} (h : Reps K cA φ H [d, d'] vs) : ∃ v v', vs = [v, v'] ∧ Rep K cA φ H d v ∧ Rep K cA φ H d' v' := by cases h with | cons a r => obtain ⟨v, rfl, q⟩ := r.one; exact ⟨_, _, rfl, a, q⟩
theorem bi_len (ds : List D) (vs : List V) (φ : List Addr) (H : Hp) (s : S) (Q : VK) (Ee : Nat → S → List Addr → Hp → Prop) (hS : RepS X.K cA φ H s) (r : Reps X.K cA φ H ds vs) (h : Run X.K cA (evBi calm .len ds) φ H s (fun d _ φ' H' => ∀ v, Rep X.K cA φ' H' d v → Q v H') Ee) :
    ∃ p ys, vs = [.ref p] ∧ (SqL X.K H p ys ∨ SqT X.K H p ys) ∧ Q (.int ys.length) H := by
  match ds, h, r with
  | [d], h, r =>
    obtain ⟨v, rfl, q⟩ := r.one
    obtain ⟨ad, us, rfl, sq, h⟩ := len_run hS q h
    exact ⟨ad, us, rfl, sq, h.pure_ hS _ (.int _)⟩
theorem bi_abs (ds : List D) (vs : List V) (φ : List Addr) (H : Hp) (s : S) (Q : VK) (Ee : Nat → S → List Addr → Hp → Prop) (hS : RepS X.K cA φ H s) (r : Reps X.K cA φ H ds vs) (h : Run X.K cA (evBi calm .abs ds) φ H s (fun d _ φ' H' => ∀ v, Rep X.K cA φ' H' d v → Q v H') Ee) :
    ∃ i, vs = [.int i] ∧ Q (.int (if i < 0 then -i else i)) H := by
  match ds, h, r with
  | [.int i], h, r =>
    obtain ⟨v, rfl, q⟩ := r.one
    exact ⟨i, by rw [q.of_int], h.pure_ hS _ (.int _)⟩
theorem bi_max (ds : List D) (vs : List V) (φ : List Addr) (H : Hp) (s : S) (Q : VK) (Ee : Nat → S → List Addr → Hp → Prop) (hS : RepS X.K cA φ H s) (r : Reps X.K cA φ H ds vs) (h : Run X.K cA (evBi true .max ds) φ H s (fun d _ φ' H' => ∀ v, Rep X.K cA φ' H' d v → Q v H') Ee) :
    ∃ i j, vs = [.int i, .int j] ∧ Q (.int (if j > i then j else i)) H := by
  match ds, h, r with
  | [.int i, .int j], h, r =>
    obtain ⟨v, v', rfl, q, q'⟩ := r.two
    exact ⟨i, j, by rw [q.of_int, q'.of_int], h.pure_ hS _ (.int _)⟩
theorem bi_min (ds : List D) (vs : List V) (φ : List Addr) (H : Hp) (s : S) (Q : VK) (Ee : Nat → S → List Addr → Hp → Prop) (hS : RepS X.K cA φ H s) (r : Reps X.K cA φ H ds vs) (h : Run X.K cA (evBi true .min ds) φ H s (fun d _ φ' H' => ∀ v, Rep X.K cA φ' H' d v → Q v H') Ee) :
    ∃ i j, vs = [.int i, .int j] ∧ Q (.int (if j < i then j else i)) H := by
  match ds, h, r with
  | [.int i, .int j], h, r =>
    obtain ⟨v, v', rfl, q, q'⟩ := r.two
    exact ⟨i, j, by rw [q.of_int, q'.of_int], h.pure_ hS _ (.int _)⟩
theorem bi_int (ds : List D) (vs : List V) (φ : List Addr) (H : Hp) (s : S) (Q : VK) (Ee : Nat → S → List Addr → Hp → Prop) (hS : RepS X.K cA φ H s) (r : Reps X.K cA φ H ds vs) (h : Run X.K cA (evBi calm .int ds) φ H s (fun d _ φ' H' => ∀ v, Rep X.K cA φ' H' d v → Q v H') Ee) :
    (∃ i, vs = [.int i] ∧ Q (.int i) H) ∨ ∃ k, vs = [.bl k] ∧ Q (.int (if k then 1 else 0)) H := by
  match ds, h, r with
  | [.int i], h, r =>
    obtain ⟨v, rfl, q⟩ := r.one
    exact .inl ⟨i, by rw [q.of_int], h.pure_ hS _ (.int _)⟩
  | [.bl i], h, r =>
    obtain ⟨v, rfl, q⟩ := r.one
    exact .inr ⟨i, by rw [q.of_bl], h.pure_ hS _ (.int _)⟩
theorem bi_divmod (ds : List D) (vs : List V) (φ : List Addr) (H : Hp) (s : S) (Q : VK) (Ee : Nat → S → List Addr → Hp → Prop) (hS : RepS X.K cA φ H s) (r : Reps X.K cA φ H ds vs) (h : Run X.K cA (evBi calm .divmod ds) φ H s (fun d _ φ' H' => ∀ v, Rep X.K cA φ' H' d v → Q v H') Ee) :
    ∃ i j, vs = [.int i, .int j] ∧ CDiv i j ∧ ∀ p, H p = none → Q (.ref p) (upd H p (.tup [.int (i / j), .int (i % j)])) := by
  match ds, h, r with
  | [.int i, .int j], h, r =>
    obtain ⟨v, v', rfl, q, q'⟩ := r.two
    have h : Run X.K cA (if 0 < j ∧ j < 1073741824 then M.ret (.tup [.int (i / j), .int (i % j)]) else M.no) φ H s (fun d _ φ' H' => ∀ v, Rep X.K cA φ' H' d v → Q v H') Ee := h
    by_cases z : 0 < j ∧ j < 1073741824
    · rw [if_pos z] at h
      exact ⟨i, j, by rw [q.of_int, q'.of_int], z, fun p hp => h φ _ (Ext.new hp) (hS.new hp) _ (.tup (SqT.of upd_same) (.cons (.int _) (.cons (.int _) .nil)))⟩
    · rw [if_neg z] at h; exact h.elim
/-! ### all of a list of truths -/
theorem allBl_spec {K : PySem.W.Frag} : ∀ {xs : List D} {bs : List Bool} {vs : List V}, allBl xs = some bs → Reps K cA φ H xs vs → vs = bs.map V.bl
  | [], bs, vs, h, r => by cases h; cases r; rfl
  | d :: xs, bs, vs, h, r => by
    cases d with
    | bl b =>
      simp only [allBl, Option.map_eq_some_iff] at h
      obtain ⟨bs', h1, rfl⟩ := h
      cases r with
      | cons q r =>
        rw [allBl_spec h1 r, q.of_bl]
        rfl
    | _ => simp [allBl] at h
theorem all_range : ∀ bs : List Bool, (List.range bs.length).all (fun i => (bs[i]?).getD false) = bs.all id
  | [] => rfl
  | b :: r => by
    rw [List.length_cons, List.range_succ_eq_map, List.all_cons, List.all_map, List.all_cons]
    have := all_range r
    simp only [Function.comp_def, List.getElem?_cons_succ, List.getElem?_cons_zero, Option.getD_some, id]
    rw [this]
theorem call_allL (hc : X.calm = true) : CallR X (.builtin "all") (fun xs H Q => ∃ (p : Addr) (bs : List Bool), xs = [.ref p] ∧ H p = some (.lst (bs.map V.bl)) ∧ Q (.bl (bs.all id)) H) := by
  intro pins s σ H xs us Q I r ⟨p, bs, e, hp, q⟩
  subst e
  obtain ⟨u, rfl, ru⟩ := Vals.one r
  cases (show u = Value.ref p from ru)
  obtain ⟨hz, its, n, rv, hg⟩ := (show ObjOk X.prog X.w H s.heap p (.lst (bs.map V.bl)) from I.hok p _ hp)
  have hl : s.heap.IsList p its.toArray := ⟨_, hg, rfl, n, rfl⟩
  have hpn : p ≠ s.heap.objs.size := Nat.ne_of_lt (Heap.lt_size hg)
  refine call_all_walk (wpAny_pyIter_list hl ?_)
  refine ⟨_, _, _, _, _, _, fun i => (bs[i]?).getD false, rfl, Walks.list (A := X.A.in1) (I.ok.hd hc) _ p hpn its.toArray, ⟨⟨_, Heap.get?_push_size _ rfl, rfl, rfl⟩, hl.push _⟩, ?_, fun h' tk hk => ?_⟩
  · intro i v s' Q' E' hP hQ
    have hi : its[i]? = some v := by simpa using hP
    have hb : ∃ b, bs[i]? = some b := by
      have hlt : i < its.length := (List.getElem?_eq_some_iff.mp hi).1
      have z := rv.length
      rw [List.length_map] at z
      exact ⟨_, List.getElem?_eq_getElem (by omega)⟩
    obtain ⟨b, hb⟩ := hb
    obtain ⟨u, e1, e2⟩ := rv.get (i := i) (x := V.bl b) (by rw [List.getElem?_map, hb]; rfl)
    rw [hi] at e1
    cases e1
    cases (show v = Value.bool b from e2)
    have hQ : Q' ((bs[i]?).getD false) s' := hQ
    rw [hb] at hQ
    exact wpAny_truthy_bool hQ
  · have ez : (List.range its.toArray.size).all (fun i => (bs[i]?).getD false) = bs.all id := by
      have z := rv.length
      rw [List.length_map] at z
      rw [List.size_toArray, ← z]
      exact all_range bs
    rw [ez]
    refine ⟨.bl (bs.all id), H, I.kept (h' := h') (t' := tk) (old_kept hk), rfl, q⟩
end
end It


set_option Elab.async false
set_option linter.all false
set_option maxRecDepth 100000
set_option maxHeartbeats 4000000
/-! THE MIRROR IS SOUND, 5: isinstance, items, cuts, methods, dicts, long chains, calls. -/
namespace It
open PySem PySem.Spec PyProof.Rows L2

section
variable {X : Cx} {cA : Nat → Addr} {sub : Nat → Nat → Bool} {calm : Bool} {F : Fn} {EX : XS} {a b c d e : Expr} {A B C Dd E' : E} {pos p p2 apos : Pos} {es : List Expr} {Xs : Es} {x : Str} {φ : List Addr} {H : Hp} {s : S}
/-- what isinstance says of the built-in types -/
noncomputable def kdB : Kd → String → Bool
  | .int, "int" => true
  | .int, "bool" => true
  | .bool, "bool" => true
  | .str, "str" => true
  | .tuple, "tuple" => true
  | .list, "list" => true
  | .dict, "dict" => true
  | _, _ => false
noncomputable def kdV : Kd → Option Value
  | .int => some (.type "int")
  | .bool => some (.type "bool")
  | .str => some (.type "str")
  | .tuple => some (.type "tuple")
  | .list => some (.type "list")
  | .dict => some (.type "dict")
  | _ => none
theorem kdB_ok {K : PySem.W.Frag} {k : Kd} {cu : Value} (h : kdV k = some cu) {T : String} (hT : T ∈ ["NoneType", "bool", "int", "str", "tuple", "list", "dict"]) : PySem.W.kitOne K (.type T) cu = some (kdB k T) := by
  simp only [List.mem_cons, List.mem_nil_iff, or_false] at hT
  cases k <;> simp only [kdV] at h <;> cases h <;> rcases hT with rfl | rfl | rfl | rfl | rfl | rfl | rfl <;> rfl
/-- the classes of the text: each an exception's, and how they stand under one another -/
structure Clss (K : PySem.W.Frag) (cA : Nat → Addr) (sub : Nat → Nat → Bool) : Prop where
  xc : ∀ c, XC K (cA c)
  sub : ∀ c e, PySem.W.kitOne K (.ref (cA c)) (.ref (cA e)) = some (sub c e)
  verr : ∀ c, PySem.W.kitOne K (.ref (cA c)) (.type "ValueError") = some true
noncomputable def kdC (cA : Nat → Addr) : Kd → V
  | .cls e => .ref (cA e)
  | .verr => .ty "ValueError"
  | .int => .ty "int"
  | .bool => .ty "bool"
  | .str => .ty "str"
  | .tuple => .ty "tuple"
  | .list => .ty "list"
  | .dict => .ty "dict"
theorem isi_at_lst {n : Nat} {s : S} {xs : List D} (eo : s[n]? = some (.lst xs)) (k : Kd) : isiOf sub (.loc n) k s = (match kdV k with | some _ => some (.ok (kdB k "list"), s) | none => none) := by
  cases k <;> (unfold isiOf; dsimp only; try rw [eo]) <;> rfl
theorem isi_at_dct {n : Nat} {s : S} {xs : List (Str × D)} (eo : s[n]? = some (.dct xs)) (k : Kd) : isiOf sub (.loc n) k s = (match kdV k with | some _ => some (.ok (kdB k "dict"), s) | none => none) := by
  cases k <;> (unfold isiOf; dsimp only; try rw [eo]) <;> rfl
theorem isi_at_ro {n : Nat} {s : S} {xs : List D} {r : Rs Bool × S} (eo : s[n]? = some (.ro xs)) (k : Kd) (h : isiOf sub (.loc n) k s = some r) : False := by
  cases k <;> (unfold isiOf at h; dsimp only at h; try rw [eo] at h) <;> cases h
theorem isi_at_none {n : Nat} {s : S} {r : Rs Bool × S} (eo : s[n]? = none) (k : Kd) (h : isiOf sub (.loc n) k s = some r) : False := by
  cases k <;> (unfold isiOf at h; dsimp only at h; try rw [eo] at h) <;> cases h
/-- isinstance by values -/
theorem call_isi (Cs : Clss X.K cA sub) {k : Kd} :
    CallR X (.builtin "isinstance") (fun xs H Q => ∃ φ d v s bb, xs = [v, kdC cA k] ∧ Rep X.K cA φ H d v ∧ RepS X.K cA φ H s ∧ isiOf sub d k s = some (.ok bb, s) ∧ Q (.bl bb) H) := by
  intro pins sh σ H xs us Q I r ⟨φ, d, v, st, bb, e, rd, hS, hi, q⟩
  subst e
  obtain ⟨u, w, rfl, ru, rw_⟩ := Vals.two r
  have done_ : ∀ tk, EP X pins σ Q (.bool bb) { sh with toks := tk } := fun tk => ⟨.bl bb, H, I.tok tk, rfl, q⟩
  -- a thing of a built-in type T
  have bt : ∀ {T : String} {Hh : Heap → Prop}, PySem.W.KitX X.K u (.type T) Hh → Hh sh.heap → T ∈ ["NoneType", "bool", "int", "str", "tuple", "list", "dict"] → u ≠ Value.builtin "__main__.__loader__#opaque" → (∃ cu, kdV k = some cu ∧ w = cu ∧ kdB k T = bb) → wpAny (model X.prog X.w) X.A (PySem.call (.builtin "isinstance") [u, w]) (EP X pins σ Q) X.xe sh := fun {T Hh} Z hh hT hx ⟨cu, h1, h2, h3⟩ => by
    subst h2 h3
    exact PySem.W.kia_one Z I.kIn hh (kdB_ok h1 hT) hx done_
  have wv : ∀ cu, kdV k = some cu → w = cu := fun cu h => by
    cases k <;> simp only [kdV] at h <;> cases h <;> exact rw_
  have fin : ∀ T, isiOf sub d k st = (match kdV k with | some _ => some (.ok (kdB k T), st) | none => none) → ∃ cu, kdV k = some cu ∧ w = cu ∧ kdB k T = bb := fun T h => by
    rw [hi] at h
    cases z : kdV k with
    | none => rw [z] at h; cases h
    | some cu => rw [z] at h; cases h; exact ⟨cu, rfl, wv cu z, rfl⟩
  cases rd with
  | non =>
    cases (show u = Value.none from ru)
    exact bt PySem.W.kitx_none trivial (by simp) (fun z => nomatch z) (fin "NoneType" (by cases k <;> rfl))
  | bl b =>
    cases (show u = Value.bool b from ru)
    exact bt PySem.W.kitx_bool trivial (by simp) (fun z => nomatch z) (fin "bool" (by cases k <;> rfl))
  | int i =>
    obtain ⟨t, z⟩ := (show ∃ t, u = Value.int i t from ru)
    cases z
    exact bt PySem.W.kitx_int trivial (by simp) (fun z => nomatch z) (fin "int" (by cases k <;> rfl))
  | str y =>
    obtain ⟨t, z⟩ := (show ∃ t, u = Value.str y t from ru)
    cases z
    exact bt PySem.W.kitx_str trivial (by simp) (fun z => nomatch z) (fin "str" (by cases k <;> rfl))
  | @tup ad xs vs h1 h2 =>
    cases (show u = Value.ref ad from ru)
    obtain ⟨its, _, ht, _⟩ := I.tuple h1
    obtain ⟨o, q1, q2, _⟩ := ht
    exact bt PySem.W.kitx_tuple ⟨o, q1, q2⟩ (by simp) (fun z => nomatch z) (fin "tuple" (by cases k <;> rfl))
  | @loc n ad hl =>
    cases (show u = Value.ref ad from ru)
    cases eo : st[n]? with
    | none => exact ((isi_at_none (sub := sub) eo k hi)).elim
    | some o =>
      cases o with
      | lst xs =>
        obtain ⟨vs, q1, _⟩ := hS.obj n _ ad eo hl
        obtain ⟨its, _, ⟨o, n', g1, g2, _, _⟩, _⟩ := I.list (SqL.of q1)
        exact bt PySem.W.kitx_list ⟨o, g1, g2⟩ (by simp) (fun z => nomatch z) (fin "list" (isi_at_lst eo k))
      | ro xs => exact ((isi_at_ro (sub := sub) eo k hi)).elim
      | dct xs =>
        obtain ⟨kvs, q1⟩ := hS.obj n _ ad eo hl
        obtain ⟨_, _, vs, _, o, es', ep, g1, g2, _⟩ := (show ObjOk X.prog X.w H sh.heap ad (.dK kvs) from I.hok ad _ q1)
        exact bt PySem.W.kitx_dict ⟨o, g1, g2.1⟩ (by simp) (fun z => nomatch z) (fin "dict" (isi_at_dct eo k))
  | @exc c ad hx =>
    cases (show u = Value.ref ad from ru)
    obtain ⟨⟨oe, vs, g1, g2, g3, g4⟩, _⟩ := (show ObjOk X.prog X.w H sh.heap ad (excO ad (cA c) none) from I.hok ad _ hx)
    have hI : ∃ ox od, PySem.W.InstAt sh.heap ad ox (cA c) od := ⟨oe, none, g1, g2, by unfold PySem.W.notCls; rw [g4], by rw [g3]; trivial⟩
    cases k with
    | cls e =>
      cases (show w = Value.ref (cA e) from rw_)
      have z : some (Rs.ok (sub c e), st) = some (.ok bb, st) := hi
      cases z
      exact PySem.W.kia_one (kitx_exc (Cs.xc c)) I.kIn hI (Cs.sub c e) (fun z => nomatch z) done_
    | verr =>
      cases (show w = Value.type "ValueError" from rw_)
      have z : some (Rs.ok true, st) = some (.ok bb, st) := hi
      cases z
      exact PySem.W.kia_one (kitx_exc (Cs.xc c)) I.kIn hI (Cs.verr c) (fun z => nomatch z) done_
    | _ => cases hi
theorem isi_same {d : D} {k : Kd} {s s' : S} {r : Rs Bool} (h : isiOf sub d k s = some (r, s')) : s' = s ∧ ∃ bb, r = .ok bb := by
  cases d with
  | loc n =>
    cases eo : s[n]? with
    | none => exact (isi_at_none (sub := sub) eo k h).elim
    | some o =>
      cases o with
      | lst xs => rw [isi_at_lst eo k] at h; cases k <;> cases h <;> exact ⟨rfl, _, rfl⟩
      | ro xs => exact (isi_at_ro (sub := sub) eo k h).elim
      | dct xs => rw [isi_at_dct eo k] at h; cases k <;> cases h <;> exact ⟨rfl, _, rfl⟩
  | _ => cases k <;> first | (cases h; exact ⟨rfl, _, rfl⟩) | cases h
theorem se_isi (Cs : Clss X.K cA sub) {k : Kd} {kx : Expr} (hg : Gl X "isinstance") (hm : X.mg "isinstance" = none) (ha : SE X cA sub calm F EX a A) (hk : PE X kx (tC (kdC cA k))) (h1 : starEach [a, kx] X.env = (false, eval a X.env) :: starEach [kx] X.env := by rfl) (h2 : starEach [kx] X.env = (false, eval kx X.env) :: starEach [] X.env := by rfl)
    (hpl : (backTo pos (starEach [kx] X.env)).any (·.1) = false := by rfl) : SE X cA sub calm F EX (.Call (.Name "isinstance" p) [a, kx] [] pos) (.isi A k) := PE.weak (pe_callB (call_isi Cs (k := k)) hg hm PyProof.Rows.boot_isinstance (pa_cons ha (pa_cons hk pa_nil h2) h1) (by decide) (by decide) h1 hpl) fun σ H Q hh => un hh fun φ τ s hL hS h =>
  useE hL hS h fun v H1 φ1 d s1 x1 hL1 hS1 r1 h1 => by
    show ∃ φ d' v' s bb, [v, kdC cA k] = [v', kdC cA k] ∧ _
    have h1 : Run X.K cA (M.bd (isiOf sub d k) fun bb => M.ret (D.bl bb)) φ1 H1 s1 (fun d _ φ' H' => ∀ v, Rep X.K cA φ' H' d v → Q v H') (eX cA EX σ) := h1
    unfold Run M.bd at h1
    cases ei : isiOf sub d k s1 with
    | none => rw [ei] at h1; exact h1.elim
    | some r =>
      obtain ⟨r, s2⟩ := r
      obtain ⟨rfl, bb, rfl⟩ := isi_same ei
      rw [ei] at h1
      exact ⟨φ1, d, v, s2, bb, rfl, r1, hS1, ei, h1 φ1 H1 Ext.refl hS1 _ (.bl bb)⟩
end
end It


set_option Elab.async false
set_option linter.all false
set_option maxRecDepth 100000
set_option maxHeartbeats 4000000
/-! THE MIRROR IS SOUND, 6: items, cuts, methods, dicts, long chains, calls. -/
namespace It
open PySem PySem.Spec PyProof.Rows L2

section
variable {X : Cx} {cA : Nat → Addr} {sub : Nat → Nat → Bool} {calm : Bool} {F : Fn} {EX : XS} {a b c d e o : Expr} {A B C Dd E' O : E} {pos p p2 apos : Pos} {es : List Expr} {Xs : Es} {x : Str} {φ : List Addr} {H : Hp} {s : S} {lo hi : Option Expr} {Lo Hi : Eo}
theorem Reps.atI {K : PySem.W.Frag} {ds : List D} {vs : List V} {i : Int} {d : D} (r : Reps K cA φ H ds vs) (h : ixAt ds i = some d) : ∃ v, L2.atI vs i = some v ∧ Rep K cA φ H d v := by
  unfold ixAt L2.atI at *
  rw [← r.len]
  obtain ⟨j, h1, h2⟩ := Option.bind_eq_some_iff.mp h
  obtain ⟨v, h3, h4⟩ := r.get h2
  exact ⟨v, by rw [h1]; exact h3, h4⟩
theorem se_ix (ha : SE X cA sub calm F EX a A) (hb : SE X cA sub calm F EX b B) (hs : PlainIx b := by intro _ _; rfl) : SE X cA sub calm F EX (.Subscript a b pos) (.ix A B) := PE.weak (pe_ix ix_seq ha hb hs) fun σ H Q hh => un hh fun φ τ s hL hS h => by
  refine useE hL hS h fun x H1 φ1 d1 s1 x1 hL1 hS1 r1 h1 => useE hL1 hS1 h1 fun y H2 φ2 d2 s2 x2 hL2 hS2 r2 h2 => ?_
  obtain ⟨i, e1, h3⟩ := Run.opt2 hS2 h2
  rw [isInt_eq e1] at r2
  obtain ⟨ad, xs, vs, rfl, sq, rs, h4, _, _⟩ := items_run hS2 (r1.mono x2) h3
  obtain ⟨d', e2, q⟩ := Run.opt hS2 h4
  obtain ⟨v, e3, rv⟩ := rs.atI e2
  rcases sq with sq | sq
  · exact .inl ⟨ad, vs, i, v, rfl, r2.of_int, sq, e3, q v rv⟩
  · exact .inr (.inl ⟨ad, vs, i, v, rfl, r2.of_int, sq, e3, q v rv⟩)
/-- a cut's bound -/
noncomputable def SOp (X : Cx) (cA : Nat → Addr) (sub : Nat → Nat → Bool) (calm : Bool) (F : Fn) (EX : XS) (oe : Option Expr) (m : Eo) : Prop :=
  PO X oe (fun σ H Q => ∃ φ τ s, RepL X.K cA φ H σ τ ∧ RepS X.K cA φ H s ∧ Run X.K cA (evo sub calm F m τ) φ H s (fun i _ φ' H' => Q i H') (eX cA EX σ))
theorem PO.weak {oe : Option Expr} {t t' : TO} (h : PO X oe t) (f : ∀ σ H Q, t' σ H Q → t σ H Q) : PO X oe t' := by
  intro pins s σ H Q I q
  exact h pins s σ H Q I (f σ H Q q)
theorem so_yes (ha : SE X cA sub calm F EX a A) : SOp X cA sub calm F EX (some a) (.yes A) := PO.weak (po_some ha) fun σ H Q hh => un hh fun φ τ s hL hS h => by
  refine useE hL hS h fun x H1 φ1 d1 s1 x1 hL1 hS1 r1 h1 => ?_
  obtain ⟨i, e1, h3⟩ := Run.opt2 hS1 h1
  rw [isInt_eq e1] at r1
  exact ⟨i, r1.of_int, h3.pure_ hS1⟩
theorem useO {β : Type} {σ : L2.St} {τ : Vs} {m : Eo} {k : Option Int → M β} {P : β → S → List Addr → Hp → Prop} (hL : RepL X.K cA φ H σ τ) (hS : RepS X.K cA φ H s) (h : Run X.K cA (M.bd (evo sub calm F m τ) k) φ H s P (eX cA EX σ)) {Q : Option Int → Hp → Prop}
    (f : ∀ i H1 φ1 s1, Ext cA φ H φ1 H1 → RepL X.K cA φ1 H1 σ τ → RepS X.K cA φ1 H1 s1 → Run X.K cA (k i) φ1 H1 s1 P (eX cA EX σ) → Q i H1) :
    ∃ φ τ s, RepL X.K cA φ H σ τ ∧ RepS X.K cA φ H s ∧ Run X.K cA (evo sub calm F m τ) φ H s (fun i _ φ' H' => Q i H') (eX cA EX σ) :=
  ⟨φ, τ, s, hL, hS, h.bd.imp fun i s1 φ1 H1 ⟨x1, r1, h1⟩ => f i H1 φ1 s1 x1 (hL.mono x1) r1 h1⟩
theorem Reps.cut {K : PySem.W.Frag} {ds : List D} {vs : List V} {l h : Option Int} (r : Reps K cA φ H ds vs) : Reps K cA φ H (cut ds l h) (cutV vs l h) := by
  unfold It.cut cutV
  rw [← r.len]
  exact (r.drop _).take _
theorem se_sl (ha : SE X cA sub calm F EX a A) (hl : SOp X cA sub calm F EX lo Lo) (hh : SOp X cA sub calm F EX hi Hi) : SE X cA sub calm F EX (.Subscript a (.Slice lo hi none p2) pos) (.sl A Lo Hi) := PE.weak (pe_slice sl_list ha hl hh) fun σ H Q hh => un hh fun φ τ s hL hS h => by
  refine useE hL hS h fun x H1 φ1 d1 s1 x1 hL1 hS1 r1 h1 => useO hL1 hS1 h1 fun l H2 φ2 s2 x2 hL2 hS2 h2 => useO hL2 hS2 h2 fun u H3 φ3 s3 x3 hL3 hS3 h3 => ?_
  have r3 := (r1.mono x2).mono x3
  cases d1 with
  | loc n =>
    obtain ⟨ad, xs, vs, rfl, _, rs, h4, sq, _⟩ := items_run hS3 r3 h3
    exact ⟨ad, vs, rfl, sq n rfl, fun p hp => h4 (φ3 ++ [p]) _ (Ext.newL hp) (hS3.newL hp rs.cut) _ (.loc (by rw [← hS3.len]; simp))⟩
  | _ => exact h3.elim
/-- {'k': 1} -/
theorem se_dct1 {j p1 j2 p3} {k : Str} {i : Int} : SE X cA sub calm F EX (.Dict [some (.Constant (.str k) j p1)] [.Constant (.int i) j2 p3] pos) (.dct1 k i) := PE.weak (pe_disp (pps_cons pe_str pe_int pps_nil) rfl rfl (by simp) (Nat.le_of_ble_eq_true rfl)) fun σ H Q hh => un hh fun φ τ s hL hS h => by
  intro p hp
  refine ⟨upd_same, [(.inr k, .int i)], rfl, Nat.le_of_ble_eq_true rfl, ?_⟩
  rw [upd_upd]
  exact h (φ ++ [p]) _ (Ext.newL hp) (hS.newD hp) _ (.loc (by rw [← hS.len]; simp))
/-- a < b < c < d -/
theorem se_ch3 {op op' op'' : CmpOp} {o1 o2 o3 : Cop} (h1 : OpR X (compareOp op) (rD X.K cA o1)) (h2 : OpR X (compareOp op') (rD X.K cA o2)) (h3 : OpR X (compareOp op'') (rD X.K cA o3)) (ha : SE X cA sub calm F EX a A) (hb : SE X cA sub calm F EX b B) (hc : SE X cA sub calm F EX c C) (hd : SE X cA sub calm F EX d Dd)
    (hm : lastMarks [op, op', op''] [b, c, d] = false := by with_unfolding_all rfl) : SE X cA sub calm F EX (.Compare a [op, op', op''] [b, c, d] pos) (.ch3 o1 o2 o3 A B C Dd) := by
  have key : PE X (.Compare a [op, op', op''] [b, c, d] pos) (fun σ H Q => tE X.K cA EX (ev sub calm F A) σ H fun x H1 => tE X.K cA EX (ev sub calm F B) σ H1 fun y H2 => rD X.K cA o1 x y H2 fun z H3 => ∃ k, z = .bl k ∧
      (if k = true then tE X.K cA EX (ev sub calm F C) σ H3 fun w' H4 => rD X.K cA o2 y w' H4 fun z2 H5 => ∃ k2, z2 = .bl k2 ∧ (if k2 = true then tE X.K cA EX (ev sub calm F Dd) σ H5 fun w2 H6 => rD X.K cA o3 w' w2 H6 Q else Q (.bl false) H5) else Q (.bl false) H3)) := by
    intro pins s σ H Q I h
    refine Compare_chain (thn (ha pins s σ H _ I h) fun v s1 ⟨x, H1, I1, r1, q1⟩ => chain_link (thn (hb pins s1 σ H1 _ I1 q1) fun u s2 ⟨y, H2, I2, r2, q2⟩ =>
      thn (h1 pins s2 σ H2 x y v u _ I2 r1 r2 q2) fun d s3 ⟨z, H3, I3, r3, k, e, q3⟩ => ?_)) hm
    subst e
    cases r3
    refine wpAny_truthy_bool ?_
    cases k with
    | false => exact ite_ff ⟨.bl false, H3, I3, rfl, q3⟩
    | true =>
      refine ite_tt (chain_link (thn (hc pins s3 σ H3 _ I3 q3) fun w' s4 ⟨z', H4, I4, r4, q4⟩ => thn (h2 pins s4 σ H4 y z' u w' _ I4 r2 r4 q4) fun d' s5 ⟨z2, H5, I5, r5, k2, e2, q5⟩ => ?_))
      subst e2
      cases r5
      refine wpAny_truthy_bool ?_
      cases k2 with
      | false => exact ite_ff ⟨.bl false, H5, I5, rfl, q5⟩
      | true => exact ite_tt (chain_last (thn (hd pins s5 σ H5 _ I5 q5) fun w2 s6 ⟨z3, H6, I6, r6, q6⟩ => h3 pins s6 σ H6 z' z3 w' w2 Q I6 r4 r6 q6))
  refine PE.weak key fun σ H Q hh => un hh fun φ τ s hL hS h => ?_
  refine useE hL hS h fun x H1 φ1 d1 s1 x1 hL1 hS1 r1 h1 => useE hL1 hS1 h1 fun y H2 φ2 d2 s2 x2 hL2 hS2 r2 h2 => ?_
  obtain ⟨k, e3, h5⟩ := Run.opt2 hS2 h2
  refine ⟨φ2, d1, d2, k, r1.mono x2, r2, e3, k, rfl, ?_⟩
  cases k with
  | false => exact iF (h5.pure_ hS2 _ (.bl _))
  | true =>
    refine iT (useE hL2 hS2 h5 fun z H3 φ3 d3 s3 x3 hL3 hS3 r3 h3 => ?_)
    obtain ⟨k2, e4, h6⟩ := Run.opt2 hS3 h3
    refine ⟨φ3, d2, d3, k2, r2.mono x3, r3, e4, k2, rfl, ?_⟩
    cases k2 with
    | false => exact iF (h6.pure_ hS3 _ (.bl _))
    | true =>
      refine iT (useE hL3 hS3 h6 fun w H4 φ4 d4 s4 x4 hL4 hS4 r4 h4 => ?_)
      obtain ⟨k3, e5, h7⟩ := Run.opt2 hS4 h4
      exact ⟨φ4, d3, d4, k3, r3.mono x4, r4, e5, h7.pure_ hS4 _ (.bl k3)⟩

/-! ### methods of a list of truths -/
noncomputable def isB (k : Bool) : Value → Bool
  | .bool c => c == k
  | _ => false
theorem isB_at {A : Around} {sh : Shared} {k : Bool} {bs : List Bool} {its : List Value} (rv : Vals (bs.map V.bl) its) : ∀ y, y ∈ its.toArray → SeqAt.EqAt A sh y (.bool k) (isB k y) := fun y hy => by
  have hy : y ∈ its := by simpa using hy
  obtain ⟨i, hi, e⟩ := List.getElem_of_mem hy
  have hl := rv.length
  rw [List.length_map] at hl
  obtain ⟨u, e1, e2⟩ := rv.get (i := i) (x := V.bl (bs[i]'(by omega))) (by rw [List.getElem?_map, List.getElem?_eq_getElem (by omega)]; rfl)
  rw [List.getElem?_eq_getElem hi, e] at e1
  cases e1
  cases e2
  exact SeqAt.EqAt.bool_bool _ _
theorem count_isB {k : Bool} : ∀ {bs : List Bool} {its : List Value}, Vals (bs.map V.bl) its → its.countP (isB k) = bs.count k
  | [], _, .nil => rfl
  | b :: bs, _, .cons r t => by
    cases r
    rw [List.countP_cons, List.count_cons, count_isB t]
    rfl
theorem mt_countB : MtR X "list.count" (fun x xs H Q => ∃ (l : Addr) (bs : List Bool) (b : Bool), x = .ref l ∧ xs = [.bl b] ∧ H l = some (.lst (bs.map V.bl)) ∧ Q (.int (bs.count b)) H) := by
  intro pins sh σ H x xs v us Q I rx r ⟨l, bs, b, e1, e2, hl, q⟩
  subst e1 e2
  cases (show v = Value.ref l from rx)
  obtain ⟨u, rfl, ru⟩ := Vals.one r
  cases (show u = Value.bool b from ru)
  obtain ⟨_, its, n, rv, hg⟩ := (show ObjOk X.prog X.w H sh.heap l (.lst (bs.map V.bl)) from I.hok l _ hl)
  refine call_meets PySem.F.slot_list_count ⟨_, hg, rfl⟩ PySem.F.entry_list_count (PySem.F.args_list_count_2 _ _) (SeqAt.list_countAt l its.toArray n none _ (.bool b) (isB b)) ⟨hg, isB_at rv, ?_⟩
  show EP X pins σ Q (.int _ _) _
  refine ⟨.int (bs.count b), H, I.tok _, ?_, q⟩
  rw [show its.toArray.toList = its from rfl, count_isB rv]
  exact ⟨_, rfl⟩
theorem idx_isB {k : Bool} : ∀ {bs : List Bool} {its : List Value} {j : Nat}, Vals (bs.map V.bl) its → bs.idxOf? k = some j → ∃ hj : j < its.length, isB k its[j] = true ∧ ∀ m (hm : m < its.length), m < j → isB k its[m] = false
  | [], _, j, .nil, h => by simp at h
  | b :: bs, _, j, .cons r t, h => by
    cases r
    rw [List.idxOf?_cons] at h
    by_cases hb : b = k
    · subst hb
      simp at h
      subst h
      exact ⟨Nat.zero_lt_succ _, by simp [isB], fun m hm z => absurd z (Nat.not_lt_zero _)⟩
    · have hb' : (b == k) = false := by simpa using hb
      rw [hb'] at h
      simp at h
      obtain ⟨j', h1, h2⟩ := h
      subst h2
      obtain ⟨hj, a1, a2⟩ := idx_isB t h1
      refine ⟨by simpa using hj, by simpa using a1, fun m hm z => ?_⟩
      cases m with
      | zero => simp [isB, hb']
      | succ m => simpa using a2 m (by simpa using hm) (by omega)
theorem mt_indexB : MtR X "list.index" (fun x xs H Q => ∃ (l : Addr) (bs : List Bool) (b : Bool) (j : Nat), x = .ref l ∧ xs = [.bl b] ∧ H l = some (.lst (bs.map V.bl)) ∧ bs.idxOf? b = some j ∧ Q (.int j) H) := by
  intro pins sh σ H x xs v us Q I rx r ⟨l, bs, b, j, e1, e2, hl, hj, q⟩
  subst e1 e2
  cases (show v = Value.ref l from rx)
  obtain ⟨u, rfl, ru⟩ := Vals.one r
  cases (show u = Value.bool b from ru)
  obtain ⟨hz, its, n, rv, hg⟩ := (show ObjOk X.prog X.w H sh.heap l (.lst (bs.map V.bl)) from I.hok l _ hl)
  obtain ⟨hlt, h1, h2⟩ := idx_isB rv hj
  have hs : (j : Int) < 2 ^ 63 - 1 := by
    have z := rv.length
    rw [sizeLine_eq] at hz
    omega
  refine call_meets PySem.F.slot_list_index ⟨_, hg, rfl⟩ PySem.F.entry_list_index (PySem.F.args_list_index_2 _ _) (SeqAt.list_indexAt l its.toArray n none _ (.bool b) (isB b) j (by simpa using hlt) hs (by simpa using h1) (fun m hm z => by simpa using h2 m (by simpa using hm) z)) ⟨hg, isB_at rv, ?_⟩
  exact ⟨.int j, H, I.tok _, ⟨_, rfl⟩, q⟩
end
end It


set_option Elab.async false
set_option linter.all false
set_option maxRecDepth 100000
set_option maxHeartbeats 4000000
/-! THE MIRROR IS SOUND, 7: methods, calls, comprehensions. -/
namespace It
open PySem PySem.Spec PyProof.Rows L2

section
variable {X : Cx} {cA : Nat → Addr} {sub : Nat → Nat → Bool} {calm : Bool} {F : Fn} {EX : XS} {a b c d e o : Expr} {A B C Dd E' O : E} {pos p p2 apos cpos : Pos} {es : List Expr} {Xs : Es} {x : Str} {φ : List Addr} {H : Hp} {s : S}
theorem se_meth {m : Mt} {id : String} {name : Str} {r : V → List V → Hp → VK → Prop} (slot : Slot "list" name id) (hty : typeOf (.builtin id) = pure (.type "method_descriptor")) (hm : MtR X id r)
    (hr : ∀ n ds v vs φ H s Q Ee, RepS X.K cA φ H s → Rep X.K cA φ H (.loc n) v → Reps X.K cA φ H ds vs → Run X.K cA (evMt m (.loc n) ds) φ H s (fun d _ φ' H' => ∀ v, Rep X.K cA φ' H' d v → Q v H') Ee → r v vs H Q)
    (ho : SE X cA sub calm F EX o O) (ha : SA X cA sub calm F EX (e :: es) Xs)
    (hbase : attributeBase o name X.env (eval o X.env) = eval o X.env := by rfl)
    (hfew : ((backTo cpos (starEach (e :: es) X.env)).all (fun x => !x.1) && (backToKw cpos (keywordEach [] X.env)).all (fun x => x.1.isSome)
      && decide ((e :: es).length + ([] : List Keyword).length + (if ([] : List Keyword).isEmpty then 0 else 1) < 30)) = true := by rfl)
    (hline : (apos.endLine == cpos.line) = true := by rfl) (hs : starEach (e :: es) X.env = (false, eval e X.env) :: starEach es X.env := by rfl) (hplain : (backTo cpos (starEach es X.env)).any (·.1) = false := by rfl) :
    SE X cA sub calm F EX (.Call (.Attribute o name apos) (e :: es) [] cpos) (.meth m O Xs) := PE.weak (pe_bm PySem.F.plainAttrs_list slot hty hm ho ha hbase hfew hline hs hplain) fun σ H Q hh => un hh fun φ τ s hL hS h => by
  refine useE hL hS h fun x H1 φ1 d1 s1 x1 hL1 hS1 r1 h1 => ?_
  cases d1 with
  | loc n =>
    obtain ⟨ad, xs, vs, rfl, e1, f1, g1, q1, h2⟩ := list_run hS1 r1 h1
    refine ⟨.inl ⟨rfl, vs, SqL.of g1⟩, useA hL1 hS1 h2 fun ys H2 φ2 ds s2 x2 hL2 hS2 r2 h3 => hr n ds _ ys φ2 H2 s2 Q _ hS2 (r1.mono x2) r2 h3⟩
  | _ => exact h1.elim
theorem blList {K : PySem.W.Frag} {α : Type} {n : Nat} {k : List Bool → M α} {v : V} {P : α → S → List Addr → Hp → Prop} {Ee : Nat → S → List Addr → Hp → Prop} (hS : RepS K cA φ H s) (r : Rep K cA φ H (.loc n) v) (h : Run K cA (M.bd (listOf (.loc n)) fun l => M.bd (M.opt (allBl l)) k) φ H s P Ee) :
    ∃ (ad : Addr) (bs : List Bool), v = .ref ad ∧ H ad = some (.lst (bs.map V.bl)) ∧ Run K cA (k bs) φ H s P Ee := by
  obtain ⟨ad, xs, vs, rfl, e1, f1, g1, q1, h2⟩ := list_run hS r h
  obtain ⟨bs, e2, h3⟩ := Run.opt2 hS h2
  exact ⟨ad, bs, rfl, by rw [g1, allBl_spec e2 q1], h3⟩
theorem mr_count (n : Nat) (ds : List D) (v : V) (vs : List V) (φ : List Addr) (H : Hp) (s : S) (Q : VK) (Ee : Nat → S → List Addr → Hp → Prop) (hS : RepS X.K cA φ H s) (r : Rep X.K cA φ H (.loc n) v) (rs : Reps X.K cA φ H ds vs) (h : Run X.K cA (evMt .count (.loc n) ds) φ H s (fun d _ φ' H' => ∀ v, Rep X.K cA φ' H' d v → Q v H') Ee) :
    ∃ (l : Addr) (bs : List Bool) (b : Bool), v = .ref l ∧ vs = [.bl b] ∧ H l = some (.lst (bs.map V.bl)) ∧ Q (.int (bs.count b)) H := by
  match ds, h, rs with
  | [.bl b], h, rs =>
    obtain ⟨w, rfl, q⟩ := rs.one
    obtain ⟨ad, bs, rfl, g, h⟩ := blList hS r h
    exact ⟨ad, bs, b, rfl, by rw [q.of_bl], g, h.pure_ hS _ (.int _)⟩
theorem mr_index (n : Nat) (ds : List D) (v : V) (vs : List V) (φ : List Addr) (H : Hp) (s : S) (Q : VK) (Ee : Nat → S → List Addr → Hp → Prop) (hS : RepS X.K cA φ H s) (r : Rep X.K cA φ H (.loc n) v) (rs : Reps X.K cA φ H ds vs) (h : Run X.K cA (evMt .index (.loc n) ds) φ H s (fun d _ φ' H' => ∀ v, Rep X.K cA φ' H' d v → Q v H') Ee) :
    ∃ (l : Addr) (bs : List Bool) (b : Bool) (j : Nat), v = .ref l ∧ vs = [.bl b] ∧ H l = some (.lst (bs.map V.bl)) ∧ bs.idxOf? b = some j ∧ Q (.int j) H := by
  match ds, h, rs with
  | [.bl b], h, rs =>
    obtain ⟨w, rfl, q⟩ := rs.one
    obtain ⟨ad, bs, rfl, g, h⟩ := blList hS r h
    obtain ⟨j, ej, h⟩ := Run.opt2 hS h
    exact ⟨ad, bs, b, j, rfl, by rw [q.of_bl], g, ej, h.pure_ hS _ (.int _)⟩

/-! ### calls of the text's defs -/
noncomputable def spF (K : PySem.W.Frag) (cA : Nat → Addr) (m : List D → M D) : Sp := fun vs H Q E => ∃ φ ds s, Reps K cA φ H ds vs ∧ RepS K cA φ H s ∧ Run K cA (m ds) φ H s (fun d _ φ' H' => ∀ v, Rep K cA φ' H' d v → Q v H') (fun c _ _ H' => E (.ref (cA c)) none H')
theorem se_call {cm : Bool} {k f : Nat} {fa : Addr} {fd : FuncData} {ps : List Str} (Fo : FnOk X.prog X.w X.K X.mg X.base (CXe X.prog X.w) cm k fa fd ps (spF X.K cA (F f))) (hcm : cm = true → X.calm = true) (hr : Room k X.A) (hg : Gl X x) (hm : X.mg x = some (.ref fa)) (hk : PySem.W.keepIn X.K (.ref fa) = true) (hb : Binds X.K fd ps []) (R : Raises X EX)
    (ha : SA X cA sub calm F EX (e :: es) Xs) (hdb : (x == ("__debug__" : Str)) = false := by decide) (he : starEach (e :: es) X.env = (false, eval e X.env) :: starEach es X.env := by rfl) (hpl : (backTo pos (starEach es X.env)).any (·.1) = false := by rfl) :
    SE X cA sub calm F EX (.Call (.Name x p) (e :: es) [] pos) (.call f Xs) := PE.weak (pe_callX Fo hcm hr hg hm hk hb R ha hdb he hpl) fun σ H Q hh => un hh fun φ τ s hL hS h =>
  useA hL hS h fun vs H1 φ1 ds s1 x1 hL1 hS1 r1 h1 => ⟨φ1, ds, s1, r1, hS1, h1⟩

/-! ### what is walked -/
noncomputable def iSeq (K : PySem.W.Frag) (te : TE) : TI := fun σ H R => te σ H fun v H1 => ∃ a, v = .ref a ∧ (((∃ xs, SqL K H1 a xs) ∧ R (Itl K a) H1) ∨ ((∃ xs, SqT K H1 a xs) ∧ R (Itt K a) H1))
theorem pi_seq {tg l : Expr} {te : TE} (he : PE X l te) : PI X tg l (iSeq X.K te) := by
  intro pins s σ H R I h
  refine thn (he pins s σ H _ I h) fun v s1 ⟨x, H1, I1, r1, a, e, q⟩ => ?_
  subst e
  cases r1
  rcases q with ⟨⟨xs, hq⟩, q⟩ | ⟨⟨xs, hq⟩, q⟩
  · obtain ⟨its, rv, p, hz⟩ := I1.list hq
    refine wpAny_pyIter_list p.isList ?_
    refine ⟨s1.heap.objs.size, [s1.heap.objs.size], _, _, H1, rfl, I1.kept (t' := s1.toks) fun b o e => Heap.get?_push_of_some _ e, turn_list a _, ⟨_, Heap.get?_push_size _ rfl, rfl, rfl⟩, fun b hb => ?_, q⟩
    have e : b = s1.heap.objs.size := by simpa using hb
    subst e
    exact I1.fpOk (Nat.le_refl _) (I1.hok.fresh (Nat.le_refl _))
  · obtain ⟨its, rv, p, hz⟩ := I1.tuple hq
    refine wpAny_pyIter_tuple (show s1.heap.IsTuple a its.toArray from p) ?_
    refine ⟨s1.heap.objs.size, [s1.heap.objs.size], _, _, H1, rfl, I1.kept (t' := s1.toks) fun b o e => Heap.get?_push_of_some _ e, turn_tuple a _, ⟨_, Heap.get?_push_size _ rfl, rfl, rfl⟩, fun b hb => ?_, q⟩
    have e : b = s1.heap.objs.size := by simpa using hb
    subst e
    exact I1.fpOk (Nat.le_refl _) (I1.hok.fresh (Nat.le_refl _))
theorem bd_assoc {α β γ : Type} (m : M α) (f : α → M β) (g : β → M γ) : M.bd (M.bd m f) g = M.bd m fun x => M.bd (f x) g := by
  funext s
  unfold M.bd
  cases m s with
  | none => rfl
  | some r =>
    obtain ⟨r, s1⟩ := r
    cases r <;> rfl
end

end It


set_option Elab.async false
set_option linter.all false
set_option maxRecDepth 100000
set_option maxHeartbeats 4000000
/-! THE MIRROR IS SOUND, 8: comprehensions. -/
namespace It
open PySem PySem.Spec PyProof.Rows L2

section
variable {K : PySem.W.Frag} {cA : Nat → Addr}
/-- the walk of d, that stands at a -/
noncomputable def jOf (K : PySem.W.Frag) (d : D) (a : Addr) : L2.It := match d with
  | .tup _ => Itt K a
  | _ => Itl K a
theorem item_sq {φ : List Addr} {H : Hp} {s : S} {d : D} {a : Addr} {i : Nat} {o : Option D} (hS : RepS K cA φ H s) (r : Rep K cA φ H d (.ref a)) (h : itemAt d i s = some o) : ∃ xs vs, o = xs[i]? ∧ Reps K cA φ H xs vs ∧ ((jOf K d a = Itl K a ∧ SqL K H a vs) ∨ (jOf K d a = Itt K a ∧ SqT K H a vs)) := by
  cases r with
  | @loc n _ hl =>
    simp only [itemAt] at h
    cases e : s[n]? with
    | none => rw [e] at h; cases h
    | some ob =>
      rw [e] at h
      cases ob with
      | lst xs =>
        obtain ⟨vs, q1, q2⟩ := hS.obj n _ _ e hl
        cases h
        exact ⟨xs, vs, rfl, q2, .inl ⟨rfl, SqL.of q1⟩⟩
      | ro xs =>
        obtain ⟨vs, q1, q2⟩ := hS.obj n _ _ e hl
        cases h
        exact ⟨xs, vs, rfl, q2, .inl ⟨rfl, q1.sq⟩⟩
      | dct xs => cases h
  | tup h1 h2 => cases h; exact ⟨_, _, rfl, h2, .inr ⟨rfl, h1⟩⟩
  | exc h1 => simp [itemAt] at h
theorem w_stop {φ : List Addr} {H : Hp} {s : S} {d : D} {a : Addr} {i : Nat} (hS : RepS K cA φ H s) (r : Rep K cA φ H d (.ref a)) (h : itemAt d i s = some none) : (jOf K d a).stop i H := by
  obtain ⟨xs, vs, e, q, sq⟩ := item_sq hS r h
  have hl : vs.length ≤ i := by
    have z := q.none e.symm
    exact List.getElem?_eq_none_iff.mp z
  rcases sq with ⟨e1, sq⟩ | ⟨e1, sq⟩ <;> rw [e1] <;> exact ⟨vs, sq, hl⟩
theorem w_go {φ : List Addr} {H : Hp} {s : S} {d x : D} {a : Addr} {i : Nat} (hS : RepS K cA φ H s) (r : Rep K cA φ H d (.ref a)) (h : itemAt d i s = some (some x)) : (jOf K d a).go i H := by
  obtain ⟨xs, vs, e, q, sq⟩ := item_sq hS r h
  obtain ⟨v, q1, _⟩ := q.get e.symm
  rcases sq with ⟨e1, sq⟩ | ⟨e1, sq⟩ <;> rw [e1] <;> exact ⟨vs, v, sq, q1⟩
theorem w_yld {φ : List Addr} {H H' : Hp} {s : S} {d x : D} {v : V} {a : Addr} {i : Nat} (hS : RepS K cA φ H s) (r : Rep K cA φ H d (.ref a)) (h : itemAt d i s = some (some x)) (y : (jOf K d a).yld i H v H') : H' = H ∧ Rep K cA φ H x v := by
  obtain ⟨xs, vs, e, q, sq⟩ := item_sq hS r h
  obtain ⟨u, q1, q2⟩ := q.get e.symm
  rcases sq with ⟨e1, sq⟩ | ⟨e1, sq⟩ <;> rw [e1] at y <;> obtain ⟨rfl, z⟩ := y <;> have z1 := z vs sq <;> rw [q1] at z1 <;> cases z1 <;> exact ⟨rfl, q2⟩
/-- the start of a walk -/
theorem w_start {φ : List Addr} {H : Hp} {s : S} {d : D} {v : V} {R : L2.It → Hp → Prop} {α : Type} {k : Nat → M α} {P : α → S → List Addr → Hp → Prop} {Ee : Nat → S → List Addr → Hp → Prop} (hS : RepS K cA φ H s) (r : Rep K cA φ H d v) (h : Run K cA (M.bd (lenOf d) k) φ H s P Ee)
    (f : ∀ a n, v = .ref a → Run K cA (k n) φ H s P Ee → R (jOf K d a) H) : ∃ a, v = .ref a ∧ (((∃ xs, SqL K H a xs) ∧ R (Itl K a) H) ∨ ((∃ xs, SqT K H a xs) ∧ R (Itt K a) H)) := by
  cases r with
  | @loc n a hl =>
    unfold Run M.bd lenOf at h
    dsimp only at h
    cases e : s[n]? with
    | none => rw [e] at h; exact h.elim
    | some ob =>
      rw [e] at h
      cases ob with
      | lst xs =>
        obtain ⟨vs, q1, q2⟩ := hS.obj n _ _ e hl
        exact ⟨a, rfl, .inl ⟨⟨vs, SqL.of q1⟩, f a xs.length rfl h⟩⟩
      | ro xs =>
        obtain ⟨vs, q1, q2⟩ := hS.obj n _ _ e hl
        exact ⟨a, rfl, .inl ⟨⟨vs, q1.sq⟩, f a xs.length rfl h⟩⟩
      | dct xs => exact h.elim
  | @tup a xs vs h1 h2 => exact ⟨a, rfl, .inr ⟨⟨_, h1⟩, f a xs.length rfl h⟩⟩
  | _ => exact h.elim
end
section
variable {K : PySem.W.Frag} {cA : Nat → Addr} {φ φ' : List Addr} {H H' : Hp} {s : S}
theorem run_ext {α : Type} {m : M α} {P : α → S → List Addr → Hp → Prop} {Ee : Nat → S → List Addr → Hp → Prop} (x : Ext cA φ H φ' H') (h : Run K cA m φ H s P Ee) : Run K cA m φ' H' s P Ee := by
  unfold Run at *
  split at h
  · exact fun φ2 H2 y r => h φ2 H2 (x.trans y) r
  · exact fun φ2 H2 y r => h φ2 H2 (x.trans y) r
  · exact h.elim
theorem run_at {α β : Type} {m m' : M α} {k : α → M β} {P : β → S → List Addr → Hp → Prop} {Ee : Nat → S → List Addr → Hp → Prop} (e : m s = m' s) (h : Run K cA (M.bd m k) φ H s P Ee) : Run K cA (M.bd m' k) φ H s P Ee := by
  unfold Run M.bd at *
  rw [← e]
  exact h
theorem run_qt {α β : Type} {m : M α} {k : α → M β} {P : β → S → List Addr → Hp → Prop} {Ee Ee' : Nat → S → List Addr → Hp → Prop} (h : Run K cA (M.bd (M.qt m) k) φ H s P Ee) : Run K cA m φ H s (fun a s1 φ1 H1 => Ext cA φ H φ1 H1 ∧ RepS K cA φ1 H1 s1 ∧ Run K cA (k a) φ1 H1 s1 P Ee) Ee' := by
  have h2 := h.bd
  unfold Run at h2 ⊢
  unfold M.qt at h2
  cases e : m s with
  | none => rw [e] at h2; exact h2
  | some r =>
    obtain ⟨r, s1⟩ := r
    rw [e] at h2
    cases r with
    | ok a => exact h2
    | er c => exact h2.elim
end
section
variable {X : Cx} {cA : Nat → Addr} {sub : Nat → Nat → Bool} {calm : Bool} {F : Fn} {EX : XS} {elt iter : Expr} {A B : E} {pos p : Pos} {ifs : List Expr} {scope : Scope} {N : List Str} {cond : Eo} {fr : List Nat} {tgx : Str} {tp : Pos}
/-- the tests of a clause -/
noncomputable def STs (X : Cx) (cA : Nat → Addr) (sub : Nat → Nat → Bool) (calm : Bool) (F : Fn) (EX : XS) (ifs : List Expr) (m : Eo) : Prop := PTs X ifs (tTs X.K cA EX (evc sub calm F m))
theorem sts_no : STs X cA sub calm F EX [] .no := fun pins s σ H Q I ⟨φ, τ, st, hL, hS, h⟩ => pts_nil pins s σ H Q I (h.pure_ hS)
/-- a block's free names -/
noncomputable def frees (fr : List Nat) (σ : L2.St) : L2.St := none :: fr.map fun j => (σ[j]?).join
theorem frees_rep {φ : List Addr} {H : Hp} {σ : L2.St} {τ : Vs} (hL : RepL X.K cA φ H σ τ) (o : Option D) (w : Option V) (h : ∀ d, o = some d → ∃ v, w = some v ∧ Rep X.K cA φ H d v) : RepL X.K cA φ H (w :: fr.map fun j => (σ[j]?).join) (o :: fr.map fun j => τ[j]?.join) := by
  refine ⟨by simp, fun i d e => ?_⟩
  cases i with
  | zero =>
    simp at e
    obtain ⟨v, q1, q2⟩ := h d e
    exact ⟨v, by simp [q1], q2⟩
  | succ i =>
    simp only [List.getElem?_cons_succ, List.getElem?_map, Option.map_eq_some_iff] at e ⊢
    obtain ⟨j, e1, e2⟩ := e
    have e3 : τ[j]? = some (some d) := by
      cases z : τ[j]? with
      | none => rw [z] at e2; cases e2
      | some y => rw [z] at e2; cases y with
        | none => cases e2
        | some y => cases e2; rfl
    obtain ⟨v, q1, q2⟩ := hL.2 j d e3
    exact ⟨v, ⟨j, e1, by rw [q1]; rfl⟩, q2⟩
theorem se_comp (hcm : calm = true → X.calm = true) (hc : X.calm = true) (B' : BlkOk X.env.scope scope) (hi : SE X cA sub calm F EX iter A) (hN : N.length = fr.length + 1) (hN0 : N[0]? = some tgx) (hloc : scope.names.lookup tgx = some .local) (hnd : N.Nodup)
    (hfr : ∀ (i : Nat) (y : Str) (j : Nat), N[i + 1]? = some y → fr[i]? = some j → scope.names.lookup y = some .free ∧ X.N[j]? = some y)
    (ht : ∀ cl C s3 H3 fp pins, STs (X.blk scope cl N C s3 H3 fp pins) cA sub calm F (fun _ _ _ _ => False) ifs cond) (he : ∀ cl C s3 H3 fp pins, SE (X.blk scope cl N C s3 H3 fp pins) cA sub calm F (fun _ _ _ _ => False) elt B)
    (hs : ∀ x, foldedSetIterable iter X.env x = pure x := by intro _; rfl) : SE X cA sub calm F EX (.ListComp elt [⟨.Name tgx tp, iter, ifs, 0⟩] scope pos) (.comp B A fr cond) := by
  have P : Parts X elt (.Name tgx tp) ifs scope N (gName 0) (tTs X.K cA (fun _ _ _ _ => False) (evc sub calm F cond)) (tE X.K cA (fun _ _ _ _ => False) (ev sub calm F B)) :=
    ⟨fun cl C s3 H3 fp pins => pg_name hnd hN0 (.inl (lookup_relabel_local hloc)) (.inr (lookup_relabel_local hloc)), ht, he⟩
  refine PE.weak (pe_comp hc B' (pi_seq hi) P (σY := frees fr) (fun σ => by simp [frees, hN]) (fun σ i x v e1 e2 => ?_) hs) fun σ H Q hh => un hh fun φ τ s hL hS h => ?_
  · cases i with
    | zero => simp [frees] at e2
    | succ i =>
      simp only [frees, List.getElem?_cons_succ, List.getElem?_map, Option.map_eq_some_iff] at e2
      obtain ⟨j, e3, e4⟩ := e2
      obtain ⟨a1, a2⟩ := hfr i x j e1 e3
      refine ⟨a1, j, a2, ?_⟩
      cases z : σ[j]? with
      | none => rw [z] at e4; cases e4
      | some y => rw [z] at e4; cases y with
        | none => cases e4
        | some y => cases e4; rfl
  · refine useE hL hS h fun x H1 φ1 d1 s1 x1 hL1 hS1 r1 h1 => w_start (R := fun J H1 => tBlk (frees fr) (gName 0) (tTs X.K cA (fun _ _ _ _ => False) (evc sub calm F cond)) (tE X.K cA (fun _ _ _ _ => False) (ev sub calm F B)) J σ H1 Q) hS1 r1 h1 fun a n ea h2 => ?_
    subst ea
    by_cases hcal : calm = true
    · rw [if_pos hcal] at h2
      intro D hD
      have key : ∀ φ' H', Ext cA φ1 H1 φ' H' → RepL X.K cA φ' H' σ τ ∧ Rep X.K cA φ' H' d1 (.ref a) := fun φ' H' x => ⟨hL1.mono x, r1.mono x⟩
      have x0 : Ext cA φ1 H1 (φ1 ++ [D]) (upd H1 D (.lst [])) := Ext.newL hD
      have hlen : (φ1 ++ [D])[s1.length]? = some D := by rw [← hS1.len]; simp
      refine ⟨fun i m σ' H' => m = n + 1 - i ∧ ∃ φ' s' w, Ext cA (φ1 ++ [D]) (upd H1 D (.lst [])) φ' H' ∧ σ' = (w :: fr.map fun j => (σ[j]?).join) ∧ RepS X.K cA φ' H' s' ∧
        Run X.K cA (M.bd (walk d1 (fun d => M.bd (M.qt (evc sub calm F cond (some d :: fr.map fun j => τ[j]?.join))) fun ok => if ok = true then M.bd (M.qt (ev sub calm F B (some d :: fr.map fun j => τ[j]?.join))) fun y => push s1.length y else M.ret ()) (n + 1 - i) i) fun _ => M.ret (.loc s1.length)) φ' H' s' (fun d _ φ' H' => ∀ v, Rep X.K cA φ' H' d v → Q v H') (eX cA EX σ), ⟨n + 1, rfl, φ1 ++ [D], s1 ++ [.lst []], none, Ext.refl, rfl, hS1.newL hD .nil, ?_⟩, ?_⟩
      · exact run_ext x0 h2
      · rintro i m σ' H' ⟨rfl, φ', s', w, x2, rfl, hS2, h3⟩
        obtain ⟨hL2, rd⟩ := key φ' H' (x0.trans x2)
        cases ek : n + 1 - i with
        | zero => rw [ek] at h3; exact h3.elim
        | succ k =>
          rw [ek] at h3
          cases ei : itemAt d1 i s' with
          | none =>
            exfalso
            unfold Run M.bd walk at h3
            simp only [ei] at h3
          | some oi =>
            cases oi with
            | none =>
              refine .inl ⟨w_stop hS2 rd ei, ?_⟩
              have h4 : Run X.K cA (M.ret (.loc s1.length)) φ' H' s' (fun d _ φ' H' => ∀ v, Rep X.K cA φ' H' d v → Q v H') (eX cA EX σ) := by
                unfold Run M.bd walk at h3
                simp only [ei] at h3
                exact h3
              exact h4.pure_ hS2 _ (.loc (x2.get hlen))
            | some xi =>
              refine .inr ⟨w_go hS2 rd ei, fun σ2 H2 => ∃ φ' s' w, Ext cA (φ1 ++ [D]) (upd H1 D (.lst [])) φ' H2 ∧ σ2 = (w :: fr.map fun j => (σ[j]?).join) ∧ RepS X.K cA φ' H2 s' ∧
                Run X.K cA (M.bd (walk d1 (fun d => M.bd (M.qt (evc sub calm F cond (some d :: fr.map fun j => τ[j]?.join))) fun ok => if ok = true then M.bd (M.qt (ev sub calm F B (some d :: fr.map fun j => τ[j]?.join))) fun y => push s1.length y else M.ret ()) k (i + 1)) fun _ => M.ret (.loc s1.length)) φ' H2 s' (fun d _ φ' H' => ∀ v, Rep X.K cA φ' H' d v → Q v H') (eX cA EX σ), fun σ2 H2 hn => ⟨k, by omega, by omega, ?_⟩, fun v H2 hy => ?_⟩
              · have : n + 1 - (i + 1) = k := by omega
                rw [this]
                exact hn
              · obtain ⟨rfl, rx⟩ := w_yld hS2 rd ei hy
                have h4 : Run X.K cA (M.bd (M.qt (evc sub calm F cond (some xi :: fr.map fun j => τ[j]?.join))) fun ok => M.bd (if ok = true then M.bd (M.qt (ev sub calm F B (some xi :: fr.map fun j => τ[j]?.join))) fun y => push s1.length y else M.ret ()) fun _ =>
                    M.bd (walk d1 (fun d => M.bd (M.qt (evc sub calm F cond (some d :: fr.map fun j => τ[j]?.join))) fun ok => if ok = true then M.bd (M.qt (ev sub calm F B (some d :: fr.map fun j => τ[j]?.join))) fun y => push s1.length y else M.ret ()) k (i + 1)) fun _ => M.ret (.loc s1.length)) φ' H2 s' (fun d _ φ' H' => ∀ v, Rep X.K cA φ' H' d v → Q v H') (eX cA EX σ) := by
                  have h5 := run_at (m' := M.bd (M.bd (M.qt (evc sub calm F cond (some xi :: fr.map fun j => τ[j]?.join))) fun ok => if ok = true then M.bd (M.qt (ev sub calm F B (some xi :: fr.map fun j => τ[j]?.join))) fun y => push s1.length y else M.ret ()) fun _ =>
                    walk d1 (fun d => M.bd (M.qt (evc sub calm F cond (some d :: fr.map fun j => τ[j]?.join))) fun ok => if ok = true then M.bd (M.qt (ev sub calm F B (some d :: fr.map fun j => τ[j]?.join))) fun y => push s1.length y else M.ret ()) k (i + 1)) (by rw [walk]; simp only [ei]) h3
                  rw [bd_assoc, bd_assoc] at h5
                  exact h5
                have hLb : RepL X.K cA φ' H2 (some v :: fr.map fun j => (σ[j]?).join) (some xi :: fr.map fun j => τ[j]?.join) := frees_rep hL2 (some xi) (some v) fun d e => by cases e; exact ⟨v, rfl, rx⟩
                show tTs X.K cA (fun _ _ _ _ => False) (evc sub calm F cond) (some v :: fr.map fun j => (σ[j]?).join) H2 _
                refine ⟨φ', _, s', hLb, hS2, (run_qt h4).imp fun ok s4 φ4 H4 ⟨x4, hS4, h6⟩ => ?_⟩
                cases ok with
                | false =>
                  refine iF ⟨φ4, s4, some v, x2.trans x4, rfl, hS4, ?_⟩
                  exact h6
                | true =>
                  refine iT ⟨φ4, _, s4, hLb.mono x4, hS4, ?_⟩
                  rw [if_pos rfl, bd_assoc] at h6
                  refine (run_qt h6).imp fun y s5 φ5 H5 ⟨x5, hS5, h7⟩ u ru => ?_
                  have hD5 : φ5[s1.length]? = some D := x5.get (x4.get (x2.get hlen))
                  unfold Run M.bd push at h7
                  cases es : s5[s1.length]? with
                  | none => simp only [es] at h7
                  | some ob =>
                    cases ob with
                    | lst ys =>
                      obtain ⟨vs, q1, q2⟩ := hS5.obj _ _ _ es hD5
                      by_cases hz : ys.length < sizeLine
                      · simp only [es, if_pos hz] at h7
                        refine ⟨vs, q1, by rw [← q2.len]; exact hz, φ5, s5.set s1.length (.lst (ys ++ [y])), some v, ((x2.trans x4).trans x5).trans (Ext.write q1), rfl, hS5.write es hD5 q1 (q2.app (.cons ru .nil)), ?_⟩
                        exact run_ext (Ext.write q1) h7
                      · simp only [es, if_neg hz] at h7
                    | ro ys => simp only [es] at h7
                    | dct ys => simp only [es] at h7
    · rw [if_neg hcal] at h2
      exact h2.elim
end
end It


set_option Elab.async false
set_option linter.all false
set_option maxRecDepth 100000
set_option maxHeartbeats 400000
/-! THE MIRROR IS SOUND, 9: statements. -/
namespace It
open PySem PySem.Spec PyProof.Rows L2

section
variable (K : PySem.W.Frag) (cA : Nat → Addr)
noncomputable def RunS (m : MS) (φ : List Addr) (H : Hp) (s : S) (D : Ends) (EX : XS) : Prop := match m s with
  | some (.nx τ, s') => ∀ φ' H' σ', Ext cA φ H φ' H' → RepS K cA φ' H' s' → RepL K cA φ' H' σ' τ → D.nx σ' H'
  | some (.bk τ, s') => ∀ φ' H' σ', Ext cA φ H φ' H' → RepS K cA φ' H' s' → RepL K cA φ' H' σ' τ → D.bk σ' H'
  | some (.ct τ, s') => ∀ φ' H' σ', Ext cA φ H φ' H' → RepS K cA φ' H' s' → RepL K cA φ' H' σ' τ → D.ct σ' H'
  | some (.rt d, s') => ∀ φ' H' v, Ext cA φ H φ' H' → RepS K cA φ' H' s' → Rep K cA φ' H' d v → D.rt v H'
  | some (.er c τ, s') => ∀ φ' H' σ', Ext cA φ H φ' H' → RepS K cA φ' H' s' → RepL K cA φ' H' σ' τ → EX σ' (.ref (cA c)) none H'
  | none => False
noncomputable def tS (EX : XS) (m : Vs → MS) : TS := fun D σ H => ∃ φ τ s, RepL K cA φ H σ τ ∧ RepS K cA φ H s ∧ RunS K cA (m τ) φ H s D EX
end
section
variable {K : PySem.W.Frag} {cA : Nat → Addr} {φ φ' : List Addr} {H H' : Hp} {s : S} {σ : L2.St} {τ : Vs} {EX : XS} {D : Ends}
theorem RunS.ext {m : MS} (x : Ext cA φ H φ' H') (h : RunS K cA m φ H s D EX) : RunS K cA m φ' H' s D EX := by
  unfold RunS at *
  split at h <;> first
    | exact fun φ2 H2 a y r l => h φ2 H2 a (x.trans y) r l
    | exact h.elim
theorem RunS.ofM {α : Type} {m : M α} {k : α → MS} (hL : RepL K cA φ H σ τ) (h : RunS K cA (ofM m τ k) φ H s D EX) : Run K cA m φ H s (fun a s1 φ1 H1 => Ext cA φ H φ1 H1 ∧ RepS K cA φ1 H1 s1 ∧ RunS K cA (k a) φ1 H1 s1 D EX) (eX cA EX σ) := by
  unfold RunS It.ofM at h
  unfold Run
  cases e : m s with
  | none => rw [e] at h; exact h
  | some r =>
    obtain ⟨r, s1⟩ := r
    rw [e] at h
    cases r with
    | er c => exact fun φ1 H1 x r => h φ1 H1 σ x r (hL.mono x)
    | ok a =>
      intro φ1 H1 x r
      refine ⟨x, r, ?_⟩
      have h2 : RunS K cA (k a) φ H s1 D EX := h
      exact h2.ext x
theorem RunS.then_ {m : MS} {k : Vs → MS} (h : RunS K cA (thenS m k) φ H s D EX) : RunS K cA m φ H s { D with nx := fun σ' H' => ∃ φ' τ' s', RepL K cA φ' H' σ' τ' ∧ RepS K cA φ' H' s' ∧ RunS K cA (k τ') φ' H' s' D EX } EX := by
  unfold RunS thenS at h
  unfold RunS
  cases e : m s with
  | none => rw [e] at h; exact h
  | some r =>
    obtain ⟨r, s1⟩ := r
    rw [e] at h
    cases r with
    | nx τ =>
      intro φ1 H1 σ1 x r l
      have h2 : RunS K cA (k τ) φ H s1 D EX := h
      exact ⟨φ1, τ, s1, l, r, h2.ext x⟩
    | bk τ => exact h
    | ct τ => exact h
    | rt d => exact h
    | er c τ => exact h
theorem RepL.set {i : Nat} {d : It.D} {v : V} (hL : RepL K cA φ H σ τ) (r : Rep K cA φ H d v) : RepL K cA φ H (σ.set i (some v)) (τ.set i (some d)) := by
  refine ⟨by rw [List.length_set, List.length_set]; exact hL.1, fun j e h => ?_⟩
  by_cases hij : i = j
  · subst hij
    by_cases hl : i < τ.length
    · rw [List.getElem?_set_self hl] at h
      cases h
      exact ⟨v, by rw [List.getElem?_set_self (by rw [hL.1]; exact hl)], r⟩
    · rw [List.getElem?_eq_none (by rw [List.length_set]; omega)] at h; cases h
  · rw [List.getElem?_set_ne hij] at h
    obtain ⟨u, a, b⟩ := hL.2 j e h
    exact ⟨u, by rw [List.getElem?_set_ne hij]; exact a, b⟩
theorem RepL.unset {i : Nat} (hL : RepL K cA φ H σ τ) : RepL K cA φ H (σ.set i none) (τ.set i none) := by
  refine ⟨by rw [List.length_set, List.length_set]; exact hL.1, fun j e h => ?_⟩
  by_cases hij : i = j
  · subst hij
    by_cases hl : i < τ.length
    · rw [List.getElem?_set_self hl] at h; cases h
    · rw [List.getElem?_eq_none (by rw [List.length_set]; omega)] at h; cases h
  · rw [List.getElem?_set_ne hij] at h
    obtain ⟨u, a, b⟩ := hL.2 j e h
    exact ⟨u, by rw [List.getElem?_set_ne hij]; exact a, b⟩
end

section
variable (X : Cx) (cA : Nat → Addr) (sub : Nat → Nat → Bool) (calm : Bool) (F : Bool → Fn) (EX : XS)
noncomputable def SS (st : Stmt) (m : St) : Prop := PS X st (tS X.K cA EX (ex sub calm F m))
noncomputable def SSs (st : List Stmt) (m : Sts) : Prop := PSs X st (tS X.K cA EX (exs sub calm F m))
end
section
variable {X : Cx} {cA : Nat → Addr} {sub : Nat → Nat → Bool} {calm : Bool} {F : Bool → Fn} {EX : XS} {a b c d e : Expr} {A B C : E} {pos p p2 : Pos} {st : Stmt} {sts body orelse : List Stmt} {m : St} {ms mb me : Sts} {es : List Expr} {Xs : Es} {x y : Str} {i j : Nat}
theorem PS.weak {t t' : TS} (h : PS X st t) (f : ∀ D σ H, t' D σ H → t D σ H) : PS X st t' := fun pins s σ H D I q => h pins s σ H D I (f D σ H q)
theorem PSs.weak {t t' : TS} (h : PSs X sts t) (f : ∀ D σ H, t' D σ H → t D σ H) : PSs X sts t' := fun pins s σ H D I q => h pins s σ H D I (f D σ H q)
theorem sss_nil : SSs X cA sub calm F EX [] .nil := PSs.weak pss_nil fun D σ H hh => un hh fun φ τ s hL hS h => h φ H σ Ext.refl hS hL
theorem sss_cons (h1 : SS X cA sub calm F EX st m) (h2 : SSs X cA sub calm F EX sts ms) : SSs X cA sub calm F EX (st :: sts) (.cons m ms) := PSs.weak (pss_cons h1 h2) fun D σ H hh => un hh fun φ τ s hL hS h => by
  have h : RunS X.K cA (thenS (ex sub calm F m τ) fun τ' => exs sub calm F ms τ') φ H s D EX := h
  exact ⟨φ, τ, s, hL, hS, h.then_⟩
theorem ss_ex (ha : SE X cA sub calm (F calm) EX a A) (hs : swapsWith a none pos.line X.env = pure false := by rfl) : SS X cA sub calm F EX (.Expr a pos) (.ex A) := PS.weak (ps_expr ha hs) fun D σ H hh => un hh fun φ τ s hL hS h =>
  ⟨φ, τ, s, hL, hS, (RunS.ofM hL h).imp fun d s1 φ1 H1 ⟨x1, hS1, h1⟩ v rv => h1 φ1 H1 σ Ext.refl hS1 (hL.mono x1)⟩
theorem ss_ret (ha : SE X cA sub calm (F calm) EX a A) : SS X cA sub calm F EX (.Return (some a) pos) (.ret A) := PS.weak (ps_ret ha) fun D σ H hh => un hh fun φ τ s hL hS h =>
  ⟨φ, τ, s, hL, hS, (RunS.ofM hL h).imp fun d s1 φ1 H1 ⟨x1, hS1, h1⟩ v rv => h1 φ1 H1 v Ext.refl hS1 rv⟩
theorem ss_set (hN : X.N.Nodup) (hi : X.N[i]? = some x) (hx : Loc X.env.scope x) (ha : SE X cA sub calm (F calm) EX a A) (hs : swapsWith a (some (.Name x p)) pos.line X.env = pure false := by rfl) (hf : X.fn x = true ∨ X.env.scope.names.lookup x = some .local := by first | exact .inl rfl | exact .inr rfl) :
    SS X cA sub calm F EX (.Assign [.Name x p] a pos) (.asg (.nm i) A) := PS.weak (ps_set hN hi hx ha hs hf) fun D σ H hh => un hh fun φ τ s hL hS h =>
  ⟨φ, τ, s, hL, hS, (RunS.ofM hL h).imp fun d s1 φ1 H1 ⟨x1, hS1, h1⟩ v rv => h1 φ1 H1 _ Ext.refl hS1 ((hL.mono x1).set rv)⟩
/-- the target (a, b) -/
theorem st_tup2 {k} {px py : Pos} (hc : X.calm = true) (hN : X.N.Nodup) (hi : X.N[i]? = some x) (hj : X.N[j]? = some y) (hx : Loc X.env.scope x) (hy : Loc X.env.scope y) (hfx : X.fn x = true ∨ X.env.scope.names.lookup x = some .local) (hfy : X.fn y = true ∨ X.env.scope.names.lookup y = some .local) :
    PG X (.Tuple [.Name x px, .Name y py] k pos) (gTup X.K 2 (gCons (gName i) (gCons (gName j) gNil))) := pg_tup hc (pgs_cons (pg_name hN hi hx hfx) (pgs_cons (pg_name hN hj hy hfy) pgs_nil))
theorem tup2_read {K : PySem.W.Frag} {φ : List Addr} {H : Hp} {s : S} {τ : Vs} {σ : L2.St} {D : Ends} {d : It.D} {v : V} (hcal : calm = true) (hL : RepL K cA φ H σ τ) (hS : RepS K cA φ H s) (rv : Rep K cA φ H d v) (h : RunS K cA (store sub calm (F calm) (.tp [i, j]) d τ) φ H s D EX) : gTup K 2 (gCons (gName i) (gCons (gName j) gNil)) v σ H D.nx := by
  have h : RunS K cA (if calm = true then ofM (M.opt ((tupOf d).bind fun ds => setAll [i, j] ds τ)) τ (fun τ' s => some (Out.nx τ', s)) else fun _ => none) φ H s D EX := h
  rw [if_pos hcal] at h
  obtain ⟨τ', e, _, hS1, h1⟩ := Run.opt hS (RunS.ofM hL h)
  obtain ⟨ds, e1, e2⟩ := Option.bind_eq_some_iff.mp e
  cases rv with
  | @tup ad xs vs h1' h2' =>
    have e1' : xs = ds := Option.some.inj e1
    subst e1'
    cases h2' with
    | nil => exact absurd e2 (by intro z; cases z)
    | cons r1 t1 =>
      cases t1 with
      | nil => exact absurd e2 (by intro z; cases z)
      | cons r2 t2 =>
        cases t2 with
        | nil =>
          have e2' := Option.some.inj e2
          subst e2'
          exact ⟨ad, _, rfl, h1', rfl, _, _, rfl, _, _, rfl, rfl, h1 φ H _ Ext.refl hS ((hL.set r1).set r2)⟩
        | cons r3 t3 => exact absurd e2 (by intro z; cases z)
  | non => exact absurd e1 (by intro z; cases z)
  | bl _ => exact absurd e1 (by intro z; cases z)
  | int _ => exact absurd e1 (by intro z; cases z)
  | str _ => exact absurd e1 (by intro z; cases z)
  | loc _ => exact absurd e1 (by intro z; cases z)
  | exc _ => exact absurd e1 (by intro z; cases z)
theorem ss_set2 {k} {px py pt : Pos} (hc : X.calm = true) (hcal : calm = true) (hN : X.N.Nodup) (hi : X.N[i]? = some x) (hj : X.N[j]? = some y) (hx : Loc X.env.scope x) (hy : Loc X.env.scope y) (hfx : X.fn x = true ∨ X.env.scope.names.lookup x = some .local) (hfy : X.fn y = true ∨ X.env.scope.names.lookup y = some .local) (ha : SE X cA sub calm (F calm) EX a A)
    (hs : swapsWithSole [.Tuple [.Name x px, .Name y py] k pt] a pos.line X.env = pure false := by rfl) (hw : swappedStores [.Tuple [.Name x px, .Name y py] k pt] a X.env = pure none := by rfl)
    (h1 : (assignEach [.Tuple [.Name x px, .Name y py] k pt] X.env).map (·.2) = [assign (.Tuple [.Name x px, .Name y py] k pt) X.env] := by rfl) :
    SS X cA sub calm F EX (.Assign [.Tuple [.Name x px, .Name y py] k pt] a pos) (.asg (.tp [i, j]) A) := PS.weak (ps_asg ha (st_tup2 hc hN hi hj hx hy hfx hfy) hs hw h1) fun D σ H hh => un hh fun φ τ s hL hS h =>
  ⟨φ, τ, s, hL, hS, (RunS.ofM hL h).imp fun d s1 φ1 H1 ⟨x1, hS1, h1⟩ v rv => tup2_read hcal (hL.mono x1) hS1 rv h1⟩
/-- o[i] = e, o a list -/
theorem ss_sub {oo ii : Expr} {O I' : E} (hO : SE X cA sub calm (F calm) EX oo O) (hI : SE X cA sub calm (F calm) EX ii I') (ha : SE X cA sub calm (F calm) EX a A)
    (hat : ∀ v, assign (.Subscript oo ii p) X.env v = (do
      let ov ← holding [v] (eval oo X.env)
      let iv ← holding [v, ov] (eval ii X.env)
      standAt p
      holding [v, ov, iv] (setItem ov iv v)
      release [v, ov, iv] []) := by intro _; rfl) (hs : swapsWithSole [.Subscript oo ii p] a pos.line X.env = pure false := by rfl) (hw : swappedStores [.Subscript oo ii p] a X.env = pure none := by rfl)
    (h1 : (assignEach [.Subscript oo ii p] X.env).map (·.2) = [assign (.Subscript oo ii p) X.env] := by rfl) :
    SS X cA sub calm F EX (.Assign [.Subscript oo ii p] a pos) (.asg (.sub O I') A) := PS.weak (ps_asg ha (pg_sub hO hI set_list hat) hs hw h1) fun D σ H hh => un hh fun φ τ s hL hS h => by
  refine ⟨φ, τ, s, hL, hS, (RunS.ofM hL h).imp fun d s1 φ1 H1 ⟨x1, hS1, h1⟩ v rv => ?_⟩
  have h2 := RunS.ofM (hL.mono x1) h1
  refine useE (hL.mono x1) hS1 h2 fun xo H2 φ2 d2 s2 x2 hL2 hS2 r2 h3 => useE hL2 hS2 h3 fun yi H3 φ3 d3 s3 x3 hL3 hS3 r3 h4 => ?_
  obtain ⟨k, ek, h5⟩ := Run.opt2 hS3 h4
  rw [isInt_eq ek] at r3
  cases d2 with
  | loc n =>
    obtain ⟨ad, xs, vs, rfl, e1, f1, g1, q1, h6⟩ := list_run hS3 (r2.mono x3) h5
    cases ej : L2.ixN xs.length k with
    | none => simp only [ej] at h6; exact h6.elim
    | some jj =>
      simp only [ej] at h6
      refine ⟨ad, vs, k, jj, rfl, r3.of_int, g1, by rw [← q1.len]; exact ej, ?_⟩
      have h7 : Run X.K cA (putL n (.lst (xs.set jj d))) φ3 H3 s3 (fun a s1 φ1' H1' => Ext cA φ1 H1 φ1' H1' ∧ RepS X.K cA φ1' H1' s1 ∧ RunS X.K cA (fun s => some (.nx τ, s)) φ1' H1' s1 D EX) (eX cA EX σ) := h6
      have rv3 := ((rv.mono x2).mono x3)
      have hS4 := hS3.write e1 f1 g1 (q1.set rv3 jj)
      obtain ⟨_, _, h8⟩ := h7 φ3 _ (Ext.write g1) hS4
      exact h8 φ3 _ σ Ext.refl hS4 (hL3.mono (Ext.write g1))
  | _ => exact h5.elim
theorem ss_par {px py pt : Pos} {kt k2 pt2} (hc : X.calm = true) (hcal : calm = true) (hN : X.N.Nodup) (hi : X.N[i]? = some x) (hj : X.N[j]? = some y) (hij : i ≠ j) (hx : X.env.scope.names.lookup x = some .local) (hy : X.env.scope.names.lookup y = some .local)
    (ha : SE X cA sub calm (F calm) EX a A) (hb : SE X cA sub calm (F calm) EX b B) (h1 : starEach [a, b] X.env = (false, eval a X.env) :: starEach [b] X.env) (h2 : starEach [b] X.env = (false, eval b X.env) :: starEach [] X.env)
    (hw : swappedStores [.Tuple [.Name x px, .Name y py] kt pt] (.Tuple [a, b] k2 pt2) X.env = pure (some [x, y]))
    (hs : swapsWithSole [.Tuple [.Name x px, .Name y py] kt pt] (.Tuple [a, b] k2 pt2) pos.line X.env = pure false := by rfl) :
    SS X cA sub calm F EX (.Assign [.Tuple [.Name x px, .Name y py] kt pt] (.Tuple [a, b] k2 pt2) pos) (.par i j A B) := PS.weak (ps_par hc hN hi hj hij hx hy (pa_cons ha (pa_cons hb pa_nil h2) h1) hw hs) fun D σ H hh => un hh fun φ τ s hL hS h => by
  have h : RunS X.K cA (if calm = true then ofM (M.bd (ev sub calm (F calm) A τ) fun x => M.bd (ev sub calm (F calm) B τ) fun y => M.ret (x, y)) τ (fun xy s => some (.nx ((τ.set i (some xy.1)).set j (some xy.2)), s)) else fun _ => none) φ H s D EX := h
  rw [if_pos hcal] at h
  refine useE hL hS (RunS.ofM hL h) fun x H1 φ1 d1 s1 x1 hL1 hS1 r1 h1 => useE hL1 hS1 h1 fun y H2 φ2 d2 s2 x2 hL2 hS2 r2 h2 => ?_
  obtain ⟨_, _, h3⟩ := h2.pure_ hS2
  exact ⟨x, y, rfl, h3 φ2 H2 _ Ext.refl hS2 ((hL2.set (r1.mono x2)).set r2)⟩
theorem ss_if (hc : ST X cA sub calm (F calm) EX c C) (ht : SSs X cA sub calm F EX body mb) (he : SSs X cA sub calm F EX orelse me) : SS X cA sub calm F EX (.If c body orelse pos) (.iff C mb me) := PS.weak (ps_if hc ht he) fun D σ H hh => un hh fun φ τ s hL hS h => by
  refine ⟨φ, τ, s, hL, hS, (RunS.ofM hL h).imp fun k s1 φ1 H1 ⟨x1, hS1, h1⟩ => ?_⟩
  cases k with
  | true => exact iT ⟨φ1, τ, s1, hL.mono x1, hS1, h1⟩
  | false => exact iF ⟨φ1, τ, s1, hL.mono x1, hS1, h1⟩
theorem ss_raise {cc : Nat} {B' Bn newId nid initId inN : String} {bmB bmN : List Value} {apos : Pos} (Fn' : ExcBaseFacts Bn newId inN bmN) (hBn : bmB.contains (.type Bn) = true) (FB : ExcBaseFacts B' nid initId bmB) (hc : X.calm = true) (hcal : calm = true) (hX : PySem.W.excIn X.K (cA cc) bmB newId = true) (hg : Gl X x) (hm : X.mg x = some (.ref (cA cc)))
    (R : Raises X EX) (ha : SA X cA sub calm (F calm) EX (e :: es) Xs) (hz : Es.len Xs ≤ sizeLine) (hdb : (x == ("__debug__" : Str)) = false := by decide) (he : starEach (e :: es) X.env = (false, eval e X.env) :: starEach es X.env := by rfl) (hpl : (backTo apos (starEach es X.env)).any (·.1) = false := by rfl) :
    SS X cA sub calm F EX (.Raise (some (.Call (.Name x p) (e :: es) [] apos)) none pos) (.rise cc Xs) := PS.weak (ps_raise Fn' hBn FB hc hX hg hm R ha hdb he hpl) fun D σ H hh => un hh fun φ τ s hL hS h => by
  have h : RunS X.K cA (if calm = true then ofM (evs sub calm (F calm) Xs τ) τ (fun _ s => some (.er cc τ, s)) else fun _ => none) φ H s D EX := h
  rw [if_pos hcal] at h
  have h2 := RunS.ofM hL h
  refine ⟨φ, τ, s, hL, hS, ?_⟩
  unfold Run at h2 ⊢
  cases e1 : evs sub calm (F calm) Xs τ s with
  | none => rw [e1] at h2; exact h2
  | some r =>
    obtain ⟨r, s1⟩ := r
    rw [e1] at h2
    cases r with
    | er c => exact h2
    | ok ds =>
      intro φ1 H1 x1 r1 vs rv
      obtain ⟨_, hS1, h3⟩ := h2 φ1 H1 x1 r1
      exact ⟨by rw [← rv.len, evs_len Xs τ s ds s1 e1]; exact hz, h3 φ1 H1 σ Ext.refl hS1 (hL.mono x1)⟩
end
end It


set_option Elab.async false
set_option linter.all false
set_option maxRecDepth 100000
set_option maxHeartbeats 400000
/-! THE MIRROR IS SOUND, 10: loops, try. -/
namespace It
open PySem PySem.Spec PyProof.Rows L2

/-- a turn of a loop: what goes on, what ends -/
noncomputable def turnS (m : MS) (kN : Vs → MS) : MS := fun s => match m s with
  | some (.nx τ', s') => kN τ' s'
  | some (.ct τ', s') => kN τ' s'
  | some (.bk τ', s') => some (.nx τ', s')
  | r => r
section
variable {K : PySem.W.Frag} {cA : Nat → Addr} {φ φ' : List Addr} {H H' : Hp} {s : S} {σ : L2.St} {τ : Vs} {EX : XS} {D : Ends}
theorem RunS.turn {m : MS} {kN : Vs → MS} {N : L2.St → Hp → Prop} (hN : ∀ φ' τ' s' σ' H', Ext cA φ H φ' H' → RepL K cA φ' H' σ' τ' → RepS K cA φ' H' s' → RunS K cA (kN τ') φ' H' s' D EX → N σ' H') (h : RunS K cA (turnS m kN) φ H s D EX) :
    RunS K cA m φ H s { D with nx := N, ct := N, bk := D.nx } EX := by
  unfold RunS turnS at h
  unfold RunS
  cases e : m s with
  | none => rw [e] at h; exact h
  | some r =>
    obtain ⟨r, s1⟩ := r
    rw [e] at h
    cases r with
    | nx τ' =>
      intro φ1 H1 σ1 x r l
      have h2 : RunS K cA (kN τ') φ H s1 D EX := h
      exact hN φ1 τ' s1 σ1 H1 x l r (h2.ext x)
    | ct τ' =>
      intro φ1 H1 σ1 x r l
      have h2 : RunS K cA (kN τ') φ H s1 D EX := h
      exact hN φ1 τ' s1 σ1 H1 x l r (h2.ext x)
    | bk τ' => exact h
    | rt d => exact h
    | er c τ' => exact h
end
section
variable {X : Cx} {cA : Nat → Addr} {sub : Nat → Nat → Bool} {calm : Bool} {F : Bool → Fn} {EX : XS} {a b c d e : Expr} {A B C : E} {pos p p2 : Pos} {st : Stmt} {sts body orelse : List Stmt} {m : St} {ms mb me mh : Sts} {es : List Expr} {Xs : Es} {x y n : Str} {i j : Nat}
theorem ss_while (hp : PassesOwn (model X.prog X.w) X.A X.env X.xe) (hc : ST X cA sub calm (F calm) EX c C) (hb : SSs X cA sub calm F EX body mb) : SS X cA sub calm F EX (.While c body [] pos) (.wh C mb) := PS.weak (ps_while hp hc hb) fun D σ H hh => un hh fun φ τ s hL hS h => by
  refine ⟨fun m σ H => ∃ φ τ s, RepL X.K cA φ H σ τ ∧ RepS X.K cA φ H s ∧ RunS X.K cA (whileS (fun τ => M.bd (ev sub calm (F calm) C τ) boolOf) (fun τ => exs sub calm F mb τ) m τ) φ H s D EX, ⟨1000, φ, τ, s, hL, hS, h⟩, ?_⟩
  rintro m σ H ⟨φ, τ, s, hL, hS, h⟩
  cases m with
  | zero => exact h.elim
  | succ m =>
    refine ⟨φ, τ, s, hL, hS, (RunS.ofM (k := fun ok => if ok = true then turnS (exs sub calm F mb τ) (whileS (fun τ => M.bd (ev sub calm (F calm) C τ) boolOf) (fun τ => exs sub calm F mb τ) m) else fun s => some (.nx τ, s)) hL h).imp fun k s1 φ1 H1 ⟨x1, hS1, h1⟩ => ?_⟩
    cases k with
    | true =>
      rw [if_pos rfl] at h1 ⊢
      refine ⟨_, fun σ' H' z => ⟨m, Nat.lt_succ_self m, z⟩, φ1, τ, s1, hL.mono x1, hS1, RunS.turn (fun φ' τ' s' σ' H' _ l r q => ?_) h1⟩
      exact ⟨φ', τ', s', l, r, q⟩
    | false =>
      rw [if_neg Bool.false_ne_true] at h1 ⊢
      exact h1 φ1 H1 σ Ext.refl hS1 (hL.mono x1)
/-- a target: how it stores -/
noncomputable def SG (X : Cx) (cA : Nat → Addr) (sub : Nat → Nat → Bool) (calm : Bool) (F : Bool → Fn) (EX : XS) (tg : Expr) (t : Tg) : Prop := ∃ g : TG, PG X tg g ∧ ∀ (φ : List Addr) (H : Hp) (s : S) (σ : L2.St) (τ : Vs) (d : It.D) (v : V) (D : Ends), RepL X.K cA φ H σ τ → RepS X.K cA φ H s → Rep X.K cA φ H d v →
  RunS X.K cA (store sub calm (F calm) t d τ) φ H s D EX → g v σ H D.nx
theorem sg_name (hN : X.N.Nodup) (hi : X.N[i]? = some x) (hx : Loc X.env.scope x) (hf : X.fn x = true ∨ X.env.scope.names.lookup x = some .local := by first | exact .inl rfl | exact .inr rfl) : SG X cA sub calm F EX (.Name x pos) (.nm i) :=
  ⟨_, pg_name hN hi hx hf, fun φ H s σ τ d v D hL hS r h => h φ H _ Ext.refl hS (hL.set r)⟩
/-- a turn of a for -/
theorem for_turn {t : Tg} {g : TG} {it : Nat → S → Option (Option It.D)} {k q : Nat} {φ : List Addr} {H : Hp} {s : S} {σ : L2.St} {τ : Vs} {dd : It.D} {v : V} {D : Ends} {N : L2.St → Hp → Prop}
    (hg : ∀ (φ : List Addr) (H : Hp) (s : S) (σ : L2.St) (τ : Vs) (d : It.D) (v : V) (D : Ends), RepL X.K cA φ H σ τ → RepS X.K cA φ H s → Rep X.K cA φ H d v → RunS X.K cA (store sub calm (F calm) t d τ) φ H s D EX → g v σ H D.nx)
    (hL : RepL X.K cA φ H σ τ) (hS : RepS X.K cA φ H s) (r : Rep X.K cA φ H dd v) (hi : it q s = some (some dd))
    (h : RunS X.K cA (forS it (fun d τ => thenS (store sub calm (F calm) t d τ) fun τ' => exs sub calm F mb τ') (k + 1) q τ) φ H s D EX)
    (hN : ∀ φ' τ' s' σ' H', Ext cA φ H φ' H' → RepL X.K cA φ' H' σ' τ' → RepS X.K cA φ' H' s' → RunS X.K cA (forS it (fun d τ => thenS (store sub calm (F calm) t d τ) fun τ' => exs sub calm F mb τ') k (q + 1) τ') φ' H' s' D EX → N σ' H') :
    g v σ H fun σ2 H2 => tS X.K cA EX (exs sub calm F mb) { D with nx := N, ct := N, bk := D.nx } σ2 H2 := by
  have h1 : RunS X.K cA (turnS (thenS (store sub calm (F calm) t dd τ) fun τ' => exs sub calm F mb τ') (forS it (fun d τ => thenS (store sub calm (F calm) t d τ) fun τ' => exs sub calm F mb τ') k (q + 1))) φ H s D EX := by
    unfold RunS at h ⊢
    have e : forS it (fun d τ => thenS (store sub calm (F calm) t d τ) fun τ' => exs sub calm F mb τ') (k + 1) q τ s = turnS (thenS (store sub calm (F calm) t dd τ) fun τ' => exs sub calm F mb τ') (forS it (fun d τ => thenS (store sub calm (F calm) t d τ) fun τ' => exs sub calm F mb τ') k (q + 1)) s := by
      rw [forS]
      simp only [hi]
      rfl
    rw [e] at h
    exact h
  exact hg φ H s σ τ dd v _ hL hS r (RunS.then_ (RunS.turn hN h1))
theorem ss_for {tg : Expr} {t : Tg} (hp : PassesOwn (model X.prog X.w) X.A X.env X.xe) (hc : X.calm = true) (hcal : calm = true) (ha : SE X cA sub calm (F calm) EX a A) (hg : SG X cA sub calm F EX tg t) (hb : SSs X cA sub calm F EX body mb)
    (hs : ∀ x, foldedSetIterable a X.env x = pure x := by intro _; rfl) : SS X cA sub calm F EX (.For tg a body [] pos) (.fr t (.seq A) mb) := by
  obtain ⟨g, hG, hg⟩ := hg
  refine PS.weak (ps_for hp hc (pi_seq ha) hG hb hs) fun D σ H hh => un hh fun φ τ s hL hS h => ?_
  have h : RunS X.K cA (if calm = true then ofM (M.bd (ev sub calm (F calm) A τ) fun x => M.bd (lenOf x) fun n => M.ret (x, n)) τ fun xn => forS (itemAt xn.1) (fun d τ => thenS (store sub calm (F calm) t d τ) fun τ' => exs sub calm F mb τ') (xn.2 + 1) 0 τ else fun _ => none) φ H s D EX := h
  rw [if_pos hcal] at h
  refine useE hL hS (RunS.ofM hL h) fun x H1 φ1 d1 s1 x1 hL1 hS1 r1 h1 => w_start (R := fun J H1 => ∃ W : Nat → Nat → L2.St → Hp → Prop, (∃ m, W 0 m σ H1) ∧ ∀ i m σ H, W i m σ H →
    (J.stop i H ∧ D.nx σ H) ∨ (J.go i H ∧ ∃ N : L2.St → Hp → Prop, (∀ σ' H', N σ' H' → ∃ m', m' < m ∧ W (i + 1) m' σ' H') ∧ ∀ x H', J.yld i H x H' → g x σ H' fun σ2 H2 => tS X.K cA EX (exs sub calm F mb) { D with nx := N, ct := N, bk := D.nx } σ2 H2)) hS1 r1 h1 fun ad n ea h2 => ?_
  subst ea
  obtain ⟨_, _, h3⟩ := h2.pure_ hS1
  refine ⟨fun i m σ' H' => ∃ φ' τ' s', Ext cA φ1 H1 φ' H' ∧ RepL X.K cA φ' H' σ' τ' ∧ RepS X.K cA φ' H' s' ∧ RunS X.K cA (forS (itemAt d1) (fun d τ => thenS (store sub calm (F calm) t d τ) fun τ' => exs sub calm F mb τ') m i τ') φ' H' s' D EX, ⟨n + 1, φ1, τ, s1, Ext.refl, hL1, hS1, h3⟩, ?_⟩
  rintro i m σ' H' ⟨φ', τ', s', x2, hL2, hS2, h4⟩
  cases m with
  | zero => exact h4.elim
  | succ m =>
    have rd := r1.mono x2
    cases ei : itemAt d1 i s' with
    | none =>
      exfalso
      unfold RunS forS at h4
      simp only [ei] at h4
    | some oi =>
      cases oi with
      | none =>
        refine .inl ⟨w_stop hS2 rd ei, ?_⟩
        unfold RunS forS at h4
        simp only [ei] at h4
        exact h4 φ' H' σ' Ext.refl hS2 hL2
      | some xi =>
        refine .inr ⟨w_go hS2 rd ei, _, fun σ3 H3 z => ⟨m, Nat.lt_succ_self m, z⟩, fun v H3 hy => ?_⟩
        obtain ⟨rfl, rx⟩ := w_yld hS2 rd ei hy
        exact for_turn (it := itemAt d1) (k := m) (q := i) hg hL2 hS2 rx ei h4 fun φ4 τ4 s4 σ4 H4 x4 l4 r4 q4 => ⟨φ4, τ4, s4, x2.trans x4, l4, r4, q4⟩
theorem ss_for_rg {tg : Expr} {t : Tg} {p' : Pos} (hp : PassesOwn (model X.prog X.w) X.A X.env X.xe) (hc : X.calm = true) (hcal : calm = true) (hgl : Gl X "range") (hmg : X.mg "range" = none) (ha : SE X cA sub calm (F calm) EX a A) (hg : SG X cA sub calm F EX tg t) (hb : SSs X cA sub calm F EX body mb)
    (hse : starEach [a] X.env = [(false, eval a X.env)] := by rfl) (hs : ∀ x, foldedSetIterable (.Call (.Name "range" p) [a] [] p') X.env x = pure x := by intro _; rfl) : SS X cA sub calm F EX (.For tg (.Call (.Name "range" p) [a] [] p') body [] pos) (.fr t (.rg A) mb) := by
  obtain ⟨g, hG, hg⟩ := hg
  refine PS.weak (ps_for hp hc (pi_range1 hgl hmg (pa_cons ha pa_nil hse) hse) hG hb hs) fun D σ H hh => un hh fun φ τ s hL hS h => ?_
  have h : RunS X.K cA (if calm = true then ofM (M.bd (ev sub calm (F calm) A τ) fun x => M.bd (intOf x) fun i => if -(2 ^ 62) < i ∧ i < 2 ^ 62 then M.ret i else M.no) τ fun i => forS (rgAt i.toNat) (fun d τ => thenS (store sub calm (F calm) t d τ) fun τ' => exs sub calm F mb τ') (i.toNat + 1) 0 τ else fun _ => none) φ H s D EX := h
  rw [if_pos hcal] at h
  refine useE hL hS (RunS.ofM hL h) fun x H1 φ1 d1 s1 x1 hL1 hS1 r1 h1 => ?_
  obtain ⟨n, en, h2⟩ := Run.opt2 hS1 h1
  rw [isInt_eq en] at r1
  by_cases hz : -(2 ^ 62) < n ∧ n < 2 ^ 62
  · rw [if_pos hz] at h2
    obtain ⟨_, _, h3⟩ := h2.pure_ hS1
    refine ⟨n, by rw [r1.of_int], by omega, hz.2, ?_⟩
    refine ⟨fun i m σ' H' => ∃ φ' τ' s', RepL X.K cA φ' H' σ' τ' ∧ RepS X.K cA φ' H' s' ∧ RunS X.K cA (forS (rgAt n.toNat) (fun d τ => thenS (store sub calm (F calm) t d τ) fun τ' => exs sub calm F mb τ') m i τ') φ' H' s' D EX, ⟨n.toNat + 1, φ1, τ, s1, hL1, hS1, h3⟩, ?_⟩
    rintro i m σ' H' ⟨φ', τ', s', hL2, hS2, h4⟩
    cases m with
    | zero => exact h4.elim
    | succ m =>
      by_cases hi : i < n.toNat
      · refine .inr ⟨hi, _, fun σ3 H3 z => ⟨m, Nat.lt_succ_self m, z⟩, fun v H3 hy => ?_⟩
        obtain ⟨rfl, rfl⟩ := hy
        exact for_turn (it := rgAt n.toNat) (k := m) (q := i) hg hL2 hS2 (.int _) (by unfold rgAt; rw [if_pos hi]) h4 fun φ4 τ4 s4 σ4 H4 x4 l4 r4 q4 => ⟨φ4, τ4, s4, l4, r4, q4⟩
      · refine .inl ⟨Nat.le_of_not_lt hi, ?_⟩
        have ei : rgAt n.toNat i s' = some none := by unfold rgAt; rw [if_neg hi]
        unfold RunS forS at h4
        simp only [ei] at h4
        exact h4 φ' H' σ' Ext.refl hS2 hL2
  · rw [if_neg hz] at h2
    exact h2.elim
/-- try .. except D as n -/
theorem ss_try {b₀ : Stmt} {suite : List Stmt} {dc : Nat} {np hpos : Pos} (hcal : calm = true) (hex : X.ex = []) (hst : X.stack = X.env :: X.outer ∧ X.env.frame = some X.env.locals) (hg : Gl X x) (hm : X.mg x = some (.ref (cA dc))) (hN : X.N.Nodup) (hi : X.N[i]? = some n) (hl : X.env.scope.names.lookup n = some .local)
    (hsub : ∀ c, sub c dc = true → subIn X.K (cA c) (cA dc) = true)
    (hb : ∀ (pn : List (Addr × Obj)) (E' : Value → Shared → Prop) (EX' : XS), Raises (X.seen X.A X.calm pn E') EX' → PassesOwn (model X.prog X.w) X.A X.env E' → SSs (X.seen X.A X.calm pn E') cA sub calm F EX' body mb)
    (hh : ∀ e : Value, SSs (X.seen (X.A.mark (some e)) false X.pn (fun _ _ => False)) cA sub false F (fun _ _ _ _ => False) (b₀ :: suite) mh) (hdb : (x == ("__debug__" : Str)) = false := by decide) :
    SS X cA sub calm F EX (.Try body [.ExceptHandler (some (.Name x np)) (some n) (b₀ :: suite) hpos] [] [] pos) (.tryc mb dc i mh) := by
  refine PS.weak (ps_try (tb := fun EX' => tS X.K cA EX' (exs sub calm F mb)) (th := tS X.K cA (fun _ _ _ _ => False) (exs sub false F mh)) hex hst hg hm hN hi hl hb hh hdb) fun D σ H hh => un hh fun φ τ s hL hS h => ?_
  refine ⟨φ, τ, s, hL, hS, ?_⟩
  have h : RunS X.K cA (if calm = true then fun s => match exs sub calm F mb τ s with
      | some (.er c τ', s') => if sub c dc = true then (match exs sub false F mh (τ'.set i (some (.exc c))) s' with
        | some (r, s'') => (match r with
          | .er _ _ => none
          | r => some (goes i r, s''))
        | none => none) else none
      | r => r
    else fun _ => none) φ H s D EX := h
  rw [if_pos hcal] at h
  unfold RunS at h ⊢
  cases e : exs sub calm F mb τ s with
  | none => simp only [e] at h
  | some r =>
    obtain ⟨r, s1⟩ := r
    simp only [e] at h
    cases r with
    | nx τ' => exact h
    | ct τ' => exact h
    | bk τ' => exact h
    | rt d => exact h
    | er c τ' =>
      intro φ1 H1 σ1 x1 r1 l1
      by_cases hsb : sub c dc = true
      · simp only [if_pos hsb] at h
        refine ⟨cA c, rfl, hsub c hsb, fun ad hn => ?_⟩
        have xe : Ext cA φ1 H1 φ1 (upd H1 ad (excO ad (cA c) none)) := Ext.new hn
        refine ⟨φ1, τ'.set i (some (.exc c)), s1, (l1.mono xe).set (.exc upd_same), r1.new hn, ?_⟩
        unfold RunS
        cases e2 : exs sub false F mh (τ'.set i (some (.exc c))) s1 with
        | none => rw [e2] at h; exact h
        | some q =>
          obtain ⟨q, s2⟩ := q
          rw [e2] at h
          cases q with
          | er c2 τ2 => exact h.elim
          | nx τ2 => exact fun φ2 H2 σ2 x2 r2 l2 => h φ2 H2 _ ((x1.trans xe).trans x2) r2 l2.unset
          | bk τ2 => exact fun φ2 H2 σ2 x2 r2 l2 => h φ2 H2 _ ((x1.trans xe).trans x2) r2 l2.unset
          | ct τ2 => exact fun φ2 H2 σ2 x2 r2 l2 => h φ2 H2 _ ((x1.trans xe).trans x2) r2 l2.unset
          | rt dd => exact fun φ2 H2 v x2 r2 rv => h φ2 H2 v ((x1.trans xe).trans x2) r2 rv
      · simp only [if_neg hsb] at h
end
end It


set_option Elab.async false
set_option linter.all false
set_option maxRecDepth 100000
set_option maxHeartbeats 400000
/-! SHORT WORDS over the layer: a def of the text, its body, what a loop and a test want. -/
namespace L2
open PySem PySem.Spec PyProof.Rows

/-! ### the text by places -/
noncomputable def defArgs (s : Stmt) : Arguments := match s with
  | .FunctionDef _ a _ _ _ _ _ _ _ _ => a
  | _ => { posonlyargs := [], args := [], vararg := none, kwonlyargs := [], kw_defaults := [], kwarg := none, defaults := [] }
noncomputable def defBody (s : Stmt) : List Stmt := match s with
  | .FunctionDef _ _ b _ _ _ _ _ _ _ => b
  | _ => []
noncomputable def defScope (s : Stmt) : Scope := match s with
  | .FunctionDef _ _ _ _ _ _ sc _ _ _ => sc
  | _ => { kind := .function, names := [], isGenerator := false, isCoroutine := false }

/-! ### a def (or method) of the text as it stands behind the top -/
structure Fun (K : PySem.W.Frag) (x qual : Str) (st : Stmt) (f : Addr) (fd : FuncData) : Prop where
  ex : ∃ (oc : Value) (od : Option Addr) (kV doc pm : Value) (an : Option Addr) (cdv ct : Value) (osl : Array (Option Value)),
    fd = PySem.W.fnOf x qual (defArgs st) (defBody st) (defScope st) .none kV doc pm an cdv ct ∧ K.lookup f = some ⟨oc, od, .func fd, osl⟩ ∧ PySem.W.codeIn K cdv qual = true
  kp : PySem.W.keepIn K (.ref f) = true
section
variable {P : Program} {w : World} {K : PySem.W.Frag} {mg : Str → Option Value} {base : Heap}
theorem fun_mk {x qual : Str} {st : Stmt} {f : Addr} {oc : Value} {od an : Option Addr} {osl : Array (Option Value)} {kV doc pm cdv ct : Value} (l : K.lookup f = some ⟨oc, od, .func (PySem.W.fnOf x qual (defArgs st) (defBody st) (defScope st) .none kV doc pm an cdv ct), osl⟩)
    (c : PySem.W.codeIn K cdv qual = true) (k : PySem.W.keepIn K (.ref f) = true) : Fun K x qual st f (PySem.W.fnOf x qual (defArgs st) (defBody st) (defScope st) .none kV doc pm an cdv ct) := ⟨⟨oc, od, kV, doc, pm, an, cdv, ct, osl, rfl, l, c⟩, k⟩
end
end L2


set_option Elab.async false
set_option linter.all false
set_option maxRecDepth 100000
set_option maxHeartbeats 400000
/-! THE MIRROR IS SOUND, 11: a def of the text keeps what the mirror says of it. -/
namespace It
open PySem PySem.Spec PyProof.Rows L2

section
variable {P : Program} {w : World} {K : PySem.W.Frag} {mg : Str → Option Value} {base : Heap} {cA : Nat → Addr} {sub : Nat → Nat → Bool} {T : Nat → Option Df}
theorem repL_start {φ : List Addr} {H : Hp} {N : List Str} {ds : List D} {vs : List V} {m p : Nat} (r : Reps K cA φ H ds vs) (hp : p = ds.length) (hm : m = N.length) : RepL K cA φ H (L2.start N vs) (ds.map some ++ List.replicate (m - p) none) := by
  subst hp hm
  unfold L2.start
  have hl := r.len
  refine ⟨by simp [hl], fun i d e => ?_⟩
  by_cases hi : i < ds.length
  · rw [List.getElem?_append_left (by simpa using hi), List.getElem?_map] at e
    cases z : ds[i]? with
    | none => rw [z] at e; cases e
    | some x =>
      rw [z] at e
      cases e
      obtain ⟨v, a, b⟩ := r.get z
      exact ⟨v, by rw [List.getElem?_append_left (by simp; omega), List.getElem?_map, a]; rfl, b⟩
  · rw [List.getElem?_append_right (by simpa using hi), List.getElem?_replicate] at e
    split at e <;> cases e
/-- the run of a call is its body's -/
theorem run_call {φ : List Addr} {H : Hp} {s : S} {ds : List D} {k n : Nat} {cm : Bool} {df : Df} {Q : VK} {E : XK} (hT : T n = some df)
    (h : Run K cA (call sub T (k + 1) cm n ds) φ H s (fun d _ φ' H' => ∀ v, Rep K cA φ' H' d v → Q v H') (fun c _ _ H' => E (.ref (cA c)) none H')) :
    ds.length = df.pars ∧ RunS K cA (exs sub cm (fun c => call sub T k c) df.body (ds.map some ++ List.replicate (df.many - df.pars) none)) φ H s { nx := fun _ H' => Q .non H', rt := Q } (fun _ C dx H' => E C dx H') := by
  unfold call at h
  simp only [hT] at h
  by_cases hl : ds.length = df.pars
  · refine ⟨hl, ?_⟩
    rw [if_pos hl] at h
    unfold Run at h
    unfold RunS
    cases e : exs sub cm (fun c => call sub T k c) df.body (ds.map some ++ List.replicate (df.many - df.pars) none) s with
    | none => simp only [e] at h
    | some r =>
      obtain ⟨r, s1⟩ := r
      simp only [e] at h
      cases r with
      | nx τ => exact fun φ' H' σ' x r l => h φ' H' x r _ .non
      | rt d => exact fun φ' H' v x r rv => h φ' H' x r v rv
      | er c τ => exact fun φ' H' σ' x r l => h φ' H' x r
      | bk τ => exact h.elim
      | ct τ => exact h.elim
  · rw [if_neg hl] at h
    exact h.elim
theorem fn_zero {cm : Bool} {n : Nat} {f : Addr} {fd : FuncData} {ps : List Str} : FnOk P w K mg base (CXe P w) cm 0 f fd ps (spF K cA (call sub T 0 cm n)) :=
  ⟨fun vs H Q E ⟨_, _, _, _, _, h⟩ => h.elim, fun A outer s H args us vs Q E _ _ _ _ _ ⟨_, _, _, _, _, h⟩ => h.elim⟩
/-- THE RULE for a def, in the mirror -/
theorem fn_spF {x qual : Str} {st : Stmt} {f : Addr} {fd : FuncData} {N ps : List Str} {k n : Nat} {cm : Bool} {df : Df} (F : Fun K x qual st f fd) (S : FnScope N ps (defScope st)) (hT : T n = some df) (hp : df.pars = ps.length) (hm : df.many = N.length)
    (hb : ∀ (cdv : Value) (A : Around) (outer : List Env) (s : Shared) (H : Hp) (E : XK), Room k (A.deeper (envOfC qual (defScope st) s.heap.objs.size f cdv)) →
      SSs (cxOf (CXe P w) P w K mg base N qual (defScope st) f cdv A outer s H E cm) cA sub cm (fun c => call sub T k c) (fun _ C dx H' => E C dx H') (defBody st) df.body) :
    FnOk P w K mg base (CXe P w) cm (k + 1) f fd ps (spF K cA (call sub T (k + 1) cm n)) := by
  obtain ⟨oc, od, kV, doc, pm, an, cdv, ct, osl, rfl, lk, hcd⟩ := F.ex
  refine fn_of lk hcd S (fun vs H Q E ⟨φ, ds, s, r, hS, h⟩ => ?_) fun A outer s H vs Q E hr ⟨φ, ds, st', r, hS, h⟩ => ?_
  · rw [← r.len, (run_call hT h).1, hp]
  · obtain ⟨hl, h2⟩ := run_call hT h
    exact ⟨_, hb cdv A outer s H E hr, φ, _, st', repL_start r hl.symm hm, hS, h2⟩
end

/-- the law's own call, over the script -/
theorem law_sp {K : PySem.W.Frag} {cA : Nat → Addr} {m : List D → M D} {H : Hp} {a : Addr} {ns : List Int} (hq : SqL K H a (ns.map V.int)) (hO : Only H) (hm : ∃ s', m [.loc 0] [.ro (ns.map D.int)] = some (.ok (.bl true), s')) :
    spF K cA m [.ref a] H (fun v _ => v = .bl true) fun _ _ _ => False := by
  have rs : ∀ (l : List Int) φ, Reps K cA φ H (l.map D.int) (l.map V.int) := fun l φ => by
    induction l with
    | nil => exact .nil
    | cons i l ih => exact .cons (.int i) ih
  refine ⟨[a], [.loc 0], [.ro (ns.map D.int)], .cons (.loc rfl) .nil, ⟨rfl, fun n o b e1 e2 => ?_, fun m n b xs ys e1 _ _ _ => ?_⟩, ?_⟩
  · cases n with
    | zero =>
      simp at e1 e2
      subst e1 e2
      refine ⟨ns.map V.int, ?_, rs ns _⟩
      rcases hq with (h | ⟨o, h⟩) | h
      · rcases hO a with z | ⟨ob, xs, z⟩
        · rw [z] at h; cases h
        · rw [z] at h; cases h
      · exact .inl ⟨o, h⟩
      · exact .inr h
    | succ n => simp at e1
  · cases m with
    | zero => simp at e1
    | succ m => simp at e1
  · obtain ⟨s', e⟩ := hm
    unfold Run
    rw [e]
    intro φ' H' _ _ v rv
    cases rv
    rfl
end It


set_option Elab.async false
set_option linter.all false
set_option maxRecDepth 100000
set_option maxHeartbeats 400000
/-! THE MIRROR, 12: rules in short, for a text's own terms. -/
namespace It
open PySem PySem.Spec PyProof.Rows L2

theorem raises_no {X : Cx} : Raises X (fun _ _ _ _ => False) := fun _ _ _ _ _ _ _ _ _ _ _ _ _ z => z.elim
theorem room_mark {k : Nat} {A : Around} {o : Option Value} (r : Room k A) : Room k (A.mark o) := ⟨r.dp, r.un⟩
theorem hu60 {k : Nat} {A : Around} (r : Room k A) : A.units + 60 < cLine := by have := r.un; omega
/-- no star -/
noncomputable def plainE : Expr → Bool
  | .Starred _ _ => false
  | _ => true
theorem star1 {e : Expr} {es : List Expr} {env : Env} (h : plainE e = true) : starEach (e :: es) env = (false, eval e env) :: starEach es env := by
  cases e <;> first | rfl | cases h
theorem starAny : ∀ {es : List Expr} {env : Env} {pos : Pos}, es.all plainE = true → (backTo pos (starEach es env)).any (·.1) = false
  | [], _, _, _ => rfl
  | e :: es, env, pos, h => by
    rw [List.all_cons, Bool.and_eq_true] at h
    rw [star1 h.1]
    show (false || (backTo pos (starEach es env)).any (·.1)) = false
    rw [starAny h.2]
    rfl
theorem starAll : ∀ {es : List Expr} {env : Env} {pos : Pos}, es.all plainE = true → (backTo pos (starEach es env)).all (fun x => !x.1) = true
  | [], _, _, _ => rfl
  | e :: es, env, pos, h => by
    rw [List.all_cons, Bool.and_eq_true] at h
    rw [star1 h.1]
    show (true && (backTo pos (starEach es env)).all (fun x => !x.1)) = true
    rw [starAll h.2]
    rfl
theorem starFew {e : Expr} {es : List Expr} {env : Env} {pos : Pos} (h1 : plainE e = true) (h2 : es.all plainE = true) (h3 : decide (es.length < 28) = true) : ((backTo pos (starEach (e :: es) env)).all (fun x => !x.1) && (backToKw pos (keywordEach [] env)).all (fun x => x.1.isSome) && decide ((e :: es).length + ([] : List Keyword).length + (if ([] : List Keyword).isEmpty then 0 else 1) < 30)) = true := by
  rw [starAll (es := e :: es) (by rw [List.all_cons, h1, h2]; rfl)]
  have := of_decide_eq_true h3
  have z : (e :: es).length + ([] : List Keyword).length + (if ([] : List Keyword).isEmpty then 0 else 1) < 30 := by
    show es.length + 1 + 0 + 0 < 30
    omega
  rw [decide_eq_true z]
  rfl
noncomputable def blkB (sc scope : Scope) : Bool := (match scope.kind with | .function => true | _ => false) && scope.names.all fun y => match y.2 with
  | .cell => false
  | .free => (match sc.names.lookup y.1 with | some .cell => true | some .free => true | _ => false)
  | .local => (match scope.names.lookup y.1 with | some .local => true | _ => false)
  | _ => true
theorem BlkOk.of {sc scope : Scope} (h : blkB sc scope = true) : BlkOk sc scope := by
  unfold blkB at h
  rw [Bool.and_eq_true, List.all_eq_true] at h
  obtain ⟨h1, h2⟩ := h
  refine ⟨?_, fun y hy z => ?_, fun y hy z => ?_, fun y hy z => ?_⟩
  · split at h1
    · assumption
    · cases h1
  · have := h2 y hy; rw [z] at this; cases this
  · have := h2 y hy
    rw [z] at this
    dsimp only at this
    split at this
    · exact .inl (by assumption)
    · exact .inr (by assumption)
    · cases this
  · have := h2 y hy
    rw [z] at this
    dsimp only at this
    split at this
    · assumption
    · cases this
noncomputable def frB (scope : Scope) (XN : List Str) : List Str → List Nat → Bool
  | y :: N, j :: fr => (match scope.names.lookup y with | some .free => true | _ => false) && decide (XN[j]? = some y) && frB scope XN N fr
  | [], [] => true
  | _, _ => false
theorem frB_ok {scope : Scope} {XN : List Str} : ∀ {N : List Str} {fr : List Nat}, frB scope XN N fr = true → N.length = fr.length ∧ ∀ (i : Nat) (y : Str) (j : Nat), N[i]? = some y → fr[i]? = some j → scope.names.lookup y = some .free ∧ XN[j]? = some y
  | [], [], _ => ⟨rfl, fun i y j h => by simp at h⟩
  | [], _ :: _, h => by cases h
  | _ :: _, [], h => by cases h
  | y :: N, j :: fr, h => by
    unfold frB at h
    rw [Bool.and_eq_true, Bool.and_eq_true, decide_eq_true_eq] at h
    obtain ⟨⟨h1, h2⟩, h3⟩ := h
    obtain ⟨l, q⟩ := frB_ok h3
    refine ⟨by simp [l], fun i z m e1 e2 => ?_⟩
    cases i with
    | zero =>
      simp at e1 e2
      subst e1 e2
      refine ⟨?_, h2⟩
      split at h1
      · assumption
      · cases h1
    | succ i => exact q i z m (by simpa using e1) (by simpa using e2)
section
variable {X : Cx} {cA : Nat → Addr} {sub : Nat → Nat → Bool} {calm : Bool} {F : Fn} {EX : XS} {a b c d e : Expr} {A B C Dd E' : E} {pos p p2 apos : Pos} {es : List Expr} {Xs : Es} {x : Str}
theorem se_comp2 {elt iter : Expr} {ifs : List Expr} {scope : Scope} {N : List Str} {cond : Eo} {fr : List Nat} {tgx : Str} {tp : Pos} (hc : X.calm = true) (hB : blkB X.env.scope scope = true) (hf : frB scope X.N N fr = true) (hloc : scope.names.lookup tgx = some .local) (hnd : (tgx :: N).Nodup)
    (hi : SE X cA sub calm F EX iter A)
    (ht : ∀ cl C s3 H3 fp pins, STs (X.blk scope cl (tgx :: N) C s3 H3 fp pins) cA sub calm F (fun _ _ _ _ => False) ifs cond) (he : ∀ cl C s3 H3 fp pins, SE (X.blk scope cl (tgx :: N) C s3 H3 fp pins) cA sub calm F (fun _ _ _ _ => False) elt B)
    (hs : ∀ x, foldedSetIterable iter X.env x = pure x := by intro _; rfl) : SE X cA sub calm F EX (.ListComp elt [⟨.Name tgx tp, iter, ifs, 0⟩] scope pos) (.comp B A fr cond) :=
  se_comp (fun _ => hc) hc (BlkOk.of hB) hi (by rw [List.length_cons, (frB_ok hf).1]) rfl hloc hnd (fun i y j h1 h2 => (frB_ok hf).2 i y j (by simpa using h1) h2) ht he hs
theorem se_neg (ha : SE X cA sub calm F EX a A) : SE X cA sub calm F EX (.UnaryOp .USub a pos) (.bin .sub (.c (.int 0)) A) := PE.weak (pe_un un_neg ha) fun σ H Q hh => un hh fun φ τ s hL hS h => by
  have h : Run X.K cA (M.bd (ev sub calm F A τ) fun y => evOp .sub (.int 0) y) φ H s (fun d _ φ' H' => ∀ v, Rep X.K cA φ' H' d v → Q v H') (eX cA EX σ) := h
  refine useE hL hS h fun y H1 φ1 d1 s1 x1 hL1 hS1 r1 h1 => ?_
  cases d1 with
  | int i =>
    have h2 : Run X.K cA (M.ret (.int (0 - i))) φ1 H1 s1 (fun d _ φ' H' => ∀ v, Rep X.K cA φ' H' d v → Q v H') (eX cA EX σ) := h1
    have h3 := h2.pure_ hS1 _ (.int _)
    rw [Int.zero_sub] at h3
    exact ⟨i, r1.of_int, h3⟩
  | _ => exact h1.elim
theorem sb_len (hm : X.mg "len" = none) (ha : SA X cA sub calm F EX (e :: es) Xs) (hg : Gl X "len" := by rfl) (he : plainE e = true := by rfl) (hpl : es.all plainE = true := by rfl) : SE X cA sub calm F EX (.Call (.Name "len" p) (e :: es) [] pos) (.bi .len Xs) :=
  se_biB call_len_seq bi_len hg hm PySem.boot_len ha (by decide) (by decide) (star1 he) (starAny hpl)
theorem sb_abs (hm : X.mg "abs" = none) (ha : SA X cA sub calm F EX (e :: es) Xs) (hg : Gl X "abs" := by rfl) (he : plainE e = true := by rfl) (hpl : es.all plainE = true := by rfl) : SE X cA sub calm F EX (.Call (.Name "abs" p) (e :: es) [] pos) (.bi .abs Xs) :=
  se_biB call_abs bi_abs hg hm PyProof.Rows.boot_abs ha (by decide) (by decide) (star1 he) (starAny hpl)
theorem sb_max (hc : X.calm = true) (hm : X.mg "max" = none) (ha : SA X cA sub true F EX (e :: es) Xs) (hg : Gl X "max" := by rfl) (he : plainE e = true := by rfl) (hpl : es.all plainE = true := by rfl) : SE X cA sub true F EX (.Call (.Name "max" p) (e :: es) [] pos) (.bi .max Xs) :=
  se_biB (call_max2 hc) bi_max hg hm PyProof.Rows.boot_max ha (by decide) (by decide) (star1 he) (starAny hpl)
theorem sb_min (hc : X.calm = true) (hm : X.mg "min" = none) (ha : SA X cA sub true F EX (e :: es) Xs) (hg : Gl X "min" := by rfl) (he : plainE e = true := by rfl) (hpl : es.all plainE = true := by rfl) : SE X cA sub true F EX (.Call (.Name "min" p) (e :: es) [] pos) (.bi .min Xs) :=
  se_biB (call_min2 hc) bi_min hg hm PyProof.Rows.boot_min ha (by decide) (by decide) (star1 he) (starAny hpl)
theorem sb_int (hm : X.mg "int" = none) (ha : SA X cA sub calm F EX (e :: es) Xs) (hg : Gl X "int" := by rfl) (he : plainE e = true := by rfl) (hpl : es.all plainE = true := by rfl) : SE X cA sub calm F EX (.Call (.Name "int" p) (e :: es) [] pos) (.bi .int Xs) :=
  se_biT call_int1 bi_int hg hm PyProof.Rows.boot_int ha (by decide) (by decide) (star1 he) (starAny hpl)
theorem sb_divmod (hm : X.mg "divmod" = none) (ha : SA X cA sub calm F EX (e :: es) Xs) (hg : Gl X "divmod" := by rfl) (he : plainE e = true := by rfl) (hpl : es.all plainE = true := by rfl) : SE X cA sub calm F EX (.Call (.Name "divmod" p) (e :: es) [] pos) (.bi .divmod Xs) :=
  se_biB call_divmod bi_divmod hg hm PyProof.Rows.boot_divmod ha (by decide) (by decide) (star1 he) (starAny hpl)
theorem bi_all (ds : List D) (vs : List V) (φ : List Addr) (H : Hp) (s : S) (Q : VK) (Ee : Nat → S → List Addr → Hp → Prop) (hS : RepS X.K cA φ H s) (r : Reps X.K cA φ H ds vs) (h : Run X.K cA (evBi calm .all ds) φ H s (fun d _ φ' H' => ∀ v, Rep X.K cA φ' H' d v → Q v H') Ee) :
    ∃ (p : Addr) (bs : List Bool), vs = [.ref p] ∧ H p = some (.lst (bs.map V.bl)) ∧ Q (.bl (bs.all id)) H := by
  match ds, h, r with
  | [d], h, r =>
    obtain ⟨v, rfl, q⟩ := r.one
    cases d with
    | loc n =>
      obtain ⟨ad, bs, rfl, g, h⟩ := blList (k := fun bs => M.ret (D.bl (bs.all id))) hS q h
      exact ⟨ad, bs, rfl, g, h.pure_ hS _ (.bl _)⟩
    | _ => exact h.elim
theorem sb_all (hc : X.calm = true) (hm : X.mg "all" = none) (ha : SA X cA sub calm F EX (e :: es) Xs) (hg : Gl X "all" := by rfl) (he : plainE e = true := by rfl) (hpl : es.all plainE = true := by rfl) : SE X cA sub calm F EX (.Call (.Name "all" p) (e :: es) [] pos) (.bi .all Xs) :=
  se_biB (call_allL hc) bi_all hg hm PyProof.Rows.boot_all ha (by decide) (by decide) (star1 he) (starAny hpl)
theorem sm_count (ho : SE X cA sub calm F EX a A) (ha : SA X cA sub calm F EX (e :: es) Xs) (hbase : attributeBase a "count" X.env (eval a X.env) = eval a X.env := by rfl)
    (hfew : decide (es.length < 28) = true := by rfl) (hline : (apos.endLine == pos.line) = true := by rfl) (hs : plainE e = true := by rfl) (hplain : es.all plainE = true := by rfl) : SE X cA sub calm F EX (.Call (.Attribute a "count" apos) (e :: es) [] pos) (.meth .count A Xs) :=
  se_meth PySem.F.slot_list_count PySem.F.type_list_count mt_countB mr_count ho ha hbase (starFew hs hplain hfew) hline (star1 hs) (starAny hplain)
theorem sm_index (ho : SE X cA sub calm F EX a A) (ha : SA X cA sub calm F EX (e :: es) Xs) (hbase : attributeBase a "index" X.env (eval a X.env) = eval a X.env := by rfl)
    (hfew : decide (es.length < 28) = true := by rfl) (hline : (apos.endLine == pos.line) = true := by rfl) (hs : plainE e = true := by rfl) (hplain : es.all plainE = true := by rfl) : SE X cA sub calm F EX (.Call (.Attribute a "index" apos) (e :: es) [] pos) (.meth .index A Xs) :=
  se_meth PySem.F.slot_list_index PySem.F.type_list_index mt_indexB mr_index ho ha hbase (starFew hs hplain hfew) hline (star1 hs) (starAny hplain)
/-- a display, a tuple: by how many things are written -/
theorem sd_tup {k} (ha : SA X cA sub calm F EX es Xs) (hz : decide (Es.len Xs ≤ sizeLine) = true := by rfl) : SE X cA sub calm F EX (.Tuple es k pos) (.tup Xs) := se_tup ha fun τ s ds s' h => by
  rw [evs_len Xs τ s ds s' h]; exact of_decide_eq_true hz
theorem sd_lst (ha : SA X cA sub calm F EX es Xs) (hz : decide (Es.len Xs ≤ sizeLine) = true := by rfl) : SE X cA sub calm F EX (.List es pos) (.lst Xs) := se_lst ha fun τ s ds s' h => by
  rw [evs_len Xs τ s ds s' h]; exact of_decide_eq_true hz
theorem sa1 (ha : SE X cA sub calm F EX a A) (hr : SA X cA sub calm F EX es Xs) (hs : plainE a = true := by rfl) : SA X cA sub calm F EX (a :: es) (.cons A Xs) := sa_cons ha hr (star1 hs)
theorem sc_call {cm : Bool} {k f : Nat} {fa : Addr} {fd : FuncData} {ps : List Str} (Fo : FnOk X.prog X.w X.K X.mg X.base (CXe X.prog X.w) cm k fa fd ps (spF X.K cA (F f))) (hcm : cm = true → X.calm = true) (hr : Room k X.A) (hm : X.mg x = some (.ref fa)) (hk : PySem.W.keepIn X.K (.ref fa) = true) (hb : Binds X.K fd ps []) (R : Raises X EX)
    (ha : SA X cA sub calm F EX (e :: es) Xs) (hg : Gl X x := by rfl) (hdb : (x == ("__debug__" : Str)) = false := by decide) (he : plainE e = true := by rfl) (hpl : es.all plainE = true := by rfl) :
    SE X cA sub calm F EX (.Call (.Name x p) (e :: es) [] pos) (.call f Xs) := se_call Fo hcm hr hg hm hk hb R ha hdb (star1 he) (starAny hpl)
theorem sc_isi (Cs : Clss X.K cA sub) {k : Kd} {kx : Expr} (hm : X.mg "isinstance" = none) (ha : SE X cA sub calm F EX a A) (hk : PE X kx (tC (kdC cA k))) (hg : Gl X "isinstance" := by rfl) (h1 : plainE a = true := by rfl) (h2 : plainE kx = true := by rfl) : SE X cA sub calm F EX (.Call (.Name "isinstance" p) [a, kx] [] pos) (.isi A k) :=
  se_isi Cs hg hm ha hk (star1 h1) (star1 h2) (starAny (by rw [List.all_cons, h2]; rfl))
/-- a class's, a type's name -/
theorem kx_cls {c : Nat} (hm : X.mg x = some (.ref (cA c))) (hg : Gl X x := by rfl) (hd : (x == ("__debug__" : Str)) = false := by decide) : PE X (.Name x pos) (tC (kdC cA (.cls c))) := pe_glob hg hm rfl hd
theorem kx_ty {T : String} {v : V} (hv : v = .ty T) (hm : X.mg x = none) (hb : bootBuiltins x = some (.type T)) (hg : Gl X x := by rfl) (hn : x ≠ "__name__" := by decide) (hd : (x == ("__debug__" : Str)) = false := by decide) : PE X (.Name x pos) (tC v) := fun pins s σ H Q I h => by
  subst hv
  exact ld_blt I hg hm hb ⟨.ty T, H, I, rfl, h⟩ hn hd
end
end It


set_option Elab.async false
set_option linter.all false
set_option maxRecDepth 100000
set_option maxHeartbeats 400000
/-! THE MIRROR, 13: the judgements in boxes (so that nothing looks into them), and the rules between boxes. -/
namespace It
open PySem PySem.Spec PyProof.Rows L2
theorem bt_int : bootBuiltins "int" = some (.type "int") := by decide +kernel
theorem bt_bool : bootBuiltins "bool" = some (.type "bool") := by decide +kernel
theorem bt_tuple : bootBuiltins "tuple" = some (.type "tuple") := by decide +kernel
theorem bt_ValueError : bootBuiltins "ValueError" = some (.type "ValueError") := by decide +kernel

structure JE (X : Cx) (cA : Nat → Addr) (sub : Nat → Nat → Bool) (calm : Bool) (F : Fn) (EX : XS) (e : Expr) (m : E) : Prop where
  o : SE X cA sub calm F EX e m
structure JA (X : Cx) (cA : Nat → Addr) (sub : Nat → Nat → Bool) (calm : Bool) (F : Fn) (EX : XS) (e : List Expr) (m : Es) : Prop where
  o : SA X cA sub calm F EX e m
structure JT (X : Cx) (cA : Nat → Addr) (sub : Nat → Nat → Bool) (calm : Bool) (F : Fn) (EX : XS) (e : Expr) (m : E) : Prop where
  o : ST X cA sub calm F EX e m
structure JW (X : Cx) (cA : Nat → Addr) (sub : Nat → Nat → Bool) (calm : Bool) (F : Fn) (EX : XS) (e : Expr) (m : E) : Prop where
  o : SW X cA sub calm F EX e m
structure JC (X : Cx) (cA : Nat → Addr) (sub : Nat → Nat → Bool) (calm : Bool) (F : Fn) (EX : XS) (e : List Expr) (m : Eo) : Prop where
  o : STs X cA sub calm F EX e m
structure JO (X : Cx) (cA : Nat → Addr) (sub : Nat → Nat → Bool) (calm : Bool) (F : Fn) (EX : XS) (e : Option Expr) (m : Eo) : Prop where
  o : SOp X cA sub calm F EX e m
structure JG (X : Cx) (cA : Nat → Addr) (sub : Nat → Nat → Bool) (calm : Bool) (F : Bool → Fn) (EX : XS) (e : Expr) (m : Tg) : Prop where
  o : SG X cA sub calm F EX e m
structure JS (X : Cx) (cA : Nat → Addr) (sub : Nat → Nat → Bool) (calm : Bool) (F : Bool → Fn) (EX : XS) (e : Stmt) (m : St) : Prop where
  o : SS X cA sub calm F EX e m
structure JB (X : Cx) (cA : Nat → Addr) (sub : Nat → Nat → Bool) (calm : Bool) (F : Bool → Fn) (EX : XS) (e : List Stmt) (m : Sts) : Prop where
  o : SSs X cA sub calm F EX e m
/-- what a name's letter is; a comparison's rule; a class's or type's name -/
structure JK (X : Cx) (x : Str) (k : NameKind) : Prop where
  o : X.env.scope.names.lookup x = some k
structure JP (X : Cx) (cA : Nat → Addr) (op : CmpOp) (o : Cop) : Prop where
  o : OpR X (compareOp op) (rD X.K cA o)
structure JN (X : Cx) (cA : Nat → Addr) (kx : Expr) (k : Kd) : Prop where
  o : PE X kx (tC (kdC cA k))
structure JR (X : Cx) (EX : XS) : Prop where
  o : Raises X EX
structure JH (X : Cx) : Prop where
  o : PassesOwn (model X.prog X.w) X.A X.env X.xe
noncomputable def locK : NameKind → Bool
  | .local => true
  | .cell => true
  | _ => false
noncomputable def visK : NameKind → Bool
  | .local => true
  | .cell => true
  | .free => true
  | _ => false
noncomputable def okN (x : Str) : Bool := !(x == ("__debug__" : Str)) && !(x == ("__classdict__" : Str)) && !decide (x = "__name__")
theorem okN_ok {x : Str} (h : okN x = true) : (x == ("__debug__" : Str)) = false ∧ (x == ("__classdict__" : Str)) = false ∧ x ≠ "__name__" := by
  unfold okN at h
  simp only [Bool.and_eq_true, Bool.not_eq_true', decide_eq_false_iff_not] at h
  exact ⟨h.1.1, h.1.2, h.2⟩
theorem relabel_other {env : Env} {k : NameKind} (hk : k ≠ .free) : ∀ {names : List (Str × NameKind)} {x : Str}, names.lookup x = some k →
    (names.map fun (n, k) => if (k == NameKind.free && env.scope.kind == .function && env.kindOf n == some .cell) then (n, NameKind.cell) else (n, k)).lookup x = some k
  | [], x, h => by simp at h
  | (n, q) :: r, x, h => by
    rw [List.lookup_cons] at h
    rw [List.map_cons, List.lookup_cons]
    have hd : ∀ c : Bool, (if c = true then (n, NameKind.cell) else (n, q)).1 = n := fun c => by cases c <;> rfl
    rw [hd]
    by_cases z : x = n
    · subst z
      simp only [beq_self_eq_true] at h ⊢
      cases h
      split
      · rename_i y
        simp only [Bool.and_eq_true, beq_iff_eq] at y
        exact absurd y.1.1 hk
      · rfl
    · have z' : (x == n) = false := by simpa using z
      simp only [z'] at h ⊢
      exact relabel_other hk h
section
variable {X : Cx} {cA : Nat → Addr} {sub : Nat → Nat → Bool} {calm : Bool} {F : Fn} {EX : XS} {a b c d e : Expr} {A B C Dd E' : E} {pos p p2 apos : Pos} {es : List Expr} {Xs : Es} {x : Str} {k : NameKind}
/-- a block's names -/
theorem jk_b {scope : Scope} {cl : List (Str × Addr)} {N : List Str} {Cc : Addr} {s3 : Shared} {H3 : Hp} {fp : List Addr} {pins : List (Addr × Obj)} (h : scope.names.lookup x = some k) (hk : (match k with | .free => false | _ => true) = true) : JK (X.blk scope cl N Cc s3 H3 fp pins) x k :=
  ⟨relabel_other (by intro z; subst z; cases hk) h⟩
theorem g_v (i : Nat) (hN : X.N[i]? = some x) (h : JK X x k) (hv : visK k = true) (hd : okN x = true) : JE X cA sub calm F EX (.Name x pos) (.v i) :=
  ⟨se_v i hN (by cases k <;> first | exact .inl h.o | exact .inr (.inl h.o) | exact .inr (.inr h.o) | cases hv) (okN_ok hd).1 (okN_ok hd).2.1⟩
theorem g_int {i j p} : JE X cA sub calm F EX (.Constant (.int i) j p) (.c (.int i)) := ⟨se_int⟩
theorem g_bl {i j p} : JE X cA sub calm F EX (.Constant (.bool i) j p) (.c (.bl i)) := ⟨se_bl⟩
theorem g_non {j p} : JE X cA sub calm F EX (.Constant .none j p) (.c .non) := ⟨se_non⟩
theorem g_str {i j p} : JE X cA sub calm F EX (.Constant (.str i) j p) (.c (.str i)) := ⟨se_str⟩
theorem g_gE {i : Int} (h : ∃ t, X.mg x = some (.int i t)) (hg : JK X x .globalImplicit) (hd : okN x = true) : JE X cA sub calm F EX (.Name x pos) (.c (.int i)) := by
  obtain ⟨t, h⟩ := h
  exact ⟨se_gint hg.o h (okN_ok hd).1⟩
theorem g_add (ha : JE X cA sub calm F EX a A) (hb : JE X cA sub calm F EX b B) : JE X cA sub calm F EX (.BinOp a .Add b pos) (.bin .add A B) := ⟨se_add ha.o hb.o⟩
theorem g_sub (ha : JE X cA sub calm F EX a A) (hb : JE X cA sub calm F EX b B) : JE X cA sub calm F EX (.BinOp a .Sub b pos) (.bin .sub A B) := ⟨se_sub ha.o hb.o⟩
theorem g_mul (ha : JE X cA sub calm F EX a A) (hb : JE X cA sub calm F EX b B) : JE X cA sub calm F EX (.BinOp a .Mult b pos) (.bin .mul A B) := ⟨se_mul ha.o hb.o⟩
theorem g_fdiv (ha : JE X cA sub calm F EX a A) (hb : JE X cA sub calm F EX b B) : JE X cA sub calm F EX (.BinOp a .FloorDiv b pos) (.bin .fdiv A B) := ⟨se_fdiv ha.o hb.o⟩
theorem g_mod (ha : JE X cA sub calm F EX a A) (hb : JE X cA sub calm F EX b B) : JE X cA sub calm F EX (.BinOp a .Mod b pos) (.bin .mod A B) := ⟨se_mod ha.o hb.o⟩
theorem g_pow (ha : JE X cA sub calm F EX a A) (hb : JE X cA sub calm F EX b B) : JE X cA sub calm F EX (.BinOp a .Pow b pos) (.bin .pow A B) := ⟨se_pow ha.o hb.o⟩
theorem g_neg (ha : JE X cA sub calm F EX a A) : JE X cA sub calm F EX (.UnaryOp .USub a pos) (.bin .sub (.c (.int 0)) A) := ⟨se_neg ha.o⟩
theorem g_not (ha : JE X cA sub calm F EX a A) : JE X cA sub calm F EX (.UnaryOp .Not a pos) (.not A) := ⟨se_not ha.o⟩
theorem g_one {op} (ha : JE X cA sub calm F EX a A) : JE X cA sub calm F EX (.BoolOp op [a] pos) A := ⟨se_one ha.o⟩
theorem g_and {rest : List Expr} (ha : JE X cA sub calm F EX a A) (hb : JE X cA sub calm F EX (.BoolOp .And (b :: rest) pos) B) : JE X cA sub calm F EX (.BoolOp .And (a :: b :: rest) pos) (.and A B) := ⟨se_and ha.o hb.o⟩
theorem p_eq {k : Nat} (hr : Room k X.A) : JP X cA .Eq .eq := ⟨opD_eq (hu60 hr)⟩
theorem p_ne {k : Nat} (hr : Room k X.A) : JP X cA .NotEq .ne := ⟨opD_ne (hu60 hr)⟩
theorem p_lt : JP X cA .Lt .lt := ⟨opD_lt⟩
theorem p_le : JP X cA .LtE .le := ⟨opD_le⟩
theorem p_gt : JP X cA .Gt .gt := ⟨opD_gt⟩
theorem p_ge : JP X cA .GtE .ge := ⟨opD_ge⟩
theorem g_cmp {op : CmpOp} {o : Cop} (ho : JP X cA op o) (ha : JE X cA sub calm F EX a A) (hb : JE X cA sub calm F EX b B) (h1 : op ≠ .In := by decide) (h2 : op ≠ .NotIn := by decide) : JE X cA sub calm F EX (.Compare a [op] [b] pos) (.cmp o A B) := ⟨se_cmp ho.o ha.o hb.o (nomark b h1 h2)⟩
theorem t_cmp {op : CmpOp} {o : Cop} (ho : JP X cA op o) (ha : JE X cA sub calm F EX a A) (hb : JE X cA sub calm F EX b B) (h1 : op ≠ .In := by decide) (h2 : op ≠ .NotIn := by decide) : JT X cA sub calm F EX (.Compare a [op] [b] pos) (.cmp o A B) := ⟨st_cmp ho.o ha.o hb.o (nomark b h1 h2)⟩
theorem g_ch2 {op op' : CmpOp} {o o' : Cop} (h1 : JP X cA op o) (h2 : JP X cA op' o') (ha : JE X cA sub calm F EX a A) (hb : JE X cA sub calm F EX b B) (hc : JE X cA sub calm F EX c C) (hm : lastMarks [op, op'] [b, c] = false := by with_unfolding_all rfl) : JE X cA sub calm F EX (.Compare a [op, op'] [b, c] pos) (.ch2 o o' A B C) := ⟨se_ch2 h1.o h2.o ha.o hb.o hc.o hm⟩
theorem g_ch3 {op op' op'' : CmpOp} {o1 o2 o3 : Cop} (h1 : JP X cA op o1) (h2 : JP X cA op' o2) (h3 : JP X cA op'' o3) (ha : JE X cA sub calm F EX a A) (hb : JE X cA sub calm F EX b B) (hc : JE X cA sub calm F EX c C) (hd : JE X cA sub calm F EX d Dd) (hm : lastMarks [op, op', op''] [b, c, d] = false := by with_unfolding_all rfl) :
    JE X cA sub calm F EX (.Compare a [op, op', op''] [b, c, d] pos) (.ch3 o1 o2 o3 A B C Dd) := ⟨se_ch3 h1.o h2.o h3.o ha.o hb.o hc.o hd.o hm⟩
/-- whose truth is asked by its value -/
noncomputable def byVal : Expr → Bool
  | .Call _ _ _ _ => true
  | .Name _ _ => true
  | .Subscript _ _ _ => true
  | _ => false
theorem t_val (ha : JE X cA sub calm F EX a A) (he : byVal a = true := by rfl) : JT X cA sub calm F EX a A := ⟨st_val ha.o (by cases a <;> first | (intro _; rfl) | cases he)⟩
theorem t_not (ha : JT X cA sub calm F EX a A) : JT X cA sub calm F EX (.UnaryOp .Not a pos) (.not A) := ⟨st_not ha.o⟩
theorem w_and1 (ha : JT X cA sub calm F EX a A) : JW X cA sub calm F EX (.BoolOp .And [a] pos) A := ⟨sw_and1 ha.o⟩
theorem w_or1 (ha : JT X cA sub calm F EX a A) : JW X cA sub calm F EX (.BoolOp .Or [a] pos) A := ⟨sw_or1 ha.o⟩
theorem w_and {rest : List Expr} (ha : JT X cA sub calm F EX a A) (hb : JW X cA sub calm F EX (.BoolOp .And (b :: rest) pos) B) : JW X cA sub calm F EX (.BoolOp .And (a :: b :: rest) pos) (.and A B) := ⟨sw_and ha.o hb.o⟩
theorem w_or {rest : List Expr} (ha : JT X cA sub calm F EX a A) (hb : JW X cA sub calm F EX (.BoolOp .Or (b :: rest) pos) B) : JW X cA sub calm F EX (.BoolOp .Or (a :: b :: rest) pos) (.or A B) := ⟨sw_or ha.o hb.o⟩
theorem t_w (h : JW X cA sub calm F EX a A) : JT X cA sub calm F EX a A := ⟨st_w h.o⟩
theorem a_nil : JA X cA sub calm F EX [] .nil := ⟨sa_nil⟩
theorem a_cons (ha : JE X cA sub calm F EX a A) (hr : JA X cA sub calm F EX es Xs) (hs : plainE a = true := by rfl) : JA X cA sub calm F EX (a :: es) (.cons A Xs) := ⟨sa1 ha.o hr.o hs⟩
theorem g_tup {k} (ha : JA X cA sub calm F EX es Xs) (hz : decide (Es.len Xs ≤ sizeLine) = true := by rfl) : JE X cA sub calm F EX (.Tuple es k pos) (.tup Xs) := ⟨sd_tup ha.o hz⟩
theorem g_lst (ha : JA X cA sub calm F EX es Xs) (hz : decide (Es.len Xs ≤ sizeLine) = true := by rfl) : JE X cA sub calm F EX (.List es pos) (.lst Xs) := ⟨sd_lst ha.o hz⟩
theorem g_dct1 {j p1 j2 p3} {k : Str} {i : Int} : JE X cA sub calm F EX (.Dict [some (.Constant (.str k) j p1)] [.Constant (.int i) j2 p3] pos) (.dct1 k i) := ⟨se_dct1⟩
noncomputable def notSlice : Expr → Bool
  | .Constant _ _ _ => true
  | .Name _ _ => true
  | .Call _ _ _ _ => true
  | .BinOp _ _ _ _ => true
  | .UnaryOp _ _ _ => true
  | .Subscript _ _ _ => true
  | _ => false
theorem g_ix (ha : JE X cA sub calm F EX a A) (hb : JE X cA sub calm F EX b B) (hs : notSlice b = true := by rfl) : JE X cA sub calm F EX (.Subscript a b pos) (.ix A B) := ⟨se_ix ha.o hb.o (by cases b <;> first | (intro _ _; rfl) | cases hs)⟩
theorem o_yes (ha : JE X cA sub calm F EX a A) : JO X cA sub calm F EX (some a) (.yes A) := ⟨so_yes ha.o⟩
theorem g_sl {lo hi : Option Expr} {Lo Hi : Eo} (ha : JE X cA sub calm F EX a A) (hl : JO X cA sub calm F EX lo Lo) (hh : JO X cA sub calm F EX hi Hi) : JE X cA sub calm F EX (.Subscript a (.Slice lo hi none p2) pos) (.sl A Lo Hi) := ⟨se_sl ha.o hl.o hh.o⟩
theorem g_call {cm : Bool} {k : Nat} (f : Nat) {fa : Addr} {fd : FuncData} {ps : List Str} (Fo : FnOk X.prog X.w X.K X.mg X.base (CXe X.prog X.w) cm k fa fd ps (spF X.K cA (F f))) (hcm : cm = true → X.calm = true) (hr : Room k X.A) (hm : X.mg x = some (.ref fa)) (hk : PySem.W.keepIn X.K (.ref fa) = true) (hb : Binds X.K fd ps []) (R : JR X EX) (hg : JK X x .globalImplicit)
    (ha : JA X cA sub calm F EX (e :: es) Xs) (hd : okN x = true) (he : plainE e = true := by rfl) (hpl : es.all plainE = true := by rfl) : JE X cA sub calm F EX (.Call (.Name x p) (e :: es) [] pos) (.call f Xs) := ⟨sc_call Fo hcm hr hm hk hb R.o ha.o hg.o (okN_ok hd).1 he hpl⟩
theorem n_cls {c : Nat} (hm : X.mg x = some (.ref (cA c))) (hg : JK X x .globalImplicit) (hd : okN x = true) : JN X cA (.Name x pos) (.cls c) := ⟨kx_cls hm hg.o (okN_ok hd).1⟩
theorem n_ty {T : String} {k : Kd} (hv : kdC cA k = .ty T) (hm : X.mg x = none) (hb : bootBuiltins x = some (.type T)) (hg : JK X x .globalImplicit) (hd : okN x = true) : JN X cA (.Name x pos) k := ⟨kx_ty hv hm hb hg.o (okN_ok hd).2.2 (okN_ok hd).1⟩
theorem g_isi (Cs : Clss X.K cA sub) {k : Kd} {kx : Expr} (hm : X.mg "isinstance" = none) (hg : JK X "isinstance" .globalImplicit) (ha : JE X cA sub calm F EX a A) (hk : JN X cA kx k) (h1 : plainE a = true := by rfl) (h2 : plainE kx = true := by rfl) : JE X cA sub calm F EX (.Call (.Name "isinstance" p) [a, kx] [] pos) (.isi A k) := ⟨sc_isi Cs hm ha.o hk.o hg.o h1 h2⟩
theorem g_len (hm : X.mg "len" = none) (hg : JK X "len" .globalImplicit) (ha : JA X cA sub calm F EX (e :: es) Xs) (he : plainE e = true := by rfl) (hpl : es.all plainE = true := by rfl) : JE X cA sub calm F EX (.Call (.Name "len" p) (e :: es) [] pos) (.bi .len Xs) := ⟨sb_len hm ha.o hg.o he hpl⟩
theorem g_abs (hm : X.mg "abs" = none) (hg : JK X "abs" .globalImplicit) (ha : JA X cA sub calm F EX (e :: es) Xs) (he : plainE e = true := by rfl) (hpl : es.all plainE = true := by rfl) : JE X cA sub calm F EX (.Call (.Name "abs" p) (e :: es) [] pos) (.bi .abs Xs) := ⟨sb_abs hm ha.o hg.o he hpl⟩
theorem g_int1 (hm : X.mg "int" = none) (hg : JK X "int" .globalImplicit) (ha : JA X cA sub calm F EX (e :: es) Xs) (he : plainE e = true := by rfl) (hpl : es.all plainE = true := by rfl) : JE X cA sub calm F EX (.Call (.Name "int" p) (e :: es) [] pos) (.bi .int Xs) := ⟨sb_int hm ha.o hg.o he hpl⟩
theorem g_divmod (hm : X.mg "divmod" = none) (hg : JK X "divmod" .globalImplicit) (ha : JA X cA sub calm F EX (e :: es) Xs) (he : plainE e = true := by rfl) (hpl : es.all plainE = true := by rfl) : JE X cA sub calm F EX (.Call (.Name "divmod" p) (e :: es) [] pos) (.bi .divmod Xs) := ⟨sb_divmod hm ha.o hg.o he hpl⟩
theorem g_max (hc : X.calm = true) (hm : X.mg "max" = none) (hg : JK X "max" .globalImplicit) (ha : JA X cA sub true F EX (e :: es) Xs) (he : plainE e = true := by rfl) (hpl : es.all plainE = true := by rfl) : JE X cA sub true F EX (.Call (.Name "max" p) (e :: es) [] pos) (.bi .max Xs) := ⟨sb_max hc hm ha.o hg.o he hpl⟩
theorem g_min (hc : X.calm = true) (hm : X.mg "min" = none) (hg : JK X "min" .globalImplicit) (ha : JA X cA sub true F EX (e :: es) Xs) (he : plainE e = true := by rfl) (hpl : es.all plainE = true := by rfl) : JE X cA sub true F EX (.Call (.Name "min" p) (e :: es) [] pos) (.bi .min Xs) := ⟨sb_min hc hm ha.o hg.o he hpl⟩
theorem g_all (hc : X.calm = true) (hm : X.mg "all" = none) (hg : JK X "all" .globalImplicit) (ha : JA X cA sub calm F EX (e :: es) Xs) (he : plainE e = true := by rfl) (hpl : es.all plainE = true := by rfl) : JE X cA sub calm F EX (.Call (.Name "all" p) (e :: es) [] pos) (.bi .all Xs) := ⟨sb_all hc hm ha.o hg.o he hpl⟩
theorem m_count (ho : JE X cA sub calm F EX a A) (ha : JA X cA sub calm F EX (e :: es) Xs) (hbase : attributeBase a "count" X.env (eval a X.env) = eval a X.env := by rfl) (hfew : decide (es.length < 28) = true := by rfl) (hline : (apos.endLine == pos.line) = true := by rfl) (hs : plainE e = true := by rfl) (hplain : es.all plainE = true := by rfl) :
    JE X cA sub calm F EX (.Call (.Attribute a "count" apos) (e :: es) [] pos) (.meth .count A Xs) := ⟨sm_count ho.o ha.o hbase hfew hline hs hplain⟩
theorem m_index (ho : JE X cA sub calm F EX a A) (ha : JA X cA sub calm F EX (e :: es) Xs) (hbase : attributeBase a "index" X.env (eval a X.env) = eval a X.env := by rfl) (hfew : decide (es.length < 28) = true := by rfl) (hline : (apos.endLine == pos.line) = true := by rfl) (hs : plainE e = true := by rfl) (hplain : es.all plainE = true := by rfl) :
    JE X cA sub calm F EX (.Call (.Attribute a "index" apos) (e :: es) [] pos) (.meth .index A Xs) := ⟨sm_index ho.o ha.o hbase hfew hline hs hplain⟩
theorem c_no : JC X cA sub calm F EX [] .no := ⟨sts_no⟩
theorem g_comp {elt iter : Expr} {ifs : List Expr} {scope : Scope} {cond : Eo} {tgx : Str} {tp : Pos} (sc : Scope) (XN N : List Str) (fr : List Nat) (hc : X.calm = true) (hsc : X.env.scope = sc) (hXN : X.N = XN) (hB : blkB sc scope = true) (hf : frB scope XN N fr = true) (hloc : scope.names.lookup tgx = some .local) (hnd : (tgx :: N).Nodup)
    (hi : JE X cA sub calm F EX iter A)
    (ht : ∀ cl C s3 H3 fp pins, JC (X.blk scope cl (tgx :: N) C s3 H3 fp pins) cA sub calm F (fun _ _ _ _ => False) ifs cond) (he : ∀ cl C s3 H3 fp pins, JE (X.blk scope cl (tgx :: N) C s3 H3 fp pins) cA sub calm F (fun _ _ _ _ => False) elt B)
    (hs : ∀ x, foldedSetIterable iter X.env x = pure x := by intro _; rfl) : JE X cA sub calm F EX (.ListComp elt [⟨.Name tgx tp, iter, ifs, 0⟩] scope pos) (.comp B A fr cond) :=
  ⟨se_comp2 hc (hsc ▸ hB) (hXN ▸ hf) hloc hnd hi.o (fun a b c d e f => (ht a b c d e f).o) (fun a b c d e f => (he a b c d e f).o) hs⟩
theorem r_no : JR X (fun _ _ _ _ => False) := ⟨raises_no⟩
theorem r_def {P : Program} {w : World} {K : PySem.W.Frag} {mg : Str → Option Value} {base : Heap} {N : List Str} {qual : Str} {scope : Scope} {f : Addr} {cd : Value} {A : Around} {outer : List Env} {s : Shared} {H : Hp} {E : XK} {cm : Bool} :
    JR (cxOf (CXe P w) P w K mg base N qual scope f cd A outer s H E cm) (fun _ C dx H' => E C dx H') := ⟨raises_def⟩
theorem h_def {CX : CXT} {P : Program} {w : World} {K : PySem.W.Frag} {mg : Str → Option Value} {base : Heap} {N : List Str} {qual : Str} {scope : Scope} {f : Addr} {cd : Value} {A : Around} {outer : List Env} {s : Shared} {H : Hp} {E : XK} {cm : Bool} :
    JH (cxOf CX P w K mg base N qual scope f cd A outer s H E cm) := ⟨PassesOwn.leaving⟩
/-- a def's own names -/
theorem jk_d {CX : CXT} {P : Program} {w : World} {K : PySem.W.Frag} {mg : Str → Option Value} {base : Heap} {N : List Str} {qual : Str} {scope : Scope} {f : Addr} {cd : Value} {A : Around} {outer : List Env} {s : Shared} {H : Hp} {E : XK} {cm : Bool} (h : scope.names.lookup x = some k) :
    JK (cxOf CX P w K mg base N qual scope f cd A outer s H E cm) x k := ⟨h⟩
/-- the same frame, seen from elsewhere -/
theorem jk_s {A' : Around} {c' : Bool} {pn : List (Addr × Obj)} {E' : Value → Shared → Prop} (h : JK X x k) : JK (X.seen A' c' pn E') x k := ⟨h.o⟩
end
section
variable {X : Cx} {cA : Nat → Addr} {sub : Nat → Nat → Bool} {calm : Bool} {F : Bool → Fn} {EX : XS} {a b c d e : Expr} {A B C : E} {pos p p2 : Pos} {st : Stmt} {sts body orelse : List Stmt} {m : St} {ms mb me mh : Sts} {es : List Expr} {Xs : Es} {x y n : Str} {k k' : NameKind}
theorem loc_of (h : JK X x k) (hv : locK k = true) : Loc X.env.scope x := by cases k <;> first | exact .inl h.o | exact .inr h.o | cases hv
theorem fn_of' (h : JK X x k) (hv : X.fn x = true ∨ k = .local) : X.fn x = true ∨ X.env.scope.names.lookup x = some .local := by
  rcases hv with hv | hv
  · exact .inl hv
  · subst hv; exact .inr h.o
theorem b_nil : JB X cA sub calm F EX [] .nil := ⟨sss_nil⟩
theorem b_cons (h1 : JS X cA sub calm F EX st m) (h2 : JB X cA sub calm F EX sts ms) : JB X cA sub calm F EX (st :: sts) (.cons m ms) := ⟨sss_cons h1.o h2.o⟩
theorem i_ex (ha : JE X cA sub calm (F calm) EX a A) (hs : swapsWith a none pos.line X.env = pure false := by rfl) : JS X cA sub calm F EX (.Expr a pos) (.ex A) := ⟨ss_ex ha.o hs⟩
theorem i_ret (ha : JE X cA sub calm (F calm) EX a A) : JS X cA sub calm F EX (.Return (some a) pos) (.ret A) := ⟨ss_ret ha.o⟩
theorem i_set (i : Nat) (hN : X.N.Nodup) (hi : X.N[i]? = some x) (hx : JK X x k) (hl : locK k = true) (ha : JE X cA sub calm (F calm) EX a A) (hs : swapsWith a (some (.Name x p)) pos.line X.env = pure false := by rfl) (hf : X.fn x = true ∨ k = .local := by first | exact .inl rfl | exact .inr rfl) : JS X cA sub calm F EX (.Assign [.Name x p] a pos) (.asg (.nm i) A) :=
  ⟨ss_set hN hi (loc_of hx hl) ha.o hs (fn_of' hx hf)⟩
theorem i_set2 (i j : Nat) {k0} {px py pt : Pos} (hc : X.calm = true) (hcal : calm = true) (hN : X.N.Nodup) (hi : X.N[i]? = some x) (hj : X.N[j]? = some y) (hx : JK X x k) (hy : JK X y k') (hlx : locK k = true) (hly : locK k' = true) (ha : JE X cA sub calm (F calm) EX a A)
    (hfx : X.fn x = true ∨ k = .local := by first | exact .inl rfl | exact .inr rfl) (hfy : X.fn y = true ∨ k' = .local := by first | exact .inl rfl | exact .inr rfl)
    (hs : swapsWithSole [.Tuple [.Name x px, .Name y py] k0 pt] a pos.line X.env = pure false := by rfl) (hw : swappedStores [.Tuple [.Name x px, .Name y py] k0 pt] a X.env = pure none := by rfl) (h1 : (assignEach [.Tuple [.Name x px, .Name y py] k0 pt] X.env).map (·.2) = [assign (.Tuple [.Name x px, .Name y py] k0 pt) X.env] := by rfl) :
    JS X cA sub calm F EX (.Assign [.Tuple [.Name x px, .Name y py] k0 pt] a pos) (.asg (.tp [i, j]) A) := ⟨ss_set2 hc hcal hN hi hj (loc_of hx hlx) (loc_of hy hly) (fn_of' hx hfx) (fn_of' hy hfy) ha.o hs hw h1⟩
theorem i_sub {oo ii : Expr} {O I' : E} (hO : JE X cA sub calm (F calm) EX oo O) (hI : JE X cA sub calm (F calm) EX ii I') (ha : JE X cA sub calm (F calm) EX a A)
    (hat : ∀ v, assign (.Subscript oo ii p) X.env v = (do
      let obj ← holding [v] (eval oo X.env)
      let at_ ← holding [v, obj] (eval ii X.env)
      standAt p
      holding [v, obj, at_] (setItem obj at_ v)
      release [v, obj, at_] []) := by intro _; rfl) (hs : swapsWithSole [.Subscript oo ii p] a pos.line X.env = pure false := by rfl) (hw : swappedStores [.Subscript oo ii p] a X.env = pure none := by rfl)
    (h1 : (assignEach [.Subscript oo ii p] X.env).map (·.2) = [assign (.Subscript oo ii p) X.env] := by rfl) : JS X cA sub calm F EX (.Assign [.Subscript oo ii p] a pos) (.asg (.sub O I') A) := ⟨ss_sub hO.o hI.o ha.o hat hs hw h1⟩
theorem i_par (i j : Nat) {px py pt : Pos} {kt k2 pt2} (hc : X.calm = true) (hcal : calm = true) (hN : X.N.Nodup) (hi : X.N[i]? = some x) (hj : X.N[j]? = some y) (hij : i ≠ j) (hx : JK X x .local) (hy : JK X y .local)
    (ha : JE X cA sub calm (F calm) EX a A) (hb : JE X cA sub calm (F calm) EX b B) (hw : swappedStores [.Tuple [.Name x px, .Name y py] kt pt] (.Tuple [a, b] k2 pt2) X.env = pure (some [x, y])) (h1 : plainE a = true := by rfl) (h2 : plainE b = true := by rfl)
    (hs : swapsWithSole [.Tuple [.Name x px, .Name y py] kt pt] (.Tuple [a, b] k2 pt2) pos.line X.env = pure false := by rfl) : JS X cA sub calm F EX (.Assign [.Tuple [.Name x px, .Name y py] kt pt] (.Tuple [a, b] k2 pt2) pos) (.par i j A B) :=
  ⟨ss_par hc hcal hN hi hj hij hx.o hy.o ha.o hb.o (star1 h1) (star1 h2) hw hs⟩
theorem i_if (hc : JT X cA sub calm (F calm) EX c C) (ht : JB X cA sub calm F EX body mb) (he : JB X cA sub calm F EX orelse me) : JS X cA sub calm F EX (.If c body orelse pos) (.iff C mb me) := ⟨ss_if hc.o ht.o he.o⟩
theorem i_while (hp : JH X) (hc : JT X cA sub calm (F calm) EX c C) (hb : JB X cA sub calm F EX body mb) : JS X cA sub calm F EX (.While c body [] pos) (.wh C mb) := ⟨ss_while hp.o hc.o hb.o⟩
theorem y_name (i : Nat) (hN : X.N.Nodup) (hi : X.N[i]? = some x) (hx : JK X x k) (hl : locK k = true) (hf : X.fn x = true ∨ k = .local := by first | exact .inl rfl | exact .inr rfl) : JG X cA sub calm F EX (.Name x pos) (.nm i) := ⟨sg_name hN hi (loc_of hx hl) (fn_of' hx hf)⟩
theorem i_for {tg : Expr} {t : Tg} (hp : JH X) (hc : X.calm = true) (hcal : calm = true) (ha : JE X cA sub calm (F calm) EX a A) (hg : JG X cA sub calm F EX tg t) (hb : JB X cA sub calm F EX body mb) (hs : ∀ x, foldedSetIterable a X.env x = pure x := by intro _; rfl) : JS X cA sub calm F EX (.For tg a body [] pos) (.fr t (.seq A) mb) :=
  ⟨ss_for hp.o hc hcal ha.o hg.o hb.o hs⟩
theorem i_rng {tg : Expr} {t : Tg} {p' : Pos} (hp : JH X) (hc : X.calm = true) (hcal : calm = true) (hmg : X.mg "range" = none) (hgl : JK X "range" .globalImplicit) (ha : JE X cA sub calm (F calm) EX a A) (hg : JG X cA sub calm F EX tg t) (hb : JB X cA sub calm F EX body mb)
    (hse : plainE a = true := by rfl) (hs : ∀ x, foldedSetIterable (.Call (.Name "range" p) [a] [] p') X.env x = pure x := by intro _; rfl) : JS X cA sub calm F EX (.For tg (.Call (.Name "range" p) [a] [] p') body [] pos) (.fr t (.rg A) mb) :=
  ⟨ss_for_rg hp.o hc hcal hgl.o hmg ha.o hg.o hb.o (star1 hse) hs⟩
theorem i_raise {cc : Nat} {apos : Pos} (hc : X.calm = true) (hcal : calm = true) (hX : PySem.W.excIn X.K (cA cc) [.type "ValueError", .type "Exception", .type "BaseException", .type "object"] "ValueError.__new__" = true) (hm : X.mg x = some (.ref (cA cc))) (hg : JK X x .globalImplicit)
    (R : JR X EX) (ha : JA X cA sub calm (F calm) EX (e :: es) Xs) (hd : okN x = true) (hz : decide (Es.len Xs ≤ sizeLine) = true := by rfl) (he : plainE e = true := by rfl) (hpl : es.all plainE = true := by rfl) :
    JS X cA sub calm F EX (.Raise (some (.Call (.Name x p) (e :: es) [] apos)) none pos) (.rise cc Xs) := ⟨ss_raise PySem.F.excBase_ValueError (by decide +kernel) PySem.F.excBase_ValueError hc hcal hX hg.o hm R.o ha.o (of_decide_eq_true hz) (okN_ok hd).1 (star1 he) (starAny hpl)⟩
theorem i_try (i : Nat) {b₀ : Stmt} {suite : List Stmt} {dc : Nat} {np hpos : Pos} (hcal : calm = true) (hex : X.ex = []) (hst : X.stack = X.env :: X.outer ∧ X.env.frame = some X.env.locals) (hg : JK X x .globalImplicit) (hm : X.mg x = some (.ref (cA dc))) (hN : X.N.Nodup) (hi : X.N[i]? = some n) (hl : JK X n .local)
    (hsub : ∀ c, sub c dc = true → subIn X.K (cA c) (cA dc) = true)
    (hb : ∀ (pn : List (Addr × Obj)) (E' : Value → Shared → Prop) (EX' : XS), JR (X.seen X.A X.calm pn E') EX' → JH (X.seen X.A X.calm pn E') → JB (X.seen X.A X.calm pn E') cA sub calm F EX' body mb)
    (hh : ∀ e : Value, JB (X.seen (X.A.mark (some e)) false X.pn (fun _ _ => False)) cA sub false F (fun _ _ _ _ => False) (b₀ :: suite) mh) (hd : okN x = true) :
    JS X cA sub calm F EX (.Try body [.ExceptHandler (some (.Name x np)) (some n) (b₀ :: suite) hpos] [] [] pos) (.tryc mb dc i mh) :=
  ⟨ss_try hcal hex hst hg.o hm hN hi hl.o hsub (fun pn E' EX' R H => (hb pn E' EX' ⟨R⟩ ⟨H⟩).o) (fun e => (hh e).o) (okN_ok hd).1⟩
end
theorem fn_spJ {P : Program} {w : World} {K : PySem.W.Frag} {mg : Str → Option Value} {base : Heap} {cA : Nat → Addr} {sub : Nat → Nat → Bool} {T : Nat → Option Df} {x qual : Str} {st : Stmt} {f : Addr} {fd : FuncData} {N ps : List Str} {k n : Nat} {cm : Bool} {df : Df} (F : Fun K x qual st f fd) (S : FnScope N ps (defScope st)) (hT : T n = some df) (hp : df.pars = ps.length) (hm : df.many = N.length)
    (hb : ∀ (cdv : Value) (A : Around) (outer : List Env) (s : Shared) (H : Hp) (E : XK), Room k (A.deeper (envOfC qual (defScope st) s.heap.objs.size f cdv)) →
      JB (cxOf (CXe P w) P w K mg base N qual (defScope st) f cdv A outer s H E cm) cA sub cm (fun c => call sub T k c) (fun _ C dx H' => E C dx H') (defBody st) df.body) :
    FnOk P w K mg base (CXe P w) cm (k + 1) f fd ps (spF K cA (call sub T (k + 1) cm n)) := fn_spF F S hT hp hm fun cdv A outer s H E hr => (hb cdv A outer s H E hr).o
end It


set_option Elab.async false
set_option linter.all false
set_option maxRecDepth 100000
set_option maxHeartbeats 400000
/-! THE MIRROR, 14: the classes of a text by one look; the law's head. -/
namespace It
open PySem PySem.Spec PyProof.Rows L2

noncomputable def nmN (n c : Nat) : Nat := if c < n then c else 0
/-- each class straight under the first -/
noncomputable def subN (n c e : Nat) : Bool := nmN n e == 0 || nmN n c == nmN n e
noncomputable def cAof (L : List Addr) (c : Nat) : Addr := L.getD (nmN L.length c) 0
noncomputable def xcB (K : PySem.W.Frag) (C : Addr) : Bool :=
  PySem.W.findIn K (.ref C) "__getattribute__" == some (some (.builtin "BaseException.__getattribute__")) && PySem.W.findIn K (.ref C) "__getattr__" == some none && PySem.W.findIn K (.ref C) "__class__" == some (some (.builtin "object.__class__")) &&
  PySem.W.mroIn K C (.type "BaseException") == some true && PySem.W.mroIn K C (.type "object") == some true && (PySem.W.clsIn K C).isSome &&
  PySem.W.specialIn K (.builtin "object.__class__") "__get__" == some (some (.builtin "getset_descriptor.__get__")) && PySem.W.takesIn K (.builtin "object.__class__") == some true
theorem xcB_ok {K : PySem.W.Frag} {C : Addr} (h : xcB K C = true) : XC K C := by
  unfold xcB at h
  simp only [Bool.and_eq_true, beq_iff_eq] at h
  obtain ⟨⟨⟨⟨⟨⟨⟨h1, h2⟩, h3⟩, h4⟩, h5⟩, h6⟩, h7⟩, h8⟩ := h
  exact ⟨h1, h2, h3, h4, h5, h6, h7, h8⟩
noncomputable def clssB (K : PySem.W.Frag) (L : List Addr) : Bool := (List.range L.length).all fun c => xcB K (L.getD c 0) && PySem.W.kitOne K (.ref (L.getD c 0)) (.type "ValueError") == some true &&
  (List.range L.length).all fun e => PySem.W.kitOne K (.ref (L.getD c 0)) (.ref (L.getD e 0)) == some (subN L.length c e)
theorem nmN_lt {n c : Nat} (hn : 0 < n) : nmN n c < n := by unfold nmN; split <;> omega
theorem nmN_id {n c : Nat} (hn : 0 < n) : nmN n (nmN n c) = nmN n c := by unfold nmN; split <;> simp_all
theorem subN_nm {n c e : Nat} (hn : 0 < n) : subN n (nmN n c) (nmN n e) = subN n c e := by unfold subN; rw [nmN_id hn, nmN_id hn]
theorem clss_of {K : PySem.W.Frag} {L : List Addr} (hL : 0 < L.length) (h : clssB K L = true) : Clss K (cAof L) (subN L.length) := by
  unfold clssB at h
  rw [List.all_eq_true] at h
  have key : ∀ c, xcB K (cAof L c) = true ∧ PySem.W.kitOne K (.ref (cAof L c)) (.type "ValueError") = some true ∧ ∀ e, PySem.W.kitOne K (.ref (cAof L c)) (.ref (cAof L e)) = some (subN L.length c e) := fun c => by
    have z := h (nmN L.length c) (List.mem_range.mpr (nmN_lt hL))
    simp only [Bool.and_eq_true, beq_iff_eq, List.all_eq_true] at z
    obtain ⟨⟨z1, z2⟩, z3⟩ := z
    refine ⟨z1, z2, fun e => ?_⟩
    have y := z3 (nmN L.length e) (List.mem_range.mpr (nmN_lt hL))
    rw [subN_nm hL] at y
    exact y
  exact ⟨fun c => xcB_ok (key c).1, fun c e => (key c).2.2 e, fun c => (key c).2.1⟩
noncomputable def subB (K : PySem.W.Frag) (L : List Addr) (d : Nat) : Bool := (List.range L.length).all fun c => !(subN L.length c d) || L2.subIn K (L.getD c 0) (cAof L d)
theorem subB_ok {K : PySem.W.Frag} {L : List Addr} {d : Nat} (hL : 0 < L.length) (h : subB K L d = true) : ∀ c, subN L.length c d = true → L2.subIn K (cAof L c) (cAof L d) = true := fun c hc => by
  unfold subB at h
  rw [List.all_eq_true] at h
  have z := h (nmN L.length c) (List.mem_range.mpr (nmN_lt hL))
  have y : subN L.length (nmN L.length c) d = true := by
    unfold subN at hc ⊢
    rw [nmN_id hL]; exact hc
  rw [y] at z
  exact z

/-- law's: a list of at most 63 ints is handed in, True comes out -/
noncomputable def spLaw (K : PySem.W.Frag) : Sp := fun vs H Q _ => ∃ (a : Addr) (ns : List Int), vs = [.ref a] ∧ SqL K H a (ns.map V.int) ∧ ns.length ≤ 63 ∧ Only H ∧ ∀ H', Q (.bl true) H'
theorem law_imp {K : PySem.W.Frag} {cA : Nat → Addr} {m : List D → M D} (hm : ∀ ns : List Int, ns.length ≤ 63 → ∃ s', m [.loc 0] [.ro (ns.map D.int)] = some (.ok (.bl true), s')) (vs : List V) (H : Hp) (Q : VK) (E : XK) (h : spLaw K vs H Q E) : spF K cA m vs H Q E := by
  obtain ⟨a, ns, rfl, hq, hl, hO, k⟩ := h
  obtain ⟨φ, ds, s, r1, r2, h⟩ := law_sp (cA := cA) (m := m) hq hO (hm ns hl)
  refine ⟨φ, ds, s, r1, r2, ?_⟩
  unfold Run at h ⊢
  split at h
  · intro φ' H' x r v rv
    rw [h φ' H' x r v rv]
    exact k H'
  · exact fun φ' H' x r => (h φ' H' x r).elim
  · exact h
theorem walkL {l : PySem.W.OpenLaw} {k : Nat} {q : Program} {loose : List Str} {XP : (Str → Option Value) → Heap → Prop} {YP : World → Heap → Prop} {d : DefRec} {K : Params → PySem.W.Frag} {x : Str} (hn : l.most = some 63) (hdf : d.params.defaults = []) (hr : Room k callerA)
    (hY : ∀ (w : World) (h : Heap), YP w h → (K w.params).In h)
    (F : ∀ (w : World) (mg : Str → Option Value) (fa : Addr) (h : Heap), (K w.params).In h → h.Ns mainGlobals mg → mg d.name = some (.ref fa) →
      ∃ fd : FuncData, (∀ (s : Shared) (u : Value), BindsTo s fd ⟨[u], []⟩ [(x, u)]) ∧ ∀ base : Heap, (K w.params).In base → base.Ns mainGlobals mg → FnOk l.prog w (K w.params) mg base (CXe l.prog w) true k fa fd [x] (spLaw (K w.params))) :
    PySem.W.WalkO q loose XP YP l.row.toRowW d [] (fun f vs => PySem.call f vs) :=
  L2.walk_of (n := 63) (k := k) (x := x) (CX := fun w => CXe l.prog w) (sp := fun w => spLaw (K w.params)) hn (by decide) hdf hr hY F (fun _ H a ns hl hO hS => ⟨a, ns, rfl, hS, hl, hO, fun _ => rfl⟩) fun _ _ _ _ _ ⟨_, _, _, _, _, _, _, _, _, _, z⟩ => z
theorem binds1 {K : PySem.W.Frag} {fd : FuncData} {p : Str} (h : ∀ a, bindArgs fd ⟨[a], []⟩ = pure [(p, a)]) : Binds K fd [p] [] := .all fun us hl => by
  cases us with
  | nil => cases hl
  | cons a r => cases r with
    | nil => exact h a
    | cons b r => cases hl
theorem binds2 {K : PySem.W.Frag} {fd : FuncData} {p q : Str} (h : ∀ a b, bindArgs fd ⟨[a, b], []⟩ = pure [(p, a), (q, b)]) : Binds K fd [p, q] [] := .all fun us hl => by
  cases us with
  | nil => cases hl
  | cons a r => cases r with
    | nil => cases hl
    | cons b r => cases r with
      | nil => exact h a b
      | cons c r => cases hl
theorem binds3 {K : PySem.W.Frag} {fd : FuncData} {p q t : Str} (h : ∀ a b c, bindArgs fd ⟨[a, b, c], []⟩ = pure [(p, a), (q, b), (t, c)]) : Binds K fd [p, q, t] [] := .all fun us hl => by
  cases us with
  | nil => cases hl
  | cons a r => cases r with
    | nil => cases hl
    | cons b r => cases r with
      | nil => cases hl
      | cons c r => cases r with
        | nil => exact h a b c
        | cons d r => cases hl
end It


set_option Elab.async false
set_option linter.all false
set_option maxRecDepth 100000
set_option maxHeartbeats 400000
/-! THE MIRROR RUN: how its steps are reckoned. -/
namespace It
open PySem L2
noncomputable def fin : Option (Out × S) → Option (Rs D × S)
  | some (.nx _, s) => some (.ok .non, s)
  | some (.rt v, s) => some (.ok v, s)
  | some (.er c _, s) => some (.er c, s)
  | _ => none
@[simp] theorem fin_nx (τ : Vs) (s : S) : fin (some (.nx τ, s)) = some (.ok .non, s) := rfl
@[simp] theorem fin_rt (v : D) (s : S) : fin (some (.rt v, s)) = some (.ok v, s) := rfl
@[simp] theorem fin_er (c : Nat) (τ : Vs) (s : S) : fin (some (.er c τ, s)) = some (.er c, s) := rfl
theorem call_of {sub : Nat → Nat → Bool} {T : Nat → Option Df} {n k : Nat} {df : Df} {ds : List D} {c : Bool} {s : S} (hT : T n = some df) (hl : ds.length = df.pars) :
    call sub T (k + 1) c n ds s = fin (exs sub c (fun c => call sub T k c) df.body (ds.map some ++ List.replicate (df.many - df.pars) none) s) := by
  rw [call]
  simp only [hT, if_pos hl]
  cases e : exs sub c (fun c => call sub T k c) df.body (ds.map some ++ List.replicate (df.many - df.pars) none) s with
  | none => rfl
  | some r => obtain ⟨r, s'⟩ := r; cases r <;> rfl
section
variable {α β : Type} {s s' : S} {a : α} {c : Nat}
@[simp] theorem bind_eq (m : M α) (k : α → M β) : (m >>= k) = M.bd m k := rfl
@[simp] theorem pure_eq (a : α) : (pure a : M α) = M.ret a := rfl
@[simp] theorem ret_eq (a : α) (s : S) : (M.ret a : M α) s = some (.ok a, s) := rfl
@[simp] theorem no_eq (s : S) : (M.no : M α) s = none := rfl
@[simp] theorem opt_some (a : α) (s : S) : (M.opt (some a) : M α) s = some (.ok a, s) := rfl
@[simp] theorem opt_none (s : S) : (M.opt (none : Option α)) s = none := rfl
@[simp] theorem bd_eq (m : M α) (k : α → M β) (s : S) : M.bd m k s = match m s with
  | some (.ok a, s') => k a s'
  | some (.er c, s') => some (.er c, s')
  | none => none := rfl
@[simp] theorem qt_eq (m : M α) (s : S) : M.qt m s = match m s with
  | some (.ok a, s') => some (.ok a, s')
  | _ => none := rfl
@[simp] theorem ite_M {p : Prop} [Decidable p] (x y : M α) (s : S) : (if p then x else y) s = if p then x s else y s := by split <;> rfl
@[simp] theorem ite_MS {p : Prop} [Decidable p] (x y : MS) (s : S) : (if p then x else y) s = if p then x s else y s := by split <;> rfl
@[simp] theorem ofM_eq (m : M α) (τ : Vs) (k : α → MS) (s : S) : ofM m τ k s = match m s with
  | some (.ok a, s') => k a s'
  | some (.er c, s') => some (.er c τ, s')
  | none => none := rfl
@[simp] theorem thenS_eq (m : MS) (k : Vs → MS) (s : S) : thenS m k s = match m s with
  | some (.nx τ, s') => k τ s'
  | r => r := rfl
end
section
variable {sub : Nat → Nat → Bool} {c : Bool} {F : Fn} {G : Bool → Fn} {τ : Vs} {s : S}
@[simp] theorem exs_nil : exs sub c G .nil τ s = some (.nx τ, s) := rfl
@[simp] theorem exs_cons (a : St) (r : Sts) : exs sub c G (.cons a r) τ = thenS (ex sub c G a τ) fun τ' => exs sub c G r τ' := rfl
@[simp] theorem ex_pass : ex sub c G .pass τ s = some (.nx τ, s) := rfl
@[simp] theorem ex_ex (e : E) : ex sub c G (.ex e) τ = ofM (ev sub c (G c) e τ) τ fun _ s => some (.nx τ, s) := rfl
@[simp] theorem ex_asg (t : Tg) (e : E) : ex sub c G (.asg t e) τ = ofM (ev sub c (G c) e τ) τ fun d => store sub c (G c) t d τ := rfl
@[simp] theorem ex_par (i j : Nat) (a b : E) : ex sub true G (.par i j a b) τ = ofM (M.bd (ev sub true (G true) a τ) fun x => M.bd (ev sub true (G true) b τ) fun y => M.ret (x, y)) τ fun xy s => some (.nx ((τ.set i (some xy.1)).set j (some xy.2)), s) := rfl
@[simp] theorem ex_ret (e : E) : ex sub c G (.ret e) τ = ofM (ev sub c (G c) e τ) τ fun d s => some (.rt d, s) := rfl
@[simp] theorem ex_rise (n : Nat) (xs : Es) : ex sub true G (.rise n xs) τ = ofM (evs sub true (G true) xs τ) τ fun _ s => some (.er n τ, s) := rfl
@[simp] theorem ex_iff (e : E) (a b : Sts) : ex sub c G (.iff e a b) τ = ofM (M.bd (ev sub c (G c) e τ) boolOf) τ fun b' => if b' = true then exs sub c G a τ else exs sub c G b τ := rfl
theorem ex_wh (e : E) (b : Sts) : ex sub c G (.wh e b) τ = whileS (fun τ => M.bd (ev sub c (G c) e τ) boolOf) (fun τ => exs sub c G b τ) 1000 τ := rfl
theorem ex_fr (t : Tg) (e : E) (b : Sts) : ex sub true G (.fr t (.seq e) b) τ = ofM (M.bd (ev sub true (G true) e τ) fun x => M.bd (lenOf x) fun n => M.ret (x, n)) τ fun xn => forS (itemAt xn.1) (fun d τ => thenS (store sub true (G true) t d τ) fun τ' => exs sub true G b τ') (xn.2 + 1) 0 τ := rfl
theorem ex_rg (t : Tg) (e : E) (b : Sts) : ex sub true G (.fr t (.rg e) b) τ = ofM (M.bd (ev sub true (G true) e τ) fun x => M.bd (intOf x) fun i => if -(2 ^ 62) < i ∧ i < 2 ^ 62 then M.ret i else M.no) τ fun i => forS (rgAt i.toNat) (fun d τ => thenS (store sub true (G true) t d τ) fun τ' => exs sub true G b τ') (i.toNat + 1) 0 τ := rfl
theorem ex_try (b : Sts) (d i : Nat) (h : Sts) : ex sub true G (.tryc b d i h) τ s = match exs sub true G b τ s with
      | some (.er c τ', s') => if sub c d = true then (match exs sub false G h (τ'.set i (some (.exc c))) s' with
        | some (r, s'') => (match r with
          | .er _ _ => none
          | r => some (goes i r, s''))
        | none => none) else none
      | r => r := rfl
@[simp] theorem store_nm (i : Nat) (d : D) : store sub c F (.nm i) d τ s = some (.nx (τ.set i (some d)), s) := rfl
@[simp] theorem store_tp (is : List Nat) (d : D) : store sub true F (.tp is) d τ = ofM (M.opt ((tupOf d).bind fun ds => setAll is ds τ)) τ (fun τ' s => some (.nx τ', s)) := rfl
@[simp] theorem ev_c (d : D) : ev sub c F (.c d) τ = M.ret d := rfl
@[simp] theorem ev_v (i : Nat) : ev sub c F (.v i) τ = M.opt (τ[i]?.join) := rfl
@[simp] theorem ev_bin (o : Bop) (a b : E) : ev sub c F (.bin o a b) τ = M.bd (ev sub c F a τ) fun x => M.bd (ev sub c F b τ) fun y => evOp o x y := rfl
@[simp] theorem ev_cmp (o : Cop) (a b : E) : ev sub c F (.cmp o a b) τ = M.bd (ev sub c F a τ) fun x => M.bd (ev sub c F b τ) fun y => M.bd (M.opt (evCmp o x y)) fun z => M.ret (.bl z) := rfl
@[simp] theorem ev_ch2 (o1 o2 : Cop) (a b e : E) : ev sub c F (.ch2 o1 o2 a b e) τ = M.bd (ev sub c F a τ) fun x => M.bd (ev sub c F b τ) fun y => M.bd (M.opt (evCmp o1 x y)) fun z => if z = true then M.bd (ev sub c F e τ) fun w => M.bd (M.opt (evCmp o2 y w)) fun u => M.ret (.bl u) else M.ret (.bl false) := rfl
@[simp] theorem ev_ch3 (o1 o2 o3 : Cop) (a b e d : E) : ev sub c F (.ch3 o1 o2 o3 a b e d) τ = M.bd (ev sub c F a τ) fun x => M.bd (ev sub c F b τ) fun y => M.bd (M.opt (evCmp o1 x y)) fun z => if z = true then M.bd (ev sub c F e τ) fun w => M.bd (M.opt (evCmp o2 y w)) fun u => if u = true then M.bd (ev sub c F d τ) fun v => M.bd (M.opt (evCmp o3 w v)) fun q => M.ret (.bl q) else M.ret (.bl false) else M.ret (.bl false) := rfl
@[simp] theorem ev_isN (neg : Bool) (a : E) : ev sub c F (.isN neg a) τ = M.bd (ev sub c F a τ) fun x => M.ret (.bl (match x with | .non => !neg | _ => neg)) := rfl
@[simp] theorem ev_and (a b : E) : ev sub c F (.and a b) τ = M.bd (ev sub c F a τ) fun x => M.bd (boolOf x) fun z => if z = true then ev sub c F b τ else M.ret (.bl false) := rfl
@[simp] theorem ev_or (a b : E) : ev sub c F (.or a b) τ = M.bd (ev sub c F a τ) fun x => M.bd (boolOf x) fun z => if z = true then M.ret (.bl true) else ev sub c F b τ := rfl
@[simp] theorem ev_not (a : E) : ev sub c F (.not a) τ = M.bd (ev sub c F a τ) fun x => M.bd (boolOf x) fun z => M.ret (.bl (!z)) := rfl
@[simp] theorem ev_ite (e a b : E) : ev sub c F (.ite e a b) τ = M.bd (ev sub c F e τ) fun x => M.bd (boolOf x) fun z => if z = true then ev sub c F a τ else ev sub c F b τ := rfl
@[simp] theorem ev_tup (xs : Es) : ev sub c F (.tup xs) τ = M.bd (evs sub c F xs τ) fun ds => M.ret (.tup ds) := rfl
@[simp] theorem ev_lst (xs : Es) : ev sub c F (.lst xs) τ = M.bd (evs sub c F xs τ) fun ds => newL (.lst ds) := rfl
@[simp] theorem ev_dct1 (k : Str) (i : Int) : ev sub c F (.dct1 k i) τ = newL (.dct [(k, .int i)]) := rfl
@[simp] theorem ev_call (f : Nat) (xs : Es) : ev sub c F (.call f xs) τ = M.bd (evs sub c F xs τ) fun ds => F f ds := rfl
@[simp] theorem ev_bi (b : Bi) (xs : Es) : ev sub c F (.bi b xs) τ = M.bd (evs sub c F xs τ) fun ds => evBi c b ds := rfl
@[simp] theorem ev_isi (a : E) (k : Kd) : ev sub c F (.isi a k) τ = M.bd (ev sub c F a τ) fun x => M.bd (isiOf sub x k) fun z => M.ret (.bl z) := rfl
@[simp] theorem ev_ix (a i : E) : ev sub c F (.ix a i) τ = M.bd (ev sub c F a τ) fun x => M.bd (ev sub c F i τ) fun y => M.bd (intOf y) fun j => evIx x j := rfl
@[simp] theorem ev_sl (a : E) (lo hi : Eo) : ev sub c F (.sl a lo hi) τ = M.bd (ev sub c F a τ) fun x => M.bd (evo sub c F lo τ) fun l => M.bd (evo sub c F hi τ) fun h => evSl x l h := rfl
@[simp] theorem ev_meth (m : Mt) (o : E) (xs : Es) : ev sub c F (.meth m o xs) τ = M.bd (ev sub c F o τ) fun x => M.bd (listOf x) fun _ => M.bd (evs sub c F xs τ) fun ds => evMt m x ds := rfl
theorem ev_comp (elt it : E) (fr : List Nat) (cond : Eo) : ev sub true F (.comp elt it fr cond) τ = M.bd (ev sub true F it τ) fun x => M.bd (lenOf x) fun n => fun s =>
      M.bd (walk x (fun d => M.bd (M.qt (evc sub true F cond (some d :: fr.map fun j => τ[j]?.join))) fun ok =>
        if ok = true then M.bd (M.qt (ev sub true F elt (some d :: fr.map fun j => τ[j]?.join))) fun y => push s.length y else M.ret ()) (n + 1) 0) (fun _ => M.ret (.loc s.length)) (s ++ [.lst []]) := rfl
@[simp] theorem evs_nil : evs sub c F .nil τ = M.ret [] := rfl
@[simp] theorem evs_cons (a : E) (r : Es) : evs sub c F (.cons a r) τ = M.bd (ev sub c F a τ) fun x => M.bd (evs sub c F r τ) fun xs => M.ret (x :: xs) := rfl
@[simp] theorem evc_no : evc sub c F .no τ = M.ret true := rfl
@[simp] theorem evc_yes (a : E) : evc sub c F (.yes a) τ = M.bd (ev sub c F a τ) boolOf := rfl
@[simp] theorem evo_no : evo sub c F .no τ = M.ret none := rfl
@[simp] theorem evo_yes (a : E) : evo sub c F (.yes a) τ = M.bd (ev sub c F a τ) fun x => M.bd (intOf x) fun i => M.ret (some i) := rfl
@[simp] theorem boolOf_bl (b : Bool) (s : S) : boolOf (.bl b) s = some (.ok b, s) := rfl
@[simp] theorem intOf_int (i : Int) (s : S) : intOf (.int i) s = some (.ok i, s) := rfl
@[simp] theorem newL_eq (o : SO) (s : S) : newL o s = some (.ok (.loc s.length), s ++ [o]) := rfl
@[simp] theorem putL_eq (n : Nat) (o : SO) (s : S) : putL n o s = some (.ok (), s.set n o) := rfl
@[simp] theorem lenOf_tup (xs : List D) (s : S) : lenOf (.tup xs) s = some (.ok xs.length, s) := rfl
@[simp] theorem itemsOf_tup (xs : List D) (s : S) : itemsOf (.tup xs) s = some (.ok xs, s) := rfl
@[simp] theorem evIx_eq (a : D) (i : Int) : evIx a i = M.bd (itemsOf a) fun xs => M.opt (ixAt xs i) := rfl
theorem lenOf_lst {n : Nat} {xs : List D} (h : s[n]? = some (.lst xs)) : lenOf (.loc n) s = some (.ok xs.length, s) := by simp [lenOf, h]
theorem lenOf_ro {n : Nat} {xs : List D} (h : s[n]? = some (.ro xs)) : lenOf (.loc n) s = some (.ok xs.length, s) := by simp [lenOf, h]
theorem itemsOf_lst {n : Nat} {xs : List D} (h : s[n]? = some (.lst xs)) : itemsOf (.loc n) s = some (.ok xs, s) := by simp [itemsOf, h]
theorem itemsOf_ro {n : Nat} {xs : List D} (h : s[n]? = some (.ro xs)) : itemsOf (.loc n) s = some (.ok xs, s) := by simp [itemsOf, h]
theorem listOf_lst {n : Nat} {xs : List D} (h : s[n]? = some (.lst xs)) : listOf (.loc n) s = some (.ok xs, s) := by simp [listOf, h]
end
/-! ### what the reckonings come to, each by itself (so that the great cases are never opened) -/
section
variable {sub : Nat → Nat → Bool} {s : S}
@[simp] theorem isi_non_int : isiOf sub .non .int s = some (.ok false, s) := rfl
@[simp] theorem isi_non_bool : isiOf sub .non .bool s = some (.ok false, s) := rfl
@[simp] theorem isi_non_str : isiOf sub .non .str s = some (.ok false, s) := rfl
@[simp] theorem isi_non_tuple : isiOf sub .non .tuple s = some (.ok false, s) := rfl
@[simp] theorem isi_non_list : isiOf sub .non .list s = some (.ok false, s) := rfl
@[simp] theorem isi_non_dict : isiOf sub .non .dict s = some (.ok false, s) := rfl
@[simp] theorem isi_bl_int (b : Bool) : isiOf sub (.bl b) .int s = some (.ok true, s) := rfl
@[simp] theorem isi_bl_bool (b : Bool) : isiOf sub (.bl b) .bool s = some (.ok true, s) := rfl
@[simp] theorem isi_bl_str (b : Bool) : isiOf sub (.bl b) .str s = some (.ok false, s) := rfl
@[simp] theorem isi_bl_tuple (b : Bool) : isiOf sub (.bl b) .tuple s = some (.ok false, s) := rfl
@[simp] theorem isi_bl_list (b : Bool) : isiOf sub (.bl b) .list s = some (.ok false, s) := rfl
@[simp] theorem isi_bl_dict (b : Bool) : isiOf sub (.bl b) .dict s = some (.ok false, s) := rfl
@[simp] theorem isi_int_int (i : Int) : isiOf sub (.int i) .int s = some (.ok true, s) := rfl
@[simp] theorem isi_int_bool (i : Int) : isiOf sub (.int i) .bool s = some (.ok false, s) := rfl
@[simp] theorem isi_int_str (i : Int) : isiOf sub (.int i) .str s = some (.ok false, s) := rfl
@[simp] theorem isi_int_tuple (i : Int) : isiOf sub (.int i) .tuple s = some (.ok false, s) := rfl
@[simp] theorem isi_int_list (i : Int) : isiOf sub (.int i) .list s = some (.ok false, s) := rfl
@[simp] theorem isi_int_dict (i : Int) : isiOf sub (.int i) .dict s = some (.ok false, s) := rfl
@[simp] theorem isi_str_int (z : Str) : isiOf sub (.str z) .int s = some (.ok false, s) := rfl
@[simp] theorem isi_str_bool (z : Str) : isiOf sub (.str z) .bool s = some (.ok false, s) := rfl
@[simp] theorem isi_str_str (z : Str) : isiOf sub (.str z) .str s = some (.ok true, s) := rfl
@[simp] theorem isi_str_tuple (z : Str) : isiOf sub (.str z) .tuple s = some (.ok false, s) := rfl
@[simp] theorem isi_str_list (z : Str) : isiOf sub (.str z) .list s = some (.ok false, s) := rfl
@[simp] theorem isi_str_dict (z : Str) : isiOf sub (.str z) .dict s = some (.ok false, s) := rfl
@[simp] theorem isi_tup_int (xs : List D) : isiOf sub (.tup xs) .int s = some (.ok false, s) := rfl
@[simp] theorem isi_tup_bool (xs : List D) : isiOf sub (.tup xs) .bool s = some (.ok false, s) := rfl
@[simp] theorem isi_tup_str (xs : List D) : isiOf sub (.tup xs) .str s = some (.ok false, s) := rfl
@[simp] theorem isi_tup_tuple (xs : List D) : isiOf sub (.tup xs) .tuple s = some (.ok true, s) := rfl
@[simp] theorem isi_tup_list (xs : List D) : isiOf sub (.tup xs) .list s = some (.ok false, s) := rfl
@[simp] theorem isi_tup_dict (xs : List D) : isiOf sub (.tup xs) .dict s = some (.ok false, s) := rfl
@[simp] theorem isi_exc_cls (c e : Nat) : isiOf sub (.exc c) (.cls e) s = some (.ok (sub c e), s) := rfl
@[simp] theorem isi_exc_verr (c : Nat) : isiOf sub (.exc c) .verr s = some (.ok true, s) := rfl
theorem isi_lst_int {n : Nat} {xs : List D} (h : s[n]? = some (.lst xs)) : isiOf sub (.loc n) .int s = some (.ok false, s) := by unfold isiOf; dsimp only; rw [h]
theorem isi_dct_int {n : Nat} {xs : List (Str × D)} (h : s[n]? = some (.dct xs)) : isiOf sub (.loc n) .int s = some (.ok false, s) := by unfold isiOf; dsimp only; rw [h]
theorem isi_lst_bool {n : Nat} {xs : List D} (h : s[n]? = some (.lst xs)) : isiOf sub (.loc n) .bool s = some (.ok false, s) := by unfold isiOf; dsimp only; rw [h]
theorem isi_dct_bool {n : Nat} {xs : List (Str × D)} (h : s[n]? = some (.dct xs)) : isiOf sub (.loc n) .bool s = some (.ok false, s) := by unfold isiOf; dsimp only; rw [h]
theorem isi_lst_str {n : Nat} {xs : List D} (h : s[n]? = some (.lst xs)) : isiOf sub (.loc n) .str s = some (.ok false, s) := by unfold isiOf; dsimp only; rw [h]
theorem isi_dct_str {n : Nat} {xs : List (Str × D)} (h : s[n]? = some (.dct xs)) : isiOf sub (.loc n) .str s = some (.ok false, s) := by unfold isiOf; dsimp only; rw [h]
theorem isi_lst_tuple {n : Nat} {xs : List D} (h : s[n]? = some (.lst xs)) : isiOf sub (.loc n) .tuple s = some (.ok false, s) := by unfold isiOf; dsimp only; rw [h]
theorem isi_dct_tuple {n : Nat} {xs : List (Str × D)} (h : s[n]? = some (.dct xs)) : isiOf sub (.loc n) .tuple s = some (.ok false, s) := by unfold isiOf; dsimp only; rw [h]
theorem isi_lst_list {n : Nat} {xs : List D} (h : s[n]? = some (.lst xs)) : isiOf sub (.loc n) .list s = some (.ok true, s) := by unfold isiOf; dsimp only; rw [h]
theorem isi_dct_list {n : Nat} {xs : List (Str × D)} (h : s[n]? = some (.dct xs)) : isiOf sub (.loc n) .list s = some (.ok false, s) := by unfold isiOf; dsimp only; rw [h]
theorem isi_lst_dict {n : Nat} {xs : List D} (h : s[n]? = some (.lst xs)) : isiOf sub (.loc n) .dict s = some (.ok false, s) := by unfold isiOf; dsimp only; rw [h]
theorem isi_dct_dict {n : Nat} {xs : List (Str × D)} (h : s[n]? = some (.dct xs)) : isiOf sub (.loc n) .dict s = some (.ok true, s) := by unfold isiOf; dsimp only; rw [h]
@[simp] theorem bin_add (i j : Int) : evBin .add i j = some (i + j) := rfl
@[simp] theorem bin_sub (i j : Int) : evBin .sub i j = some (i - j) := rfl
@[simp] theorem bin_mul (i j : Int) : evBin .mul i j = if (-(2 ^ 64) < i ∧ i < 2 ^ 64) ∨ (-(2 ^ 64) < j ∧ j < 2 ^ 64) then some (i * j) else none := rfl
@[simp] theorem bin_fdiv (i j : Int) : evBin .fdiv i j = if 0 < j ∧ j < 1073741824 then some (i / j) else none := rfl
@[simp] theorem bin_mod (i j : Int) : evBin .mod i j = if 0 < j then some (i % j) else none := rfl
@[simp] theorem bin_pow (i j : Int) : evBin .pow i j = if 0 ≤ j ∧ j ≤ 1000000 ∧ i.natAbs < 2 ^ 64 then some (i ^ j.toNat) else none := rfl
@[simp] theorem op_add_int (i j : Int) : evOp .add (.int i) (.int j) = M.bd (M.opt (evBin .add i j)) fun k => M.ret (.int k) := rfl
@[simp] theorem op_sub_int (i j : Int) : evOp .sub (.int i) (.int j) = M.bd (M.opt (evBin .sub i j)) fun k => M.ret (.int k) := rfl
@[simp] theorem op_mul_int (i j : Int) : evOp .mul (.int i) (.int j) = M.bd (M.opt (evBin .mul i j)) fun k => M.ret (.int k) := rfl
@[simp] theorem op_fdiv_int (i j : Int) : evOp .fdiv (.int i) (.int j) = M.bd (M.opt (evBin .fdiv i j)) fun k => M.ret (.int k) := rfl
@[simp] theorem op_mod_int (i j : Int) : evOp .mod (.int i) (.int j) = M.bd (M.opt (evBin .mod i j)) fun k => M.ret (.int k) := rfl
@[simp] theorem op_pow_int (i j : Int) : evOp .pow (.int i) (.int j) = M.bd (M.opt (evBin .pow i j)) fun k => M.ret (.int k) := rfl
@[simp] theorem op_add_loc (m n : Nat) : evOp .add (.loc m) (.loc n) = M.bd (It.listOf (.loc m)) fun xs => M.bd (It.listOf (.loc n)) fun ys => if xs.length + ys.length ≤ sizeLine then newL (.lst (xs ++ ys)) else M.no := rfl
@[simp] theorem cmp_eq (a b : D) : evCmp .eq a b = deq 50 a b := rfl
@[simp] theorem cmp_ne (a b : D) : evCmp .ne a b = (deq 50 a b).map (!·) := rfl
@[simp] theorem cmp_lt (i j : Int) : evCmp .lt (.int i) (.int j) = some (decide (i < j)) := rfl
@[simp] theorem cmp_le (i j : Int) : evCmp .le (.int i) (.int j) = some (decide (i ≤ j)) := rfl
@[simp] theorem cmp_gt (i j : Int) : evCmp .gt (.int i) (.int j) = some (decide (j < i)) := rfl
@[simp] theorem cmp_ge (i j : Int) : evCmp .ge (.int i) (.int j) = some (decide (j ≤ i)) := rfl
@[simp] theorem deq_tup (n : Nat) (xs ys : List D) : deq (n + 1) (.tup xs) (.tup ys) = deqs (deq n) xs ys := rfl
@[simp] theorem deq_tup50 (xs ys : List D) : deq 50 (.tup xs) (.tup ys) = deqs (deq 49) xs ys := rfl
@[simp] theorem deqs_nn {eq : D → D → Option Bool} : deqs eq [] [] = some true := rfl
@[simp] theorem deqs_nc {eq : D → D → Option Bool} (y : D) (ys : List D) : deqs eq [] (y :: ys) = some false := rfl
@[simp] theorem deqs_cn {eq : D → D → Option Bool} (y : D) (ys : List D) : deqs eq (y :: ys) [] = some false := rfl
@[simp] theorem deqs_cc {eq : D → D → Option Bool} (x y : D) (xs ys : List D) : deqs eq (x :: xs) (y :: ys) = match eq x y, deqs eq xs ys with | some a, some b => some (a && b) | _, _ => none := rfl
@[simp] theorem deq49_non_non : deq 49 .non .non = some (true) := rfl
@[simp] theorem deq49_non_blb (b : Bool) : deq 49 .non (.bl b) = some (false) := rfl
@[simp] theorem deq49_blb_non (b : Bool) : deq 49 (.bl b) .non = some (false) := rfl
@[simp] theorem deq49_non_inti (i : Int) : deq 49 .non (.int i) = some (false) := rfl
@[simp] theorem deq49_inti_non (i : Int) : deq 49 (.int i) .non = some (false) := rfl
@[simp] theorem deq49_non_strz (z : Str) : deq 49 .non (.str z) = some (false) := rfl
@[simp] theorem deq49_strz_non (z : Str) : deq 49 (.str z) .non = some (false) := rfl
@[simp] theorem deq49_blb_blb (b : Bool) (b' : Bool) : deq 49 (.bl b) (.bl b') = some (decide (b = b')) := rfl
@[simp] theorem deq49_inti_intj (i : Int) (j : Int) : deq 49 (.int i) (.int j) = some (decide (i = j)) := rfl
@[simp] theorem deq49_strz_strz (z : Str) (z' : Str) : deq 49 (.str z) (.str z') = some (decide (z = z')) := rfl
@[simp] theorem deq49_inti_strz (i : Int) (z : Str) : deq 49 (.int i) (.str z) = some (false) := rfl
@[simp] theorem deq49_strz_inti (i : Int) (z : Str) : deq 49 (.str z) (.int i) = some (false) := rfl
@[simp] theorem deq49_blb_strz (b : Bool) (z : Str) : deq 49 (.bl b) (.str z) = some (false) := rfl
@[simp] theorem deq49_strz_blb (b : Bool) (z : Str) : deq 49 (.str z) (.bl b) = some (false) := rfl
@[simp] theorem deq50_non_non : deq 50 .non .non = some (true) := rfl
@[simp] theorem deq50_non_blb (b : Bool) : deq 50 .non (.bl b) = some (false) := rfl
@[simp] theorem deq50_blb_non (b : Bool) : deq 50 (.bl b) .non = some (false) := rfl
@[simp] theorem deq50_non_inti (i : Int) : deq 50 .non (.int i) = some (false) := rfl
@[simp] theorem deq50_inti_non (i : Int) : deq 50 (.int i) .non = some (false) := rfl
@[simp] theorem deq50_non_strz (z : Str) : deq 50 .non (.str z) = some (false) := rfl
@[simp] theorem deq50_strz_non (z : Str) : deq 50 (.str z) .non = some (false) := rfl
@[simp] theorem deq50_blb_blb (b : Bool) (b' : Bool) : deq 50 (.bl b) (.bl b') = some (decide (b = b')) := rfl
@[simp] theorem deq50_inti_intj (i : Int) (j : Int) : deq 50 (.int i) (.int j) = some (decide (i = j)) := rfl
@[simp] theorem deq50_strz_strz (z : Str) (z' : Str) : deq 50 (.str z) (.str z') = some (decide (z = z')) := rfl
@[simp] theorem deq50_inti_strz (i : Int) (z : Str) : deq 50 (.int i) (.str z) = some (false) := rfl
@[simp] theorem deq50_strz_inti (i : Int) (z : Str) : deq 50 (.str z) (.int i) = some (false) := rfl
@[simp] theorem deq50_blb_strz (b : Bool) (z : Str) : deq 50 (.bl b) (.str z) = some (false) := rfl
@[simp] theorem deq50_strz_blb (b : Bool) (z : Str) : deq 50 (.str z) (.bl b) = some (false) := rfl
@[simp] theorem bi_len_eq (c : Bool) (d : D) : evBi c .len [d] = M.bd (lenOf d) fun n => M.ret (.int n) := rfl
@[simp] theorem bi_abs_eq (c : Bool) (i : Int) : evBi c .abs [.int i] = M.ret (.int (if i < 0 then -i else i)) := rfl
@[simp] theorem bi_max_eq (i j : Int) : evBi true .max [.int i, .int j] = M.ret (.int (if j > i then j else i)) := rfl
@[simp] theorem bi_min_eq (i j : Int) : evBi true .min [.int i, .int j] = M.ret (.int (if j < i then j else i)) := rfl
@[simp] theorem bi_int_eq (c : Bool) (i : Int) : evBi c .int [.int i] = M.ret (.int i) := rfl
@[simp] theorem bi_intb_eq (c : Bool) (b : Bool) : evBi c .int [.bl b] = M.ret (.int (if b then 1 else 0)) := rfl
@[simp] theorem bi_divmod_eq (c : Bool) (i j : Int) : evBi c .divmod [.int i, .int j] = if 0 < j ∧ j < 1073741824 then M.ret (.tup [.int (i / j), .int (i % j)]) else M.no := rfl
@[simp] theorem bi_all_eq (c : Bool) (d : D) : evBi c .all [d] = M.bd (It.listOf d) fun xs => M.bd (M.opt (allBl xs)) fun bs => M.ret (.bl (bs.all id)) := rfl
@[simp] theorem mt_count_eq (n : Nat) (b : Bool) : evMt .count (.loc n) [.bl b] = M.bd (It.listOf (.loc n)) fun l => M.bd (M.opt (allBl l)) fun bs => M.ret (.int (bs.count b)) := rfl
@[simp] theorem mt_index_eq (n : Nat) (b : Bool) : evMt .index (.loc n) [.bl b] = M.bd (It.listOf (.loc n)) fun l => M.bd (M.opt (allBl l)) fun bs => M.bd (M.opt (bs.idxOf? b)) fun i => M.ret (.int i) := rfl
@[simp] theorem mt_append_eq (n : Nat) (d : D) : evMt .append (.loc n) [d] = M.bd (It.listOf (.loc n)) fun l => if l.length < sizeLine then M.bd (putL n (.lst (l ++ [d]))) fun _ => M.ret .non else M.no := rfl
@[simp] theorem sl_loc (n : Nat) (lo hi : Option Int) : evSl (.loc n) lo hi = M.bd (itemsOf (.loc n)) fun xs => newL (.lst (cut xs lo hi)) := rfl
end
/-! a thing without lists and exceptions -/
mutual
noncomputable def flat : D → Bool
  | .loc _ => false
  | .exc _ => false
  | .tup xs => flats xs
  | _ => true
noncomputable def flats : List D → Bool
  | [] => true
  | x :: r => flat x && flats r
end
noncomputable def isWhole : D → Bool
  | .int _ => true
  | _ => false
@[simp] theorem app_at0 (s l : S) : (s ++ l)[s.length]? = l[0]? := by rw [List.getElem?_append_right (Nat.le_refl _), Nat.sub_self]
@[simp] theorem app_at (s l : S) (i : Nat) : (s ++ l)[s.length + i]? = l[i]? := by rw [List.getElem?_append_right (Nat.le_add_right _ _), Nat.add_sub_cancel_left]
theorem ixAt_nat {α : Type} (xs : List α) (i : Int) (h0 : 0 ≤ i) (h1 : i < xs.length) : ixAt xs i = xs[i.toNat]? := by
  unfold ixAt L2.atI L2.ixN
  rw [if_pos h0, if_pos h1]
  rfl
@[simp] theorem atI_0 {α : Type} (x : α) (r : List α) : ixAt (x :: r) 0 = some x := by
  have h : (0 : Int) < ((x :: r).length : Int) := by rw [List.length_cons]; exact Int.natCast_pos.mpr (Nat.succ_pos _)
  rw [ixAt_nat _ _ (by decide) h]; rfl
@[simp] theorem atI_1 {α : Type} (x y : α) (r : List α) : ixAt (x :: y :: r) 1 = some y := by
  have h : (1 : Int) < ((x :: y :: r).length : Int) := by rw [List.length_cons, List.length_cons]; omega
  rw [ixAt_nat _ _ (by decide) h]; rfl
end It

set_option Elab.async false
set_option linter.all false
set_option maxRecDepth 100000
set_option maxHeartbeats 400000
/-! THE MIRROR RUN: loops. -/
namespace It
open PySem L2
theorem forS_from {it : Nat → S → Option (Option D)} {b : D → Vs → MS} (xs : List D) (inv : Nat → Vs → S → Prop) (hit : ∀ i τ s, i ≤ xs.length → inv i τ s → it i s = some xs[i]?)
    (hb : ∀ i d τ s, xs[i]? = some d → inv i τ s → ∃ τ' s', b d τ s = some (.nx τ', s') ∧ inv (i + 1) τ' s') : ∀ (n i : Nat) (τ : Vs) (s : S), i + n = xs.length → inv i τ s → ∃ τ' s', forS it b (n + 1) i τ s = some (.nx τ', s') ∧ inv xs.length τ' s'
  | 0, i, τ, s, hi, h => by
    have e := hit i τ s (by omega) h
    rw [List.getElem?_eq_none (by omega)] at e
    refine ⟨τ, s, ?_, ?_⟩
    · rw [forS]; simp only [e]
    · have : i = xs.length := by omega
      subst this; exact h
  | n + 1, i, τ, s, hi, h => by
    have e := hit i τ s (by omega) h
    have hl : i < xs.length := by omega
    rw [List.getElem?_eq_getElem hl] at e
    obtain ⟨τ', s', e2, h2⟩ := hb i xs[i] τ s (List.getElem?_eq_getElem hl) h
    obtain ⟨τ'', s'', e3, h3⟩ := forS_from xs inv hit hb n (i + 1) τ' s' (by omega) h2
    refine ⟨τ'', s'', ?_, h3⟩
    rw [forS]
    simp only [e, e2]
    exact e3
theorem forS_all {it : Nat → S → Option (Option D)} {b : D → Vs → MS} (xs : List D) (inv : Nat → Vs → S → Prop) (hit : ∀ i τ s, i ≤ xs.length → inv i τ s → it i s = some xs[i]?)
    (hb : ∀ i d τ s, xs[i]? = some d → inv i τ s → ∃ τ' s', b d τ s = some (.nx τ', s') ∧ inv (i + 1) τ' s') {τ : Vs} {s : S} (h : inv 0 τ s) : ∃ τ' s', forS it b (xs.length + 1) 0 τ s = some (.nx τ', s') ∧ inv xs.length τ' s' :=
  forS_from xs inv hit hb xs.length 0 τ s (by omega) h
theorem forS_rg {b : D → Vs → MS} (n : Nat) (inv : Nat → Vs → S → Prop)
    (hb : ∀ i τ s, i < n → inv i τ s → ∃ τ' s', b (.int i) τ s = some (.nx τ', s') ∧ inv (i + 1) τ' s') {τ : Vs} {s : S} (h : inv 0 τ s) : ∃ τ' s', forS (rgAt n) b (n + 1) 0 τ s = some (.nx τ', s') ∧ inv n τ' s' := by
  have key := forS_all (it := rgAt n) (b := b) ((List.range n).map fun (i : Nat) => D.int (0 + (i : Int))) inv (fun i τ s hi _ => ?_) (fun i d τ s hd hi => ?_) h
  · simpa using key
  · unfold rgAt
    by_cases hi : i < n
    · rw [List.getElem?_map, List.getElem?_range hi, if_pos hi]; rfl
    · rw [if_neg hi, List.getElem?_eq_none (by simp; omega)]
  · rw [List.getElem?_map] at hd
    have hn : i < n := by
      by_cases hi : i < n
      · exact hi
      · rw [List.getElem?_eq_none (by simp; omega)] at hd; cases hd
    rw [List.getElem?_range hn] at hd
    have e : D.int (i : Int) = d := by simpa using hd
    subst e
    exact hb i τ s hn hi
theorem while_step {c : Vs → M Bool} {b : Vs → MS} {n : Nat} {τ τ' : Vs} {s s1 s' : S} (hc : c τ s = some (.ok true, s1)) (hb : b τ s1 = some (.nx τ', s')) : whileS c b (n + 1) τ s = whileS c b n τ' s' := by
  rw [whileS]
  unfold ofM
  simp only [hc, if_pos, hb]
theorem while_stop {c : Vs → M Bool} {b : Vs → MS} {n : Nat} {τ : Vs} {s s1 : S} (hc : c τ s = some (.ok false, s1)) : whileS c b (n + 1) τ s = some (.nx τ, s1) := by
  rw [whileS]
  unfold ofM
  simp [hc]
section
variable {sub : Nat → Nat → Bool} {c : Bool} {G : Bool → Fn} {τ τ' : Vs} {s s' : S} {a : St} {r : Sts}
theorem exs_nx (h : ex sub c G a τ s = some (.nx τ', s')) : exs sub c G (.cons a r) τ s = exs sub c G r τ' s' := by
  rw [exs_cons]; unfold thenS; rw [h]
theorem exs_rt {d : D} (h : ex sub c G a τ s = some (.rt d, s')) : exs sub c G (.cons a r) τ s = some (.rt d, s') := by
  rw [exs_cons]; unfold thenS; rw [h]
end
/-- the list at a place -/
theorem itemAt_lst {n i : Nat} {s : S} {xs : List D} (h : s[n]? = some (.lst xs)) : itemAt (.loc n) i s = some xs[i]? := by simp [itemAt, h]
theorem itemAt_tup {i : Nat} {s : S} {xs : List D} : itemAt (.tup xs) i s = some xs[i]? := rfl

/-! ### what a run comes to: a value and a store, of which is asked -/
noncomputable def RW {α : Type} (r : Option (Rs α × S)) (Q : α → S → Prop) : Prop := ∃ a s, r = some (.ok a, s) ∧ Q a s
noncomputable def W (r : Option (Out × S)) (P : Out → S → Prop) : Prop := ∃ o s, r = some (o, s) ∧ P o s
section
variable {α β : Type} {sub : Nat → Nat → Bool} {c : Bool} {F : Fn} {G : Bool → Fn} {τ τ' : Vs} {s s1 s' : S} {a : St} {r : Sts} {P : Out → S → Prop} {e e2 : E} {Q : D → S → Prop}
theorem rw_of {r : Option (Rs α × S)} {Q : α → S → Prop} {v : α} (h : r = some (.ok v, s)) (q : Q v s) : RW r Q := ⟨v, s, h, q⟩
theorem rw_imp {r : Option (Rs α × S)} {Q Q' : α → S → Prop} (h : RW r Q) (f : ∀ v s, Q v s → Q' v s) : RW r Q' := let ⟨v, s, e, q⟩ := h; ⟨v, s, e, f v s q⟩
theorem rw_bd {m : M α} {k : α → M β} {Q : β → S → Prop} (h : RW (m s) fun v s1 => RW (k v s1) Q) : RW (M.bd m k s) Q := by
  obtain ⟨v, s1, e, b, s2, e2, q⟩ := h
  refine ⟨b, s2, ?_, q⟩
  rw [bd_eq, e]
  exact e2
theorem w_fin {r : Option (Out × S)} {Q : D → S → Prop} (h : W r fun o s => match o with | .nx _ => Q .non s | .rt v => Q v s | _ => False) : RW (fin r) Q := by
  obtain ⟨o, s, rfl, h⟩ := h
  cases o with
  | nx τ => exact ⟨_, _, rfl, h⟩
  | rt v => exact ⟨_, _, rfl, h⟩
  | _ => exact h.elim
theorem w_call {T : Nat → Option Df} {n k : Nat} {df : Df} {ds : List D} (hT : T n = some df) (hl : ds.length = df.pars) (h : W (exs sub c (fun c => call sub T k c) df.body (ds.map some ++ List.replicate (df.many - df.pars) none) s) fun o s => match o with | .nx _ => Q .non s | .rt v => Q v s | _ => False) :
    RW (call sub T (k + 1) c n ds s) Q := by
  rw [call_of hT hl]
  exact w_fin h
theorem w_nil (h : P (.nx τ) s) : W (exs sub c G .nil τ s) P := ⟨_, _, rfl, h⟩
theorem w_cons (h : W (ex sub c G a τ s) fun o s1 => match o with | .nx τ1 => W (exs sub c G r τ1 s1) P | o => P o s1) : W (exs sub c G (.cons a r) τ s) P := by
  obtain ⟨o, s1, e, h⟩ := h
  cases o with
  | nx τ1 => rw [exs_nx e]; exact h
  | rt d => rw [exs_rt e]; exact ⟨_, _, rfl, h⟩
  | bk τ => exact ⟨_, _, by rw [exs_cons]; unfold thenS; rw [e], h⟩
  | ct τ => exact ⟨_, _, by rw [exs_cons]; unfold thenS; rw [e], h⟩
  | er n τ => exact ⟨_, _, by rw [exs_cons]; unfold thenS; rw [e], h⟩
theorem w_ofM {m : M α} {k : α → MS} (h : RW (m s) fun v s1 => W (k v s1) P) : W (ofM m τ k s) P := by
  obtain ⟨v, s1, e, o, s2, e2, h⟩ := h
  exact ⟨o, s2, by rw [ofM_eq, e]; exact e2, h⟩
theorem w_nm {i : Nat} (h : RW (ev sub c (G c) e τ s) fun v s1 => P (.nx (τ.set i (some v))) s1) : W (ex sub c G (.asg (.nm i) e) τ s) P := w_ofM (rw_imp h fun v s1 q => ⟨_, _, rfl, q⟩)
theorem w_tp {is : List Nat} (h : RW (ev sub true (G true) e τ s) fun v s1 => ∃ ds τ', v = .tup ds ∧ setAll is ds τ = some τ' ∧ P (.nx τ') s1) : W (ex sub true G (.asg (.tp is) e) τ s) P := w_ofM (rw_imp h fun v s1 ⟨ds, τ', e1, e2, q⟩ => by
  subst e1
  refine ⟨_, s1, ?_, q⟩
  rw [store_tp, ofM_eq]
  simp [tupOf, e2])
theorem w_ret (h : RW (ev sub c (G c) e τ s) fun v s1 => P (.rt v) s1) : W (ex sub c G (.ret e) τ s) P := w_ofM (rw_imp h fun v s1 q => ⟨_, _, rfl, q⟩)
theorem w_ex (h : RW (ev sub c (G c) e τ s) fun v s1 => P (.nx τ) s1) : W (ex sub c G (.ex e) τ s) P := w_ofM (rw_imp h fun v s1 q => ⟨_, _, rfl, q⟩)
theorem w_if {x y : Sts} (h : RW (ev sub c (G c) e τ s) fun v s1 => ∃ b, v = .bl b ∧ if b = true then W (exs sub c G x τ s1) P else W (exs sub c G y τ s1) P) : W (ex sub c G (.iff e x y) τ s) P := w_ofM (rw_bd (rw_imp h fun v s1 ⟨b, e1, q⟩ => by
  subst e1
  refine ⟨b, s1, rfl, ?_⟩
  cases b <;> simpa using q))
theorem w_rg {t : Tg} {b : Sts} {n : Int} (inv : Nat → Vs → S → Prop) (he : RW (ev sub true (G true) e τ s) fun v s1 => v = .int n ∧ inv 0 τ s1) (hz : -(2 ^ 62) < n ∧ n < 2 ^ 62)
    (hb : ∀ i τ s, i < n.toNat → inv i τ s → W (thenS (store sub true (G true) t (.int i) τ) (fun τ' => exs sub true G b τ') s) fun o s1 => ∃ τ', o = .nx τ' ∧ inv (i + 1) τ' s1) (hd : ∀ τ s, inv n.toNat τ s → P (.nx τ) s) : W (ex sub true G (.fr t (.rg e) b) τ s) P := by
  obtain ⟨v, s1, e1, rfl, h0⟩ := he
  obtain ⟨τ', s', e2, h2⟩ := forS_rg (b := fun d τ => thenS (store sub true (G true) t d τ) fun τ' => exs sub true G b τ') n.toNat inv (fun i τ s hi h => by
    obtain ⟨o, s1, e, τ', rfl, q⟩ := hb i τ s hi h
    exact ⟨τ', s1, e, q⟩) h0
  refine ⟨.nx τ', s', ?_, hd τ' s' h2⟩
  rw [ex_rg, ofM_eq, bd_eq, e1]
  simp only [bd_eq, intOf_int, if_pos hz, ret_eq]
  exact e2
theorem w_fr {t : Tg} {b : Sts} (xs : List D) (it : D) (inv : Nat → Vs → S → Prop) (he : RW (ev sub true (G true) e τ s) fun v s1 => v = it ∧ lenOf it s1 = some (.ok xs.length, s1) ∧ inv 0 τ s1) (hit : ∀ i τ s, i ≤ xs.length → inv i τ s → itemAt it i s = some xs[i]?)
    (hb : ∀ i d τ s, xs[i]? = some d → inv i τ s → W (thenS (store sub true (G true) t d τ) (fun τ' => exs sub true G b τ') s) fun o s1 => ∃ τ', o = .nx τ' ∧ inv (i + 1) τ' s1) (hd : ∀ τ s, inv xs.length τ s → P (.nx τ) s) : W (ex sub true G (.fr t (.seq e) b) τ s) P := by
  obtain ⟨v, s1, e1, rfl, el, h0⟩ := he
  obtain ⟨τ', s', e2, h2⟩ := forS_all (it := itemAt v) (b := fun d τ => thenS (store sub true (G true) t d τ) fun τ' => exs sub true G b τ') xs inv hit (fun i d τ s hi h => by
    obtain ⟨o, s1, e, τ', rfl, q⟩ := hb i d τ s hi h
    exact ⟨τ', s1, e, q⟩) h0
  refine ⟨.nx τ', s', ?_, hd τ' s' h2⟩
  rw [ex_fr, ofM_eq, bd_eq, e1]
  simp only [bd_eq, el, ret_eq]
  exact e2
theorem w_imp {r : Option (Out × S)} {P' : Out → S → Prop} (h : W r P) (f : ∀ o s, P o s → P' o s) : W r P' := let ⟨o, s, e, q⟩ := h; ⟨o, s, e, f o s q⟩
theorem w_frW {t : Tg} {b : Sts} (h : RW (ev sub true (G true) e τ s) fun it s1 => ∃ (xs : List D) (inv : Nat → Vs → S → Prop), lenOf it s1 = some (.ok xs.length, s1) ∧ inv 0 τ s1 ∧ (∀ i τ s, i ≤ xs.length → inv i τ s → itemAt it i s = some xs[i]?) ∧
    (∀ i d τ s, xs[i]? = some d → inv i τ s → W (thenS (store sub true (G true) t d τ) (fun τ' => exs sub true G b τ') s) fun o s1 => ∃ τ', o = .nx τ' ∧ inv (i + 1) τ' s1) ∧ ∀ τ s, inv xs.length τ s → P (.nx τ) s) : W (ex sub true G (.fr t (.seq e) b) τ s) P := by
  obtain ⟨v, s1, e1, xs, inv, h1, h2, h3, h4, h5⟩ := h
  exact w_fr xs v inv ⟨v, s1, e1, rfl, h1, h2⟩ h3 h4 h5
/-- a turn: the target is a name -/
theorem w_turn {i : Nat} {d : D} {b : Sts} (h : W (exs sub c G b (τ.set i (some d)) s) P) : W (thenS (store sub c F (.nm i) d τ) (fun τ' => exs sub c G b τ') s) P := h
theorem ew_call {f : Nat} {xs : Es} {ds : List D} (h1 : evs sub c F xs τ s = some (.ok ds, s1)) (h2 : RW (F f ds s1) Q) : RW (ev sub c F (.call f xs) τ s) Q := by
  rw [ev_call]
  exact rw_bd ⟨ds, s1, h1, h2⟩
theorem ew_v {i : Nat} {d : D} (h : τ[i]? = some (some d)) (q : Q d s) : RW (ev sub c F (.v i) τ s) Q := ⟨d, s, by rw [ev_v, h]; rfl, q⟩
theorem ew_c {d : D} (q : Q d s) : RW (ev sub c F (.c d) τ s) Q := ⟨d, s, rfl, q⟩
theorem ew_bin {o : Bop} (h : RW (ev sub c F e τ s) fun x s1 => RW (ev sub c F e2 τ s1) fun y s2 => RW (evOp o x y s2) Q) : RW (ev sub c F (.bin o e e2) τ s) Q := rw_bd (rw_imp h fun _ _ q => rw_bd q)
theorem ew_cmp {o : Cop} (h : RW (ev sub c F e τ s) fun x s1 => RW (ev sub c F e2 τ s1) fun y s2 => ∃ b, evCmp o x y = some b ∧ Q (.bl b) s2) : RW (ev sub c F (.cmp o e e2) τ s) Q := rw_bd (rw_imp h fun _ _ q => rw_bd (rw_imp q fun _ s2 ⟨b, e, q⟩ => ⟨.bl b, s2, by rw [e]; rfl, q⟩))
theorem ew_not (h : RW (ev sub c F e τ s) fun x s1 => ∃ b, x = .bl b ∧ Q (.bl (!b)) s1) : RW (ev sub c F (.not e) τ s) Q := rw_bd (rw_imp h fun _ s2 ⟨b, e, q⟩ => by subst e; exact ⟨_, s2, rfl, q⟩)
theorem ew_and (h : RW (ev sub c F e τ s) fun x s1 => ∃ b, x = .bl b ∧ (b = true → RW (ev sub c F e2 τ s1) Q) ∧ (b = false → Q (.bl false) s1)) : RW (ev sub c F (.and e e2) τ s) Q := rw_bd (rw_imp h fun _ s2 ⟨b, e, q1, q2⟩ => by
  subst e
  refine rw_bd ⟨b, s2, rfl, ?_⟩
  cases b with
  | true => exact q1 rfl
  | false => exact ⟨_, s2, rfl, q2 rfl⟩)
theorem ew_or (h : RW (ev sub c F e τ s) fun x s1 => ∃ b, x = .bl b ∧ (b = false → RW (ev sub c F e2 τ s1) Q) ∧ (b = true → Q (.bl true) s1)) : RW (ev sub c F (.or e e2) τ s) Q := rw_bd (rw_imp h fun _ s2 ⟨b, e, q1, q2⟩ => by
  subst e
  refine rw_bd ⟨b, s2, rfl, ?_⟩
  cases b with
  | false => exact q1 rfl
  | true => exact ⟨_, s2, rfl, q2 rfl⟩)
theorem ew_ix (h : RW (ev sub c F e τ s) fun x s1 => RW (ev sub c F e2 τ s1) fun y s2 => ∃ i xs v, y = .int i ∧ itemsOf x s2 = some (.ok xs, s2) ∧ ixAt xs i = some v ∧ Q v s2) : RW (ev sub c F (.ix e e2) τ s) Q := rw_bd (rw_imp h fun _ _ q => rw_bd (rw_imp q fun _ s2 ⟨i, xs, v, e1, e2, e3, q⟩ => by
  subst e1
  refine rw_bd ⟨i, s2, rfl, ?_⟩
  refine rw_bd ⟨xs, s2, e2, ?_⟩
  exact ⟨v, s2, by rw [e3]; rfl, q⟩))
theorem ew_tup {xs : Es} (h : RW (evs sub c F xs τ s) fun ds s1 => Q (.tup ds) s1) : RW (ev sub c F (.tup xs) τ s) Q := rw_bd (rw_imp h fun ds s1 q => ⟨_, s1, rfl, q⟩)
theorem ew_lst {xs : Es} (h : RW (evs sub c F xs τ s) fun ds s1 => Q (.loc s1.length) (s1 ++ [.lst ds])) : RW (ev sub c F (.lst xs) τ s) Q := rw_bd (rw_imp h fun ds s1 q => ⟨_, _, rfl, q⟩)
theorem ews_cons {xs : Es} {Q : List D → S → Prop} (h : RW (ev sub c F e τ s) fun x s1 => RW (evs sub c F xs τ s1) fun ds s2 => Q (x :: ds) s2) : RW (evs sub c F (.cons e xs) τ s) Q := rw_bd (rw_imp h fun x s1 q => rw_bd (rw_imp q fun ds s2 q => ⟨_, s2, rfl, q⟩))
theorem ews_nil {Q : List D → S → Prop} (h : Q [] s) : RW (evs sub c F .nil τ s) Q := ⟨_, s, rfl, h⟩
theorem ew_bi {b : Bi} {xs : Es} (h : RW (evs sub c F xs τ s) fun ds s1 => RW (evBi c b ds s1) Q) : RW (ev sub c F (.bi b xs) τ s) Q := rw_bd h
theorem ew_callW {f : Nat} {xs : Es} (h : RW (evs sub c F xs τ s) fun ds s1 => RW (F f ds s1) Q) : RW (ev sub c F (.call f xs) τ s) Q := rw_bd h
end
end It


set_option Elab.async false
set_option linter.all false
set_option maxRecDepth 100000
set_option maxHeartbeats 400000

namespace K03
open PySem L2 It

/-- is_whole -/
noncomputable def b0 : Sts := (.cons (.ret (.and (.isi (.v 0) .int) (.not (.isi (.v 0) .bool))))
  .nil)

/-- is_within -/
noncomputable def b1 : Sts := (.cons (.ret (.and (.call 0 (.cons (.v 0) .nil)) (.ch2 .le .le (.v 1) (.v 0) (.v 2))))
  .nil)

/-- is_row -/
noncomputable def b2 : Sts := (.cons (.ret (.and (.isi (.v 0) .tuple) (.cmp .eq (.bi .len (.cons (.v 0) .nil)) (.v 1))))
  .nil)

/-- is_ring -/
noncomputable def b3 : Sts := (.cons (.iff (.not (.call 2 (.cons (.v 0) (.cons (.c (.int 2)) .nil)))) (.cons (.ret (.c (.bl false)))
  .nil) .nil)
  (.cons (.asg (.tp [1, 2]) (.v 0))
  (.cons (.ret (.and (.call 1 (.cons (.v 1) (.cons (.c (.int 1)) (.cons (.c (.int 24)) .nil)))) (.call 1 (.cons (.v 2) (.cons (.c (.int 1)) (.cons (.v 1) .nil))))))
  .nil)))

/-- steps_apart -/
noncomputable def b4 : Sts := (.cons (.ex (.call 6 (.cons (.v 0) .nil)))
  (.cons (.ex (.call 7 (.cons (.v 0) (.cons (.v 1) .nil))))
  (.cons (.ex (.call 7 (.cons (.v 0) (.cons (.v 2) .nil))))
  (.cons (.ret (.call 8 (.cons (.v 0) (.cons (.v 1) (.cons (.v 2) .nil)))))
  .nil))))

/-- is_spot -/
noncomputable def b5 : Sts := (.cons (.ret (.call 1 (.cons (.v 1) (.cons (.c (.int 0)) (.cons (.bin .sub (.ix (.v 0) (.c (.int 0))) (.c (.int 1))) .nil)))))
  .nil)

/-- check_ring -/
noncomputable def b6 : Sts := (.cons (.iff (.not (.call 3 (.cons (.v 0) .nil))) (.cons (.rise 1 (.cons (.c (.str "no ring")) .nil))
  .nil) .nil)
  .nil)

/-- check_spot -/
noncomputable def b7 : Sts := (.cons (.iff (.not (.call 5 (.cons (.v 0) (.cons (.v 1) .nil)))) (.cons (.rise 2 (.cons (.c (.str "no spot of the ring")) .nil))
  .nil) .nil)
  .nil)

/-- gap_of -/
noncomputable def b8 : Sts := (.cons (.asg (.nm 3) (.bi .abs (.cons (.bin .sub (.v 1) (.v 2)) .nil)))
  (.cons (.ret (.bi .min (.cons (.v 3) (.cons (.bin .sub (.ix (.v 0) (.c (.int 0))) (.v 3)) .nil))))
  .nil))

/-- _law_cell -/
noncomputable def b9 : Sts := (.cons (.iff (.cmp .lt (.v 1) (.bi .len (.cons (.v 0) .nil))) (.cons (.ret (.ix (.v 0) (.v 1)))
  .nil) .nil)
  (.cons (.ret (.c (.int 0)))
  .nil))

/-- _law_pen -/
noncomputable def b10 : Sts := (.cons (.asg (.nm 1) (.bi .max (.cons (.v 0) (.cons (.bin .sub (.c (.int 0)) (.v 0)) .nil))))
  (.cons (.ret (.lst (.cons (.v 1) (.cons (.bi .int (.cons (.cmp .ge (.v 1) (.bin .pow (.c (.int 10)) (.c (.int 18)))) .nil)) .nil))))
  .nil))

/-- _law_draw -/
noncomputable def b11 : Sts := (.cons (.iff (.cmp .eq (.ix (.v 0) (.c (.int 1))) (.c (.int 1))) (.cons (.asg (.tp [2, 3]) (.bi .divmod (.cons (.ix (.v 0) (.c (.int 0))) (.cons (.v 1) .nil))))
  (.cons (.asg (.sub (.v 0) (.c (.int 0))) (.v 2))
  (.cons (.ret (.v 3))
  .nil))) .nil)
  (.cons (.asg (.nm 4) (.bin .mod (.bin .mul (.bin .add (.bin .mod (.ix (.v 0) (.c (.int 0))) (.c (.int 2147483647))) (.c (.int 40503))) (.c (.int 69621))) (.c (.int 2147483629))))
  (.cons (.asg (.nm 4) (.bin .mod (.bin .add (.bin .mul (.v 4) (.v 4)) (.c (.int 7817))) (.c (.int 2147483587))))
  (.cons (.asg (.sub (.v 0) (.c (.int 0))) (.bin .mod (.bin .add (.bin .mul (.v 4) (.c (.int 48271))) (.c (.int 11))) (.c (.int 2147483629))))
  (.cons (.ret (.bin .mod (.bin .fdiv (.ix (.v 0) (.c (.int 0))) (.c (.int 32))) (.v 1)))
  .nil)))))

/-- _law_whole -/
noncomputable def b12 : Sts := (.cons (.ret (.and (.isi (.v 0) .int) (.not (.isi (.v 0) .bool))))
  .nil)

/-- _law_odd -/
noncomputable def b13 : Sts := (.cons (.asg (.nm 1) (.lst (.cons (.c .non) (.cons (.c (.bl true)) (.cons (.c (.bl false)) (.cons (.bin .sub (.c (.int 0)) (.c (.int 1))) (.cons (.c (.str "1")) (.cons (.c (.str "")) (.cons (.tup .nil) (.cons (.lst .nil) (.cons (.tup (.cons (.c (.int 0)) .nil)) (.cons (.lst (.cons (.c (.int 0)) .nil)) (.cons (.dct1 "a" 1) (.cons (.tup (.cons (.c (.int 0)) (.cons (.c (.int 1)) .nil))) (.cons (.bin .pow (.c (.int 10)) (.c (.int 30))) (.cons (.tup (.cons (.c (.int 0)) (.cons (.tup .nil) .nil))) (.cons (.tup (.cons (.c (.str "ab")) .nil)) .nil)))))))))))))))))
  (.cons (.ret (.ix (.bin .add (.v 1) (.lst (.cons (.tup (.cons (.c (.int 1)) (.cons (.tup (.cons (.tup (.cons (.c (.int 0)) (.cons (.c (.int 0)) .nil))) .nil)) .nil))) .nil))) (.call 11 (.cons (.v 0) (.cons (.c (.int 16)) .nil)))))
  .nil))

/-- _law_kind -/
noncomputable def b14 : Sts := (.cons (.asg (.nm 1) (.lst (.cons (.isi (.v 0) (.cls 1)) (.cons (.isi (.v 0) (.cls 2)) (.cons (.isi (.v 0) (.cls 3)) (.cons (.isi (.v 0) (.cls 4)) .nil))))))
  (.cons (.asg (.nm 1) (.bin .add (.v 1) (.lst (.cons (.isi (.v 0) (.cls 5)) (.cons (.isi (.v 0) (.cls 6)) (.cons (.isi (.v 0) (.cls 7)) (.cons (.isi (.v 0) (.cls 8)) .nil)))))))
  (.cons (.asg (.nm 1) (.bin .add (.v 1) (.lst (.cons (.isi (.v 0) (.cls 9)) (.cons (.isi (.v 0) (.cls 10)) (.cons (.isi (.v 0) (.cls 11)) .nil))))))
  (.cons (.iff (.or (.not (.isi (.v 0) .verr)) (.cmp .ne (.meth .count (.v 1) (.cons (.c (.bl true)) .nil)) (.c (.int 1)))) (.cons (.ret (.c (.str "other")))
  .nil) .nil)
  (.cons (.asg (.nm 2) (.lst (.cons (.c (.str "ring")) (.cons (.c (.str "hues")) (.cons (.c (.str "place")) (.cons (.c (.str "arrows")) (.cons (.c (.str "map")) (.cons (.c (.str "paper")) (.cons (.c (.str "apart")) (.cons (.c (.str "row")) (.cons (.c (.str "web")) (.cons (.c (.str "text")) (.cons (.c (.str "great")) .nil)))))))))))))
  (.cons (.ret (.ix (.v 2) (.meth .index (.v 1) (.cons (.c (.bl true)) .nil))))
  .nil))))))

/-- _law_ring -/
noncomputable def b15 : Sts := (.cons (.asg (.nm 1) (.lst (.cons (.tup (.cons (.c (.int 2)) (.cons (.c (.int 1)) .nil))) (.cons (.tup (.cons (.c (.int 3)) (.cons (.c (.int 1)) .nil))) (.cons (.tup (.cons (.c (.int 5)) (.cons (.c (.int 2)) .nil))) (.cons (.tup (.cons (.c (.int 4)) (.cons (.c (.int 1)) .nil))) (.cons (.tup (.cons (.c (.int 7)) (.cons (.c (.int 3)) .nil))) (.cons (.tup (.cons (.c (.int 7)) (.cons (.c (.int 2)) .nil))) (.cons (.tup (.cons (.c (.int 4)) (.cons (.c (.int 2)) .nil))) (.cons (.tup (.cons (.c (.int 6)) (.cons (.c (.int 2)) .nil))) (.cons (.tup (.cons (.c (.int 10)) (.cons (.c (.int 4)) .nil))) (.cons (.tup (.cons (.c (.int 5)) (.cons (.c (.int 1)) .nil))) (.cons (.tup (.cons (.c (.int 8)) (.cons (.c (.int 3)) .nil))) (.cons (.tup (.cons (.c (.int 3)) (.cons (.c (.int 2)) .nil))) .nil))))))))))))))
  (.cons (.iff (.cmp .eq (.call 11 (.cons (.v 0) (.cons (.c (.int 6)) .nil))) (.c (.int 0))) (.cons (.asg (.nm 2) (.bin .add (.c (.int 1)) (.call 11 (.cons (.v 0) (.cons (.c (.int 24)) .nil)))))
  (.cons (.ret (.tup (.cons (.v 2) (.cons (.bi .max (.cons (.bin .add (.c (.int 1)) (.call 11 (.cons (.v 0) (.cons (.v 2) .nil)))) (.cons (.bin .mul (.bin .fdiv (.v 2) (.c (.int 3))) (.bi .int (.cons (.cmp .gt (.v 2) (.c (.int 10))) .nil))) .nil))) .nil))))
  .nil)) .nil)
  (.cons (.ret (.ix (.v 1) (.call 11 (.cons (.v 0) (.cons (.c (.int 12)) .nil)))))
  .nil)))

/-- _law_is_ring -/
noncomputable def b16 : Sts := (.cons (.iff (.or (.not (.isi (.v 0) .tuple)) (.or (.cmp .ne (.bi .len (.cons (.v 0) .nil)) (.c (.int 2))) (.not (.bi .all (.cons (.comp (.call 12 (.cons (.v 0) .nil)) (.v 0) [] .no) .nil))))) (.cons (.ret (.c (.bl false)))
  .nil) .nil)
  (.cons (.ret (.ch3 .le .le .le (.c (.int 1)) (.ix (.v 0) (.c (.int 1))) (.ix (.v 0) (.c (.int 0))) (.c (.int 24))))
  .nil))

/-- _law_bent_ring -/
noncomputable def b17 : Sts := (.cons (.asg (.tp [2, 3]) (.v 1))
  (.cons (.asg (.nm 4) (.lst (.cons (.tup (.cons (.v 2) (.cons (.bin .add (.v 2) (.c (.int 1))) .nil))) (.cons (.tup (.cons (.c (.int 0)) (.cons (.c (.int 0)) .nil))) (.cons (.tup (.cons (.c (.int 25)) (.cons (.c (.int 1)) .nil))) (.cons (.tup (.cons (.v 2) (.cons (.c (.int 0)) .nil))) (.cons (.tup (.cons (.c (.bl true)) (.cons (.c (.int 1)) .nil))) (.cons (.tup (.cons (.v 2) (.cons (.v 3) (.cons (.c (.int 1)) .nil)))) (.cons (.lst (.cons (.v 2) (.cons (.v 3) .nil))) (.cons (.tup (.cons (.v 2) .nil)) (.cons (.c .non) .nil)))))))))))
  (.cons (.ret (.ix (.bin .add (.v 4) (.lst (.cons (.tup (.cons (.v 3) (.cons (.v 2) .nil))) (.cons (.c (.str "5/2")) (.cons (.tup (.cons (.bin .sub (.c (.int 0)) (.v 2)) (.cons (.v 3) .nil))) .nil))))) (.call 11 (.cons (.v 0) (.cons (.c (.int 12)) .nil)))))
  .nil)))

/-- _law_told -/
noncomputable def b18 : Sts := (.cons (.tryc (.cons (.ret (.tup (.cons (.c (.str "told")) (.cons (.call 4 (.cons (.v 0) (.cons (.v 1) (.cons (.v 2) .nil)))) .nil))))
  .nil) 0 3 (.cons (.ret (.tup (.cons (.call 14 (.cons (.v 3) .nil)) (.cons (.c .non) .nil))))
  .nil))
  .nil)

/-- _law_is_right -/
noncomputable def b19 : Sts := (.cons (.asg (.nm 1) (.call 3 (.cons (.v 0) .nil)))
  (.cons (.ret (.and (.isi (.v 1) .bool) (.and (.cmp .eq (.v 1) (.call 16 (.cons (.v 0) .nil))) (.cmp .eq (.call 3 (.cons (.v 0) .nil)) (.v 1)))))
  .nil))

/-- _law_steps -/
noncomputable def b20 : Sts := (.cons (.par 3 4 (.c (.int 0)) (.v 1))
  (.cons (.wh (.cmp .ne (.v 4) (.v 2)) (.cons (.asg (.nm 4) (.bin .mod (.bin .add (.v 4) (.c (.int 1))) (.v 0)))
  (.cons (.asg (.nm 3) (.bin .add (.v 3) (.c (.int 1))))
  .nil)))
  (.cons (.ret (.bi .min (.cons (.v 3) (.cons (.bin .mod (.bin .sub (.v 0) (.v 3)) (.v 0)) .nil))))
  .nil)))

/-- _law_right -/
noncomputable def b21 : Sts := (.cons (.fr (.nm 1) (.rg (.ix (.v 0) (.c (.int 0)))) (.cons (.fr (.nm 2) (.rg (.ix (.v 0) (.c (.int 0)))) (.cons (.asg (.tp [3, 4]) (.call 18 (.cons (.v 0) (.cons (.v 1) (.cons (.v 2) .nil)))))
  (.cons (.iff (.or (.cmp .ne (.v 3) (.c (.str "told"))) (.or (.not (.call 12 (.cons (.v 4) .nil))) (.cmp .ne (.v 4) (.call 20 (.cons (.ix (.v 0) (.c (.int 0))) (.cons (.v 1) (.cons (.v 2) .nil))))))) (.cons (.ret (.c (.bl false)))
  .nil) .nil)
  .nil)))
  .nil))
  (.cons (.ret (.c (.bl true)))
  .nil))

/-- law -/
noncomputable def b22 : Sts := (.cons (.asg (.nm 1) (.lst (.cons (.tup (.cons (.c (.int 1)) (.cons (.c (.int 1)) .nil))) (.cons (.tup (.cons (.c (.int 2)) (.cons (.c (.int 1)) .nil))) (.cons (.tup (.cons (.c (.int 24)) (.cons (.c (.int 24)) .nil))) (.cons (.tup (.cons (.c (.int 25)) (.cons (.c (.int 1)) .nil))) (.cons (.tup (.cons (.c (.int 3)) (.cons (.c (.int 4)) .nil))) (.cons (.tup (.cons (.c (.int 0)) (.cons (.c (.int 0)) .nil))) (.cons (.tup (.cons (.c (.int 1)) (.cons (.c (.int 0)) .nil))) (.cons (.tup (.cons (.c (.bl true)) (.cons (.c (.int 1)) .nil))) (.cons (.lst (.cons (.c (.int 2)) (.cons (.c (.int 1)) .nil))) (.cons (.tup (.cons (.c (.int 2)) .nil)) (.cons (.tup (.cons (.c (.int 2)) (.cons (.c (.int 1)) (.cons (.c (.int 1)) .nil)))) (.cons (.c .non) .nil))))))))))))))
  (.cons (.fr (.nm 2) (.seq (.bin .add (.v 1) (.lst (.cons (.tup (.cons (.c (.int 5)) (.cons (.c (.int 2)) .nil))) (.cons (.c (.str "5/2")) (.cons (.tup (.cons (.c (.int 24)) (.cons (.c (.int 1)) .nil))) .nil)))))) (.cons (.iff (.not (.call 19 (.cons (.v 2) .nil))) (.cons (.ret (.c (.bl false)))
  .nil) .nil)
  .nil))
  (.cons (.fr (.nm 3) (.seq (.bin .add (.lst (.cons (.call 9 (.cons (.v 0) (.cons (.c (.int 0)) .nil))) .nil)) (.sl (.v 0) (.yes (.c (.int 1))) (.yes (.c (.int 6)))))) (.cons (.asg (.nm 4) (.call 10 (.cons (.v 3) .nil)))
  (.cons (.asg (.nm 5) (.call 15 (.cons (.v 4) .nil)))
  (.cons (.fr (.nm 2) (.seq (.lst (.cons (.v 5) (.cons (.call 17 (.cons (.v 4) (.cons (.v 5) .nil))) (.cons (.call 17 (.cons (.v 4) (.cons (.v 5) .nil))) (.cons (.call 13 (.cons (.v 4) .nil)) .nil)))))) (.cons (.iff (.not (.call 19 (.cons (.v 2) .nil))) (.cons (.ret (.c (.bl false)))
  .nil) .nil)
  (.cons (.iff (.and (.not (.call 16 (.cons (.v 2) .nil))) (.cmp .ne (.call 18 (.cons (.v 2) (.cons (.c .non) (.cons (.c .non) .nil)))) (.tup (.cons (.c (.str "ring")) (.cons (.c .non) .nil))))) (.cons (.ret (.c (.bl false)))
  .nil) .nil)
  .nil)))
  (.cons (.iff (.not (.call 21 (.cons (.v 5) .nil))) (.cons (.ret (.c (.bl false)))
  .nil) .nil)
  (.cons (.fr (.nm 6) (.seq (.lst (.cons (.ix (.v 5) (.c (.int 0))) (.cons (.bin .sub (.c (.int 0)) (.c (.int 1))) (.cons (.c (.bl true)) (.cons (.c .non) (.cons (.c (.str "0")) (.cons (.tup (.cons (.c (.int 0)) .nil)) (.cons (.bin .add (.ix (.v 5) (.c (.int 0))) (.call 11 (.cons (.v 4) (.cons (.c (.int 99)) .nil)))) .nil))))))))) (.cons (.iff (.or (.cmp .ne (.call 18 (.cons (.v 5) (.cons (.v 6) (.cons (.c (.int 0)) .nil)))) (.tup (.cons (.c (.str "hues")) (.cons (.c .non) .nil)))) (.cmp .ne (.call 18 (.cons (.v 5) (.cons (.c (.int 0)) (.cons (.v 6) .nil)))) (.tup (.cons (.c (.str "hues")) (.cons (.c .non) .nil))))) (.cons (.ret (.c (.bl false)))
  .nil) .nil)
  .nil))
  .nil))))))
  (.cons (.ret (.c (.bl true)))
  .nil))))

noncomputable def T (n : Nat) : Option Df := ([⟨1, 1, b0⟩, ⟨3, 3, b1⟩, ⟨2, 2, b2⟩, ⟨3, 1, b3⟩, ⟨3, 3, b4⟩, ⟨2, 2, b5⟩, ⟨1, 1, b6⟩, ⟨2, 2, b7⟩, ⟨4, 3, b8⟩, ⟨2, 2, b9⟩, ⟨2, 1, b10⟩, ⟨5, 2, b11⟩, ⟨1, 1, b12⟩, ⟨2, 1, b13⟩, ⟨3, 1, b14⟩, ⟨3, 1, b15⟩, ⟨1, 1, b16⟩, ⟨5, 2, b17⟩, ⟨4, 3, b18⟩, ⟨2, 1, b19⟩, ⟨5, 3, b20⟩, ⟨5, 1, b21⟩, ⟨7, 1, b22⟩] : List Df)[n]?
theorem T_0 : T 0 = some ⟨1, 1, b0⟩ := rfl
theorem T_1 : T 1 = some ⟨3, 3, b1⟩ := rfl
theorem T_2 : T 2 = some ⟨2, 2, b2⟩ := rfl
theorem T_3 : T 3 = some ⟨3, 1, b3⟩ := rfl
theorem T_4 : T 4 = some ⟨3, 3, b4⟩ := rfl
theorem T_5 : T 5 = some ⟨2, 2, b5⟩ := rfl
theorem T_6 : T 6 = some ⟨1, 1, b6⟩ := rfl
theorem T_7 : T 7 = some ⟨2, 2, b7⟩ := rfl
theorem T_8 : T 8 = some ⟨4, 3, b8⟩ := rfl
theorem T_9 : T 9 = some ⟨2, 2, b9⟩ := rfl
theorem T_10 : T 10 = some ⟨2, 1, b10⟩ := rfl
theorem T_11 : T 11 = some ⟨5, 2, b11⟩ := rfl
theorem T_12 : T 12 = some ⟨1, 1, b12⟩ := rfl
theorem T_13 : T 13 = some ⟨2, 1, b13⟩ := rfl
theorem T_14 : T 14 = some ⟨3, 1, b14⟩ := rfl
theorem T_15 : T 15 = some ⟨3, 1, b15⟩ := rfl
theorem T_16 : T 16 = some ⟨1, 1, b16⟩ := rfl
theorem T_17 : T 17 = some ⟨5, 2, b17⟩ := rfl
theorem T_18 : T 18 = some ⟨4, 3, b18⟩ := rfl
theorem T_19 : T 19 = some ⟨2, 1, b19⟩ := rfl
theorem T_20 : T 20 = some ⟨5, 3, b20⟩ := rfl
theorem T_21 : T 21 = some ⟨5, 1, b21⟩ := rfl
theorem T_22 : T 22 = some ⟨7, 1, b22⟩ := rfl

noncomputable def sub : Nat → Nat → Bool := subN 12

end K03


set_option Elab.async false
set_option linter.all false
set_option maxRecDepth 100000
set_option maxHeartbeats 400000

namespace K03
open PySem PySem.Spec PyProof.Rows L2 It

noncomputable def top (i : Nat) : Stmt := PySem.Challenge.pw_ringhues_k03_rings_and_their_spots.main.body.getD i (.Pass ⟨0, 0, 0, 0⟩)

theorem ok_Apart : okN "Apart" = true := by decide +kernel
theorem ok_HueError : okN "HueError" = true := by decide +kernel
theorem ok_MOST_SPOTS : okN "MOST_SPOTS" = true := by decide +kernel
theorem ok_NoArrows : okN "NoArrows" = true := by decide +kernel
theorem ok_NoHues : okN "NoHues" = true := by decide +kernel
theorem ok_NoMap : okN "NoMap" = true := by decide +kernel
theorem ok_NoPaper : okN "NoPaper" = true := by decide +kernel
theorem ok_NoPlace : okN "NoPlace" = true := by decide +kernel
theorem ok_NoRing : okN "NoRing" = true := by decide +kernel
theorem ok_NoRow : okN "NoRow" = true := by decide +kernel
theorem ok_NoText : okN "NoText" = true := by decide +kernel
theorem ok_NoWeb : okN "NoWeb" = true := by decide +kernel
theorem ok_TooGreat : okN "TooGreat" = true := by decide +kernel
theorem ok_ValueError : okN "ValueError" = true := by decide +kernel
theorem ok__law_bad : okN "_law_bad" = true := by decide +kernel
theorem ok__law_bent_ring : okN "_law_bent_ring" = true := by decide +kernel
theorem ok__law_cell : okN "_law_cell" = true := by decide +kernel
theorem ok__law_cell_here : okN "_law_cell_here" = true := by decide +kernel
theorem ok__law_d : okN "_law_d" = true := by decide +kernel
theorem ok__law_draw : okN "_law_draw" = true := by decide +kernel
theorem ok__law_e : okN "_law_e" = true := by decide +kernel
theorem ok__law_found : okN "_law_found" = true := by decide +kernel
theorem ok__law_here : okN "_law_here" = true := by decide +kernel
theorem ok__law_is_right : okN "_law_is_right" = true := by decide +kernel
theorem ok__law_is_ring : okN "_law_is_ring" = true := by decide +kernel
theorem ok__law_k : okN "_law_k" = true := by decide +kernel
theorem ok__law_kind : okN "_law_kind" = true := by decide +kernel
theorem ok__law_left : okN "_law_left" = true := by decide +kernel
theorem ok__law_many : okN "_law_many" = true := by decide +kernel
theorem ok__law_marks : okN "_law_marks" = true := by decide +kernel
theorem ok__law_odd : okN "_law_odd" = true := by decide +kernel
theorem ok__law_one : okN "_law_one" = true := by decide +kernel
theorem ok__law_other : okN "_law_other" = true := by decide +kernel
theorem ok__law_pen : okN "_law_pen" = true := by decide +kernel
theorem ok__law_pen_here : okN "_law_pen_here" = true := by decide +kernel
theorem ok__law_right : okN "_law_right" = true := by decide +kernel
theorem ok__law_ring : okN "_law_ring" = true := by decide +kernel
theorem ok__law_ring_here : okN "_law_ring_here" = true := by decide +kernel
theorem ok__law_script : okN "_law_script" = true := by decide +kernel
theorem ok__law_some : okN "_law_some" = true := by decide +kernel
theorem ok__law_steps : okN "_law_steps" = true := by decide +kernel
theorem ok__law_stir : okN "_law_stir" = true := by decide +kernel
theorem ok__law_thing : okN "_law_thing" = true := by decide +kernel
theorem ok__law_told : okN "_law_told" = true := by decide +kernel
theorem ok__law_whole : okN "_law_whole" = true := by decide +kernel
theorem ok__law_word : okN "_law_word" = true := by decide +kernel
theorem ok__law_words : okN "_law_words" = true := by decide +kernel
theorem ok_bool : okN "bool" = true := by decide +kernel
theorem ok_check_ring : okN "check_ring" = true := by decide +kernel
theorem ok_check_spot : okN "check_spot" = true := by decide +kernel
theorem ok_d : okN "d" = true := by decide +kernel
theorem ok_gap : okN "gap" = true := by decide +kernel
theorem ok_gap_of : okN "gap_of" = true := by decide +kernel
theorem ok_int : okN "int" = true := by decide +kernel
theorem ok_is_ring : okN "is_ring" = true := by decide +kernel
theorem ok_is_row : okN "is_row" = true := by decide +kernel
theorem ok_is_spot : okN "is_spot" = true := by decide +kernel
theorem ok_is_whole : okN "is_whole" = true := by decide +kernel
theorem ok_is_within : okN "is_within" = true := by decide +kernel
theorem ok_k : okN "k" = true := by decide +kernel
theorem ok_least : okN "least" = true := by decide +kernel
theorem ok_many : okN "many" = true := by decide +kernel
theorem ok_most : okN "most" = true := by decide +kernel
theorem ok_one : okN "one" = true := by decide +kernel
theorem ok_other : okN "other" = true := by decide +kernel
theorem ok_ring : okN "ring" = true := by decide +kernel
theorem ok_steps_apart : okN "steps_apart" = true := by decide +kernel
theorem ok_thing : okN "thing" = true := by decide +kernel
theorem ok_tuple : okN "tuple" = true := by decide +kernel
noncomputable abbrev N0 : List Str := ["thing"]
theorem k0_bool : (defScope (top 14)).names.lookup ("bool" : Str) = some NameKind.globalImplicit := by decide +kernel
theorem k0_int : (defScope (top 14)).names.lookup ("int" : Str) = some NameKind.globalImplicit := by decide +kernel
theorem k0_isinstance : (defScope (top 14)).names.lookup ("isinstance" : Str) = some NameKind.globalImplicit := by decide +kernel
theorem k0_thing : (defScope (top 14)).names.lookup ("thing" : Str) = some NameKind.local := by decide +kernel
theorem sc0 : FnScope N0 ["thing"] (defScope (top 14)) := ⟨rfl, rfl, rfl, by decide +kernel, rfl, by decide +kernel, by decide +kernel⟩

noncomputable abbrev N1 : List Str := ["thing", "least", "most"]
theorem k1_is_whole : (defScope (top 15)).names.lookup ("is_whole" : Str) = some NameKind.globalImplicit := by decide +kernel
theorem k1_least : (defScope (top 15)).names.lookup ("least" : Str) = some NameKind.local := by decide +kernel
theorem k1_most : (defScope (top 15)).names.lookup ("most" : Str) = some NameKind.local := by decide +kernel
theorem k1_thing : (defScope (top 15)).names.lookup ("thing" : Str) = some NameKind.local := by decide +kernel
theorem sc1 : FnScope N1 ["thing", "least", "most"] (defScope (top 15)) := ⟨rfl, rfl, rfl, by decide +kernel, rfl, by decide +kernel, by decide +kernel⟩

noncomputable abbrev N2 : List Str := ["thing", "many"]
theorem k2_isinstance : (defScope (top 16)).names.lookup ("isinstance" : Str) = some NameKind.globalImplicit := by decide +kernel
theorem k2_len : (defScope (top 16)).names.lookup ("len" : Str) = some NameKind.globalImplicit := by decide +kernel
theorem k2_many : (defScope (top 16)).names.lookup ("many" : Str) = some NameKind.local := by decide +kernel
theorem k2_thing : (defScope (top 16)).names.lookup ("thing" : Str) = some NameKind.local := by decide +kernel
theorem k2_tuple : (defScope (top 16)).names.lookup ("tuple" : Str) = some NameKind.globalImplicit := by decide +kernel
theorem sc2 : FnScope N2 ["thing", "many"] (defScope (top 16)) := ⟨rfl, rfl, rfl, by decide +kernel, rfl, by decide +kernel, by decide +kernel⟩

noncomputable abbrev N3 : List Str := ["thing", "k", "d"]
theorem k3_MOST_SPOTS : (defScope (top 19)).names.lookup ("MOST_SPOTS" : Str) = some NameKind.globalImplicit := by decide +kernel
theorem k3_d : (defScope (top 19)).names.lookup ("d" : Str) = some NameKind.local := by decide +kernel
theorem k3_is_row : (defScope (top 19)).names.lookup ("is_row" : Str) = some NameKind.globalImplicit := by decide +kernel
theorem k3_is_within : (defScope (top 19)).names.lookup ("is_within" : Str) = some NameKind.globalImplicit := by decide +kernel
theorem k3_k : (defScope (top 19)).names.lookup ("k" : Str) = some NameKind.local := by decide +kernel
theorem k3_thing : (defScope (top 19)).names.lookup ("thing" : Str) = some NameKind.local := by decide +kernel
theorem sc3 : FnScope N3 ["thing"] (defScope (top 19)) := ⟨rfl, rfl, rfl, by decide +kernel, rfl, by decide +kernel, by decide +kernel⟩

noncomputable abbrev N4 : List Str := ["ring", "one", "other"]
theorem k4_check_ring : (defScope (top 20)).names.lookup ("check_ring" : Str) = some NameKind.globalImplicit := by decide +kernel
theorem k4_check_spot : (defScope (top 20)).names.lookup ("check_spot" : Str) = some NameKind.globalImplicit := by decide +kernel
theorem k4_gap_of : (defScope (top 20)).names.lookup ("gap_of" : Str) = some NameKind.globalImplicit := by decide +kernel
theorem k4_one : (defScope (top 20)).names.lookup ("one" : Str) = some NameKind.local := by decide +kernel
theorem k4_other : (defScope (top 20)).names.lookup ("other" : Str) = some NameKind.local := by decide +kernel
theorem k4_ring : (defScope (top 20)).names.lookup ("ring" : Str) = some NameKind.local := by decide +kernel
theorem sc4 : FnScope N4 ["ring", "one", "other"] (defScope (top 20)) := ⟨rfl, rfl, rfl, by decide +kernel, rfl, by decide +kernel, by decide +kernel⟩

noncomputable abbrev N5 : List Str := ["ring", "thing"]
theorem k5_is_within : (defScope (top 21)).names.lookup ("is_within" : Str) = some NameKind.globalImplicit := by decide +kernel
theorem k5_ring : (defScope (top 21)).names.lookup ("ring" : Str) = some NameKind.local := by decide +kernel
theorem k5_thing : (defScope (top 21)).names.lookup ("thing" : Str) = some NameKind.local := by decide +kernel
theorem sc5 : FnScope N5 ["ring", "thing"] (defScope (top 21)) := ⟨rfl, rfl, rfl, by decide +kernel, rfl, by decide +kernel, by decide +kernel⟩

noncomputable abbrev N6 : List Str := ["thing"]
theorem k6_NoRing : (defScope (top 22)).names.lookup ("NoRing" : Str) = some NameKind.globalImplicit := by decide +kernel
theorem k6_is_ring : (defScope (top 22)).names.lookup ("is_ring" : Str) = some NameKind.globalImplicit := by decide +kernel
theorem k6_thing : (defScope (top 22)).names.lookup ("thing" : Str) = some NameKind.local := by decide +kernel
theorem sc6 : FnScope N6 ["thing"] (defScope (top 22)) := ⟨rfl, rfl, rfl, by decide +kernel, rfl, by decide +kernel, by decide +kernel⟩

noncomputable abbrev N7 : List Str := ["ring", "thing"]
theorem k7_NoHues : (defScope (top 23)).names.lookup ("NoHues" : Str) = some NameKind.globalImplicit := by decide +kernel
theorem k7_is_spot : (defScope (top 23)).names.lookup ("is_spot" : Str) = some NameKind.globalImplicit := by decide +kernel
theorem k7_ring : (defScope (top 23)).names.lookup ("ring" : Str) = some NameKind.local := by decide +kernel
theorem k7_thing : (defScope (top 23)).names.lookup ("thing" : Str) = some NameKind.local := by decide +kernel
theorem sc7 : FnScope N7 ["ring", "thing"] (defScope (top 23)) := ⟨rfl, rfl, rfl, by decide +kernel, rfl, by decide +kernel, by decide +kernel⟩

noncomputable abbrev N8 : List Str := ["ring", "one", "other", "gap"]
theorem k8_abs : (defScope (top 24)).names.lookup ("abs" : Str) = some NameKind.globalImplicit := by decide +kernel
theorem k8_gap : (defScope (top 24)).names.lookup ("gap" : Str) = some NameKind.local := by decide +kernel
theorem k8_min : (defScope (top 24)).names.lookup ("min" : Str) = some NameKind.globalImplicit := by decide +kernel
theorem k8_one : (defScope (top 24)).names.lookup ("one" : Str) = some NameKind.local := by decide +kernel
theorem k8_other : (defScope (top 24)).names.lookup ("other" : Str) = some NameKind.local := by decide +kernel
theorem k8_ring : (defScope (top 24)).names.lookup ("ring" : Str) = some NameKind.local := by decide +kernel
theorem sc8 : FnScope N8 ["ring", "one", "other"] (defScope (top 24)) := ⟨rfl, rfl, rfl, by decide +kernel, rfl, by decide +kernel, by decide +kernel⟩

noncomputable abbrev N9 : List Str := ["_law_script", "_law_k"]
theorem k9__law_k : (defScope (top 26)).names.lookup ("_law_k" : Str) = some NameKind.local := by decide +kernel
theorem k9__law_script : (defScope (top 26)).names.lookup ("_law_script" : Str) = some NameKind.local := by decide +kernel
theorem k9_len : (defScope (top 26)).names.lookup ("len" : Str) = some NameKind.globalImplicit := by decide +kernel
theorem sc9 : FnScope N9 ["_law_script", "_law_k"] (defScope (top 26)) := ⟨rfl, rfl, rfl, by decide +kernel, rfl, by decide +kernel, by decide +kernel⟩

noncomputable abbrev N10 : List Str := ["_law_cell_here", "_law_left"]
theorem k10__law_cell_here : (defScope (top 27)).names.lookup ("_law_cell_here" : Str) = some NameKind.local := by decide +kernel
theorem k10__law_left : (defScope (top 27)).names.lookup ("_law_left" : Str) = some NameKind.local := by decide +kernel
theorem k10_int : (defScope (top 27)).names.lookup ("int" : Str) = some NameKind.globalImplicit := by decide +kernel
theorem k10_max : (defScope (top 27)).names.lookup ("max" : Str) = some NameKind.globalImplicit := by decide +kernel
theorem sc10 : FnScope N10 ["_law_cell_here"] (defScope (top 27)) := ⟨rfl, rfl, rfl, by decide +kernel, rfl, by decide +kernel, by decide +kernel⟩

noncomputable abbrev N11 : List Str := ["_law_pen_here", "_law_many", "_law_left", "_law_found", "_law_stir"]
theorem k11__law_found : (defScope (top 28)).names.lookup ("_law_found" : Str) = some NameKind.local := by decide +kernel
theorem k11__law_left : (defScope (top 28)).names.lookup ("_law_left" : Str) = some NameKind.local := by decide +kernel
theorem k11__law_many : (defScope (top 28)).names.lookup ("_law_many" : Str) = some NameKind.local := by decide +kernel
theorem k11__law_pen_here : (defScope (top 28)).names.lookup ("_law_pen_here" : Str) = some NameKind.local := by decide +kernel
theorem k11__law_stir : (defScope (top 28)).names.lookup ("_law_stir" : Str) = some NameKind.local := by decide +kernel
theorem k11_divmod : (defScope (top 28)).names.lookup ("divmod" : Str) = some NameKind.globalImplicit := by decide +kernel
theorem sc11 : FnScope N11 ["_law_pen_here", "_law_many"] (defScope (top 28)) := ⟨rfl, rfl, rfl, by decide +kernel, rfl, by decide +kernel, by decide +kernel⟩

noncomputable abbrev N12 : List Str := ["_law_thing"]
theorem k12__law_thing : (defScope (top 29)).names.lookup ("_law_thing" : Str) = some NameKind.local := by decide +kernel
theorem k12_bool : (defScope (top 29)).names.lookup ("bool" : Str) = some NameKind.globalImplicit := by decide +kernel
theorem k12_int : (defScope (top 29)).names.lookup ("int" : Str) = some NameKind.globalImplicit := by decide +kernel
theorem k12_isinstance : (defScope (top 29)).names.lookup ("isinstance" : Str) = some NameKind.globalImplicit := by decide +kernel
theorem sc12 : FnScope N12 ["_law_thing"] (defScope (top 29)) := ⟨rfl, rfl, rfl, by decide +kernel, rfl, by decide +kernel, by decide +kernel⟩

noncomputable abbrev N13 : List Str := ["_law_pen_here", "_law_some"]
theorem k13__law_draw : (defScope (top 30)).names.lookup ("_law_draw" : Str) = some NameKind.globalImplicit := by decide +kernel
theorem k13__law_pen_here : (defScope (top 30)).names.lookup ("_law_pen_here" : Str) = some NameKind.local := by decide +kernel
theorem k13__law_some : (defScope (top 30)).names.lookup ("_law_some" : Str) = some NameKind.local := by decide +kernel
theorem sc13 : FnScope N13 ["_law_pen_here"] (defScope (top 30)) := ⟨rfl, rfl, rfl, by decide +kernel, rfl, by decide +kernel, by decide +kernel⟩

noncomputable abbrev N14 : List Str := ["_law_e", "_law_marks", "_law_words"]
theorem k14_Apart : (defScope (top 31)).names.lookup ("Apart" : Str) = some NameKind.globalImplicit := by decide +kernel
theorem k14_NoArrows : (defScope (top 31)).names.lookup ("NoArrows" : Str) = some NameKind.globalImplicit := by decide +kernel
theorem k14_NoHues : (defScope (top 31)).names.lookup ("NoHues" : Str) = some NameKind.globalImplicit := by decide +kernel
theorem k14_NoMap : (defScope (top 31)).names.lookup ("NoMap" : Str) = some NameKind.globalImplicit := by decide +kernel
theorem k14_NoPaper : (defScope (top 31)).names.lookup ("NoPaper" : Str) = some NameKind.globalImplicit := by decide +kernel
theorem k14_NoPlace : (defScope (top 31)).names.lookup ("NoPlace" : Str) = some NameKind.globalImplicit := by decide +kernel
theorem k14_NoRing : (defScope (top 31)).names.lookup ("NoRing" : Str) = some NameKind.globalImplicit := by decide +kernel
theorem k14_NoRow : (defScope (top 31)).names.lookup ("NoRow" : Str) = some NameKind.globalImplicit := by decide +kernel
theorem k14_NoText : (defScope (top 31)).names.lookup ("NoText" : Str) = some NameKind.globalImplicit := by decide +kernel
theorem k14_NoWeb : (defScope (top 31)).names.lookup ("NoWeb" : Str) = some NameKind.globalImplicit := by decide +kernel
theorem k14_TooGreat : (defScope (top 31)).names.lookup ("TooGreat" : Str) = some NameKind.globalImplicit := by decide +kernel
theorem k14_ValueError : (defScope (top 31)).names.lookup ("ValueError" : Str) = some NameKind.globalImplicit := by decide +kernel
theorem k14__law_e : (defScope (top 31)).names.lookup ("_law_e" : Str) = some NameKind.local := by decide +kernel
theorem k14__law_marks : (defScope (top 31)).names.lookup ("_law_marks" : Str) = some NameKind.local := by decide +kernel
theorem k14__law_words : (defScope (top 31)).names.lookup ("_law_words" : Str) = some NameKind.local := by decide +kernel
theorem k14_isinstance : (defScope (top 31)).names.lookup ("isinstance" : Str) = some NameKind.globalImplicit := by decide +kernel
theorem sc14 : FnScope N14 ["_law_e"] (defScope (top 31)) := ⟨rfl, rfl, rfl, by decide +kernel, rfl, by decide +kernel, by decide +kernel⟩

noncomputable abbrev N15 : List Str := ["_law_pen_here", "_law_some", "_law_k"]
theorem k15__law_draw : (defScope (top 32)).names.lookup ("_law_draw" : Str) = some NameKind.globalImplicit := by decide +kernel
theorem k15__law_k : (defScope (top 32)).names.lookup ("_law_k" : Str) = some NameKind.local := by decide +kernel
theorem k15__law_pen_here : (defScope (top 32)).names.lookup ("_law_pen_here" : Str) = some NameKind.local := by decide +kernel
theorem k15__law_some : (defScope (top 32)).names.lookup ("_law_some" : Str) = some NameKind.local := by decide +kernel
theorem k15_int : (defScope (top 32)).names.lookup ("int" : Str) = some NameKind.globalImplicit := by decide +kernel
theorem k15_max : (defScope (top 32)).names.lookup ("max" : Str) = some NameKind.globalImplicit := by decide +kernel
theorem sc15 : FnScope N15 ["_law_pen_here"] (defScope (top 32)) := ⟨rfl, rfl, rfl, by decide +kernel, rfl, by decide +kernel, by decide +kernel⟩

noncomputable abbrev N16 : List Str := ["_law_thing"]
theorem k16__law_thing : (defScope (top 33)).names.lookup ("_law_thing" : Str) = some NameKind.local := by decide +kernel
theorem k16_all : (defScope (top 33)).names.lookup ("all" : Str) = some NameKind.globalImplicit := by decide +kernel
theorem k16_isinstance : (defScope (top 33)).names.lookup ("isinstance" : Str) = some NameKind.globalImplicit := by decide +kernel
theorem k16_len : (defScope (top 33)).names.lookup ("len" : Str) = some NameKind.globalImplicit := by decide +kernel
theorem k16_tuple : (defScope (top 33)).names.lookup ("tuple" : Str) = some NameKind.globalImplicit := by decide +kernel
theorem sc16 : FnScope N16 ["_law_thing"] (defScope (top 33)) := ⟨rfl, rfl, rfl, by decide +kernel, rfl, by decide +kernel, by decide +kernel⟩

noncomputable abbrev N17 : List Str := ["_law_pen_here", "_law_ring_here", "_law_k", "_law_d", "_law_some"]
theorem k17__law_d : (defScope (top 34)).names.lookup ("_law_d" : Str) = some NameKind.local := by decide +kernel
theorem k17__law_draw : (defScope (top 34)).names.lookup ("_law_draw" : Str) = some NameKind.globalImplicit := by decide +kernel
theorem k17__law_k : (defScope (top 34)).names.lookup ("_law_k" : Str) = some NameKind.local := by decide +kernel
theorem k17__law_pen_here : (defScope (top 34)).names.lookup ("_law_pen_here" : Str) = some NameKind.local := by decide +kernel
theorem k17__law_ring_here : (defScope (top 34)).names.lookup ("_law_ring_here" : Str) = some NameKind.local := by decide +kernel
theorem k17__law_some : (defScope (top 34)).names.lookup ("_law_some" : Str) = some NameKind.local := by decide +kernel
theorem sc17 : FnScope N17 ["_law_pen_here", "_law_ring_here"] (defScope (top 34)) := ⟨rfl, rfl, rfl, by decide +kernel, rfl, by decide +kernel, by decide +kernel⟩

noncomputable abbrev N18 : List Str := ["_law_ring_here", "_law_one", "_law_other", "_law_e"]
theorem k18_HueError : (defScope (top 35)).names.lookup ("HueError" : Str) = some NameKind.globalImplicit := by decide +kernel
theorem k18__law_e : (defScope (top 35)).names.lookup ("_law_e" : Str) = some NameKind.local := by decide +kernel
theorem k18__law_kind : (defScope (top 35)).names.lookup ("_law_kind" : Str) = some NameKind.globalImplicit := by decide +kernel
theorem k18__law_one : (defScope (top 35)).names.lookup ("_law_one" : Str) = some NameKind.local := by decide +kernel
theorem k18__law_other : (defScope (top 35)).names.lookup ("_law_other" : Str) = some NameKind.local := by decide +kernel
theorem k18__law_ring_here : (defScope (top 35)).names.lookup ("_law_ring_here" : Str) = some NameKind.local := by decide +kernel
theorem k18_steps_apart : (defScope (top 35)).names.lookup ("steps_apart" : Str) = some NameKind.globalImplicit := by decide +kernel
theorem sc18 : FnScope N18 ["_law_ring_here", "_law_one", "_law_other"] (defScope (top 35)) := ⟨rfl, rfl, rfl, by decide +kernel, rfl, by decide +kernel, by decide +kernel⟩

noncomputable abbrev N19 : List Str := ["_law_thing", "_law_found"]
theorem k19__law_found : (defScope (top 36)).names.lookup ("_law_found" : Str) = some NameKind.local := by decide +kernel
theorem k19__law_is_ring : (defScope (top 36)).names.lookup ("_law_is_ring" : Str) = some NameKind.globalImplicit := by decide +kernel
theorem k19__law_thing : (defScope (top 36)).names.lookup ("_law_thing" : Str) = some NameKind.local := by decide +kernel
theorem k19_bool : (defScope (top 36)).names.lookup ("bool" : Str) = some NameKind.globalImplicit := by decide +kernel
theorem k19_is_ring : (defScope (top 36)).names.lookup ("is_ring" : Str) = some NameKind.globalImplicit := by decide +kernel
theorem k19_isinstance : (defScope (top 36)).names.lookup ("isinstance" : Str) = some NameKind.globalImplicit := by decide +kernel
theorem sc19 : FnScope N19 ["_law_thing"] (defScope (top 36)) := ⟨rfl, rfl, rfl, by decide +kernel, rfl, by decide +kernel, by decide +kernel⟩

noncomputable abbrev N20 : List Str := ["_law_k", "_law_one", "_law_other", "_law_found", "_law_here"]
theorem k20__law_found : (defScope (top 37)).names.lookup ("_law_found" : Str) = some NameKind.local := by decide +kernel
theorem k20__law_here : (defScope (top 37)).names.lookup ("_law_here" : Str) = some NameKind.local := by decide +kernel
theorem k20__law_k : (defScope (top 37)).names.lookup ("_law_k" : Str) = some NameKind.local := by decide +kernel
theorem k20__law_one : (defScope (top 37)).names.lookup ("_law_one" : Str) = some NameKind.local := by decide +kernel
theorem k20__law_other : (defScope (top 37)).names.lookup ("_law_other" : Str) = some NameKind.local := by decide +kernel
theorem k20_min : (defScope (top 37)).names.lookup ("min" : Str) = some NameKind.globalImplicit := by decide +kernel
theorem sc20 : FnScope N20 ["_law_k", "_law_one", "_law_other"] (defScope (top 37)) := ⟨rfl, rfl, rfl, by decide +kernel, rfl, by decide +kernel, by decide +kernel⟩

noncomputable abbrev N21 : List Str := ["_law_ring_here", "_law_one", "_law_other", "_law_word", "_law_found"]
theorem k21__law_found : (defScope (top 38)).names.lookup ("_law_found" : Str) = some NameKind.local := by decide +kernel
theorem k21__law_one : (defScope (top 38)).names.lookup ("_law_one" : Str) = some NameKind.local := by decide +kernel
theorem k21__law_other : (defScope (top 38)).names.lookup ("_law_other" : Str) = some NameKind.local := by decide +kernel
theorem k21__law_ring_here : (defScope (top 38)).names.lookup ("_law_ring_here" : Str) = some NameKind.local := by decide +kernel
theorem k21__law_steps : (defScope (top 38)).names.lookup ("_law_steps" : Str) = some NameKind.globalImplicit := by decide +kernel
theorem k21__law_told : (defScope (top 38)).names.lookup ("_law_told" : Str) = some NameKind.globalImplicit := by decide +kernel
theorem k21__law_whole : (defScope (top 38)).names.lookup ("_law_whole" : Str) = some NameKind.globalImplicit := by decide +kernel
theorem k21__law_word : (defScope (top 38)).names.lookup ("_law_word" : Str) = some NameKind.local := by decide +kernel
theorem k21_range : (defScope (top 38)).names.lookup ("range" : Str) = some NameKind.globalImplicit := by decide +kernel
theorem sc21 : FnScope N21 ["_law_ring_here"] (defScope (top 38)) := ⟨rfl, rfl, rfl, by decide +kernel, rfl, by decide +kernel, by decide +kernel⟩

noncomputable abbrev N22 : List Str := ["_law_script", "_law_some", "_law_thing", "_law_cell_here", "_law_pen_here", "_law_ring_here", "_law_bad"]
theorem k22__law_bad : (defScope (top 39)).names.lookup ("_law_bad" : Str) = some NameKind.local := by decide +kernel
theorem k22__law_bent_ring : (defScope (top 39)).names.lookup ("_law_bent_ring" : Str) = some NameKind.globalImplicit := by decide +kernel
theorem k22__law_cell : (defScope (top 39)).names.lookup ("_law_cell" : Str) = some NameKind.globalImplicit := by decide +kernel
theorem k22__law_cell_here : (defScope (top 39)).names.lookup ("_law_cell_here" : Str) = some NameKind.local := by decide +kernel
theorem k22__law_draw : (defScope (top 39)).names.lookup ("_law_draw" : Str) = some NameKind.globalImplicit := by decide +kernel
theorem k22__law_is_right : (defScope (top 39)).names.lookup ("_law_is_right" : Str) = some NameKind.globalImplicit := by decide +kernel
theorem k22__law_is_ring : (defScope (top 39)).names.lookup ("_law_is_ring" : Str) = some NameKind.globalImplicit := by decide +kernel
theorem k22__law_odd : (defScope (top 39)).names.lookup ("_law_odd" : Str) = some NameKind.globalImplicit := by decide +kernel
theorem k22__law_pen : (defScope (top 39)).names.lookup ("_law_pen" : Str) = some NameKind.globalImplicit := by decide +kernel
theorem k22__law_pen_here : (defScope (top 39)).names.lookup ("_law_pen_here" : Str) = some NameKind.local := by decide +kernel
theorem k22__law_right : (defScope (top 39)).names.lookup ("_law_right" : Str) = some NameKind.globalImplicit := by decide +kernel
theorem k22__law_ring : (defScope (top 39)).names.lookup ("_law_ring" : Str) = some NameKind.globalImplicit := by decide +kernel
theorem k22__law_ring_here : (defScope (top 39)).names.lookup ("_law_ring_here" : Str) = some NameKind.local := by decide +kernel
theorem k22__law_script : (defScope (top 39)).names.lookup ("_law_script" : Str) = some NameKind.local := by decide +kernel
theorem k22__law_some : (defScope (top 39)).names.lookup ("_law_some" : Str) = some NameKind.local := by decide +kernel
theorem k22__law_thing : (defScope (top 39)).names.lookup ("_law_thing" : Str) = some NameKind.local := by decide +kernel
theorem k22__law_told : (defScope (top 39)).names.lookup ("_law_told" : Str) = some NameKind.globalImplicit := by decide +kernel
theorem sc22 : FnScope N22 ["_law_script"] (defScope (top 39)) := ⟨rfl, rfl, rfl, by decide +kernel, rfl, by decide +kernel, by decide +kernel⟩

/-- what the top has written -/
structure Top (K : PySem.W.Frag) (mg : Str → Option Value) (a : Nat → Addr) (fd : Nat → FuncData) (cA : Nat → Addr) : Prop where
  cs : Clss K cA sub
  f0 : Fun K "is_whole" "is_whole" (top 14) (a 0) (fd 0)
  m0 : mg "is_whole" = some (.ref (a 0))
  b0 : Binds K (fd 0) ["thing"] []
  f1 : Fun K "is_within" "is_within" (top 15) (a 1) (fd 1)
  m1 : mg "is_within" = some (.ref (a 1))
  b1 : Binds K (fd 1) ["thing", "least", "most"] []
  f2 : Fun K "is_row" "is_row" (top 16) (a 2) (fd 2)
  m2 : mg "is_row" = some (.ref (a 2))
  b2 : Binds K (fd 2) ["thing", "many"] []
  f3 : Fun K "is_ring" "is_ring" (top 19) (a 3) (fd 3)
  m3 : mg "is_ring" = some (.ref (a 3))
  b3 : Binds K (fd 3) ["thing"] []
  f4 : Fun K "steps_apart" "steps_apart" (top 20) (a 4) (fd 4)
  m4 : mg "steps_apart" = some (.ref (a 4))
  b4 : Binds K (fd 4) ["ring", "one", "other"] []
  f5 : Fun K "is_spot" "is_spot" (top 21) (a 5) (fd 5)
  m5 : mg "is_spot" = some (.ref (a 5))
  b5 : Binds K (fd 5) ["ring", "thing"] []
  f6 : Fun K "check_ring" "check_ring" (top 22) (a 6) (fd 6)
  m6 : mg "check_ring" = some (.ref (a 6))
  b6 : Binds K (fd 6) ["thing"] []
  f7 : Fun K "check_spot" "check_spot" (top 23) (a 7) (fd 7)
  m7 : mg "check_spot" = some (.ref (a 7))
  b7 : Binds K (fd 7) ["ring", "thing"] []
  f8 : Fun K "gap_of" "gap_of" (top 24) (a 8) (fd 8)
  m8 : mg "gap_of" = some (.ref (a 8))
  b8 : Binds K (fd 8) ["ring", "one", "other"] []
  f9 : Fun K "_law_cell" "_law_cell" (top 26) (a 9) (fd 9)
  m9 : mg "_law_cell" = some (.ref (a 9))
  b9 : Binds K (fd 9) ["_law_script", "_law_k"] []
  f10 : Fun K "_law_pen" "_law_pen" (top 27) (a 10) (fd 10)
  m10 : mg "_law_pen" = some (.ref (a 10))
  b10 : Binds K (fd 10) ["_law_cell_here"] []
  f11 : Fun K "_law_draw" "_law_draw" (top 28) (a 11) (fd 11)
  m11 : mg "_law_draw" = some (.ref (a 11))
  b11 : Binds K (fd 11) ["_law_pen_here", "_law_many"] []
  f12 : Fun K "_law_whole" "_law_whole" (top 29) (a 12) (fd 12)
  m12 : mg "_law_whole" = some (.ref (a 12))
  b12 : Binds K (fd 12) ["_law_thing"] []
  f13 : Fun K "_law_odd" "_law_odd" (top 30) (a 13) (fd 13)
  m13 : mg "_law_odd" = some (.ref (a 13))
  b13 : Binds K (fd 13) ["_law_pen_here"] []
  f14 : Fun K "_law_kind" "_law_kind" (top 31) (a 14) (fd 14)
  m14 : mg "_law_kind" = some (.ref (a 14))
  b14 : Binds K (fd 14) ["_law_e"] []
  f15 : Fun K "_law_ring" "_law_ring" (top 32) (a 15) (fd 15)
  m15 : mg "_law_ring" = some (.ref (a 15))
  b15 : Binds K (fd 15) ["_law_pen_here"] []
  f16 : Fun K "_law_is_ring" "_law_is_ring" (top 33) (a 16) (fd 16)
  m16 : mg "_law_is_ring" = some (.ref (a 16))
  b16 : Binds K (fd 16) ["_law_thing"] []
  f17 : Fun K "_law_bent_ring" "_law_bent_ring" (top 34) (a 17) (fd 17)
  m17 : mg "_law_bent_ring" = some (.ref (a 17))
  b17 : Binds K (fd 17) ["_law_pen_here", "_law_ring_here"] []
  f18 : Fun K "_law_told" "_law_told" (top 35) (a 18) (fd 18)
  m18 : mg "_law_told" = some (.ref (a 18))
  b18 : Binds K (fd 18) ["_law_ring_here", "_law_one", "_law_other"] []
  f19 : Fun K "_law_is_right" "_law_is_right" (top 36) (a 19) (fd 19)
  m19 : mg "_law_is_right" = some (.ref (a 19))
  b19 : Binds K (fd 19) ["_law_thing"] []
  f20 : Fun K "_law_steps" "_law_steps" (top 37) (a 20) (fd 20)
  m20 : mg "_law_steps" = some (.ref (a 20))
  b20 : Binds K (fd 20) ["_law_k", "_law_one", "_law_other"] []
  f21 : Fun K "_law_right" "_law_right" (top 38) (a 21) (fd 21)
  m21 : mg "_law_right" = some (.ref (a 21))
  b21 : Binds K (fd 21) ["_law_ring_here"] []
  f22 : Fun K "law" "law" (top 39) (a 22) (fd 22)
  m22 : mg "law" = some (.ref (a 22))
  b22 : Binds K (fd 22) ["_law_script"] []
  c0 : mg "HueError" = some (.ref (cA 0))
  c1 : mg "NoRing" = some (.ref (cA 1))
  c2 : mg "NoHues" = some (.ref (cA 2))
  c3 : mg "NoPlace" = some (.ref (cA 3))
  c4 : mg "NoArrows" = some (.ref (cA 4))
  c5 : mg "NoMap" = some (.ref (cA 5))
  c6 : mg "NoPaper" = some (.ref (cA 6))
  c7 : mg "Apart" = some (.ref (cA 7))
  c8 : mg "NoRow" = some (.ref (cA 8))
  c9 : mg "NoWeb" = some (.ref (cA 9))
  c10 : mg "NoText" = some (.ref (cA 10))
  c11 : mg "TooGreat" = some (.ref (cA 11))
  x1 : PySem.W.excIn K (cA 1) [.type "ValueError", .type "Exception", .type "BaseException", .type "object"] "ValueError.__new__" = true
  x2 : PySem.W.excIn K (cA 2) [.type "ValueError", .type "Exception", .type "BaseException", .type "object"] "ValueError.__new__" = true
  s0 : ∀ c, sub c 0 = true → subIn K (cA c) (cA 0) = true
  g_MOST_SPOTS : ∃ t, mg "MOST_SPOTS" = some (.int 24 t)
  z_ValueError : mg "ValueError" = none
  z_abs : mg "abs" = none
  z_all : mg "all" = none
  z_bool : mg "bool" = none
  z_divmod : mg "divmod" = none
  z_int : mg "int" = none
  z_isinstance : mg "isinstance" = none
  z_len : mg "len" = none
  z_max : mg "max" = none
  z_min : mg "min" = none
  z_range : mg "range" = none
  z_tuple : mg "tuple" = none

/-- the defs keep what the mirror says, k deep -/
structure Fs (P : Program) (w : World) (K : PySem.W.Frag) (mg : Str → Option Value) (base : Heap) (a : Nat → Addr) (fd : Nat → FuncData) (cA : Nat → Addr) (k : Nat) : Prop where
  t0 : FnOk P w K mg base (CXe P w) true k (a 0) (fd 0) ["thing"] (spF K cA (call sub T k true 0))
  t1 : FnOk P w K mg base (CXe P w) true k (a 1) (fd 1) ["thing", "least", "most"] (spF K cA (call sub T k true 1))
  t2 : FnOk P w K mg base (CXe P w) true k (a 2) (fd 2) ["thing", "many"] (spF K cA (call sub T k true 2))
  t3 : FnOk P w K mg base (CXe P w) true k (a 3) (fd 3) ["thing"] (spF K cA (call sub T k true 3))
  t4 : FnOk P w K mg base (CXe P w) true k (a 4) (fd 4) ["ring", "one", "other"] (spF K cA (call sub T k true 4))
  t5 : FnOk P w K mg base (CXe P w) true k (a 5) (fd 5) ["ring", "thing"] (spF K cA (call sub T k true 5))
  t6 : FnOk P w K mg base (CXe P w) true k (a 6) (fd 6) ["thing"] (spF K cA (call sub T k true 6))
  t7 : FnOk P w K mg base (CXe P w) true k (a 7) (fd 7) ["ring", "thing"] (spF K cA (call sub T k true 7))
  t8 : FnOk P w K mg base (CXe P w) true k (a 8) (fd 8) ["ring", "one", "other"] (spF K cA (call sub T k true 8))
  t9 : FnOk P w K mg base (CXe P w) true k (a 9) (fd 9) ["_law_script", "_law_k"] (spF K cA (call sub T k true 9))
  t10 : FnOk P w K mg base (CXe P w) true k (a 10) (fd 10) ["_law_cell_here"] (spF K cA (call sub T k true 10))
  t11 : FnOk P w K mg base (CXe P w) true k (a 11) (fd 11) ["_law_pen_here", "_law_many"] (spF K cA (call sub T k true 11))
  t12 : FnOk P w K mg base (CXe P w) true k (a 12) (fd 12) ["_law_thing"] (spF K cA (call sub T k true 12))
  t13 : FnOk P w K mg base (CXe P w) true k (a 13) (fd 13) ["_law_pen_here"] (spF K cA (call sub T k true 13))
  q14 : FnOk P w K mg base (CXe P w) false k (a 14) (fd 14) ["_law_e"] (spF K cA (call sub T k false 14))
  t15 : FnOk P w K mg base (CXe P w) true k (a 15) (fd 15) ["_law_pen_here"] (spF K cA (call sub T k true 15))
  t16 : FnOk P w K mg base (CXe P w) true k (a 16) (fd 16) ["_law_thing"] (spF K cA (call sub T k true 16))
  t17 : FnOk P w K mg base (CXe P w) true k (a 17) (fd 17) ["_law_pen_here", "_law_ring_here"] (spF K cA (call sub T k true 17))
  t18 : FnOk P w K mg base (CXe P w) true k (a 18) (fd 18) ["_law_ring_here", "_law_one", "_law_other"] (spF K cA (call sub T k true 18))
  t19 : FnOk P w K mg base (CXe P w) true k (a 19) (fd 19) ["_law_thing"] (spF K cA (call sub T k true 19))
  t20 : FnOk P w K mg base (CXe P w) true k (a 20) (fd 20) ["_law_k", "_law_one", "_law_other"] (spF K cA (call sub T k true 20))
  t21 : FnOk P w K mg base (CXe P w) true k (a 21) (fd 21) ["_law_ring_here"] (spF K cA (call sub T k true 21))
  t22 : FnOk P w K mg base (CXe P w) true k (a 22) (fd 22) ["_law_script"] (spF K cA (call sub T k true 22))

section
variable {P : Program} {w : World} {K : PySem.W.Frag} {mg : Str → Option Value} {base : Heap} {a : Nat → Addr} {fd : Nat → FuncData} {cA : Nat → Addr} {k : Nat}

theorem t_0 (Tp : Top K mg a fd cA) (Fk : Fs P w K mg base a fd cA k) (cdv : Value) (A : Around) (outer : List Env) (s : Shared) (H : Hp) (E : XK) (hr : Room k (A.deeper (envOfC "is_whole" (defScope (top 14)) s.heap.objs.size (a 0) cdv))) :
    JB (cxOf (CXe P w) P w K mg base N0 "is_whole" (defScope (top 14)) (a 0) cdv A outer s H E true) cA sub true (fun c => call sub T k c) (fun _ C dx H' => E C dx H') (defBody (top 14)) b0 :=
  (b_cons (i_ret (g_and (g_isi Tp.cs Tp.z_isinstance (jk_d k0_isinstance) (g_v 0 rfl (jk_d k0_thing) rfl ok_thing) (n_ty rfl Tp.z_int bt_int (jk_d k0_int) ok_int)) (g_one (g_not (g_isi Tp.cs Tp.z_isinstance (jk_d k0_isinstance) (g_v 0 rfl (jk_d k0_thing) rfl ok_thing) (n_ty rfl Tp.z_bool bt_bool (jk_d k0_bool) ok_bool))))))
  b_nil)

theorem t_1 (Tp : Top K mg a fd cA) (Fk : Fs P w K mg base a fd cA k) (cdv : Value) (A : Around) (outer : List Env) (s : Shared) (H : Hp) (E : XK) (hr : Room k (A.deeper (envOfC "is_within" (defScope (top 15)) s.heap.objs.size (a 1) cdv))) :
    JB (cxOf (CXe P w) P w K mg base N1 "is_within" (defScope (top 15)) (a 1) cdv A outer s H E true) cA sub true (fun c => call sub T k c) (fun _ C dx H' => E C dx H') (defBody (top 15)) b1 :=
  (b_cons (i_ret (g_and (g_call 0 Fk.t0 (fun _ => rfl) hr Tp.m0 Tp.f0.kp Tp.b0 r_def (jk_d k1_is_whole) (a_cons (g_v 0 rfl (jk_d k1_thing) rfl ok_thing) a_nil) ok_is_whole) (g_one (g_ch2 p_le p_le (g_v 1 rfl (jk_d k1_least) rfl ok_least) (g_v 0 rfl (jk_d k1_thing) rfl ok_thing) (g_v 2 rfl (jk_d k1_most) rfl ok_most)))))
  b_nil)

theorem t_2 (Tp : Top K mg a fd cA) (Fk : Fs P w K mg base a fd cA k) (cdv : Value) (A : Around) (outer : List Env) (s : Shared) (H : Hp) (E : XK) (hr : Room k (A.deeper (envOfC "is_row" (defScope (top 16)) s.heap.objs.size (a 2) cdv))) :
    JB (cxOf (CXe P w) P w K mg base N2 "is_row" (defScope (top 16)) (a 2) cdv A outer s H E true) cA sub true (fun c => call sub T k c) (fun _ C dx H' => E C dx H') (defBody (top 16)) b2 :=
  (b_cons (i_ret (g_and (g_isi Tp.cs Tp.z_isinstance (jk_d k2_isinstance) (g_v 0 rfl (jk_d k2_thing) rfl ok_thing) (n_ty rfl Tp.z_tuple bt_tuple (jk_d k2_tuple) ok_tuple)) (g_one (g_cmp (p_eq hr) (g_len Tp.z_len (jk_d k2_len) (a_cons (g_v 0 rfl (jk_d k2_thing) rfl ok_thing) a_nil)) (g_v 1 rfl (jk_d k2_many) rfl ok_many)))))
  b_nil)

theorem t_3 (Tp : Top K mg a fd cA) (Fk : Fs P w K mg base a fd cA k) (cdv : Value) (A : Around) (outer : List Env) (s : Shared) (H : Hp) (E : XK) (hr : Room k (A.deeper (envOfC "is_ring" (defScope (top 19)) s.heap.objs.size (a 3) cdv))) :
    JB (cxOf (CXe P w) P w K mg base N3 "is_ring" (defScope (top 19)) (a 3) cdv A outer s H E true) cA sub true (fun c => call sub T k c) (fun _ C dx H' => E C dx H') (defBody (top 19)) b3 :=
  (b_cons (i_if (t_not (t_val (g_call 2 Fk.t2 (fun _ => rfl) hr Tp.m2 Tp.f2.kp Tp.b2 r_def (jk_d k3_is_row) (a_cons (g_v 0 rfl (jk_d k3_thing) rfl ok_thing) (a_cons g_int a_nil)) ok_is_row))) (b_cons (i_ret g_bl)
  b_nil) b_nil)
  (b_cons (i_set2 1 2 rfl rfl sc3.nd rfl rfl (jk_d k3_k) (jk_d k3_d) rfl rfl (g_v 0 rfl (jk_d k3_thing) rfl ok_thing))
  (b_cons (i_ret (g_and (g_call 1 Fk.t1 (fun _ => rfl) hr Tp.m1 Tp.f1.kp Tp.b1 r_def (jk_d k3_is_within) (a_cons (g_v 1 rfl (jk_d k3_k) rfl ok_k) (a_cons g_int (a_cons (g_gE Tp.g_MOST_SPOTS (jk_d k3_MOST_SPOTS) ok_MOST_SPOTS) a_nil))) ok_is_within) (g_one (g_call 1 Fk.t1 (fun _ => rfl) hr Tp.m1 Tp.f1.kp Tp.b1 r_def (jk_d k3_is_within) (a_cons (g_v 2 rfl (jk_d k3_d) rfl ok_d) (a_cons g_int (a_cons (g_v 1 rfl (jk_d k3_k) rfl ok_k) a_nil))) ok_is_within))))
  b_nil)))

theorem t_4 (Tp : Top K mg a fd cA) (Fk : Fs P w K mg base a fd cA k) (cdv : Value) (A : Around) (outer : List Env) (s : Shared) (H : Hp) (E : XK) (hr : Room k (A.deeper (envOfC "steps_apart" (defScope (top 20)) s.heap.objs.size (a 4) cdv))) :
    JB (cxOf (CXe P w) P w K mg base N4 "steps_apart" (defScope (top 20)) (a 4) cdv A outer s H E true) cA sub true (fun c => call sub T k c) (fun _ C dx H' => E C dx H') (defBody (top 20)) b4 :=
  (b_cons (i_ex (g_call 6 Fk.t6 (fun _ => rfl) hr Tp.m6 Tp.f6.kp Tp.b6 r_def (jk_d k4_check_ring) (a_cons (g_v 0 rfl (jk_d k4_ring) rfl ok_ring) a_nil) ok_check_ring))
  (b_cons (i_ex (g_call 7 Fk.t7 (fun _ => rfl) hr Tp.m7 Tp.f7.kp Tp.b7 r_def (jk_d k4_check_spot) (a_cons (g_v 0 rfl (jk_d k4_ring) rfl ok_ring) (a_cons (g_v 1 rfl (jk_d k4_one) rfl ok_one) a_nil)) ok_check_spot))
  (b_cons (i_ex (g_call 7 Fk.t7 (fun _ => rfl) hr Tp.m7 Tp.f7.kp Tp.b7 r_def (jk_d k4_check_spot) (a_cons (g_v 0 rfl (jk_d k4_ring) rfl ok_ring) (a_cons (g_v 2 rfl (jk_d k4_other) rfl ok_other) a_nil)) ok_check_spot))
  (b_cons (i_ret (g_call 8 Fk.t8 (fun _ => rfl) hr Tp.m8 Tp.f8.kp Tp.b8 r_def (jk_d k4_gap_of) (a_cons (g_v 0 rfl (jk_d k4_ring) rfl ok_ring) (a_cons (g_v 1 rfl (jk_d k4_one) rfl ok_one) (a_cons (g_v 2 rfl (jk_d k4_other) rfl ok_other) a_nil))) ok_gap_of))
  b_nil))))

theorem t_5 (Tp : Top K mg a fd cA) (Fk : Fs P w K mg base a fd cA k) (cdv : Value) (A : Around) (outer : List Env) (s : Shared) (H : Hp) (E : XK) (hr : Room k (A.deeper (envOfC "is_spot" (defScope (top 21)) s.heap.objs.size (a 5) cdv))) :
    JB (cxOf (CXe P w) P w K mg base N5 "is_spot" (defScope (top 21)) (a 5) cdv A outer s H E true) cA sub true (fun c => call sub T k c) (fun _ C dx H' => E C dx H') (defBody (top 21)) b5 :=
  (b_cons (i_ret (g_call 1 Fk.t1 (fun _ => rfl) hr Tp.m1 Tp.f1.kp Tp.b1 r_def (jk_d k5_is_within) (a_cons (g_v 1 rfl (jk_d k5_thing) rfl ok_thing) (a_cons g_int (a_cons (g_sub (g_ix (g_v 0 rfl (jk_d k5_ring) rfl ok_ring) g_int) g_int) a_nil))) ok_is_within))
  b_nil)

theorem t_6 (Tp : Top K mg a fd cA) (Fk : Fs P w K mg base a fd cA k) (cdv : Value) (A : Around) (outer : List Env) (s : Shared) (H : Hp) (E : XK) (hr : Room k (A.deeper (envOfC "check_ring" (defScope (top 22)) s.heap.objs.size (a 6) cdv))) :
    JB (cxOf (CXe P w) P w K mg base N6 "check_ring" (defScope (top 22)) (a 6) cdv A outer s H E true) cA sub true (fun c => call sub T k c) (fun _ C dx H' => E C dx H') (defBody (top 22)) b6 :=
  (b_cons (i_if (t_not (t_val (g_call 3 Fk.t3 (fun _ => rfl) hr Tp.m3 Tp.f3.kp Tp.b3 r_def (jk_d k6_is_ring) (a_cons (g_v 0 rfl (jk_d k6_thing) rfl ok_thing) a_nil) ok_is_ring))) (b_cons (i_raise rfl rfl Tp.x1 Tp.c1 (jk_d k6_NoRing) r_def (a_cons g_str a_nil) ok_NoRing)
  b_nil) b_nil)
  b_nil)

theorem t_7 (Tp : Top K mg a fd cA) (Fk : Fs P w K mg base a fd cA k) (cdv : Value) (A : Around) (outer : List Env) (s : Shared) (H : Hp) (E : XK) (hr : Room k (A.deeper (envOfC "check_spot" (defScope (top 23)) s.heap.objs.size (a 7) cdv))) :
    JB (cxOf (CXe P w) P w K mg base N7 "check_spot" (defScope (top 23)) (a 7) cdv A outer s H E true) cA sub true (fun c => call sub T k c) (fun _ C dx H' => E C dx H') (defBody (top 23)) b7 :=
  (b_cons (i_if (t_not (t_val (g_call 5 Fk.t5 (fun _ => rfl) hr Tp.m5 Tp.f5.kp Tp.b5 r_def (jk_d k7_is_spot) (a_cons (g_v 0 rfl (jk_d k7_ring) rfl ok_ring) (a_cons (g_v 1 rfl (jk_d k7_thing) rfl ok_thing) a_nil)) ok_is_spot))) (b_cons (i_raise rfl rfl Tp.x2 Tp.c2 (jk_d k7_NoHues) r_def (a_cons g_str a_nil) ok_NoHues)
  b_nil) b_nil)
  b_nil)

theorem t_8 (Tp : Top K mg a fd cA) (Fk : Fs P w K mg base a fd cA k) (cdv : Value) (A : Around) (outer : List Env) (s : Shared) (H : Hp) (E : XK) (hr : Room k (A.deeper (envOfC "gap_of" (defScope (top 24)) s.heap.objs.size (a 8) cdv))) :
    JB (cxOf (CXe P w) P w K mg base N8 "gap_of" (defScope (top 24)) (a 8) cdv A outer s H E true) cA sub true (fun c => call sub T k c) (fun _ C dx H' => E C dx H') (defBody (top 24)) b8 :=
  (b_cons (i_set 3 sc8.nd rfl (jk_d k8_gap) rfl (g_abs Tp.z_abs (jk_d k8_abs) (a_cons (g_sub (g_v 1 rfl (jk_d k8_one) rfl ok_one) (g_v 2 rfl (jk_d k8_other) rfl ok_other)) a_nil)))
  (b_cons (i_ret (g_min rfl Tp.z_min (jk_d k8_min) (a_cons (g_v 3 rfl (jk_d k8_gap) rfl ok_gap) (a_cons (g_sub (g_ix (g_v 0 rfl (jk_d k8_ring) rfl ok_ring) g_int) (g_v 3 rfl (jk_d k8_gap) rfl ok_gap)) a_nil))))
  b_nil))

theorem t_9 (Tp : Top K mg a fd cA) (Fk : Fs P w K mg base a fd cA k) (cdv : Value) (A : Around) (outer : List Env) (s : Shared) (H : Hp) (E : XK) (hr : Room k (A.deeper (envOfC "_law_cell" (defScope (top 26)) s.heap.objs.size (a 9) cdv))) :
    JB (cxOf (CXe P w) P w K mg base N9 "_law_cell" (defScope (top 26)) (a 9) cdv A outer s H E true) cA sub true (fun c => call sub T k c) (fun _ C dx H' => E C dx H') (defBody (top 26)) b9 :=
  (b_cons (i_if (t_cmp p_lt (g_v 1 rfl (jk_d k9__law_k) rfl ok__law_k) (g_len Tp.z_len (jk_d k9_len) (a_cons (g_v 0 rfl (jk_d k9__law_script) rfl ok__law_script) a_nil))) (b_cons (i_ret (g_ix (g_v 0 rfl (jk_d k9__law_script) rfl ok__law_script) (g_v 1 rfl (jk_d k9__law_k) rfl ok__law_k)))
  b_nil) b_nil)
  (b_cons (i_ret g_int)
  b_nil))

theorem t_10 (Tp : Top K mg a fd cA) (Fk : Fs P w K mg base a fd cA k) (cdv : Value) (A : Around) (outer : List Env) (s : Shared) (H : Hp) (E : XK) (hr : Room k (A.deeper (envOfC "_law_pen" (defScope (top 27)) s.heap.objs.size (a 10) cdv))) :
    JB (cxOf (CXe P w) P w K mg base N10 "_law_pen" (defScope (top 27)) (a 10) cdv A outer s H E true) cA sub true (fun c => call sub T k c) (fun _ C dx H' => E C dx H') (defBody (top 27)) b10 :=
  (b_cons (i_set 1 sc10.nd rfl (jk_d k10__law_left) rfl (g_max rfl Tp.z_max (jk_d k10_max) (a_cons (g_v 0 rfl (jk_d k10__law_cell_here) rfl ok__law_cell_here) (a_cons (g_sub g_int (g_v 0 rfl (jk_d k10__law_cell_here) rfl ok__law_cell_here)) a_nil))))
  (b_cons (i_ret (g_lst (a_cons (g_v 1 rfl (jk_d k10__law_left) rfl ok__law_left) (a_cons (g_int1 Tp.z_int (jk_d k10_int) (a_cons (g_cmp p_ge (g_v 1 rfl (jk_d k10__law_left) rfl ok__law_left) (g_pow g_int g_int)) a_nil)) a_nil))))
  b_nil))

theorem t_11 (Tp : Top K mg a fd cA) (Fk : Fs P w K mg base a fd cA k) (cdv : Value) (A : Around) (outer : List Env) (s : Shared) (H : Hp) (E : XK) (hr : Room k (A.deeper (envOfC "_law_draw" (defScope (top 28)) s.heap.objs.size (a 11) cdv))) :
    JB (cxOf (CXe P w) P w K mg base N11 "_law_draw" (defScope (top 28)) (a 11) cdv A outer s H E true) cA sub true (fun c => call sub T k c) (fun _ C dx H' => E C dx H') (defBody (top 28)) b11 :=
  (b_cons (i_if (t_cmp (p_eq hr) (g_ix (g_v 0 rfl (jk_d k11__law_pen_here) rfl ok__law_pen_here) g_int) g_int) (b_cons (i_set2 2 3 rfl rfl sc11.nd rfl rfl (jk_d k11__law_left) (jk_d k11__law_found) rfl rfl (g_divmod Tp.z_divmod (jk_d k11_divmod) (a_cons (g_ix (g_v 0 rfl (jk_d k11__law_pen_here) rfl ok__law_pen_here) g_int) (a_cons (g_v 1 rfl (jk_d k11__law_many) rfl ok__law_many) a_nil))))
  (b_cons (i_sub (g_v 0 rfl (jk_d k11__law_pen_here) rfl ok__law_pen_here) g_int (g_v 2 rfl (jk_d k11__law_left) rfl ok__law_left))
  (b_cons (i_ret (g_v 3 rfl (jk_d k11__law_found) rfl ok__law_found))
  b_nil))) b_nil)
  (b_cons (i_set 4 sc11.nd rfl (jk_d k11__law_stir) rfl (g_mod (g_mul (g_add (g_mod (g_ix (g_v 0 rfl (jk_d k11__law_pen_here) rfl ok__law_pen_here) g_int) g_int) g_int) g_int) g_int))
  (b_cons (i_set 4 sc11.nd rfl (jk_d k11__law_stir) rfl (g_mod (g_add (g_mul (g_v 4 rfl (jk_d k11__law_stir) rfl ok__law_stir) (g_v 4 rfl (jk_d k11__law_stir) rfl ok__law_stir)) g_int) g_int))
  (b_cons (i_sub (g_v 0 rfl (jk_d k11__law_pen_here) rfl ok__law_pen_here) g_int (g_mod (g_add (g_mul (g_v 4 rfl (jk_d k11__law_stir) rfl ok__law_stir) g_int) g_int) g_int))
  (b_cons (i_ret (g_mod (g_fdiv (g_ix (g_v 0 rfl (jk_d k11__law_pen_here) rfl ok__law_pen_here) g_int) g_int) (g_v 1 rfl (jk_d k11__law_many) rfl ok__law_many)))
  b_nil)))))

theorem t_12 (Tp : Top K mg a fd cA) (Fk : Fs P w K mg base a fd cA k) (cdv : Value) (A : Around) (outer : List Env) (s : Shared) (H : Hp) (E : XK) (hr : Room k (A.deeper (envOfC "_law_whole" (defScope (top 29)) s.heap.objs.size (a 12) cdv))) :
    JB (cxOf (CXe P w) P w K mg base N12 "_law_whole" (defScope (top 29)) (a 12) cdv A outer s H E true) cA sub true (fun c => call sub T k c) (fun _ C dx H' => E C dx H') (defBody (top 29)) b12 :=
  (b_cons (i_ret (g_and (g_isi Tp.cs Tp.z_isinstance (jk_d k12_isinstance) (g_v 0 rfl (jk_d k12__law_thing) rfl ok__law_thing) (n_ty rfl Tp.z_int bt_int (jk_d k12_int) ok_int)) (g_one (g_not (g_isi Tp.cs Tp.z_isinstance (jk_d k12_isinstance) (g_v 0 rfl (jk_d k12__law_thing) rfl ok__law_thing) (n_ty rfl Tp.z_bool bt_bool (jk_d k12_bool) ok_bool))))))
  b_nil)

theorem t_13 (Tp : Top K mg a fd cA) (Fk : Fs P w K mg base a fd cA k) (cdv : Value) (A : Around) (outer : List Env) (s : Shared) (H : Hp) (E : XK) (hr : Room k (A.deeper (envOfC "_law_odd" (defScope (top 30)) s.heap.objs.size (a 13) cdv))) :
    JB (cxOf (CXe P w) P w K mg base N13 "_law_odd" (defScope (top 30)) (a 13) cdv A outer s H E true) cA sub true (fun c => call sub T k c) (fun _ C dx H' => E C dx H') (defBody (top 30)) b13 :=
  (b_cons (i_set 1 sc13.nd rfl (jk_d k13__law_some) rfl (g_lst (a_cons g_non (a_cons g_bl (a_cons g_bl (a_cons (g_neg g_int) (a_cons g_str (a_cons g_str (a_cons (g_tup a_nil) (a_cons (g_lst a_nil) (a_cons (g_tup (a_cons g_int a_nil)) (a_cons (g_lst (a_cons g_int a_nil)) (a_cons g_dct1 (a_cons (g_tup (a_cons g_int (a_cons g_int a_nil))) (a_cons (g_pow g_int g_int) (a_cons (g_tup (a_cons g_int (a_cons (g_tup a_nil) a_nil))) (a_cons (g_tup (a_cons g_str a_nil)) a_nil)))))))))))))))))
  (b_cons (i_ret (g_ix (g_add (g_v 1 rfl (jk_d k13__law_some) rfl ok__law_some) (g_lst (a_cons (g_tup (a_cons g_int (a_cons (g_tup (a_cons (g_tup (a_cons g_int (a_cons g_int a_nil))) a_nil)) a_nil))) a_nil))) (g_call 11 Fk.t11 (fun _ => rfl) hr Tp.m11 Tp.f11.kp Tp.b11 r_def (jk_d k13__law_draw) (a_cons (g_v 0 rfl (jk_d k13__law_pen_here) rfl ok__law_pen_here) (a_cons g_int a_nil)) ok__law_draw)))
  b_nil))

theorem q_14 (Tp : Top K mg a fd cA) (Fk : Fs P w K mg base a fd cA k) (cdv : Value) (A : Around) (outer : List Env) (s : Shared) (H : Hp) (E : XK) (hr : Room k (A.deeper (envOfC "_law_kind" (defScope (top 31)) s.heap.objs.size (a 14) cdv))) :
    JB (cxOf (CXe P w) P w K mg base N14 "_law_kind" (defScope (top 31)) (a 14) cdv A outer s H E false) cA sub false (fun c => call sub T k c) (fun _ C dx H' => E C dx H') (defBody (top 31)) b14 :=
  (b_cons (i_set 1 sc14.nd rfl (jk_d k14__law_marks) rfl (g_lst (a_cons (g_isi Tp.cs Tp.z_isinstance (jk_d k14_isinstance) (g_v 0 rfl (jk_d k14__law_e) rfl ok__law_e) (n_cls Tp.c1 (jk_d k14_NoRing) ok_NoRing)) (a_cons (g_isi Tp.cs Tp.z_isinstance (jk_d k14_isinstance) (g_v 0 rfl (jk_d k14__law_e) rfl ok__law_e) (n_cls Tp.c2 (jk_d k14_NoHues) ok_NoHues)) (a_cons (g_isi Tp.cs Tp.z_isinstance (jk_d k14_isinstance) (g_v 0 rfl (jk_d k14__law_e) rfl ok__law_e) (n_cls Tp.c3 (jk_d k14_NoPlace) ok_NoPlace)) (a_cons (g_isi Tp.cs Tp.z_isinstance (jk_d k14_isinstance) (g_v 0 rfl (jk_d k14__law_e) rfl ok__law_e) (n_cls Tp.c4 (jk_d k14_NoArrows) ok_NoArrows)) a_nil))))))
  (b_cons (i_set 1 sc14.nd rfl (jk_d k14__law_marks) rfl (g_add (g_v 1 rfl (jk_d k14__law_marks) rfl ok__law_marks) (g_lst (a_cons (g_isi Tp.cs Tp.z_isinstance (jk_d k14_isinstance) (g_v 0 rfl (jk_d k14__law_e) rfl ok__law_e) (n_cls Tp.c5 (jk_d k14_NoMap) ok_NoMap)) (a_cons (g_isi Tp.cs Tp.z_isinstance (jk_d k14_isinstance) (g_v 0 rfl (jk_d k14__law_e) rfl ok__law_e) (n_cls Tp.c6 (jk_d k14_NoPaper) ok_NoPaper)) (a_cons (g_isi Tp.cs Tp.z_isinstance (jk_d k14_isinstance) (g_v 0 rfl (jk_d k14__law_e) rfl ok__law_e) (n_cls Tp.c7 (jk_d k14_Apart) ok_Apart)) (a_cons (g_isi Tp.cs Tp.z_isinstance (jk_d k14_isinstance) (g_v 0 rfl (jk_d k14__law_e) rfl ok__law_e) (n_cls Tp.c8 (jk_d k14_NoRow) ok_NoRow)) a_nil)))))))
  (b_cons (i_set 1 sc14.nd rfl (jk_d k14__law_marks) rfl (g_add (g_v 1 rfl (jk_d k14__law_marks) rfl ok__law_marks) (g_lst (a_cons (g_isi Tp.cs Tp.z_isinstance (jk_d k14_isinstance) (g_v 0 rfl (jk_d k14__law_e) rfl ok__law_e) (n_cls Tp.c9 (jk_d k14_NoWeb) ok_NoWeb)) (a_cons (g_isi Tp.cs Tp.z_isinstance (jk_d k14_isinstance) (g_v 0 rfl (jk_d k14__law_e) rfl ok__law_e) (n_cls Tp.c10 (jk_d k14_NoText) ok_NoText)) (a_cons (g_isi Tp.cs Tp.z_isinstance (jk_d k14_isinstance) (g_v 0 rfl (jk_d k14__law_e) rfl ok__law_e) (n_cls Tp.c11 (jk_d k14_TooGreat) ok_TooGreat)) a_nil))))))
  (b_cons (i_if (t_w (w_or (t_not (t_val (g_isi Tp.cs Tp.z_isinstance (jk_d k14_isinstance) (g_v 0 rfl (jk_d k14__law_e) rfl ok__law_e) (n_ty rfl Tp.z_ValueError bt_ValueError (jk_d k14_ValueError) ok_ValueError)))) (w_or1 (t_cmp (p_ne hr) (m_count (g_v 1 rfl (jk_d k14__law_marks) rfl ok__law_marks) (a_cons g_bl a_nil)) g_int)))) (b_cons (i_ret g_str)
  b_nil) b_nil)
  (b_cons (i_set 2 sc14.nd rfl (jk_d k14__law_words) rfl (g_lst (a_cons g_str (a_cons g_str (a_cons g_str (a_cons g_str (a_cons g_str (a_cons g_str (a_cons g_str (a_cons g_str (a_cons g_str (a_cons g_str (a_cons g_str a_nil)))))))))))))
  (b_cons (i_ret (g_ix (g_v 2 rfl (jk_d k14__law_words) rfl ok__law_words) (m_index (g_v 1 rfl (jk_d k14__law_marks) rfl ok__law_marks) (a_cons g_bl a_nil))))
  b_nil))))))

theorem t_15 (Tp : Top K mg a fd cA) (Fk : Fs P w K mg base a fd cA k) (cdv : Value) (A : Around) (outer : List Env) (s : Shared) (H : Hp) (E : XK) (hr : Room k (A.deeper (envOfC "_law_ring" (defScope (top 32)) s.heap.objs.size (a 15) cdv))) :
    JB (cxOf (CXe P w) P w K mg base N15 "_law_ring" (defScope (top 32)) (a 15) cdv A outer s H E true) cA sub true (fun c => call sub T k c) (fun _ C dx H' => E C dx H') (defBody (top 32)) b15 :=
  (b_cons (i_set 1 sc15.nd rfl (jk_d k15__law_some) rfl (g_lst (a_cons (g_tup (a_cons g_int (a_cons g_int a_nil))) (a_cons (g_tup (a_cons g_int (a_cons g_int a_nil))) (a_cons (g_tup (a_cons g_int (a_cons g_int a_nil))) (a_cons (g_tup (a_cons g_int (a_cons g_int a_nil))) (a_cons (g_tup (a_cons g_int (a_cons g_int a_nil))) (a_cons (g_tup (a_cons g_int (a_cons g_int a_nil))) (a_cons (g_tup (a_cons g_int (a_cons g_int a_nil))) (a_cons (g_tup (a_cons g_int (a_cons g_int a_nil))) (a_cons (g_tup (a_cons g_int (a_cons g_int a_nil))) (a_cons (g_tup (a_cons g_int (a_cons g_int a_nil))) (a_cons (g_tup (a_cons g_int (a_cons g_int a_nil))) (a_cons (g_tup (a_cons g_int (a_cons g_int a_nil))) a_nil))))))))))))))
  (b_cons (i_if (t_cmp (p_eq hr) (g_call 11 Fk.t11 (fun _ => rfl) hr Tp.m11 Tp.f11.kp Tp.b11 r_def (jk_d k15__law_draw) (a_cons (g_v 0 rfl (jk_d k15__law_pen_here) rfl ok__law_pen_here) (a_cons g_int a_nil)) ok__law_draw) g_int) (b_cons (i_set 2 sc15.nd rfl (jk_d k15__law_k) rfl (g_add g_int (g_call 11 Fk.t11 (fun _ => rfl) hr Tp.m11 Tp.f11.kp Tp.b11 r_def (jk_d k15__law_draw) (a_cons (g_v 0 rfl (jk_d k15__law_pen_here) rfl ok__law_pen_here) (a_cons g_int a_nil)) ok__law_draw)))
  (b_cons (i_ret (g_tup (a_cons (g_v 2 rfl (jk_d k15__law_k) rfl ok__law_k) (a_cons (g_max rfl Tp.z_max (jk_d k15_max) (a_cons (g_add g_int (g_call 11 Fk.t11 (fun _ => rfl) hr Tp.m11 Tp.f11.kp Tp.b11 r_def (jk_d k15__law_draw) (a_cons (g_v 0 rfl (jk_d k15__law_pen_here) rfl ok__law_pen_here) (a_cons (g_v 2 rfl (jk_d k15__law_k) rfl ok__law_k) a_nil)) ok__law_draw)) (a_cons (g_mul (g_fdiv (g_v 2 rfl (jk_d k15__law_k) rfl ok__law_k) g_int) (g_int1 Tp.z_int (jk_d k15_int) (a_cons (g_cmp p_gt (g_v 2 rfl (jk_d k15__law_k) rfl ok__law_k) g_int) a_nil))) a_nil))) a_nil))))
  b_nil)) b_nil)
  (b_cons (i_ret (g_ix (g_v 1 rfl (jk_d k15__law_some) rfl ok__law_some) (g_call 11 Fk.t11 (fun _ => rfl) hr Tp.m11 Tp.f11.kp Tp.b11 r_def (jk_d k15__law_draw) (a_cons (g_v 0 rfl (jk_d k15__law_pen_here) rfl ok__law_pen_here) (a_cons g_int a_nil)) ok__law_draw)))
  b_nil)))

theorem t_16 (Tp : Top K mg a fd cA) (Fk : Fs P w K mg base a fd cA k) (cdv : Value) (A : Around) (outer : List Env) (s : Shared) (H : Hp) (E : XK) (hr : Room k (A.deeper (envOfC "_law_is_ring" (defScope (top 33)) s.heap.objs.size (a 16) cdv))) :
    JB (cxOf (CXe P w) P w K mg base N16 "_law_is_ring" (defScope (top 33)) (a 16) cdv A outer s H E true) cA sub true (fun c => call sub T k c) (fun _ C dx H' => E C dx H') (defBody (top 33)) b16 :=
  (b_cons (i_if (t_w (w_or (t_not (t_val (g_isi Tp.cs Tp.z_isinstance (jk_d k16_isinstance) (g_v 0 rfl (jk_d k16__law_thing) rfl ok__law_thing) (n_ty rfl Tp.z_tuple bt_tuple (jk_d k16_tuple) ok_tuple)))) (w_or (t_cmp (p_ne hr) (g_len Tp.z_len (jk_d k16_len) (a_cons (g_v 0 rfl (jk_d k16__law_thing) rfl ok__law_thing) a_nil)) g_int) (w_or1 (t_not (t_val (g_all rfl Tp.z_all (jk_d k16_all) (a_cons (g_comp (defScope (top 33)) N16 [] [] rfl rfl rfl (by decide +kernel) (by decide +kernel) (by decide +kernel) (by decide +kernel) (g_v 0 rfl (jk_d k16__law_thing) rfl ok__law_thing) (fun _ _ _ _ _ _ => c_no) (fun _ _ _ _ _ _ => (g_call 12 Fk.t12 (fun _ => rfl) hr Tp.m12 Tp.f12.kp Tp.b12 r_no (jk_b (k := .globalImplicit) (by decide +kernel) rfl) (a_cons (g_v 0 rfl (jk_b (k := .local) (by decide +kernel) rfl) rfl ok__law_one) a_nil) ok__law_whole))) a_nil)))))))) (b_cons (i_ret g_bl)
  b_nil) b_nil)
  (b_cons (i_ret (g_ch3 p_le p_le p_le g_int (g_ix (g_v 0 rfl (jk_d k16__law_thing) rfl ok__law_thing) g_int) (g_ix (g_v 0 rfl (jk_d k16__law_thing) rfl ok__law_thing) g_int) g_int))
  b_nil))

theorem t_17 (Tp : Top K mg a fd cA) (Fk : Fs P w K mg base a fd cA k) (cdv : Value) (A : Around) (outer : List Env) (s : Shared) (H : Hp) (E : XK) (hr : Room k (A.deeper (envOfC "_law_bent_ring" (defScope (top 34)) s.heap.objs.size (a 17) cdv))) :
    JB (cxOf (CXe P w) P w K mg base N17 "_law_bent_ring" (defScope (top 34)) (a 17) cdv A outer s H E true) cA sub true (fun c => call sub T k c) (fun _ C dx H' => E C dx H') (defBody (top 34)) b17 :=
  (b_cons (i_set2 2 3 rfl rfl sc17.nd rfl rfl (jk_d k17__law_k) (jk_d k17__law_d) rfl rfl (g_v 1 rfl (jk_d k17__law_ring_here) rfl ok__law_ring_here))
  (b_cons (i_set 4 sc17.nd rfl (jk_d k17__law_some) rfl (g_lst (a_cons (g_tup (a_cons (g_v 2 rfl (jk_d k17__law_k) rfl ok__law_k) (a_cons (g_add (g_v 2 rfl (jk_d k17__law_k) rfl ok__law_k) g_int) a_nil))) (a_cons (g_tup (a_cons g_int (a_cons g_int a_nil))) (a_cons (g_tup (a_cons g_int (a_cons g_int a_nil))) (a_cons (g_tup (a_cons (g_v 2 rfl (jk_d k17__law_k) rfl ok__law_k) (a_cons g_int a_nil))) (a_cons (g_tup (a_cons g_bl (a_cons g_int a_nil))) (a_cons (g_tup (a_cons (g_v 2 rfl (jk_d k17__law_k) rfl ok__law_k) (a_cons (g_v 3 rfl (jk_d k17__law_d) rfl ok__law_d) (a_cons g_int a_nil)))) (a_cons (g_lst (a_cons (g_v 2 rfl (jk_d k17__law_k) rfl ok__law_k) (a_cons (g_v 3 rfl (jk_d k17__law_d) rfl ok__law_d) a_nil))) (a_cons (g_tup (a_cons (g_v 2 rfl (jk_d k17__law_k) rfl ok__law_k) a_nil)) (a_cons g_non a_nil)))))))))))
  (b_cons (i_ret (g_ix (g_add (g_v 4 rfl (jk_d k17__law_some) rfl ok__law_some) (g_lst (a_cons (g_tup (a_cons (g_v 3 rfl (jk_d k17__law_d) rfl ok__law_d) (a_cons (g_v 2 rfl (jk_d k17__law_k) rfl ok__law_k) a_nil))) (a_cons g_str (a_cons (g_tup (a_cons (g_sub g_int (g_v 2 rfl (jk_d k17__law_k) rfl ok__law_k)) (a_cons (g_v 3 rfl (jk_d k17__law_d) rfl ok__law_d) a_nil))) a_nil))))) (g_call 11 Fk.t11 (fun _ => rfl) hr Tp.m11 Tp.f11.kp Tp.b11 r_def (jk_d k17__law_draw) (a_cons (g_v 0 rfl (jk_d k17__law_pen_here) rfl ok__law_pen_here) (a_cons g_int a_nil)) ok__law_draw)))
  b_nil)))

theorem t_18 (Tp : Top K mg a fd cA) (Fk : Fs P w K mg base a fd cA k) (cdv : Value) (A : Around) (outer : List Env) (s : Shared) (H : Hp) (E : XK) (hr : Room k (A.deeper (envOfC "_law_told" (defScope (top 35)) s.heap.objs.size (a 18) cdv))) :
    JB (cxOf (CXe P w) P w K mg base N18 "_law_told" (defScope (top 35)) (a 18) cdv A outer s H E true) cA sub true (fun c => call sub T k c) (fun _ C dx H' => E C dx H') (defBody (top 35)) b18 :=
  (b_cons (i_try 3 (dc := 0) rfl rfl ⟨rfl, rfl⟩ (jk_d k18_HueError) Tp.c0 sc18.nd rfl (jk_d k18__law_e) Tp.s0 (fun _ _ _ R' hp' => (b_cons (i_ret (g_tup (a_cons g_str (a_cons (g_call 4 Fk.t4 (fun _ => rfl) hr Tp.m4 Tp.f4.kp Tp.b4 R' (jk_s (jk_d k18_steps_apart)) (a_cons (g_v 0 rfl (jk_s (jk_d k18__law_ring_here)) rfl ok__law_ring_here) (a_cons (g_v 1 rfl (jk_s (jk_d k18__law_one)) rfl ok__law_one) (a_cons (g_v 2 rfl (jk_s (jk_d k18__law_other)) rfl ok__law_other) a_nil))) ok_steps_apart) a_nil))))
  b_nil)) (fun _ => (b_cons (i_ret (g_tup (a_cons (g_call 14 Fk.q14 (fun z => nomatch z) (room_mark hr) Tp.m14 Tp.f14.kp Tp.b14 r_no (jk_s (jk_d k18__law_kind)) (a_cons (g_v 3 rfl (jk_s (jk_d k18__law_e)) rfl ok__law_e) a_nil) ok__law_kind) (a_cons g_non a_nil))))
  b_nil)) ok_HueError)
  b_nil)

theorem t_19 (Tp : Top K mg a fd cA) (Fk : Fs P w K mg base a fd cA k) (cdv : Value) (A : Around) (outer : List Env) (s : Shared) (H : Hp) (E : XK) (hr : Room k (A.deeper (envOfC "_law_is_right" (defScope (top 36)) s.heap.objs.size (a 19) cdv))) :
    JB (cxOf (CXe P w) P w K mg base N19 "_law_is_right" (defScope (top 36)) (a 19) cdv A outer s H E true) cA sub true (fun c => call sub T k c) (fun _ C dx H' => E C dx H') (defBody (top 36)) b19 :=
  (b_cons (i_set 1 sc19.nd rfl (jk_d k19__law_found) rfl (g_call 3 Fk.t3 (fun _ => rfl) hr Tp.m3 Tp.f3.kp Tp.b3 r_def (jk_d k19_is_ring) (a_cons (g_v 0 rfl (jk_d k19__law_thing) rfl ok__law_thing) a_nil) ok_is_ring))
  (b_cons (i_ret (g_and (g_isi Tp.cs Tp.z_isinstance (jk_d k19_isinstance) (g_v 1 rfl (jk_d k19__law_found) rfl ok__law_found) (n_ty rfl Tp.z_bool bt_bool (jk_d k19_bool) ok_bool)) (g_and (g_cmp (p_eq hr) (g_v 1 rfl (jk_d k19__law_found) rfl ok__law_found) (g_call 16 Fk.t16 (fun _ => rfl) hr Tp.m16 Tp.f16.kp Tp.b16 r_def (jk_d k19__law_is_ring) (a_cons (g_v 0 rfl (jk_d k19__law_thing) rfl ok__law_thing) a_nil) ok__law_is_ring)) (g_one (g_cmp (p_eq hr) (g_call 3 Fk.t3 (fun _ => rfl) hr Tp.m3 Tp.f3.kp Tp.b3 r_def (jk_d k19_is_ring) (a_cons (g_v 0 rfl (jk_d k19__law_thing) rfl ok__law_thing) a_nil) ok_is_ring) (g_v 1 rfl (jk_d k19__law_found) rfl ok__law_found))))))
  b_nil))

theorem t_20 (Tp : Top K mg a fd cA) (Fk : Fs P w K mg base a fd cA k) (cdv : Value) (A : Around) (outer : List Env) (s : Shared) (H : Hp) (E : XK) (hr : Room k (A.deeper (envOfC "_law_steps" (defScope (top 37)) s.heap.objs.size (a 20) cdv))) :
    JB (cxOf (CXe P w) P w K mg base N20 "_law_steps" (defScope (top 37)) (a 20) cdv A outer s H E true) cA sub true (fun c => call sub T k c) (fun _ C dx H' => E C dx H') (defBody (top 37)) b20 :=
  (b_cons (i_par 3 4 rfl rfl sc20.nd rfl rfl (by decide) (jk_d k20__law_found) (jk_d k20__law_here) g_int (g_v 1 rfl (jk_d k20__law_one) rfl ok__law_one) rfl)
  (b_cons (i_while h_def (t_cmp (p_ne hr) (g_v 4 rfl (jk_d k20__law_here) rfl ok__law_here) (g_v 2 rfl (jk_d k20__law_other) rfl ok__law_other)) (b_cons (i_set 4 sc20.nd rfl (jk_d k20__law_here) rfl (g_mod (g_add (g_v 4 rfl (jk_d k20__law_here) rfl ok__law_here) g_int) (g_v 0 rfl (jk_d k20__law_k) rfl ok__law_k)))
  (b_cons (i_set 3 sc20.nd rfl (jk_d k20__law_found) rfl (g_add (g_v 3 rfl (jk_d k20__law_found) rfl ok__law_found) g_int))
  b_nil)))
  (b_cons (i_ret (g_min rfl Tp.z_min (jk_d k20_min) (a_cons (g_v 3 rfl (jk_d k20__law_found) rfl ok__law_found) (a_cons (g_mod (g_sub (g_v 0 rfl (jk_d k20__law_k) rfl ok__law_k) (g_v 3 rfl (jk_d k20__law_found) rfl ok__law_found)) (g_v 0 rfl (jk_d k20__law_k) rfl ok__law_k)) a_nil))))
  b_nil)))

theorem t_21 (Tp : Top K mg a fd cA) (Fk : Fs P w K mg base a fd cA k) (cdv : Value) (A : Around) (outer : List Env) (s : Shared) (H : Hp) (E : XK) (hr : Room k (A.deeper (envOfC "_law_right" (defScope (top 38)) s.heap.objs.size (a 21) cdv))) :
    JB (cxOf (CXe P w) P w K mg base N21 "_law_right" (defScope (top 38)) (a 21) cdv A outer s H E true) cA sub true (fun c => call sub T k c) (fun _ C dx H' => E C dx H') (defBody (top 38)) b21 :=
  (b_cons (i_rng h_def rfl rfl Tp.z_range (jk_d k21_range) (g_ix (g_v 0 rfl (jk_d k21__law_ring_here) rfl ok__law_ring_here) g_int) (y_name 1 sc21.nd rfl (jk_d k21__law_one) rfl) (b_cons (i_rng h_def rfl rfl Tp.z_range (jk_d k21_range) (g_ix (g_v 0 rfl (jk_d k21__law_ring_here) rfl ok__law_ring_here) g_int) (y_name 2 sc21.nd rfl (jk_d k21__law_other) rfl) (b_cons (i_set2 3 4 rfl rfl sc21.nd rfl rfl (jk_d k21__law_word) (jk_d k21__law_found) rfl rfl (g_call 18 Fk.t18 (fun _ => rfl) hr Tp.m18 Tp.f18.kp Tp.b18 r_def (jk_d k21__law_told) (a_cons (g_v 0 rfl (jk_d k21__law_ring_here) rfl ok__law_ring_here) (a_cons (g_v 1 rfl (jk_d k21__law_one) rfl ok__law_one) (a_cons (g_v 2 rfl (jk_d k21__law_other) rfl ok__law_other) a_nil))) ok__law_told))
  (b_cons (i_if (t_w (w_or (t_cmp (p_ne hr) (g_v 3 rfl (jk_d k21__law_word) rfl ok__law_word) g_str) (w_or (t_not (t_val (g_call 12 Fk.t12 (fun _ => rfl) hr Tp.m12 Tp.f12.kp Tp.b12 r_def (jk_d k21__law_whole) (a_cons (g_v 4 rfl (jk_d k21__law_found) rfl ok__law_found) a_nil) ok__law_whole))) (w_or1 (t_cmp (p_ne hr) (g_v 4 rfl (jk_d k21__law_found) rfl ok__law_found) (g_call 20 Fk.t20 (fun _ => rfl) hr Tp.m20 Tp.f20.kp Tp.b20 r_def (jk_d k21__law_steps) (a_cons (g_ix (g_v 0 rfl (jk_d k21__law_ring_here) rfl ok__law_ring_here) g_int) (a_cons (g_v 1 rfl (jk_d k21__law_one) rfl ok__law_one) (a_cons (g_v 2 rfl (jk_d k21__law_other) rfl ok__law_other) a_nil))) ok__law_steps)))))) (b_cons (i_ret g_bl)
  b_nil) b_nil)
  b_nil)))
  b_nil))
  (b_cons (i_ret g_bl)
  b_nil))

theorem t_22 (Tp : Top K mg a fd cA) (Fk : Fs P w K mg base a fd cA k) (cdv : Value) (A : Around) (outer : List Env) (s : Shared) (H : Hp) (E : XK) (hr : Room k (A.deeper (envOfC "law" (defScope (top 39)) s.heap.objs.size (a 22) cdv))) :
    JB (cxOf (CXe P w) P w K mg base N22 "law" (defScope (top 39)) (a 22) cdv A outer s H E true) cA sub true (fun c => call sub T k c) (fun _ C dx H' => E C dx H') (defBody (top 39)) b22 :=
  (b_cons (i_set 1 sc22.nd rfl (jk_d k22__law_some) rfl (g_lst (a_cons (g_tup (a_cons g_int (a_cons g_int a_nil))) (a_cons (g_tup (a_cons g_int (a_cons g_int a_nil))) (a_cons (g_tup (a_cons g_int (a_cons g_int a_nil))) (a_cons (g_tup (a_cons g_int (a_cons g_int a_nil))) (a_cons (g_tup (a_cons g_int (a_cons g_int a_nil))) (a_cons (g_tup (a_cons g_int (a_cons g_int a_nil))) (a_cons (g_tup (a_cons g_int (a_cons g_int a_nil))) (a_cons (g_tup (a_cons g_bl (a_cons g_int a_nil))) (a_cons (g_lst (a_cons g_int (a_cons g_int a_nil))) (a_cons (g_tup (a_cons g_int a_nil)) (a_cons (g_tup (a_cons g_int (a_cons g_int (a_cons g_int a_nil)))) (a_cons g_non a_nil))))))))))))))
  (b_cons (i_for h_def rfl rfl (g_add (g_v 1 rfl (jk_d k22__law_some) rfl ok__law_some) (g_lst (a_cons (g_tup (a_cons g_int (a_cons g_int a_nil))) (a_cons g_str (a_cons (g_tup (a_cons g_int (a_cons g_int a_nil))) a_nil))))) (y_name 2 sc22.nd rfl (jk_d k22__law_thing) rfl) (b_cons (i_if (t_not (t_val (g_call 19 Fk.t19 (fun _ => rfl) hr Tp.m19 Tp.f19.kp Tp.b19 r_def (jk_d k22__law_is_right) (a_cons (g_v 2 rfl (jk_d k22__law_thing) rfl ok__law_thing) a_nil) ok__law_is_right))) (b_cons (i_ret g_bl)
  b_nil) b_nil)
  b_nil))
  (b_cons (i_for h_def rfl rfl (g_add (g_lst (a_cons (g_call 9 Fk.t9 (fun _ => rfl) hr Tp.m9 Tp.f9.kp Tp.b9 r_def (jk_d k22__law_cell) (a_cons (g_v 0 rfl (jk_d k22__law_script) rfl ok__law_script) (a_cons g_int a_nil)) ok__law_cell) a_nil)) (g_sl (g_v 0 rfl (jk_d k22__law_script) rfl ok__law_script) (o_yes g_int) (o_yes g_int))) (y_name 3 sc22.nd rfl (jk_d k22__law_cell_here) rfl) (b_cons (i_set 4 sc22.nd rfl (jk_d k22__law_pen_here) rfl (g_call 10 Fk.t10 (fun _ => rfl) hr Tp.m10 Tp.f10.kp Tp.b10 r_def (jk_d k22__law_pen) (a_cons (g_v 3 rfl (jk_d k22__law_cell_here) rfl ok__law_cell_here) a_nil) ok__law_pen))
  (b_cons (i_set 5 sc22.nd rfl (jk_d k22__law_ring_here) rfl (g_call 15 Fk.t15 (fun _ => rfl) hr Tp.m15 Tp.f15.kp Tp.b15 r_def (jk_d k22__law_ring) (a_cons (g_v 4 rfl (jk_d k22__law_pen_here) rfl ok__law_pen_here) a_nil) ok__law_ring))
  (b_cons (i_for h_def rfl rfl (g_lst (a_cons (g_v 5 rfl (jk_d k22__law_ring_here) rfl ok__law_ring_here) (a_cons (g_call 17 Fk.t17 (fun _ => rfl) hr Tp.m17 Tp.f17.kp Tp.b17 r_def (jk_d k22__law_bent_ring) (a_cons (g_v 4 rfl (jk_d k22__law_pen_here) rfl ok__law_pen_here) (a_cons (g_v 5 rfl (jk_d k22__law_ring_here) rfl ok__law_ring_here) a_nil)) ok__law_bent_ring) (a_cons (g_call 17 Fk.t17 (fun _ => rfl) hr Tp.m17 Tp.f17.kp Tp.b17 r_def (jk_d k22__law_bent_ring) (a_cons (g_v 4 rfl (jk_d k22__law_pen_here) rfl ok__law_pen_here) (a_cons (g_v 5 rfl (jk_d k22__law_ring_here) rfl ok__law_ring_here) a_nil)) ok__law_bent_ring) (a_cons (g_call 13 Fk.t13 (fun _ => rfl) hr Tp.m13 Tp.f13.kp Tp.b13 r_def (jk_d k22__law_odd) (a_cons (g_v 4 rfl (jk_d k22__law_pen_here) rfl ok__law_pen_here) a_nil) ok__law_odd) a_nil))))) (y_name 2 sc22.nd rfl (jk_d k22__law_thing) rfl) (b_cons (i_if (t_not (t_val (g_call 19 Fk.t19 (fun _ => rfl) hr Tp.m19 Tp.f19.kp Tp.b19 r_def (jk_d k22__law_is_right) (a_cons (g_v 2 rfl (jk_d k22__law_thing) rfl ok__law_thing) a_nil) ok__law_is_right))) (b_cons (i_ret g_bl)
  b_nil) b_nil)
  (b_cons (i_if (t_w (w_and (t_not (t_val (g_call 16 Fk.t16 (fun _ => rfl) hr Tp.m16 Tp.f16.kp Tp.b16 r_def (jk_d k22__law_is_ring) (a_cons (g_v 2 rfl (jk_d k22__law_thing) rfl ok__law_thing) a_nil) ok__law_is_ring))) (w_and1 (t_cmp (p_ne hr) (g_call 18 Fk.t18 (fun _ => rfl) hr Tp.m18 Tp.f18.kp Tp.b18 r_def (jk_d k22__law_told) (a_cons (g_v 2 rfl (jk_d k22__law_thing) rfl ok__law_thing) (a_cons g_non (a_cons g_non a_nil))) ok__law_told) (g_tup (a_cons g_str (a_cons g_non a_nil))))))) (b_cons (i_ret g_bl)
  b_nil) b_nil)
  b_nil)))
  (b_cons (i_if (t_not (t_val (g_call 21 Fk.t21 (fun _ => rfl) hr Tp.m21 Tp.f21.kp Tp.b21 r_def (jk_d k22__law_right) (a_cons (g_v 5 rfl (jk_d k22__law_ring_here) rfl ok__law_ring_here) a_nil) ok__law_right))) (b_cons (i_ret g_bl)
  b_nil) b_nil)
  (b_cons (i_for h_def rfl rfl (g_lst (a_cons (g_ix (g_v 5 rfl (jk_d k22__law_ring_here) rfl ok__law_ring_here) g_int) (a_cons (g_neg g_int) (a_cons g_bl (a_cons g_non (a_cons g_str (a_cons (g_tup (a_cons g_int a_nil)) (a_cons (g_add (g_ix (g_v 5 rfl (jk_d k22__law_ring_here) rfl ok__law_ring_here) g_int) (g_call 11 Fk.t11 (fun _ => rfl) hr Tp.m11 Tp.f11.kp Tp.b11 r_def (jk_d k22__law_draw) (a_cons (g_v 4 rfl (jk_d k22__law_pen_here) rfl ok__law_pen_here) (a_cons g_int a_nil)) ok__law_draw)) a_nil)))))))) (y_name 6 sc22.nd rfl (jk_d k22__law_bad) rfl) (b_cons (i_if (t_w (w_or (t_cmp (p_ne hr) (g_call 18 Fk.t18 (fun _ => rfl) hr Tp.m18 Tp.f18.kp Tp.b18 r_def (jk_d k22__law_told) (a_cons (g_v 5 rfl (jk_d k22__law_ring_here) rfl ok__law_ring_here) (a_cons (g_v 6 rfl (jk_d k22__law_bad) rfl ok__law_bad) (a_cons g_int a_nil))) ok__law_told) (g_tup (a_cons g_str (a_cons g_non a_nil)))) (w_or1 (t_cmp (p_ne hr) (g_call 18 Fk.t18 (fun _ => rfl) hr Tp.m18 Tp.f18.kp Tp.b18 r_def (jk_d k22__law_told) (a_cons (g_v 5 rfl (jk_d k22__law_ring_here) rfl ok__law_ring_here) (a_cons g_int (a_cons (g_v 6 rfl (jk_d k22__law_bad) rfl ok__law_bad) a_nil))) ok__law_told) (g_tup (a_cons g_str (a_cons g_non a_nil))))))) (b_cons (i_ret g_bl)
  b_nil) b_nil)
  b_nil))
  b_nil))))))
  (b_cons (i_ret g_bl)
  b_nil))))

theorem fs_step (Tp : Top K mg a fd cA) (Fk : Fs P w K mg base a fd cA k) : Fs P w K mg base a fd cA (k + 1) where
  t0 := fn_spJ (df := ⟨1, 1, b0⟩) Tp.f0 sc0 T_0 rfl rfl (t_0 Tp Fk)
  t1 := fn_spJ (df := ⟨3, 3, b1⟩) Tp.f1 sc1 T_1 rfl rfl (t_1 Tp Fk)
  t2 := fn_spJ (df := ⟨2, 2, b2⟩) Tp.f2 sc2 T_2 rfl rfl (t_2 Tp Fk)
  t3 := fn_spJ (df := ⟨3, 1, b3⟩) Tp.f3 sc3 T_3 rfl rfl (t_3 Tp Fk)
  t4 := fn_spJ (df := ⟨3, 3, b4⟩) Tp.f4 sc4 T_4 rfl rfl (t_4 Tp Fk)
  t5 := fn_spJ (df := ⟨2, 2, b5⟩) Tp.f5 sc5 T_5 rfl rfl (t_5 Tp Fk)
  t6 := fn_spJ (df := ⟨1, 1, b6⟩) Tp.f6 sc6 T_6 rfl rfl (t_6 Tp Fk)
  t7 := fn_spJ (df := ⟨2, 2, b7⟩) Tp.f7 sc7 T_7 rfl rfl (t_7 Tp Fk)
  t8 := fn_spJ (df := ⟨4, 3, b8⟩) Tp.f8 sc8 T_8 rfl rfl (t_8 Tp Fk)
  t9 := fn_spJ (df := ⟨2, 2, b9⟩) Tp.f9 sc9 T_9 rfl rfl (t_9 Tp Fk)
  t10 := fn_spJ (df := ⟨2, 1, b10⟩) Tp.f10 sc10 T_10 rfl rfl (t_10 Tp Fk)
  t11 := fn_spJ (df := ⟨5, 2, b11⟩) Tp.f11 sc11 T_11 rfl rfl (t_11 Tp Fk)
  t12 := fn_spJ (df := ⟨1, 1, b12⟩) Tp.f12 sc12 T_12 rfl rfl (t_12 Tp Fk)
  t13 := fn_spJ (df := ⟨2, 1, b13⟩) Tp.f13 sc13 T_13 rfl rfl (t_13 Tp Fk)
  q14 := fn_spJ (df := ⟨3, 1, b14⟩) Tp.f14 sc14 T_14 rfl rfl (q_14 Tp Fk)
  t15 := fn_spJ (df := ⟨3, 1, b15⟩) Tp.f15 sc15 T_15 rfl rfl (t_15 Tp Fk)
  t16 := fn_spJ (df := ⟨1, 1, b16⟩) Tp.f16 sc16 T_16 rfl rfl (t_16 Tp Fk)
  t17 := fn_spJ (df := ⟨5, 2, b17⟩) Tp.f17 sc17 T_17 rfl rfl (t_17 Tp Fk)
  t18 := fn_spJ (df := ⟨4, 3, b18⟩) Tp.f18 sc18 T_18 rfl rfl (t_18 Tp Fk)
  t19 := fn_spJ (df := ⟨2, 1, b19⟩) Tp.f19 sc19 T_19 rfl rfl (t_19 Tp Fk)
  t20 := fn_spJ (df := ⟨5, 3, b20⟩) Tp.f20 sc20 T_20 rfl rfl (t_20 Tp Fk)
  t21 := fn_spJ (df := ⟨5, 1, b21⟩) Tp.f21 sc21 T_21 rfl rfl (t_21 Tp Fk)
  t22 := fn_spJ (df := ⟨7, 1, b22⟩) Tp.f22 sc22 T_22 rfl rfl (t_22 Tp Fk)

theorem fs_all (Tp : Top K mg a fd cA) : ∀ k, Fs P w K mg base a fd cA k
  | 0 => ⟨fn_zero, fn_zero, fn_zero, fn_zero, fn_zero, fn_zero, fn_zero, fn_zero, fn_zero, fn_zero, fn_zero, fn_zero, fn_zero, fn_zero, fn_zero, fn_zero, fn_zero, fn_zero, fn_zero, fn_zero, fn_zero, fn_zero, fn_zero⟩
  | k + 1 => fs_step Tp (fs_all Tp k)
end

end K03


set_option Elab.async false
set_option linter.all false
set_option maxRecDepth 100000
set_option maxHeartbeats 400000

namespace K03
open PySem PySem.Spec PyProof.Rows L2 It

theorem all_mk {l : PySem.W.OpenLaw} {w : World} {K : PySem.W.Frag} {h : Heap} {mg : Str → Option Value} {fa : Addr} {f0 : Addr} {od0 an0 : Option Addr} {sl0 : Array (Option Value)} {oc0 kV0 dc0 pm0 cd0 ct0 : Value}
    {f1 : Addr} {od1 an1 : Option Addr} {sl1 : Array (Option Value)} {oc1 kV1 dc1 pm1 cd1 ct1 : Value}
    {f2 : Addr} {od2 an2 : Option Addr} {sl2 : Array (Option Value)} {oc2 kV2 dc2 pm2 cd2 ct2 : Value}
    {f3 : Addr} {od3 an3 : Option Addr} {sl3 : Array (Option Value)} {oc3 kV3 dc3 pm3 cd3 ct3 : Value}
    {f4 : Addr} {od4 an4 : Option Addr} {sl4 : Array (Option Value)} {oc4 kV4 dc4 pm4 cd4 ct4 : Value}
    {f5 : Addr} {od5 an5 : Option Addr} {sl5 : Array (Option Value)} {oc5 kV5 dc5 pm5 cd5 ct5 : Value}
    {f6 : Addr} {od6 an6 : Option Addr} {sl6 : Array (Option Value)} {oc6 kV6 dc6 pm6 cd6 ct6 : Value}
    {f7 : Addr} {od7 an7 : Option Addr} {sl7 : Array (Option Value)} {oc7 kV7 dc7 pm7 cd7 ct7 : Value}
    {f8 : Addr} {od8 an8 : Option Addr} {sl8 : Array (Option Value)} {oc8 kV8 dc8 pm8 cd8 ct8 : Value}
    {f9 : Addr} {od9 an9 : Option Addr} {sl9 : Array (Option Value)} {oc9 kV9 dc9 pm9 cd9 ct9 : Value}
    {f10 : Addr} {od10 an10 : Option Addr} {sl10 : Array (Option Value)} {oc10 kV10 dc10 pm10 cd10 ct10 : Value}
    {f11 : Addr} {od11 an11 : Option Addr} {sl11 : Array (Option Value)} {oc11 kV11 dc11 pm11 cd11 ct11 : Value}
    {f12 : Addr} {od12 an12 : Option Addr} {sl12 : Array (Option Value)} {oc12 kV12 dc12 pm12 cd12 ct12 : Value}
    {f13 : Addr} {od13 an13 : Option Addr} {sl13 : Array (Option Value)} {oc13 kV13 dc13 pm13 cd13 ct13 : Value}
    {f14 : Addr} {od14 an14 : Option Addr} {sl14 : Array (Option Value)} {oc14 kV14 dc14 pm14 cd14 ct14 : Value}
    {f15 : Addr} {od15 an15 : Option Addr} {sl15 : Array (Option Value)} {oc15 kV15 dc15 pm15 cd15 ct15 : Value}
    {f16 : Addr} {od16 an16 : Option Addr} {sl16 : Array (Option Value)} {oc16 kV16 dc16 pm16 cd16 ct16 : Value}
    {f17 : Addr} {od17 an17 : Option Addr} {sl17 : Array (Option Value)} {oc17 kV17 dc17 pm17 cd17 ct17 : Value}
    {f18 : Addr} {od18 an18 : Option Addr} {sl18 : Array (Option Value)} {oc18 kV18 dc18 pm18 cd18 ct18 : Value}
    {f19 : Addr} {od19 an19 : Option Addr} {sl19 : Array (Option Value)} {oc19 kV19 dc19 pm19 cd19 ct19 : Value}
    {f20 : Addr} {od20 an20 : Option Addr} {sl20 : Array (Option Value)} {oc20 kV20 dc20 pm20 cd20 ct20 : Value}
    {f21 : Addr} {od21 an21 : Option Addr} {sl21 : Array (Option Value)} {oc21 kV21 dc21 pm21 cd21 ct21 : Value}
    {f22 : Addr} {od22 an22 : Option Addr} {sl22 : Array (Option Value)} {oc22 kV22 dc22 pm22 cd22 ct22 : Value}
    {C0 : Addr}
    {C1 : Addr}
    {C2 : Addr}
    {C3 : Addr}
    {C4 : Addr}
    {C5 : Addr}
    {C6 : Addr}
    {C7 : Addr}
    {C8 : Addr}
    {C9 : Addr}
    {C10 : Addr}
    {C11 : Addr}
    {t_MOST_SPOTS : Tok}
    (X : K.In h) (G : h.Ns mainGlobals mg) (hfa : mg "law" = some (.ref fa))
    (hm : ∀ ns : List Int, ns.length ≤ 63 → ∃ s', call sub T 12 true 22 [.loc 0] [.ro (ns.map D.int)] = some (.ok (.bl true), s'))
    (n0 : PySem.W.nsIn K mainGlobals "is_whole" = some (some (.ref f0))) (l0 : K.lookup f0 = some ⟨oc0, od0, .func (PySem.W.fnOf "is_whole" "is_whole" (defArgs (top 14)) (defBody (top 14)) (defScope (top 14)) .none kV0 dc0 pm0 an0 cd0 ct0), sl0⟩) (c0 : PySem.W.codeIn K cd0 "is_whole" = true) (k0 : PySem.W.keepIn K (.ref f0) = true)
    (n1 : PySem.W.nsIn K mainGlobals "is_within" = some (some (.ref f1))) (l1 : K.lookup f1 = some ⟨oc1, od1, .func (PySem.W.fnOf "is_within" "is_within" (defArgs (top 15)) (defBody (top 15)) (defScope (top 15)) .none kV1 dc1 pm1 an1 cd1 ct1), sl1⟩) (c1 : PySem.W.codeIn K cd1 "is_within" = true) (k1 : PySem.W.keepIn K (.ref f1) = true)
    (n2 : PySem.W.nsIn K mainGlobals "is_row" = some (some (.ref f2))) (l2 : K.lookup f2 = some ⟨oc2, od2, .func (PySem.W.fnOf "is_row" "is_row" (defArgs (top 16)) (defBody (top 16)) (defScope (top 16)) .none kV2 dc2 pm2 an2 cd2 ct2), sl2⟩) (c2 : PySem.W.codeIn K cd2 "is_row" = true) (k2 : PySem.W.keepIn K (.ref f2) = true)
    (n3 : PySem.W.nsIn K mainGlobals "is_ring" = some (some (.ref f3))) (l3 : K.lookup f3 = some ⟨oc3, od3, .func (PySem.W.fnOf "is_ring" "is_ring" (defArgs (top 19)) (defBody (top 19)) (defScope (top 19)) .none kV3 dc3 pm3 an3 cd3 ct3), sl3⟩) (c3 : PySem.W.codeIn K cd3 "is_ring" = true) (k3 : PySem.W.keepIn K (.ref f3) = true)
    (n4 : PySem.W.nsIn K mainGlobals "steps_apart" = some (some (.ref f4))) (l4 : K.lookup f4 = some ⟨oc4, od4, .func (PySem.W.fnOf "steps_apart" "steps_apart" (defArgs (top 20)) (defBody (top 20)) (defScope (top 20)) .none kV4 dc4 pm4 an4 cd4 ct4), sl4⟩) (c4 : PySem.W.codeIn K cd4 "steps_apart" = true) (k4 : PySem.W.keepIn K (.ref f4) = true)
    (n5 : PySem.W.nsIn K mainGlobals "is_spot" = some (some (.ref f5))) (l5 : K.lookup f5 = some ⟨oc5, od5, .func (PySem.W.fnOf "is_spot" "is_spot" (defArgs (top 21)) (defBody (top 21)) (defScope (top 21)) .none kV5 dc5 pm5 an5 cd5 ct5), sl5⟩) (c5 : PySem.W.codeIn K cd5 "is_spot" = true) (k5 : PySem.W.keepIn K (.ref f5) = true)
    (n6 : PySem.W.nsIn K mainGlobals "check_ring" = some (some (.ref f6))) (l6 : K.lookup f6 = some ⟨oc6, od6, .func (PySem.W.fnOf "check_ring" "check_ring" (defArgs (top 22)) (defBody (top 22)) (defScope (top 22)) .none kV6 dc6 pm6 an6 cd6 ct6), sl6⟩) (c6 : PySem.W.codeIn K cd6 "check_ring" = true) (k6 : PySem.W.keepIn K (.ref f6) = true)
    (n7 : PySem.W.nsIn K mainGlobals "check_spot" = some (some (.ref f7))) (l7 : K.lookup f7 = some ⟨oc7, od7, .func (PySem.W.fnOf "check_spot" "check_spot" (defArgs (top 23)) (defBody (top 23)) (defScope (top 23)) .none kV7 dc7 pm7 an7 cd7 ct7), sl7⟩) (c7 : PySem.W.codeIn K cd7 "check_spot" = true) (k7 : PySem.W.keepIn K (.ref f7) = true)
    (n8 : PySem.W.nsIn K mainGlobals "gap_of" = some (some (.ref f8))) (l8 : K.lookup f8 = some ⟨oc8, od8, .func (PySem.W.fnOf "gap_of" "gap_of" (defArgs (top 24)) (defBody (top 24)) (defScope (top 24)) .none kV8 dc8 pm8 an8 cd8 ct8), sl8⟩) (c8 : PySem.W.codeIn K cd8 "gap_of" = true) (k8 : PySem.W.keepIn K (.ref f8) = true)
    (n9 : PySem.W.nsIn K mainGlobals "_law_cell" = some (some (.ref f9))) (l9 : K.lookup f9 = some ⟨oc9, od9, .func (PySem.W.fnOf "_law_cell" "_law_cell" (defArgs (top 26)) (defBody (top 26)) (defScope (top 26)) .none kV9 dc9 pm9 an9 cd9 ct9), sl9⟩) (c9 : PySem.W.codeIn K cd9 "_law_cell" = true) (k9 : PySem.W.keepIn K (.ref f9) = true)
    (n10 : PySem.W.nsIn K mainGlobals "_law_pen" = some (some (.ref f10))) (l10 : K.lookup f10 = some ⟨oc10, od10, .func (PySem.W.fnOf "_law_pen" "_law_pen" (defArgs (top 27)) (defBody (top 27)) (defScope (top 27)) .none kV10 dc10 pm10 an10 cd10 ct10), sl10⟩) (c10 : PySem.W.codeIn K cd10 "_law_pen" = true) (k10 : PySem.W.keepIn K (.ref f10) = true)
    (n11 : PySem.W.nsIn K mainGlobals "_law_draw" = some (some (.ref f11))) (l11 : K.lookup f11 = some ⟨oc11, od11, .func (PySem.W.fnOf "_law_draw" "_law_draw" (defArgs (top 28)) (defBody (top 28)) (defScope (top 28)) .none kV11 dc11 pm11 an11 cd11 ct11), sl11⟩) (c11 : PySem.W.codeIn K cd11 "_law_draw" = true) (k11 : PySem.W.keepIn K (.ref f11) = true)
    (n12 : PySem.W.nsIn K mainGlobals "_law_whole" = some (some (.ref f12))) (l12 : K.lookup f12 = some ⟨oc12, od12, .func (PySem.W.fnOf "_law_whole" "_law_whole" (defArgs (top 29)) (defBody (top 29)) (defScope (top 29)) .none kV12 dc12 pm12 an12 cd12 ct12), sl12⟩) (c12 : PySem.W.codeIn K cd12 "_law_whole" = true) (k12 : PySem.W.keepIn K (.ref f12) = true)
    (n13 : PySem.W.nsIn K mainGlobals "_law_odd" = some (some (.ref f13))) (l13 : K.lookup f13 = some ⟨oc13, od13, .func (PySem.W.fnOf "_law_odd" "_law_odd" (defArgs (top 30)) (defBody (top 30)) (defScope (top 30)) .none kV13 dc13 pm13 an13 cd13 ct13), sl13⟩) (c13 : PySem.W.codeIn K cd13 "_law_odd" = true) (k13 : PySem.W.keepIn K (.ref f13) = true)
    (n14 : PySem.W.nsIn K mainGlobals "_law_kind" = some (some (.ref f14))) (l14 : K.lookup f14 = some ⟨oc14, od14, .func (PySem.W.fnOf "_law_kind" "_law_kind" (defArgs (top 31)) (defBody (top 31)) (defScope (top 31)) .none kV14 dc14 pm14 an14 cd14 ct14), sl14⟩) (c14 : PySem.W.codeIn K cd14 "_law_kind" = true) (k14 : PySem.W.keepIn K (.ref f14) = true)
    (n15 : PySem.W.nsIn K mainGlobals "_law_ring" = some (some (.ref f15))) (l15 : K.lookup f15 = some ⟨oc15, od15, .func (PySem.W.fnOf "_law_ring" "_law_ring" (defArgs (top 32)) (defBody (top 32)) (defScope (top 32)) .none kV15 dc15 pm15 an15 cd15 ct15), sl15⟩) (c15 : PySem.W.codeIn K cd15 "_law_ring" = true) (k15 : PySem.W.keepIn K (.ref f15) = true)
    (n16 : PySem.W.nsIn K mainGlobals "_law_is_ring" = some (some (.ref f16))) (l16 : K.lookup f16 = some ⟨oc16, od16, .func (PySem.W.fnOf "_law_is_ring" "_law_is_ring" (defArgs (top 33)) (defBody (top 33)) (defScope (top 33)) .none kV16 dc16 pm16 an16 cd16 ct16), sl16⟩) (c16 : PySem.W.codeIn K cd16 "_law_is_ring" = true) (k16 : PySem.W.keepIn K (.ref f16) = true)
    (n17 : PySem.W.nsIn K mainGlobals "_law_bent_ring" = some (some (.ref f17))) (l17 : K.lookup f17 = some ⟨oc17, od17, .func (PySem.W.fnOf "_law_bent_ring" "_law_bent_ring" (defArgs (top 34)) (defBody (top 34)) (defScope (top 34)) .none kV17 dc17 pm17 an17 cd17 ct17), sl17⟩) (c17 : PySem.W.codeIn K cd17 "_law_bent_ring" = true) (k17 : PySem.W.keepIn K (.ref f17) = true)
    (n18 : PySem.W.nsIn K mainGlobals "_law_told" = some (some (.ref f18))) (l18 : K.lookup f18 = some ⟨oc18, od18, .func (PySem.W.fnOf "_law_told" "_law_told" (defArgs (top 35)) (defBody (top 35)) (defScope (top 35)) .none kV18 dc18 pm18 an18 cd18 ct18), sl18⟩) (c18 : PySem.W.codeIn K cd18 "_law_told" = true) (k18 : PySem.W.keepIn K (.ref f18) = true)
    (n19 : PySem.W.nsIn K mainGlobals "_law_is_right" = some (some (.ref f19))) (l19 : K.lookup f19 = some ⟨oc19, od19, .func (PySem.W.fnOf "_law_is_right" "_law_is_right" (defArgs (top 36)) (defBody (top 36)) (defScope (top 36)) .none kV19 dc19 pm19 an19 cd19 ct19), sl19⟩) (c19 : PySem.W.codeIn K cd19 "_law_is_right" = true) (k19 : PySem.W.keepIn K (.ref f19) = true)
    (n20 : PySem.W.nsIn K mainGlobals "_law_steps" = some (some (.ref f20))) (l20 : K.lookup f20 = some ⟨oc20, od20, .func (PySem.W.fnOf "_law_steps" "_law_steps" (defArgs (top 37)) (defBody (top 37)) (defScope (top 37)) .none kV20 dc20 pm20 an20 cd20 ct20), sl20⟩) (c20 : PySem.W.codeIn K cd20 "_law_steps" = true) (k20 : PySem.W.keepIn K (.ref f20) = true)
    (n21 : PySem.W.nsIn K mainGlobals "_law_right" = some (some (.ref f21))) (l21 : K.lookup f21 = some ⟨oc21, od21, .func (PySem.W.fnOf "_law_right" "_law_right" (defArgs (top 38)) (defBody (top 38)) (defScope (top 38)) .none kV21 dc21 pm21 an21 cd21 ct21), sl21⟩) (c21 : PySem.W.codeIn K cd21 "_law_right" = true) (k21 : PySem.W.keepIn K (.ref f21) = true)
    (n22 : PySem.W.nsIn K mainGlobals "law" = some (some (.ref f22))) (l22 : K.lookup f22 = some ⟨oc22, od22, .func (PySem.W.fnOf "law" "law" (defArgs (top 39)) (defBody (top 39)) (defScope (top 39)) .none kV22 dc22 pm22 an22 cd22 ct22), sl22⟩) (c22 : PySem.W.codeIn K cd22 "law" = true) (k22 : PySem.W.keepIn K (.ref f22) = true)
    (cl0 : PySem.W.nsIn K mainGlobals "HueError" = some (some (.ref C0)))
    (cl1 : PySem.W.nsIn K mainGlobals "NoRing" = some (some (.ref C1)))
    (cl2 : PySem.W.nsIn K mainGlobals "NoHues" = some (some (.ref C2)))
    (cl3 : PySem.W.nsIn K mainGlobals "NoPlace" = some (some (.ref C3)))
    (cl4 : PySem.W.nsIn K mainGlobals "NoArrows" = some (some (.ref C4)))
    (cl5 : PySem.W.nsIn K mainGlobals "NoMap" = some (some (.ref C5)))
    (cl6 : PySem.W.nsIn K mainGlobals "NoPaper" = some (some (.ref C6)))
    (cl7 : PySem.W.nsIn K mainGlobals "Apart" = some (some (.ref C7)))
    (cl8 : PySem.W.nsIn K mainGlobals "NoRow" = some (some (.ref C8)))
    (cl9 : PySem.W.nsIn K mainGlobals "NoWeb" = some (some (.ref C9)))
    (cl10 : PySem.W.nsIn K mainGlobals "NoText" = some (some (.ref C10)))
    (cl11 : PySem.W.nsIn K mainGlobals "TooGreat" = some (some (.ref C11)))
    (x1 : PySem.W.excIn K C1 [.type "ValueError", .type "Exception", .type "BaseException", .type "object"] "ValueError.__new__" = true)
    (x2 : PySem.W.excIn K C2 [.type "ValueError", .type "Exception", .type "BaseException", .type "object"] "ValueError.__new__" = true)
    (cs : clssB K [C0, C1, C2, C3, C4, C5, C6, C7, C8, C9, C10, C11] = true)
    (sb0 : subB K [C0, C1, C2, C3, C4, C5, C6, C7, C8, C9, C10, C11] 0 = true)
    (g_MOST_SPOTS : PySem.W.nsIn K mainGlobals "MOST_SPOTS" = some (some (.int 24 t_MOST_SPOTS)))
    (z_ValueError : PySem.W.nsIn K mainGlobals "ValueError" = some none)
    (z_abs : PySem.W.nsIn K mainGlobals "abs" = some none)
    (z_all : PySem.W.nsIn K mainGlobals "all" = some none)
    (z_bool : PySem.W.nsIn K mainGlobals "bool" = some none)
    (z_divmod : PySem.W.nsIn K mainGlobals "divmod" = some none)
    (z_int : PySem.W.nsIn K mainGlobals "int" = some none)
    (z_isinstance : PySem.W.nsIn K mainGlobals "isinstance" = some none)
    (z_len : PySem.W.nsIn K mainGlobals "len" = some none)
    (z_max : PySem.W.nsIn K mainGlobals "max" = some none)
    (z_min : PySem.W.nsIn K mainGlobals "min" = some none)
    (z_range : PySem.W.nsIn K mainGlobals "range" = some none)
    (z_tuple : PySem.W.nsIn K mainGlobals "tuple" = some none) :
    ∃ fd : FuncData, (∀ (s : Shared) (v : Value), BindsTo s fd ⟨[v], []⟩ [("_law_script", v)]) ∧ ∀ base : Heap, K.In base → base.Ns mainGlobals mg → FnOk l.prog w K mg base (CXe l.prog w) true 12 fa fd ["_law_script"] (spLaw K) := by
  have e := hfa.symm.trans (PySem.W.mg_of X G n22)
  cases e

  have Tp : Top K mg (fun n => ([f0, f1, f2, f3, f4, f5, f6, f7, f8, f9, f10, f11, f12, f13, f14, f15, f16, f17, f18, f19, f20, f21, fa] : List Addr).getD n 0) (fun n => ([(PySem.W.fnOf "is_whole" "is_whole" (defArgs (top 14)) (defBody (top 14)) (defScope (top 14)) .none kV0 dc0 pm0 an0 cd0 ct0),
    (PySem.W.fnOf "is_within" "is_within" (defArgs (top 15)) (defBody (top 15)) (defScope (top 15)) .none kV1 dc1 pm1 an1 cd1 ct1),
    (PySem.W.fnOf "is_row" "is_row" (defArgs (top 16)) (defBody (top 16)) (defScope (top 16)) .none kV2 dc2 pm2 an2 cd2 ct2),
    (PySem.W.fnOf "is_ring" "is_ring" (defArgs (top 19)) (defBody (top 19)) (defScope (top 19)) .none kV3 dc3 pm3 an3 cd3 ct3),
    (PySem.W.fnOf "steps_apart" "steps_apart" (defArgs (top 20)) (defBody (top 20)) (defScope (top 20)) .none kV4 dc4 pm4 an4 cd4 ct4),
    (PySem.W.fnOf "is_spot" "is_spot" (defArgs (top 21)) (defBody (top 21)) (defScope (top 21)) .none kV5 dc5 pm5 an5 cd5 ct5),
    (PySem.W.fnOf "check_ring" "check_ring" (defArgs (top 22)) (defBody (top 22)) (defScope (top 22)) .none kV6 dc6 pm6 an6 cd6 ct6),
    (PySem.W.fnOf "check_spot" "check_spot" (defArgs (top 23)) (defBody (top 23)) (defScope (top 23)) .none kV7 dc7 pm7 an7 cd7 ct7),
    (PySem.W.fnOf "gap_of" "gap_of" (defArgs (top 24)) (defBody (top 24)) (defScope (top 24)) .none kV8 dc8 pm8 an8 cd8 ct8),
    (PySem.W.fnOf "_law_cell" "_law_cell" (defArgs (top 26)) (defBody (top 26)) (defScope (top 26)) .none kV9 dc9 pm9 an9 cd9 ct9),
    (PySem.W.fnOf "_law_pen" "_law_pen" (defArgs (top 27)) (defBody (top 27)) (defScope (top 27)) .none kV10 dc10 pm10 an10 cd10 ct10),
    (PySem.W.fnOf "_law_draw" "_law_draw" (defArgs (top 28)) (defBody (top 28)) (defScope (top 28)) .none kV11 dc11 pm11 an11 cd11 ct11),
    (PySem.W.fnOf "_law_whole" "_law_whole" (defArgs (top 29)) (defBody (top 29)) (defScope (top 29)) .none kV12 dc12 pm12 an12 cd12 ct12),
    (PySem.W.fnOf "_law_odd" "_law_odd" (defArgs (top 30)) (defBody (top 30)) (defScope (top 30)) .none kV13 dc13 pm13 an13 cd13 ct13),
    (PySem.W.fnOf "_law_kind" "_law_kind" (defArgs (top 31)) (defBody (top 31)) (defScope (top 31)) .none kV14 dc14 pm14 an14 cd14 ct14),
    (PySem.W.fnOf "_law_ring" "_law_ring" (defArgs (top 32)) (defBody (top 32)) (defScope (top 32)) .none kV15 dc15 pm15 an15 cd15 ct15),
    (PySem.W.fnOf "_law_is_ring" "_law_is_ring" (defArgs (top 33)) (defBody (top 33)) (defScope (top 33)) .none kV16 dc16 pm16 an16 cd16 ct16),
    (PySem.W.fnOf "_law_bent_ring" "_law_bent_ring" (defArgs (top 34)) (defBody (top 34)) (defScope (top 34)) .none kV17 dc17 pm17 an17 cd17 ct17),
    (PySem.W.fnOf "_law_told" "_law_told" (defArgs (top 35)) (defBody (top 35)) (defScope (top 35)) .none kV18 dc18 pm18 an18 cd18 ct18),
    (PySem.W.fnOf "_law_is_right" "_law_is_right" (defArgs (top 36)) (defBody (top 36)) (defScope (top 36)) .none kV19 dc19 pm19 an19 cd19 ct19),
    (PySem.W.fnOf "_law_steps" "_law_steps" (defArgs (top 37)) (defBody (top 37)) (defScope (top 37)) .none kV20 dc20 pm20 an20 cd20 ct20),
    (PySem.W.fnOf "_law_right" "_law_right" (defArgs (top 38)) (defBody (top 38)) (defScope (top 38)) .none kV21 dc21 pm21 an21 cd21 ct21),
    (PySem.W.fnOf "law" "law" (defArgs (top 39)) (defBody (top 39)) (defScope (top 39)) .none kV22 dc22 pm22 an22 cd22 ct22)] : List FuncData).getD n (PySem.W.fnOf "is_whole" "is_whole" (defArgs (top 14)) (defBody (top 14)) (defScope (top 14)) .none kV0 dc0 pm0 an0 cd0 ct0)) (cAof [C0, C1, C2, C3, C4, C5, C6, C7, C8, C9, C10, C11]) := {
    cs := clss_of (Nat.zero_lt_succ _) cs
    f0 := fun_mk l0 c0 k0
    m0 := PySem.W.mg_of X G n0
    b0 := binds1 (fd := (PySem.W.fnOf "is_whole" "is_whole" (defArgs (top 14)) (defBody (top 14)) (defScope (top 14)) .none kV0 dc0 pm0 an0 cd0 ct0)) (fun _ => rfl)
    f1 := fun_mk l1 c1 k1
    m1 := PySem.W.mg_of X G n1
    b1 := binds3 (fd := (PySem.W.fnOf "is_within" "is_within" (defArgs (top 15)) (defBody (top 15)) (defScope (top 15)) .none kV1 dc1 pm1 an1 cd1 ct1)) (fun _ _ _ => rfl)
    f2 := fun_mk l2 c2 k2
    m2 := PySem.W.mg_of X G n2
    b2 := binds2 (fd := (PySem.W.fnOf "is_row" "is_row" (defArgs (top 16)) (defBody (top 16)) (defScope (top 16)) .none kV2 dc2 pm2 an2 cd2 ct2)) (fun _ _ => rfl)
    f3 := fun_mk l3 c3 k3
    m3 := PySem.W.mg_of X G n3
    b3 := binds1 (fd := (PySem.W.fnOf "is_ring" "is_ring" (defArgs (top 19)) (defBody (top 19)) (defScope (top 19)) .none kV3 dc3 pm3 an3 cd3 ct3)) (fun _ => rfl)
    f4 := fun_mk l4 c4 k4
    m4 := PySem.W.mg_of X G n4
    b4 := binds3 (fd := (PySem.W.fnOf "steps_apart" "steps_apart" (defArgs (top 20)) (defBody (top 20)) (defScope (top 20)) .none kV4 dc4 pm4 an4 cd4 ct4)) (fun _ _ _ => rfl)
    f5 := fun_mk l5 c5 k5
    m5 := PySem.W.mg_of X G n5
    b5 := binds2 (fd := (PySem.W.fnOf "is_spot" "is_spot" (defArgs (top 21)) (defBody (top 21)) (defScope (top 21)) .none kV5 dc5 pm5 an5 cd5 ct5)) (fun _ _ => rfl)
    f6 := fun_mk l6 c6 k6
    m6 := PySem.W.mg_of X G n6
    b6 := binds1 (fd := (PySem.W.fnOf "check_ring" "check_ring" (defArgs (top 22)) (defBody (top 22)) (defScope (top 22)) .none kV6 dc6 pm6 an6 cd6 ct6)) (fun _ => rfl)
    f7 := fun_mk l7 c7 k7
    m7 := PySem.W.mg_of X G n7
    b7 := binds2 (fd := (PySem.W.fnOf "check_spot" "check_spot" (defArgs (top 23)) (defBody (top 23)) (defScope (top 23)) .none kV7 dc7 pm7 an7 cd7 ct7)) (fun _ _ => rfl)
    f8 := fun_mk l8 c8 k8
    m8 := PySem.W.mg_of X G n8
    b8 := binds3 (fd := (PySem.W.fnOf "gap_of" "gap_of" (defArgs (top 24)) (defBody (top 24)) (defScope (top 24)) .none kV8 dc8 pm8 an8 cd8 ct8)) (fun _ _ _ => rfl)
    f9 := fun_mk l9 c9 k9
    m9 := PySem.W.mg_of X G n9
    b9 := binds2 (fd := (PySem.W.fnOf "_law_cell" "_law_cell" (defArgs (top 26)) (defBody (top 26)) (defScope (top 26)) .none kV9 dc9 pm9 an9 cd9 ct9)) (fun _ _ => rfl)
    f10 := fun_mk l10 c10 k10
    m10 := PySem.W.mg_of X G n10
    b10 := binds1 (fd := (PySem.W.fnOf "_law_pen" "_law_pen" (defArgs (top 27)) (defBody (top 27)) (defScope (top 27)) .none kV10 dc10 pm10 an10 cd10 ct10)) (fun _ => rfl)
    f11 := fun_mk l11 c11 k11
    m11 := PySem.W.mg_of X G n11
    b11 := binds2 (fd := (PySem.W.fnOf "_law_draw" "_law_draw" (defArgs (top 28)) (defBody (top 28)) (defScope (top 28)) .none kV11 dc11 pm11 an11 cd11 ct11)) (fun _ _ => rfl)
    f12 := fun_mk l12 c12 k12
    m12 := PySem.W.mg_of X G n12
    b12 := binds1 (fd := (PySem.W.fnOf "_law_whole" "_law_whole" (defArgs (top 29)) (defBody (top 29)) (defScope (top 29)) .none kV12 dc12 pm12 an12 cd12 ct12)) (fun _ => rfl)
    f13 := fun_mk l13 c13 k13
    m13 := PySem.W.mg_of X G n13
    b13 := binds1 (fd := (PySem.W.fnOf "_law_odd" "_law_odd" (defArgs (top 30)) (defBody (top 30)) (defScope (top 30)) .none kV13 dc13 pm13 an13 cd13 ct13)) (fun _ => rfl)
    f14 := fun_mk l14 c14 k14
    m14 := PySem.W.mg_of X G n14
    b14 := binds1 (fd := (PySem.W.fnOf "_law_kind" "_law_kind" (defArgs (top 31)) (defBody (top 31)) (defScope (top 31)) .none kV14 dc14 pm14 an14 cd14 ct14)) (fun _ => rfl)
    f15 := fun_mk l15 c15 k15
    m15 := PySem.W.mg_of X G n15
    b15 := binds1 (fd := (PySem.W.fnOf "_law_ring" "_law_ring" (defArgs (top 32)) (defBody (top 32)) (defScope (top 32)) .none kV15 dc15 pm15 an15 cd15 ct15)) (fun _ => rfl)
    f16 := fun_mk l16 c16 k16
    m16 := PySem.W.mg_of X G n16
    b16 := binds1 (fd := (PySem.W.fnOf "_law_is_ring" "_law_is_ring" (defArgs (top 33)) (defBody (top 33)) (defScope (top 33)) .none kV16 dc16 pm16 an16 cd16 ct16)) (fun _ => rfl)
    f17 := fun_mk l17 c17 k17
    m17 := PySem.W.mg_of X G n17
    b17 := binds2 (fd := (PySem.W.fnOf "_law_bent_ring" "_law_bent_ring" (defArgs (top 34)) (defBody (top 34)) (defScope (top 34)) .none kV17 dc17 pm17 an17 cd17 ct17)) (fun _ _ => rfl)
    f18 := fun_mk l18 c18 k18
    m18 := PySem.W.mg_of X G n18
    b18 := binds3 (fd := (PySem.W.fnOf "_law_told" "_law_told" (defArgs (top 35)) (defBody (top 35)) (defScope (top 35)) .none kV18 dc18 pm18 an18 cd18 ct18)) (fun _ _ _ => rfl)
    f19 := fun_mk l19 c19 k19
    m19 := PySem.W.mg_of X G n19
    b19 := binds1 (fd := (PySem.W.fnOf "_law_is_right" "_law_is_right" (defArgs (top 36)) (defBody (top 36)) (defScope (top 36)) .none kV19 dc19 pm19 an19 cd19 ct19)) (fun _ => rfl)
    f20 := fun_mk l20 c20 k20
    m20 := PySem.W.mg_of X G n20
    b20 := binds3 (fd := (PySem.W.fnOf "_law_steps" "_law_steps" (defArgs (top 37)) (defBody (top 37)) (defScope (top 37)) .none kV20 dc20 pm20 an20 cd20 ct20)) (fun _ _ _ => rfl)
    f21 := fun_mk l21 c21 k21
    m21 := PySem.W.mg_of X G n21
    b21 := binds1 (fd := (PySem.W.fnOf "_law_right" "_law_right" (defArgs (top 38)) (defBody (top 38)) (defScope (top 38)) .none kV21 dc21 pm21 an21 cd21 ct21)) (fun _ => rfl)
    f22 := fun_mk l22 c22 k22
    m22 := PySem.W.mg_of X G n22
    b22 := binds1 (fd := (PySem.W.fnOf "law" "law" (defArgs (top 39)) (defBody (top 39)) (defScope (top 39)) .none kV22 dc22 pm22 an22 cd22 ct22)) (fun _ => rfl)
    c0 := PySem.W.mg_of X G cl0
    c1 := PySem.W.mg_of X G cl1
    c2 := PySem.W.mg_of X G cl2
    c3 := PySem.W.mg_of X G cl3
    c4 := PySem.W.mg_of X G cl4
    c5 := PySem.W.mg_of X G cl5
    c6 := PySem.W.mg_of X G cl6
    c7 := PySem.W.mg_of X G cl7
    c8 := PySem.W.mg_of X G cl8
    c9 := PySem.W.mg_of X G cl9
    c10 := PySem.W.mg_of X G cl10
    c11 := PySem.W.mg_of X G cl11
    x1 := x1
    x2 := x2
    s0 := subB_ok (L := [C0, C1, C2, C3, C4, C5, C6, C7, C8, C9, C10, C11]) (Nat.zero_lt_succ _) sb0
    g_MOST_SPOTS := ⟨t_MOST_SPOTS, PySem.W.mg_of X G g_MOST_SPOTS⟩
    z_ValueError := PySem.W.mg_none_of X G z_ValueError
    z_abs := PySem.W.mg_none_of X G z_abs
    z_all := PySem.W.mg_none_of X G z_all
    z_bool := PySem.W.mg_none_of X G z_bool
    z_divmod := PySem.W.mg_none_of X G z_divmod
    z_int := PySem.W.mg_none_of X G z_int
    z_isinstance := PySem.W.mg_none_of X G z_isinstance
    z_len := PySem.W.mg_none_of X G z_len
    z_max := PySem.W.mg_none_of X G z_max
    z_min := PySem.W.mg_none_of X G z_min
    z_range := PySem.W.mg_none_of X G z_range
    z_tuple := PySem.W.mg_none_of X G z_tuple
  }

  exact ⟨(PySem.W.fnOf "law" "law" (defArgs (top 39)) (defBody (top 39)) (defScope (top 39)) .none kV22 dc22 pm22 an22 cd22 ct22), fun s v => .of_eq rfl, fun base _ _ => (fs_all Tp 12).t22.imp (law_imp hm)⟩

end K03

set_option Elab.async false
set_option linter.all false
set_option maxRecDepth 100000
set_option maxHeartbeats 1000000
namespace K03
open PySem L2 It
noncomputable abbrev C (k n : Nat) (ds : List D) (s : S) := call sub T k true n ds s
/-- no exception; a list (or dict) that is there -/
noncomputable def okD (s : S) : D → Prop
  | .exc _ => False
  | .loc n => (∃ xs, s[n]? = some (.lst xs)) ∨ ∃ kvs, s[n]? = some (.dct kvs)
  | .tup xs => flats xs = true
  | _ => True
theorem okD_flat {s : S} {d : D} (h : flat d = true) : okD s d := by
  cases d <;> simp_all [okD, flat]
theorem c0 (k : Nat) (d : D) (s : S) (h : okD s d) : call sub T (k + 1) true 0 [d] s = some (.ok (.bl (isWhole d)), s) := by
  rw [call_of T_0 rfl]
  cases d with
  | exc c => exact h.elim
  | loc n => (rcases h with ⟨xs, h⟩ | ⟨xs, h⟩; exact (by simp [b0, isWhole, isi_lst_int h]); exact (by simp [b0, isWhole, isi_dct_int h]))
  | _ => simp [b0, isWhole]
theorem c12 (k : Nat) (d : D) (s : S) (h : okD s d) : call sub T (k + 1) true 12 [d] s = some (.ok (.bl (isWhole d)), s) := by
  rw [call_of T_12 rfl]
  cases d with
  | exc c => exact h.elim
  | loc n => (rcases h with ⟨xs, h⟩ | ⟨xs, h⟩; exact (by simp [b12, isWhole, isi_lst_int h]); exact (by simp [b12, isWhole, isi_dct_int h]))
  | _ => simp [b12, isWhole]
noncomputable def within (d : D) (a b : Int) : Bool := match d with
  | .int i => decide (a ≤ i) && decide (i ≤ b)
  | _ => false
theorem c1 (k : Nat) (d : D) (a b : Int) (s : S) (h : okD s d) : call sub T (k + 2) true 1 [d, .int a, .int b] s = some (.ok (.bl (within d a b)), s) := by
  rw [call_of T_1 rfl]
  cases d with
  | int i =>
    by_cases h1 : a ≤ i <;> simp [b1, c0 _ _ _ h, isWhole, within, h1]
  | _ => simp [b1, c0 _ _ _ h, isWhole, within]
noncomputable def rowOf (d : D) (m : Int) : Bool := match d with
  | .tup xs => decide ((xs.length : Int) = m)
  | _ => false
theorem c2 (k : Nat) (d : D) (m : Int) (s : S) (h : okD s d) : call sub T (k + 1) true 2 [d, .int m] s = some (.ok (.bl (rowOf d m)), s) := by
  rw [call_of T_2 rfl]
  cases d with
  | exc c => exact h.elim
  | loc n => (rcases h with ⟨xs, h⟩ | ⟨xs, h⟩; exact (by simp [b2, rowOf, isi_lst_tuple h]); exact (by simp [b2, rowOf, isi_dct_tuple h]))
  | tup xs => simp [b2, rowOf]
  | _ => simp [b2, rowOf]
noncomputable def ringD (d : D) : Bool := match d with
  | .tup [x, y] => (match x with | .int k => decide (1 ≤ k) && decide (k ≤ 24) && within y 1 k | _ => false)
  | _ => false
theorem c3 (k : Nat) (d : D) (s : S) (h : okD s d) : call sub T (k + 3) true 3 [d] s = some (.ok (.bl (ringD d)), s) := by
  rw [call_of T_3 rfl]
  cases d with
  | tup xs =>
    match xs, h with
    | [], h => simp [b3, c2 _ _ _ _ h, rowOf, ringD]
    | [x], h => simp [b3, c2 _ _ _ _ h, rowOf, ringD]
    | [x, y], h =>
      have hh : flat x = true ∧ flat y = true := by simpa [okD, flats] using h
      have hx : okD s x := okD_flat hh.1
      have hy : okD s y := okD_flat hh.2
      have er : ringD (.tup [x, y]) = (within x 1 24 && (match x with | .int k => within y 1 k | _ => false)) := by cases x <;> rfl
      rw [er]
      cases hw : within x 1 24 with
      | false => simp [b3, c2 _ _ _ _ h, rowOf, tupOf, setAll, c1 _ _ _ _ _ hx, hw]
      | true =>
        obtain ⟨i, rfl⟩ : ∃ i, x = .int i := by cases x <;> first | exact ⟨_, rfl⟩ | cases hw
        simp [b3, c2 _ _ _ _ h, rowOf, tupOf, setAll, c1 _ _ _ _ _ hx, c1 _ _ _ _ _ hy, hw]
    | x :: y :: z :: r, h =>
      have e : ¬ ((r.length : Int) + 1 + 1 + 1 = 2) := by omega
      simp [b3, c2 _ _ _ _ h, rowOf, ringD, e]
  | _ => simp [b3, c2 _ _ _ _ h, rowOf, ringD]
end K03

set_option Elab.async false
set_option linter.all false
set_option maxRecDepth 100000
set_option maxHeartbeats 1000000
namespace K03
open PySem L2 It
noncomputable def gap (k a b : Int) : Int := if k - (if a - b < 0 then -(a - b) else a - b) < (if a - b < 0 then -(a - b) else a - b) then k - (if a - b < 0 then -(a - b) else a - b) else (if a - b < 0 then -(a - b) else a - b)
theorem c5 (k : Nat) (kk : Int) (y x : D) (s : S) (h : okD s x) : call sub T (k + 3) true 5 [.tup [.int kk, y], x] s = some (.ok (.bl (within x 0 (kk - 1))), s) := by
  rw [call_of T_5 rfl]
  simp [b5, c1 _ _ _ _ _ h]
theorem c6 (k : Nat) (d : D) (s : S) (h : okD s d) : call sub T (k + 4) true 6 [d] s = if ringD d = true then some (.ok .non, s) else some (.er 1, s) := by
  rw [call_of T_6 rfl]
  cases e : ringD d <;> simp [b6, c3 _ _ _ h, e]
theorem c7 (k : Nat) (kk : Int) (y x : D) (s : S) (h : okD s x) : call sub T (k + 4) true 7 [.tup [.int kk, y], x] s = if within x 0 (kk - 1) = true then some (.ok .non, s) else some (.er 2, s) := by
  rw [call_of T_7 rfl]
  cases e : within x 0 (kk - 1) <;> simp [b7, c5 _ _ _ _ _ h, e]
theorem c8 (k : Nat) (kk a b : Int) (y : D) (s : S) : call sub T (k + 1) true 8 [.tup [.int kk, y], .int a, .int b] s = some (.ok (.int (gap kk a b)), s) := by
  rw [call_of T_8 rfl]
  simp [b8, gap]
theorem ring_is {d : D} (h : ringD d = true) : ∃ kk dd : Int, d = .tup [.int kk, .int dd] ∧ 1 ≤ kk ∧ kk ≤ 24 ∧ 1 ≤ dd ∧ dd ≤ kk := by
  unfold ringD at h
  split at h
  · split at h
    · unfold within at h
      split at h
      · simp at h
        exact ⟨_, _, rfl, h.1.1, h.1.2, h.2.1, h.2.2⟩
      · simp at h
    · cases h
  · cases h
theorem c4a (k : Nat) (d x y : D) (s : S) (h : okD s d) (e : ringD d = false) : call sub T (k + 5) true 4 [d, x, y] s = some (.er 1, s) := by
  rw [call_of T_4 rfl]
  simp [b4, c6 _ _ _ h, e]
theorem c4b (k : Nat) (d x y : D) (s : S) (kk dd : Int) (ed : d = .tup [.int kk, .int dd]) (h : okD s d) (hx : okD s x) (e : ringD d = true) (ex : within x 0 (kk - 1) = false) : call sub T (k + 5) true 4 [d, x, y] s = some (.er 2, s) := by
  subst ed
  rw [call_of T_4 rfl]
  simp [b4, c6 _ _ _ h, e, c7 _ _ _ _ _ hx, ex]
theorem c4c (k : Nat) (d x y : D) (s : S) (kk dd : Int) (ed : d = .tup [.int kk, .int dd]) (h : okD s d) (hx : okD s x) (hy : okD s y) (e : ringD d = true) (ex : within x 0 (kk - 1) = true) (ey : within y 0 (kk - 1) = false) : call sub T (k + 5) true 4 [d, x, y] s = some (.er 2, s) := by
  subst ed
  rw [call_of T_4 rfl]
  simp [b4, c6 _ _ _ h, e, c7 _ _ _ _ _ hx, ex, c7 _ _ _ _ _ hy, ey]
theorem c4d (k : Nat) (a b : Int) (s : S) (kk dd : Int) (h : okD s (.tup [.int kk, .int dd])) (e : ringD (.tup [.int kk, .int dd]) = true) (ex : within (.int a) 0 (kk - 1) = true) (ey : within (.int b) 0 (kk - 1) = true) : call sub T (k + 5) true 4 [.tup [.int kk, .int dd], .int a, .int b] s = some (.ok (.int (gap kk a b)), s) := by
  rw [call_of T_4 rfl]
  have hx : okD s (.int a) := trivial
  have hy : okD s (.int b) := trivial
  simp [b4, c6 _ _ _ h, e, c7 _ _ _ _ _ hx, ex, c7 _ _ _ _ _ hy, ey, c8]
theorem sub10 : sub 1 0 = true := rfl
theorem sub20 : sub 2 0 = true := rfl
theorem c14 (k c : Nat) (w : Str) (s : S) (h : (c = 1 ∧ w = "ring") ∨ (c = 2 ∧ w = "hues")) : ∃ g, call sub T (k + 1) false 14 [.exc c] s = some (.ok (.str w), s ++ g) := by
  rw [call_of T_14 rfl]
  rcases h with ⟨rfl, rfl⟩ | ⟨rfl, rfl⟩
  · apply Exists.intro
    simp [b14, It.listOf, allBl, itemsOf, sub, subN, nmN, sizeLine, List.count, List.idxOf?, List.findIdx?_cons]
    rfl
  · apply Exists.intro
    simp [b14, It.listOf, allBl, itemsOf, sub, subN, nmN, sizeLine, List.count, List.idxOf?, List.findIdx?_cons]
    rfl
theorem c18a (k : Nat) (d x y : D) (s : S) (h : okD s d) (e : ringD d = false) : ∃ g, call sub T (k + 6) true 18 [d, x, y] s = some (.ok (.tup [.str "ring", .non]), s ++ g) := by
  obtain ⟨g, eg⟩ := c14 (k + 4) 1 "ring" s (.inl ⟨rfl, rfl⟩)
  refine ⟨g, ?_⟩
  rw [call_of T_18 rfl]
  simp [b18, ex_try, c4a _ _ _ _ _ h e, sub10, sub20, eg, goes]
theorem c18b (k : Nat) (x y : D) (s : S) (kk dd : Int) (hx : okD s x) (hy : okD s y) (e : ringD (.tup [.int kk, .int dd]) = true) (exy : (within x 0 (kk - 1) && within y 0 (kk - 1)) = false) : ∃ g, call sub T (k + 6) true 18 [.tup [.int kk, .int dd], x, y] s = some (.ok (.tup [.str "hues", .non]), s ++ g) := by
  obtain ⟨g, eg⟩ := c14 (k + 4) 2 "hues" s (.inr ⟨rfl, rfl⟩)
  refine ⟨g, ?_⟩
  rw [call_of T_18 rfl]
  have h : okD s (.tup [.int kk, .int dd]) := rfl
  cases ex : within x 0 (kk - 1) with
  | false => simp [b18, ex_try, c4b _ _ _ _ _ _ _ rfl h hx e ex, sub10, sub20, eg, goes]
  | true =>
    have ey : within y 0 (kk - 1) = false := by rw [ex] at exy; simpa using exy
    simp [b18, ex_try, c4c _ _ _ _ _ _ _ rfl h hx hy e ex ey, sub10, sub20, eg, goes]
theorem c18d (k : Nat) (a b : Int) (s : S) (kk dd : Int) (e : ringD (.tup [.int kk, .int dd]) = true) (ex : within (.int a) 0 (kk - 1) = true) (ey : within (.int b) 0 (kk - 1) = true) : call sub T (k + 6) true 18 [.tup [.int kk, .int dd], .int a, .int b] s = some (.ok (.tup [.str "told", .int (gap kk a b)]), s) := by
  rw [call_of T_18 rfl]
  have h : okD s (.tup [.int kk, .int dd]) := rfl
  simp [b18, ex_try, c4d _ _ _ _ _ _ h e ex ey]
/-- the truths of two things -/
theorem truths2 (k : Nat) (x y : D) (s : S) (hx : flat x = true) (hy : flat y = true) : ev sub true (call sub T (k + 1) true) (.comp (.call 12 (.cons (.v 0) .nil)) (.v 0) [] .no) [some (.tup [x, y])] s = some (.ok (.loc s.length), s ++ [.lst [.bl (isWhole x), .bl (isWhole y)]]) := by
  have w12 : ∀ (z : D) (t : S), flat z = true → call sub T (k + 1) true 12 [z] t = some (.ok (.bl (isWhole z)), t) := fun z t hz => c12 k z t (okD_flat hz)
  simp [ev_comp, walk, itemAt, push, w12 _ _ hx, w12 _ _ hy, sizeLine]
theorem all2 (p q : Bool) (s : S) : evBi true .all [.loc s.length] (s ++ [.lst [.bl p, .bl q]]) = some (.ok (.bl (p && q)), s ++ [.lst [.bl p, .bl q]]) := by
  cases p <;> cases q <;> simp [It.listOf, allBl]
/-- the law's own look -/
theorem c16 (k : Nat) (d : D) (s : S) (h : okD s d) : ∃ g, call sub T (k + 2) true 16 [d] s = some (.ok (.bl (ringD d)), s ++ g) := by
  rw [call_of T_16 rfl]
  have no : isiOf sub d .tuple s = some (.ok false, s) → ringD d = false → ∃ g, fin (exs sub true (fun c => call sub T (k + 1) c) b16 [some d] s) = some (.ok (.bl (ringD d)), s ++ g) := fun hi hr => ⟨[], by
    rw [hr]
    simp [b16, hi]⟩
  cases d with
  | exc c => exact h.elim
  | loc n =>
    rcases h with ⟨xs, h⟩ | ⟨xs, h⟩
    · exact no (isi_lst_tuple h) rfl
    · exact no (isi_dct_tuple h) rfl
  | tup xs =>
    by_cases h2 : (xs.length : Int) = 2
    · match xs, h, h2 with
      | [x, y], h, _ =>
        have hh : flat x = true ∧ flat y = true := by simpa [okD, flats] using h
        refine ⟨[.lst [.bl (isWhole x), .bl (isWhole y)]], ?_⟩
        have ht := truths2 k x y s hh.1 hh.2
        have ha := all2 (isWhole x) (isWhole y) s
        have out : (isWhole x && isWhole y) = false → ringD (.tup [x, y]) = false := by
          cases x <;> first | (intro _; rfl) | (cases y <;> intro z <;> first | (simp [ringD, within]; done) | cases z)
        show fin (exs sub true (fun c => call sub T (k + 1) c) b16 [some (.tup [x, y])] s) = _
        cases hw : (isWhole x && isWhole y) with
        | false =>
          rw [hw] at ha
          simp [b16, ht, ha, out hw]
        | true =>
          rw [hw] at ha
          obtain ⟨i, j, rfl, rfl⟩ : ∃ i j, x = .int i ∧ y = .int j := by
            cases x <;> cases y <;> first | exact ⟨_, _, rfl, rfl⟩ | cases hw
          have er : ringD (.tup [.int i, .int j]) = (decide (1 ≤ j) && (decide (j ≤ i) && decide (i ≤ 24))) := by
            by_cases h1 : 1 ≤ j <;> by_cases h2 : j ≤ i <;> by_cases h3 : i ≤ 24 <;> simp [ringD, within, h1, h2, h3]
            omega
          rw [er]
          by_cases h1 : 1 ≤ j <;> by_cases h2 : j ≤ i <;> simp [b16, ht, ha, h1, h2]
      | [], _, h2 => cases h2
      | [x], _, h2 => cases h2
      | x :: y :: z :: r, _, h2 => simp at h2; omega
    · refine ⟨[], ?_⟩
      have er : ringD (.tup xs) = false := by
        match xs, h2 with
        | [x, y], h2 => exact absurd rfl h2
        | [], _ => rfl
        | [x], _ => rfl
        | x :: y :: z :: r, _ => rfl
      rw [er]
      simp [b16, h2]
  | non => exact no rfl rfl
  | bl b => exact no rfl rfl
  | int i => exact no rfl rfl
  | str z => exact no rfl rfl
theorem okD_app {s g : S} {d : D} (h : okD s d) : okD (s ++ g) d := by
  cases d with
  | loc n =>
    rcases h with ⟨xs, h⟩ | ⟨xs, h⟩
    · exact .inl ⟨xs, by rw [List.getElem?_append_left (List.getElem?_eq_some_iff.mp h).1]; exact h⟩
    · exact .inr ⟨xs, by rw [List.getElem?_append_left (List.getElem?_eq_some_iff.mp h).1]; exact h⟩
  | _ => exact h
theorem c19 (k : Nat) (d : D) (s : S) (h : okD s d) : ∃ g, call sub T (k + 4) true 19 [d] s = some (.ok (.bl true), s ++ g) := by
  obtain ⟨g, eg⟩ := c16 (k + 1) d s h
  refine ⟨g, ?_⟩
  rw [call_of T_19 rfl]
  simp [b19, c3 _ _ _ h, c3 _ _ _ (okD_app (g := g) h), eg]
end K03

set_option Elab.async false
set_option linter.all false
set_option maxRecDepth 100000
set_option maxHeartbeats 1000000
namespace K03
open PySem L2 It
noncomputable abbrev stepsC (F : Bool → Fn) : Vs → M Bool := fun τ => M.bd (ev sub true (F true) (.cmp .ne (.v 4) (.v 2)) τ) boolOf
noncomputable abbrev stepsB (F : Bool → Fn) : Vs → MS := fun τ => exs sub true F (.cons (.asg (.nm 4) (.bin .mod (.bin .add (.v 4) (.c (.int 1))) (.v 0))) (.cons (.asg (.nm 3) (.bin .add (.v 3) (.c (.int 1)))) .nil)) τ
/-- the loop's numbers alone -/
noncomputable def stR (k b : Int) : Nat → Int → Int → Option (Int × Int)
  | 0, _, _ => none
  | n + 1, f, h => if h = b then some (f, h) else stR k b n (f + 1) ((h + 1) % k)
theorem steps_loop (F : Bool → Fn) (k a b : Int) (s : S) (kp : 0 < k) : ∀ (n : Nat) (f h f' h' : Int), stR k b n f h = some (f', h') →
    whileS (stepsC F) (stepsB F) n [some (.int k), some (.int a), some (.int b), some (.int f), some (.int h)] s = some (.nx [some (.int k), some (.int a), some (.int b), some (.int f'), some (.int h')], s)
  | 0, f, h, f', h', e => by cases e
  | n + 1, f, h, f', h', e => by
    unfold stR at e
    by_cases hb : h = b
    · rw [if_pos hb] at e
      cases e
      subst hb
      exact while_stop (by simp [stepsC])
    · rw [if_neg hb] at e
      rw [while_step (s1 := s) (s' := s) (τ' := [some (.int k), some (.int a), some (.int b), some (.int (f + 1)), some (.int ((h + 1) % k))]) (by simp [stepsC, hb]) (by simp [stepsB, kp])]
      exact steps_loop F k a b s kp n _ _ _ _ e
noncomputable def stOk (k a b : Int) : Bool := match stR k b 1000 0 a with
  | some (f, _) => decide ((if (k - f) % k < f then (k - f) % k else f) = gap k a b)
  | none => false
theorem st_all : ((List.range 25).all fun k => (List.range k).all fun a => (List.range k).all fun b => stOk k a b) = true := by decide +kernel
theorem st_one {k a b : Int} (hk : k ≤ 24) (ha : 0 ≤ a ∧ a < k) (hb : 0 ≤ b ∧ b < k) : stOk k a b = true := by
  obtain ⟨k, rfl⟩ := Int.eq_ofNat_of_zero_le (show 0 ≤ k by omega)
  obtain ⟨a, rfl⟩ := Int.eq_ofNat_of_zero_le ha.1
  obtain ⟨b, rfl⟩ := Int.eq_ofNat_of_zero_le hb.1
  have h := st_all
  rw [List.all_eq_true] at h
  have h2 := List.all_eq_true.mp (h k (List.mem_range.mpr (by omega))) a (List.mem_range.mpr (Int.ofNat_lt.mp ha.2))
  exact List.all_eq_true.mp h2 b (List.mem_range.mpr (Int.ofNat_lt.mp hb.2))
theorem c20 (kd : Nat) (k a b : Int) (s : S) (hk : k ≤ 24) (ha : 0 ≤ a ∧ a < k) (hb : 0 ≤ b ∧ b < k) : call sub T (kd + 1) true 20 [.int k, .int a, .int b] s = some (.ok (.int (gap k a b)), s) := by
  rw [call_of T_20 rfl]
  have kp : 0 < k := Int.lt_of_le_of_lt ha.1 ha.2
  have h := st_one hk ha hb
  unfold stOk at h
  cases e : stR k b 1000 0 a with
  | none => rw [e] at h; cases h
  | some p =>
    obtain ⟨f, h'⟩ := p
    rw [e] at h
    have eg := of_decide_eq_true h
    show fin (exs sub true _ b20 [some (.int k), some (.int a), some (.int b), none, none] s) = _
    unfold b20
    rw [exs_nx (τ' := [some (.int k), some (.int a), some (.int b), some (.int 0), some (.int a)]) (s' := s) rfl, exs_nx (by rw [ex_wh]; exact steps_loop (fun c => call sub T kd c) k a b s kp 1000 0 a f h' e)]
    rw [exs_rt (d := .int (gap k a b)) (s' := s) (by simp [kp]; simpa using eg)]
    rfl
end K03

set_option Elab.async false
set_option linter.all false
set_option maxRecDepth 100000
set_option maxHeartbeats 1000000
namespace K03
open PySem L2 It
theorem within_i {a k : Int} (h0 : 0 ≤ a) (h1 : a < k) : within (.int a) 0 (k - 1) = true := by
  simp [within]; omega
theorem c21 (kd : Nat) (k d : Int) (s : S) (e : ringD (.tup [.int k, .int d]) = true) : RW (call sub T (kd + 7) true 21 [.tup [.int k, .int d]] s) fun v s' => v = .bl true ∧ s' = s := by
  obtain ⟨k', d', ed, hk1, hk2, hd1, hd2⟩ := ring_is e
  cases ed
  refine w_call T_21 rfl ?_
  show W (exs sub true _ b21 [some (.tup [.int k, .int d]), none, none, none, none] s) _
  unfold b21
  have kn : ((k.toNat : Nat) : Int) = k := by omega
  have hz : -(2 ^ 62) < k ∧ k < 2 ^ 62 := by omega
  refine w_cons (w_rg (n := k) (fun _ τ s' => s' = s ∧ ∃ x y z w, τ = [some (.tup [.int k, .int d]), x, y, z, w]) ⟨_, _, by simp, rfl, rfl, _, _, _, _, rfl⟩ hz ?_ ?_)
  · rintro i τ s' hi ⟨rfl, x, y, z, w, rfl⟩
    refine w_turn (w_cons (w_rg (n := k) (fun _ τ s2 => s2 = s' ∧ ∃ y z w, τ = [some (.tup [.int k, .int d]), some (.int i), y, z, w]) ⟨_, _, by simp, rfl, rfl, _, _, _, rfl⟩ hz ?_ ?_))
    · rintro j τ s2 hj ⟨rfl, y, z, w, rfl⟩
      have ha : 0 ≤ (i : Int) ∧ (i : Int) < k := by omega
      have hb : 0 ≤ (j : Int) ∧ (j : Int) < k := by omega
      refine w_turn ⟨.nx [some (.tup [.int k, .int d]), some (.int i), some (.int j), some (.str "told"), some (.int (gap k i j))], s2, ?_, _, rfl, rfl, _, _, _, rfl⟩
      simp [c18d _ _ _ _ _ _ e (within_i ha.1 ha.2) (within_i hb.1 hb.2), tupOf, setAll, c12 _ (.int (gap k i j)) _ trivial, isWhole, c20 _ _ _ _ _ hk2 ha hb]
    · rintro τ s2 ⟨rfl, y, z, w, rfl⟩
      exact w_nil ⟨_, rfl, rfl, _, _, _, _, rfl⟩
  · rintro τ s2 ⟨rfl, x, y, z, w, rfl⟩
    exact w_cons (w_ret (ew_c ⟨rfl, rfl⟩))
/-! ### pens -/
noncomputable def Pn (s : S) (p : Nat) (l f : Int) : Prop := s[p]? = some (.lst [.int l, .int f]) ∧ 0 ≤ l
theorem Pn.set {s : S} {p : Nat} {l f l' : Int} (h : Pn s p l f) (h0 : 0 ≤ l') : Pn (s.set p (.lst [.int l', .int f])) p l' f := ⟨List.getElem?_set_self (List.getElem?_eq_some_iff.mp h.1).1, h0⟩
theorem c11 (k : Nat) (p : Nat) (l f m : Int) (s : S) (h : Pn s p l f) (h0 : 0 < m) (h1 : m < 1073741824) : RW (call sub T (k + 1) true 11 [.loc p, .int m] s) fun v s' => ∃ r l' : Int, v = .int r ∧ 0 ≤ r ∧ r < m ∧ 0 ≤ l' ∧ s' = s.set p (.lst [.int l', .int f]) := by
  obtain ⟨hp, hl⟩ := h
  have hlt : p < s.length := (List.getElem?_eq_some_iff.mp hp).1
  rw [call_of T_11 rfl]
  by_cases hf : f = 1
  · subst hf
    refine ⟨.int (l % m), s.set p (.lst [.int (l / m), .int 1]), ?_, l % m, l / m, rfl, Int.emod_nonneg _ (by omega), Int.emod_lt_of_pos _ h0, Int.ediv_nonneg hl (by omega), rfl⟩
    simp [b11, itemsOf_lst hp, h0, h1, tupOf, setAll, store, listOf_lst hp, L2.ixN]
  · let u : Int := (l % 2147483647 + 40503) * 69621 % 2147483629
    have hu0 : 0 ≤ u := Int.emod_nonneg _ (by decide)
    have hu1 : u < 2147483629 := Int.emod_lt_of_pos _ (by decide)
    have hu : (-18446744073709551616 < u ∧ u < 18446744073709551616) := by omega
    let w : Int := (u * u + 7817) % 2147483587
    let z : Int := (w * 48271 + 11) % 2147483629
    have hz0 : 0 ≤ z := Int.emod_nonneg _ (by decide)
    refine ⟨.int (z / 32 % m), s.set p (.lst [.int z, .int f]), ?_, z / 32 % m, z, rfl, Int.emod_nonneg _ (by omega), Int.emod_lt_of_pos _ h0, hz0, rfl⟩
    have hps : (s.set p (.lst [.int z, .int f]))[p]? = some (.lst [.int z, .int f]) := List.getElem?_set_self hlt
    have hu' : (-18446744073709551616 < (l % 2147483647 + 40503) * 69621 % 2147483629 ∧ (l % 2147483647 + 40503) * 69621 % 2147483629 < 18446744073709551616) := hu
    have hi : itemsOf (.loc p) (s.set p (.lst [.int z, .int f])) = some (.ok [.int z, .int f], s.set p (.lst [.int z, .int f])) := itemsOf_lst hps
    simp only [z, w, u] at hi
    simp [b11, itemsOf_lst hp, hf, store, listOf_lst hp, L2.ixN, hu', hi, h0, z, w, u]
end K03

set_option Elab.async false
set_option linter.all false
set_option maxRecDepth 100000
set_option maxHeartbeats 1000000
namespace K03
open PySem L2 It
/-- the pen at p was used, and more was laid behind -/
noncomputable def PS (s : S) (p : Nat) (f : Int) (s' : S) : Prop := ∃ l' g, (0 : Int) ≤ l' ∧ s' = s.set p (.lst [.int l', .int f]) ++ g
section
variable {s s1 s2 : S} {p : Nat} {l f : Int}
theorem Pn.lt (h : Pn s p l f) : p < s.length := (List.getElem?_eq_some_iff.mp h.1).1
theorem PS.pn (h : Pn s p l f) (x : PS s p f s1) : ∃ l', Pn s1 p l' f := by
  obtain ⟨l', g, h0, rfl⟩ := x
  refine ⟨l', ?_, h0⟩
  rw [List.getElem?_append_left (by rw [List.length_set]; exact h.lt)]
  exact List.getElem?_set_self h.lt
theorem PS.refl (h : Pn s p l f) : PS s p f s := ⟨l, [], h.2, by
  obtain ⟨hl, e⟩ := List.getElem?_eq_some_iff.mp h.1
  rw [List.append_nil, ← e, List.set_getElem_self]⟩
theorem PS.app (x : PS s p f s1) (g : S) : PS s p f (s1 ++ g) := by
  obtain ⟨l', g', h0, rfl⟩ := x
  exact ⟨l', g' ++ g, h0, by rw [List.append_assoc]⟩
theorem PS.trans (h : Pn s p l f) (x : PS s p f s1) (y : PS s1 p f s2) : PS s p f s2 := by
  obtain ⟨l', g', h0, rfl⟩ := x
  obtain ⟨l2, g2, h2, rfl⟩ := y
  refine ⟨l2, g' ++ g2, h2, ?_⟩
  rw [List.set_append_left _ _ (by rw [List.length_set]; exact h.lt), List.set_set, List.append_assoc]
theorem PS.get (x : PS s p f s1) {n : Nat} {o : SO} (hn : n ≠ p) (h : s[n]? = some o) : s1[n]? = some o := by
  obtain ⟨l', g', h0, rfl⟩ := x
  rw [List.getElem?_append_left (by rw [List.length_set]; exact (List.getElem?_eq_some_iff.mp h).1), List.getElem?_set_ne (Ne.symm hn)]
  exact h
theorem draw (k : Nat) {m : Int} (h : Pn s p l f) (h0 : 0 < m) (h1 : m < 1073741824) : RW (call sub T (k + 1) true 11 [.loc p, .int m] s) fun v s' => ∃ r : Int, v = .int r ∧ 0 ≤ r ∧ r < m ∧ PS s p f s' :=
  rw_imp (c11 k p l f m s h h0 h1) fun v s' ⟨r, l', e1, e2, e3, e4, e5⟩ => ⟨r, e1, e2, e3, l', [], e4, by rw [List.append_nil]; exact e5⟩
end
theorem ix_mem {xs : List D} {r : Int} (h0 : 0 ≤ r) (h1 : r < xs.length) : ∃ d, ixAt xs r = some d ∧ d ∈ xs := by
  rw [ixAt_nat xs r h0 h1]
  have hl : r.toNat < xs.length := by omega
  exact ⟨xs[r.toNat], List.getElem?_eq_getElem hl, List.getElem_mem hl⟩
theorem c10 (k : Nat) (c : Int) (s : S) : ∃ l f : Int, 0 ≤ l ∧ call sub T (k + 1) true 10 [.int c] s = some (.ok (.loc s.length), s ++ [.lst [.int l, .int f]]) := by
  refine ⟨if 0 - c > c then 0 - c else c, if (1000000000000000000 : Int) ≤ (if 0 - c > c then 0 - c else c) then 1 else 0, by split <;> omega, ?_⟩
  rw [call_of T_10 rfl]
  simp [b10]
noncomputable def ringsL : List D := [.tup [.int 2, .int 1], .tup [.int 3, .int 1], .tup [.int 5, .int 2], .tup [.int 4, .int 1], .tup [.int 7, .int 3], .tup [.int 7, .int 2], .tup [.int 4, .int 2], .tup [.int 6, .int 2], .tup [.int 10, .int 4], .tup [.int 5, .int 1], .tup [.int 8, .int 3], .tup [.int 3, .int 2]]
theorem ringsL_ok : ∀ d ∈ ringsL, ringD d = true := by
  intro d hd
  simp only [ringsL, List.mem_cons, List.not_mem_nil, or_false] at hd
  rcases hd with rfl | rfl | rfl | rfl | rfl | rfl | rfl | rfl | rfl | rfl | rfl | rfl <;> rfl
theorem c15 (k : Nat) {p : Nat} {l f : Int} {s : S} (h : Pn s p l f) : RW (call sub T (k + 2) true 15 [.loc p] s) fun v s' => ringD v = true ∧ PS s p f s' := by
  refine w_call T_15 rfl ?_
  show W (exs sub true _ b15 [some (.loc p), none, none] s) _
  unfold b15
  refine w_cons (w_nm ⟨.loc s.length, s ++ [.lst ringsL], by simp [ringsL], ?_⟩)
  have x1 : PS s p f (s ++ [.lst ringsL]) := (PS.refl h).app _
  obtain ⟨l1, h1⟩ := x1.pn h
  have hn : s.length ≠ p := Nat.ne_of_gt h.lt
  have g1 : (s ++ [SO.lst ringsL])[s.length]? = some (.lst ringsL) := by simp
  refine w_cons (w_if (ew_cmp (ew_call (ds := [.loc p, .int 6]) (s1 := s ++ [.lst ringsL]) (by simp) (rw_imp (draw k h1 (by decide) (by decide)) ?_))))
  rintro v s2 ⟨r, rfl, r0, r1, x2⟩
  obtain ⟨l2, h2⟩ := x2.pn h1
  refine ew_c ⟨decide (r = 0), by simp [], decide (r = 0), rfl, ?_⟩
  by_cases hr : r = 0
  · rw [if_pos (by simp [hr])]
    refine w_cons (w_nm (ew_bin (ew_c (ew_call (ds := [.loc p, .int 24]) (s1 := s2) (by simp) (rw_imp (draw k h2 (by decide) (by decide)) ?_)))))
    rintro v s3 ⟨r2, rfl, r20, r21, x3⟩
    obtain ⟨l3, h3⟩ := x3.pn h2
    refine ⟨.int (1 + r2), s3, rfl, ?_⟩
    refine w_cons (w_ret (ew_tup (ews_cons (ew_v (d := .int (1 + r2)) rfl (ews_cons (ew_bi (ews_cons (ew_bin (ew_c (ew_call (ds := [.loc p, .int (1 + r2)]) (s1 := s3) (by simp) (rw_imp (draw k h3 (by omega) (by omega)) ?_)))))))))))
    rintro v s4 ⟨r3, rfl, r30, r31, x4⟩
    refine ⟨.int (1 + r3), s4, rfl, ?_⟩
    refine ⟨[.int ((1 + r2) / 3 * (if 10 < 1 + r2 then 1 else 0))], s4, ?_, ?_⟩
    · by_cases h10 : 10 < 1 + r2
      · simp [h10]
      · simp [h10]
    · refine ⟨.int (if (1 + r2) / 3 * (if 10 < 1 + r2 then 1 else 0) > 1 + r3 then (1 + r2) / 3 * (if 10 < 1 + r2 then 1 else 0) else 1 + r3), s4, rfl, ?_⟩
      refine ews_nil ⟨?_, PS.trans h (PS.trans h x1 x2) (PS.trans h2 x3 x4)⟩
      have hd : (1 + r2) / 3 ≤ 1 + r2 := by omega
      simp only [ringD, within]
      split <;> split <;> simp <;> omega
  · rw [if_neg (by simp [hr])]
    refine w_nil ?_
    refine w_cons (w_ret (ew_ix (ew_v (d := .loc s.length) rfl (ew_call (ds := [.loc p, .int 12]) (s1 := s2) (by simp) (rw_imp (draw k h2 (by decide) (by decide)) ?_)))))
    rintro v s3 ⟨r2, rfl, r20, r21, x3⟩
    obtain ⟨d, ed, hd⟩ := ix_mem (xs := ringsL) r20 r21
    exact ⟨r2, ringsL, d, rfl, itemsOf_lst (x3.get hn (x2.get hn g1)), ed, ringsL_ok d hd, PS.trans h (PS.trans h x1 x2) x3⟩
end K03

set_option Elab.async false
set_option linter.all false
set_option maxRecDepth 100000
set_option maxHeartbeats 1000000
namespace K03
open PySem L2 It
theorem c17 (k : Nat) {p : Nat} {l f : Int} {s : S} (h : Pn s p l f) (kk dd : Int) : RW (call sub T (k + 2) true 17 [.loc p, .tup [.int kk, .int dd]] s) fun v s' => okD s' v ∧ PS s p f s' := by
  refine w_call T_17 rfl ?_
  show W (exs sub true _ b17 [some (.loc p), some (.tup [.int kk, .int dd]), none, none, none] s) _
  unfold b17
  refine w_cons (w_tp ⟨.tup [.int kk, .int dd], s, rfl, _, _, rfl, rfl, ?_⟩)
  have hlt := h.lt
  have hn : s.length ≠ p := Nat.ne_of_gt h.lt
  let L1 : List D := [.tup [.int kk, .int (kk + 1)], .tup [.int 0, .int 0], .tup [.int 25, .int 1], .tup [.int kk, .int 0], .tup [.bl true, .int 1], .tup [.int kk, .int dd, .int 1], .loc s.length, .tup [.int kk], .non]
  let L2 : List D := [.tup [.int dd, .int kk], .str "5/2", .tup [.int (0 - kk), .int dd]]
  refine w_cons (w_nm ⟨.loc (s.length + 1), s ++ [.lst [.int kk, .int dd], .lst L1], by simp [L1], ?_⟩)
  refine w_cons (w_ret (ew_ix ⟨.loc (s.length + 3), s ++ [.lst [.int kk, .int dd], .lst L1, .lst L2, .lst (L1 ++ L2)], by simp [L1, L2, It.listOf, sizeLine], ?_⟩))
  have x1 : PS s p f (s ++ [.lst [.int kk, .int dd], .lst L1, .lst L2, .lst (L1 ++ L2)]) := (PS.refl h).app _
  obtain ⟨l1, h1⟩ := x1.pn h
  refine ew_call (ds := [.loc p, .int 12]) (s1 := s ++ [.lst [.int kk, .int dd], .lst L1, .lst L2, .lst (L1 ++ L2)]) (by simp) (rw_imp (draw k h1 (by decide) (by decide)) ?_)
  rintro v s3 ⟨r, rfl, r0, r1, x3⟩
  obtain ⟨d, ed, hd⟩ := ix_mem (xs := L1 ++ L2) r0 r1
  refine ⟨r, L1 ++ L2, d, rfl, itemsOf_lst (x3.get (by omega) (by simp)), ed, ?_, PS.trans h x1 x3⟩
  have g0 : s3[s.length]? = some (.lst [.int kk, .int dd]) := x3.get hn (by simp)
  simp only [L1, L2, List.mem_append, List.mem_cons, List.not_mem_nil, or_false] at hd
  rcases hd with (rfl | rfl | rfl | rfl | rfl | rfl | rfl | rfl | rfl) | (rfl | rfl | rfl) <;> first | exact trivial | exact rfl | exact .inl ⟨_, g0⟩
theorem c13 (k : Nat) {p : Nat} {l f : Int} {s : S} (h : Pn s p l f) : RW (call sub T (k + 2) true 13 [.loc p] s) fun v s' => okD s' v ∧ PS s p f s' := by
  refine w_call T_13 rfl ?_
  show W (exs sub true _ b13 [some (.loc p), none] s) _
  unfold b13
  have hlt := h.lt
  let L1 : List D := [.non, .bl true, .bl false, .int (-1), .str "1", .str "", .tup [], .loc s.length, .tup [.int 0], .loc (s.length + 1), .loc (s.length + 2), .tup [.int 0, .int 1], .int 1000000000000000000000000000000, .tup [.int 0, .tup []], .tup [.str "ab"]]
  let L2 : List D := [.tup [.int 1, .tup [.tup [.int 0, .int 0]]]]
  let g : S := [.lst [], .lst [.int 0], .dct [("a", .int 1)], .lst L1, .lst L2, .lst (L1 ++ L2)]
  refine w_cons (w_nm ⟨.loc (s.length + 3), s ++ [.lst [], .lst [.int 0], .dct [("a", .int 1)], .lst L1], by simp [L1], ?_⟩)
  refine w_cons (w_ret (ew_ix ⟨.loc (s.length + 5), s ++ g, by simp [L1, L2, g, It.listOf, sizeLine], ?_⟩))
  have x1 : PS s p f (s ++ g) := (PS.refl h).app _
  obtain ⟨l1, h1⟩ := x1.pn h
  refine ew_call (ds := [.loc p, .int 16]) (s1 := s ++ g) (by simp) (rw_imp (draw k h1 (by decide) (by decide)) ?_)
  rintro v s3 ⟨r, rfl, r0, r1, x3⟩
  obtain ⟨d, ed, hd⟩ := ix_mem (xs := L1 ++ L2) r0 r1
  refine ⟨r, L1 ++ L2, d, rfl, itemsOf_lst (x3.get (by omega) (by simp [g])), ed, ?_, PS.trans h x1 x3⟩
  have g0 : s3[s.length]? = some (.lst []) := x3.get (by omega) (by simp [g])
  have g1 : s3[s.length + 1]? = some (.lst [.int 0]) := x3.get (by omega) (by simp [g])
  have g2 : s3[s.length + 2]? = some (.dct [("a", .int 1)]) := x3.get (by omega) (by simp [g])
  simp only [L1, L2, List.mem_append, List.mem_cons, List.not_mem_nil, or_false] at hd
  rcases hd with (rfl | rfl | rfl | rfl | rfl | rfl | rfl | rfl | rfl | rfl | rfl | rfl | rfl | rfl | rfl) | rfl <;> first | exact trivial | exact rfl | exact .inl ⟨_, g0⟩ | exact .inl ⟨_, g1⟩ | exact .inr ⟨_, g2⟩
end K03

set_option Elab.async false
set_option linter.all false
set_option maxRecDepth 100000
set_option maxHeartbeats 1000000
namespace K03
open PySem L2 It
theorem okD_PS {s s' : S} {p : Nat} {l f : Int} {d : D} (hp : Pn s p l f) (x : PS s p f s') (h : okD s d) : okD s' d := by
  cases d with
  | loc n =>
    by_cases hn : n = p
    · subst hn
      obtain ⟨l', h'⟩ := x.pn hp
      exact .inl ⟨_, h'.1⟩
    · rcases h with ⟨xs, h⟩ | ⟨xs, h⟩
      · exact .inl ⟨xs, x.get hn h⟩
      · exact .inr ⟨xs, x.get hn h⟩
  | _ => exact h
theorem c9 (k : Nat) (ns : List Int) (s : S) (h : s[0]? = some (.ro (ns.map D.int))) : ∃ c, call sub T (k + 1) true 9 [.loc 0, .int 0] s = some (.ok (.int c), s) := by
  rw [call_of T_9 rfl]
  cases ns with
  | nil => exact ⟨0, by simp [b9, lenOf_ro h]⟩
  | cons c r =>
    refine ⟨c, ?_⟩
    have e : (0 : Int) < (r.length : Int) + 1 := by omega
    have h2 : s[0]? = some (.ro (.int c :: r.map D.int)) := h
    simp [b9, lenOf_ro h, e, itemsOf_ro h2]
noncomputable def thL : List D := [.tup [.int 1, .int 1], .tup [.int 2, .int 1], .tup [.int 24, .int 24], .tup [.int 25, .int 1], .tup [.int 3, .int 4], .tup [.int 0, .int 0], .tup [.int 1, .int 0], .tup [.bl true, .int 1], .loc 1, .tup [.int 2], .tup [.int 2, .int 1, .int 1], .non]
noncomputable def thM : List D := [.tup [.int 5, .int 2], .str "5/2", .tup [.int 24, .int 1]]
/-- one thing after the other is looked at -/
theorem look_things (kd : Nat) {s : S} {τ : Vs} {t : Nat} {d : D} (h : okD s d) (hτ : τ[t]? = some (some d)) : ∃ g, W (ex sub true (fun c => call sub T (kd + 7) c) (.iff (.not (.call 19 (.cons (.v t) .nil))) (.cons (.ret (.c (.bl false))) .nil) .nil) τ s) fun o s' => o = .nx τ ∧ s' = s ++ g := by
  obtain ⟨g, eg⟩ := c19 (kd + 3) d s h
  refine ⟨g, w_if (ew_not (ew_call (ds := [d]) (s1 := s) (by simp [hτ]) ⟨_, _, eg, true, rfl, false, rfl, ?_⟩))⟩
  rw [if_neg (by decide)]
  exact w_nil ⟨rfl, rfl⟩
theorem told_none (kd : Nat) {s : S} {τ : Vs} {t : Nat} {d : D} (h : okD s d) (hτ : τ[t]? = some (some d)) : ∃ g, W (ex sub true (fun c => call sub T (kd + 7) c) (.iff (.and (.not (.call 16 (.cons (.v t) .nil))) (.cmp .ne (.call 18 (.cons (.v t) (.cons (.c .non) (.cons (.c .non) .nil)))) (.tup (.cons (.c (.str "ring")) (.cons (.c .non) .nil))))) (.cons (.ret (.c (.bl false))) .nil) .nil) τ s) fun o s' => o = .nx τ ∧ s' = s ++ g := by
  obtain ⟨g, eg⟩ := c16 (kd + 5) d s h
  cases er : ringD d with
  | true =>
    refine ⟨g, w_if (ew_and (ew_not (ew_call (ds := [d]) (s1 := s) (by simp [hτ]) ⟨_, _, eg, ringD d, rfl, !(ringD d), rfl, ?_, ?_⟩)))⟩
    · rw [er]; intro z; cases z
    · intro _
      refine ⟨false, rfl, ?_⟩
      rw [if_neg (by decide)]
      exact w_nil ⟨rfl, rfl⟩
  | false =>
    obtain ⟨g2, eg2⟩ := c18a (kd + 1) d .non .non (s ++ g) (okD_app h) er
    refine ⟨g ++ g2, w_if (ew_and (ew_not (ew_call (ds := [d]) (s1 := s) (by simp [hτ]) ⟨_, _, eg, ringD d, rfl, !(ringD d), rfl, ?_, ?_⟩)))⟩
    · intro _
      refine ew_cmp (ew_call (ds := [d, .non, .non]) (s1 := s ++ g) (by simp [hτ]) ⟨_, _, eg2, ?_⟩)
      refine ⟨.tup [.str "ring", .non], _, rfl, false, by simp [], false, rfl, ?_⟩
      rw [if_neg (by decide)]
      exact w_nil ⟨rfl, by rw [List.append_assoc]⟩
    · rw [er]; intro z; cases z
theorem told_bad (kd : Nat) {s : S} {τ : Vs} {d : D} {kk dd : Int} (e : ringD (.tup [.int kk, .int dd]) = true) (hf : flat d = true) (hw : within d 0 (kk - 1) = false) (h5 : τ[5]? = some (some (.tup [.int kk, .int dd]))) (h6 : τ[6]? = some (some d)) :
    ∃ g, W (ex sub true (fun c => call sub T (kd + 7) c) (.iff (.or (.cmp .ne (.call 18 (.cons (.v 5) (.cons (.v 6) (.cons (.c (.int 0)) .nil)))) (.tup (.cons (.c (.str "hues")) (.cons (.c .non) .nil)))) (.cmp .ne (.call 18 (.cons (.v 5) (.cons (.c (.int 0)) (.cons (.v 6) .nil)))) (.tup (.cons (.c (.str "hues")) (.cons (.c .non) .nil))))) (.cons (.ret (.c (.bl false))) .nil) .nil) τ s) fun o s' => o = .nx τ ∧ s' = s ++ g := by
  obtain ⟨g, eg⟩ := c18b (kd + 1) d (.int 0) s kk dd (okD_flat hf) trivial e (by rw [hw]; rfl)
  obtain ⟨g2, eg2⟩ := c18b (kd + 1) (.int 0) d (s ++ g) kk dd trivial (okD_flat hf) e (by rw [hw, Bool.and_false])
  refine ⟨g ++ g2, w_if (ew_or (ew_cmp (ew_call (ds := [.tup [.int kk, .int dd], d, .int 0]) (s1 := s) (by simp [h5, h6]) ⟨_, _, eg, ⟨.tup [.str "hues", .non], _, rfl, false, by simp [], false, rfl, ?_, ?_⟩⟩)))⟩
  · intro _
    refine ew_cmp (ew_call (ds := [.tup [.int kk, .int dd], .int 0, d]) (s1 := s ++ g) (by simp [h5, h6]) ⟨_, _, eg2, ⟨.tup [.str "hues", .non], _, rfl, false, by simp [], false, rfl, ?_⟩⟩)
    rw [if_neg (by decide)]
    exact w_nil ⟨rfl, by rw [List.append_assoc]⟩
  · intro z; cases z
end K03

set_option Elab.async false
set_option linter.all false
set_option maxRecDepth 100000
set_option maxHeartbeats 2000000
namespace K03
open PySem L2 It
theorem pen_back {s s' : S} {l f : Int} (x : PS (s ++ [.lst [.int l, .int f]]) s.length f s') : ∃ g, s' = s ++ g := by
  obtain ⟨l', g, _, rfl⟩ := x
  refine ⟨[.lst [.int l', .int f]] ++ g, ?_⟩
  rw [List.set_append_right _ _ (Nat.le_refl _), Nat.sub_self, List.append_assoc]
  rfl
theorem law_true (ns : List Int) (hl : ns.length ≤ 63) : ∃ s', call sub T 12 true 22 [.loc 0] [.ro (ns.map D.int)] = some (.ok (.bl true), s') := by
  have key : RW (call sub T (11 + 1) true 22 [.loc 0] [.ro (ns.map D.int)]) fun v _ => v = .bl true := by
    refine w_call T_22 rfl ?_
    show W (exs sub true (fun c => call sub T (4 + 7) c) b22 [some (.loc 0), none, none, none, none, none, none] [.ro (ns.map D.int)]) _
    unfold b22
    refine w_cons (w_nm ⟨.loc 2, [.ro (ns.map D.int), .lst [.int 2, .int 1], .lst thL], by simp [thL], ?_⟩)
    let s1 : S := [.ro (ns.map D.int), .lst [.int 2, .int 1], .lst thL, .lst thM, .lst (thL ++ thM)]
    refine w_cons (w_fr (thL ++ thM) (.loc 4) (fun _ τ s => ∃ g x, s = s1 ++ g ∧ τ = [some (.loc 0), some (.loc 2), x, none, none, none, none]) ⟨.loc 4, s1, by simp [s1, thL, thM, It.listOf, sizeLine], rfl, by simp [s1, lenOf], [], none, by simp, rfl⟩ ?_ ?_ ?_)
    · rintro i τ s _ ⟨g, x, rfl, rfl⟩
      exact itemAt_lst rfl
    · rintro i d τ s hd ⟨g, x, rfl, rfl⟩
      have hm : d ∈ thL ++ thM := List.mem_of_getElem? hd
      have ok : okD (s1 ++ g) d := by
        simp only [thL, thM, List.mem_append, List.mem_cons, List.not_mem_nil, or_false] at hm
        rcases hm with (rfl | rfl | rfl | rfl | rfl | rfl | rfl | rfl | rfl | rfl | rfl | rfl) | (rfl | rfl | rfl) <;> first | exact trivial | exact rfl | exact .inl ⟨[.int 2, .int 1], rfl⟩
      obtain ⟨g2, w2⟩ := look_things 4 (t := 2) (τ := [some (.loc 0), some (.loc 2), some d, none, none, none, none]) ok rfl
      refine w_turn (w_cons (w_imp w2 ?_))
      rintro o s' ⟨rfl, rfl⟩
      exact w_nil ⟨_, rfl, g ++ g2, some d, by rw [List.append_assoc], rfl⟩
    · rintro τ s ⟨g, x, rfl, rfl⟩
      have h0 : (s1 ++ g)[0]? = some (.ro (ns.map D.int)) := rfl
      generalize hs : s1 ++ g = s at h0
      clear hs
      obtain ⟨c0, e9⟩ := c9 10 ns s h0
      have hi0 : ∀ t : S, itemsOf (.loc 0) (s ++ t) = some (.ok (ns.map D.int), s ++ t) := fun t => itemsOf_ro (by rw [List.getElem?_append_left (List.getElem?_eq_some_iff.mp h0).1]; exact h0)
      have hcut : (cut (ns.map D.int) (some 1) (some 6)).length ≤ 63 := by
        unfold cut
        rw [List.length_take, List.length_drop, List.length_map]
        omega
      have hall : ∀ d ∈ D.int c0 :: cut (ns.map D.int) (some 1) (some 6), ∃ c, d = .int c := by
        intro d hd
        rcases List.mem_cons.mp hd with rfl | hd
        · exact ⟨_, rfl⟩
        · have z := List.mem_of_mem_drop (List.mem_of_mem_take hd)
          obtain ⟨c, _, rfl⟩ := List.mem_map.mp z
          exact ⟨c, rfl⟩
      generalize hcs : cut (ns.map D.int) (some 1) (some 6) = cs at hcut hall
      let s2 : S := s ++ [.lst [.int c0], .lst cs, .lst (.int c0 :: cs)]
      refine w_cons (w_fr (.int c0 :: cs) (.loc (s.length + 2)) (fun _ τ s' => ∃ g x2 x3 x4 x5 x6, s' = s2 ++ g ∧ τ = [some (.loc 0), some (.loc 2), x2, x3, x4, x5, x6]) ⟨.loc (s.length + 2), s2, ?_, rfl, lenOf_lst (by simp [s2]), [], x, none, none, none, none, by simp, rfl⟩ ?_ ?_ ?_)
      · have e9' : call sub T (4 + 7) true 9 [.loc 0, .int 0] s = some (.ok (.int c0), s) := e9
        have hz : 1 + cs.length ≤ 16777216 := by omega
        simp [e9', hi0, hcs, It.listOf, sizeLine, s2, hz]
      · rintro i τ s' _ ⟨g, x2, x3, x4, x5, x6, rfl, rfl⟩
        refine itemAt_lst ?_
        rw [List.getElem?_append_left (by simp [s2])]
        simp [s2]
      · rintro i d τ s' hd ⟨g, x2, x3, x4, x5, x6, rfl, rfl⟩
        obtain ⟨c, rfl⟩ := hall d (List.mem_of_getElem? hd)
        generalize ht : s2 ++ g = t
        refine w_turn ?_
        show W (exs sub true (fun c => call sub T (4 + 7) c) _ [some (.loc 0), some (.loc 2), x2, some (.int c), x4, x5, x6] t) _
        obtain ⟨l, f, hl0, e10⟩ := c10 10 c t
        refine w_cons (w_nm (ew_call (ds := [.int c]) (s1 := t) (by simp) ⟨_, _, e10, ?_⟩))
        have hP : Pn (t ++ [.lst [.int l, .int f]]) t.length l f := ⟨by simp, hl0⟩
        refine w_cons (w_nm (ew_call (ds := [.loc t.length]) (s1 := t ++ [.lst [.int l, .int f]]) (by simp) (rw_imp (c15 9 hP) ?_)))
        rintro R s4 ⟨hR, y4⟩
        obtain ⟨kk, dd, rfl, hk1, hk2, hd1, hd2⟩ := ring_is hR
        obtain ⟨l4, h4⟩ := y4.pn hP
        refine w_cons (w_frW (ew_lst (ews_cons (ew_v (d := .tup [.int kk, .int dd]) rfl (ews_cons (ew_call (ds := [.loc t.length, .tup [.int kk, .int dd]]) (s1 := s4) (by simp) (rw_imp (c17 9 h4 kk dd) ?_)))))))
        rintro t1 s5 ⟨o5, y5⟩
        obtain ⟨l5, h5⟩ := y5.pn h4
        refine ews_cons (ew_call (ds := [.loc t.length, .tup [.int kk, .int dd]]) (s1 := s5) (by simp) (rw_imp (c17 9 h5 kk dd) ?_))
        rintro t2 s6 ⟨o6, y6⟩
        obtain ⟨l6, h6⟩ := y6.pn h5
        refine ews_cons (ew_call (ds := [.loc t.length]) (s1 := s6) (by simp) (rw_imp (c13 9 h6) ?_))
        rintro t3 s7 ⟨o7, y7⟩
        have y47 : PS (t ++ [.lst [.int l, .int f]]) t.length f s7 := PS.trans hP y4 (PS.trans h4 y5 (PS.trans h5 y6 y7))
        refine ews_nil ⟨[.tup [.int kk, .int dd], t1, t2, t3], fun _ τ s' => ∃ g x2, s' = s7 ++ [.lst [.tup [.int kk, .int dd], t1, t2, t3]] ++ g ∧ τ = [some (.loc 0), some (.loc 2), x2, some (.int c), some (.loc t.length), some (.tup [.int kk, .int dd]), x6], lenOf_lst (by simp), ⟨[], x2, by simp, rfl⟩, ?_, ?_, ?_⟩
        · rintro i τ s' _ ⟨g, x2, rfl, rfl⟩
          refine itemAt_lst ?_
          rw [List.getElem?_append_left (by simp)]
          simp
        · rintro i d τ s' hd ⟨g, x2, rfl, rfl⟩
          have hm : d ∈ [D.tup [.int kk, .int dd], t1, t2, t3] := List.mem_of_getElem? hd
          have ok7 : okD s7 d := by
            simp only [List.mem_cons, List.not_mem_nil, or_false] at hm
            rcases hm with rfl | rfl | rfl | rfl
            · exact rfl
            · exact okD_PS h5 (PS.trans h5 y6 y7) o5
            · exact okD_PS h6 y7 o6
            · exact o7
          have ok : okD (s7 ++ [.lst [.tup [.int kk, .int dd], t1, t2, t3]] ++ g) d := okD_app (okD_app ok7)
          obtain ⟨g2, w2⟩ := look_things 4 (t := 2) (τ := [some (.loc 0), some (.loc 2), some d, some (.int c), some (.loc t.length), some (.tup [.int kk, .int dd]), x6]) ok rfl
          refine w_turn (w_cons (w_imp w2 ?_))
          rintro o s' ⟨rfl, rfl⟩
          obtain ⟨g3, w3⟩ := told_none 4 (t := 2) (τ := [some (.loc 0), some (.loc 2), some d, some (.int c), some (.loc t.length), some (.tup [.int kk, .int dd]), x6]) (okD_app (g := g2) ok) rfl
          refine w_cons (w_imp w3 ?_)
          rintro o s' ⟨rfl, rfl⟩
          exact w_nil ⟨_, rfl, g ++ (g2 ++ g3), some d, by simp [List.append_assoc], rfl⟩
        · rintro τ s' ⟨g7, x2, rfl, rfl⟩
          have y8 : PS (t ++ [.lst [.int l, .int f]]) t.length f (s7 ++ [.lst [.tup [.int kk, .int dd], t1, t2, t3]] ++ g7) := (y47.app _).app _
          generalize s7 ++ [SO.lst [.tup [.int kk, .int dd], t1, t2, t3]] ++ g7 = s8 at y8
          obtain ⟨l8, h8⟩ := y8.pn hP
          refine w_cons (w_if (ew_not (ew_call (ds := [.tup [.int kk, .int dd]]) (s1 := s8) (by simp) (rw_imp (c21 4 kk dd s8 hR) ?_))))
          rintro v s' ⟨rfl, rfl⟩
          refine ⟨true, rfl, false, rfl, ?_⟩
          rw [if_neg (by decide)]
          refine w_nil ?_
          refine w_cons (w_frW (ew_lst (ews_cons ⟨.int kk, s', by simp, ews_cons ⟨.int (-1), s', by simp [], ews_cons ⟨.bl true, s', rfl, ews_cons ⟨.non, s', rfl, ews_cons ⟨.str "0", s', rfl, ews_cons ⟨.tup [.int 0], s', rfl, ews_cons (ew_bin ⟨.int kk, s', by simp, ew_call (ds := [.loc t.length, .int 99]) (s1 := s') (by simp) (rw_imp (draw 10 h8 (by decide) (by decide)) ?_)⟩)⟩⟩⟩⟩⟩⟩)))
          rintro v s9 ⟨r, rfl, r0, r1, y9⟩
          refine ⟨.int (kk + r), s9, rfl, ?_⟩
          refine ews_nil ⟨[.int kk, .int (-1), .bl true, .non, .str "0", .tup [.int 0], .int (kk + r)], fun _ τ s' => ∃ g x6, s' = s9 ++ [.lst [.int kk, .int (-1), .bl true, .non, .str "0", .tup [.int 0], .int (kk + r)]] ++ g ∧ τ = [some (.loc 0), some (.loc 2), x2, some (.int c), some (.loc t.length), some (.tup [.int kk, .int dd]), x6], lenOf_lst (by simp), ⟨[], x6, by simp, rfl⟩, ?_, ?_, ?_⟩
          · rintro i τ s' _ ⟨g, x6, rfl, rfl⟩
            refine itemAt_lst ?_
            rw [List.getElem?_append_left (by simp)]
            simp
          · rintro i d τ s' hd ⟨g, x6, rfl, rfl⟩
            have hm := List.mem_of_getElem? hd
            have hb : flat d = true ∧ within d 0 (kk - 1) = false := by
              simp only [List.mem_cons, List.not_mem_nil, or_false] at hm
              rcases hm with rfl | rfl | rfl | rfl | rfl | rfl | rfl
              · exact ⟨rfl, by simp [within]; omega⟩
              · exact ⟨rfl, by simp [within]⟩
              · exact ⟨rfl, rfl⟩
              · exact ⟨rfl, rfl⟩
              · exact ⟨rfl, rfl⟩
              · exact ⟨rfl, rfl⟩
              · exact ⟨rfl, by simp [within]; omega⟩
            obtain ⟨g2, w2⟩ := told_bad 4 (s := s9 ++ [.lst [.int kk, .int (-1), .bl true, .non, .str "0", .tup [.int 0], .int (kk + r)]] ++ g) (τ := [some (.loc 0), some (.loc 2), x2, some (.int c), some (.loc t.length), some (.tup [.int kk, .int dd]), some d]) hR hb.1 hb.2 rfl rfl
            refine w_turn (w_cons (w_imp w2 ?_))
            rintro o s' ⟨rfl, rfl⟩
            exact w_nil ⟨_, rfl, g ++ g2, some d, by simp [List.append_assoc], rfl⟩
          · rintro τ s' ⟨g9, x6, rfl, rfl⟩
            obtain ⟨g10, e10⟩ := pen_back (PS.trans hP y8 y9)
            exact w_nil ⟨_, rfl, g ++ (g10 ++ ([.lst [.int kk, .int (-1), .bl true, .non, .str "0", .tup [.int 0], .int (kk + r)]] ++ g9)), _, _, _, _, _, by rw [e10, ← ht]; simp [List.append_assoc], rfl⟩
      · rintro τ s' _
        exact w_cons (w_ret (ew_c rfl))
  obtain ⟨v, s', e, rfl⟩ := key
  exact ⟨s', e⟩
end K03



open PySem PySem.W PyProof.Rows
set_option Elab.async false
set_option maxRecDepth 100000 in
set_option maxHeartbeats 0 in
theorem PySem.Challenge.cw_ringhues_k03_rings_and_their_spots_holds : PySem.Challenge.rw_ringhues_k03_rings_and_their_spots.Holds := by
  w_on; o_law; k_head; (case hw => w_witness2)
  k_fill
  refine It.walkL (l := PySem.Challenge.rw_ringhues_k03_rings_and_their_spots) (x := "_law_script") (k := 12) rfl rfl ⟨by decide, by decide⟩ (fun w h Y => PySem.W.kIn_of Y) ?F
  case F =>
    intro w mg fa h KX G hmg
    refine' K03.all_mk KX G hmg K03.law_true ?n0 ?l0 ?c0 ?k0 ?n1 ?l1 ?c1 ?k1 ?n2 ?l2 ?c2 ?k2 ?n3 ?l3 ?c3 ?k3 ?n4 ?l4 ?c4 ?k4 ?n5 ?l5 ?c5 ?k5 ?n6 ?l6 ?c6 ?k6 ?n7 ?l7 ?c7 ?k7 ?n8 ?l8 ?c8 ?k8 ?n9 ?l9 ?c9 ?k9 ?n10 ?l10 ?c10 ?k10 ?n11 ?l11 ?c11 ?k11 ?n12 ?l12 ?c12 ?k12 ?n13 ?l13 ?c13 ?k13 ?n14 ?l14 ?c14 ?k14 ?n15 ?l15 ?c15 ?k15 ?n16 ?l16 ?c16 ?k16 ?n17 ?l17 ?c17 ?k17 ?n18 ?l18 ?c18 ?k18 ?n19 ?l19 ?c19 ?k19 ?n20 ?l20 ?c20 ?k20 ?n21 ?l21 ?c21 ?k21 ?n22 ?l22 ?c22 ?k22 ?cl0 ?cl1 ?cl2 ?cl3 ?cl4 ?cl5 ?cl6 ?cl7 ?cl8 ?cl9 ?cl10 ?cl11 ?x1 ?x2 ?cs ?sb0 ?g_MOST_SPOTS ?z_ValueError ?z_abs ?z_all ?z_bool ?z_divmod ?z_int ?z_isinstance ?z_len ?z_max ?z_min ?z_range ?z_tuple
    (case n0 => first | k_is | kernel_rfl)
    (case l0 => first | k_is | kernel_rfl)
    (case c0 => first | k_is | kernel_rfl)
    (case k0 => first | k_is | kernel_rfl)
    (case n1 => first | k_is | kernel_rfl)
    (case l1 => first | k_is | kernel_rfl)
    (case c1 => first | k_is | kernel_rfl)
    (case k1 => first | k_is | kernel_rfl)
    (case n2 => first | k_is | kernel_rfl)
    (case l2 => first | k_is | kernel_rfl)
    (case c2 => first | k_is | kernel_rfl)
    (case k2 => first | k_is | kernel_rfl)
    (case n3 => first | k_is | kernel_rfl)
    (case l3 => first | k_is | kernel_rfl)
    (case c3 => first | k_is | kernel_rfl)
    (case k3 => first | k_is | kernel_rfl)
    (case n4 => first | k_is | kernel_rfl)
    (case l4 => first | k_is | kernel_rfl)
    (case c4 => first | k_is | kernel_rfl)
    (case k4 => first | k_is | kernel_rfl)
    (case n5 => first | k_is | kernel_rfl)
    (case l5 => first | k_is | kernel_rfl)
    (case c5 => first | k_is | kernel_rfl)
    (case k5 => first | k_is | kernel_rfl)
    (case n6 => first | k_is | kernel_rfl)
    (case l6 => first | k_is | kernel_rfl)
    (case c6 => first | k_is | kernel_rfl)
    (case k6 => first | k_is | kernel_rfl)
    (case n7 => first | k_is | kernel_rfl)
    (case l7 => first | k_is | kernel_rfl)
    (case c7 => first | k_is | kernel_rfl)
    (case k7 => first | k_is | kernel_rfl)
    (case n8 => first | k_is | kernel_rfl)
    (case l8 => first | k_is | kernel_rfl)
    (case c8 => first | k_is | kernel_rfl)
    (case k8 => first | k_is | kernel_rfl)
    (case n9 => first | k_is | kernel_rfl)
    (case l9 => first | k_is | kernel_rfl)
    (case c9 => first | k_is | kernel_rfl)
    (case k9 => first | k_is | kernel_rfl)
    (case n10 => first | k_is | kernel_rfl)
    (case l10 => first | k_is | kernel_rfl)
    (case c10 => first | k_is | kernel_rfl)
    (case k10 => first | k_is | kernel_rfl)
    (case n11 => first | k_is | kernel_rfl)
    (case l11 => first | k_is | kernel_rfl)
    (case c11 => first | k_is | kernel_rfl)
    (case k11 => first | k_is | kernel_rfl)
    (case n12 => first | k_is | kernel_rfl)
    (case l12 => first | k_is | kernel_rfl)
    (case c12 => first | k_is | kernel_rfl)
    (case k12 => first | k_is | kernel_rfl)
    (case n13 => first | k_is | kernel_rfl)
    (case l13 => first | k_is | kernel_rfl)
    (case c13 => first | k_is | kernel_rfl)
    (case k13 => first | k_is | kernel_rfl)
    (case n14 => first | k_is | kernel_rfl)
    (case l14 => first | k_is | kernel_rfl)
    (case c14 => first | k_is | kernel_rfl)
    (case k14 => first | k_is | kernel_rfl)
    (case n15 => first | k_is | kernel_rfl)
    (case l15 => first | k_is | kernel_rfl)
    (case c15 => first | k_is | kernel_rfl)
    (case k15 => first | k_is | kernel_rfl)
    (case n16 => first | k_is | kernel_rfl)
    (case l16 => first | k_is | kernel_rfl)
    (case c16 => first | k_is | kernel_rfl)
    (case k16 => first | k_is | kernel_rfl)
    (case n17 => first | k_is | kernel_rfl)
    (case l17 => first | k_is | kernel_rfl)
    (case c17 => first | k_is | kernel_rfl)
    (case k17 => first | k_is | kernel_rfl)
    (case n18 => first | k_is | kernel_rfl)
    (case l18 => first | k_is | kernel_rfl)
    (case c18 => first | k_is | kernel_rfl)
    (case k18 => first | k_is | kernel_rfl)
    (case n19 => first | k_is | kernel_rfl)
    (case l19 => first | k_is | kernel_rfl)
    (case c19 => first | k_is | kernel_rfl)
    (case k19 => first | k_is | kernel_rfl)
    (case n20 => first | k_is | kernel_rfl)
    (case l20 => first | k_is | kernel_rfl)
    (case c20 => first | k_is | kernel_rfl)
    (case k20 => first | k_is | kernel_rfl)
    (case n21 => first | k_is | kernel_rfl)
    (case l21 => first | k_is | kernel_rfl)
    (case c21 => first | k_is | kernel_rfl)
    (case k21 => first | k_is | kernel_rfl)
    (case n22 => first | k_is | kernel_rfl)
    (case l22 => first | k_is | kernel_rfl)
    (case c22 => first | k_is | kernel_rfl)
    (case k22 => first | k_is | kernel_rfl)
    (case cl0 => first | k_is | kernel_rfl)
    (case cl1 => first | k_is | kernel_rfl)
    (case cl2 => first | k_is | kernel_rfl)
    (case cl3 => first | k_is | kernel_rfl)
    (case cl4 => first | k_is | kernel_rfl)
    (case cl5 => first | k_is | kernel_rfl)
    (case cl6 => first | k_is | kernel_rfl)
    (case cl7 => first | k_is | kernel_rfl)
    (case cl8 => first | k_is | kernel_rfl)
    (case cl9 => first | k_is | kernel_rfl)
    (case cl10 => first | k_is | kernel_rfl)
    (case cl11 => first | k_is | kernel_rfl)
    (case x1 => first | k_is | kernel_rfl)
    (case x2 => first | k_is | kernel_rfl)
    (case cs => first | k_is | kernel_rfl)
    (case sb0 => first | k_is | kernel_rfl)
    (case g_MOST_SPOTS => first | k_is | kernel_rfl)
    (case z_ValueError => first | k_is | kernel_rfl)
    (case z_abs => first | k_is | kernel_rfl)
    (case z_all => first | k_is | kernel_rfl)
    (case z_bool => first | k_is | kernel_rfl)
    (case z_divmod => first | k_is | kernel_rfl)
    (case z_int => first | k_is | kernel_rfl)
    (case z_isinstance => first | k_is | kernel_rfl)
    (case z_len => first | k_is | kernel_rfl)
    (case z_max => first | k_is | kernel_rfl)
    (case z_min => first | k_is | kernel_rfl)
    (case z_range => first | k_is | kernel_rfl)
    (case z_tuple => first | k_is | kernel_rfl)

