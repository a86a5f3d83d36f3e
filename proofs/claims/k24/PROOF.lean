import PyProof.Rows.All
import Wide.All
import OpenK.AllK
import Wide.FinOn
import Lean
import PyProof.EqAt
import PyProof.EqKinds
import PyProof.TupleCall
import PySem.Syntax
import PySem.Value
import PySem.Eval
import PyProof.StrLawsIn
import KE.KEqDict
import PyProof.DictTable
import PyProof.NeKinds
import KE.KSortTup
import PyProof.Rows.SortWalk
import PyProof.Dict
import PyProof.DictKinds
import PyProof.StrOps
import PyProof.FitsInt
import PyProof.ListRange
import PyProof.Rows.FactsT2
import PyProof.ZipIter
import PyProof.WalksEnum
import PyProof.EnumMake
import KE.KRevIter
import KE.KTryMore
import PyProof.Rows.SeqMore2
import PyProof.MinMaxWalk
import PyProof.MeetsSeq
import PySem.Challenge.RW_pourwright_k24_chosen_runs
set_option bootstrap.genMatcherCode false
set_option backward.eqns.nonrecursive false
set_option Elab.async false
set_option genSizeOf false
set_option linter.all false
set_option maxRecDepth 100000
section
set_option Elab.async false
set_option linter.all false
set_option maxRecDepth 100000
/-! THE HAND LAYER, for ints, bools, texts, own classes, LISTS and tuples (index, slices, in, append, pop ..), calls, loops. Paste it whole ahead of your own text; what your proof does not reach may be deleted. -/
namespace L2
open PySem PySem.Spec PyProof.Rows

/-- a key: an int or a str -/
noncomputable abbrev Key := Sum Int Str
noncomputable def keyIs : Key → Value → Bool
  | .inl k, v => Value.isInt k v
  | .inr x, v => Value.isStrOf x v
noncomputable def keyH (w : World) : Key → Int
  | .inl k => hashInt k
  | .inr x => hashStr w x
theorem keyIs_shape : ∀ {k : Key} {v : Value}, keyIs k v = true → (∃ i t, k = Sum.inl i ∧ v = Value.int i t) ∨ (∃ x t, k = Sum.inr x ∧ v = Value.str x t)
  | .inl i, v, h => by
    obtain ⟨t, e⟩ := Value.isInt_shape (k := i) (v := v) h
    exact .inl ⟨i, t, rfl, e⟩
  | .inr x, v, h => by
    obtain ⟨t, e⟩ := Value.isStrOf_shape (x := x) (v := v) h
    exact .inr ⟨x, t, rfl, e⟩
theorem keyIs_int (i : Int) (t : Tok) : keyIs (.inl i) (.int i t) = true := by simp [keyIs, Value.isInt]
theorem keyIs_str (x : Str) (t : Tok) : keyIs (.inr x) (.str x t) = true := by simp [keyIs, Value.isStrOf]
theorem key_ll (a b : Int) : decide ((Sum.inl a : Key) = Sum.inl b) = (a == b) := by
  by_cases e : a = b
  · subst e; simp
  · have h : ¬ (Sum.inl a : Key) = Sum.inl b := fun q => e (Sum.inl.inj q)
    rw [decide_eq_false h]
    exact (beq_eq_false_iff_ne.mpr e).symm
theorem key_rr (a b : Str) : decide ((Sum.inr a : Key) = Sum.inr b) = decide (a = b) := by
  by_cases e : a = b
  · subst e; simp
  · have h : ¬ (Sum.inr a : Key) = Sum.inr b := fun q => e (Sum.inr.inj q)
    rw [decide_eq_false h, decide_eq_false e]
theorem key_lr (a : Int) (b : Str) : decide ((Sum.inl a : Key) = Sum.inr b) = false := decide_eq_false (fun q => nomatch q)
theorem key_rl (a : Str) (b : Int) : decide ((Sum.inr a : Key) = Sum.inl b) = false := decide_eq_false (fun q => nomatch q)

noncomputable def mixKind (prog : Program) (w : World) : PySem.KeyKind prog w Key where
  is := keyIs
  hash := keyH w
  inj := fun v a b ha hb => by
    rcases keyIs_shape ha with ⟨i, t, rfl, rfl⟩ | ⟨x, t, rfl, rfl⟩
    · rcases keyIs_shape hb with ⟨j, u, rfl, e⟩ | ⟨y, u, rfl, e⟩
      · injection e with e1 _; rw [e1]
      · exact nomatch e
    · rcases keyIs_shape hb with ⟨j, u, rfl, e⟩ | ⟨y, u, rfl, e⟩
      · exact nomatch e
      · injection e with e1 _; rw [e1]
  byValue := fun k v h => by
    rcases keyIs_shape h with ⟨i, t, rfl, rfl⟩ | ⟨x, t, rfl, rfl⟩ <;> rfl
  pyHash := fun hv h => by
    rcases keyIs_shape hv with ⟨i, t, rfl, rfl⟩ | ⟨x, t, rfl, rfl⟩
    · exact wpAny_pyHash_int h
    · exact wpAny_pyHash_str h
  eqBool := fun hu hv h => by
    rcases keyIs_shape hu with ⟨i, t, rfl, rfl⟩ | ⟨x, t, rfl, rfl⟩
    · rcases keyIs_shape hv with ⟨j, u, rfl, rfl⟩ | ⟨y, u, rfl, rfl⟩
      · rw [key_ll] at h; exact wpAny_eqBool_int h
      · rw [key_lr] at h; exact SeqAt.EqAt.int_str i t y u _ _ _ _ h
    · rcases keyIs_shape hv with ⟨j, u, rfl, rfl⟩ | ⟨y, u, rfl, rfl⟩
      · rw [key_rl] at h; exact SeqAt.EqAt.str_int x t j u _ _ _ _ h
      · rw [key_rr] at h; exact wpAny_eqBool_str h
  «strs» := fun k x t v h => by
    rcases keyIs_shape h with ⟨i, u, rfl, e⟩ | ⟨y, u, rfl, e⟩
    · exact nomatch e
    · injection e with e1 _
      subst e1
      cases v <;> rfl

theorem mixKind_int (prog : Program) (w : World) (i : Int) (t : Tok) : (mixKind prog w).is (.inl i) (.int i t) = true := keyIs_int i t
theorem mixKind_str (prog : Program) (w : World) (x : Str) (t : Tok) : (mixKind prog w).is (.inr x) (.str x t) = true := keyIs_str x t
end L2

namespace L2
open PySem PySem.Spec PyProof.Rows

/-- a value, without the heap -/
inductive V where
  | non | bl (b : Bool) | int (i : Int) | str (x : Str) | byt (b : Array UInt8) | flt (b : UInt64) | ref (a : Addr) | ty (n : String)
  deriving DecidableEq

noncomputable def RelV : V → Value → Prop
  | .non, u => u = Value.none
  | .bl b, u => u = Value.bool b
  | .int i, u => ∃ t, u = Value.int i t
  | .str x, u => ∃ t, u = Value.str x t
  | .byt b, u => ∃ t, u = Value.bytes b t
  | .flt b, u => ∃ t, u = Value.float b t
  | .ref a, u => u = Value.ref a
  | .ty n, u => u = Value.type n

noncomputable abbrev Vals : List V → List Value → Prop := Paired RelV
theorem Vals.length {xs : List V} {us : List Value} (r : Vals xs us) : xs.length = us.length := Paired.length r
theorem Vals.get : ∀ {xs : List V} {us : List Value} {i : Nat} {x : V}, Vals xs us → xs[i]? = some x → ∃ u, us[i]? = some u ∧ RelV x u
  | _, _, _, _, .nil, e => by simp at e
  | _, _, 0, _, .cons r _, e => by simp at e; subst e; exact ⟨_, rfl, r⟩
  | _, _, i + 1, x, .cons _ t, e => by
    obtain ⟨u, h1, h2⟩ := Vals.get (i := i) (x := x) t (by simpa using e)
    exact ⟨u, by simpa using h1, h2⟩
theorem Vals.set {x : V} {u : Value} (r : RelV x u) : ∀ {xs : List V} {us : List Value} (i : Nat), Vals xs us → Vals (xs.set i x) (us.set i u)
  | _, _, _, .nil => .nil
  | _, _, 0, .cons _ t => .cons r t
  | _, _, i + 1, .cons q t => .cons q (Vals.set r i t)
theorem Vals.append : ∀ {xs ys : List V} {us ws : List Value}, Vals xs us → Vals ys ws → Vals (xs ++ ys) (us ++ ws)
  | _, _, _, _, .nil, s => s
  | _, _, _, _, .cons r t, s => .cons r (Vals.append t s)
theorem Vals.take : ∀ {xs : List V} {us : List Value} (n : Nat), Vals xs us → Vals (xs.take n) (us.take n)
  | _, _, 0, _ => .nil
  | _, _, _ + 1, .nil => .nil
  | _, _, n + 1, .cons r t => .cons r (Vals.take n t)
theorem Vals.drop : ∀ {xs : List V} {us : List Value} (n : Nat), Vals xs us → Vals (xs.drop n) (us.drop n)
  | _, _, 0, r => r
  | _, _, _ + 1, .nil => .nil
  | _, _, n + 1, .cons _ t => Vals.drop n t
noncomputable def RelO : Option V → Option Value → Prop
  | some v, some u => RelV v u
  | none, none => True
  | _, _ => False
noncomputable def KV {κ : Type} : List (κ × V) → List (κ × Value) → Prop := Paired fun (p : κ × V) (q : κ × Value) => p.1 = q.1 ∧ RelV p.2 q.2

/-- a key of a dict (00_mix): an int or a text -/
noncomputable def kV : Key → V
  | .inl i => .int i
  | .inr x => .str x

/-- what stands at a tracked address -/
inductive HO where
  /-- a list -/
  | lst (xs : List V)
  /-- a tuple (never changes) -/
  | tup (xs : List V)
  /-- a dict whose keys are ints and texts; one whose keys are tuples of ints and texts (the empty one is both) -/
  | dK (kvs : List (Key × V)) | dT (kvs : List (List Key × V))
  /-- a set of ints: its members, its size -/
  | set (S : Int → Bool) (n : Nat)
  /-- an instance of the class at C, its dict at dx, its attributes -/
  | ins (C dx : Addr) (fs : List (Str × V))
  /-- the dict of the instance at x -/
  | own (x : Addr)
  /-- the dict of an exception -/
  | xd (fs : List (Str × V))
  /-- a bound method, f of x -/
  | met (f x : Addr)
  /-- a range object lo, lo + 1, .. below hi -/
  | rng (lo hi : Int)
  /-- a thing that is known to the object (the script; a dict while a loop walks it): read, never written while it is so -/
  | frz (o : Obj) (u : HO)
  /-- a code object's table -/
  | tbl (ps : Array Value)
  /-- any other thing, by what is true of its one object (a def of one's own: SetO a S n := HO.ext fun h => ..) -/
  | ext (φ : Heap → Prop)

noncomputable abbrev Hp := Addr → Option HO
noncomputable def upd (H : Hp) (a : Addr) (o : HO) : Hp := fun b => if b = a then some o else H b
theorem upd_same {H : Hp} {a : Addr} {o : HO} : upd H a o a = some o := by unfold upd; rw [if_pos rfl]
theorem upd_ne {H : Hp} {a b : Addr} {o : HO} (h : b ≠ a) : upd H a o b = H b := by unfold upd; rw [if_neg h]
/-- two objects of different content stand apart -/
theorem ne_of {H : Hp} {a b : Addr} {o u : HO} (h : H a = some o) (h' : H b = some u) (d : o ≠ u) : a ≠ b := by
  intro e; subst e; rw [h] at h'; exact d (Option.some.inj h')
theorem ne_of_none {H : Hp} {a b : Addr} {o : HO} (h : H a = some o) (h' : H b = none) : a ≠ b := by
  intro e; subst e; rw [h] at h'; cases h'

section
variable (P : Program) (w : World)
noncomputable def ObjOk (H : Hp) (h : Heap) (a : Addr) : HO → Prop
  | .lst xs => xs.length ≤ sizeLine ∧ ∃ (its : List Value) (n : Nat), Vals xs its ∧ h.get? a = some { cls := .type "list", data := .seq its.toArray n }
  | .tup xs => xs.length ≤ sizeLine ∧ ∃ its : List Value, Vals xs its ∧ IsTup h a its.toArray
  | .dK kvs => kvs.length ≤ sizeLine ∧ (a == sysModules) = false ∧ ∃ vs, KV kvs vs ∧ h.DictOf (mixKind P w) a vs
  | .dT kvs => kvs.length ≤ sizeLine ∧ (a == sysModules) = false ∧ ∃ xs : List (List Key × Addr × Value),
      Paired (fun (p : List Key × V) (q : List Key × Addr × Value) => p.1 = q.1 ∧ H q.2.1 = some (.tup (p.1.map kV)) ∧ RelV p.2 q.2.2) kvs xs ∧
      ∃ o es ep, h.get? a = some o ∧ o.ExactDict ∧ o.data = .dict es ep ∧ es.toList = xs.map (entryOfKey (tupleKind (mixKind P w))) ∧ (xs.map (·.1)).Nodup
  | .set S n => h.SetOf (intKind P w) a S n
  | .ins C dx fs => H dx = some (.own a) ∧ fs.length ≤ 1000 ∧ dx ≠ a ∧ h.get? a = some (PySem.W.instObj C dx) ∧
      ∃ mA, h.Ns1 dx mA ∧ (∀ f, RelO (fs.lookup f) (mA f)) ∧ PySem.Within mA (fs.map (·.1))
  | .own _ => ∃ o, h.get? a = some o
  | .xd fs => ∃ mA, h.Ns1 a mA ∧ ∀ f, RelO (fs.lookup f) (mA f)
  | .rng lo hi => ∃ t u v, h.get? a = some { cls := .type "range", data := .fields #[.int lo t, .int hi u, .int 1 v] }
  | .frz o u => h.get? a = some o ∧ ObjOk H h a u
  | .tbl ps => h.get? a = some { cls := .none, data := .fields ps }
  | .met f x => h.get? a = some (PySem.W.methodObj (.ref f) (.ref x))
  | .ext φ => φ h ∧ (∃ o, h.get? a = some o) ∧ ∀ h1 h2 : Heap, φ h1 → (∀ o, h1.get? a = some o → h2.get? a = some o) → φ h2
/-- the abstract heap is held -/
noncomputable def HOk (H : Hp) (h : Heap) : Prop := ∀ a o, H a = some o → ObjOk P w H h a o
end

section
variable {P : Program} {w : World} {H H' : Hp} {h h' : Heap} {a : Addr} {o : HO}
theorem ObjOk.lt (x : ObjOk P w H h a o) : a < h.objs.size := by
  cases o with
  | lst xs => obtain ⟨_, _, _, _, e⟩ := x; exact Heap.lt_size e
  | tup xs => obtain ⟨_, _, _, p⟩ := x; exact p.lt
  | dK kvs => obtain ⟨_, _, _, _, o, _, _, e, _⟩ := x; exact Heap.lt_size e
  | dT kvs => obtain ⟨_, _, _, _, o, _, _, e, _⟩ := x; exact Heap.lt_size e
  | set S n => obtain ⟨o, _, _, _, e, _⟩ := x; exact Heap.lt_size e
  | ins C dx fs => obtain ⟨_, _, _, e, _⟩ := x; exact Heap.lt_size e
  | own y => obtain ⟨_, e⟩ := x; exact Heap.lt_size e
  | xd fs => obtain ⟨_, ⟨_, _, _, e, _⟩, _⟩ := x; exact Heap.lt_size e
  | rng lo hi => obtain ⟨_, _, _, e⟩ := x; exact Heap.lt_size e
  | frz ob u => obtain ⟨e, _⟩ := x; exact Heap.lt_size e
  | tbl ps => exact Heap.lt_size (show h.get? a = some _ from x)
  | met f y => exact Heap.lt_size (show h.get? a = some _ from x)
  | ext φ => obtain ⟨_, ⟨_, e⟩, _⟩ := x; exact Heap.lt_size e
theorem Paired.mapP {α β : Type} {F G : α → β → Prop} : ∀ {l₁ : List α} {l₂ : List β}, Paired F l₁ l₂ → (∀ a b, F a b → G a b) → Paired G l₁ l₂
  | _, _, .nil, _ => .nil
  | _, _, .cons r t, f => .cons (f _ _ r) (Paired.mapP t f)
/-- what an object's description leans on: its own object, its own dict, the tuples -/
theorem ObjOk.stay (x : ObjOk P w H h a o) (k : ∀ b u, (b = a ∨ H b = some (.own a)) → h.get? b = some u → h'.get? b = some u)
    (ho : ∀ b, H b = some (.own a) → H' b = some (.own a)) (ht : ∀ b xs, H b = some (.tup xs) → H' b = some (.tup xs)) : ObjOk P w H' h' a o := by
  induction o with
  | lst xs => obtain ⟨z, its, n, r, e⟩ := x; exact ⟨z, its, n, r, k _ _ (.inl rfl) e⟩
  | tup xs => obtain ⟨z, its, r, ob, e, c⟩ := x; exact ⟨z, its, r, ob, k _ _ (.inl rfl) e, c⟩
  | dK kvs => obtain ⟨z, y, vs, r, ob, es, ep, e, c⟩ := x; exact ⟨z, y, vs, r, ob, es, ep, k _ _ (.inl rfl) e, c⟩
  | dT kvs =>
    obtain ⟨z, y, xs, r, ob, es, ep, e, c⟩ := x
    exact ⟨z, y, xs, Paired.mapP r fun p q z => ⟨z.1, ht _ _ z.2.1, z.2.2⟩, ob, es, ep, k _ _ (.inl rfl) e, c⟩
  | set S n => obtain ⟨ob, es, ep, t, e, c⟩ := x; exact ⟨ob, es, ep, t, k _ _ (.inl rfl) e, c⟩
  | ins C dx fs =>
    obtain ⟨d, z, ne, e, mA, ⟨od, es, ep, e2, c⟩, r⟩ := x
    exact ⟨ho _ d, z, ne, k _ _ (.inl rfl) e, mA, ⟨od, es, ep, k _ _ (.inr d) e2, c⟩, r⟩
  | own y => obtain ⟨ob, e⟩ := x; exact ⟨ob, k _ _ (.inl rfl) e⟩
  | xd fs => obtain ⟨mA, ⟨od, es, ep, e, c⟩, r⟩ := x; exact ⟨mA, ⟨od, es, ep, k _ _ (.inl rfl) e, c⟩, r⟩
  | rng lo hi => obtain ⟨t, u, v, e⟩ := x; exact ⟨t, u, v, k _ _ (.inl rfl) e⟩
  | frz ob u ih => obtain ⟨e, q⟩ := x; exact ⟨k _ _ (.inl rfl) e, ih q⟩
  | tbl ps =>
    have e : h.get? a = some { cls := .none, data := .fields ps } := x
    show h'.get? a = some { cls := .none, data := .fields ps }
    exact k a _ (.inl rfl) e
  | met f y =>
    have e : h.get? a = some (PySem.W.methodObj (.ref f) (.ref y)) := x
    show h'.get? a = some (PySem.W.methodObj (.ref f) (.ref y))
    exact k a _ (.inl rfl) e
  | ext φ => obtain ⟨p, ⟨o, e⟩, st⟩ := x; exact ⟨st _ _ p fun o q => k _ _ (.inl rfl) q, ⟨o, k _ _ (.inl rfl) e⟩, st⟩
theorem HOk.lt (x : HOk P w H h) (e : H a = some o) : a < h.objs.size := (x a o e).lt
theorem HOk.fresh (x : HOk P w H h) (e : h.objs.size ≤ a) : H a = none := by
  cases q : H a with
  | none => rfl
  | some u => exact absurd (Nat.lt_of_lt_of_le (x.lt q) e) (Nat.lt_irrefl _)
/-- every object of the heap is kept -/
theorem HOk.kept (x : HOk P w H h) (k : ∀ b u, h.get? b = some u → h'.get? b = some u) : HOk P w H h' := fun a o e =>
  (x a o e).stay (fun b u _ q => k b u q) (fun _ q => q) fun _ _ q => q
/-- a new object is laid and tracked -/
theorem HOk.laid (x : HOk P w H h) (k : ∀ b u, h.get? b = some u → h'.get? b = some u) (hp : h.objs.size ≤ a) (new : ObjOk P w (upd H a o) h' a o) : HOk P w (upd H a o) h' := fun b u e => by
  have hn := x.fresh hp
  by_cases hb : b = a
  · subst hb; rw [upd_same] at e; cases e; exact new
  · rw [upd_ne hb] at e
    exact (x b u e).stay (fun c v _ q => k c v q) (fun c q => by rw [upd_ne (ne_of_none q hn)]; exact q) fun c xs q => by rw [upd_ne (ne_of_none q hn)]; exact q
end

/-- what may be read as u: it is u, or a known u -/
noncomputable def Rd (H : Hp) (a : Addr) (u : HO) : Prop := H a = some u ∨ ∃ o, H a = some (.frz o u)
theorem Rd.ok {P : Program} {w : World} {H : Hp} {h : Heap} {a : Addr} {u : HO} (r : Rd H a u) (x : HOk P w H h) : ObjOk P w H h a u := by
  rcases r with r | ⟨o, r⟩
  · exact x a u r
  · obtain ⟨_, q⟩ := x a _ r
    exact q
/-- what may be written -/
noncomputable def Mut : Option HO → Prop
  | some (.lst _) => True
  | some (.dK _) => True
  | some (.dT _) => True
  | some (.set _ _) => True
  | some (.ins _ _ _) => True
  | some (.ext _) => True
  | _ => False
section
variable {P : Program} {w : World} {H : Hp} {h h' : Heap} {x e : Addr} {o' : HO}
/-- the object at e is changed: x itself, or the dict of the instance x -/
theorem HOk.write (ok : HOk P w H h) (mu : Mut (H x)) (he : e = x ∨ H e = some (.own x)) (k : ∀ b u, b ≠ e → h.get? b = some u → h'.get? b = some u) (heo : ∃ u, h'.get? e = some u)
    (new : ObjOk P w (upd H x o') h' x o') : HOk P w (upd H x o') h' := fun b u q => by
  have nown : ∀ c y, H c = some (.own y) → c ≠ x := fun c y r z => by subst z; rw [r] at mu; exact mu
  have ntup : ∀ c xs, H c = some (.tup xs) → c ≠ x := fun c xs r z => by subst z; rw [r] at mu; exact mu
  by_cases hb : b = x
  · subst hb; rw [upd_same] at q; cases q; exact new
  · rw [upd_ne hb] at q
    by_cases hbe : b = e
    · have q' : H b = some (.own x) := by
        rcases he with z | z
        · exact absurd (hbe.trans z) hb
        · rw [hbe]; exact z
      rw [q] at q'; cases q'
      obtain ⟨v, hv⟩ := heo
      exact ⟨v, by rw [hbe]; exact hv⟩
    · refine (ok b u q).stay (fun c v hc r => k c v ?_ r) (fun c r => by rw [upd_ne (nown c b r)]; exact r) fun c xs r => by rw [upd_ne (ntup c xs r)]; exact r
      rcases hc with rfl | hc
      · exact hbe
      · rintro rfl
        rcases he with z | z
        · exact nown c b hc z
        · rw [hc] at z; cases z; exact hb rfl
end

/-! ### kept unless tracked; of the frames at fs (the callers') the slots may change (an exception that passes writes there); of the records at ex (iterators) nothing is said -/
structure Un (fs ex : List Addr) (H H' : Hp) (h h' : Heap) : Prop where
  keep : ∀ b o, h.get? b = some o → H b = none → b ∉ fs → b ∉ ex → h'.get? b = some o
  slot : ∀ b o, h.get? b = some o → H b = none → b ∈ fs → b ∉ ex → ∃ sl, h'.get? b = some { o with slots := sl }
  free : ∀ b o, h.get? b = some o → H b = none → b ∉ ex → H' b = none
  there : ∀ b o, h.get? b = some o → b ∉ ex → ∃ o', h'.get? b = some o'
  tups : ∀ b xs, H b = some (.tup xs) → H' b = some (.tup xs)
  frzs : ∀ b o u, H b = some (.frz o u) → H' b = some (.frz o u)
  tbls : ∀ b ps, H b = some (.tbl ps) → ∃ more, H' b = some (.tbl (ps ++ more))
section
variable {fs fs' ex ex' : List Addr} {H H1 H2 : Hp} {h h1 h2 h' : Heap} {a x e : Addr} {o : HO}
theorem Un.any (u : Un fs ex H H1 h h1) {b : Addr} {ob : Obj} (q : h.get? b = some ob) (n : H b = none) (hx : b ∉ ex) : ∃ sl, h1.get? b = some { ob with slots := sl } := by
  by_cases hb : b ∈ fs
  · exact u.slot b ob q n hb hx
  · exact ⟨ob.slots, u.keep b ob q n hb hx⟩
theorem Un.kept (k : ∀ b u, h.get? b = some u → h'.get? b = some u) : Un fs ex H H h h' :=
  ⟨fun b ob q _ _ _ => k b ob q, fun b ob q _ _ _ => ⟨ob.slots, k b ob q⟩, fun _ _ _ n _ => n, fun b ob q _ => ⟨ob, k b ob q⟩, fun _ _ q => q, fun _ _ _ q => q, fun _ ps q => ⟨#[], by rw [q]; simp⟩⟩
theorem Un.refl : Un fs ex H H h h := Un.kept fun _ _ q => q
theorem Un.laid (k : ∀ b u, h.get? b = some u → h'.get? b = some u) (hp : h.objs.size ≤ a) (hn : H a = none) : Un fs ex H (upd H a o) h h' where
  keep := fun b u q _ _ _ => k b u q
  slot := fun b u q _ _ _ => ⟨u.slots, k b u q⟩
  free := fun b u q n _ => by rw [upd_ne (Nat.ne_of_lt (Nat.lt_of_lt_of_le (Heap.lt_size q) hp))]; exact n
  there := fun b u q _ => ⟨u, k b u q⟩
  tups := fun b xs q => by rw [upd_ne (ne_of_none q hn)]; exact q
  frzs := fun b u xs q => by rw [upd_ne (ne_of_none q hn)]; exact q
  tbls := fun b ps q => ⟨#[], by rw [upd_ne (ne_of_none q hn), q]; simp⟩
theorem Un.write (mu : Mut (H x)) (he : e = x ∨ H e = some (.own x)) (k : ∀ b u, b ≠ e → h.get? b = some u → h'.get? b = some u) (heo : ∃ u, h'.get? e = some u) : Un fs ex H (upd H x o) h h' := by
  have hx : ∀ b, H b = none → b ≠ x := fun b n z => by subst z; rw [n] at mu; exact mu
  have hb : ∀ b, H b = none → b ≠ e := fun b n z => by
    subst z
    rcases he with r | r
    · exact hx b n r
    · rw [n] at r; cases r
  have hm : ∀ b u, H b = some u → ¬ Mut (some u) → b ≠ x := fun b u q nm z => by subst z; rw [q] at mu; exact nm mu
  refine ⟨fun b u q n _ _ => k b u (hb b n) q, fun b u q n _ _ => ⟨u.slots, k b u (hb b n) q⟩, fun b u q n _ => by rw [upd_ne (hx b n)]; exact n, fun b u q _ => ?_,
    fun b xs q => by rw [upd_ne (hm b _ q fun z => z)]; exact q, fun b u xs q => by rw [upd_ne (hm b _ q fun z => z)]; exact q, fun b ps q => ⟨#[], by rw [upd_ne (hm b _ q fun z => z), q]; simp⟩⟩
  by_cases hbe : b = e
  · subst hbe; exact heo
  · exact ⟨u, k b u hbe q⟩
end

/-! ### the heap without what is tracked -/
noncomputable def trk (h : Heap) (H : Hp) : List Addr := (List.range h.objs.size).filter fun a => (H a).isSome
noncomputable def hidT (h : Heap) (H : Hp) : Heap := PySem.W.hideAll h (trk h H)
theorem hidT_size (h : Heap) (H : Hp) : (hidT h H).objs.size = h.objs.size := PySem.W.hideAll_size _ _
theorem hidT_get {h : Heap} {H : Hp} {b : Addr} {o : Obj} (e : h.get? b = some o) (n : H b = none) : (hidT h H).get? b = some o :=
  PySem.W.hideAll_get _ e fun hm => by
    have q : (H b).isSome = true := (List.mem_filter.mp hm).2
    rw [n] at q; simp at q
theorem of_hidT {h : Heap} {H : Hp} {b : Addr} {o : Obj} (e : (hidT h H).get? b = some o) : h.get? b = some o ∧ H b = none := by
  have e' : h.get? b = some o := PySem.W.of_hideAll (trk h H) e
  refine ⟨e', ?_⟩
  cases q : H b with
  | none => rfl
  | some x =>
    have hm : b ∈ trk h H := List.mem_filter.mpr ⟨List.mem_range.mpr (Heap.lt_size e'), by simp [q]⟩
    have z : (hidT h H).get? b = none := PySem.W.hideAll_none (trk h H) hm
    rw [z] at e; cases e

/-! ### OpenK's ledger, filled with every new object but one -/
end L2

namespace L2
open PySem PySem.Spec PyProof.Rows

/-- the module's facts, over the base: the heap at the law's entry without what is tracked there -/
structure Mod (K : PySem.W.Frag) (mg : Str → Option Value) (base : Heap) : Prop where
  kin : K.In base
  glob : base.Ns mainGlobals mg
  blt : ∃ mb, base.Ns builtinsNs mb ∧ ∀ x : Str, x ≠ "__name__" → mb x = bootBuiltins x
  nolimit : base.NoLimit

/-- the context: a def's body (or a comprehension's block) running. base: fixed through the whole law; s₀, H₀: the entry; outer: the frames whose slots others may change (a def's callers); stack: all frames that run;
   ex: iterators that were made ahead of the entry and are walked here (a comprehension's); fn: the names whose cells were made at the entry (a def: all; a comprehension's block: its own); calm: not within an except suite; pn: pins that every state bears; xe: what is wanted of an exception that leaves the code -/
structure Cx where
  prog : Program
  w : World
  K : PySem.W.Frag
  mg : Str → Option Value
  base : Heap
  A : Around
  N : List Str
  s₀ : Shared
  H₀ : Hp
  env : Env
  outer : List Env
  stack : List Env
  ex : List Addr
  fn : Str → Bool
  calm : Bool
  pn : List (Addr × Obj)
  xe : Value → Shared → Prop
/-- the callers' frames -/
noncomputable def frs (l : List Env) : List Addr := l.filterMap (·.frame)
noncomputable abbrev Cx.fs (X : Cx) : List Addr := frs X.outer

noncomputable def Vis (sc : Scope) (x : Str) : Prop := sc.names.lookup x = some .local ∨ sc.names.lookup x = some .cell ∨ sc.names.lookup x = some .free
noncomputable def Loc (sc : Scope) (x : Str) : Prop := sc.names.lookup x = some .local ∨ sc.names.lookup x = some .cell
noncomputable def Look (env : Env) (h : Heap) (m : Str → Option Value) (x : Str) (u : Value) : Prop :=
  (env.kindOf x = some .local ∧ m x = some u) ∨ ((env.kindOf x = some .cell ∨ env.kindOf x = some .free) ∧ ∃ c, env.cells.lookup x = some c ∧ h.IsCell c (some u))

structure Cx.Ok (X : Cx) : Prop where
  mod : Mod X.K X.mg X.base
  kind : X.env.scope.kind = .function
  glob : X.env.globals = mainGlobals
  blt : X.env.builtins = builtinsNs
  above : X.s₀.heap.objs.size ≤ X.env.locals
  inj : ∀ x y c, X.env.cells.lookup x = some c → X.env.cells.lookup y = some c → x = y
  has : ∀ x, (X.env.kindOf x = some .cell ∨ X.env.kindOf x = some .free) → ∃ c, X.env.cells.lookup x = some c
  cab : ∀ x c, X.fn x = true → X.env.cells.lookup x = some c → X.s₀.heap.objs.size ≤ c
  hd : X.calm = true → X.A.handled = none
  frames : X.A.frames = some X.stack
  stk : X.stack = X.outer ∨ (X.stack = X.env :: X.outer ∧ X.env.frame = some X.env.locals)
  exf : ∀ b ∈ X.ex, b ≠ X.env.locals ∧ ∀ x c, X.env.cells.lookup x = some c → c ≠ b
  bs : ∀ b o, X.base.get? b = some o → X.s₀.heap.get? b = some o ∧ X.H₀ b = none
  bsz : X.base.objs.size ≤ X.s₀.heap.objs.size
  noex : ∀ b o, X.base.get? b = some o → b ∉ X.ex
  exfs : ∀ b ∈ X.ex, b ∉ X.fs
  funs : X.s₀.heap.FunFrames X.base X.outer
  frf : ∀ b ∈ X.fs, X.H₀ b = none

structure Inv (X : Cx) (pins : List (Addr × Obj)) (σ : List (Option V)) (H : Hp) (s : Shared) : Prop where
  ok : X.Ok
  os : s.os = X.s₀.os
  bare : AllBare s.gens
  base : Un X.fs X.ex X.H₀ H X.s₀.heap s.heap
  loc : ∃ m, s.heap.Ns X.env.locals m ∧ ∀ (i : Nat) (x : Str) (v : V), X.N[i]? = some x → σ[i]? = some (some v) → Vis X.env.scope x → ∃ u, RelV v u ∧ Look X.env s.heap m x u
  cell : ∀ x c, X.env.cells.lookup x = some c → ∃ v, s.heap.IsCell c v
  free : H X.env.locals = none
  freeC : ∀ x c, X.env.cells.lookup x = some c → H c = none
  pin : ∀ p ∈ X.pn ++ pins, s.heap.get? p.1 = some p.2 ∧ H p.1 = none ∧ p.1 ≠ X.env.locals ∧ p.1 ∉ X.fs ∧ ∀ v, p.2.data ≠ .cell v
  hok : HOk X.prog X.w H s.heap
  len : σ.length = X.N.length

section
variable {X : Cx} {pins : List (Addr × Obj)} {σ : List (Option V)} {H H' : Hp} {s : Shared} {h' : Heap}

theorem Cx.Ok.nofr (ok : X.Ok) {b : Addr} {o : Obj} (e : X.base.get? b = some o) : b ∉ X.fs := fun hb => by
  have := (ok.funs.mem hb).1
  rw [e] at this; cases this
theorem Inv.bs (I : Inv X pins σ H s) : ∀ b o, X.base.get? b = some o → s.heap.get? b = some o ∧ H b = none := fun b o e =>
  ⟨I.base.keep b o (I.ok.bs b o e).1 (I.ok.bs b o e).2 (I.ok.nofr e) (I.ok.noex b o e), I.base.free b o (I.ok.bs b o e).1 (I.ok.bs b o e).2 (I.ok.noex b o e)⟩
theorem Inv.bk (I : Inv X pins σ H s) : ∀ b o, X.base.get? b = some o → s.heap.get? b = some o := fun b o e => (I.bs b o e).1
theorem Inv.mod (I : Inv X pins σ H s) : Mod X.K X.mg X.base := I.ok.mod
theorem Inv.kIn (I : Inv X pins σ H s) : X.K.In s.heap := I.ok.mod.kin.keeps I.bk
theorem Inv.lt (I : Inv X pins σ H s) : X.env.locals < s.heap.objs.size := let ⟨_, hn, _⟩ := I.loc; hn.lt
theorem Inv.sz (I : Inv X pins σ H s) : X.s₀.heap.objs.size ≤ s.heap.objs.size := Nat.le_trans I.ok.above (Nat.le_of_lt I.lt)
theorem Inv.nofs (I : Inv X pins σ H s) {a : Addr} (h : s.heap.objs.size ≤ a) : a ∉ X.fs := fun hb => by
  obtain ⟨_, o, ho, _⟩ := I.ok.funs.mem hb
  exact absurd (Nat.lt_of_lt_of_le (Heap.lt_size ho) (Nat.le_trans I.sz h)) (Nat.lt_irrefl _)
theorem Inv.cne (I : Inv X pins σ H s) : ∀ x c, X.env.cells.lookup x = some c → c ≠ X.env.locals := fun x c e z => by
  obtain ⟨v, o, ho, hd⟩ := I.cell x c e
  obtain ⟨m, ⟨o', es, ep, ho', hd', _⟩, _⟩ := I.loc
  rw [z, ho'] at ho; cases ho; rw [hd'] at hd; cases hd
theorem Inv.funs (I : Inv X pins σ H s) : s.heap.FunFrames X.base X.outer := by
  have all : ∀ (l : List Env), (∀ b ∈ frs l, b ∈ X.fs) → X.s₀.heap.FunFrames X.base l → s.heap.FunFrames X.base l := by
    intro l
    induction l with
    | nil => intro _ _; trivial
    | cons env r ih =>
      intro hs hl
      obtain ⟨hk, ⟨L, o, hf, hn, ho, hd⟩, hr⟩ := hl
      have hL : L ∈ X.fs := hs L (by unfold frs; rw [List.filterMap_cons, hf]; exact List.mem_cons_self)
      obtain ⟨sl, e⟩ := I.base.slot L o ho (I.ok.frf L hL) hL fun z => I.ok.exfs L z hL
      exact ⟨hk, ⟨L, _, hf, hn, e, hd⟩, ih (fun b hb => hs b (by unfold frs; rw [List.filterMap_cons, hf]; exact List.mem_cons_of_mem _ hb)) hr⟩
  exact all X.outer (fun _ hb => hb) I.ok.funs

/-- the frames that run, for a call -/
theorem Inv.stack (I : Inv X pins σ H s) : s.heap.FunFrames X.base X.stack := by
  rcases I.ok.stk with e | ⟨e, hf⟩
  · rw [e]; exact I.funs
  · rw [e]
    obtain ⟨m, hn, _⟩ := I.loc
    refine .cons (by rw [I.ok.kind]; decide) hf hn ?_ I.funs
    exact Heap.get?_none_of_le (Nat.le_trans I.ok.bsz I.ok.above)
theorem Inv.stkSub (I : Inv X pins σ H s) : ∀ b ∈ frs X.stack, b ∈ X.env.locals :: X.fs := fun b hb => by
  rcases I.ok.stk with e | ⟨e, hf⟩
  · rw [e] at hb; exact List.mem_cons_of_mem _ hb
  · rw [e] at hb
    unfold frs at hb
    rw [List.filterMap_cons, hf] at hb
    exact hb
theorem Inv.stkFree (I : Inv X pins σ H s) : ∀ b ∈ frs X.stack, H b = none := fun b hb => by
  rcases List.mem_cons.mp (I.stkSub b hb) with e | hb
  · rw [e]; exact I.free
  · obtain ⟨_, o, ho, _⟩ := I.ok.funs.mem hb
    exact I.base.free b o ho (I.ok.frf b hb) fun z => I.ok.exfs b z hb

/-- THE STEP: the untracked objects but the frame and the records at ch are kept (the callers' frames up to slots), the frame's map is kept, the new abstract heap is held -/
theorem Inv.step {g' : Array GenState} {t' : Nat} {d' : Drawn} {ch : List Addr} (I : Inv X pins σ H s)
    (hch : ∀ b ∈ ch, (b ∈ X.ex ∨ X.s₀.heap.objs.size ≤ b) ∧ b ≠ X.env.locals ∧ (∀ x c, X.env.cells.lookup x = some c → c ≠ b) ∧ ∀ p ∈ X.pn ++ pins, p.1 ≠ b)
    (keep : ∀ b o, b ≠ X.env.locals → b ∉ X.fs → b ∉ ch → s.heap.get? b = some o → H b = none → h'.get? b = some o)
    (slot : ∀ b o, b ≠ X.env.locals → b ∈ X.fs → b ∉ ch → s.heap.get? b = some o → H b = none → ∃ sl, h'.get? b = some { o with slots := sl }) (free : ∀ b o, b ∉ ch → s.heap.get? b = some o → H b = none → H' b = none)
    (there : ∀ b o, b ∉ ch → s.heap.get? b = some o → ∃ o', h'.get? b = some o')
    (tups : ∀ b xs, H b = some (.tup xs) → H' b = some (.tup xs)) (frzs : ∀ b o u, H b = some (.frz o u) → H' b = some (.frz o u)) (tbls : ∀ b ps, H b = some (.tbl ps) → ∃ more, H' b = some (.tbl (ps ++ more)))
    (ns : ∀ m, s.heap.Ns X.env.locals m → h'.Ns X.env.locals m) (hok : HOk X.prog X.w H' h') (hg : AllBare g') :
    Inv X pins σ H' { s with heap := h', gens := g', drawn := d', toks := t' } := by
  have neL : ∀ b o, X.s₀.heap.get? b = some o → b ≠ X.env.locals := fun b o e => Nat.ne_of_lt (Nat.lt_of_lt_of_le (Heap.lt_size e) I.ok.above)
  have neC : ∀ b o, X.s₀.heap.get? b = some o → b ∉ X.ex → b ∉ ch := fun b o e hx hb => by
    rcases (hch b hb).1 with z | z
    · exact hx z
    · exact absurd (Nat.lt_of_lt_of_le (Heap.lt_size e) z) (Nat.lt_irrefl _)
  have cellK : ∀ x c, X.env.cells.lookup x = some c → ∀ v, s.heap.IsCell c v → h'.IsCell c v := fun x c e v ⟨o, ho, hd⟩ => by
    have nch : c ∉ ch := fun z => (hch c z).2.2.1 x c e rfl
    by_cases hc : c ∈ X.fs
    · obtain ⟨sl, q⟩ := slot c o (I.cne x c e) hc nch ho (I.freeC x c e)
      exact ⟨_, q, hd⟩
    · exact ⟨o, keep c o (I.cne x c e) hc nch ho (I.freeC x c e), hd⟩
  refine ⟨I.ok, I.os, hg, ⟨fun b o e n hb hx => ?_, fun b o e n hb hx => ?_, fun b o e n hx => ?_, fun b o e hx => ?_, fun b xs e => tups b xs (I.base.tups b xs e), fun b o xs e => frzs b o xs (I.base.frzs b o xs e), fun b ps e => ?_⟩, ?_, fun x c e => ?_, ?_, fun x c e => ?_, fun p hp => ?_, hok, I.len⟩
  · exact keep b o (neL b o e) hb (neC b o e hx) (I.base.keep b o e n hb hx) (I.base.free b o e n hx)
  · obtain ⟨sl, e1⟩ := I.base.slot b o e n hb hx
    obtain ⟨sl', e2⟩ := slot b _ (neL b o e) hb (neC b o e hx) e1 (I.base.free b o e n hx)
    exact ⟨sl', e2⟩
  · obtain ⟨o', e1⟩ := I.base.there b o e hx
    exact free b o' (neC b o e hx) e1 (I.base.free b o e n hx)
  · obtain ⟨o', e1⟩ := I.base.there b o e hx
    exact there b o' (neC b o e hx) e1
  · obtain ⟨m1, e1⟩ := I.base.tbls b ps e
    obtain ⟨m2, e2⟩ := tbls b _ e1
    exact ⟨m1 ++ m2, by rw [e2, Array.append_assoc]⟩
  · obtain ⟨m, hn, hl⟩ := I.loc
    refine ⟨m, ns m hn, fun i x v e1 e2 e3 => ?_⟩
    obtain ⟨u, r, l⟩ := hl i x v e1 e2 e3
    refine ⟨u, r, ?_⟩
    rcases l with l | ⟨k, c, e, z⟩
    · exact .inl l
    · exact .inr ⟨k, c, e, cellK x c e _ z⟩
  · obtain ⟨v, z⟩ := I.cell x c e
    exact ⟨v, cellK x c e v z⟩
  · obtain ⟨m, ⟨o, _, _, ho, _⟩, _⟩ := I.loc
    exact free _ o (fun z => (hch _ z).2.1 rfl) ho I.free
  · obtain ⟨v, o, ho, hd⟩ := I.cell x c e
    exact free c o (fun z => (hch c z).2.2.1 x c e rfl) ho (I.freeC x c e)
  · obtain ⟨e, n, ne, nf, d⟩ := I.pin p hp
    have nch : p.1 ∉ ch := fun z => (hch p.1 z).2.2.2 p hp rfl
    exact ⟨keep p.1 p.2 ne nf nch e n, free p.1 p.2 nch e n, ne, nf, d⟩
/-- .. where the frame's own object is kept too -/
theorem Inv.un {t' : Nat} (I : Inv X pins σ H s) (u : Un X.fs [] H H' s.heap h') (hok : HOk X.prog X.w H' h') : Inv X pins σ H' { s with heap := h', toks := t' } := by
  obtain ⟨m, ⟨o, es, ep, ho, r⟩, _⟩ := id I.loc
  obtain ⟨sl, hL⟩ := u.any ho I.free (by simp)
  exact I.step (g' := s.gens) (d' := s.drawn) (ch := []) (fun _ z => nomatch z) (fun b o _ hb _ e n => u.keep b o e n hb (by simp)) (fun b o _ hb _ e n => u.slot b o e n hb (by simp)) (fun b o _ e n => u.free b o e n (by simp)) (fun b o _ e => u.there b o e (by simp)) u.tups u.frzs u.tbls (fun m' hm => by
    obtain ⟨o', es', ep', ho', r'⟩ := hm
    rw [ho] at ho'; cases ho'
    exact ⟨_, es', ep', hL, r'⟩) hok I.bare
/-- behind a call (or a comprehension's block): the slots of this frame may have changed too, the records at ch may have turned -/
theorem Inv.call {g' : Array GenState} {t' : Nat} {d' : Drawn} {ch : List Addr} (I : Inv X pins σ H s) (u : Un (frs X.stack) ch H H' s.heap h') (hok : HOk X.prog X.w H' h') (hg : AllBare g')
    (hch : ∀ b ∈ ch, (b ∈ X.ex ∨ X.s₀.heap.objs.size ≤ b) ∧ b ≠ X.env.locals ∧ (∀ x c, X.env.cells.lookup x = some c → c ≠ b) ∧ ∀ p ∈ X.pn ++ pins, p.1 ≠ b) :
    Inv X pins σ H' { s with heap := h', gens := g', drawn := d', toks := t' } := by
  obtain ⟨m, ⟨o, es, ep, ho, r⟩, _⟩ := id I.loc
  obtain ⟨sl, hL⟩ := u.any ho I.free fun z => (hch _ z).2.1 rfl
  exact I.step (ch := ch) hch (fun b o hL hb hc e n => u.keep b o e n (fun z => (List.mem_cons.mp (I.stkSub b z)).elim hL hb) hc) (fun b o _ _ hc e n => u.any e n hc) (fun b o hc e n => u.free b o e n hc) (fun b o hc e => u.there b o e hc) u.tups u.frzs u.tbls (fun m' hm => by
    obtain ⟨o', es', ep', ho', r'⟩ := hm
    rw [ho] at ho'; cases ho'
    exact ⟨_, es', ep', hL, r'⟩) hok hg
/-- an untracked record of ours (an iterator) has turned -/
theorem Inv.turned {t' : Nat} {it : Addr} (I : Inv X pins σ H s) (k : ∀ b o, b ≠ it → s.heap.get? b = some o → h'.get? b = some o) (hn : H it = none) (hL : it ≠ X.env.locals)
    (h1 : it ∈ X.ex ∨ X.s₀.heap.objs.size ≤ it) (h2 : ∀ x c, X.env.cells.lookup x = some c → c ≠ it) (h3 : ∀ p ∈ X.pn ++ pins, p.1 ≠ it) : Inv X pins σ H { s with heap := h', toks := t' } := by
  have nit : ∀ b u, H b = some u → b ≠ it := fun b u e z => by rw [z, hn] at e; cases e
  refine I.step (g' := s.gens) (d' := s.drawn) (ch := [it]) (fun b hb => ?_) (fun b o _ _ hc e _ => k b o (fun z => hc (by simp [z])) e) (fun b o _ _ hc e _ => ⟨o.slots, k b o (fun z => hc (by simp [z])) e⟩) (fun _ _ _ _ n => n)
    (fun b o hc e => ⟨o, k b o (fun z => hc (by simp [z])) e⟩) (fun _ _ e => e) (fun _ _ _ e => e) (fun b ps e => ⟨#[], by rw [e]; simp⟩) (fun m hm => ?_) (fun b u e => ?_) I.bare
  · have e : b = it := by simpa using hb
    subst e
    exact ⟨h1, hL, h2, h3⟩
  · obtain ⟨o, es, ep, ho, r⟩ := hm
    exact ⟨o, es, ep, k _ o (Ne.symm hL) ho, r⟩
  · refine (I.hok b u e).stay (fun c v hc q => k c v ?_ q) (fun _ q => q) fun _ _ q => q
    rcases hc with z | z
    · rw [z]; exact nit b u e
    · exact nit c _ z
theorem Inv.tok (I : Inv X pins σ H s) (t : Nat) : Inv X pins σ H { s with toks := t } := I.un (h' := s.heap) (t' := t) Un.refl I.hok
/-- all objects kept -/
theorem Inv.kept {t' : Nat} (I : Inv X pins σ H s) (k : ∀ b u, s.heap.get? b = some u → h'.get? b = some u) : Inv X pins σ H { s with heap := h', toks := t' } := I.un (Un.kept k) (I.hok.kept k)
/-- a new object laid and tracked -/
theorem Inv.laid {a : Addr} {o : HO} {t' : Nat} (I : Inv X pins σ H s) (k : ∀ b u, s.heap.get? b = some u → h'.get? b = some u) (hp : s.heap.objs.size ≤ a) (new : ObjOk X.prog X.w (upd H a o) h' a o) :
    Inv X pins σ (upd H a o) { s with heap := h', toks := t' } := I.un (Un.laid k hp (I.hok.fresh hp)) (I.hok.laid k hp new)
/-- an object written -/
theorem Inv.write {x e : Addr} {o : HO} {t' : Nat} (I : Inv X pins σ H s) (mu : Mut (H x)) (he : e = x ∨ H e = some (.own x)) (k : ∀ b u, b ≠ e → s.heap.get? b = some u → h'.get? b = some u) (heo : ∃ u, h'.get? e = some u)
    (new : ObjOk X.prog X.w (upd H x o) h' x o) : Inv X pins σ (upd H x o) { s with heap := h', toks := t' } := I.un (Un.write mu he k heo) (I.hok.write mu he k heo new)
theorem Inv.pins_of {pins' : List (Addr × Obj)} (I : Inv X pins σ H s) (h : ∀ p ∈ pins', s.heap.get? p.1 = some p.2 ∧ H p.1 = none ∧ p.1 ≠ X.env.locals ∧ p.1 ∉ X.fs ∧ ∀ v, p.2.data ≠ .cell v) : Inv X pins' σ H s :=
  ⟨I.ok, I.os, I.bare, I.base, I.loc, I.cell, I.free, I.freeC, fun p hp => (List.mem_append.mp hp).elim (fun z => I.pin p (List.mem_append_left _ z)) (h p), I.hok, I.len⟩

theorem nodup_ix {N : List Str} (hN : N.Nodup) {i j : Nat} {x : Str} (a : N[i]? = some x) (b : N[j]? = some x) : i = j := by
  obtain ⟨h1, e1⟩ := List.getElem?_eq_some_iff.mp a
  obtain ⟨h2, e2⟩ := List.getElem?_eq_some_iff.mp b
  exact (List.getElem_inj hN).mp (e1.trans e2.symm)

/-- a name is stored; what changed -/
theorem store_ok2 {M : Model} {A : Around} {E : Value → Shared → Prop} {i : Nat} {x : Str} {v : V} {u : Value} {Q : Unit → Shared → Prop} (I : Inv X pins σ H s) (hN : X.N.Nodup) (hi : X.N[i]? = some x) (hx : Loc X.env.scope x) (r : RelV v u)
    (h : ∀ s', Inv X pins (σ.set i (some v)) H s' → (∃ a, Heap.SameBut a s.heap s'.heap ∧ (a = X.env.locals ∨ X.env.cells.lookup x = some a)) → Q () s') (hf : X.fn x = true ∨ X.env.scope.names.lookup x = some .local := by first | exact .inl rfl | exact .inr rfl | assumption) : wpAny M A (storeName X.env x u) Q E s := by
  obtain ⟨m, hn, hl⟩ := id I.loc
  have hcls : (X.env.scope.kind == .class || (X.env.scope.kind == .module && X.env.locals != X.env.globals)) = false := by rw [I.ok.kind]; rfl
  have hiσ : i < σ.length := by rw [I.len]; exact (List.getElem?_eq_some_iff.mp hi).1
  have cne := I.cne
  have tracked : ∀ {a : Addr} {h' : Heap}, (∃ o, s.heap.get? a = some o ∧ H a = none) → Heap.SameBut a s.heap h' → HOk X.prog X.w H h' := fun {a h'} ha hs b ob e => by
    obtain ⟨_, _, hfree⟩ := ha
    refine (I.hok b ob e).stay (fun c w' hc q => (hs.2 c ?_).trans q) (fun _ q => q) fun _ _ q => q
    rintro rfl
    rcases hc with rfl | hc
    · rw [hfree] at e; cases e
    · rw [hfree] at hc; cases hc
  rcases hx with hk | hk
  · refine wpAny_storeName_local hk hn (fun h' hn' hs => ?_) hcls
    obtain ⟨oL, _, _, hoL, _⟩ := id hn
    refine h _ ⟨I.ok, I.os, I.bare, ⟨fun b o e n hb hx => ?_, fun b o e n hb hx => ?_, I.base.free, fun b o e hx => ?_, I.base.tups, I.base.frzs, I.base.tbls⟩, ⟨_, hn', fun j y v' e1 e2 e3 => ?_⟩, fun y c e => ?_, I.free, I.freeC, fun p hp => ?_, tracked ⟨oL, hoL, I.free⟩ hs, by simpa using I.len⟩ ⟨_, hs, .inl rfl⟩
    · exact (hs.2 b (Nat.ne_of_lt (Nat.lt_of_lt_of_le (Heap.lt_size e) I.ok.above))).trans (I.base.keep b o e n hb hx)
    · obtain ⟨sl, e1⟩ := I.base.slot b o e n hb hx
      exact ⟨sl, (hs.2 b (Nat.ne_of_lt (Nat.lt_of_lt_of_le (Heap.lt_size e) I.ok.above))).trans e1⟩
    · obtain ⟨o', e1⟩ := I.base.there b o e hx
      exact ⟨o', (hs.2 b (Nat.ne_of_lt (Nat.lt_of_lt_of_le (Heap.lt_size e) I.ok.above))).trans e1⟩
    · by_cases hj : j = i
      · subst hj
        rw [hi] at e1; cases e1
        rw [List.getElem?_set_self hiσ] at e2
        cases e2
        exact ⟨u, r, .inl ⟨hk, by simp⟩⟩
      · rw [List.getElem?_set_ne (Ne.symm hj)] at e2
        obtain ⟨u', r', q⟩ := hl j y v' e1 e2 e3
        refine ⟨u', r', ?_⟩
        rcases q with ⟨k, e⟩ | ⟨k, c, e, z⟩
        · refine .inl ⟨k, ?_⟩
          have : y ≠ x := fun e => hj (nodup_ix hN e1 (e ▸ hi))
          simp [this, e]
        · exact .inr ⟨k, c, e, z.sameBut hs (cne y c e)⟩
    · obtain ⟨w', z⟩ := I.cell y c e
      exact ⟨w', z.sameBut hs (cne y c e)⟩
    · obtain ⟨e, n, ne, nf, d⟩ := I.pin p hp
      exact ⟨(hs.2 p.1 ne).trans e, n, ne, nf, d⟩
  · have hfn : X.fn x = true := by
      rcases hf with z | z
      · exact z
      · rw [z] at hk; cases hk
    obtain ⟨c, hc⟩ := I.ok.has x (.inl hk)
    obtain ⟨w', z⟩ := I.cell x c hc
    refine wpAny_storeName_cell I.ok.kind hk hc z (fun h' hc' hs => ?_)
    obtain ⟨oc, hoc, hocd⟩ := id z
    refine h { s with heap := h' } ⟨I.ok, I.os, I.bare, ⟨fun b o e n hb hx => ?_, fun b o e n hb hx => ?_, I.base.free, fun b o e hx => ?_, I.base.tups, I.base.frzs, I.base.tbls⟩, ⟨m, hn.sameBut hs (Ne.symm (cne x c hc)), fun j y v' e1 e2 e3 => ?_⟩, fun y c' e => ?_, I.free, I.freeC, fun p hp => ?_, tracked ⟨oc, hoc, I.freeC x c hc⟩ hs, by simpa using I.len⟩ ⟨c, hs, .inr hc⟩
    · exact (hs.2 b (Nat.ne_of_lt (Nat.lt_of_lt_of_le (Heap.lt_size e) (I.ok.cab x c hfn hc)))).trans (I.base.keep b o e n hb hx)
    · obtain ⟨sl, e1⟩ := I.base.slot b o e n hb hx
      exact ⟨sl, (hs.2 b (Nat.ne_of_lt (Nat.lt_of_lt_of_le (Heap.lt_size e) (I.ok.cab x c hfn hc)))).trans e1⟩
    · obtain ⟨o', e1⟩ := I.base.there b o e hx
      exact ⟨o', (hs.2 b (Nat.ne_of_lt (Nat.lt_of_lt_of_le (Heap.lt_size e) (I.ok.cab x c hfn hc)))).trans e1⟩
    · by_cases hj : j = i
      · subst hj
        rw [hi] at e1; cases e1
        rw [List.getElem?_set_self hiσ] at e2
        cases e2
        exact ⟨u, r, .inr ⟨.inl hk, c, hc, hc'⟩⟩
      · rw [List.getElem?_set_ne (Ne.symm hj)] at e2
        obtain ⟨u', r', q⟩ := hl j y v' e1 e2 e3
        refine ⟨u', r', ?_⟩
        rcases q with q | ⟨k, c', e, z'⟩
        · exact .inl q
        · refine .inr ⟨k, c', e, z'.sameBut hs ?_⟩
          rintro rfl
          exact hj (nodup_ix hN e1 (I.ok.inj _ _ _ e hc ▸ hi))
    · by_cases hcc : c' = c
      · subst hcc; exact ⟨_, hc'⟩
      · obtain ⟨w2, z2⟩ := I.cell y c' e
        exact ⟨w2, z2.sameBut hs hcc⟩
    · obtain ⟨e, n, ne, nf, d⟩ := I.pin p hp
      refine ⟨(hs.2 p.1 ?_).trans e, n, ne, nf, d⟩
      intro q
      rw [q, hoc] at e
      have q' : oc = p.2 := Option.some.inj e
      exact d w' (by rw [← q']; exact hocd)
theorem store_ok {M : Model} {A : Around} {E : Value → Shared → Prop} {i : Nat} {x : Str} {v : V} {u : Value} {Q : Unit → Shared → Prop} (I : Inv X pins σ H s) (hN : X.N.Nodup) (hi : X.N[i]? = some x) (hx : Loc X.env.scope x) (r : RelV v u)
    (h : ∀ s', Inv X pins (σ.set i (some v)) H s' → Q () s') (hf : X.fn x = true ∨ X.env.scope.names.lookup x = some .local := by first | exact .inl rfl | exact .inr rfl | assumption) : wpAny M A (storeName X.env x u) Q E s :=
  store_ok2 I hN hi hx r (fun s' I' _ => h s' I') hf
/-- behind a call or a block, the state as it is -/
theorem Inv.call' {s' : Shared} {ch : List Addr} (I : Inv X pins σ H s) (ho : s'.os = s.os) (u : Un (frs X.stack) ch H H' s.heap s'.heap) (hok : HOk X.prog X.w H' s'.heap) (hg : AllBare s'.gens)
    (hch : ∀ b ∈ ch, (b ∈ X.ex ∨ X.s₀.heap.objs.size ≤ b) ∧ b ≠ X.env.locals ∧ (∀ x c, X.env.cells.lookup x = some c → c ≠ b) ∧ ∀ p ∈ X.pn ++ pins, p.1 ≠ b) : Inv X pins σ H' s' := by
  obtain ⟨h', g', d', t', o'⟩ := s'
  have e : o' = s.os := ho
  subst e
  exact I.call (g' := g') (t' := t') (d' := d') u hok hg hch
end

/-! ### the judgements -/
/-- an exception: its class, its own dict's address (where it has one), the abstract heap behind it -/
noncomputable abbrev XK := Value → Option Addr → Hp → Prop
noncomputable abbrev St := List (Option V)
noncomputable abbrev VK := V → Hp → Prop
/-- an expression's reading; a test's; an argument list's -/
noncomputable abbrev TE := St → Hp → VK → Prop
noncomputable abbrev TT := St → Hp → (Bool → Hp → Prop) → Prop
noncomputable abbrev TA := St → Hp → (List V → Hp → Prop) → Prop
/-- what is wanted behind a statement -/
structure Ends where
  nx : St → Hp → Prop
  rt : VK
  bk : St → Hp → Prop := fun _ _ => False
  ct : St → Hp → Prop := fun _ _ => False
noncomputable abbrev TS := Ends → St → Hp → Prop

noncomputable def EP (X : Cx) (pins : List (Addr × Obj)) (σ : St) (Q : VK) (u : Value) (s' : Shared) : Prop := ∃ v H', Inv X pins σ H' s' ∧ RelV v u ∧ Q v H'
noncomputable def TP (X : Cx) (pins : List (Addr × Obj)) (σ : St) (Q : Bool → Hp → Prop) (b : Bool) (s' : Shared) : Prop := ∃ H', Inv X pins σ H' s' ∧ Q b H'
noncomputable def AP (X : Cx) (pins : List (Addr × Obj)) (σ : St) (Q : List V → Hp → Prop) (us : List Value) (s' : Shared) : Prop := ∃ vs H', Inv X pins σ H' s' ∧ Vals vs us ∧ Q vs H'
noncomputable def SP (X : Cx) (pins : List (Addr × Obj)) (D : Ends) (f : Flow) (s' : Shared) : Prop :=
  match f with
  | .next => ∃ σ' H', Inv X pins σ' H' s' ∧ D.nx σ' H'
  | .brk => ∃ σ' H', Inv X pins σ' H' s' ∧ D.bk σ' H'
  | .cont => ∃ σ' H', Inv X pins σ' H' s' ∧ D.ct σ' H'
  | .ret u => ∃ v σ' H', Inv X pins σ' H' s' ∧ RelV v u ∧ D.rt v H'

noncomputable def PE (X : Cx) (e : Expr) (t : TE) : Prop :=
  ∀ (pins : List (Addr × Obj)) (s : Shared) (σ : St) (H : Hp) (Q : VK), Inv X pins σ H s → t σ H Q → wpAny (model X.prog X.w) X.A (eval e X.env) (EP X pins σ Q) X.xe s
noncomputable def PT (X : Cx) (e : Expr) (t : TT) : Prop :=
  ∀ (pins : List (Addr × Obj)) (s : Shared) (σ : St) (H : Hp) (Q : Bool → Hp → Prop), Inv X pins σ H s → t σ H Q → wpAny (model X.prog X.w) X.A (isTrue e X.env (eval e X.env)) (TP X pins σ Q) X.xe s
/-- a test whatever its 'whole' is (and, or) -/
noncomputable def PW (X : Cx) (e : Expr) (t : TT) : Prop :=
  ∀ (whole : Sem Value) (pins : List (Addr × Obj)) (s : Shared) (σ : St) (H : Hp) (Q : Bool → Hp → Prop), Inv X pins σ H s → t σ H Q → wpAny (model X.prog X.w) X.A (isTrue e X.env whole) (TP X pins σ Q) X.xe s
theorem PW.pt {X : Cx} {e : Expr} {t : TT} (h : PW X e t) : PT X e t := h _
/-- an argument list (no star), from the left -/
noncomputable def PA (X : Cx) (es : List Expr) (t : TA) : Prop :=
  ∀ (pos : Pos) (pins : List (Addr × Obj)) (s : Shared) (σ : St) (H : Hp) (Q : List V → Hp → Prop), Inv X pins σ H s → t σ H Q → wpAny (model X.prog X.w) X.A (spliced (backTo pos (starEach es X.env))) (AP X pins σ Q) X.xe s
noncomputable def PS (X : Cx) (st : Stmt) (t : TS) : Prop :=
  ∀ (pins : List (Addr × Obj)) (s : Shared) (σ : St) (H : Hp) (D : Ends), Inv X pins σ H s → t D σ H → wpAny (model X.prog X.w) X.A (exec st X.env) (SP X pins D) X.xe s
noncomputable def PSs (X : Cx) (st : List Stmt) (t : TS) : Prop :=
  ∀ (pins : List (Addr × Obj)) (s : Shared) (σ : St) (H : Hp) (D : Ends), Inv X pins σ H s → t D σ H → wpAny (model X.prog X.w) X.A (execs st X.env) (SP X pins D) X.xe s
/-- weaken the end -/
theorem thn {α : Type} {t : Sem α} {Q Q' : α → Shared → Prop} {M : Model} {A : Around} {E : Value → Shared → Prop} {s : Shared} (h : wpAny M A t Q E s) (hQ : ∀ a s, Q a s → Q' a s) : wpAny M A t Q' E s := wpAny_mono h hQ fun _ _ x => x
end L2

namespace L2
open PySem PySem.Spec PyProof.Rows
section
variable {X : Cx}

/-- two expressions in a row -/
theorem bin {a b : Expr} {ta tb : TE} (ha : PE X a ta) (hb : PE X b tb) {pins : List (Addr × Obj)} {s : Shared} {σ : St} {H : Hp} {R : V → V → Hp → Prop} (I : Inv X pins σ H s) (h : ta σ H fun x H1 => tb σ H1 fun y H2 => R x y H2)
    {α : Type} {Q : α → Shared → Prop} {f : Value → Value → Sem α}
    (hf : ∀ v u s2 x y H2, Inv X pins σ H2 s2 → RelV x v → RelV y u → R x y H2 → wpAny (model X.prog X.w) X.A (f v u) Q X.xe s2) :
    wpAny (model X.prog X.w) X.A (eval a X.env) (fun v s₁ => wpAny (model X.prog X.w) X.A (eval b X.env) (fun u s₂ => wpAny (model X.prog X.w) X.A (f v u) Q X.xe s₂) X.xe s₁) X.xe s := by
  refine thn (ha pins s σ H _ I h) fun v s1 ⟨x, H1, I1, r1, q1⟩ => ?_
  refine thn (hb pins s1 σ H1 _ I1 q1) fun u s2 ⟨y, H2, I2, r2, q2⟩ => ?_
  exact hf v u s2 x y H2 I2 r1 r2 q2

/-! ### names and constants -/
noncomputable def tVar (i : Nat) : TE := fun σ H Q => ∃ v, σ[i]? = some (some v) ∧ Q v H
noncomputable def tC (v : V) : TE := fun _ H Q => Q v H
theorem pe_var {i : Nat} {x : Str} {pos : Pos} (hN : X.N[i]? = some x) (hv : Vis X.env.scope x) (hd : (x == ("__debug__" : Str)) = false := by decide) (hcd : (x == ("__classdict__" : Str)) = false := by decide) : PE X (.Name x pos) (tVar i) := by
  intro pins s σ H Q I h
  obtain ⟨v, e, h⟩ := h
  obtain ⟨m, hn, hl⟩ := I.loc
  obtain ⟨u, r, l⟩ := hl i x v hN e hv
  have fin : EP X pins σ Q u s := ⟨v, H, I, r, h⟩
  rcases l with ⟨hk, hm⟩ | ⟨hk, c, hc, hcell⟩
  · exact wpAny_Name (wpAny_loadName_local I.ok.kind hk hn hm fin) hd
  · rcases hk with hk | hk
    · exact wpAny_Name (wpAny_loadName_cell I.ok.kind hk hc hcell fin) hd
    · exact wpAny_Name (wpAny_loadName_free I.ok.kind hk hc hcell fin hcd) hd
theorem pe_int {i j pos} : PE X (.Constant (.int i) j pos) (tC (.int i)) := fun _ _ _ H _ I h => wpAny_Constant_int ⟨.int i, H, I.tok _, ⟨_, rfl⟩, h⟩
theorem pe_bl {b j pos} : PE X (.Constant (.bool b) j pos) (tC (.bl b)) := fun _ _ _ H _ I h => Constant_bool ⟨.bl b, H, I, rfl, h⟩
theorem pe_non {j pos} : PE X (.Constant .none j pos) (tC .non) := fun _ _ _ H _ I h => Constant_none ⟨.non, H, I, rfl, h⟩
theorem pe_str {x j pos} : PE X (.Constant (.str x) j pos) (tC (.str x)) := fun _ _ _ H _ I h => Calls.Constant_str ⟨.str x, H, I.tok _, ⟨_, rfl⟩, h⟩

/-- a global name of the def -/
noncomputable def Gl (X : Cx) (x : Str) : Prop := X.env.kindOf x = some .globalImplicit
theorem ld_glob {E : Value → Shared → Prop} {pins : List (Addr × Obj)} {s : Shared} {σ : St} {H : Hp} {x : Str} {u : Value} {pos : Pos} {Q : Value → Shared → Prop} (I : Inv X pins σ H s) (hg : Gl X x) (hm : X.mg x = some u) (h : Q u s)
    (hd : (x == ("__debug__" : Str)) = false := by decide) : wpAny (model X.prog X.w) X.A (eval (.Name x pos) X.env) Q E s :=
  Calls.Name_function_global I.ok.kind hg (Calls.loadGlobal_global (by rw [I.ok.glob]; exact I.mod.glob.keeps I.bk) hm h) hd
theorem ld_blt {E : Value → Shared → Prop} {pins : List (Addr × Obj)} {s : Shared} {σ : St} {H : Hp} {x : Str} {u : Value} {pos : Pos} {Q : Value → Shared → Prop} (I : Inv X pins σ H s) (hg : Gl X x) (hm : X.mg x = none) (hv : bootBuiltins x = some u) (h : Q u s)
    (hn : x ≠ "__name__" := by decide) (hd : (x == ("__debug__" : Str)) = false := by decide) : wpAny (model X.prog X.w) X.A (eval (.Name x pos) X.env) Q E s := by
  obtain ⟨mb, h1, h2⟩ := I.mod.blt
  exact Calls.Name_function_global I.ok.kind hg (Calls.loadGlobal_builtin (by rw [I.ok.glob]; exact I.mod.glob.keeps I.bk) hm (by rw [I.ok.blt]; exact h1.keeps I.bk) ((h2 x hn).trans hv) h) hd
/-- a module's constant, a class, a function, as a value -/
theorem pe_glob {x : Str} {v : V} {u : Value} {pos : Pos} (hg : Gl X x) (hm : X.mg x = some u) (r : RelV v u) (hd : (x == ("__debug__" : Str)) = false := by decide) : PE X (.Name x pos) (tC v) :=
  fun _ _ _ H _ I h => ld_glob I hg hm ⟨v, H, I, r, h⟩ hd
theorem pe_bltn {x : Str} {v : V} {u : Value} {pos : Pos} (hg : Gl X x) (hm : X.mg x = none) (hv : bootBuiltins x = some u) (r : RelV v u) (hn : x ≠ "__name__" := by decide) (hd : (x == ("__debug__" : Str)) = false := by decide) : PE X (.Name x pos) (tC v) :=
  fun _ _ _ H _ I h => ld_blt I hg hm hv ⟨v, H, I, r, h⟩ hn hd

/-! ### arithmetic -/
variable {a b : Expr} {ta tb : TE} {pos : Pos}
/-! ### comparisons -/
/-! ### and, or, not -/
variable {tA tB' : TT} {rest : List Expr}
noncomputable def tAnd (t u : TT) : TT := fun σ H Q => t σ H fun c H1 => if c = true then u σ H1 Q else Q false H1
noncomputable def tOr (t u : TT) : TT := fun σ H Q => t σ H fun c H1 => if c = true then Q true H1 else u σ H1 Q
noncomputable def tNot (t : TT) : TT := fun σ H Q => t σ H fun c H1 => Q (!c) H1
theorem pw_and1 (ha : PT X a tA) : PW X (.BoolOp .And [a] pos) tA := by
  intro wh pins s σ H Q I h
  refine isTrue_and (thn (ha pins s σ H Q I h) fun c s1 e => ?_)
  cases c with
  | true => exact isTrue_and_nil e
  | false => exact e
theorem pw_or1 (ha : PT X a tA) : PW X (.BoolOp .Or [a] pos) tA := by
  intro wh pins s σ H Q I h
  refine isTrue_or (thn (ha pins s σ H Q I h) fun c s1 e => ?_)
  cases c with
  | false => exact isTrue_or_nil e
  | true => exact e
theorem pw_and (ha : PT X a tA) (hb : PW X (.BoolOp .And (b :: rest) pos) tB') : PW X (.BoolOp .And (a :: b :: rest) pos) (tAnd tA tB') := by
  intro wh pins s σ H Q I h
  refine isTrue_and (thn (ha pins s σ H _ I h) fun c s1 ⟨H1, I1, q1⟩ => ?_)
  cases c with
  | true => exact hb wh pins s1 σ H1 Q I1 q1
  | false => exact ⟨H1, I1, q1⟩
theorem pw_or (ha : PT X a tA) (hb : PW X (.BoolOp .Or (b :: rest) pos) tB') : PW X (.BoolOp .Or (a :: b :: rest) pos) (tOr tA tB') := by
  intro wh pins s σ H Q I h
  refine isTrue_or (thn (ha pins s σ H _ I h) fun c s1 ⟨H1, I1, q1⟩ => ?_)
  cases c with
  | true => exact ⟨H1, I1, q1⟩
  | false => exact hb wh pins s1 σ H1 Q I1 q1
theorem pt_not (ha : PT X a tA) : PT X (.UnaryOp .Not a pos) (tNot tA) := by
  intro pins s σ H Q I h
  exact isTrue_not (ha pins s σ H (fun c H1 => Q (!c) H1) I h)
/-- .. as values (bools) -/
noncomputable def tAndV (ta tb : TE) : TE := fun σ H Q => ta σ H fun x H1 => ∃ c, x = .bl c ∧ if c = true then tb σ H1 Q else Q (.bl false) H1
noncomputable def tOrV (ta tb : TE) : TE := fun σ H Q => ta σ H fun x H1 => ∃ c, x = .bl c ∧ if c = true then Q (.bl true) H1 else tb σ H1 Q
noncomputable def tNotV (ta : TE) : TE := fun σ H Q => ta σ H fun x H1 => ∃ c, x = .bl c ∧ Q (.bl (!c)) H1
theorem pe_one {op} {t : TE} (h : PE X a t) : PE X (.BoolOp op [a] pos) t := fun pins s σ H Q I hw => BoolOp_one (h pins s σ H Q I hw)
theorem pe_and (ha : PE X a ta) (hb : PE X (.BoolOp .And (b :: rest) pos) tb) : PE X (.BoolOp .And (a :: b :: rest) pos) (tAndV ta tb) := by
  intro pins s σ H Q I h
  refine BoolOp_and (thn (ha pins s σ H _ I h) fun v s1 ⟨x, H1, I1, r1, q1⟩ => ?_)
  obtain ⟨c, rfl, q1⟩ := q1
  cases r1
  refine wpAny_truthy_bool ?_
  cases c with
  | true => exact hb pins s1 σ H1 Q I1 q1
  | false => exact ⟨.bl false, H1, I1, rfl, q1⟩
theorem pe_or (ha : PE X a ta) (hb : PE X (.BoolOp .Or (b :: rest) pos) tb) : PE X (.BoolOp .Or (a :: b :: rest) pos) (tOrV ta tb) := by
  intro pins s σ H Q I h
  refine BoolOp_or (thn (ha pins s σ H _ I h) fun v s1 ⟨x, H1, I1, r1, q1⟩ => ?_)
  obtain ⟨c, rfl, q1⟩ := q1
  cases r1
  refine wpAny_truthy_bool ?_
  cases c with
  | false => exact hb pins s1 σ H1 Q I1 q1
  | true => exact ⟨.bl true, H1, I1, rfl, q1⟩
theorem pe_not (ha : PE X a ta) : PE X (.UnaryOp .Not a pos) (tNotV ta) := by
  intro pins s σ H Q I h
  refine UnaryOp_ (thn (ha pins s σ H _ I h) fun v s1 ⟨x, H1, I1, r1, q1⟩ => ?_)
  obtain ⟨c, rfl, q1⟩ := q1
  cases r1
  exact not_of (wpAny_truthy_bool ⟨.bl (!c), H1, I1, rfl, q1⟩)
/-- a if t else b -/
noncomputable def tIf (t : TT) (ta tb : TE) : TE := fun σ H Q => t σ H fun c H1 => if c = true then ta σ H1 Q else tb σ H1 Q
theorem pe_ifExp {c : Expr} (hc : PT X c tA) (ha : PE X a ta) (hb : PE X b tb) : PE X (.IfExp c a b pos) (tIf tA ta tb) := by
  intro pins s σ H Q I h
  refine wpAny_IfExp (thn (hc pins s σ H _ I h) fun d s1 ⟨H1, I1, q1⟩ => ?_)
  cases d with
  | true => exact ha pins s1 σ H1 Q I1 q1
  | false => exact hb pins s1 σ H1 Q I1 q1
end
end L2

namespace L2
open PySem PySem.Spec PyProof.Rows

/-! ### a list, a tuple that is read: tracked, frozen, or an object of the module -/
noncomputable def SqL (K : PySem.W.Frag) (H : Hp) (a : Addr) (xs : List V) : Prop :=
  Rd H a (.lst xs) ∨
    ∃ (o : Obj) (its : Array Value) (n : Nat), K.lookup a = some o ∧ o.cls = .type "list" ∧ o.dict = none ∧ o.data = .seq its n ∧ its.size ≤ sizeLine ∧ Vals xs its.toList
noncomputable def SqT (K : PySem.W.Frag) (H : Hp) (a : Addr) (xs : List V) : Prop :=
  Rd H a (.tup xs) ∨
    ∃ (o : Obj) (its : Array Value) (n : Nat), K.lookup a = some o ∧ o.cls = .type "tuple" ∧ o.data = .seq its n ∧ its.size ≤ sizeLine ∧ Vals xs its.toList
noncomputable def absV : Value → Option V
  | .none => some .non
  | .bool b => some (.bl b)
  | .int i _ => some (.int i)
  | .str x _ => some (.str x)
  | .bytes b _ => some (.byt b)
  | .float b _ => some (.flt b)
  | .ref a => some (.ref a)
  | .type n => some (.ty n)
  | _ => none
theorem RelV.abs {x : V} {u : Value} (r : RelV x u) : absV u = some x := by
  cases x with
  | non => cases r; rfl
  | bl _ => cases r; rfl
  | int _ => obtain ⟨t, rfl⟩ := r; rfl
  | str _ => obtain ⟨t, rfl⟩ := r; rfl
  | byt _ => obtain ⟨t, rfl⟩ := r; rfl
  | flt _ => obtain ⟨t, rfl⟩ := r; rfl
  | ref _ => cases r; rfl
  | ty _ => cases r; rfl
theorem RelV.inj {x y : V} {u : Value} (r : RelV x u) (q : RelV y u) : x = y := Option.some.inj (r.abs.symm.trans q.abs)
theorem Vals.inj : ∀ {xs ys : List V} {us : List Value}, Vals xs us → Vals ys us → xs = ys
  | _, _, _, .nil, .nil => rfl
  | _, _, _, .cons r t, .cons r' t' => by rw [r.inj r', Vals.inj t t']
section
variable {X : Cx} {pins : List (Addr × Obj)} {σ : St} {H : Hp} {s : Shared} {a : Addr} {xs ys : List V}
theorem SqL.of {K : PySem.W.Frag} (h : H a = some (.lst xs)) : SqL K H a xs := .inl (.inl h)
theorem SqT.of {K : PySem.W.Frag} (h : H a = some (.tup xs)) : SqT K H a xs := .inl (.inl h)
theorem Inv.list (I : Inv X pins σ H s) (h : SqL X.K H a xs) : ∃ its : List Value, Vals xs its ∧ PlainL s.heap a its.toArray ∧ xs.length ≤ sizeLine := by
  rcases h with h | ⟨o, its, n, hk, hc, hd, hs, hz, r⟩
  · obtain ⟨z, its, n, r, e⟩ := h.ok I.hok
    exact ⟨its, r, ⟨_, n, e, rfl, rfl, rfl⟩, z⟩
  · refine ⟨its.toList, r, ⟨o, n, I.kIn a o hk, hc, hd, by simpa using hs⟩, ?_⟩
    have e := r.length
    simp only [Array.length_toList] at e
    omega
theorem Inv.tuple (I : Inv X pins σ H s) (h : SqT X.K H a xs) : ∃ its : List Value, Vals xs its ∧ IsTup s.heap a its.toArray ∧ xs.length ≤ sizeLine := by
  rcases h with h | ⟨o, its, n, hk, hc, hs, hz, r⟩
  · obtain ⟨z, its, r, p⟩ := h.ok I.hok
    exact ⟨its, r, p, z⟩
  · refine ⟨its.toList, r, ⟨o, I.kIn a o hk, hc, n, by simpa using hs⟩, ?_⟩
    have e := r.length
    simp only [Array.length_toList] at e
    omega
theorem Inv.list_inj (I : Inv X pins σ H s) (h : SqL X.K H a xs) (h' : SqL X.K H a ys) : xs = ys := by
  obtain ⟨its, r, ⟨o, n, e, _, _, d⟩, _⟩ := I.list h
  obtain ⟨its', r', ⟨o', n', e', _, _, d'⟩, _⟩ := I.list h'
  rw [e] at e'; cases e'
  rw [d] at d'
  injection d' with d1 _
  have : its = its' := by simpa using congrArg Array.toList d1
  subst this
  exact r.inj r'
theorem Inv.tuple_inj (I : Inv X pins σ H s) (h : SqT X.K H a xs) (h' : SqT X.K H a ys) : xs = ys := by
  obtain ⟨its, r, ⟨o, e, _, n, d⟩, _⟩ := I.tuple h
  obtain ⟨its', r', ⟨o', e', _, n', d'⟩, _⟩ := I.tuple h'
  rw [e] at e'; cases e'
  rw [d] at d'
  injection d' with d1 _
  have : its = its' := by simpa using congrArg Array.toList d1
  subst this
  exact r.inj r'
end

/-! ### another wish about exceptions -/
section
variable {X : Cx} {pins : List (Addr × Obj)} {σ : St} {H : Hp} {s : Shared} {E : Value → Shared → Prop}
end

/-! ### blocks and small statements -/
section
variable {X : Cx} {st : Stmt} {rest : List Stmt} {t u : TS} {e : Expr} {te : TE} {pos : Pos}
noncomputable def tNext : TS := fun D σ H => D.nx σ H
noncomputable def tSeq (t u : TS) : TS := fun D σ H => t { D with nx := u D } σ H
theorem pss_nil : PSs X [] tNext := fun _ _ σ H _ I h => wpAny_execs_nil ⟨σ, H, I, h⟩
theorem pss_cons (h1 : PS X st t) (h2 : PSs X rest u) : PSs X (st :: rest) (tSeq t u) := by
  intro pins s σ H D I h
  refine wpAny_execs_cons (thn (h1 pins s σ H { D with nx := u D } I h) fun f s1 q => ?_)
  cases f with
  | next =>
    obtain ⟨σ', H', I', q⟩ := q
    exact h2 pins s1 σ' H' D I' q
  | ret v => exact q
  | brk => exact q
  | cont => exact q
/-- in a def's body nothing is shown -/
theorem Inv.quiet {pins : List (Addr × Obj)} {σ : St} {H : Hp} {s : Shared} (I : Inv X pins σ H s) : interactive X.env = false := by simp [interactive, I.ok.kind]
/-- an expression whose value is dropped -/
noncomputable def tDrop (te : TE) : TS := fun D σ H => te σ H fun _ H1 => D.nx σ H1
theorem ps_expr (he : PE X e te) (hs : swapsWith e none pos.line X.env = pure false := by rfl) : PS X (.Expr e pos) (tDrop te) := by
  intro pins s σ H D I h
  exact wpAny_Expr_any (thn (he pins s σ H _ I h) fun v s1 ⟨x, H1, I1, r1, q1⟩ => ⟨σ, H1, I1, q1⟩) I.quiet hs
noncomputable def tRet (te : TE) : TS := fun D σ H => te σ H D.rt
theorem ps_ret (he : PE X e te) : PS X (.Return (some e) pos) (tRet te) := by
  intro pins s σ H D I h
  exact wpAny_Return_some (thn (he pins s σ H _ I h) fun v s1 ⟨x, H1, I1, r1, q1⟩ => ⟨x, σ, H1, I1, r1, q1⟩)
noncomputable def tIfS (c : TT) (t u : TS) : TS := fun D σ H => c σ H fun b H1 => if b = true then t D σ H1 else u D σ H1
theorem ps_if {c : Expr} {a b : List Stmt} {tc : TT} (hc : PT X c tc) (ha : PSs X a t) (hb : PSs X b u) : PS X (.If c a b pos) (tIfS tc t u) := by
  intro pins s σ H D I h
  refine wpAny_If (thn (hc pins s σ H _ I h) fun d s1 ⟨H1, I1, q1⟩ => ?_)
  cases d with
  | true => exact ha pins s1 σ H1 D I1 q1
  | false => exact hb pins s1 σ H1 D I1 q1
end

/-! ### targets -/
noncomputable abbrev TG := V → St → Hp → (St → Hp → Prop) → Prop
noncomputable abbrev TGs := List V → St → Hp → (St → Hp → Prop) → Prop
noncomputable def PG (X : Cx) (target : Expr) (t : TG) : Prop :=
  ∀ (pins : List (Addr × Obj)) (s : Shared) (σ : St) (H : Hp) (v : V) (u : Value) (Q : St → Hp → Prop), Inv X pins σ H s → RelV v u → t v σ H Q →
    wpAny (model X.prog X.w) X.A (assign target X.env u) (fun _ s' => ∃ σ' H', Inv X pins σ' H' s' ∧ Q σ' H') X.xe s
/-- several targets, one after another -/
noncomputable def PGs (X : Cx) (ts : List Expr) (t : TGs) : Prop :=
  ∀ (pins : List (Addr × Obj)) (s : Shared) (σ : St) (H : Hp) (vs : List V) (us : List Value) (Q : St → Hp → Prop), Inv X pins σ H s → Vals vs us → t vs σ H Q →
    wpAny (model X.prog X.w) X.A (assignInOrder ((assignEach ts X.env).map (·.2)) us) (fun _ s' => ∃ σ' H', Inv X pins σ' H' s' ∧ Q σ' H') X.xe s
/-- o[i] = v, by values -/
noncomputable abbrev TSet := V → V → V → Hp → (Hp → Prop) → Prop
noncomputable def PSet (X : Cx) (t : TSet) : Prop :=
  ∀ (pins : List (Addr × Obj)) (s : Shared) (σ : St) (H : Hp) (o i v : V) (ov iv u : Value) (Q : Hp → Prop), Inv X pins σ H s → RelV o ov → RelV i iv → RelV v u → t o i v H Q →
    wpAny (model X.prog X.w) X.A (setItem ov iv u) (fun _ s' => ∃ H', Inv X pins σ H' s' ∧ Q H') X.xe s
section
variable {X : Cx} {pos : Pos}
noncomputable def gName (i : Nat) : TG := fun v σ H Q => Q (σ.set i (some v)) H
theorem pg_name {i : Nat} {x : Str} (hN : X.N.Nodup) (hi : X.N[i]? = some x) (hx : Loc X.env.scope x) (hf : X.fn x = true ∨ X.env.scope.names.lookup x = some .local := by first | exact .inl rfl | exact .inr rfl | assumption) : PG X (.Name x pos) (gName i) := by
  intro pins s σ H v u Q I r h
  exact wpAny_assign_Name (store_ok I hN hi hx r (fun s' I' => ⟨_, H, I', h⟩) hf)
noncomputable def gNil : TGs := fun vs σ H Q => vs = [] ∧ Q σ H
noncomputable def gCons (t : TG) (u : TGs) : TGs := fun vs σ H Q => ∃ v r, vs = v :: r ∧ t v σ H fun σ' H' => u r σ' H' Q
theorem pgs_nil : PGs X [] gNil := by
  intro pins s σ H vs us Q I r h
  obtain ⟨e, h⟩ := h
  subst e
  cases r
  exact assignInOrder_nil ⟨σ, H, I, h⟩
theorem pgs_cons {e : Expr} {es : List Expr} {t : TG} {u : TGs} (h1 : PG X e t) (h2 : PGs X es u)
    (hs : (assignEach (e :: es) X.env).map (·.2) = assign e X.env :: (assignEach es X.env).map (·.2) := by rfl) : PGs X (e :: es) (gCons t u) := by
  intro pins s σ H vs us Q I r h
  obtain ⟨v, vr, e1, h⟩ := h
  subst e1
  cases r with
  | cons r rr =>
    rw [hs]
    refine assignInOrder_cons (thn (h1 pins s σ H _ _ _ I r h) fun _ s1 ⟨σ1, H1, I1, q1⟩ => ?_)
    exact h2 pins s1 σ1 H1 _ _ Q I1 rr q1
/-- (a, b, ..) = a tuple of that length -/
noncomputable def gTup (K : PySem.W.Frag) (n : Nat) (t : TGs) : TG := fun v σ H Q => ∃ a xs, v = .ref a ∧ SqT K H a xs ∧ xs.length = n ∧ t xs σ H Q
theorem pg_tup {es : List Expr} {k : Nat} {t : TGs} {n : Nat} (hc : X.calm = true) (h : PGs X es t)
    (hn : (assignEach es X.env).length = n := by rfl) (hst : (assignEach es X.env).findIdx? (·.1) = none := by rfl) : PG X (.Tuple es k pos) (gTup X.K n t) := by
  intro pins s σ H v u Q I r hw
  obtain ⟨a, xs, e1, hq, hl, hw⟩ := hw
  subst e1
  cases r
  obtain ⟨its, rv, ht, hz⟩ := I.tuple hq
  refine assign_Tuple_tuple (I.ok.hd hc) ht (by simp [hn, ← hl, rv.length]) hst fun h' hx => ?_
  have I1 : Inv X pins σ H { s with heap := h' } := I.kept (t' := s.toks) fun b o e => hx b o (Nat.ne_of_lt (Heap.lt_size e)) e
  exact h pins _ σ H xs _ Q I1 (by simpa using rv) hw
/-- o[i] = .. -/
noncomputable def gSub (to ti : TE) (t : TSet) : TG := fun v σ H Q => to σ H fun o H1 => ti σ H1 fun i H2 => t o i v H2 fun H3 => Q σ H3
theorem pg_sub {o i : Expr} {to ti : TE} {t : TSet} (ho : PE X o to) (hi : PE X i ti) (hs : PSet X t)
    (ha : ∀ v, assign (.Subscript o i pos) X.env v = (do
      let ov ← holding [v] (eval o X.env)
      let iv ← holding [v, ov] (eval i X.env)
      standAt pos
      holding [v, ov, iv] (setItem ov iv v)
      release [v, ov, iv] []) := by intro _; rfl) : PG X (.Subscript o i pos) (gSub to ti t) := by
  intro pins s σ H v u Q I r h
  rw [ha]
  refine wpAny_bind (wpAny_holding (thn (ho pins s σ H _ I h) fun ov s1 ⟨x, H1, I1, r1, q1⟩ => ?_))
  refine wpAny_bind (wpAny_holding (thn (hi pins s1 σ H1 _ I1 q1) fun iv s2 ⟨y, H2, I2, r2, q2⟩ => ?_))
  refine wpAny_bind (wpAny_standAt (wpAny_bind (wpAny_holding (thn (hs pins s2 σ H2 x y v ov iv u _ I2 r1 r2 r q2) fun _ s3 ⟨H3, I3, q3⟩ => ?_))))
  exact wpAny_release ⟨σ, H3, I3, q3⟩
/-- target = value -/
noncomputable def tAsg (te : TE) (g : TG) : TS := fun D σ H => te σ H fun x H1 => g x σ H1 D.nx
theorem ps_asg {tg e : Expr} {te : TE} {g : TG} (he : PE X e te) (hg : PG X tg g) (hs : swapsWithSole [tg] e pos.line X.env = pure false := by rfl) (hw : swappedStores [tg] e X.env = pure none := by rfl)
    (h1 : (assignEach [tg] X.env).map (·.2) = [assign tg X.env] := by rfl) : PS X (.Assign [tg] e pos) (tAsg te g) := by
  intro pins s σ H D I h
  refine wpAny_Assign_stores (thn (he pins s σ H _ I h) fun v s1 ⟨x, H1, I1, r1, q1⟩ => ?_) hs hw
  rw [h1]
  exact thn (hg pins s1 σ H1 x v _ I1 r1 q1) fun _ s2 q => q
/-- name = value -/
theorem ps_set {i : Nat} {x : Str} {e : Expr} {te : TE} {pos' : Pos} (hN : X.N.Nodup) (hi : X.N[i]? = some x) (hx : Loc X.env.scope x) (he : PE X e te) (hs : swapsWith e (some (.Name x pos')) pos.line X.env = pure false := by rfl) (hf : X.fn x = true ∨ X.env.scope.names.lookup x = some .local := by first | exact .inl rfl | exact .inr rfl | assumption) :
    PS X (.Assign [.Name x pos'] e pos) (tAsg te (gName i)) := by
  intro pins s σ H D I h
  refine wpAny_Assign_Name (thn (he pins s σ H _ I h) fun v s1 ⟨y, H1, I1, r1, q1⟩ => ?_) hs
  exact store_ok I1 hN hi hx r1 (fun s2 I2 => ⟨_, H1, I2, q1⟩) hf
end

/-! ### while -/
section
variable {X : Cx} {pos : Pos}
/-- the invariant W with its measure -/
noncomputable def tWhile (c : TT) (tb : TS) : TS := fun D σ H => ∃ W : Nat → St → Hp → Prop, (∃ m, W m σ H) ∧ ∀ m σ H, W m σ H →
  c σ H fun b H1 => if b = true then ∃ N : St → Hp → Prop, (∀ σ' H', N σ' H' → ∃ m', m' < m ∧ W m' σ' H') ∧ tb { D with nx := N, ct := N, bk := D.nx } σ H1 else D.nx σ H1
theorem ps_while {c : Expr} {body : List Stmt} {tc : TT} {tb : TS} (hp : PassesOwn (model X.prog X.w) X.A X.env X.xe) (hc : PT X c tc) (hb : PSs X body tb) : PS X (.While c body [] pos) (tWhile tc tb) := by
  intro pins s σ H D I h
  obtain ⟨W, ⟨m0, w0⟩, turn⟩ := h
  refine wpAny_While (codeAny_whileLoop (fun n s' => ∃ σ' H', Inv X pins σ' H' s' ∧ W n σ' H') ?_ m0 ⟨σ, H, I, w0⟩)
  rintro n s1 ⟨σ1, H1, I1, w1⟩
  refine wpAny_passesOwn hp (thn (hc pins s1 σ1 H1 _ I1 (turn n σ1 H1 w1)) fun b s2 ⟨H2, I2, q2⟩ => ?_)
  cases b with
  | true =>
    obtain ⟨N, hN, q2⟩ := q2
    rw [if_pos rfl]
    refine wpAny_passesOwn hp (thn (hb pins s2 σ1 H2 _ I2 q2) fun f s3 q3 => ?_)
    cases f with
    | next =>
      obtain ⟨σ3, H3, I3, n3⟩ := q3
      obtain ⟨m', hm, w3⟩ := hN σ3 H3 n3
      exact ⟨m', hm, σ3, H3, I3, w3⟩
    | cont =>
      obtain ⟨σ3, H3, I3, n3⟩ := q3
      obtain ⟨m', hm, w3⟩ := hN σ3 H3 n3
      exact ⟨m', hm, σ3, H3, I3, w3⟩
    | brk => exact q3
    | ret v => exact q3
  | false =>
    rw [if_neg Bool.false_ne_true]
    exact wpAny_execs_nil ⟨σ1, H2, I2, q2⟩
end

/-! ### what a loop or a comprehension walks -/
/-- at turn i: it yields x (the heap may grow), or it stops -/
structure It where
  go : Nat → Hp → Prop
  yld : Nat → Hp → V → Hp → Prop
  stop : Nat → Hp → Prop
/-- the iterator's own objects may turn: they are not the frame's, not pinned, younger than the entry (or a comprehension's own) -/
noncomputable def FpOk (X : Cx) (pins : List (Addr × Obj)) (H : Hp) (b : Addr) : Prop :=
  H b = none ∧ b ≠ X.env.locals ∧ b ∉ X.fs ∧ (b ∈ X.ex ∨ X.s₀.heap.objs.size ≤ b) ∧ (∀ x c, X.env.cells.lookup x = some c → c ≠ b) ∧ ∀ p ∈ X.pn ++ pins, p.1 ≠ b
theorem Inv.fpOk {X : Cx} {pins : List (Addr × Obj)} {σ : St} {H H' : Hp} {s : Shared} {b : Addr} (I : Inv X pins σ H s) (hb : s.heap.objs.size ≤ b) (hn : H' b = none) : FpOk X pins H' b := by
  refine ⟨hn, Nat.ne_of_gt (Nat.lt_of_lt_of_le I.lt hb), I.nofs hb, .inr (Nat.le_trans I.sz hb), fun x c e z => ?_, fun p hp z => ?_⟩
  · obtain ⟨v, q⟩ := I.cell x c e
    exact absurd (Nat.lt_of_lt_of_le q.lt (by rw [z]; exact hb)) (Nat.lt_irrefl _)
  · exact absurd (Nat.lt_of_lt_of_le (Heap.lt_size (I.pin p hp).1) (by rw [z]; exact hb)) (Nat.lt_irrefl _)
structure Turn (P : Program) (w : World) (K : PySem.W.Frag) (tg : Expr) (J : It) (fp : List Addr) (it : Addr) (tn : Nat → Heap → Prop) : Prop where
  mem : it ∈ fp
  obj : ∀ i h, tn i h → ∀ b ∈ fp, ∃ o, h.get? b = some o ∧ ∀ v, o.data ≠ .cell v
  keep : ∀ i h h', tn i h → (∀ b ∈ fp, ∀ o, h.get? b = some o → h'.get? b = some o) → tn i h'
  item : ∀ (X : Cx), X.prog = P → X.w = w → X.K = K → X.calm = true → ∀ (i : Nat) (pins : List (Addr × Obj)) (s : Shared) (σ : St) (H : Hp) (E : Value → Shared → Prop), Inv X pins σ H s → (∀ b ∈ fp, FpOk X pins H b) → tn i s.heap → J.go i H →
    wpAny (model P w) X.A (pyNext (.ref it)) (fun r s1 => ∃ u, r = some u ∧
      wpAny (model P w) X.A (letOwnedTupleGo tg (.ref it) u) (fun _ s2 => ∃ x H', Inv X pins σ H' s2 ∧ RelV x u ∧ J.yld i H x H' ∧ tn (i + 1) s2.heap ∧ ∀ b ∈ fp, H' b = none) E s1) E s
  done : ∀ (X : Cx), X.prog = P → X.w = w → X.K = K → X.calm = true → ∀ (i : Nat) (pins : List (Addr × Obj)) (s : Shared) (σ : St) (H : Hp) (E : Value → Shared → Prop), Inv X pins σ H s → (∀ b ∈ fp, FpOk X pins H b) → tn i s.heap → J.stop i H →
    wpAny (model P w) X.A (pyNext (.ref it)) (fun r s1 => r = none ∧ Inv X pins σ H s1) E s
  self : ∀ (A : Around) (i : Nat) (s : Shared) (Q : Value → Shared → Prop) (E : Value → Shared → Prop), tn i s.heap → Q (.ref it) s → wpAny (model P w) A (pyIter (.ref it)) Q E s
noncomputable abbrev TI := St → Hp → (It → Hp → Prop) → Prop
/-- an iterator has come -/
noncomputable def PIE (X : Cx) (pins : List (Addr × Obj)) (σ : St) (tg : Expr) (R : It → Hp → Prop) (itv : Value) (s2 : Shared) : Prop :=
  ∃ (it : Addr) (fp : List Addr) (tn : Nat → Heap → Prop) (J : It) (H' : Hp), itv = .ref it ∧ Inv X pins σ H' s2 ∧ Turn X.prog X.w X.K tg J fp it tn ∧ tn 0 s2.heap ∧ (∀ b ∈ fp, FpOk X pins H' b) ∧ R J H'
noncomputable def PI (X : Cx) (tg iter : Expr) (wi : TI) : Prop :=
  ∀ (pins : List (Addr × Obj)) (s : Shared) (σ : St) (H : Hp) (R : It → Hp → Prop), Inv X pins σ H s → wi σ H R →
    wpAny (model X.prog X.w) X.A (eval iter X.env) (fun v s1 => wpAny (model X.prog X.w) X.A (pyIter v) (PIE X pins σ tg R) X.xe s1) X.xe s

/-- the step ahead of the store is nothing for an iterator that keeps no tuple -/
theorem go_of {M : Model} {A : Around} {E : Value → Shared → Prop} {s : Shared} {tg : Expr} {it : Addr} {u : Value} {o : Obj} {n : String} {vs : Array Value} {Q : Unit → Shared → Prop} (ho : s.heap.get? it = some o) (hc : o.cls = .type n) (hd : o.data = .fields vs)
    (hn : ["enumerate", "zip", "dict_itemiterator", "dict_reverseitemiterator", "odict_iterator", "itertools.zip_longest", "itertools.pairwise"].contains n = false) (hQ : Q () s) : wpAny M A (letOwnedTupleGo tg (.ref it) u) Q E s := by
  unfold letOwnedTupleGo
  cases tg <;> first
    | exact wpAny_pure hQ
    | (cases u <;> first
        | exact wpAny_pure hQ
        | (refine wpAny_bind (wpAny_load ho ?_)
           rw [hc, hd]
           show wpAny M A (if (["enumerate", "zip", "dict_itemiterator", "dict_reverseitemiterator", "odict_iterator", "itertools.zip_longest", "itertools.pairwise"].contains n && vs[0]? == some (rawInt _)) = true then _ else _) Q E s
           rw [if_neg (by intro h; rw [hn, Bool.false_and] at h; cases h)]
           exact wpAny_pure hQ))

/-- the list at a, as it stands at each turn (a loop may append to it) -/
noncomputable def Itl (K : PySem.W.Frag) (a : Addr) : It :=
  ⟨fun i H => ∃ xs x, SqL K H a xs ∧ xs[i]? = some x, fun i H x H' => H' = H ∧ ∀ xs, SqL K H a xs → xs[i]? = some x, fun i H => ∃ xs, SqL K H a xs ∧ xs.length ≤ i⟩
noncomputable def Itt (K : PySem.W.Frag) (a : Addr) : It :=
  ⟨fun i H => ∃ xs x, SqT K H a xs ∧ xs[i]? = some x, fun i H x H' => H' = H ∧ ∀ xs, SqT K H a xs → xs[i]? = some x, fun i H => ∃ xs, SqT K H a xs ∧ xs.length ≤ i⟩
/-- lo, lo + 1, .. (n of them) -/
noncomputable def Itr (lo : Int) (n : Nat) : It := ⟨fun i _ => i < n, fun i H x H' => H' = H ∧ x = .int (lo + i), fun i _ => n ≤ i⟩
theorem turn_list {P : Program} {w : World} {K : PySem.W.Frag} {tg : Expr} (a it : Addr) : Turn P w K tg (Itl K a) [it] it (fun i h => h.IsListIter it a i) where
  mem := by simp
  obj := fun i h st b hb => by
    have e : b = it := by simpa using hb
    subst e
    obtain ⟨o, e, c, d⟩ := st
    exact ⟨o, e, fun v z => by rw [d] at z; cases z⟩
  keep := fun i h h' st k => st.at fun o e => k it (by simp) o e
  item := by
    intro X hP hw hK hc i pins s σ H E I hf st hg
    subst hP hw hK
    obtain ⟨xs, x, hq, hx⟩ := hg
    obtain ⟨its, rv, p, hz⟩ := I.list hq
    obtain ⟨u, hu, ru⟩ := rv.get hx
    obtain ⟨f0, f1, f2, f3, f4, f5⟩ := hf it (by simp)
    refine wpAny_pyNext_list_item st p.isList (x := u) (by simpa using hu) fun h' st' sb => ?_
    have I1 : Inv X pins σ H { s with heap := h' } := I.turned (t' := s.toks) (fun b o hb e => (sb.2 b hb).trans e) f0 f1 f3 f4 f5
    obtain ⟨o, e, c, d⟩ := id st'
    exact ⟨u, rfl, go_of (s := { s with heap := h' }) e c d (by decide) ⟨x, H, I1, ru, ⟨rfl, fun ys hy => by rw [I.list_inj hy hq]; exact hx⟩, st', fun b hb => (hf b hb).1⟩⟩
  done := by
    intro X hP hw hK hc i pins s σ H E I hf st hg
    subst hP hw hK
    obtain ⟨xs, hq, hx⟩ := hg
    obtain ⟨its, rv, p, hz⟩ := I.list hq
    obtain ⟨f0, f1, f2, f3, f4, f5⟩ := hf it (by simp)
    have hl := rv.length
    exact wpAny_pyNext_list_end (I.ok.hd hc) st p.isList (by simp; omega) fun h' eb => ⟨rfl, I.turned (t' := s.toks) (fun b o hb e => eb b o hb e) f0 f1 f3 f4 f5⟩
  self := fun _ _ _ _ _ st h => wpAny_pyIter_listiter st h
theorem turn_tuple {P : Program} {w : World} {K : PySem.W.Frag} {tg : Expr} (a it : Addr) : Turn P w K tg (Itt K a) [it] it (fun i h => h.IsTupleIter it a i) where
  mem := by simp
  obj := fun i h st b hb => by
    have e : b = it := by simpa using hb
    subst e
    obtain ⟨o, e, c, d⟩ := st
    exact ⟨o, e, fun v z => by rw [d] at z; cases z⟩
  keep := fun i h h' st k => st.at fun o e => k it (by simp) o e
  item := by
    intro X hP hw hK hc i pins s σ H E I hf st hg
    subst hP hw hK
    obtain ⟨xs, x, hq, hx⟩ := hg
    obtain ⟨its, rv, p, hz⟩ := I.tuple hq
    obtain ⟨u, hu, ru⟩ := rv.get hx
    obtain ⟨f0, f1, f2, f3, f4, f5⟩ := hf it (by simp)
    refine wpAny_pyNext_tuple_item st (show s.heap.IsTuple a its.toArray from p) (x := u) (by simpa using hu) fun h' st' sb => ?_
    have I1 : Inv X pins σ H { s with heap := h' } := I.turned (t' := s.toks) (fun b o hb e => (sb.2 b hb).trans e) f0 f1 f3 f4 f5
    obtain ⟨o, e, c, d⟩ := id st'
    exact ⟨u, rfl, go_of (s := { s with heap := h' }) e c d (by decide) ⟨x, H, I1, ru, ⟨rfl, fun ys hy => by rw [I.tuple_inj hy hq]; exact hx⟩, st', fun b hb => (hf b hb).1⟩⟩
  done := by
    intro X hP hw hK hc i pins s σ H E I hf st hg
    subst hP hw hK
    obtain ⟨xs, hq, hx⟩ := hg
    obtain ⟨its, rv, p, hz⟩ := I.tuple hq
    obtain ⟨f0, f1, f2, f3, f4, f5⟩ := hf it (by simp)
    have hl := rv.length
    exact wpAny_pyNext_tuple_end (I.ok.hd hc) st (show s.heap.IsTuple a its.toArray from p) (by simp; omega) fun h' eb => ⟨rfl, I.turned (t' := s.toks) (fun b o hb e => eb b o hb e) f0 f1 f3 f4 f5⟩
  self := fun _ _ _ _ _ st h => wpAny_pyIter_tupleiter st h
theorem turn_range {P : Program} {w : World} {K : PySem.W.Frag} {tg : Expr} (it : Addr) (lo : Int) (n : Nat) : Turn P w K tg (Itr lo n) [it] it (fun i h => IsRangeIter h it (lo + (i : Nat) * 1) ((n : Int) - (i : Nat)) 1) where
  mem := by simp
  obj := fun i h st b hb => by
    have e : b = it := by simpa using hb
    subst e
    exact ⟨_, st, fun v z => by
      have z' : Data.fields _ = Data.cell v := z
      cases z'⟩
  keep := fun i h h' st k => k it (by simp) _ st
  item := by
    intro X hP hw hK hc i pins s σ H E I hf st hg
    subst hP hw hK
    obtain ⟨f0, f1, f2, f3, f4, f5⟩ := hf it (by simp)
    have W := Walks.range (prog := X.prog) (w := X.w) (I.ok.hd hc) it lo 1 n
    refine W.item i s _ _ hg st fun v h' tk hv st' kk => ?_
    obtain ⟨t, rfl⟩ := hv
    have I1 : Inv X pins σ H { s with heap := h', toks := tk } := I.turned (fun b o hb e => kk b o (by simpa using hb) e) f0 f1 f3 f4 f5
    refine ⟨_, rfl, go_of (s := { s with heap := h', toks := tk }) (n := "range_iterator") st' rfl rfl (by decide) ⟨.int (lo + i), H, I1, ⟨t, ?_⟩, ⟨rfl, rfl⟩, st', fun b hb => (hf b hb).1⟩⟩
    rw [Int.mul_one]
  done := by
    intro X hP hw hK hc i pins s σ H E I hf st hg
    subst hP hw hK
    obtain ⟨f0, f1, f2, f3, f4, f5⟩ := hf it (by simp)
    exact wpAny_pyNext_range_end (I.ok.hd hc) st (by have : n ≤ i := hg; omega) fun h' eb => ⟨rfl, I.turned (t' := s.toks) (fun b o hb e => eb b o hb e) f0 f1 f3 f4 f5⟩
  self := fun _ _ _ _ _ st h => wpAny_pyIter_rangeiter st h
end L2

namespace L2
open PySem PySem.Spec PyProof.Rows
section
variable {X : Cx} {tg : Expr}
/-- a range object just made, walked -/
theorem range_it {pins : List (Addr × Obj)} {σ : St} {H : Hp} {s : Shared} {R : It → Hp → Prop} {E : Value → Shared → Prop} {lo hi : Int} {t u v : Tok} {tk : Nat} (I : Inv X pins σ H s) (h1 : -(2 ^ 62) ≤ lo) (h2 : lo < 2 ^ 62) (h3 : -(2 ^ 62) ≤ hi) (h4 : hi < 2 ^ 62)
    (q : R (Itr lo (hi - lo).toNat) H) : wpAny (model X.prog X.w) X.A (pyIter (.ref s.heap.objs.size)) (PIE X pins σ tg R) E { s with heap := s.heap.push { cls := .type "range", data := .fields #[.int lo t, .int hi u, .int 1 v] }, toks := tk } := by
  refine wpAny_pyIter_range (IsRange.new ..) (small_one h1 h2 h3 h4) ?_
  have I1 : Inv X pins σ H { s with heap := s.heap.push { cls := .type "range", data := .fields #[.int lo t, .int hi u, .int 1 v] }, toks := tk } := I.kept fun b o e => Heap.get?_push_of_some _ e
  refine ⟨(s.heap.push { cls := .type "range", data := .fields #[.int lo t, .int hi u, .int 1 v] }).objs.size, [(s.heap.push { cls := .type "range", data := .fields #[.int lo t, .int hi u, .int 1 v] }).objs.size], _, _, H, rfl,
    I1.kept (t' := tk) fun b o e => Heap.get?_push_of_some _ e, turn_range _ lo (hi - lo).toNat, ?_, fun b hb => ?_, q⟩
  · have e1 : lo + ((0 : Nat) : Int) * 1 = lo := by simp
    have e2 : (((hi - lo).toNat : Nat) : Int) - ((0 : Nat) : Int) = Builtin.Range.rangeSize lo hi 1 := by rw [rangeSize_one]; split <;> omega
    show IsRangeIter _ _ (lo + ((0 : Nat) : Int) * 1) ((((hi - lo).toNat : Nat) : Int) - ((0 : Nat) : Int)) 1
    rw [e1, e2]
    exact Heap.get?_push_size _ rfl
  · have e : b = (s.heap.push { cls := .type "range", data := .fields #[.int lo t, .int hi u, .int 1 v] }).objs.size := by simpa using hb
    subst e
    exact I1.fpOk (Nat.le_refl _) (I1.hok.fresh (Nat.le_refl _))
noncomputable def iRng1 (ta : TA) : TI := fun σ H R => ta σ H fun vs H1 => ∃ j : Int, vs = [.int j] ∧ -(2 ^ 62) ≤ j ∧ j < 2 ^ 62 ∧ R (Itr 0 j.toNat) H1
theorem pi_range1 {a : Expr} {ta : TA} {p pos : Pos} (hg : Gl X "range") (hm : X.mg "range" = none) (ha : PA X [a] ta) (hs : starEach [a] X.env = [(false, eval a X.env)] := by rfl) : PI X tg (.Call (.Name "range" p) [a] [] pos) (iRng1 ta) := by
  intro pins s σ H R I h
  refine Call_ (ld_blt I hg hm boot_range (PyProof.Rows.callWith_type1 (thn (ha pos pins s σ H _ I h) fun us s1 ⟨vs, H1, I1, r1, q1⟩ => ?_) hs rfl))
  obtain ⟨j, e, q1, q2, q⟩ := q1
  subst e
  cases r1 with
  | cons r rr =>
    cases rr
    obtain ⟨t, rfl⟩ := r
    exact call_range_1 (range_it I1 (by omega) (by omega) q1 q2 (by simpa using q))
/-! ### for -/
/-- W: the invariant by the turn and a measure; N: what the body is to reach -/
noncomputable def tFor (wi : TI) (g : TG) (tb : TS) : TS := fun D σ H => wi σ H fun J H1 => ∃ W : Nat → Nat → St → Hp → Prop, (∃ m, W 0 m σ H1) ∧ ∀ i m σ H, W i m σ H →
  (J.stop i H ∧ D.nx σ H) ∨ (J.go i H ∧ ∃ N : St → Hp → Prop, (∀ σ' H', N σ' H' → ∃ m', m' < m ∧ W (i + 1) m' σ' H') ∧ ∀ x H', J.yld i H x H' → g x σ H' fun σ2 H2 => tb { D with nx := N, ct := N, bk := D.nx } σ2 H2)
/-- the records at fp as they stand -/
noncomputable def pinsAt (fp : List Addr) (h : Heap) : List (Addr × Obj) := fp.filterMap fun b => (h.get? b).map fun o => (b, o)
theorem mem_pinsAt {fp : List Addr} {h : Heap} {b : Addr} {o : Obj} (hb : b ∈ fp) (e : h.get? b = some o) : (b, o) ∈ pinsAt fp h := List.mem_filterMap.mpr ⟨b, hb, by rw [e]; rfl⟩
theorem of_pinsAt {fp : List Addr} {h : Heap} {p : Addr × Obj} (hp : p ∈ pinsAt fp h) : p.1 ∈ fp ∧ h.get? p.1 = some p.2 := by
  obtain ⟨b, hb, e⟩ := List.mem_filterMap.mp hp
  cases q : h.get? b with
  | none => rw [q] at e; cases e
  | some o =>
    rw [q] at e
    have e' : (b, o) = p := Option.some.inj e
    subst e'
    exact ⟨hb, q⟩
theorem Inv.pinned {pins : List (Addr × Obj)} {σ : St} {H : Hp} {s : Shared} {fp : List Addr} (I : Inv X pins σ H s) (hf : ∀ b ∈ fp, FpOk X pins H b) (ho : ∀ b ∈ fp, ∃ o, s.heap.get? b = some o ∧ ∀ v, o.data ≠ .cell v) : Inv X (pins ++ pinsAt fp s.heap) σ H s :=
  I.pins_of fun p hp => (List.mem_append.mp hp).elim (fun z => I.pin p (List.mem_append_right _ z)) fun z => by
    obtain ⟨hb, e⟩ := of_pinsAt z
    obtain ⟨f0, f1, f2, _⟩ := hf p.1 hb
    obtain ⟨o, e', d⟩ := ho p.1 hb
    rw [e] at e'; cases e'
    exact ⟨e, f0, f1, f2, d⟩
theorem Inv.unpinned {pins pl : List (Addr × Obj)} {σ : St} {H : Hp} {s : Shared} (I : Inv X (pins ++ pl) σ H s) : Inv X pins σ H s := I.pins_of fun p hp => I.pin p (List.mem_append_right _ (List.mem_append_left _ hp))
theorem ps_for {iter : Expr} {body : List Stmt} {wi : TI} {g : TG} {tb : TS} {pos : Pos} (hp : PassesOwn (model X.prog X.w) X.A X.env X.xe) (hc : X.calm = true) (hi : PI X tg iter wi) (hg : PG X tg g) (hb : PSs X body tb)
    (hs : ∀ x, foldedSetIterable iter X.env x = pure x := by intro _; rfl) : PS X (.For tg iter body [] pos) (tFor wi g tb) := by
  intro pins s σ H D I h
  refine wpAny_For (thn (hi pins s σ H _ I h) fun v s1 h1 => thn h1 fun itv s2 h2 => ?_) hs
  obtain ⟨it, fp, tn, J, H2, e, I2, T, st2, f2, W, ⟨m0, w0⟩, turn⟩ := h2
  subst e
  -- what stays true of the iterator's objects through the loop
  have stat : ∀ {H' : Hp}, (∀ b ∈ fp, H' b = none) → ∀ b ∈ fp, FpOk X pins H' b := fun hn b hb => ⟨hn b hb, (f2 b hb).2⟩
  refine codeAny_forLoop_any (fun n s' => ∃ i σ' H', Inv X pins σ' H' s' ∧ tn i s'.heap ∧ (∀ b ∈ fp, H' b = none) ∧ W i n σ' H') ?_ m0 ⟨0, σ, H2, I2, st2, fun b hb => (f2 b hb).1, w0⟩
  rintro n s3 ⟨i, σ3, H3, I3, st3, fr3, w3⟩
  rcases turn i n σ3 H3 w3 with ⟨stop, qn⟩ | ⟨go, N, hN, step⟩
  · refine wpAny_passesOwn hp (thn (T.done X rfl rfl rfl hc i pins s3 σ3 H3 X.xe I3 (stat fr3) st3 stop) fun r s4 ⟨hr, I4⟩ => ?_)
    subst hr
    exact wpAny_execs_nil ⟨σ3, H3, I4, qn⟩
  · refine wpAny_passesOwn hp (thn (T.item X rfl rfl rfl hc i pins s3 σ3 H3 X.xe I3 (stat fr3) st3 go) fun r s4 ⟨u, hr, h4⟩ => ?_)
    subst hr
    refine wpAny_passesOwn hp (thn h4 fun _ s5 ⟨x, H5, I5, r5, y5, st5, fr5⟩ => ?_)
    have I5' := I5.pinned (stat fr5) (T.obj _ _ st5)
    refine wpAny_passesOwn hp (thn (hg _ s5 σ3 H5 x u _ I5' r5 (step x H5 y5)) fun _ s6 ⟨σ6, H6, I6, q6⟩ => ?_)
    refine wpAny_passesOwn hp (thn (hb _ s6 σ6 H6 _ I6 q6) fun f s7 q7 => ?_)
    have again : ∀ {σ7 : St} {H7 : Hp}, Inv X (pins ++ pinsAt fp s5.heap) σ7 H7 s7 → N σ7 H7 → ∃ m, m < n ∧ ∃ i σ' H', Inv X pins σ' H' s7 ∧ tn i s7.heap ∧ (∀ b ∈ fp, H' b = none) ∧ W i m σ' H' := fun {σ7 H7} I7 n7 => by
      obtain ⟨m', hm, w7⟩ := hN σ7 H7 n7
      refine ⟨m', hm, i + 1, σ7, H7, I7.unpinned, T.keep _ _ _ st5 fun b hb o e => (I7.pin (b, o) (List.mem_append_right _ (List.mem_append_right _ (mem_pinsAt hb e)))).1, fun b hb => ?_, w7⟩
      obtain ⟨o, e, d⟩ := T.obj _ _ st5 b hb
      exact (I7.pin (b, o) (List.mem_append_right _ (List.mem_append_right _ (mem_pinsAt hb e)))).2.1
    cases f with
    | next => obtain ⟨σ7, H7, I7, n7⟩ := q7; exact again I7 n7
    | cont => obtain ⟨σ7, H7, I7, n7⟩ := q7; exact again I7 n7
    | brk => obtain ⟨σ7, H7, I7, q7⟩ := q7; exact ⟨σ7, H7, I7.unpinned, q7⟩
    | ret v => obtain ⟨x7, σ7, H7, I7, r7, q7⟩ := q7; exact ⟨x7, σ7, H7, I7.unpinned, r7, q7⟩
end

/-! ### the forms one uses -/
end L2

namespace L2
open PySem PySem.Spec PyProof.Rows

noncomputable abbrev R2 := V → V → Hp → VK → Prop
/-- a two-place operation on values: f is binaryOp op, inplaceOp op or compareOp op -/
noncomputable def OpR (X : Cx) (f : Value → Value → Sem Value) (r : R2) : Prop :=
  ∀ (pins : List (Addr × Obj)) (s : Shared) (σ : St) (H : Hp) (x y : V) (v u : Value) (Q : VK), Inv X pins σ H s → RelV x v → RelV y u → r x y H Q →
    wpAny (model X.prog X.w) X.A (f v u) (EP X pins σ Q) X.xe s
/-- a one-place operation -/
noncomputable def UnR (X : Cx) (f : Value → Sem Value) (r : V → Hp → VK → Prop) : Prop :=
  ∀ (pins : List (Addr × Obj)) (s : Shared) (σ : St) (H : Hp) (x : V) (v : Value) (Q : VK), Inv X pins σ H s → RelV x v → r x H Q →
    wpAny (model X.prog X.w) X.A (f v) (EP X pins σ Q) X.xe s
/-- a call of a value that is known (a builtin, a type) with values -/
noncomputable def CallR (X : Cx) (f : Value) (r : List V → Hp → VK → Prop) : Prop :=
  ∀ (pins : List (Addr × Obj)) (s : Shared) (σ : St) (H : Hp) (xs : List V) (us : List Value) (Q : VK), Inv X pins σ H s → Vals xs us → r xs H Q →
    wpAny (model X.prog X.w) X.A (call f us) (EP X pins σ Q) X.xe s
/-- a value's truth -/
noncomputable def TruR (X : Cx) (r : V → Hp → (Bool → Hp → Prop) → Prop) : Prop :=
  ∀ (pins : List (Addr × Obj)) (s : Shared) (σ : St) (H : Hp) (x : V) (v : Value) (Q : Bool → Hp → Prop), Inv X pins σ H s → RelV x v → r x H Q →
    wpAny (model X.prog X.w) X.A (truthy v) (TP X pins σ Q) X.xe s

noncomputable def tOp (r : R2) (ta tb : TE) : TE := fun σ H Q => ta σ H fun x H1 => tb σ H1 fun y H2 => r x y H2 Q
noncomputable def tUn (r : V → Hp → VK → Prop) (ta : TE) : TE := fun σ H Q => ta σ H fun x H1 => r x H1 Q
/-- ints in, under C, and a value out -/
noncomputable def rI (C : Int → Int → Prop) (g : Int → Int → V) : R2 := fun x y H Q => ∃ i j, x = .int i ∧ y = .int j ∧ C i j ∧ Q (g i j) H
noncomputable def rI0 (g : Int → Int → V) : R2 := fun x y H Q => ∃ i j, x = .int i ∧ y = .int j ∧ Q (g i j) H
noncomputable def rU (g : Int → V) : V → Hp → VK → Prop := fun x H Q => ∃ i, x = .int i ∧ Q (g i) H

section
variable {X : Cx} {a b c : Expr} {ta tb tc : TE} {pos : Pos}

theorem binT (ha : PE X a ta) (hb : PE X b tb) {pins : List (Addr × Obj)} {s : Shared} {σ : St} {H : Hp} {R : V → V → Hp → Prop} (I : Inv X pins σ H s)
    (h : ta σ H fun x H1 => tb σ H1 fun y H2 => R x y H2) {Q : Value → Shared → Prop} {f : Value → Value → Sem Value}
    (hf : ∀ v u s2 x y H2, Inv X pins σ H2 s2 → RelV x v → RelV y u → R x y H2 → wpAny (model X.prog X.w) X.A (f v u) Q X.xe s2) :
    wpAny (model X.prog X.w) X.A (eval a X.env) (fun v s₁ => wpAny (model X.prog X.w) X.A (eval b X.env) (fun u s₂ => wpAny (model X.prog X.w) X.A (f v u) Q X.xe s₂) X.xe s₁) X.xe s := by
  refine thn (ha pins s σ H _ I h) fun v s1 ⟨x, H1, I1, r1, q1⟩ => ?_
  refine thn (hb pins s1 σ H1 _ I1 q1) fun u s2 ⟨y, H2, I2, r2, q2⟩ => ?_
  exact hf v u s2 x y H2 I2 r1 r2 q2

theorem pe_op {op : Operator} {r : R2} (ho : OpR X (binaryOp op) r) (ha : PE X a ta) (hb : PE X b tb) : PE X (.BinOp a op b pos) (tOp r ta tb) := by
  intro pins s σ H Q I h
  exact wpAny_BinOp (binT ha hb I h fun v u s2 x y H2 I2 rx ry q => ho pins s2 σ H2 x y v u Q I2 rx ry q)
theorem pe_un {op : UnaryOp} {r : V → Hp → VK → Prop} (ho : UnR X (unaryOp op) r) (ha : PE X a ta) : PE X (.UnaryOp op a pos) (tUn r ta) := by
  intro pins s σ H Q I h
  exact UnaryOp_ (thn (ha pins s σ H _ I h) fun v s1 ⟨x, H1, I1, r1, q1⟩ => ho pins s1 σ H1 x v Q I1 r1 q1)
/-! ### ints -/
theorem opI {f : Value → Value → Sem Value} {C : Int → Int → Prop} {g : Int → Int → Int}
    (rule : ∀ (i j : Int) (t u : Tok) (s : Shared) (Q : Value → Shared → Prop) (E : Value → Shared → Prop), C i j → Q (.int (g i j) s.toks) { s with toks := s.toks + 1 } → wpAny (model X.prog X.w) X.A (f (.int i t) (.int j u)) Q E s) :
    OpR X f (rI C fun i j => .int (g i j)) := by
  intro pins s σ H x y v u Q I rx ry h
  obtain ⟨i, j, rfl, rfl, hc, q⟩ := h
  obtain ⟨t, rfl⟩ := rx
  obtain ⟨t', rfl⟩ := ry
  exact rule i j t t' s _ _ hc ⟨.int (g i j), H, I.tok _, ⟨_, rfl⟩, q⟩
theorem opI0 {f : Value → Value → Sem Value} {g : Int → Int → Int}
    (rule : ∀ (i j : Int) (t u : Tok) (s : Shared) (Q : Value → Shared → Prop) (E : Value → Shared → Prop), Q (.int (g i j) s.toks) { s with toks := s.toks + 1 } → wpAny (model X.prog X.w) X.A (f (.int i t) (.int j u)) Q E s) :
    OpR X f (rI0 fun i j => .int (g i j)) := by
  intro pins s σ H x y v u Q I rx ry h
  obtain ⟨i, j, rfl, rfl, q⟩ := h
  obtain ⟨t, rfl⟩ := rx
  obtain ⟨t', rfl⟩ := ry
  exact rule i j t t' s _ _ ⟨.int (g i j), H, I.tok _, ⟨_, rfl⟩, q⟩
theorem opB0 {f : Value → Value → Sem Value} {g : Int → Int → Bool}
    (rule : ∀ (i j : Int) (t u : Tok) (s : Shared) (Q : Value → Shared → Prop) (E : Value → Shared → Prop), Q (.bool (g i j)) s → wpAny (model X.prog X.w) X.A (f (.int i t) (.int j u)) Q E s) :
    OpR X f (rI0 fun i j => .bl (g i j)) := by
  intro pins s σ H x y v u Q I rx ry h
  obtain ⟨i, j, rfl, rfl, q⟩ := h
  obtain ⟨t, rfl⟩ := rx
  obtain ⟨t', rfl⟩ := ry
  exact rule i j t t' s _ _ ⟨.bl (g i j), H, I, rfl, q⟩

noncomputable def CPow (i j : Int) : Prop := 0 ≤ j ∧ j ≤ 1000000 ∧ i.natAbs < 2 ^ 64
noncomputable def CMul (i j : Int) : Prop := (-(2 ^ 64) < i ∧ i < 2 ^ 64) ∨ (-(2 ^ 64) < j ∧ j < 2 ^ 64)
theorem CMul.ok {i j : Int} (h : CMul i j) : IntMulOk i j := by
  rcases h with ⟨h1, h2⟩ | ⟨h1, h2⟩
  · exact .of_left (intBits_le_64 h1 h2)
  · exact .of_right (intBits_le_64 h1 h2)
theorem op_add : OpR X (binaryOp .Add) (rI0 fun i j => .int (i + j)) := opI0 fun _ _ _ _ _ _ _ q => add_int q
theorem op_sub : OpR X (binaryOp .Sub) (rI0 fun i j => .int (i - j)) := opI0 fun _ _ _ _ _ _ _ q => sub_int q
theorem op_mul : OpR X (binaryOp .Mult) (rI CMul fun i j => .int (i * j)) := opI fun _ _ _ _ _ _ _ hc q => mul_int q hc.ok
/-- % by a positive divisor of any size -/
theorem op_mod : OpR X (binaryOp .Mod) (rI (fun _ j => 0 < j) fun i j => .int (i % j)) := opI fun i j _ _ _ _ _ hc q => by
  have h1 : (0 : Int) < j := hc
  exact mod_int' (by omega) (by rw [Int.fmod_eq_emod_of_nonneg i (by omega)]; exact q)
theorem op_pow : OpR X (binaryOp .Pow) (rI CPow fun i j => .int (i ^ j.toNat)) := opI fun _ _ _ _ _ _ _ hc q => pow_int_small hc.1 hc.2.1 hc.2.2 q
theorem unI {f : Value → Sem Value} {g : Int → Int}
    (rule : ∀ (i : Int) (t : Tok) (s : Shared) (Q : Value → Shared → Prop) (E : Value → Shared → Prop), Q (.int (g i) s.toks) { s with toks := s.toks + 1 } → wpAny (model X.prog X.w) X.A (f (.int i t)) Q E s) :
    UnR X f (rU fun i => .int (g i)) := by
  intro pins s σ H x v Q I rx h
  obtain ⟨i, rfl, q⟩ := h
  obtain ⟨t, rfl⟩ := rx
  exact rule i t s _ _ ⟨.int (g i), H, I.tok _, ⟨_, rfl⟩, q⟩
theorem un_neg : UnR X (unaryOp .USub) (rU fun i => .int (-i)) := unI fun _ _ _ _ _ q => neg_int q
/-! ### bools among ints: n += (a < b) -/
end

/-! ### comparisons -/
section
variable {X : Cx} {a b c : Expr} {ta tb tc : TE} {pos : Pos}
theorem fin_bl {pins : List (Addr × Obj)} {σ : St} {H : Hp} {s : Shared} {Q : VK} {k k' : Bool} (I : Inv X pins σ H s) (q : Q (.bl k) H) (e : k = k') : EP X pins σ Q (.bool k') s := by
  subst e
  exact ⟨.bl k, H, I, rfl, q⟩
theorem op_lt : OpR X (compareOp .Lt) (rI0 fun i j => .bl (decide (i < j))) := opB0 fun _ _ _ _ _ _ _ q => lt_int q
theorem op_le : OpR X (compareOp .LtE) (rI0 fun i j => .bl (decide (i ≤ j))) := opB0 fun _ _ _ _ _ _ _ q => le_int q
theorem op_gt : OpR X (compareOp .Gt) (rI0 fun i j => .bl (decide (j < i))) := opB0 fun _ _ _ _ _ _ _ q => gt_int q
theorem op_ge : OpR X (compareOp .GtE) (rI0 fun i j => .bl (decide (j ≤ i))) := opB0 fun _ _ _ _ _ _ _ q => ge_int q
theorem op_lt_str : OpR X (compareOp .Lt) (fun x y H Q => ∃ i j, x = .str i ∧ y = .str j ∧ Q (.bl (decide (i.cps.toList < j.cps.toList))) H) := by
  intro pins s σ H x y v u Q I rx ry h
  obtain ⟨i, j, rfl, rfl, q⟩ := h
  obtain ⟨t, rfl⟩ := rx
  obtain ⟨t', rfl⟩ := ry
  exact lt_str (fin_bl I q rfl)
/-- the one string within the other -/
theorem op_in_str : OpR X (compareOp .In) (fun x y H Q => ∃ i j, x = .str i ∧ y = .str j ∧ Q (.bl (!(Builtin.Str.occurrences j i 0 j.length 1).isEmpty)) H) := by
  intro pins s σ H x y v u Q I rx ry h
  obtain ⟨i, j, rfl, rfl, q⟩ := h
  obtain ⟨t, rfl⟩ := rx
  obtain ⟨t', rfl⟩ := ry
  exact in_str (fin_bl I q rfl)

/-- is None, is not None: the right side a value none -/
theorem op_isN : OpR X (compareOp .Is) (fun x y H Q => y = .non ∧ Q (.bl (decide (x = .non))) H) := by
  intro pins s σ H x y v u Q I rx ry h
  obtain ⟨rfl, q⟩ := h
  cases ry
  refine is_none_gen (fin_bl I q ?_)
  cases x <;> first
    | (cases rx; rfl)
    | (obtain ⟨t, rfl⟩ := rx; rfl)
theorem op_notN : OpR X (compareOp .IsNot) (fun x y H Q => y = .non ∧ Q (.bl (!decide (x = .non))) H) := by
  intro pins s σ H x y v u Q I rx ry h
  obtain ⟨rfl, q⟩ := h
  cases ry
  refine isnot_none_gen (fin_bl I q ?_)
  cases x <;> first
    | (cases rx; rfl)
    | (obtain ⟨t, rfl⟩ := rx; rfl)

theorem op_notin_str : OpR X (compareOp .NotIn) (fun x y H Q => ∃ i j, x = .str i ∧ y = .str j ∧ Q (.bl (!(!(Builtin.Str.occurrences j i 0 j.length 1).isEmpty))) H) := by
  intro pins s σ H x y v u Q I rx ry h
  obtain ⟨i, j, rfl, rfl, q⟩ := h
  obtain ⟨t, rfl⟩ := rx
  obtain ⟨t', rfl⟩ := ry
  exact notIn_str (fin_bl I q rfl)
/-- a comparison as a value; hm: nomark b, or (for in, not in) by with_unfolding_all rfl -/
theorem pe_cmpR {op : CmpOp} {r : R2} (ho : OpR X (compareOp op) r) (ha : PE X a ta) (hb : PE X b tb) (hm : behindInMarks op b = false) : PE X (.Compare a [op] [b] pos) (tOp r ta tb) := by
  intro pins s σ H Q I h
  exact wpAny_Compare1 (binT ha hb I h fun v u s2 x y H2 I2 rx ry q => ho pins s2 σ H2 x y v u Q I2 rx ry q) hm
/-- a reading of a value as a test -/
noncomputable def tTest (t : TE) : TT := fun σ H Q => t σ H fun x H' => ∃ k, x = .bl k ∧ Q k H'
theorem pt_cmpR {op : CmpOp} {r : R2} (ho : OpR X (compareOp op) r) (ha : PE X a ta) (hb : PE X b tb) (hm : behindInMarks op b = false) : PT X (.Compare a [op] [b] pos) (tTest (tOp r ta tb)) := by
  intro pins s σ H Q I h
  refine wpAny_isTrue_Compare1 (thn (ha pins s σ H _ I h) fun v s1 ⟨x, H1, I1, r1, q1⟩ => thn (hb pins s1 σ H1 _ I1 q1) fun u s2 ⟨y, H2, I2, r2, q2⟩ =>
    thn (ho pins s2 σ H2 x y v u _ I2 r1 r2 q2) fun c s3 ⟨z, H3, I3, r3, k, e, q3⟩ => ?_) hm
  subst e
  cases r3
  exact wpAny_truthy_bool ⟨H3, I3, q3⟩
/-- a op1 b op2 c -/
noncomputable def tChain (r r' : R2) (ta tb tc : TE) : TE := fun σ H Q => ta σ H fun x H1 => tb σ H1 fun y H2 => r x y H2 fun z H3 => ∃ k, z = .bl k ∧
  (if k = true then tc σ H3 fun w' H4 => r' y w' H4 Q else Q (.bl false) H3)
theorem pe_chain {op op' : CmpOp} {r r' : R2} (ho : OpR X (compareOp op) r) (ho' : OpR X (compareOp op') r') (ha : PE X a ta) (hb : PE X b tb) (hc : PE X c tc)
    (hm : lastMarks [op, op'] [b, c] = false := by with_unfolding_all rfl) : PE X (.Compare a [op, op'] [b, c] pos) (tChain r r' ta tb tc) := by
  intro pins s σ H Q I h
  refine Compare_chain (thn (ha pins s σ H _ I h) fun v s1 ⟨x, H1, I1, r1, q1⟩ => chain_link (thn (hb pins s1 σ H1 _ I1 q1) fun u s2 ⟨y, H2, I2, r2, q2⟩ =>
    thn (ho pins s2 σ H2 x y v u _ I2 r1 r2 q2) fun d s3 ⟨z, H3, I3, r3, k, e, q3⟩ => ?_)) hm
  subst e
  cases r3
  refine wpAny_truthy_bool ?_
  cases k with
  | false => exact ite_ff ⟨.bl false, H3, I3, rfl, q3⟩
  | true => exact ite_tt (chain_last (thn (hc pins s3 σ H3 _ I3 q3) fun w' s4 ⟨z', H4, I4, r4, q4⟩ => ho' pins s4 σ H4 y z' u w' Q I4 r2 r4 q4))
theorem pt_chain {op op' : CmpOp} {r r' : R2} (ho : OpR X (compareOp op) r) (ho' : OpR X (compareOp op') r') (ha : PE X a ta) (hb : PE X b tb) (hc : PE X c tc)
    (hm : lastMarks [op, op'] [b, c] = false := by with_unfolding_all rfl) : PT X (.Compare a [op, op'] [b, c] pos) (tTest (tChain r r' ta tb tc)) := by
  intro pins s σ H Q I h
  refine isTrue_chain (thn (ha pins s σ H _ I h) fun v s1 ⟨x, H1, I1, r1, q1⟩ => test_link (thn (hb pins s1 σ H1 _ I1 q1) fun u s2 ⟨y, H2, I2, r2, q2⟩ =>
    thn (ho pins s2 σ H2 x y v u _ I2 r1 r2 q2) fun d s3 ⟨z, H3, I3, r3, k, e, q3⟩ => ?_)) hm
  subst e
  cases r3
  refine wpAny_truthy_bool ?_
  cases k with
  | false =>
    obtain ⟨k', e', q'⟩ := q3
    cases e'
    exact ite_ff ⟨H3, I3, q'⟩
  | true =>
    refine ite_tt (test_last (thn (hc pins s3 σ H3 _ I3 q3) fun w' s4 ⟨z', H4, I4, r4, q4⟩ => thn (ho' pins s4 σ H4 y z' u w' _ I4 r2 r4 q4) fun d' s5 ⟨z2, H5, I5, r5, k2, e2, q5⟩ => ?_))
    subst e2
    cases r5
    exact wpAny_truthy_bool ⟨H5, I5, q5⟩

/-! ### truth -/
/-- a value's truth by the abstract heap -/
noncomputable def TruV (K : PySem.W.Frag) (x : V) (H : Hp) (k : Bool) : Prop :=
  match x with
  | .non => k = false
  | .bl b => k = b
  | .int i => k = (i != 0)
  | .str y => y.length ≤ sizeLine ∧ k = ((y.length : Int) != 0)
  | .byt y => y.size ≤ sizeLine ∧ k = ((y.size : Int) != 0)
  | .ref p => (∃ xs, SqL K H p xs ∧ k = !xs.isEmpty) ∨ (∃ xs, SqT K H p xs ∧ k = !xs.isEmpty) ∨ ∃ kvs, H p = some (.dK kvs) ∧ k = !kvs.isEmpty
  | _ => False
theorem isEmpty_kv {κ : Type} {kvs : List (κ × V)} {vs : List (κ × Value)} (r : KV kvs vs) : (!vs.isEmpty) = !kvs.isEmpty := by
  cases r <;> rfl
theorem isEmpty_of {xs : List V} {its : List Value} (r : Vals xs its) : (!its.toArray.isEmpty) = !xs.isEmpty := by
  cases r <;> simp
theorem line63 : (sizeLine : Nat) < 2 ^ 63 := by rw [sizeLine_eq]; decide
theorem tru_ok : TruR X (fun x H Q => ∃ k, TruV X.K x H k ∧ Q k H) := by
  intro pins s σ H x v Q I rx h
  obtain ⟨k, e, q⟩ := h
  have hl := line63
  have hs : sizeLine = 16777216 := sizeLine_eq
  cases x with
  | non =>
    cases rx
    have e' : k = false := e
    subst e'
    exact truthy_none ⟨H, I, q⟩
  | bl b =>
    cases rx
    have e' : k = b := e
    subst e'
    exact wpAny_truthy_bool ⟨H, I, q⟩
  | int i =>
    obtain ⟨t, rfl⟩ := rx
    have e' : k = (i != 0) := e
    subst e'
    exact PySem.P.truthy_int ⟨H, I, q⟩
  | str y =>
    obtain ⟨t, rfl⟩ := rx
    obtain ⟨hy, e'⟩ : y.length ≤ sizeLine ∧ k = ((y.length : Int) != 0) := e
    subst e'
    exact PySem.P.truthy_str (by omega) ⟨H, I.tok _, q⟩
  | byt y =>
    obtain ⟨t, rfl⟩ := rx
    obtain ⟨hy, e'⟩ : y.size ≤ sizeLine ∧ k = ((y.size : Int) != 0) := e
    subst e'
    exact PySem.W.truthy_bytes (by omega) ⟨H, I.tok _, q⟩
  | ref p =>
    cases rx
    have e' : (∃ xs, SqL X.K H p xs ∧ k = !xs.isEmpty) ∨ (∃ xs, SqT X.K H p xs ∧ k = !xs.isEmpty) ∨ ∃ kvs, H p = some (.dK kvs) ∧ k = !kvs.isEmpty := e
    rcases e' with ⟨xs, hx, e'⟩ | ⟨xs, hx, e'⟩ | ⟨kvs, hx, e'⟩
    · subst e'
      obtain ⟨its, r, pl, hz⟩ := I.list hx
      have hlen := r.length
      exact wpAny_truthy_list pl.isList (by simp only [List.size_toArray]; omega) ⟨H, I.tok _, by rw [isEmpty_of r]; exact q⟩
    · subst e'
      obtain ⟨its, r, pl, hz⟩ := I.tuple hx
      have hlen := r.length
      exact truthy_tuple pl (by simp only [List.size_toArray]; omega) ⟨H, I.tok _, by rw [isEmpty_of r]; exact q⟩
    · subst e'
      obtain ⟨hz, hS, vs, r, m⟩ : kvs.length ≤ sizeLine ∧ (p == sysModules) = false ∧ ∃ vs, KV kvs vs ∧ s.heap.DictOf (mixKind X.prog X.w) p vs := I.hok p _ hx
      have hlen : kvs.length = vs.length := Paired.length r
      exact wpAny_truthy_dict hS m (by omega) ⟨H, I.tok _, by rw [isEmpty_kv r]; exact q⟩
  | _ => exact (show False from e).elim
/-- any expression whose test is its value's truth (a name, a call, a subscript, a field ..: he by fun _ => rfl) -/
theorem pt_truth (ha : PE X a ta) (he : ∀ whole, isTrue a X.env whole = (do let v ← whole; standAt a.pos; holding [v] (truthy v))) :
    PT X a (fun σ H Q => ta σ H fun x H' => ∃ k, TruV X.K x H' k ∧ Q k H') := by
  intro pins s σ H Q I h
  exact isTrue_plain (thn (ha pins s σ H _ I h) fun v s1 ⟨x, H1, I1, r1, q1⟩ => tru_ok pins s1 σ H1 x v Q I1 r1 q1) (he _)

/-! ### strs and bytes -/
theorem op_add_str : OpR X (binaryOp .Add) (fun x y H Q => ∃ i j, x = .str i ∧ y = .str j ∧ i.length + j.length ≤ sizeLine ∧ Q (.str (i ++ j)) H) := by
  intro pins s σ H x y v u Q I rx ry h
  obtain ⟨i, j, rfl, rfl, hz, q⟩ := h
  obtain ⟨t, rfl⟩ := rx
  obtain ⟨t', rfl⟩ := ry
  exact add_str (fun t' tk => ⟨.str (i ++ j), H, I.tok _, ⟨_, rfl⟩, q⟩) hz
/-! ### scalar builtins, by CallR -/
theorem vals1 {x : V} {us : List Value} (r : Vals [x] us) : ∃ u, us = [u] ∧ RelV x u := by
  cases r with
  | cons r1 r2 => cases r2; exact ⟨_, rfl, r1⟩
theorem vals2 {x y : V} {us : List Value} (r : Vals [x, y] us) : ∃ u w', us = [u, w'] ∧ RelV x u ∧ RelV y w' := by
  cases r with
  | cons r1 r2 =>
    cases r2 with
    | cons r3 r4 => cases r4; exact ⟨_, _, rfl, r1, r3⟩
theorem call_abs : CallR X (.builtin "abs") (fun xs H Q => ∃ i, xs = [.int i] ∧ Q (.int (if i < 0 then -i else i)) H) := by
  intro pins s σ H xs us Q I r h
  obtain ⟨i, rfl, q⟩ := h
  obtain ⟨u, rfl, t, rfl⟩ := vals1 r
  exact call_abs_int fun u tk => ⟨.int (if i < 0 then -i else i), H, I.tok _, ⟨_, rfl⟩, q⟩
theorem call_max2 (hc : X.calm = true) : CallR X (.builtin "max") (fun xs H Q => ∃ i j, xs = [.int i, .int j] ∧ Q (.int (if j > i then j else i)) H) := by
  intro pins s σ H xs us Q I r h
  obtain ⟨i, j, rfl, q⟩ := h
  obtain ⟨u, w', rfl, ⟨t, rfl⟩, ⟨t', rfl⟩⟩ := vals2 r
  refine max_two_ints (I.ok.hd hc) fun h' tk k => ⟨_, H, I.kept k, ?_, q⟩
  by_cases hj : j > i
  · rw [if_pos hj, if_pos hj]; exact ⟨_, rfl⟩
  · rw [if_neg hj, if_neg hj]; exact ⟨_, rfl⟩
theorem call_min2 (hc : X.calm = true) : CallR X (.builtin "min") (fun xs H Q => ∃ i j, xs = [.int i, .int j] ∧ Q (.int (if j < i then j else i)) H) := by
  intro pins s σ H xs us Q I r h
  obtain ⟨i, j, rfl, q⟩ := h
  obtain ⟨u, w', rfl, ⟨t, rfl⟩, ⟨t', rfl⟩⟩ := vals2 r
  refine min_two_ints (I.ok.hd hc) fun h' tk k => ⟨_, H, I.kept k, ?_, q⟩
  by_cases hj : j < i
  · rw [if_pos hj, if_pos hj]; exact ⟨_, rfl⟩
  · rw [if_neg hj, if_neg hj]; exact ⟨_, rfl⟩
/-- len of a str, a bytes, a list, a tuple -/
noncomputable def LenV (K : PySem.W.Frag) (x : V) (H : Hp) (n : Nat) : Prop :=
  match x with
  | .str y => y.length ≤ sizeLine ∧ n = y.length
  | .byt y => y.size ≤ sizeLine ∧ n = y.size
  | .ref p => (∃ xs, SqL K H p xs ∧ n = xs.length) ∨ ∃ xs, SqT K H p xs ∧ n = xs.length
  | _ => False
theorem call_len : CallR X (.builtin "len") (fun xs H Q => ∃ x n, xs = [x] ∧ LenV X.K x H n ∧ Q (.int n) H) := by
  intro pins s σ H xs us Q I r h
  obtain ⟨x, n, rfl, e, q⟩ := h
  obtain ⟨u, rfl, rx⟩ := vals1 r
  have hl := line63
  have hs : sizeLine = 16777216 := sizeLine_eq
  cases x with
  | str y =>
    obtain ⟨t, rfl⟩ := rx
    obtain ⟨hy, e'⟩ : y.length ≤ sizeLine ∧ n = y.length := e
    subst e'
    exact len_str (by omega) ⟨.int _, H, I.tok _, ⟨_, rfl⟩, q⟩
  | byt y =>
    obtain ⟨t, rfl⟩ := rx
    obtain ⟨hy, e'⟩ : y.size ≤ sizeLine ∧ n = y.size := e
    subst e'
    exact PySem.W.len_bytes (by omega) ⟨.int _, H, I.tok _, ⟨_, rfl⟩, q⟩
  | ref p =>
    cases rx
    have e' : (∃ xs, SqL X.K H p xs ∧ n = xs.length) ∨ ∃ xs, SqT X.K H p xs ∧ n = xs.length := e
    rcases e' with ⟨xs, hx, e'⟩ | ⟨xs, hx, e'⟩
    · subst e'
      obtain ⟨its, r', pl, hz⟩ := I.list hx
      have hlen := r'.length
      exact Calls.call_len_list pl.isList (by simp only [List.size_toArray]; omega) ⟨.int xs.length, H, I.tok _, ⟨_, by simp only [List.size_toArray]; rw [hlen]⟩, q⟩
    · subst e'
      obtain ⟨its, r', pl, hz⟩ := I.tuple hx
      have hlen := r'.length
      exact len_tuple pl (by simp only [List.size_toArray]; omega) ⟨.int xs.length, H, I.tok _, ⟨_, by simp only [List.size_toArray]; rw [hlen]⟩, q⟩
  | _ => exact (show False from e).elim
end
end L2

namespace L2
open PySem PySem.Spec PyProof.Rows

/-! ### an instance, its attributes a map -/
structure ObjM (h : Heap) (x dx C : Addr) (mA : Str → Option Value) : Prop where
  obj : h.get? x = some (PySem.W.instObj C dx)
  ns : h.Ns1 dx mA
  ne : dx ≠ x

theorem lookIn_ns {h : Heap} {dx : Addr} {mA : Str → Option Value} (n : h.Ns1 dx mA) : ∃ od, h.get? dx = some od ∧ ∀ name, PySem.W.lookIn name od = some (mA name) := by
  obtain ⟨o, es, ep, ho, hd, hk, _, hm⟩ := n
  refine ⟨o, ho, fun name => ?_⟩
  have e := hm name
  unfold nsFind findBy at e
  rw [← Array.find?_toList] at e
  unfold PySem.W.lookIn
  rw [hd]
  dsimp only
  split
  · rename_i y q
    rw [q] at e
    exact congrArg some e
  · rename_i q
    rw [q] at e
    have a : es.toList.any (·.refKey) = false := by
      rw [List.any_eq_false]
      intro y hy
      obtain ⟨z, t, hkey⟩ := hk y (Array.mem_toList_iff.mp hy)
      simp [DictEntry.refKey, hkey]
    have a' : ¬ es.toList.any (·.refKey) = true := by rw [a]; exact Bool.false_ne_true
    rw [if_neg a']
    exact congrArg some e

theorem ObjM.look {h : Heap} {x dx C : Addr} {mA : Str → Option Value} (I : ObjM h x dx C mA) : ∃ od, PySem.W.InstAt h x (PySem.W.instObj C dx) C (some od) ∧ ∀ name, PySem.W.lookIn name od = some (mA name) :=
  let ⟨od, ho, hl⟩ := lookIn_ns I.ns
  ⟨od, ⟨I.obj, rfl, rfl, ho⟩, hl⟩

section
variable {prog : Program} {w : World} {A : Around} {E : Value → Shared → Prop} {s : Shared} {K : PySem.W.Frag} {x dx C f : Addr} {mA : Str → Option Value} {name : Str} {v : Value}

theorem get_map {expr : Bool} {Q : Value → Shared → Prop} (X : K.In s.heap) (I : ObjM s.heap x dx C mA) (hg : PySem.W.plainGet K C name = true) (hh : PySem.W.hasDictIn K C = true)
    (ha : PySem.W.findIn K (.ref C) name = some none) (hv : mA name = some v) (hv' : PySem.W.handedIn v = true) (h : Q v { s with toks := s.toks + 1 }) :
    wpAny (model prog w) A (getAttr (.ref x) name expr) Q E s := by
  obtain ⟨od, J, hl⟩ := I.look
  exact PySem.W.get_value X J (PySem.W.plainGet_of hg).1 (PySem.W.findObj_own hh ha rfl (by rw [hl, hv])) hv' h

theorem get_meth {pl : Sem Bool} {Q : Value × List Value → Shared → Prop} (X : K.In s.heap) (I : ObjM s.heap x dx C mA) (hg : PySem.W.plainGet K C name = true)
    (hf : PySem.W.findIn K (.ref C) name = some (some (.ref f))) (ht : PySem.W.isFn K (.ref f) = true) (hv : mA name = none) (h : Q (.ref f, [.ref x]) s) :
    wpAny (model prog w) A (getMethod (.ref x) name pl) Q E s := by
  obtain ⟨od, J, hl⟩ := I.look
  exact PySem.W.method_fn X J (PySem.W.plainGet_of hg).1 (PySem.W.plainGet_of hg).2 hf (beq_iff_eq.mp ht) (by show (PySem.W.lookIn name od).map (·.isSome) = some false; rw [hl, hv]; rfl) h

theorem set_map {ns : List Str} {Q : Unit → Shared → Prop} (X : K.In s.heap) (I : ObjM s.heap x dx C mA)
    (hs : PySem.W.findIn K (.ref C) "__setattr__" = some (some (.builtin "object.__setattr__"))) (hp : PySem.W.plainOver K C = true) (ht : PySem.W.takerIn K C name = some none) (hh : PySem.W.hasDictIn K C = true)
    (hw : PySem.Within mA ns) (hsz : ns.length ≤ sizeLine)
    (h : ∀ h', ObjM h' x dx C (fun y => if y = name then some v else mA y) → Heap.SameBut dx s.heap h' → Q () { s with heap := h', toks := s.toks + 2 }) :
    wpAny (model prog w) A (setAttr (.ref x) name v) Q E s := by
  obtain ⟨od, J, hl⟩ := I.look
  refine PySem.W.set_plain X J hs (PySem.W.osa_open (s := { s with toks := s.toks + 1 }) (r := none) X J hp ht fun b => ?_)
  obtain ⟨cd, hc, hd'⟩ := PySem.W.any_some hh
  have hx : s.heap.get? x = some ⟨.ref C, some dx, .plain, #[]⟩ := I.obj
  refine wpAny_bind (wpAny_pure (wpAny_bind (wpAny_bind (wpAny_loadPart hx (wpAny_bind (PySem.W.Looks.here (s := { s with toks := s.toks + 1 }) (PySem.W.looks_clsIn X hc) ?_))))))
  rw [hd']
  refine wpAny_pure (a := some dx) (wpAny_bind (wpAny_pure (wpAny_bind ?_)))
  refine wpAny_nsSet1 (s := { s with toks := s.toks + 1 }) I.ns fun h' hn2 hs2 => ?_
  obtain ⟨oD, esD, epD, hoD, hdD, hcD⟩ := hn2.count (PySem.Within.cons name v hw)
  refine wpAny_bind (wpAny_lookBehind hoD (by rw [hdD]; exact pastItsLine_dict (Nat.le_trans hcD (by rw [List.length_cons]; omega))) ?_)
  exact wpAny_pure (h _ ⟨(hs2.2 _ (Ne.symm I.ne)).trans I.obj, hn2, I.ne⟩ hs2)

/-- C(..): the dict at the heap's end, the instance behind it; then its __init__ -/
theorem make_map {R : Result → Shared → Prop} {vs : List Value} {kw : List (Str × Value)} (X : K.In s.heap) (hm : PySem.W.makesIn K C = true)
    (hi : PySem.W.findIn K (.ref C) "__init__" = some (some (.ref f))) (hf : PySem.W.typeIn K (.ref f) = some (.type "function"))
    (h : codeAny (model prog w) (A.under (.builtin "type.__call__" ⟨.ref C :: vs, kw⟩)) (.call (.ref f) ⟨.ref (s.heap.objs.size + 1) :: vs, kw⟩) (PySem.W.InitBack (s.heap.objs.size + 1) R)
      { s with heap := (s.heap.push PySem.W.emptyDict).push (PySem.W.instObj C s.heap.objs.size) }) :
    codeAny (model prog w) A (.call (.ref C) ⟨vs, kw⟩) R s := by
  obtain ⟨hh, g, d, t, os⟩ := s
  exact PySem.W.make_core (PySem.W.makes_of X hm) (PySem.W.looks_findIn X hi) (fun self => PySem.W.bind_fn X self hf) (.inl rfl) h
end

/-! ### the attributes as a list of pairs -/
noncomputable def putF (f : Str) (v : V) : List (Str × V) → List (Str × V)
  | [] => [(f, v)]
  | (g, x) :: r => if g = f then (g, v) :: r else (g, x) :: putF f v r
theorem lookup_putF (f g : Str) (v : V) : ∀ fs : List (Str × V), (putF f v fs).lookup g = if g = f then some v else fs.lookup g
  | [] => by
    show List.lookup g [(f, v)] = _
    by_cases h : g = f
    · have hb : (g == f) = true := beq_iff_eq.mpr h
      simp only [List.lookup, hb, if_pos h]
    · have hb : (g == f) = false := beq_eq_false_iff_ne.mpr h
      simp only [List.lookup, hb, if_neg h]
  | (k, x) :: r => by
    have ih := lookup_putF f g v r
    rw [show putF f v ((k, x) :: r) = (if k = f then (k, v) :: r else (k, x) :: putF f v r) from rfl]
    by_cases hk : k = f
    · rw [if_pos hk]
      by_cases h : g = k
      · have hb : (g == k) = true := beq_iff_eq.mpr h
        simp only [List.lookup, hb, if_pos (h.trans hk)]
      · have hb : (g == k) = false := beq_eq_false_iff_ne.mpr h
        simp only [List.lookup, hb, if_neg (fun e : g = f => h (e.trans hk.symm))]
    · rw [if_neg hk]
      by_cases h : g = k
      · have hb : (g == k) = true := beq_iff_eq.mpr h
        simp only [List.lookup, hb, if_neg (fun e : g = f => hk (h.symm.trans e))]
      · have hb : (g == k) = false := beq_eq_false_iff_ne.mpr h
        simp only [List.lookup, hb]
        exact ih
theorem keys_putF (f : Str) (v : V) : ∀ fs : List (Str × V), f ∈ (putF f v fs).map (·.1) ∧ ∀ g, g ∈ fs.map (·.1) → g ∈ (putF f v fs).map (·.1)
  | [] => ⟨by simp [putF], fun g h => by simp at h⟩
  | (k, x) :: r => by
    obtain ⟨i1, i2⟩ := keys_putF f v r
    rw [show putF f v ((k, x) :: r) = (if k = f then (k, v) :: r else (k, x) :: putF f v r) from rfl]
    by_cases hk : k = f
    · rw [if_pos hk]
      subst hk
      exact ⟨by simp, fun g h => by simpa using h⟩
    · rw [if_neg hk]
      refine ⟨?_, fun g h => ?_⟩
      · rw [List.map_cons]
        exact List.mem_cons_of_mem _ i1
      · rw [List.map_cons] at h ⊢
        rcases List.mem_cons.mp h with e | e
        · exact List.mem_cons.mpr (.inl e)
        · exact List.mem_cons_of_mem _ (i2 g e)
theorem length_putF (f : Str) (v : V) : ∀ fs : List (Str × V), (putF f v fs).length ≤ fs.length + 1
  | [] => by simp [putF]
  | (k, x) :: r => by
    have ih := length_putF f v r
    rw [show putF f v ((k, x) :: r) = (if k = f then (k, v) :: r else (k, x) :: putF f v r) from rfl]
    by_cases hk : k = f
    · rw [if_pos hk, List.length_cons, List.length_cons]; omega
    · rw [if_neg hk, List.length_cons, List.length_cons]; omega

theorem RelO.some_of {v : V} {o : Option Value} (r : RelO (some v) o) : ∃ u, o = some u ∧ RelV v u := by
  cases o with
  | none => exact (show False from r).elim
  | some u => exact ⟨u, rfl, r⟩
theorem RelO.none_of {o : Option Value} (r : RelO none o) : o = none := by
  cases o with
  | none => rfl
  | some u => exact (show False from r).elim
theorem handed_of {v : V} {u : Value} (r : RelV v u) : PySem.W.handedIn u = true := by
  cases v with
  | non => cases (show u = Value.none from r); rfl
  | bl b => cases (show u = Value.bool b from r); rfl
  | int i => obtain ⟨t, e⟩ := (show ∃ t, u = Value.int i t from r); cases e; rfl
  | str x => obtain ⟨t, e⟩ := (show ∃ t, u = Value.str x t from r); cases e; rfl
  | byt b => obtain ⟨t, e⟩ := (show ∃ t, u = Value.bytes b t from r); cases e; rfl
  | flt b => obtain ⟨t, e⟩ := (show ∃ t, u = Value.float b t from r); cases e; rfl
  | ref a => cases (show u = Value.ref a from r); rfl
  | ty n => cases (show u = Value.type n from r); rfl

section
variable {P : Program} {w : World} {H H' : Hp} {h h' : Heap} {a C dx : Addr} {fs fs' : List (Str × V)}
theorem ins_get (hok : HOk P w H h) (e : H a = some (.ins C dx fs)) : ∃ mA, ObjM h a dx C mA ∧ (∀ f, RelO (fs.lookup f) (mA f)) ∧ PySem.Within mA (fs.map (·.1)) ∧ fs.length ≤ 1000 ∧ H dx = some (.own a) := by
  obtain ⟨d, z, ne, ob, mA, n, r, q⟩ := (show ObjOk P w H h a (.ins C dx fs) from hok a _ e)
  exact ⟨mA, ⟨ob, n, ne⟩, r, q, z, d⟩
end

/-! ### what of the text a class must have -/
structure Cls (K : PySem.W.Frag) (C : Addr) : Prop where
  pg : PySem.W.plainGet K C Str.empty = true
  hd : PySem.W.hasDictIn K C = true
  po : PySem.W.plainOver K C = true
  sa : PySem.W.findIn K (.ref C) "__setattr__" = some (some (.builtin "object.__setattr__"))
theorem Cls.get {K : PySem.W.Frag} {C : Addr} (c : Cls K C) (f : Str) : PySem.W.plainGet K C f = true := c.pg
/-- no class of it has the name -/
noncomputable def NoAttr (K : PySem.W.Frag) (C : Addr) (f : Str) : Prop := PySem.W.findIn K (.ref C) f = some none
theorem NoAttr.taker {K : PySem.W.Frag} {C : Addr} {f : Str} (n : NoAttr K C f) : PySem.W.takerIn K C f = some none := by
  unfold PySem.W.takerIn
  rw [show PySem.W.findIn K (.ref C) f = some none from n]
  rfl
/-- a method: a plain def of the class or of one above it -/
structure Meth (K : PySem.W.Frag) (C : Addr) (m : Str) (f : Addr) : Prop where
  at_ : PySem.W.findIn K (.ref C) m = some (some (.ref f))
  fn : PySem.W.isFn K (.ref f) = true
  kp : PySem.W.keepIn K (.ref f) = true

section
variable {X : Cx} {pins : List (Addr × Obj)} {σ : St} {H : Hp} {s : Shared} {a C dx : Addr} {fs : List (Str × V)} {f : Str} {v : V} {A : Around} {E : Value → Shared → Prop}

theorem getattr_ok {b : Bool} {Q : Value → Shared → Prop} (I : Inv X pins σ H s) (e : H a = some (.ins C dx fs)) (c : Cls X.K C) (n : NoAttr X.K C f) (l : fs.lookup f = some v)
    (h : ∀ u s', Inv X pins σ H s' → RelV v u → Q u s') : wpAny (model X.prog X.w) A (getAttr (.ref a) f b) Q E s := by
  obtain ⟨mA, O, r, _, _, _⟩ := ins_get I.hok e
  obtain ⟨u, hu, ru⟩ := RelO.some_of (v := v) (o := mA f) (by rw [← l]; exact r f)
  exact get_map I.kIn O (c.get f) c.hd n hu (handed_of ru) (h u _ (I.tok _) ru)

theorem getmeth_ok {m : Str} {g : Addr} {pl : Sem Bool} {Q : Value × List Value → Shared → Prop} (I : Inv X pins σ H s) (e : H a = some (.ins C dx fs)) (c : Cls X.K C) (k : Meth X.K C m g) (l : fs.lookup m = none)
    (h : Q (.ref g, [.ref a]) s) : wpAny (model X.prog X.w) A (getMethod (.ref a) m pl) Q E s := by
  obtain ⟨mA, O, r, _, _, _⟩ := ins_get I.hok e
  have hn : mA m = none := RelO.none_of (by rw [← l]; exact r m)
  exact get_meth I.kIn O (c.get m) k.at_ k.fn hn h

theorem setattr_ok {y : V} {u : Value} {Q : Unit → Shared → Prop} (I : Inv X pins σ H s) (e : H a = some (.ins C dx fs)) (c : Cls X.K C) (n : NoAttr X.K C f) (hl : fs.length < 1000) (ry : RelV y u)
    (h : ∀ s', Inv X pins σ (upd H a (.ins C dx (putF f y fs))) s' → Q () s') : wpAny (model X.prog X.w) A (setAttr (.ref a) f u) Q E s := by
  obtain ⟨mA, O, r, wi, _, ho⟩ := ins_get I.hok e
  have hz : (fs.map (·.1)).length ≤ sizeLine := by rw [List.length_map, sizeLine_eq]; omega
  refine set_map I.kIn O c.sa c.po n.taker c.hd wi hz fun h' O' sb => h _ ?_
  have hd : ∃ o, h'.get? dx = some o := let ⟨o, _, _, e', _⟩ := O'.ns; ⟨o, e'⟩
  refine I.write (x := a) (e := dx) (by rw [e]; exact True.intro) (.inr ho) (fun b q hb z => (sb.2 b hb).trans z) hd ?_
  refine ⟨by rw [upd_ne O.ne]; exact ho, ?_, O.ne, O'.obj, _, O'.ns, fun g => ?_, fun g hg => ?_⟩
  · have := length_putF f y fs; omega
  · show RelO ((putF f y fs).lookup g) (if g = f then some u else mA g)
    rw [lookup_putF]
    by_cases q : g = f
    · rw [if_pos q, if_pos q]; exact ry
    · rw [if_neg q, if_neg q]; exact r g
  · by_cases q : g = f
    · rw [q]; exact (keys_putF f y fs).1
    · refine (keys_putF f y fs).2 g (wi g fun z => hg ?_)
      show (if g = f then some u else mA g) = none
      rw [if_neg q]; exact z

/-- a new instance, tracked, without attributes -/
theorem Inv.made (I : Inv X pins σ H s) : Inv X pins σ (upd (upd H s.heap.objs.size (.own (s.heap.objs.size + 1))) (s.heap.objs.size + 1) (.ins C s.heap.objs.size []))
    { s with heap := (s.heap.push PySem.W.emptyDict).push (PySem.W.instObj C s.heap.objs.size) } := by
  have e1 : (s.heap.push PySem.W.emptyDict).get? s.heap.objs.size = some PySem.W.emptyDict := Heap.get?_push_size s.heap rfl
  have e2 : ((s.heap.push PySem.W.emptyDict).push (PySem.W.instObj C s.heap.objs.size)).get? (s.heap.objs.size + 1) = some (PySem.W.instObj C s.heap.objs.size) := by
    have := Heap.get?_push_size (s.heap.push PySem.W.emptyDict) (o := PySem.W.instObj C s.heap.objs.size) rfl
    rwa [Heap.size_push] at this
  have e3 : (s.heap.push PySem.W.emptyDict).Ns s.heap.objs.size (fun _ => none) := ⟨PySem.W.emptyDict, #[], _, e1, rfl, (fun e he => absurd he (by simp)), fun _ => rfl⟩
  have I1 := I.laid (a := s.heap.objs.size) (o := .own (s.heap.objs.size + 1)) (h' := s.heap.push PySem.W.emptyDict) (t' := s.toks) (fun b u q => Heap.get?_push_of_some _ q) (Nat.le_refl _) ⟨_, e1⟩
  refine I1.laid (a := s.heap.objs.size + 1) (o := .ins C s.heap.objs.size []) (t' := s.toks) (fun b u q => Heap.get?_push_of_some _ q) (Nat.le_of_eq (Heap.size_push _ _)) ?_
  have ne : s.heap.objs.size ≠ s.heap.objs.size + 1 := Nat.ne_of_lt (Nat.lt_succ_self _)
  refine ⟨by rw [upd_ne ne, upd_same], Nat.zero_le _, ne, e2, fun _ => none, (Heap.Ns1.of_empty e3).at fun o q => Heap.get?_push_of_some _ q, fun _ => True.intro, fun y hy => absurd rfl hy⟩

/-- e.f where nothing but the object is asked: through attributeBase (super) and the last hold -/
theorem attr_of {prog : Program} {w : World} {env : Env} {e : Expr} {f : Str} {pos : Pos} {s : Shared} {Q : Value → Shared → Prop} (hb : attributeBase e f env (eval e env) = eval e env)
    (h : wpAny (model prog w) A (eval e env) (fun o s₁ => wpAny (model prog w) A (getAttr o f true) Q E s₁) E s) : wpAny (model prog w) A (eval (.Attribute e f pos) env) Q E s :=
  Attribute_any_ h (by rw [arm_eval_Attribute, hb])
end

/-! ### readings and rules -/
/-- e.f, an attribute of the instance -/
noncomputable def tFld (K : PySem.W.Frag) (ta : TE) (f : Str) : TE := fun σ H Q => ta σ H fun x H1 => ∃ a C dx fs v, x = .ref a ∧ H1 a = some (.ins C dx fs) ∧ Cls K C ∧ NoAttr K C f ∧ fs.lookup f = some v ∧ Q v H1
/-- e.f = value -/
noncomputable def sFld (K : PySem.W.Frag) (ta tv : TE) (f : Str) : TS := fun D σ H => tv σ H fun y H1 => ta σ H1 fun x H2 => ∃ a C dx fs, x = .ref a ∧ H2 a = some (.ins C dx fs) ∧ Cls K C ∧ NoAttr K C f ∧ fs.length < 1000 ∧
  D.nx σ (upd H2 a (.ins C dx (putF f y fs)))
section
variable {X : Cx} {o e value : Expr} {f : Str} {pos pos' tpos : Pos} {ta tv : TE}
theorem pe_fld (he : PE X e ta) (hb : attributeBase e f X.env (eval e X.env) = eval e X.env) : PE X (.Attribute e f pos) (tFld X.K ta f) := by
  intro pins s σ H Q I h
  refine attr_of hb (thn (he pins s σ H _ I h) fun u s1 ⟨x, H1, I1, rx, a, C, dx, fs, v, ex, ea, c, n, l, q⟩ => ?_)
  subst ex
  obtain rfl : u = Value.ref a := rx
  exact getattr_ok I1 ea c n l fun u' s2 I2 ru => ⟨v, H1, I2, ru, q⟩
theorem ps_fld (ha : PE X o ta) (hv : PE X value tv) (hs : swapsWith value (some (.Attribute o f pos')) pos.line X.env = pure false) : PS X (.Assign [.Attribute o f pos'] value pos) (sFld X.K ta tv f) := by
  intro pins s σ H D I h
  refine plainObj_wpAny_Assign_Attribute (thn (hv pins s σ H _ I h) fun u s1 ⟨y, H1, I1, ry, q⟩ => thn (ha pins s1 σ H1 _ I1 q) fun ov s2 ⟨x, H2, I2, rx, a, C, dx, fs, ex, ea, c, n, l, q2⟩ => ?_) hs
  subst ex
  obtain rfl : ov = Value.ref a := rx
  exact setattr_ok I2 ea c n l ry fun s3 I3 => ⟨σ, _, I3, q2⟩
end

/-! ### isinstance -/
section
variable {X : Cx} {pins : List (Addr × Obj)} {σ : St} {H : Hp} {s : Shared} {A : Around} {E : Value → Shared → Prop} {Q : Value → Shared → Prop} {c : Value} {b : Bool}
/-- the type of a value, as the fragment's deciders take it; for an instance its class -/
inductive TyOf (K : PySem.W.Frag) (H : Hp) : V → Value → Prop where
  | non : TyOf K H .non (.type "NoneType")
  | bl (x : Bool) : TyOf K H (.bl x) (.type "bool")
  | int (i : Int) : TyOf K H (.int i) (.type "int")
  | str (x : Str) : TyOf K H (.str x) (.type "str")
  | flt (x : UInt64) : TyOf K H (.flt x) (.type "float")
  | lst {a : Addr} {xs : List V} (e : H a = some (.lst xs)) : TyOf K H (.ref a) (.type "list")
  | frz {a : Addr} {o : Obj} {xs : List V} (e : H a = some (.frz o (.lst xs))) : TyOf K H (.ref a) (.type "list")
  | tup {a : Addr} {xs : List V} (e : H a = some (.tup xs)) : TyOf K H (.ref a) (.type "tuple")
  | dK {a : Addr} {kvs : List (Key × V)} (e : H a = some (.dK kvs)) : TyOf K H (.ref a) (.type "dict")
  | dT {a : Addr} {kvs : List (List Key × V)} (e : H a = some (.dT kvs)) : TyOf K H (.ref a) (.type "dict")
  | ins {a C dx : Addr} {fs : List (Str × V)} (e : H a = some (.ins C dx fs)) (cl : Cls K C) (ha : PySem.W.findIn K (.ref C) "__class__" = some (some (.builtin "object.__class__")))
      (hn : PySem.W.specialIn K (.builtin "object.__class__") "__get__" = some (some (.builtin "getset_descriptor.__get__"))) (htk : PySem.W.takesIn K (.builtin "object.__class__") = some true)
      (hm : PySem.W.mroIn K C (.type "object") = some true) : TyOf K H (.ref a) (.ref C)
/-- isinstance(x, c) for one class c, a built-in or an own one: kitOne's answer -/
theorem isinst_ok {x : V} {u t : Value} (I : Inv X pins σ H s) (rx : RelV x u) (ty : TyOf X.K H x t) (e : PySem.W.kitOne X.K t c = some b) (h : ∀ tk, Q (.bool b) { s with toks := tk }) :
    wpAny (model X.prog X.w) A (call (.builtin "isinstance") [u, c]) Q E s := by
  cases ty with
  | non => cases (show u = Value.none from rx); exact PySem.W.kia_one PySem.W.kitx_none I.kIn True.intro e (fun z => nomatch z) h
  | bl y => cases (show u = Value.bool y from rx); exact PySem.W.kia_one PySem.W.kitx_bool I.kIn True.intro e (fun z => nomatch z) h
  | int i => obtain ⟨t, q⟩ := (show ∃ t, u = Value.int i t from rx); cases q; exact PySem.W.kia_one PySem.W.kitx_int I.kIn True.intro e (fun z => nomatch z) h
  | str y => obtain ⟨t, q⟩ := (show ∃ t, u = Value.str y t from rx); cases q; exact PySem.W.kia_one PySem.W.kitx_str I.kIn True.intro e (fun z => nomatch z) h
  | flt y => obtain ⟨t, q⟩ := (show ∃ t, u = Value.float y t from rx); cases q; exact PySem.W.kia_one PySem.W.kitx_float I.kIn True.intro e (fun z => nomatch z) h
  | @lst a xs ea =>
    cases (show u = Value.ref a from rx)
    obtain ⟨_, _, n, _, h1⟩ := (show ObjOk X.prog X.w H s.heap a (.lst xs) from I.hok a _ ea)
    exact PySem.W.kia_one PySem.W.kitx_list I.kIn ⟨_, h1, rfl⟩ e (fun z => nomatch z) h
  | @frz a ob xs ea =>
    cases (show u = Value.ref a from rx)
    obtain ⟨_, _, _, n, _, h1⟩ := (show ObjOk X.prog X.w H s.heap a (.frz ob (.lst xs)) from I.hok a _ ea)
    exact PySem.W.kia_one PySem.W.kitx_list I.kIn ⟨_, h1, rfl⟩ e (fun z => nomatch z) h
  | @tup a xs ea =>
    cases (show u = Value.ref a from rx)
    obtain ⟨_, _, _, p⟩ := (show ObjOk X.prog X.w H s.heap a (.tup xs) from I.hok a _ ea)
    obtain ⟨o, h1, h2, _⟩ := p
    exact PySem.W.kia_one PySem.W.kitx_tuple I.kIn ⟨o, h1, h2⟩ e (fun z => nomatch z) h
  | @dK a kvs ea =>
    cases (show u = Value.ref a from rx)
    obtain ⟨_, _, vs, _, p⟩ := (show ObjOk X.prog X.w H s.heap a (.dK kvs) from I.hok a _ ea)
    obtain ⟨o, es, ep, h1, h2, _⟩ := p
    exact PySem.W.kia_one PySem.W.kitx_dict I.kIn ⟨o, h1, h2.1⟩ e (fun z => nomatch z) h
  | @dT a kvs ea =>
    cases (show u = Value.ref a from rx)
    obtain ⟨_, _, xs, _, o, es, ep, h1, h2, _⟩ := (show ObjOk X.prog X.w H s.heap a (.dT kvs) from I.hok a _ ea)
    exact PySem.W.kia_one PySem.W.kitx_dict I.kIn ⟨o, h1, h2.1⟩ e (fun z => nomatch z) h
  | @ins a C dx fs ea cl ha hn htk hm =>
    cases (show u = Value.ref a from rx)
    obtain ⟨mA, O, _⟩ := ins_get I.hok ea
    obtain ⟨od, J, _⟩ := O.look
    exact PySem.W.kia_one (PySem.W.kitx_own (cl.get _) cl.hd ha hn htk hm) I.kIn J e (fun z => nomatch z) h
end
end L2

namespace L2
open PySem PySem.Spec PyProof.Rows

/-! ### room -/
structure Room (k : Nat) (A : Around) : Prop where
  hd : A.handled = none
  dp : A.depth + 3 * k + 5 < recursionLimit
  un : A.units + 16 * k + 200 < cLine
theorem Room.mono {j k : Nat} {A : Around} (r : Room k A) (h : j ≤ k) : Room j A := ⟨r.hd, by have := r.dp; omega, by have := r.un; omega⟩
theorem Room.deeper {k : Nat} {A : Around} (r : Room (k + 1) A) (env : Env) : Room k (A.deeper env) :=
  ⟨r.hd, by have := r.dp; show A.depth + 1 + 3 * k + 5 < _; omega, by have := r.un; show A.units + 3 + 16 * k + 200 < _; omega⟩
theorem make_depth {A : Around} {C : Addr} {us : List Value} {kw : List (Str × Value)} : (A.under (.builtin "type.__call__" ⟨.ref C :: us, kw⟩)).depth = A.depth + 1 := by
  first | rfl | simp [Around.under, Code.weight, Code.isCreation, Code.isGuard, Code.isCaller, Code.frames, Code.isFrame, guardIds]
theorem make_units {A : Around} {C : Addr} {us : List Value} {kw : List (Str × Value)} : (A.under (.builtin "type.__call__" ⟨.ref C :: us, kw⟩)).units = A.units + 1 := by
  first | rfl | simp [Around.under, Code.cUnits, Code.frames, Code.isFrame]
theorem Room.make {k : Nat} {A : Around} (r : Room (k + 1) A) (C : Addr) (us : List Value) (kw : List (Str × Value)) : Room k (A.under (.builtin "type.__call__" ⟨.ref C :: us, kw⟩)) :=
  ⟨r.hd, by have := r.dp; rw [make_depth]; omega, by have := r.un; rw [make_units]; omega⟩
theorem Room.depth {k : Nat} {A : Around} (r : Room k A) : A.depth < recursionLimit := by have := r.dp; omega
theorem Room.units {k : Nat} {A : Around} (r : Room k A) : A.units + 64 < cLine := by have := r.un; omega
/-! ### argument lists and displays -/
noncomputable def tNil : TA := fun _ H Q => Q [] H
noncomputable def tCons (ta : TE) (tr : TA) : TA := fun σ H Q => ta σ H fun x H1 => tr σ H1 fun xs H2 => Q (x :: xs) H2
section
variable {X : Cx} {e : Expr} {es : List Expr} {te : TE} {t : TA} {pos : Pos}
theorem pa_nil : PA X [] tNil := fun _ _ _ _ H Q I h => Calls.spliced_nil ⟨[], H, I, .nil, h⟩
theorem pa_cons (ha : PE X e te) (hr : PA X es t) (hs : starEach (e :: es) X.env = (false, eval e X.env) :: starEach es X.env := by rfl) : PA X (e :: es) (tCons te t) := by
  intro pos pins s σ H Q I h
  rw [hs]
  show wpAny _ _ (spliced ((false, eval e X.env) :: backTo pos (starEach es X.env))) _ _ s
  refine Calls.spliced_cons (thn (ha pins s σ H _ I h) fun u s1 ⟨x, H1, I1, r1, q1⟩ => ?_)
  exact thn (hr pos pins s1 σ H1 _ I1 q1) fun us s2 ⟨xs, H2, I2, r2, q2⟩ => ⟨x :: xs, H2, I2, .cons r1 r2, q2⟩

/-- a tuple, a list of written items -/
noncomputable def tTup (t : TA) : TE := fun σ H Q => t σ H fun xs H1 => xs.length ≤ sizeLine ∧ ∀ p, H1 p = none → Q (.ref p) (upd H1 p (.tup xs))
noncomputable def tLst (t : TA) : TE := fun σ H Q => t σ H fun xs H1 => xs.length ≤ sizeLine ∧ ∀ p, H1 p = none → Q (.ref p) (upd H1 p (.lst xs))
theorem pe_tup {x1} (h : PA X es t) : PE X (.Tuple es x1 pos) (tTup t) := by
  intro pins s σ H Q I hq
  refine wpAny_Tuple_spliced (thn (h pos pins s σ H _ I hq) fun us s1 ⟨xs, H1, I1, r, z, q⟩ => ⟨by rw [← r.length]; exact z, ?_⟩)
  have hf : H1 s1.heap.objs.size = none := I1.hok.fresh (Nat.le_refl _)
  refine ⟨.ref s1.heap.objs.size, upd H1 s1.heap.objs.size (.tup xs), I1.laid (t' := s1.toks) (fun b u e => Heap.get?_push_of_some _ e) (Nat.le_refl _) ?_, rfl, q _ hf⟩
  exact ⟨z, us, r, ⟨_, Heap.get?_push_size _ rfl, rfl, _, rfl⟩⟩
theorem pe_lst (h : PA X es t) : PE X (.List es pos) (tLst t) := by
  intro pins s σ H Q I hq
  refine wpAny_List_spliced (thn (h pos pins s σ H _ I hq) fun us s1 ⟨xs, H1, I1, r, z, q⟩ => ⟨by rw [← r.length]; exact z, ?_⟩)
  have hf : H1 s1.heap.objs.size = none := I1.hok.fresh (Nat.le_refl _)
  refine ⟨.ref s1.heap.objs.size, upd H1 s1.heap.objs.size (.lst xs), I1.laid (t' := s1.toks) (fun b u e => Heap.get?_push_of_some _ e) (Nat.le_refl _) ?_, rfl, q _ hf⟩
  exact ⟨z, us, 0, r, Heap.get?_push_size _ rfl⟩
end

/-! ### what a def promises -/
/-- a def's promise: the bound arguments in the parameters' order, the heap, the wanted end, the wanted exception -/
noncomputable abbrev Sp := List V → Hp → VK → XK → Prop
/-- how an exception lies behind a call (file 08 gives it): the callers' frames, abstract heap and state ahead of the call, the wish, the exception, the state -/
noncomputable abbrev CXT := List Env → Hp → Shared → XK → Value → Shared → Prop

/-- the state at a call -/
structure Env0 (P : Program) (w : World) (K : PySem.W.Frag) (mg : Str → Option Value) (base : Heap) (A : Around) (outer : List Env) (s : Shared) (H : Hp) : Prop where
  frames : A.frames = some outer
  mod : Mod K mg base
  bs : ∀ b o, base.get? b = some o → s.heap.get? b = some o ∧ H b = none
  bsz : base.objs.size ≤ s.heap.objs.size
  funs : s.heap.FunFrames base outer
  frf : ∀ b ∈ frs outer, H b = none
  hok : HOk P w H s.heap
  bare : AllBare s.gens
/-- a call's end -/
noncomputable def CE (outer : List Env) (P : Program) (w : World) (H : Hp) (s : Shared) (Q : VK) (u : Value) (s' : Shared) : Prop :=
  ∃ v H', s'.os = s.os ∧ AllBare s'.gens ∧ Un (frs outer) [] H H' s.heap s'.heap ∧ HOk P w H' s'.heap ∧ RelV v u ∧ Q v H'
noncomputable def CR (CX : CXT) (outer : List Env) (P : Program) (w : World) (H : Hp) (s : Shared) (Q : VK) (E : XK) (r : Result) (s' : Shared) : Prop :=
  match r with
  | .ok (.ret u) => CE outer P w H s Q u s'
  | .ok _ => False
  | .error e => CX outer H s E e s'
structure FnOk (P : Program) (w : World) (K : PySem.W.Frag) (mg : Str → Option Value) (base : Heap) (CX : CXT) (k : Nat) (f : Addr) (fd : FuncData) (ps : List Str) (sp : Sp) : Prop where
  len : ∀ vs H Q E, sp vs H Q E → vs.length = ps.length
  run : ∀ (A : Around) (outer : List Env) (s : Shared) (H : Hp) (args : Args) (us : List Value) (vs : List V) (Q : VK) (E : XK), Room k A → Env0 P w K mg base A outer s H → BindsTo s fd args (ps.zip us) → Vals vs us → sp vs H Q E →
    codeAny (model P w) A (.call (.ref f) args) (CR CX outer P w H s Q E) s
theorem FnOk.mono {P : Program} {w : World} {K : PySem.W.Frag} {mg : Str → Option Value} {base : Heap} {CX : CXT} {j k : Nat} {f : Addr} {fd : FuncData} {ps : List Str} {sp : Sp} (F : FnOk P w K mg base CX j f fd ps sp) (h : j ≤ k) :
    FnOk P w K mg base CX k f fd ps sp := ⟨F.len, fun A outer s H args us vs Q E hr => F.run A outer s H args us vs Q E (hr.mono h)⟩
theorem Env0.make {P : Program} {w : World} {K : PySem.W.Frag} {mg : Str → Option Value} {base : Heap} {A : Around} {outer : List Env} {s : Shared} {H : Hp} (e : Env0 P w K mg base A outer s H) (C : Addr) (us : List Value) (kw : List (Str × Value)) :
    Env0 P w K mg base (A.under (.builtin "type.__call__" ⟨.ref C :: us, kw⟩)) outer s H := ⟨by first | exact e.frames | (simpa [Around.under, Code.envs, Code.isFrame, pushEnvs] using e.frames), e.mod, e.bs, e.bsz, e.funs, e.frf, e.hok, e.bare⟩
section
variable {X : Cx} {pins : List (Addr × Obj)} {σ : St} {H : Hp} {s s' : Shared}
/-- from a body: what a callee wants -/
theorem Inv.env0 (I : Inv X pins σ H s) : Env0 X.prog X.w X.K X.mg X.base X.A X.stack s H :=
  ⟨I.ok.frames, I.ok.mod, I.bs, Nat.le_trans I.ok.bsz I.sz, I.stack, I.stkFree, I.hok, I.bare⟩
/-- behind a call -/
theorem Inv.after {Q : VK} {u : Value} (I : Inv X pins σ H s) (h : CE X.stack X.prog X.w H s Q u s') : EP X pins σ Q u s' := by
  obtain ⟨v, H', os, bare, un, hok, r, q⟩ := h
  obtain ⟨hh, g, d, t, os'⟩ := s'
  obtain rfl : os' = s.os := os
  exact ⟨v, H', I.call (h' := hh) (g' := g) (d' := d) (t' := t) (ch := []) un hok bare (fun b z => absurd z (by simp)), r, q⟩
end

/-! ### calls -/
/-- f(..): the written arguments, then the defaults dvs; E: what is wanted of an exception -/
noncomputable def tCall (sp : Sp) (dvs : List V) (E : XK) (t : TA) : TE := fun σ H Q => t σ H fun vs H1 => sp (vs ++ dvs) H1 Q E
/-- o.m(..) of an instance of the class at C -/
noncomputable def tMeth (C : Addr) (m : Str) (sp : Sp) (dvs : List V) (E : XK) (ta : TE) (t : TA) : TE := fun σ H Q => ta σ H fun x H1 => ∃ a dx fs, x = .ref a ∧ H1 a = some (.ins C dx fs) ∧ fs.lookup m = none ∧
  t σ H1 fun vs H2 => sp (x :: (vs ++ dvs)) H2 Q E
/-- C(..): a new instance and its dict, then __init__ -/
noncomputable def tMake (C : Addr) (sp : Sp) (dvs : List V) (E : XK) (t : TA) : TE := fun σ H Q => t σ H fun vs H1 => ∀ x dx, H1 x = none → H1 dx = none → dx ≠ x →
  sp (.ref x :: (vs ++ dvs)) (upd (upd H1 dx (.own x)) x (.ins C dx [])) (fun v H2 => v = .non ∧ Q (.ref x) H2) E

/-- how the parameters are bound: us the positional arguments, kw the keywords' values by name, ds the defaults that fill up -/
noncomputable def Binds (K : PySem.W.Frag) (fd : FuncData) (ps : List Str) (ds : List Value) : Prop :=
  ∀ (s : Shared) (us : List Value), K.In s.heap → (us ++ ds).length = ps.length → BindsTo s fd ⟨us, []⟩ (ps.zip (us ++ ds))
/-- every parameter is given -/
theorem Binds.all {K : PySem.W.Frag} {fd : FuncData} {ps : List Str} (h : ∀ us : List Value, us.length = ps.length → bindArgs fd ⟨us, []⟩ = pure (ps.zip us)) : Binds K fd ps [] := fun s us _ hl => by
  rw [List.append_nil] at hl ⊢
  exact .of_eq (h us hl)

/-- an exception of a callee reaches what this body wants of exceptions -/
noncomputable def Passes (CX : CXT) (X : Cx) (E : XK) : Prop := ∀ (pins : List (Addr × Obj)) (σ : St) (H : Hp) (s : Shared) (e : Value) (s' : Shared), Inv X pins σ H s → CX X.stack H s E e s' → X.xe e s'

section
variable {X : Cx} {CX : CXT} {k : Nat} {f C : Addr} {fd : FuncData} {ps : List Str} {sp : Sp} {dvs : List V} {ds : List Value} {E : XK} {x m : Str} {p pos apos : Pos} {e o : Expr} {es : List Expr} {ta : TE} {t : TA}

/-- the callee runs -/
theorem run_fn {pins : List (Addr × Obj)} {σ : St} {H : Hp} {s : Shared} {Q : VK} {us : List Value} {vs : List V} (F : FnOk X.prog X.w X.K X.mg X.base CX k f fd ps sp) (hr : Room k X.A) (hb : Binds X.K fd ps ds) (hd : Vals dvs ds) (hx : Passes CX X E)
    (I : Inv X pins σ H s) (r : Vals vs us) (h : sp (vs ++ dvs) H Q E) : wpAny (model X.prog X.w) X.A (call (.ref f) us) (EP X pins σ Q) X.xe s := by
  have r2 : Vals (vs ++ dvs) (us ++ ds) := r.append hd
  have hl : (us ++ ds).length = ps.length := by rw [← r2.length]; exact F.len _ _ _ _ h
  refine wpAny_call (codeAny_mono (F.run X.A X.stack s H ⟨us, []⟩ (us ++ ds) (vs ++ dvs) Q E hr I.env0 (hb s us I.kIn hl) r2 h) fun r s' hq => ?_)
  cases r with
  | error e => exact hx pins σ H s e s' I hq
  | ok fl =>
    cases fl with
    | ret u => exact I.after hq
    | next => exact False.elim hq
    | brk => exact False.elim hq
    | cont => exact False.elim hq

theorem pe_call (F : FnOk X.prog X.w X.K X.mg X.base CX k f fd ps sp) (hr : Room k X.A) (hg : Gl X x) (hm : X.mg x = some (.ref f)) (hk : PySem.W.keepIn X.K (.ref f) = true) (hb : Binds X.K fd ps ds) (hd : Vals dvs ds) (hx : Passes CX X E)
    (ha : PA X (e :: es) t) (hdb : (x == ("__debug__" : Str)) = false := by decide) (he : starEach (e :: es) X.env = (false, eval e X.env) :: starEach es X.env := by rfl) (hpl : (backTo pos (starEach es X.env)).any (·.1) = false := by rfl) :
    PE X (.Call (.Name x p) (e :: es) [] pos) (tCall sp dvs E t) := by
  intro pins s σ H Q I h
  refine wpAny_Call_Name_kw (ld_glob I hg hm ?_ hdb)
  refine PySem.W.callWith_K (h₀ := X.base) I.ok.mod.kin hk (thn (ha pos pins s σ H _ I h) fun us s1 ⟨vs, H1, I1, r, q⟩ => ⟨I1.kIn, ?_⟩) he hpl
  exact run_fn F hr hb hd hx I1 r q
theorem pe_call0 (F : FnOk X.prog X.w X.K X.mg X.base CX k f fd ps sp) (hr : Room k X.A) (hg : Gl X x) (hm : X.mg x = some (.ref f)) (hk : PySem.W.keepIn X.K (.ref f) = true) (hb : Binds X.K fd ps ds) (hd : Vals dvs ds) (hx : Passes CX X E)
    (hdb : (x == ("__debug__" : Str)) = false := by decide) : PE X (.Call (.Name x p) [] [] pos) (tCall sp dvs E tNil) := by
  intro pins s σ H Q I h
  refine wpAny_Call_Name_kw (ld_glob I hg hm ?_ hdb)
  exact PySem.W.callWith_K0 I.kIn hk (run_fn (us := []) F hr hb hd hx I .nil h)

/-- o.m(e, ..) -/
theorem pe_meth {pl : Sem Bool} (he : PE X o ta) (c : Cls X.K C) (hm : Meth X.K C m f) (F : FnOk X.prog X.w X.K X.mg X.base CX k f fd ps sp) (hr : Room k X.A) (hb : Binds X.K fd ps ds) (hd : Vals dvs ds) (hx : Passes CX X E) (ha : PA X (e :: es) t)
    (hst : starEach (e :: es) X.env = (false, eval e X.env) :: starEach es X.env := by rfl) (hpl : (backTo pos (starEach es X.env)).any (·.1) = false := by rfl)
    (ht : eval (.Call (.Attribute o m apos) (e :: es) [] pos) X.env = (do
      let ov ← eval o X.env
      standAt apos.atName
      let (f, first) ← holding [ov] (getMethod ov m pl)
      callWith pos f first (backTo pos (starEach (e :: es) X.env)) (backToKw pos (keywordEach [] X.env))) := by rfl) :
    PE X (.Call (.Attribute o m apos) (e :: es) [] pos) (tMeth C m sp dvs E ta t) := by
  intro pins s σ H Q I h
  refine PySem.W.methodCall_KW (pl := pl) (thn (he pins s σ H _ I h) fun u s1 ⟨x, H1, I1, rx, a, dx, fs, ex, ea, l, q⟩ => ?_) ht
  subst ex
  obtain rfl : u = Value.ref a := rx
  refine getmeth_ok I1 ea c hm l ?_
  refine PySem.W.callWith_K (first := [.ref a]) (h₀ := X.base) I.ok.mod.kin hm.kp (thn (ha pos pins s1 σ H1 _ I1 q) fun us s2 ⟨vs, H2, I2, r, q2⟩ => ⟨I2.kIn, ?_⟩) hst hpl
  exact run_fn (us := .ref a :: us) (vs := .ref a :: vs) F hr hb hd hx I2 (.cons rfl r) q2
/-- o.m() -/
theorem pe_meth0 {pl : Sem Bool} (he : PE X o ta) (c : Cls X.K C) (hm : Meth X.K C m f) (F : FnOk X.prog X.w X.K X.mg X.base CX k f fd ps sp) (hr : Room k X.A) (hb : Binds X.K fd ps ds) (hd : Vals dvs ds) (hx : Passes CX X E)
    (ht : eval (.Call (.Attribute o m apos) [] [] pos) X.env = (do
      let ov ← eval o X.env
      standAt apos.atName
      let (f, first) ← holding [ov] (getMethod ov m pl)
      callWith pos f first (backTo pos (starEach [] X.env)) (backToKw pos (keywordEach [] X.env))) := by rfl) :
    PE X (.Call (.Attribute o m apos) [] [] pos) (tMeth C m sp dvs E ta tNil) := by
  intro pins s σ H Q I h
  refine PySem.W.methodCall_KW (pl := pl) (thn (he pins s σ H _ I h) fun u s1 ⟨x, H1, I1, rx, a, dx, fs, ex, ea, l, q⟩ => ?_) ht
  subst ex
  obtain rfl : u = Value.ref a := rx
  refine getmeth_ok I1 ea c hm l ?_
  exact PySem.W.callWith_K0 (first := [.ref a]) I1.kIn hm.kp (run_fn (us := [.ref a]) (vs := [.ref a]) F hr hb hd hx I1 (.cons rfl .nil) q)

/-- what a class must have to be made -/
structure Mk (K : PySem.W.Frag) (C f : Addr) : Prop where
  makes : PySem.W.makesIn K C = true
  init : PySem.W.findIn K (.ref C) "__init__" = some (some (.ref f))
  fn : PySem.W.isFn K (.ref f) = true
  kp : PySem.W.keepIn K (.ref C) = true

theorem run_make {pins : List (Addr × Obj)} {σ : St} {H : Hp} {s : Shared} {Q : VK} {us : List Value} {vs : List V} (M : Mk X.K C f) (F : FnOk X.prog X.w X.K X.mg X.base CX k f fd ps sp) (hr : Room (k + 1) X.A) (hb : Binds X.K fd ps ds) (hd : Vals dvs ds)
    (hx : Passes CX X E) (I : Inv X pins σ H s) (r : Vals vs us)
    (h : ∀ x dx, H x = none → H dx = none → dx ≠ x → sp (.ref x :: (vs ++ dvs)) (upd (upd H dx (.own x)) x (.ins C dx [])) (fun v H2 => v = .non ∧ Q (.ref x) H2) E) :
    wpAny (model X.prog X.w) X.A (call (.ref C) us) (EP X pins σ Q) X.xe s := by
  have hq := h (s.heap.objs.size + 1) s.heap.objs.size (I.hok.fresh (Nat.le_succ _)) (I.hok.fresh (Nat.le_refl _)) (Nat.ne_of_lt (Nat.lt_succ_self _))
  have I2 := Inv.made (C := C) I
  have r2 : Vals (V.ref (s.heap.objs.size + 1) :: (vs ++ dvs)) (Value.ref (s.heap.objs.size + 1) :: (us ++ ds)) := .cons rfl (r.append hd)
  have hl : (Value.ref (s.heap.objs.size + 1) :: us ++ ds).length = ps.length := by
    have e := r2.length
    rw [F.len _ _ _ _ hq] at e
    exact e.symm
  refine wpAny_call (make_map (f := f) I.kIn M.makes M.init (beq_iff_eq.mp M.fn) (codeAny_mono (F.run _ X.stack _ _ ⟨Value.ref (s.heap.objs.size + 1) :: us, []⟩ (Value.ref (s.heap.objs.size + 1) :: (us ++ ds)) _ _ E (hr.make C us [])
    (I2.env0.make C us []) (hb _ (Value.ref (s.heap.objs.size + 1) :: us) I2.kIn hl) r2 hq) fun r s' hq' => ?_))
  cases r with
  | error e => exact hx pins σ _ _ e s' I2 hq'
  | ok fl =>
    cases fl with
    | ret u =>
      obtain ⟨v, H', I3, rv, ev, q3⟩ := I2.after hq'
      subst ev
      exact ⟨rv, ⟨V.ref (s.heap.objs.size + 1), H', I3, rfl, q3⟩⟩
    | next => exact False.elim hq'
    | brk => exact False.elim hq'
    | cont => exact False.elim hq'
theorem pe_make (M : Mk X.K C f) (F : FnOk X.prog X.w X.K X.mg X.base CX k f fd ps sp) (hr : Room (k + 1) X.A) (hg : Gl X x) (hm : X.mg x = some (.ref C)) (hb : Binds X.K fd ps ds) (hd : Vals dvs ds) (hx : Passes CX X E)
    (ha : PA X (e :: es) t) (hdb : (x == ("__debug__" : Str)) = false := by decide) (he : starEach (e :: es) X.env = (false, eval e X.env) :: starEach es X.env := by rfl) (hpl : (backTo pos (starEach es X.env)).any (·.1) = false := by rfl) :
    PE X (.Call (.Name x p) (e :: es) [] pos) (tMake C sp dvs E t) := by
  intro pins s σ H Q I h
  refine wpAny_Call_Name_kw (ld_glob I hg hm ?_ hdb)
  refine PySem.W.callWith_K (h₀ := X.base) I.ok.mod.kin M.kp (thn (ha pos pins s σ H _ I h) fun us s1 ⟨vs, H1, I1, r, q⟩ => ⟨I1.kIn, ?_⟩) he hpl
  exact run_make M F hr hb hd hx I1 r q
theorem pe_make0 (M : Mk X.K C f) (F : FnOk X.prog X.w X.K X.mg X.base CX k f fd ps sp) (hr : Room (k + 1) X.A) (hg : Gl X x) (hm : X.mg x = some (.ref C)) (hb : Binds X.K fd ps ds) (hd : Vals dvs ds) (hx : Passes CX X E)
    (hdb : (x == ("__debug__" : Str)) = false := by decide) : PE X (.Call (.Name x p) [] [] pos) (tMake C sp dvs E tNil) := by
  intro pins s σ H Q I h
  refine wpAny_Call_Name_kw (ld_glob I hg hm ?_ hdb)
  exact PySem.W.callWith_K0 I.kIn M.kp (run_make (us := []) M F hr hb hd hx I .nil h)
end

/-! ### keywords -/
section
variable {X : Cx} {CX : CXT} {k : Nat} {f C : Addr} {fd : FuncData} {ps ks : List Str} {sp : Sp} {E : XK} {x m : Str} {p pos apos kpos : Pos} {e o : Expr} {es : List Expr} {kws : List Keyword} {te ta : TE} {t tk : TA} {nm : Option Str}
variable {g : List Value → List Value → List Value} {gV : List V → List V → List V}
end

/-! ### a def's body keeps its promise -/
/-- names: the parameters first -/
structure FnScope (N P : List Str) (sc : Scope) : Prop where
  kind : sc.kind = .function
  co : sc.isCoroutine = false
  gen : sc.isGenerator = false
  nd : N.Nodup
  pre : N.take P.length = P
  par : ∀ x ∈ P, sc.names.lookup x = some .local ∨ sc.names.lookup x = some .cell
  nofree : ∀ y ∈ sc.names, y.2 ≠ .free

theorem bindL_out {kindOf : Str → Option NameKind} {x : Str} : ∀ {binds : List (Str × Value)} {m : Str → Option Value}, (∀ v, (x, v) ∉ binds) → bindL kindOf binds m x = m x
  | [], _, _ => rfl
  | (n, v) :: r, m, h => by
    unfold bindL
    rw [bindL_out fun w hw => h w (List.mem_cons_of_mem _ hw)]
    split
    · have : x ≠ n := by rintro rfl; exact h v List.mem_cons_self
      simp [this]
    · rfl
theorem bindC_out {kindOf : Str → Option NameKind} {x : Str} : ∀ {binds : List (Str × Value)} {m : Str → Option Value}, (∀ v, (x, v) ∉ binds) → bindC kindOf binds m x = m x
  | [], _, _ => rfl
  | (n, v) :: r, m, h => by
    unfold bindC
    rw [bindC_out fun w hw => h w (List.mem_cons_of_mem _ hw)]
    split
    · rfl
    · have : x ≠ n := by rintro rfl; exact h v List.mem_cons_self
      simp [this]
theorem bindL_get {kindOf : Str → Option NameKind} {x : Str} {v : Value} : ∀ {P : List Str} {vs : List Value} {i : Nat} {m : Str → Option Value}, P.Nodup → P[i]? = some x → vs[i]? = some v → kindOf x = some .local →
    bindL kindOf (P.zip vs) m x = some v
  | [], _, _, _, _, h, _, _ => by simp at h
  | _ :: _, [], _, _, _, _, h, _ => by simp at h
  | p :: P, w :: vs, 0, m, nd, h1, h2, hk => by
    simp at h1 h2; subst h1; subst h2
    show bindL kindOf ((p, w) :: P.zip vs) m p = _
    unfold bindL
    rw [bindL_out fun v hv => (List.nodup_cons.mp nd).1 (List.of_mem_zip hv).1, if_pos hk]
    simp
  | p :: P, w :: vs, i + 1, m, nd, h1, h2, hk => by
    show bindL kindOf ((p, w) :: P.zip vs) m x = _
    unfold bindL
    exact bindL_get (i := i) (List.nodup_cons.mp nd).2 (by simpa using h1) (by simpa using h2) hk
theorem bindC_get {kindOf : Str → Option NameKind} {x : Str} {v : Value} : ∀ {P : List Str} {vs : List Value} {i : Nat} {m : Str → Option Value}, P.Nodup → P[i]? = some x → vs[i]? = some v → kindOf x ≠ some .local →
    bindC kindOf (P.zip vs) m x = some v
  | [], _, _, _, _, h, _, _ => by simp at h
  | _ :: _, [], _, _, _, _, h, _ => by simp at h
  | p :: P, w :: vs, 0, m, nd, h1, h2, hk => by
    simp at h1 h2; subst h1; subst h2
    show bindC kindOf ((p, w) :: P.zip vs) m p = _
    unfold bindC
    rw [bindC_out fun v hv => (List.nodup_cons.mp nd).1 (List.of_mem_zip hv).1, if_neg hk]
    simp
  | p :: P, w :: vs, i + 1, m, nd, h1, h2, hk => by
    show bindC kindOf ((p, w) :: P.zip vs) m x = _
    unfold bindC
    exact bindC_get (i := i) (List.nodup_cons.mp nd).2 (by simpa using h1) (by simpa using h2) hk

/-- the names' values at the entry -/
noncomputable def start (N : List Str) (vs : List V) : St := vs.map some ++ List.replicate (N.length - vs.length) none

/-- the context of a def's body, at its entry; an exception leaves the frame, then lies as CX says -/
noncomputable def cxOf (CX : CXT) (P : Program) (w : World) (K : PySem.W.Frag) (mg : Str → Option Value) (base : Heap) (N : List Str) (qual : Str) (scope : Scope) (f : Addr) (cd : Value) (A : Around) (outer : List Env) (s : Shared) (H : Hp) (E : XK) : Cx where
  prog := P
  w := w
  K := K
  mg := mg
  base := base
  A := A.deeper (envOfC qual scope s.heap.objs.size f cd)
  N := N
  s₀ := s
  H₀ := H
  env := envOfC qual scope s.heap.objs.size f cd
  outer := outer
  stack := envOfC qual scope s.heap.objs.size f cd :: outer
  ex := []
  calm := true
  fn := fun _ => true
  pn := []
  xe := fun e s' => wpAny (model P w) (A.deeper (envOfC qual scope s.heap.objs.size f cd)) (leaving (envOfC qual scope s.heap.objs.size f cd) e) (fun _ s'' => CX outer H s E e s'') (fun e' s'' => CX outer H s E e' s'') s'

theorem cell_has {sc : Scope} {n : Nat} {x : Str} (h : sc.names.lookup x = some .cell) : ∃ c, (cellsFrom n sc.names []).lookup x = some c := by
  have q := PySem.W.cellsFrom_some sc.names n [] (.inl h)
  exact Option.isSome_iff_exists.mp q

theorem inv_start {CX : CXT} {P : Program} {w : World} {K : PySem.W.Frag} {mg : Str → Option Value} {base : Heap} {N ps : List Str} {qual : Str} {scope : Scope} {f : Addr} {cd : Value} {A : Around} {outer : List Env} {s s1 : Shared} {H : Hp} {E : XK} {us : List Value} {vs : List V}
    (S : FnScope N ps scope) (hd : A.handled = none) (e0 : Env0 P w K mg base A outer s H) (hl : vs.length = ps.length) (r : Vals vs us)
    (x : InCallC s s.heap.objs.size (bindL (envOfC qual scope s.heap.objs.size f cd).kindOf (ps.zip us) fun _ => none) (cellsFrom (s.heap.objs.size + 1) scope.names []) (bindC (envOfC qual scope s.heap.objs.size f cd).kindOf (ps.zip us) fun _ => none) s1) :
    Inv (cxOf CX P w K mg base N qual scope f cd A outer s H E) [] (start N vs) H s1 := by
  have hpl : ps.length ≤ N.length := by have := congrArg List.length S.pre; rw [List.length_take] at this; omega
  obtain ⟨h1, tk, rfl, hk⟩ := x.done
  have noA : ∀ b : Addr, b ∉ (cxOf CX P w K mg base N qual scope f cd A outer s H E).ex := fun b z => absurd (show b ∈ ([] : List Addr) from z) (by simp)
  refine ⟨⟨e0.mod, S.kind, rfl, rfl, Nat.le_refl _, fun y z c h1 h2 => ?_, fun y hy => ?_, fun y c _ h => ?_, fun _ => hd, Around.frames_deeper e0.frames, .inr ⟨rfl, rfl⟩, fun b z => absurd z (noA b), e0.bs, e0.bsz, fun b _ _ => noA b, fun b z => absurd z (noA b), e0.funs, e0.frf⟩,
    rfl, e0.bare, Un.kept hk, ⟨_, x.toInCall.ns, fun i y v h1 h2 h3 => ?_⟩, fun y c h => ⟨_, x.cell y c h⟩, e0.hok.fresh (Nat.le_refl _), fun y c h => ?_, fun p hp => absurd (show p ∈ ([] : List (Addr × Obj)) from hp) (by simp), e0.hok.kept hk, ?_⟩
  · exact name_of_addr x.apart (PySem.mem_of_lookup h1) (PySem.mem_of_lookup h2)
  · have hy : scope.names.lookup y = some .cell ∨ scope.names.lookup y = some .free := hy
    rcases hy with hy | hy
    · exact cell_has hy
    · exact absurd rfl (S.nofree _ (PySem.mem_of_lookup hy))
  · exact Nat.le_of_lt (x.above y c (PySem.mem_of_lookup h))
  · have hi : i < vs.length := by
      unfold start at h2
      by_cases hi : i < vs.length
      · exact hi
      · rw [List.getElem?_append_right (by simpa using hi)] at h2
        rw [List.getElem?_replicate] at h2
        split at h2 <;> cases h2
    have ha : vs[i]? = some v := by
      unfold start at h2
      rw [List.getElem?_append_left (by simpa using hi), List.getElem?_map] at h2
      cases e : vs[i]? with
      | none => rw [e] at h2; cases h2
      | some a => rw [e] at h2; cases h2; rfl
    obtain ⟨u, hu, rv⟩ := r.get ha
    have hp : ps[i]? = some y := by
      rw [← S.pre, List.getElem?_take_of_lt (by omega)]; exact h1
    have ndP : ps.Nodup := by rw [← S.pre]; exact S.nd.sublist (List.take_sublist _ _)
    refine ⟨u, rv, ?_⟩
    rcases S.par y (List.mem_of_getElem? hp) with k | k
    · exact .inl ⟨k, bindL_get ndP hp hu k⟩
    · obtain ⟨c, e⟩ := cell_has (n := s.heap.objs.size + 1) k
      refine .inr ⟨.inl k, c, e, ?_⟩
      have q := x.cell y c e
      rw [bindC_get ndP hp hu (by show scope.names.lookup y ≠ _; rw [k]; decide)] at q
      exact q
  · exact e0.hok.fresh (Nat.le_of_lt (x.above y c (PySem.mem_of_lookup h)))
  · unfold start
    show _ = N.length
    rw [List.length_append, List.length_map, List.length_replicate]
    omega

/-- THE RULE: a def (or a method) of the text, by its body. The body's reading t is chosen for each entry; it is run at the parameters' values -/
theorem fn_of {CX : CXT} {P : Program} {w : World} {K : PySem.W.Frag} {mg : Str → Option Value} {base : Heap} {k : Nat} {f : Addr} {name qual : Str} {params : Arguments} {body : List Stmt} {scope : Scope} {dV kV doc pm cdv ct oc : Value} {an od : Option Addr}
    {osl : Array (Option Value)} {N ps : List Str} {sp : Sp} (lk : K.lookup f = some ⟨oc, od, .func (PySem.W.fnOf name qual params body scope dV kV doc pm an cdv ct), osl⟩) (hcd : PySem.W.codeIn K cdv qual = true) (S : FnScope N ps scope)
    (len : ∀ vs H Q E, sp vs H Q E → vs.length = ps.length)
    (hbody : ∀ (A : Around) (outer : List Env) (s : Shared) (H : Hp) (vs : List V) (Q : VK) (E : XK), Room k (A.deeper (envOfC qual scope s.heap.objs.size f cdv)) → sp vs H Q E →
      ∃ t, PSs (cxOf CX P w K mg base N qual scope f cdv A outer s H E) body t ∧ t { nx := fun _ H' => Q .non H', rt := Q } (start N vs) H) :
    FnOk P w K mg base CX (k + 1) f (PySem.W.fnOf name qual params body scope dV kV doc pm an cdv ct) ps sp := by
  refine ⟨len, fun A outer s H args us vs Q E hr e0 hb r hsp => ?_⟩
  have hl := len _ _ _ _ hsp
  have KX : K.In s.heap := e0.mod.kin.keeps fun b o e => (e0.bs b o e).1
  have lim : s.heap.NoLimit := e0.mod.nolimit.keeps fun b o e => (e0.bs b o e).1
  have hkind : ∀ y ∈ ps.zip us, scope.names.lookup y.1 = some .local ∨ (scope.names.lookup y.1 = some .cell ∧ ((cellsFrom (s.heap.objs.size + 1) scope.names []).lookup y.1).isSome = true) := fun ⟨n, v⟩ hy => by
    rcases S.par n (List.of_mem_zip hy).1 with q | q
    · exact .inl q
    · exact .inr ⟨q, PySem.W.cellsFrom_some _ _ _ (.inl q)⟩
  refine codeAny_call_function hr.depth (KX _ _ lk) rfl S.co S.gen rfl (PySem.W.codeRec_of KX hcd) (hb _ _ _ _ ?_)
  refine wpAny_newFunctionEnv_cells S.kind hkind fun env he s1 x => ?_
  subst he
  refine ⟨lim.keeps x.toInCall.keep, codeAny_func ?_⟩
  obtain ⟨t, ht, hq⟩ := hbody A outer s H vs Q E (hr.deeper _) hsp
  have I : Inv (cxOf CX P w K mg base N qual scope f cdv A outer s H E) [] (start N vs) H s1 := inv_start S hr.hd e0 hl r x
  refine wpAny_mono (ht [] s1 (start N vs) H _ I hq) (fun fl s' hs => ?_) fun e s' hs => hs
  have fin : ∀ {σ' : St} {H' : Hp} {v : V} {u : Value}, Inv (cxOf CX P w K mg base N qual scope f cdv A outer s H E) [] σ' H' s' → RelV v u → Q v H' → CE outer P w H s Q u s' :=
    fun {σ' H' v u} J rv q => ⟨v, H', J.os, J.bare, J.base, J.hok, rv, q⟩
  cases fl with
  | ret u =>
    obtain ⟨v, σ', H', J, rv, q⟩ := hs
    exact fin J rv q
  | next =>
    obtain ⟨σ', H', J, q⟩ := hs
    exact fin (v := V.non) (u := Value.none) J rfl q
  | brk =>
    obtain ⟨_, _, _, q⟩ := hs
    exact False.elim q
  | cont =>
    obtain ⟨_, _, _, q⟩ := hs
    exact False.elim q
end L2

namespace L2
open PySem PySem.Spec PyProof.Rows
section
variable {X : Cx} {x : Str} {p pos : Pos} {e : Expr} {es : List Expr} {t : TA} {id T : String} {r : List V → Hp → VK → Prop}

noncomputable def tCB (r : List V → Hp → VK → Prop) (t : TA) : TE := fun σ H Q => t σ H fun vs H1 => r vs H1 Q
/-- f(e, ..), f a built-in function -/
theorem pe_callB (hc : CallR X (.builtin id) r) (hg : Gl X x) (hm : X.mg x = none) (hv : bootBuiltins x = some (.builtin id)) (ha : PA X (e :: es) t) (hn : x ≠ "__name__" := by decide) (hdb : (x == ("__debug__" : Str)) = false := by decide)
    (he : starEach (e :: es) X.env = (false, eval e X.env) :: starEach es X.env := by rfl) (hpl : (backTo pos (starEach es X.env)).any (·.1) = false := by rfl) : PE X (.Call (.Name x p) (e :: es) [] pos) (tCB r t) := by
  intro pins s σ H Q I h
  refine wpAny_Call_Name_kw (ld_blt I hg hm hv ?_ hn hdb)
  exact PyProof.Rows.callWith_builtin1 (thn (ha pos pins s σ H _ I h) fun us s1 ⟨vs, H1, I1, r1, q1⟩ => hc pins s1 σ H1 vs us Q I1 r1 q1) he hpl
/-- T(e, ..), T a built-in type -/
theorem pe_callTy (hc : CallR X (.type T) r) (hg : Gl X x) (hm : X.mg x = none) (hv : bootBuiltins x = some (.type T)) (ha : PA X (e :: es) t) (hn : x ≠ "__name__" := by decide) (hdb : (x == ("__debug__" : Str)) = false := by decide)
    (he : starEach (e :: es) X.env = (false, eval e X.env) :: starEach es X.env := by rfl) (hpl : (backTo pos (starEach es X.env)).any (·.1) = false := by rfl) : PE X (.Call (.Name x p) (e :: es) [] pos) (tCB r t) := by
  intro pins s σ H Q I h
  refine wpAny_Call_Name_kw (ld_blt I hg hm hv ?_ hn hdb)
  exact PyProof.Rows.callWith_type1 (thn (ha pos pins s σ H _ I h) fun us s1 ⟨vs, H1, I1, r1, q1⟩ => hc pins s1 σ H1 vs us Q I1 r1 q1) he hpl
end
end L2

namespace HT
open PySem PyProof.Rows

section
open PySem.SeqAt
open PySem.AutoSeq1 (wpAny_loadPart')
open PySem.MeetsSeq PySem.MeetsSeq2 PySem.MeetsSeq3

end

section
variable {prog : Program} {w : World} {A : Around} {E : Value → Shared → Prop} {s : Shared}

/-! ### t[a:b], not the whole -/
/-- a slice's bound as a place among n (d where it is left out) -/
noncomputable def sIx (n d : Nat) : Option Int → Nat
  | none => d
  | some v => if v < 0 then (v + (n : Int)).toNat else min v.toNat n
end
end HT

namespace L2
open PySem PySem.Spec PyProof.Rows

/-! ### the parts of a slice -/
noncomputable abbrev TO := St → Hp → (Option Int → Hp → Prop) → Prop
/-- a slice's part (left out, or an int) -/
noncomputable def PO (X : Cx) (e : Option Expr) (t : TO) : Prop :=
  ∀ (pins : List (Addr × Obj)) (s : Shared) (σ : St) (H : Hp) (Q : Option Int → Hp → Prop), Inv X pins σ H s → t σ H Q →
    wpAny (model X.prog X.w) X.A (evalPart e X.env) (fun u s' => ∃ o H', Inv X pins σ H' s' ∧ IsPart u o ∧ Q o H') X.xe s
noncomputable def tNoPart : TO := fun _ H Q => Q none H
noncomputable def tPart (t : TE) : TO := fun σ H Q => t σ H fun x H1 => ∃ i, x = .int i ∧ Q (some i) H1

section
variable {X : Cx} {e : Expr} {te : TE} {lo hi : Option Expr} {tl th : TO} {pos p2 : Pos}

theorem po_none : PO X none tNoPart := by
  intro pins s σ H Q I h
  rw [evalPart_none]
  exact wpAny_pure ⟨none, H, I, .none, h⟩
theorem po_some (h : PE X e te) : PO X (some e) (tPart te) := by
  intro pins s σ H Q I hw
  rw [evalPart_some]
  refine thn (h pins s σ H _ I hw) fun u s1 ⟨x, H1, I1, r1, q1⟩ => ?_
  obtain ⟨i, rfl, q⟩ := q1
  obtain ⟨t, rfl⟩ := r1
  exact ⟨some i, H1, I1, .int i t, q⟩

/-- what a slice of a value is, by values: the slice object stands at sl -/
noncomputable def SlR (X : Cx) (r : V → Option Int → Option Int → Hp → VK → Prop) : Prop :=
  ∀ (pins : List (Addr × Obj)) (s : Shared) (σ : St) (H : Hp) (x : V) (v vl vu : Value) (lo hi : Option Int) (sl : Addr) (Q : VK), Inv X pins σ H s → RelV x v → s.heap.IsSliceOf sl vl vu .none → IsPart vl lo → IsPart vu hi → r x lo hi H Q →
    ∃ T id, typeLookup (.type T) "__getitem__" = pure (some (.builtin id)) ∧ s.TypeIs v T ∧ wpAny (model X.prog X.w) X.A (getItem v (.ref sl)) (EP X pins σ Q) X.xe s
noncomputable def tSl (r : V → Option Int → Option Int → Hp → VK → Prop) (te : TE) (tl th : TO) : TE := fun σ H Q => te σ H fun x H1 => tl σ H1 fun l H2 => th σ H2 fun u H3 => r x l u H3 Q
/-- a[lo:hi], any a -/
theorem pe_slice {r : V → Option Int → Option Int → Hp → VK → Prop} (hr : SlR X r) (he : PE X e te) (hl : PO X lo tl) (hu : PO X hi th) : PE X (.Subscript e (.Slice lo hi none p2) pos) (tSl r te tl th) := by
  intro pins s σ H Q I h
  refine Subscript_ (thn (he pins s σ H _ I h) fun v s1 ⟨x, H1, I1, r1, q1⟩ => ?_)
  refine wpAny_Slice (thn (hl pins s1 σ H1 _ I1 q1) fun vl s2 ⟨l, H2, I2, pl, q2⟩ => thn (hu pins s2 σ H2 _ I2 q2) fun vu s3 ⟨u, H3, I3, pu, q3⟩ => ?_)
  rw [evalPart_none]
  refine wpAny_pure ?_
  have I4 : Inv X pins σ H3 { s3 with heap := s3.heap.push { cls := .type "slice", data := .fields #[vl, vu, .none] } } := I3.kept (t' := s3.toks) fun b ob q => Heap.get?_push_of_some _ q
  obtain ⟨T, id, hT, ht, hg⟩ := hr pins { s3 with heap := s3.heap.push { cls := .type "slice", data := .fields #[vl, vu, .none] } } σ H3 x v vl vu l u s3.heap.objs.size Q I4 r1 (Heap.IsSliceOf.new ..) pl pu q3
  show wpAny (model X.prog X.w) X.A (subscriptTail e (.Slice lo hi none p2) v (.ref s3.heap.objs.size)) (EP X pins σ Q) X.xe { s3 with heap := s3.heap.push { cls := .type "slice", data := .fields #[vl, vu, .none] } }
  exact tail_any (ops := [.ref s3.heap.objs.size, v]) ht hT hg (by with_unfolding_all rfl)

/-- the items of xs[lo:hi] -/
noncomputable def cutV (xs : List V) (lo hi : Option Int) : List V := (xs.drop (HT.sIx xs.length 0 lo)).take (HT.sIx xs.length xs.length hi - HT.sIx xs.length 0 lo)
theorem cutV_length (xs : List V) (lo hi : Option Int) : (cutV xs lo hi).length ≤ xs.length := by
  unfold cutV
  rw [List.length_take, List.length_drop]
  omega
/-! ### t < u, t + u -/
end
end L2

namespace L2
open PySem PySem.Spec PyProof.Rows

/-! ### places -/
/-- the place that an index of any sign means -/
noncomputable def ixN (n : Nat) (i : Int) : Option Nat := if 0 ≤ i then (if i < n then some i.toNat else none) else if -(n : Int) ≤ i then some (i + n).toNat else none
noncomputable def atI {α : Type} (xs : List α) (i : Int) : Option α := (ixN xs.length i).bind fun j => xs[j]?
theorem ixN_seq {n : Nat} {i : Int} {j : Nat} (h : ixN n i = some j) : seqIndex? i n = some j ∧ j < n ∧ -(n : Int) ≤ i ∧ i < n := by
  unfold ixN at h
  by_cases h0 : 0 ≤ i
  · rw [if_pos h0] at h
    by_cases h1 : i < n
    · rw [if_pos h1] at h
      have e : i.toNat = j := Option.some.inj h
      exact ⟨by rw [seqIndex_of h0 h1, e], by omega, by omega, h1⟩
    · rw [if_neg h1] at h; cases h
  · rw [if_neg h0] at h
    by_cases h1 : -(n : Int) ≤ i
    · rw [if_pos h1] at h
      have e : (i + n).toNat = j := Option.some.inj h
      exact ⟨by rw [seqIndex_neg (by omega) h1, e], by omega, h1, by omega⟩
    · rw [if_neg h1] at h; cases h
theorem atI_get {α : Type} {xs : List α} {i : Int} {v : α} (h : atI xs i = some v) : ∃ j, seqIndex? i xs.length = some j ∧ xs[j]? = some v ∧ j < xs.length ∧ -(xs.length : Int) ≤ i ∧ i < xs.length := by
  unfold atI at h
  cases e : ixN xs.length i with
  | none => rw [e] at h; cases h
  | some j =>
    rw [e] at h
    obtain ⟨h1, h2, h3, h4⟩ := ixN_seq e
    exact ⟨j, h1, h, h2, h3, h4⟩
/-! ### what may be subscripted -/
/-- what stands as an index of a plain subscript -/
noncomputable def PlainIx (b : Expr) : Prop := ∀ o i, subscripted b false o i = operate [o, i] (getItem o i)
/-- a subscript by values -/
noncomputable def IxR (X : Cx) (r : R2) : Prop :=
  ∀ (value slice : Expr) (pins : List (Addr × Obj)) (s : Shared) (σ : St) (H : Hp) (x y : V) (v u : Value) (Q : VK), Inv X pins σ H s → RelV x v → RelV y u → r x y H Q →
    subscripted slice false v u = operate [v, u] (getItem v u) → wpAny (model X.prog X.w) X.A (subscriptTail value slice v u) (EP X pins σ Q) X.xe s
/-- a call of a builtin's method by values: the receiver, the arguments -/
noncomputable def MtR (X : Cx) (id : String) (r : V → List V → Hp → VK → Prop) : Prop :=
  ∀ (pins : List (Addr × Obj)) (s : Shared) (σ : St) (H : Hp) (x : V) (xs : List V) (v : Value) (us : List Value) (Q : VK), Inv X pins σ H s → RelV x v → Vals xs us → r x xs H Q →
    wpAny (model X.prog X.w) X.A (call (.builtin id) (v :: us)) (EP X pins σ Q) X.xe s
section
variable {X : Cx} {a b : Expr} {ta tb : TE} {pos : Pos}
/-- a[b] -/
theorem pe_ix {r : R2} (hr : IxR X r) (ha : PE X a ta) (hb : PE X b tb) (hs : PlainIx b) : PE X (.Subscript a b pos) (tOp r ta tb) := by
  intro pins s σ H Q I h
  exact Subscript_ (binT ha hb I h fun v u s2 x y H2 I2 rx ry q => hr a b pins s2 σ H2 x y v u Q I2 rx ry q (hs _ _))

noncomputable def rIxL (K : PySem.W.Frag) : R2 := fun x y H Q => ∃ p xs i v, x = .ref p ∧ y = .int i ∧ SqL K H p xs ∧ atI xs i = some v ∧ Q v H
noncomputable def rIxT (K : PySem.W.Frag) : R2 := fun x y H Q => ∃ p xs i v, x = .ref p ∧ y = .int i ∧ SqT K H p xs ∧ atI xs i = some v ∧ Q v H
noncomputable def rIxS : R2 := fun x y H Q => ∃ z i c, x = .str z ∧ y = .int i ∧ z.length ≤ sizeLine ∧ atI z.cps.toList i = some c ∧ Q (.str ⟨#[c]⟩) H
theorem ix_list : IxR X (rIxL X.K) := by
  intro value slice pins s σ H x y v u Q I rx ry h hs
  obtain ⟨p, xs, i, z, rfl, rfl, hq, he, q⟩ := h
  cases rx
  obtain ⟨t, rfl⟩ := ry
  obtain ⟨its, r, pl, hz⟩ := I.list hq
  obtain ⟨j, h1, h2, h3, h4, h5⟩ := atI_get he
  obtain ⟨w, ew, rw'⟩ := r.get h2
  have hl := r.length
  have hn := line63
  have fin : EP X pins σ Q w s := ⟨z, H, I, rw', q⟩
  by_cases h0 : 0 ≤ i
  · have hj : i.toNat = j := by
      rw [seqIndex_of h0 h5] at h1
      exact Option.some.inj h1
    exact item_listR pl.isList h0 (by omega) (by rw [hj]; simpa using ew) fin hs
  · have hj : (i + (its.toArray.size : Int)).toNat = j := by
      rw [seqIndex_neg (by omega) h4] at h1
      rw [List.size_toArray, ← hl]
      exact Option.some.inj h1
    exact subscriptTail_builtinR (x := w) pl.isList.typeIs slot_list_getitem.lookup
      (wpAny_getItem_list_neg (Q := fun r s' => r = w ∧ EP X pins σ Q r s') pl.isList (by omega) (by rw [List.size_toArray] <;> omega) (by omega) (by rw [hj]; simpa using ew) ⟨rfl, fin⟩) hs
theorem ix_tup : IxR X (rIxT X.K) := by
  intro value slice pins s σ H x y v u Q I rx ry h hs
  obtain ⟨p, xs, i, z, rfl, rfl, hq, he, q⟩ := h
  cases rx
  obtain ⟨t, rfl⟩ := ry
  obtain ⟨its, r, pl, hz⟩ := I.tuple hq
  obtain ⟨j, h1, h2, h3, h4, h5⟩ := atI_get he
  obtain ⟨w, ew, rw'⟩ := r.get h2
  have hl := r.length
  have hn := line63
  have fin : EP X pins σ Q w s := ⟨z, H, I, rw', q⟩
  exact subscriptTail_builtinR (x := w) pl.typeIs slot_tuple_getitem.lookup
    (getItem_tuple (j := j) (Q := fun r s' => r = w ∧ EP X pins σ Q r s') pl (by omega) (by omega) (by rw [List.size_toArray, ← hl]; exact h1) (by simpa using ew) ⟨rfl, fin⟩) hs
theorem ix_str : IxR X rIxS := by
  intro value slice pins s σ H x y v u Q I rx ry h hs
  obtain ⟨z, i, c, rfl, rfl, hz, he, q⟩ := h
  obtain ⟨t, rfl⟩ := rx
  obtain ⟨t', rfl⟩ := ry
  obtain ⟨j, h1, h2, h3, h4, h5⟩ := atI_get he
  have hl : z.cps.toList.length = z.length := by simp [Str.length]
  rw [hl] at h1 h4 h5
  have hn := line63
  exact tail_any (typeIs_str s z t) slot_str_getitem.lookup (getItem_str (c := c) (by
    have e1 : decide (i < -(2 ^ 63 : Int)) = false := decide_eq_false (by omega)
    have e2 : decide (i ≥ 2 ^ 63) = false := decide_eq_false (by omega)
    rw [e1, e2, Bool.or_false]) (by rw [h1]; simpa using h2) ⟨.str ⟨#[c]⟩, H, I.tok _, ⟨_, rfl⟩, q⟩) hs
/-! ### xs[i] = v, any sign -/
/-- the list's object behind a store -/
theorem mapSeq_set (its : List Value) (n j : Nat) (u : Value) : Obj.mapSeq (·.setIfInBounds j u) { cls := .type "list", data := .seq its.toArray n } = { cls := .type "list", data := .seq (its.set j u).toArray n } := by
  simp [Obj.mapSeq]
theorem Inv.lst {pins : List (Addr × Obj)} {σ : St} {H : Hp} {s : Shared} {p : Addr} {xs : List V} (I : Inv X pins σ H s) (h : H p = some (.lst xs)) :
    ∃ (its : List Value) (n : Nat), Vals xs its ∧ s.heap.get? p = some { cls := .type "list", data := .seq its.toArray n } ∧ xs.length ≤ sizeLine := by
  obtain ⟨z, its, n, r, e⟩ := I.hok p _ h
  exact ⟨its, n, r, e, z⟩
/-- the list at p is written by an update of its object -/
theorem Inv.lstUpd {pins : List (Addr × Obj)} {σ : St} {H : Hp} {s : Shared} {p : Addr} {xs ys : List V} {its its' : List Value} {n n' : Nat} {f : Obj → Obj} (I : Inv X pins σ H s) (h : H p = some (.lst xs))
    (ho : s.heap.get? p = some { cls := .type "list", data := .seq its.toArray n }) (hf : f { cls := .type "list", data := .seq its.toArray n } = { cls := .type "list", data := .seq its'.toArray n' }) (r : Vals ys its') (hz : ys.length ≤ sizeLine) (t : Nat) :
    Inv X pins σ (upd H p (.lst ys)) { s with heap := s.heap.update p f, toks := t } := by
  have e : (s.heap.update p f).get? p = some { cls := .type "list", data := .seq its'.toArray n' } := by
    rw [Heap.get?_update_self f ho (by rw [hf] <;> rfl), hf]
  refine I.write (x := p) (e := p) (by rw [h]; trivial) (.inl rfl) (fun b u hb q => (Heap.get?_update_other _ _ (Ne.symm hb)).trans q) ⟨_, e⟩ ?_
  exact ⟨hz, its', n', r, e⟩
noncomputable def rSetL : V → V → V → Hp → (Hp → Prop) → Prop := fun o i v H Q => ∃ p xs k j, o = .ref p ∧ i = .int k ∧ H p = some (.lst xs) ∧ ixN xs.length k = some j ∧ Q (upd H p (.lst (xs.set j v)))
theorem set_list : PSet X rSetL := by
  intro pins s σ H o i v ov iv u Q I ro ri rv h
  obtain ⟨p, xs, k, j, rfl, rfl, hp, hj, q⟩ := h
  cases ro
  obtain ⟨t, rfl⟩ := ri
  obtain ⟨its, n, r, ho, hz⟩ := I.lst hp
  obtain ⟨h1, h2, h3, h4⟩ := ixN_seq hj
  have hl := r.length
  have hn := line63
  have I' : Inv X pins σ (upd H p (.lst (xs.set j v))) { s with heap := s.heap.update p (Obj.mapSeq (·.setIfInBounds j u)) } :=
    I.lstUpd hp ho (mapSeq_set its n j u) (r.set rv j) (by rw [List.length_set]; exact hz) s.toks
  by_cases h0 : 0 ≤ k
  · have hk : k.toNat = j := by
      rw [seqIndex_of h0 h4] at h1
      exact Option.some.inj h1
    exact PySem.W.ki_setAt ho h0 (by omega) (by rw [List.size_toArray, ← hl]; exact h4) (by rw [hk]; exact ⟨_, I', q⟩)
  · have hk : (k + (its.toArray.size : Int)).toNat = j := by
      rw [seqIndex_neg (by omega) h3] at h1
      rw [List.size_toArray, ← hl]
      exact Option.some.inj h1
    exact PySem.W.ki_setBack ho (by omega) (by rw [List.size_toArray, ← hl]; exact h3) (by omega) (by rw [hk]; exact ⟨_, I', q⟩)

/-! ### slices -/
theorem slice_bounds (lo hi : Option Int) (n : Nat) : (sliceBounds lo hi none n).1 = ((HT.sIx n 0 lo : Nat) : Int) ∧ (sliceBounds lo hi none n).2.1 = ((HT.sIx n n hi : Nat) : Int) ∧ (sliceBounds lo hi none n).2.2 = 1 := by
  refine ⟨?_, ?_, rfl⟩
  · cases lo with
    | none => simp [sliceBounds, HT.sIx]
    | some i =>
      simp only [sliceBounds, HT.sIx, Option.getD_none, show (1 : Int) > 0 by decide, if_true]
      by_cases h : i < 0
      · simp only [h, if_true] <;> omega
      · simp only [h, if_false] <;> omega
  · cases hi with
    | none => simp [sliceBounds, HT.sIx]
    | some i =>
      simp only [sliceBounds, HT.sIx, Option.getD_none, show (1 : Int) > 0 by decide, if_true]
      by_cases h : i < 0
      · simp only [h, if_true] <;> omega
      · simp only [h, if_false] <;> omega
theorem slicePick_cut (its : List Value) (lo hi : Option Int) : slicePick its.toArray lo hi none = ((its.drop (HT.sIx its.length 0 lo)).take (HT.sIx its.length its.length hi - HT.sIx its.length 0 lo)).toArray := by
  obtain ⟨h1, h2, h3⟩ := slice_bounds lo hi its.toArray.size
  unfold slicePick
  rw [h1, h2, h3]
  simp only [sliceRange_one, pick_run, List.size_toArray] <;> rfl
/-- xs[lo:hi] of a list: a new list -/
noncomputable def rSlL (K : PySem.W.Frag) : V → Option Int → Option Int → Hp → VK → Prop := fun x lo hi H Q => ∃ a xs, x = .ref a ∧ SqL K H a xs ∧ ∀ p, H p = none → Q (.ref p) (upd H p (.lst (cutV xs lo hi)))
theorem sl_list : SlR X (rSlL X.K) := by
  intro pins s σ H x v vl vu lo hi sl Q I rx hs pl pu h
  obtain ⟨a, xs, rfl, hx, q⟩ := h
  cases rx
  obtain ⟨its, r, ht, hz⟩ := I.list hx
  have hlen := r.length
  refine ⟨"list", _, slot_list_getitem.lookup, ht.isList.typeIs, ?_⟩
  refine wpAny_getItem_list_slice ht.isList hs pl pu .none (by simp) ?_ (by rw [List.size_toArray] <;> omega)
  rw [slicePick_cut, ← hlen]
  refine ⟨.ref s.heap.objs.size, _, I.laid (t' := s.toks) (o := .lst (cutV xs lo hi)) (fun b ob q => Heap.get?_push_of_some _ q) (Nat.le_refl _) ?_, rfl, q _ (I.hok.fresh (Nat.le_refl _))⟩
  exact ⟨Nat.le_trans (cutV_length xs lo hi) hz, _, 0, (r.drop (HT.sIx xs.length 0 lo)).take (HT.sIx xs.length xs.length hi - HT.sIx xs.length 0 lo), Heap.get?_push_size _ rfl⟩

/-! ### in, not in: flat items -/
/-! ### len, list(x), tuple(x) of any list or tuple that is read -/
theorem call_list_of : CallR X (.type "list") (fun xs H Q => ∃ p ys, xs = [.ref p] ∧ (SqL X.K H p ys ∨ SqT X.K H p ys) ∧ ∀ l, H l = none → Q (.ref l) (upd H l (.lst ys))) := by
  intro pins s σ H xs us Q I r h
  obtain ⟨p, ys, rfl, hq, q⟩ := h
  obtain ⟨u, rfl, rx⟩ := vals1 r
  cases rx
  have fin : ∀ (its : List Value), Vals ys its → ys.length ≤ sizeLine → ∀ (h' : Heap) (c' : Nat), (∀ b o', s.heap.get? b = some o' → h'.get? b = some o') →
      h'.get? s.heap.objs.size = some { cls := .type "list", dict := none, data := .seq its.toArray c', slots := #[] } → EP X pins σ Q (.ref s.heap.objs.size) { s with heap := h' } := fun its r' hz h' c' kp e =>
    ⟨.ref s.heap.objs.size, _, I.laid (t' := s.toks) kp (Nat.le_refl _) (show ObjOk X.prog X.w _ h' _ (.lst ys) from ⟨hz, its, c', r', e⟩), rfl, q _ (I.hok.fresh (Nat.le_refl _))⟩
  rcases hq with hq | hq
  · obtain ⟨its, r', pl, hz⟩ := I.list hq
    have hlen := r'.length
    obtain ⟨o, ho, hc, n, hd⟩ := pl.isList
    exact call_list_seq p (.inl rfl) ho hc hd (fun h' c' kp e => fin its r' hz h' c' kp e) (by simp only [List.size_toArray] <;> omega)
  · obtain ⟨its, r', pl, hz⟩ := I.tuple hq
    have hlen := r'.length
    obtain ⟨o, ho, hc, n, hd⟩ := pl
    exact call_list_seq p (.inr rfl) ho hc hd (fun h' c' kp e => fin its r' hz h' c' kp e) (by simp only [List.size_toArray] <;> omega)
/-! ### the call of a builtin's method: o.m(..) -/
/-- the value is of that builtin type -/
noncomputable def tyV (K : PySem.W.Frag) (T : String) (x : V) (H : Hp) : Prop := match x with
  | .str _ => T = "str"
  | .int _ => T = "int"
  | .ref p => (T = "list" ∧ ∃ xs, SqL K H p xs) ∨ (T = "tuple" ∧ ∃ o, K.lookup p = some o ∧ o.cls = .type "tuple" ∧ o.dict = none) ∨
      (T = "dict" ∧ ((∃ kvs, H p = some (.dK kvs)) ∨ ∃ kvs, H p = some (.dT kvs))) ∨ (T = "set" ∧ ∃ S n, H p = some (.set S n))
  | _ => False
theorem tyV_is {pins : List (Addr × Obj)} {σ : St} {H : Hp} {s : Shared} {T : String} {x : V} {v : Value} (I : Inv X pins σ H s) (r : RelV x v) (ty : tyV X.K T x H) :
    s.TypeIs v T ∧ ∀ a, v = .ref a → ∃ ob, s.heap.get? a = some ob ∧ ob.dict = none := by
  cases x with
  | str z =>
    obtain ⟨t, rfl⟩ := r
    cases (show T = "str" from ty)
    exact ⟨typeIs_str s z t, fun _ e => nomatch e⟩
  | int i =>
    obtain ⟨t, rfl⟩ := r
    cases (show T = "int" from ty)
    exact ⟨typeIs_int s i t, fun _ e => nomatch e⟩
  | ref p =>
    cases r
    rcases ty with ⟨rfl, xs, hq⟩ | ⟨rfl, o, hk, hc, hd⟩ | ⟨rfl, hk⟩ | ⟨rfl, S, n, hk⟩
    · obtain ⟨its, _, pl, _⟩ := I.list hq
      refine ⟨pl.isList.typeIs, fun a e => ?_⟩
      cases e
      obtain ⟨o, n, e, c, hd, _⟩ := pl
      exact ⟨o, e, hd⟩
    · refine ⟨⟨o, I.kIn p o hk, hc⟩, fun a e => ?_⟩
      cases e
      exact ⟨o, I.kIn _ o hk, hd⟩
    · have z : ∃ o, s.heap.get? p = some o ∧ o.ExactDict := by
        rcases hk with ⟨kvs, hk⟩ | ⟨kvs, hk⟩
        · obtain ⟨_, _, _, _, o, _, _, e, ex, _⟩ := I.hok p _ hk
          exact ⟨o, e, ex⟩
        · obtain ⟨_, _, _, _, o, _, _, e, ex, _⟩ := I.hok p _ hk
          exact ⟨o, e, ex⟩
      obtain ⟨o, e, ex⟩ := z
      refine ⟨⟨o, e, ex.1⟩, fun a e2 => ?_⟩
      cases e2
      exact ⟨o, e, ex.2.1⟩
    · obtain ⟨o, _, _, _, e, ex, _⟩ := I.hok p _ hk
      refine ⟨⟨o, e, ex.1⟩, fun a e2 => ?_⟩
      cases e2
      exact ⟨o, e, ex.2.1⟩
  | _ => exact False.elim ty
noncomputable def tBM0 (K : PySem.W.Frag) (T : String) (r : V → List V → Hp → VK → Prop) (to : TE) : TE := fun σ H Q => to σ H fun x H1 => tyV K T x H1 ∧ r x [] H1 Q
noncomputable def tBM (K : PySem.W.Frag) (T : String) (r : V → List V → Hp → VK → Prop) (to : TE) (t : TA) : TE := fun σ H Q => to σ H fun x H1 => tyV K T x H1 ∧ t σ H1 fun xs H2 => r x xs H2 Q
variable {o e : Expr} {es : List Expr} {to : TE} {t : TA} {name : Str} {apos cpos : Pos} {T id : String} {r : V → List V → Hp → VK → Prop}
theorem pe_bm0 (pa : PlainAttrs T) (slot : Slot T name id) (hty : typeOf (.builtin id) = pure (.type "method_descriptor")) (hm : MtR X id r) (ho : PE X o to)
    (hbase : attributeBase o name X.env (eval o X.env) = eval o X.env := by rfl) (hline : (apos.endLine == cpos.line) = true := by rfl) : PE X (.Call (.Attribute o name apos) [] [] cpos) (tBM0 X.K T r to) := by
  intro pins s σ H Q I h
  refine wpAny_Call_method0_late hbase hline (thn (ho pins s σ H _ I h) fun v s1 ⟨x, H1, I1, r1, ty, q1⟩ => ?_)
  obtain ⟨h1, h2⟩ := tyV_is I1 r1 ty
  exact ⟨T, id, pa, slot, hty, h1, h2, Calls.callWith_builtin rfl (PySem.evalArgs_none (hm pins s1 σ H1 x [] v [] Q I1 r1 .nil q1))⟩
theorem pe_bm (pa : PlainAttrs T) (slot : Slot T name id) (hty : typeOf (.builtin id) = pure (.type "method_descriptor")) (hm : MtR X id r) (ho : PE X o to) (ha : PA X (e :: es) t)
    (hbase : attributeBase o name X.env (eval o X.env) = eval o X.env := by rfl)
    (hfew : ((backTo cpos (starEach (e :: es) X.env)).all (fun x => !x.1) && (backToKw cpos (keywordEach [] X.env)).all (fun x => x.1.isSome)
      && decide ((e :: es).length + ([] : List Keyword).length + (if ([] : List Keyword).isEmpty then 0 else 1) < 30)) = true := by rfl)
    (hline : (apos.endLine == cpos.line) = true := by rfl) (hs : starEach (e :: es) X.env = (false, eval e X.env) :: starEach es X.env := by rfl) (hplain : (backTo cpos (starEach es X.env)).any (·.1) = false := by rfl) :
    PE X (.Call (.Attribute o name apos) (e :: es) [] cpos) (tBM X.K T r to t) := by
  intro pins s σ H Q I h
  refine wpAny_Call_method_late hbase hfew hline rfl (thn (ho pins s σ H _ I h) fun v s1 ⟨x, H1, I1, r1, ty, q1⟩ => ?_)
  obtain ⟨h1, h2⟩ := tyV_is I1 r1 ty
  refine ⟨T, id, pa, slot, hty, h1, h2, ?_⟩
  have hA := ha cpos pins s1 σ H1 _ I1 q1
  rw [hs] at hA ⊢
  refine Calls.callWith_builtin (by show (false || (backTo cpos (starEach es X.env)).any (·.1)) = false; rw [hplain] <;> rfl) (Calls.evalArgs_plain ?_)
  exact thn hA fun us s2 ⟨vs, H2, I2, r2, q2⟩ => hm pins s2 σ H2 x vs v us Q I2 r1 r2 q2
/- xs.append(e), list.index on a module's tuple .. are MtR facts of 06m -/
end
end L2

namespace L2
open PySem PySem.Spec PyProof.Rows

noncomputable def MtM (X : Cx) (id : String) (r : V → List V → Hp → VK → Prop) : Prop :=
  ∀ (pins : List (Addr × Obj)) (s : Shared) (σ : St) (H : Hp) (x : V) (xs : List V) (v : Value) (us : List Value) (Q : VK), Inv X pins σ H s → RelV x v → Vals xs us → r x xs H Q →
    wpAny (model X.prog X.w) X.A (call (.builtin id) (v :: us)) (EP X pins σ Q) X.xe s

/-! ### lists of values -/
theorem Vals.one : ∀ {x : V} {us : List Value}, Vals [x] us → ∃ u, us = [u] ∧ RelV x u
  | _, _, .cons r .nil => ⟨_, rfl, r⟩
theorem Vals.zero : ∀ {us : List Value}, Vals [] us → us = []
  | _, .nil => rfl
theorem Vals.eraseIdx : ∀ {xs : List V} {us : List Value} (i : Nat), Vals xs us → Vals (xs.eraseIdx i) (us.eraseIdx i)
  | _, _, _, .nil => .nil
  | _, _, 0, .cons _ t => t
  | _, _, i + 1, .cons r t => .cons r (Vals.eraseIdx i t)
theorem Vals.rep {xs : List V} {us : List Value} (h : Vals xs us) : ∀ k : Nat, Vals (List.replicate k xs).flatten (List.replicate k us).flatten
  | 0 => .nil
  | k + 1 => by
    rw [List.replicate_succ, List.replicate_succ, List.flatten_cons, List.flatten_cons]
    exact Vals.append h (Vals.rep h k)
theorem len_erase {α : Type} : ∀ (l : List α) (i : Nat), (l.eraseIdx i).length ≤ l.length
  | [], _ => Nat.le_refl _
  | _ :: _, 0 => Nat.le_succ _
  | _ :: r, i + 1 => Nat.succ_le_succ (len_erase r i)
section
variable {X : Cx} {pins : List (Addr × Obj)} {σ : St} {H : Hp} {s : Shared} {l b : Addr} {xs ys zs : List V}

/-! ### the two steps: a tracked list is rewritten, a new list is laid -/
theorem Inv.lset {its its' : List Value} {n : Nat} {f : Array Value → Array Value} {t' : Nat} (I : Inv X pins σ H s) (hH : H l = some (.lst xs))
    (e : s.heap.get? l = some { cls := .type "list", data := .seq its.toArray n }) (hf : f its.toArray = its'.toArray) (hv : Vals ys its') (hz : ys.length ≤ sizeLine) :
    Inv X pins σ (upd H l (.lst ys)) { s with heap := s.heap.update l (Obj.mapSeq f), toks := t' } := by
  have q := PySem.IsL.update e f
  rw [hf] at q
  refine I.write (x := l) (e := l) (by rw [hH]; exact trivial) (.inl rfl) (fun b' u hb hu => (Heap.get?_update_other s.heap (Obj.mapSeq f) (Ne.symm hb)).trans hu) ⟨_, q⟩ ?_
  exact ⟨hz, its', _, hv, q⟩
theorem Inv.lnew {its : List Value} {t' : Nat} (I : Inv X pins σ H s) (hv : Vals ys its) (hz : ys.length ≤ sizeLine) :
    Inv X pins σ (upd H s.heap.objs.size (.lst ys)) { s with heap := s.heap.push { cls := .type "list", data := .seq its.toArray }, toks := t' } :=
  I.laid (fun _ _ q => Heap.get?_push_of_some _ q) (Nat.le_refl _) ⟨hz, its, 0, hv, Heap.get?_push_size _ rfl⟩
theorem Inv.fresh (I : Inv X pins σ H s) : H s.heap.objs.size = none := I.hok.fresh (Nat.le_refl _)
theorem Inv.lstM (I : Inv X pins σ H s) (hH : H l = some (.lst xs)) : xs.length ≤ sizeLine ∧ ∃ (its : List Value) (n : Nat), Vals xs its ∧ xs.length = its.length ∧ s.heap.get? l = some { cls := .type "list", data := .seq its.toArray n } := by
  obtain ⟨z, its, n, r, e⟩ := I.hok l _ hH
  exact ⟨z, its, n, r, r.length, e⟩

theorem notLongL {n : Nat} (h : n ≤ sizeLine) : Builtin.List.listTooLong n = false := by
  unfold Builtin.List.listTooLong
  exact decide_eq_false (by omega)
end

section
variable {X : Cx}

/-! ### methods -/
noncomputable def rAppend : V → List V → Hp → VK → Prop := fun x vs H Q => ∃ l xs y, x = .ref l ∧ vs = [y] ∧ H l = some (.lst xs) ∧ xs.length < sizeLine ∧ Q .non (upd H l (.lst (xs ++ [y])))
theorem mt_append : MtM X "list.append" rAppend := by
  intro pins s σ H x vs v us Q I rx rv h
  obtain ⟨l, xs, y, rfl, rfl, hH, hz, q⟩ := h
  cases rx
  obtain ⟨u, rfl, ru⟩ := rv.one
  obtain ⟨z, its, n, r, hl, e⟩ := I.lstM hH
  refine call_meets F.slot_list_append ⟨_, e, rfl⟩ F.entry_list_append (F.args_list_append_2 _ _) (PySem.list_append l its.toArray n u (by rw [List.size_toArray]; omega)) ⟨e, ?_⟩
  refine ⟨.non, _, I.lset (its' := its ++ [u]) hH e (by simp) (r.append (.cons ru .nil)) ?_, rfl, q⟩
  rw [List.length_append, List.length_singleton]
  omega

noncomputable def rExtend : V → List V → Hp → VK → Prop := fun x vs H Q => ∃ l b xs zs, x = .ref l ∧ vs = [.ref b] ∧ H l = some (.lst xs) ∧ H b = some (.lst zs) ∧ xs.length + zs.length ≤ sizeLine ∧ Q .non (upd H l (.lst (xs ++ zs)))
theorem mt_extend : MtM X "list.extend" rExtend := by
  intro pins s σ H x vs v us Q I rx rv h
  obtain ⟨l, b, xs, zs, rfl, rfl, hH, hB, hz, q⟩ := h
  cases rx
  obtain ⟨u, rfl, ru⟩ := rv.one
  cases ru
  obtain ⟨z, its, n, r, hl, e⟩ := I.lstM hH
  obtain ⟨z2, its2, n2, r2, hl2, e2⟩ := I.lstM hB
  have hsz : its.toArray.size + its2.toArray.size ≤ sizeLine := by rw [List.size_toArray, List.size_toArray]; omega
  have hlong : ¬ (!its.toArray.isEmpty && Builtin.List.listTooLong (its.toArray.size + its2.toArray.size)) = true := by
    rw [notLongL hsz, Bool.and_false]
    exact Bool.false_ne_true
  refine call_meets F.slot_list_extend ⟨_, e, rfl⟩ F.entry_list_extend (F.args_list_extend_2 _ _)
    (AutoSeq1.list_extend_list_list_0 l its.toArray n b its2.toArray n2 hlong (by rw [List.size_toArray]; omega) (by omega)) ⟨e, e2, ?_⟩
  refine ⟨.non, _, I.lset (its' := its ++ its2) hH e (by simp) (r.append r2) ?_, rfl, q⟩
  rw [List.length_append]
  omega

noncomputable def rClear : V → List V → Hp → VK → Prop := fun x vs H Q => ∃ l xs, x = .ref l ∧ vs = [] ∧ H l = some (.lst xs) ∧ Q .non (upd H l (.lst []))
theorem mt_clear : MtM X "list.clear" rClear := by
  intro pins s σ H x vs v us Q I rx rv h
  obtain ⟨l, xs, rfl, rfl, hH, q⟩ := h
  cases rx
  have hus := rv.zero
  subst hus
  obtain ⟨z, its, n, r, hl, e⟩ := I.lstM hH
  refine call_meets F.slot_list_clear ⟨_, e, rfl⟩ F.entry_list_clear (F.args_list_clear_1 _) (AutoSeq1.list_clear_list_0 l its.toArray n (by rw [List.size_toArray]; omega)) ⟨e, ?_⟩
  exact ⟨.non, _, I.lset (its' := []) (ys := []) hH e rfl .nil (Nat.zero_le _), rfl, q⟩

/-! ### list + list, list += list, list * int -/
noncomputable def rCat : R2 := fun x y H Q => ∃ l b xs zs, x = .ref l ∧ y = .ref b ∧ H l = some (.lst xs) ∧ H b = some (.lst zs) ∧ xs.length + zs.length ≤ sizeLine ∧ ∀ p, H p = none → Q (.ref p) (upd H p (.lst (xs ++ zs)))
theorem op_cat : OpR X (binaryOp .Add) rCat := by
  intro pins s σ H x y v u Q I rx ry h
  obtain ⟨l, b, xs, zs, rfl, rfl, hH, hB, hz, q⟩ := h
  cases rx
  cases ry
  obtain ⟨z, its, n, r, hl, e⟩ := I.lstM hH
  obtain ⟨z2, its2, n2, r2, hl2, e2⟩ := I.lstM hB
  refine PySem.P.add_list e e2 ?_ (by rw [List.size_toArray, List.size_toArray]; omega)
  have ea : its.toArray ++ its2.toArray = (its ++ its2).toArray := by simp
  rw [ea]
  exact ⟨.ref _, _, I.lnew (t' := s.toks) (r.append r2) (by rw [List.length_append]; omega), rfl, q _ I.fresh⟩
/-! ### del xs[i] -/
end

/-! ### xs[a:b] = ys -/
section
variable {prog : Program} {w : World} {A : Around} {E : Value → Shared → Prop} {s : Shared}
end

section
variable {X : Cx}
end
end L2

namespace Att
open PySem PySem.W PySem.Calls PyProof.Rows

/-! ### the script -/
theorem ints_of_wellAll {P : Params} {h : Heap} : ∀ (ns : List Int) (vs : List Value), WellAll P h vs (ns.map WData.int) → IntsAre vs ns := by
  intro ns
  induction ns with
  | nil =>
    intro vs w
    rw [List.map_nil] at w
    cases w
    exact .nil
  | cons n ns ih =>
    intro vs w
    rw [List.map_cons] at w
    cases w with
    | cons a b =>
      cases a
      exact .cons _ _ (ih _ b)

theorem script_of {l : OpenLaw} {n : Nat} (hn : l.most = some n) {P : Params} {h : Heap} {args : List WData} {vals : List Value}
    (hpre : l.row.toRowW.claim.pre args = true) (hwl : WellAll P h vals args) :
    ∃ a vs ns, vals = [Value.ref a] ∧ args = [WData.list (ns.map WData.int)] ∧ h.get? a = some { cls := .type "list", data := .seq vs.toArray } ∧ IntsAre vs ns ∧ ns.length ≤ n := by
  have hsh : WShape.hasAll [] args [.list .int] = true := (pre_splitW hpre).1
  have hc : l.pre.holds [] { args := args } = true := (pre_splitW hpre).2
  obtain ⟨d, r, rfl, h1, h2⟩ := hasAllW_cons hsh
  obtain rfl := hasAllW_nil h2
  obtain ⟨xs, rfl, h3⟩ := hasW_list h1
  obtain ⟨ns, rfl⟩ := items_int h3
  have hlen : ns.length ≤ n := by
    unfold OpenLaw.pre at hc
    have h4 : (WTm.not (.lt (.lit (.int (n : Int))) (.len (.arg 0)))).holds [] { args := [.list (ns.map .int)] } = true := by
      have h4 := (holds_andW hc).1
      rw [hn] at h4
      exact h4
    have h5 := condW_of h4 (w_not (w_lt w_lit (w_len_list (w_arg rfl))))
    rw [List.length_map] at h5
    refine Nat.le_of_not_lt fun q => ?_
    have q' : (n : Int) < ((ns.length : Nat) : Int) := by omega
    first
      | (rw [decide_eq_true q'] at h5; exact absurd h5 (by decide))
      | (simp at h5; omega)
  cases hwl with
  | cons w1 w2 =>
    cases w2
    cases w1 with
    | list ho hall => exact ⟨_, _, ns, rfl, rfl, ho, ints_of_wellAll ns _ hall, hlen⟩

theorem post_true (l : OpenLaw) (args : List WData) : l.row.toRowW.claim.post args (.bool true) args = true :=
  postW_of (r := l.row.toRowW) (X := (true == true))
    (show WShape.has [] (.bool true) .bool = true by first | rfl | decide | simp [WShape.has, WShape.arms, WShape.armsAll])
    (show (WTm.eq .res (.lit (.bool true))).value [] { args := args, res := some (.bool true), after := args } = some (.bool (true == true)) from w_eq_bool (w_res rfl) w_lit) rfl

/-! ### the attachment: holds_open's last premise (the goal 'hc' behind k_head) from a wpAny of the law's body -/
/-- the same from a codeAny of the CALL (for a layer whose function contracts speak of calls) -/
theorem attach_call {l : OpenLaw} {n : Nat} {q : Program} {loose : List Str} {XP : (Str → Option Value) → Heap → Prop} {YP : World → Heap → Prop} {d : DefRec}
    (hn : l.most = some n) (hdf : d.params.defaults = [])
    (call : ∀ (w : World) (s₀ s₁ : Shared) (mg mb : Str → Option Value) (fa : Addr) (o : Obj) (pm cd doc : Value) (a : Addr) (vs : List Value) (ns : List Int),
      Ground q loose [] XP w s₀ mg mb s₁.heap → YP w s₁.heap →
      s₁.heap.get? fa = some o → o.data = .func (docDef d.name d.params d.body d.scope pm cd doc) → s₁.heap.CodeRec cd d.name → mg d.name = some (.ref fa) →
      s₁.heap.get? a = some { cls := .type "list", data := .seq vs.toArray } → IntsAre vs ns → ns.length ≤ n → s₁.gens = #[] →
      codeAny (model l.prog w) callerA (.call (.ref fa) ⟨[.ref a], []⟩) (fun r s' => r = .ok (.ret (.bool true)) ∧ OldK s₁.heap s'.heap ∧ s'.os = s₁.os ∧ AllBare s'.gens) s₁) :
    WalkO q loose XP YP l.row.toRowW d [] (fun f vs => PySem.call f vs) := by
  intro w s₀ s₁ mg mb G Y fa o pm cd doc dV kV ho hd hcd hD hmg hg args vals as hpre hlay hrd hwl hlo
  obtain rfl : dV = .none := Dflts.none hD hdf
  obtain rfl : kV = .none := Dflts.noKw hD
  obtain ⟨a, vs, ns, rfl, rfl, hobj, hints, hlen⟩ := script_of hn hpre hwl
  refine enter_call (codeAny_mono (call w s₀ s₁ mg mb fa o pm cd doc a vs ns G Y ho (fd_plain hd) hcd hmg hobj hints hlen hg) fun r s' hq => ?_)
  obtain ⟨rfl, h2, h3, h4⟩ := hq
  exact ⟨.inl ⟨.bool true, .bool true, [], rfl, fun _ => rfl, .bool true, post_true l _, fun _ => ⟨List.Pairwise.nil, fun _ hm => (nomatch hm)⟩⟩, h2, h3, h4⟩

/-! ### rules over ANY heap (no ledger) from facts about the written part K: the library's own take a ledger (News) for what they write -/
section
variable {prog : Program} {w : World} {A : Around} {E : Value → Shared → Prop} {s : Shared} {K : Frag}

/-! the whole heap as the ledger: makes every rule that writes through a ledger a rule over any heap -/
end
end Att

namespace L2
open PySem PySem.Spec PyProof.Rows

theorem vals_ints : ∀ {vs : List Value} {ns : List Int}, IntsAre vs ns → Vals (ns.map V.int) vs
  | _, _, .nil => .nil
  | _, _, .cons n t h => .cons ⟨t, rfl⟩ (vals_ints h)

/-- nothing is tracked but the script, known to the object (or it is an object of the module) -/
noncomputable def Only (H : Hp) : Prop := ∀ b, H b = none ∨ ∃ o xs, H b = some (.frz o (.lst xs))

/-- THE HEAD: the law's promise, at the heap behind the top. F, the promise of the law's def, may use that base is part of the heap (so K.In base, base.Ns mainGlobals mg stand in Mod) -/
theorem law_call {P : Program} {w : World} {K : PySem.W.Frag} {mg mb : Str → Option Value} {CX : CXT} {k : Nat} {fa a : Addr} {fd : FuncData} {x : Str} {sp : Sp} {s₁ : Shared} {vs : List Value} {ns : List Int}
    (KX : K.In s₁.heap) (hns : s₁.heap.Ns mainGlobals mg) (hb : s₁.heap.Ns builtinsNs mb) (hbb : ∀ x : Str, x ≠ "__name__" → mb x = bootBuiltins x) (hlim : s₁.heap.NoLimit) (hg : s₁.gens = #[])
    (ha : s₁.heap.get? a = some { cls := .type "list", data := .seq vs.toArray }) (hi : IntsAre vs ns) (hl : ns.length ≤ sizeLine) (hr : Room k callerA)
    (F : ∀ base : Heap, K.In base → base.Ns mainGlobals mg → FnOk P w K mg base CX k fa fd [x] sp) (hbind : ∀ (s : Shared) (u : Value), BindsTo s fd ⟨[u], []⟩ [(x, u)])
    (hsp : ∀ H : Hp, Only H → SqL K H a (ns.map V.int) → sp [.ref a] H (fun v _ => v = .bl true) fun _ _ _ => False)
    (hCX : ∀ H e s', CX [] H s₁ (fun _ _ _ => False) e s' → False) :
    codeAny (model P w) callerA (.call (.ref fa) ⟨[.ref a], []⟩) (fun r s' => r = .ok (.ret (.bool true)) ∧ OldK s₁.heap s'.heap ∧ s'.os = s₁.os ∧ AllBare s'.gens) s₁ := by
  have rv := vals_ints hi
  have lenV := hi.length
  -- from an abstract heap in which nothing but the script may be tracked
  have core : ∀ H : Hp, Only H → SqL K H a (ns.map V.int) → HOk P w H s₁.heap → (∀ b, H b ≠ none → b = a) → (H a ≠ none → K.lookup a = none) →
      codeAny (model P w) callerA (.call (.ref fa) ⟨[.ref a], []⟩) (fun r s' => r = .ok (.ret (.bool true)) ∧ OldK s₁.heap s'.heap ∧ s'.os = s₁.os ∧ AllBare s'.gens) s₁ := by
    intro H hO hS hok hA hK
    have base_of : ∀ {b : Addr} {o : Obj}, s₁.heap.get? b = some o → H b = none → (hidT s₁.heap H).get? b = some o := fun e n => hidT_get e n
    have noA : ∀ {b : Addr} {o : Obj} {es : Array DictEntry} {ep : Nat}, s₁.heap.get? b = some o → o.data = .dict es ep → H b = none := fun {b o es ep} e d => by
      cases q : H b with
      | none => rfl
      | some u =>
        have e' : b = a := hA b (by rw [q]; simp)
        subst e'
        rw [ha] at e; cases e
        have d' : Data.seq vs.toArray _ = Data.dict es ep := d
        cases d'
    have nsK : ∀ {b : Addr} {m : Str → Option Value}, s₁.heap.Ns b m → (hidT s₁.heap H).Ns b m := fun {b m} ⟨o, es, ep, e, d, r⟩ => ⟨o, es, ep, base_of e (noA e d), d, r⟩
    have hKb : K.In (hidT s₁.heap H) := fun b o e => base_of (KX b o e) (by
      cases q : H b with
      | none => rfl
      | some u =>
        have e' : b = a := hA b (by rw [q]; simp)
        subst e'
        rw [hK (by rw [q]; simp)] at e; cases e)
    have hM : Mod K mg (hidT s₁.heap H) := ⟨hKb, nsK hns, ⟨mb, nsK hb, hbb⟩, let ⟨mc, h1, h2⟩ := hlim; ⟨mc, nsK h1, h2⟩⟩
    have e0 : Env0 P w K mg (hidT s₁.heap H) callerA [] s₁ H := ⟨rfl, hM, fun b o e => of_hidT e, Nat.le_of_eq (hidT_size _ _), trivial, fun b hb => absurd (show b ∈ ([] : List Addr) from hb) (by simp), hok, .of_eq hg⟩
    refine codeAny_mono ((F _ hKb (nsK hns)).run callerA [] s₁ H ⟨[.ref a], []⟩ [.ref a] [.ref a] _ _ hr e0 (hbind s₁ (.ref a)) (.cons rfl .nil) (hsp H hO hS)) fun r s' h => ?_
    cases r with
    | error e => exact (hCX H e s' h).elim
    | ok fl =>
      cases fl with
      | next => exact False.elim h
      | brk => exact False.elim h
      | cont => exact False.elim h
      | ret u =>
        obtain ⟨v, H', os, bare, un, hok', r', q⟩ := h
        have q' : v = .bl true := q
        subst q'
        obtain rfl : u = Value.bool true := r'
        refine ⟨rfl, OldK.of_keep fun b o e => ?_, os, bare⟩
        cases q : H b with
        | none => exact un.keep b o e q (by intro z; exact absurd (show b ∈ ([] : List Addr) from z) (by simp)) (by simp)
        | some u =>
          rcases hO b with z | ⟨ob, xs, z⟩
          · rw [q] at z; cases z
          · have z2 := un.frzs b ob _ z
            obtain ⟨e1, _⟩ := hok b _ z
            obtain ⟨e2, _⟩ := hok' b _ z2
            rw [e] at e1; cases e1
            exact e2
  cases hk : K.lookup a with
  | some o =>
    -- the script is one of the module's own objects
    have e := KX a o hk
    rw [ha] at e
    cases e
    refine core (fun _ => none) (fun _ => .inl rfl) (.inr ⟨_, vs.toArray, _, hk, rfl, rfl, rfl, by rw [List.size_toArray, lenV]; exact hl, by simpa using rv⟩) (fun b u z => by have z' : (none : Option HO) = some u := z; cases z') (fun b z => absurd rfl z) fun z => absurd rfl z
  | none =>
    refine core (fun b => if b = a then some (.frz { cls := .type "list", data := .seq vs.toArray } (.lst (ns.map V.int))) else none) (fun b => ?_) (.inl (.inr ⟨{ cls := .type "list", data := .seq vs.toArray }, if_pos rfl⟩)) (fun b u z => ?_) (fun b z => ?_) fun _ => hk
    · by_cases hb : b = a
      · exact .inr ⟨_, _, if_pos hb⟩
      · exact .inl (if_neg hb)
    · by_cases hb : b = a
      · have z' := (if_pos hb).symm.trans z
        cases z'
        subst hb
        exact ⟨ha, by rw [List.length_map]; exact hl, vs, _, rv, ha⟩
      · have z' := (if_neg hb).symm.trans z
        cases z'
    · by_cases hb : b = a
      · exact hb
      · exact absurd (if_neg hb) z
end L2

namespace L2
open PySem PySem.Spec PyProof.Rows

noncomputable abbrev KOf {K : PySem.W.Frag} {h : Heap} (_ : K.In h) : PySem.W.Frag := K

/-- the goal that k_head leaves (case hc), from the law's promise. F gives the function object fd (K's own) once, then the promise over every base -/
theorem walk_of {l : PySem.W.OpenLaw} {n k : Nat} {q : Program} {loose : List Str} {XP : (Str → Option Value) → Heap → Prop} {YP : World → Heap → Prop} {d : DefRec} {K : Params → PySem.W.Frag} {CX : World → CXT} {sp : World → Sp} {x : Str}
    (hn : l.most = some n) (hn2 : n ≤ sizeLine) (hdf : d.params.defaults = []) (hr : Room k callerA)
    (hY : ∀ (w : World) (h : Heap), YP w h → (K w.params).In h)
    (F : ∀ (w : World) (mg : Str → Option Value) (fa : Addr) (h : Heap), (K w.params).In h → h.Ns mainGlobals mg → mg d.name = some (.ref fa) →
      ∃ fd : FuncData, (∀ (s : Shared) (u : Value), BindsTo s fd ⟨[u], []⟩ [(x, u)]) ∧
        ∀ base : Heap, (K w.params).In base → base.Ns mainGlobals mg → FnOk l.prog w (K w.params) mg base (CX w) k fa fd [x] (sp w))
    (hsp : ∀ (w : World) (H : Hp) (a : Addr) (ns : List Int), ns.length ≤ n → Only H → SqL (K w.params) H a (ns.map V.int) → sp w [.ref a] H (fun v _ => v = .bl true) fun _ _ _ => False)
    (hCX : ∀ (w : World) (H : Hp) (s : Shared) (e : Value) (s' : Shared), CX w [] H s (fun _ _ _ => False) e s' → False) :
    PySem.W.WalkO q loose XP YP l.row.toRowW d [] (fun f vs => PySem.call f vs) := by
  refine Att.attach_call hn hdf fun w s₀ s₁ mg mb fa o pm cd doc a vs ns G Y ho hd hcd hmg hobj hints hlen hg => ?_
  have KX := hY w _ Y
  obtain ⟨fd, hb, hF⟩ := F w mg fa _ KX G.T.g hmg
  exact law_call KX G.T.g G.T.b G.T.builtins G.T.nolimit hg hobj hints (Nat.le_trans hlen hn2) hr hF hb (fun H hO hS => hsp w H a ns hlen hO hS) fun H e s' => hCX w H s₁ e s'
end L2

/- THE LAST THEOREM (shape; LID, My.* are yours):
   My.Adr: a structure of the addresses that your layer names (classes, functions); My.Txt K t: a structure (Prop) of the equations over K;
   My.txt_mk : {K} {implicit addresses ..} (e1 : nsIn K mainGlobals "law" = some (some (.ref f))) (e2 : K.lookup f = some ⟨oc, od, .func (fnOf "law" "law" params body scope dV kV doc pm an cdv ct), sl⟩) (e3 : codeIn K cdv "law" = true) .. : ∃ t, My.Txt K t

set_option maxRecDepth 100000 in
set_option maxHeartbeats 0 in
theorem PySem.Challenge.cw_LID_holds : PySem.Challenge.rw_LID.Holds := by
  w_on; o_law; k_head; (case hw => w_witness2)
  k_fill
  refine L2.walk_of (l := PySem.Challenge.rw_LID) (n := 63) (k := 40) (x := "script") (CX := fun w => ..) (sp := fun _ => My.sp_law) rfl (by decide) rfl ⟨rfl, by decide, by decide⟩ (fun w h Y => PySem.W.kIn_of Y) ?F ?S ?C
  case F =>
    intro w mg fa h KX G hmg
    have T : ∃ t, My.Txt (L2.KOf KX) t := by
      dsimp only [L2.KOf]                          -- K must stand as «<heap const> w.params» for k_is
      refine' My.txt_mk ?e1 ?e2 ?e3 ..
      (case e1 => PySem.W.k_is)                    -- in the order: a name -> its address -> its object -> its parts
      (case e2 => PySem.W.k_is)
      ..
    obtain ⟨t, T⟩ := T
    have e0 := hmg.symm.trans (PySem.W.mg_of KX G T.law)
    cases e0                                       -- fa is the law's own address
    exact ⟨_, fun s u => .of_eq rfl, fun base kb nb => My.law_fn T kb nb⟩     -- if «.of_eq rfl» comes too early: refine' ⟨_, ?b, fun base kb nb => My.law_fn T kb nb⟩; exact fun s u => .of_eq rfl
  case S => exact fun w H a ns hl hO hS => ..
  case C => exact ..
(the tactic k_is has no namespace: write k_is) -/

/-! SHORT WORDS over the layer: a def of the text, its body, what a loop and a test want. -/
namespace L2
open PySem PySem.Spec PyProof.Rows

/-! ### the text by places -/
/-- the j-th statement of a class's body -/
noncomputable def inClass (s : Stmt) (j : Nat) : Stmt := match s with
  | .ClassDef _ _ _ body _ _ _ _ _ _ _ => body.getD j (.Pass ⟨0, 0, 0, 0⟩)
  | _ => .Pass ⟨0, 0, 0, 0⟩
noncomputable def defArgs (s : Stmt) : Arguments := match s with
  | .FunctionDef _ a _ _ _ _ _ _ _ _ => a
  | _ => { posonlyargs := [], args := [], vararg := none, kwonlyargs := [], kw_defaults := [], kwarg := none, defaults := [] }
noncomputable def defBody (s : Stmt) : List Stmt := match s with
  | .FunctionDef _ _ b _ _ _ _ _ _ _ => b
  | _ => []
noncomputable def defScope (s : Stmt) : Scope := match s with
  | .FunctionDef _ _ _ _ _ _ sc _ _ _ => sc
  | _ => { kind := .function, names := [], isGenerator := false, isCoroutine := false }

/-! ### no exception leaves a def -/
noncomputable abbrev E0 : XK := fun _ _ _ => False
/-! ### a def (or method) of the text as it stands behind the top -/
structure Fun (K : PySem.W.Frag) (x qual : Str) (st : Stmt) (f : Addr) (fd : FuncData) : Prop where
  ex : ∃ (oc : Value) (od : Option Addr) (kV doc pm : Value) (an : Option Addr) (cdv ct : Value) (osl : Array (Option Value)),
    fd = PySem.W.fnOf x qual (defArgs st) (defBody st) (defScope st) .none kV doc pm an cdv ct ∧ K.lookup f = some ⟨oc, od, .func fd, osl⟩ ∧ PySem.W.codeIn K cdv qual = true
  kp : PySem.W.keepIn K (.ref f) = true
section
variable {P : Program} {w : World} {K : PySem.W.Frag} {mg : Str → Option Value} {base : Heap}
/-- how its arguments bind (no defaults): h is «fun _ _ _ _ _ _ us hl => match us, hl with | [_, _], _ => rfl», one _ a parameter -/
theorem Fun.binds {x qual : Str} {st : Stmt} {f : Addr} {fd : FuncData} {ps : List Str} (F : Fun K x qual st f fd)
    (h : ∀ (kV doc pm : Value) (an : Option Addr) (cdv ct : Value) (us : List Value), us.length = ps.length → bindArgs (PySem.W.fnOf x qual (defArgs st) (defBody st) (defScope st) .none kV doc pm an cdv ct) ⟨us, []⟩ = pure (ps.zip us)) : Binds K fd ps [] := by
  obtain ⟨oc, od, kV, doc, pm, an, cdv, ct, osl, rfl, lk, hcd⟩ := F.ex
  exact .all (h kV doc pm an cdv ct)
theorem fun_mk {x qual : Str} {st : Stmt} {f : Addr} {oc : Value} {od an : Option Addr} {osl : Array (Option Value)} {kV doc pm cdv ct : Value} (l : K.lookup f = some ⟨oc, od, .func (PySem.W.fnOf x qual (defArgs st) (defBody st) (defScope st) .none kV doc pm an cdv ct), osl⟩)
    (c : PySem.W.codeIn K cdv qual = true) (k : PySem.W.keepIn K (.ref f) = true) : Fun K x qual st f (PySem.W.fnOf x qual (defArgs st) (defBody st) (defScope st) .none kV doc pm an cdv ct) := ⟨⟨oc, od, kV, doc, pm, an, cdv, ct, osl, rfl, l, c⟩, k⟩
end
/-! ### expressions in short: the name that stands in the i-th slot -/
section
variable {X : Cx}
end

/-! ### tests -/
/-! ### heaps -/
end L2
end

section
set_option linter.all false
namespace L2
open PySem PySem.Spec PyProof.Rows
/-! ### lists of pairs as tables -/
section
variable {κ : Type} [DecidableEq κ]
noncomputable def valV (kvs : List (κ × V)) (k : κ) : Option V := (kvs.find? fun kv => decide (kv.1 = k)).map (·.2)
/-- in its place, or at the end -/
noncomputable def putK (kvs : List (κ × V)) (k : κ) (v : V) : List (κ × V) :=
  if (kvs.any fun kv => decide (kv.1 = k)) = true then kvs.map (fun kv => if kv.1 = k then (kv.1, v) else kv) else kvs ++ [(k, v)]
theorem valV_pos {p : κ × V} {r : List (κ × V)} {k : κ} (e : p.1 = k) : valV (p :: r) k = some p.2 := by simp [valV, List.find?_cons, e]
theorem valV_neg {p : κ × V} {r : List (κ × V)} {k : κ} (e : ¬ p.1 = k) : valV (p :: r) k = valV r k := by simp [valV, List.find?_cons, e]
theorem valV_any (k : κ) : ∀ kvs : List (κ × V), (kvs.any fun kv => decide (kv.1 = k)) = (valV kvs k).isSome
  | [] => rfl
  | p :: r => by
    rw [List.any_cons]
    by_cases e : p.1 = k
    · simp only [valV_pos e, decide_eq_true e, Bool.true_or, Option.isSome_some]
    · rw [valV_neg e, decide_eq_false e, Bool.false_or]; exact valV_any k r
theorem length_putK (kvs : List (κ × V)) (k : κ) (v : V) : (putK kvs k v).length ≤ kvs.length + 1 := by
  unfold putK
  split
  · rw [List.length_map]; omega
  · rw [List.length_append, List.length_cons, List.length_nil]; omega
theorem RelO.isSome_eq {o : Option V} {u : Option Value} (r : RelO o u) : o.isSome = u.isSome := by
  cases o with
  | none => cases u with
    | none => rfl
    | some _ => exact (show False from r).elim
  | some _ => cases u with
    | none => exact (show False from r).elim
    | some _ => rfl
/-- raw tables of the same keys -/
theorem KV.val {kvs : List (κ × V)} {vs : List (κ × Value)} (r : KV kvs vs) (k : κ) : RelO (valV kvs k) (valueAt vs k) := by
  unfold KV at r
  induction r with
  | nil => exact True.intro
  | @cons p q ps qs h t ih =>
    obtain ⟨h1, h2⟩ := h
    by_cases e : p.1 = k
    · have e' : q.1 = k := h1.symm.trans e
      have b : valueAt (q :: qs) k = some q.2 := by simp [valueAt, List.find?_cons, e']
      rw [valV_pos e, b]; exact h2
    · have e' : ¬ q.1 = k := fun z => e (h1.trans z)
      have b : valueAt (q :: qs) k = valueAt qs k := by simp [valueAt, List.find?_cons, e']
      rw [valV_neg e, b]; exact ih
theorem KV.any {kvs : List (κ × V)} {vs : List (κ × Value)} (r : KV kvs vs) (k : κ) : (kvs.any fun kv => decide (kv.1 = k)) = vs.any fun kv => decide (kv.1 = k) := by
  unfold KV at r
  induction r with
  | nil => rfl
  | cons h t ih => rw [List.any_cons, List.any_cons, ih, h.1]
theorem KV.repl {kvs : List (κ × V)} {vs : List (κ × Value)} (r : KV kvs vs) (k : κ) {y : V} {u : Value} (ry : RelV y u) :
    KV (kvs.map fun kv => if kv.1 = k then (kv.1, y) else kv) (vs.map fun kv => if kv.1 = k then (kv.1, u) else kv) := by
  unfold KV at r ⊢
  induction r with
  | nil => exact .nil
  | @cons p q ps qs h t ih =>
    rw [List.map_cons, List.map_cons]
    refine .cons ?_ ih
    obtain ⟨h1, h2⟩ := h
    by_cases e : p.1 = k
    · rw [if_pos e, if_pos (h1.symm.trans e)]; exact ⟨h1, ry⟩
    · rw [if_neg e, if_neg (fun z => e (h1.trans z))]; exact ⟨h1, h2⟩
theorem KV.put {kvs : List (κ × V)} {vs : List (κ × Value)} (r : KV kvs vs) (k : κ) {y : V} {u : Value} (ry : RelV y u) : KV (putK kvs k y) (stored vs k u) := by
  unfold putK stored
  rw [r.any k]
  by_cases e : (vs.any fun kv => decide (kv.1 = k)) = true
  · rw [if_pos e, if_pos e]; exact r.repl k ry
  · rw [if_neg e, if_neg e]; exact Paired.snoc r ⟨rfl, ry⟩
theorem KV.length {kvs : List (κ × V)} {vs : List (κ × Value)} (r : KV kvs vs) : kvs.length = vs.length := Paired.length r
end


/-! ### a tracked dict, its keys ints and texts or tuples of these -/
theorem kV_is {P : Program} {w : World} {k : Key} {u : Value} (r : RelV (kV k) u) : (mixKind P w).is k u = true := by
  cases k with
  | inl i => obtain ⟨t, e⟩ := (show ∃ t, u = Value.int i t from r); subst e; exact mixKind_int P w i t
  | inr x => obtain ⟨t, e⟩ := (show ∃ t, u = Value.str x t from r); subst e; exact mixKind_str P w x t
theorem items_are {P : Program} {w : World} : ∀ {ks : List Key} {us : List Value}, Vals (ks.map kV) us → ItemsAre (mixKind P w) ks us
  | [], _, r => by rw [List.map_nil] at r; cases r; exact .nil
  | k :: ks, _, r => by
    rw [List.map_cons] at r
    cases r with
    | cons h t => exact .cons (kV_is h) (items_are t)

/-- raw entries of a dict with tuple keys -/
noncomputable abbrev KT (H : Hp) : List (List Key × V) → List (List Key × Addr × Value) → Prop := Paired fun p q => p.1 = q.1 ∧ H q.2.1 = some (.tup (p.1.map kV)) ∧ RelV p.2 q.2.2
theorem KT.val {H : Hp} {kvs : List (List Key × V)} {xs : List (List Key × Addr × Value)} (r : KT H kvs xs) (k : List Key) : RelO (valV kvs k) ((atKey xs k).map (·.2)) := by
  induction r with
  | nil => exact True.intro
  | @cons p q ps qs h t ih =>
    obtain ⟨h1, _, h2⟩ := h
    by_cases e : p.1 = k
    · have e' : q.1 = k := h1.symm.trans e
      have b : atKey (q :: qs) k = some q.2 := by simp [atKey, List.find?_cons, e']
      rw [valV_pos e, b]; exact h2
    · have e' : ¬ q.1 = k := fun z => e (h1.trans z)
      have b : atKey (q :: qs) k = atKey qs k := by simp [atKey, List.find?_cons, e']
      rw [valV_neg e, b]; exact ih
theorem KT.repl {H : Hp} {kvs : List (List Key × V)} {xs : List (List Key × Addr × Value)} (r : KT H kvs xs) (k : List Key) {y : V} {u : Value} (ry : RelV y u) :
    KT H (kvs.map fun kv => if kv.1 = k then (kv.1, y) else kv) (xs.map (putAt k u)) := by
  induction r with
  | nil => exact .nil
  | @cons p q ps qs h t ih =>
    rw [List.map_cons, List.map_cons]
    refine .cons ?_ ih
    obtain ⟨h1, h2, h3⟩ := h
    unfold putAt
    by_cases e : p.1 = k
    · rw [if_pos e, if_pos (h1.symm.trans e)]; exact ⟨h1, h2, ry⟩
    · rw [if_neg e, if_neg (fun z => e (h1.trans z))]; exact ⟨h1, h2, h3⟩
theorem KT.put {H : Hp} {kvs : List (List Key × V)} {xs : List (List Key × Addr × Value)} (r : KT H kvs xs) (k : List Key) {b : Addr} {y : V} {u : Value} (hb : H b = some (.tup (k.map kV))) (ry : RelV y u) :
    KT H (putK kvs k y) (storedH xs k b u) := by
  have e : (kvs.any fun kv => decide (kv.1 = k)) = (atKey xs k).isSome := by
    rw [valV_any, (r.val k).isSome_eq, Option.isSome_map]
  unfold putK storedH
  rw [e]
  by_cases q : (atKey xs k).isSome = true
  · rw [if_pos q, if_pos q]; exact r.repl k ry
  · rw [if_neg q, if_neg q]; exact Paired.snoc r ⟨rfl, hb, ry⟩
theorem KT.keeps {H H' : Hp} {kvs : List (List Key × V)} {xs : List (List Key × Addr × Value)} (r : KT H kvs xs) (ht : ∀ b ys, H b = some (.tup ys) → H' b = some (.tup ys)) : KT H' kvs xs :=
  Paired.mapP r fun _ _ z => ⟨z.1, ht _ _ z.2.1, z.2.2⟩

section
variable {P : Program} {w : World} {H : Hp} {h : Heap} {a : Addr}
theorem rd_of {u : HO} (ok : HOk P w H h) (e : Rd H a u) : ObjOk P w H h a u := e.ok ok
theorem dk_rd {kvs : List (Key × V)} (ok : HOk P w H h) (e : Rd H a (.dK kvs)) : kvs.length ≤ sizeLine ∧ (a == sysModules) = false ∧ ∃ vs, KV kvs vs ∧ h.DictOf (mixKind P w) a vs :=
  show ObjOk P w H h a (.dK kvs) from rd_of ok e
theorem dk_of {kvs : List (Key × V)} (ok : HOk P w H h) (e : H a = some (.dK kvs)) : kvs.length ≤ sizeLine ∧ (a == sysModules) = false ∧ ∃ vs, KV kvs vs ∧ h.DictOf (mixKind P w) a vs := dk_rd ok (.inl e)
/-- a tracked tuple of ints and texts is a key -/
theorem key_of {ks : List Key} (ok : HOk P w H h) (e : H a = some (.tup (ks.map kV))) : (tupleKind (mixKind P w)).is h ks a := by
  obtain ⟨_, its, r, o, h1, h2, n, h3⟩ := (show ObjOk P w H h a (.tup (ks.map kV)) from ok a _ e)
  exact ⟨o, its.toArray, n, h1, h2, h3, by simpa using items_are r⟩
theorem dt_rd {kvs : List (List Key × V)} (ok : HOk P w H h) (e : Rd H a (.dT kvs)) : kvs.length ≤ sizeLine ∧ (a == sysModules) = false ∧
    ∃ xs, KT H kvs xs ∧ h.DictOfH (tupleKind (mixKind P w)) a xs := by
  obtain ⟨z, y, xs, r, o, es, ep, h1, h2, h3, h4, h5⟩ := (show ObjOk P w H h a (.dT kvs) from rd_of ok e)
  refine ⟨z, y, xs, r, o, es, ep, h1, h2, h3, h4, fun x hx => ?_, h5⟩
  have all : ∀ {l : List (List Key × V)} {m : List (List Key × Addr × Value)}, KT H l m → ∀ x ∈ m, (tupleKind (mixKind P w)).is h x.1 x.2.1 := by
    intro l m q
    induction q with
    | nil => intro x hx; exact nomatch hx
    | @cons p q ps qs hq t ih =>
      intro x hx
      rcases List.mem_cons.mp hx with e | hx
      · subst e
        exact key_of ok (by rw [← hq.1]; exact hq.2.1)
      · exact ih x hx
  exact all r x hx
theorem dt_of {kvs : List (List Key × V)} (ok : HOk P w H h) (e : H a = some (.dT kvs)) : kvs.length ≤ sizeLine ∧ (a == sysModules) = false ∧
    ∃ xs, KT H kvs xs ∧ h.DictOfH (tupleKind (mixKind P w)) a xs := dt_rd ok (.inl e)
end

/-- what the dict at a holds at the key y -/
noncomputable def DGet (H : Hp) (a : Addr) (y : V) (r : Option V) : Prop :=
  (∃ kvs k, Rd H a (.dK kvs) ∧ y = kV k ∧ r = valV kvs k) ∨ ∃ kvs k b, Rd H a (.dT kvs) ∧ y = .ref b ∧ H b = some (.tup (k.map kV)) ∧ r = valV kvs k
/-- the heap behind a[y] = v -/
noncomputable def DPut (H : Hp) (a : Addr) (y v : V) (H' : Hp) : Prop :=
  (∃ kvs k, H a = some (.dK kvs) ∧ y = kV k ∧ kvs.length < sizeLine ∧ H' = upd H a (.dK (putK kvs k v))) ∨
  ∃ kvs k b, H a = some (.dT kvs) ∧ y = .ref b ∧ H b = some (.tup (k.map kV)) ∧ kvs.length < sizeLine ∧ H' = upd H a (.dT (putK kvs k v))
theorem DGet.k {H : Hp} {a : Addr} {kvs : List (Key × V)} {k : Key} (e : H a = some (.dK kvs)) : DGet H a (kV k) (valV kvs k) := .inl ⟨kvs, k, .inl e, rfl, rfl⟩
theorem DGet.t {H : Hp} {a b : Addr} {kvs : List (List Key × V)} {k : List Key} (e : H a = some (.dT kvs)) (eb : H b = some (.tup (k.map kV))) : DGet H a (.ref b) (valV kvs k) := .inr ⟨kvs, k, b, .inl e, rfl, eb, rfl⟩
theorem DPut.k {H : Hp} {a : Addr} {kvs : List (Key × V)} {k : Key} {v : V} (e : H a = some (.dK kvs)) (hl : kvs.length < sizeLine) : DPut H a (kV k) v (upd H a (.dK (putK kvs k v))) := .inl ⟨kvs, k, e, rfl, hl, rfl⟩
theorem DPut.t {H : Hp} {a b : Addr} {kvs : List (List Key × V)} {k : List Key} {v : V} (e : H a = some (.dT kvs)) (eb : H b = some (.tup (k.map kV))) (hl : kvs.length < sizeLine) :
    DPut H a (.ref b) v (upd H a (.dT (putK kvs k v))) := .inr ⟨kvs, k, b, e, rfl, eb, hl, rfl⟩


section
variable {X : Cx} {pins : List (Addr × Obj)} {σ : St} {H : Hp} {s : Shared} {a : Addr} {y v : V} {u r : Value} {o : Option V} {A : Around} {E : Value → Shared → Prop}

theorem Inv.big (I : Inv X pins σ H s) : sysModules < s.heap.objs.size := by
  have h : mainGlobals < s.heap.objs.size := (I.mod.glob.keeps I.bk).lt
  exact Nat.lt_trans (by decide) h

/-- d[y], there -/
theorem d_getItem {Q : Value → Shared → Prop} (hu : A.units + 1 < cLine) (I : Inv X pins σ H s) (g : DGet H a y (some v)) (ry : RelV y u) (h : ∀ w' s', Inv X pins σ H s' → RelV v w' → Q w' s') :
    wpAny (model X.prog X.w) A (getItem (.ref a) u) Q E s := by
  rcases g with ⟨kvs, k, e, ey, l⟩ | ⟨kvs, k, b, e, ey, eb, l⟩
  · subst ey
    obtain ⟨z, hd, vs, rel, dd⟩ := dk_rd I.hok e
    obtain ⟨w', hw, rw'⟩ := RelO.some_of (v := v) (o := valueAt vs k) (by rw [l]; exact rel.val k)
    exact wpAny_getItem_of (kV_is ry) dd.mapOf hw (h w' _ (I.tok _) rw')
  · subst ey
    cases (show u = Value.ref b from ry)
    obtain ⟨z, hd, xs, rel, dd⟩ := dt_rd I.hok e
    obtain ⟨w', hw, rw'⟩ := RelO.some_of (v := v) (o := (atKey xs k).map (·.2)) (by rw [l]; exact rel.val k)
    obtain ⟨p, hp, hp2⟩ := Option.map_eq_some_iff.mp hw
    refine wpAny_getItem_heap (tupleKind_room_in1 hu) (key_of I.hok eb) dd hp ?_
    rw [hp2]
    exact h w' _ (I.tok _) rw'
/-- a dict's object is replaced -/
theorem d_write {h' : Heap} {t' : Nat} {ob : HO} (I : Inv X pins σ H s) (mu : Mut (H a)) (hs : Heap.SameBut a s.heap h') (he : ∃ q, h'.get? a = some q) (new : ObjOk X.prog X.w (upd H a ob) h' a ob) :
    Inv X pins σ (upd H a ob) { s with heap := h', toks := t' } :=
  I.write (x := a) (e := a) mu (.inl rfl) (fun b q hb z => (hs.2 b hb).trans z) he new
theorem dk_new {P : Program} {w : World} {H' : Hp} {h' : Heap} {kvs : List (Key × V)} {vs : List (Key × Value)} (z : kvs.length ≤ sizeLine) (hd : (a == sysModules) = false) (rel : KV kvs vs) (dd : h'.DictOf (mixKind P w) a vs) :
    ObjOk P w H' h' a (.dK kvs) := ⟨z, hd, vs, rel, dd⟩
/-- d[y] = v -/
theorem d_setItem {H' : Hp} {Q : Unit → Shared → Prop} (hu : A.units + 1 < cLine) (I : Inv X pins σ H s) (g : DPut H a y v H') (ry : RelV y u) (rv : RelV v r) (h : ∀ s', Inv X pins σ H' s' → Q () s') :
    wpAny (model X.prog X.w) A (setItem (.ref a) u r) Q E s := by
  rcases g with ⟨kvs, k, e, ey, l, eH⟩ | ⟨kvs, k, b, e, ey, eb, l, eH⟩
  · subst ey eH
    obtain ⟨z, hd, vs, rel, dd⟩ := dk_of I.hok e
    have hz : vs.length ≤ sizeLine := by rw [← rel.length]; exact z
    have hl : (putK kvs k v).length ≤ sizeLine := by have := length_putK kvs k v; omega
    refine wpAny_setItem_pairs (hsz := hz) (kV_is ry) dd fun h' dd' hs => h _ ?_
    have he : ∃ q, h'.get? a = some q := let ⟨q, _, _, hq, _⟩ := dd'; ⟨q, hq⟩
    exact d_write I (by rw [e]; exact True.intro) hs he (dk_new hl hd (rel.put k rv) dd')
  · subst ey eH
    cases (show u = Value.ref b from ry)
    obtain ⟨z, hd, xs, rel, dd⟩ := dt_of I.hok e
    have hz : xs.length ≤ sizeLine := by rw [← Paired.length rel]; exact z
    have hl : (putK kvs k v).length ≤ sizeLine := by have := length_putK kvs k v; omega
    refine wpAny_setItem_heap (hsz := hz) (tupleKind_room_in1 hu) (key_of I.hok eb) dd fun h' dd' hs => h _ ?_
    obtain ⟨q, es, ep, hq, h2, h3, h4, _, h5⟩ := dd'
    refine d_write I (by rw [e]; exact True.intro) hs ⟨q, hq⟩ ⟨hl, hd, _, (rel.put k eb rv).keeps fun c ys ec => ?_, q, es, ep, hq, h2, h3, h4, h5⟩
    rw [upd_ne (ne_of ec e (fun z => nomatch z))]
    exact ec
end

section
variable {X : Cx} {pins : List (Addr × Obj)} {σ : St} {H : Hp} {s : Shared} {a : Addr} {kvs : List (Key × V)} {k : Key} {u : Value} {A : Around} {E : Value → Shared → Prop}
end


/-! ### readings and rules -/
/-- the element of a subscription, not a slice -/
noncomputable def NoSl (i : Expr) : Prop := ∀ ov iv, subscripted i false ov iv = operate [ov, iv] (getItem ov iv)
theorem subD_of {prog : Program} {w : World} {A : Around} {E : Value → Shared → Prop} {s : Shared} {env : Env} {value slice : Expr} {pos : Pos} {T id : String} {Q : Value → Shared → Prop}
    (hl : typeLookup (.type T) "__getitem__" = pure (some (.builtin id))) (hs : NoSl slice)
    (h : wpAny (model prog w) A (eval value env) (fun o s₁ => wpAny (model prog w) A (eval slice env) (fun i s₂ => s₂.TypeIs o T ∧ wpAny (model prog w) A (getItem o i) Q E s₂) E s₁) E s) :
    wpAny (model prog w) A (eval (.Subscript value slice pos) env) Q E s := by
  refine Subscript_ (wpAny_mono h (fun o s₁ h₁ => wpAny_mono h₁ (fun i s₂ h₂ => ?_) fun _ _ x => x) fun _ _ x => x)
  obtain ⟨hT, h₂⟩ := h₂
  unfold subscriptTail
  refine wpAny_bind ?_
  rw [getitemInPython_of_ne hT.not_modules]
  refine wpAny_bind (wpAny_specialOf hT hl ?_)
  have fin : wpAny (model prog w) A (subscripted slice false o i) (fun r s₃ => wpAny (model prog w) A (letTemporaryGo value o r >>= fun _ => pure r) Q E s₃) E s₂ := by
    rw [hs o i]
    exact wpAny_operating (wpAny_mono h₂ (fun r s₃ h₃ => wpAny_bind (wpAny_letTemporaryGo (wpAny_pure h₃))) fun _ _ x => x)
  first
    | exact wpAny_pure (wpAny_bind fin)
    | exact wpAny_bind (wpAny_pure (wpAny_bind fin))
    | exact wpAny_bind fin

theorem dict_typeIs {X : Cx} {pins : List (Addr × Obj)} {σ : St} {H : Hp} {s : Shared} {a : Addr} {y : V} {o : Option V} (I : Inv X pins σ H s) (g : DGet H a y o) : s.TypeIs (.ref a) "dict" := by
  rcases g with ⟨kvs, k, e, _, _⟩ | ⟨kvs, k, b, e, _, _, _⟩
  · obtain ⟨_, _, vs, _, dd⟩ := dk_rd I.hok e
    exact dd.typeIs
  · obtain ⟨_, _, xs, _, dd⟩ := dt_rd I.hok e
    exact dd.typeIs
/-- d[y] -/
noncomputable def tDGet (td ty : TE) : TE := fun σ H Q => td σ H fun x H1 => ty σ H1 fun y H2 => ∃ a v, x = .ref a ∧ DGet H2 a y (some v) ∧ Q v H2
/-- d[y] = v -/
noncomputable def sDPut (td ty tv : TE) : TS := fun D σ H => tv σ H fun v H1 => td σ H1 fun x H2 => ty σ H2 fun y H3 => ∃ a H4, x = .ref a ∧ DPut H3 a y v H4 ∧ D.nx σ H4
section
variable {X : Cx} {o i e value : Expr} {pos pos' tpos : Pos} {td ty tv : TE}
theorem pe_dget (hu : X.A.units + 1 < cLine) (ho : PE X o td) (hi : PE X i ty) (hs : NoSl i) : PE X (.Subscript o i pos) (tDGet td ty) := by
  intro pins s σ H Q I h
  refine subD_of PySem.F.slot_dict_getitem.lookup hs (thn (ho pins s σ H _ I h) fun u s1 ⟨x, H1, I1, rx, q1⟩ => thn (hi pins s1 σ H1 _ I1 q1) fun iv s2 ⟨y, H2, I2, ry, a, v, ex, g, q2⟩ => ?_)
  subst ex
  obtain rfl : u = Value.ref a := rx
  exact ⟨dict_typeIs I2 g, d_getItem hu I2 g ry fun w' s3 I3 rw' => ⟨v, H2, I3, rw', q2⟩⟩
theorem ps_dput (hu : X.A.units + 1 < cLine) (ho : PE X o td) (hi : PE X i ty) (hv : PE X value tv) (hs : swapsWith value (some (.Subscript o i pos')) pos.line X.env = pure false) :
    PS X (.Assign [.Subscript o i pos'] value pos) (sDPut td ty tv) := by
  intro pins s σ H D I h
  refine wpAny_Assign_Subscript (thn (hv pins s σ H _ I h) fun r s1 ⟨v, H1, I1, rv, q1⟩ => thn (ho pins s1 σ H1 _ I1 q1) fun u s2 ⟨x, H2, I2, rx, q2⟩ => thn (hi pins s2 σ H2 _ I2 q2) fun iv s3 ⟨y, H3, I3, ry, a, H4, ex, g, q3⟩ => ?_) hs
  subst ex
  obtain rfl : u = Value.ref a := rx
  exact d_setItem hu I3 g ry rv fun s4 I4 => ⟨σ, H4, I4, q3⟩
end


/-! ### displays -/
theorem dk_empty {P : Program} {w : World} {H : Hp} (h : Heap) (hb : sysModules < h.objs.size) : ObjOk P w H (h.push { cls := .type "dict", data := .dict #[] }) h.objs.size (.dK []) :=
  ⟨Nat.zero_le _, beq_eq_false_iff_ne.mpr (Ne.symm (Nat.ne_of_lt hb)), [], .nil, Heap.DictOf.new h⟩
section
variable {X : Cx} {pos : Pos}
end

/-- the pairs of a display, from the left -/
noncomputable def tPairs : List (TE × TE) → St → Hp → (List (V × V) → Hp → Prop) → Prop
  | [], _, H, Q => Q [] H
  | (tk, tv) :: r, σ, H, Q => tk σ H fun x H1 => tv σ H1 fun y H2 => tPairs r σ H2 fun ps H3 => Q ((x, y) :: ps) H3
noncomputable abbrev VV : List (V × V) → List (Value × Value) → Prop := Paired fun p q => RelV p.1 q.1 ∧ RelV p.2 q.2
noncomputable def PPs (X : Cx) (pos : Pos) (keys : List (Option Expr)) (values : List Expr) (trs : List (TE × TE)) : Prop :=
  ∀ (pins : List (Addr × Obj)) (s : Shared) (σ : St) (H : Hp) (Q : List (V × V) → Hp → Prop), Inv X pins σ H s → tPairs trs σ H Q →
    wpAny (model X.prog X.w) X.A (evalPairs (pairTrees keys values X.env pos)) (fun vs s' => ∃ ps H', Inv X pins σ H' s' ∧ VV ps vs ∧ Q ps H') X.xe s
theorem pps_nil {X : Cx} {pos : Pos} : PPs X pos [] [] [] := fun pins s σ H Q I h => pairTrees_nil_walk ⟨[], H, I, .nil, h⟩
theorem pps_cons {X : Cx} {pos : Pos} {k v : Expr} {ks : List (Option Expr)} {vs : List Expr} {tk tv : TE} {trs : List (TE × TE)} (hk : PE X k tk) (hv : PE X v tv) (hr : PPs X pos ks vs trs) :
    PPs X pos (some k :: ks) (v :: vs) ((tk, tv) :: trs) := fun pins s σ H Q I h =>
  pairTrees_cons_walk (thn (hk pins s σ H _ I h) fun u s1 ⟨x, H1, I1, rx, q1⟩ => thn (hv pins s1 σ H1 _ I1 q1) fun w2 s2 ⟨y, H2, I2, ry, q2⟩ =>
    thn (hr pins s2 σ H2 _ I2 q2) fun ws s3 ⟨ps, H3, I3, rel, q3⟩ => ⟨(x, y) :: ps, H3, I3, .cons ⟨rx, ry⟩ rel, q3⟩)

noncomputable def mergeK (kvs more : List (Key × V)) : List (Key × V) := more.foldl (fun acc kv => putK acc kv.1 kv.2) kvs
theorem KV.merge : ∀ {more : List (Key × V)} {rs : List (Key × Value)} {kvs : List (Key × V)} {vs : List (Key × Value)}, KV more rs → KV kvs vs → KV (mergeK kvs more) (merged vs rs) := by
  intro more rs kvs vs r
  unfold KV at r
  induction r generalizing kvs vs with
  | nil => intro q; exact q
  | @cons p q ps qs h t ih =>
    intro r0
    have e : KV (putK kvs p.1 p.2) (stored vs q.1 q.2) := by
      have := r0.put p.1 h.2
      rw [← h.1]; exact this
    exact ih e
theorem length_mergeK : ∀ (more kvs : List (Key × V)), (mergeK kvs more).length ≤ kvs.length + more.length
  | [], kvs => by show kvs.length ≤ kvs.length + 0; omega
  | p :: r, kvs => by
    have h1 := length_mergeK r (putK kvs p.1 p.2)
    have h2 := length_putK kvs p.1 p.2
    show (mergeK (putK kvs p.1 p.2) r).length ≤ _
    rw [List.length_cons]; omega
theorem carries_of {P : Program} {w : World} : ∀ {kvs : List (Key × V)} {ws : List (Value × Value)}, VV (kvs.map fun kv => (kV kv.1, kv.2)) ws → ∃ rs, Carries (mixKind P w) ws rs ∧ KV kvs rs
  | [], _, r => by rw [List.map_nil] at r; cases r; exact ⟨[], True.intro, .nil⟩
  | p :: kvs, _, r => by
    rw [List.map_cons] at r
    cases r with
    | @cons a b as bs h t =>
      obtain ⟨rs, c, q⟩ := carries_of (P := P) (w := w) t
      obtain ⟨b1, b2⟩ := b
      exact ⟨(p.1, b2) :: rs, ⟨kV_is h.1, rfl, c⟩, .cons ⟨rfl, h.2⟩ q⟩
/-- {k: v, ..} with keys ints and texts; the new dict stands empty while the pairs are made -/
noncomputable def tDisp (trs : List (TE × TE)) : TE := fun σ H Q => ∀ p, H p = none → tPairs trs σ (upd H p (.dK [])) fun ps H2 => H2 p = some (.dK []) ∧ ∃ kvs : List (Key × V), ps = kvs.map (fun kv => (kV kv.1, kv.2)) ∧ kvs.length ≤ 15 ∧ Q (.ref p) (upd H2 p (.dK (mergeK [] kvs)))
theorem pe_disp {X : Cx} {pos : Pos} {keys : List (Option Expr)} {values : List Expr} {trs : List (TE × TE)} (h : PPs X pos keys values trs) (hall : keys.all (·.isSome) = true) (hl : keys.length = values.length) (h0 : keys ≠ [])
    (h15 : keys.length ≤ 15) : PE X (.Dict keys values pos) (tDisp trs) := by
  intro pins s σ H Q I q
  have hn := I.hok.fresh (Nat.le_refl s.heap.objs.size)
  have I1 := I.laid (a := s.heap.objs.size) (o := .dK []) (h' := s.heap.push { cls := .type "dict", data := .dict #[] }) (t' := s.toks) (fun _ _ q => Heap.get?_push_of_some _ q) (Nat.le_refl _) (dk_empty s.heap I.big)
  refine wpAny_Dict_walk (knd := mixKind X.prog X.w) hall hl h0 h15 (thn (h pins _ σ _ _ I1 (q _ hn)) fun ws s2 ⟨ps, H2, I2, rel, e, kvs, ep, lk, q2⟩ => ?_)
  subst ep
  obtain ⟨rs, c, rk⟩ := carries_of (P := X.prog) (w := X.w) rel
  obtain ⟨z, hd, vs0, r0, dd⟩ := dk_of I2.hok e
  cases r0
  refine ⟨rs, c, dd, fun h' dd' hs => ⟨.ref s.heap.objs.size, _, ?_, rfl, q2⟩⟩
  have hz : (mergeK [] kvs).length ≤ sizeLine := by
    have h1 := length_mergeK kvs []
    rw [List.length_nil] at h1
    rw [sizeLine_eq]; omega
  have he : ∃ q, h'.get? s.heap.objs.size = some q := let ⟨q, _, _, hq, _⟩ := dd'; ⟨q, hq⟩
  exact d_write I2 (by rw [e]; exact True.intro) hs he (dk_new hz hd (rk.merge .nil) dd')


/-! ### methods -/
section
variable {X : Cx} {pins : List (Addr × Obj)} {σ : St} {H : Hp} {s : Shared} {a : Addr} {y d : V} {u r : Value} {o : Option V} {A : Around} {E : Value → Shared → Prop}
end

section
variable {X : Cx} {o e f : Expr} {apos cpos : Pos} {td ty tx : TE}
end

/-! ### dict(d): a copy -/
section
variable {X : Cx} {pins : List (Addr × Obj)} {σ : St} {H : Hp} {s : Shared} {a : Addr} {kvs : List (Key × V)} {A : Around} {E : Value → Shared → Prop}
end


section
variable {X : Cx} {pins : List (Addr × Obj)} {σ : St} {H : Hp} {s : Shared} {a : Addr} {y : V} {u : Value} {A : Around} {E : Value → Shared → Prop}
end
end L2
end

section
set_option linter.all false
set_option autoImplicit false
/-! DW1: deep values, a small language without places, and what is wanted of it (weakest preconditions), over plain lists. -/
namespace DW
open PySem

noncomputable abbrev DKey := Sum Int (List Nat)

/-- a value with all that lies in it. lst: a list that nobody changes any more; loc: a cell of the store; ro: a list that is only read -/
inductive D where
  | non | bl (b : Bool) | int (i : Int) | str (x : List Nat)
  | tup (ds : List D) | lst (ds : List D) | ro (ds : List D) | loc (n : Nat) | dic (ks : List DKey) (ds : List D)

inductive Cell where
  | lst (ds : List D) | ins (c : String) (fs : List (String × D)) | dic (ks : List DKey) (ds : List D) | dtc (ks : List (List DKey)) (ds : List D) | exc (c : String) (ks : List String) (ds : List D) | gone
noncomputable abbrev Mem := List Cell
noncomputable abbrev Rho := List (Option D)
noncomputable abbrev QD := D → Mem → Prop
noncomputable abbrev DSp := List D → Mem → QD → Prop
/-- an error: its class, its fields -/
noncomputable abbrev QX := String → List String → List D → Mem → Prop
noncomputable abbrev DSpX := List D → Mem → QD → QX → Prop

set_option genInjectivity false
mutual
inductive E where
  | var (i : Nat) | cst (d : D) | gbl (x : Str) (d : D)
  | bin (op : Operator) (a b : E) | neg (a : E) | not (a : E)
  | cmp (op : CmpOp) (a b : E) | cmpT (neg : Bool) (a b : E) | chain (p q : CmpOp) (a b c : E)
  | and (a b : E) | or (a b : E) | ife (c a b : E)
  | call (x : Str) (sp : DSp) (as : Es) | blt (x : String) (as : Es)
  | isin (a : E) (t : String)
  | meth (m : String) (o : E) (as : Es) | rmv (o : E) (as : Es) | imin (as : Es) | dd3 (k1 k2 k3 : List Nat) (a b e : E)
  | idx (a b : E) | slc (m : Bool) (a : E) (lo hi : Es)
  | tup (as : Es) | lst (m : Bool) (as : Es)
  | comp (m : Bool) (tg : Nat) (tt : Bool) (cap : List Nat) (elt : E) (it : It) (cond : Es)
  | frz (a : E)
  | dget (o i : E)
  | cat (m : Bool) (a b : E)
  | fld (c f : String) (o : E) | mth (c m : String) (sp : DSp) (o : E) (as : Es) | mk (c : String) (sp : DSp) (as : Es)
inductive Es where
  | nil | cons (e : E) (es : Es)
inductive It where
  | seq (e : E) | rng (as : Es) | zip (a b : E)
end
set_option genInjectivity true

-- a call that may raise
set_option genInjectivity false
mutual
inductive S where
  | set (i : Nat) (e : E) | setT (is : List Nat) (e : E)
  | dput (o i e : E) | setIx (o i e : E)
  | exp (e : E) | ret (e : E)
  | ite (c : E) (a b : Ss) | for_ (tg : List Nat) (tt : Bool) (it : It) (b : Ss) | whl (c : E) (b : Ss)
  | setF (c f : String) (o e : E) | nev
inductive Ss where
  | nil | cons (s : S) (r : Ss)
end
set_option genInjectivity true

/-! ### values -/
noncomputable def b2i (b : Bool) : Int := if b then 1 else 0

/-! values without cells and dicts, at most n deep, of signs that are there -/
mutual
noncomputable def flat : Nat → D → Bool
  | _, .non => true
  | _, .bl _ => true
  | _, .int _ => true
  | _, .str x => x.all (· < 1114112)
  | n + 1, .tup ds => flats n ds
  | n + 1, .lst ds => flats n ds
  | _, _ => false
noncomputable def flats : Nat → List D → Bool
  | _, [] => true
  | n, d :: ds => flat n d && flats n ds
end


/-! Python's ==, of values without cells (a dict alone by the same keys in the same order) -/
mutual
noncomputable def eqD : D → D → Bool
  | .non, e => match e with | .non => true | _ => false
  | .bl a, e => match e with | .bl b => a == b | .int j => b2i a == j | _ => false
  | .int i, e => match e with | .int j => i == j | .bl b => i == b2i b | _ => false
  | .str x, e => match e with | .str y => x == y | _ => false
  | .tup ds, e => match e with | .tup es => eqDs ds es | _ => false
  | .lst ds, e => match e with | .lst es => eqDs ds es | _ => false
  | .ro ds, _ => false
  | .loc _, _ => false
  | .dic ks ds, e => match e with | .dic ls es => decide (ks = ls) && eqDs ds es | _ => false
noncomputable def eqDs : List D → List D → Bool
  | [], es => es.isEmpty
  | d :: ds, es => match es with | [] => false | e :: es => eqD d e && eqDs ds es
end

/-- code points in order -/
noncomputable def ltCs : List Nat → List Nat → Bool
  | _, [] => false
  | [], _ :: _ => true
  | x :: xs, y :: ys => if x = y then ltCs xs ys else decide (x < y)

noncomputable def sc2 : D → Bool
  | .int _ => true
  | .str _ => true
  | _ => false
/-! Python's < -/
mutual
noncomputable def ltD : D → D → Option Bool
  | .int i, e => match e with | .int j => some (decide (i < j)) | _ => none
  | .str x, e => match e with | .str y => some (ltCs x y) | _ => none
  | .tup ds, e => match e with | .tup es => if (ds.all sc2 && es.all sc2) = true then ltDs ds es else none | _ => none
  | _, _ => none
noncomputable def ltDs : List D → List D → Option Bool
  | [], es => some (!es.isEmpty)
  | d :: ds, es => match es with
    | [] => some false
    | e :: es => if eqD d e then ltDs ds es else ltD d e
end

/-! ### items: a whole number and a text -/
noncomputable abbrev Itm := Int × List Nat
noncomputable def itD (x : Itm) : D := .tup [.int x.1, .str x.2]
noncomputable def lt2 (x y : Itm) : Bool := if x.1 = y.1 then ltCs x.2 y.2 else decide (x.1 < y.1)
noncomputable def seqOf (μ : Mem) : D → Option (List D)
  | .lst ds => some ds
  | .tup ds => some ds
  | .ro ds => some ds
  | .loc n => match μ[n]? with | some (.lst ds) => some ds | _ => none
  | _ => none

noncomputable def chars (x : List Nat) : List D := x.map fun c => D.str [c]

noncomputable def lenOf (μ : Mem) : D → Option Nat
  | .str x => some x.length
  | d => (seqOf μ d).map (·.length)
/-- lists alone -/
noncomputable def lstOf (μ : Mem) : D → Option (List D)
  | .tup _ => none
  | d => seqOf μ d

noncomputable def truth (μ : Mem) : D → Option Bool
  | .non => some false
  | .bl b => some b
  | .int i => some (i != 0)
  | .dic ks _ => some (ks.length != 0)
  | d => (lenOf μ d).map (· != 0)

noncomputable def isTy (have_ want : String) : Bool := have_ == want || (have_ == "bool" && want == "int")
/-- the name of a value's type -/
noncomputable def tyOf (μ : Mem) : D → Option String
  | .non => some "NoneType" | .bl _ => some "bool" | .int _ => some "int" | .str _ => some "str"
  | .tup _ => some "tuple" | .lst _ => some "list" | .dic _ _ => some "dict" | .ro _ => none
  | .loc n => match μ[n]? with | some (.lst _) => some "list" | some (.dic _ _) => some "dict" | _ => none
noncomputable def wIsin (t : String) (d : D) (μ : Mem) (Q : QD) : Prop := match tyOf μ d with
  | some h => Q (.bl (isTy h t)) μ
  | none => False

noncomputable def rangeL (lo : Int) (n : Nat) : List D := (List.range n).map fun (k : Nat) => D.int (lo + (k : Int))

/-- the place that an index names -/
noncomputable def ixD (n : Nat) (i : Int) : Option Nat := if 0 ≤ i then (if i < n then some i.toNat else none) else if -(n : Int) ≤ i then some (i + n).toNat else none
noncomputable def sIxD (n d : Nat) : Option Int → Nat
  | none => d
  | some v => if v < 0 then (v + (n : Int)).toNat else min v.toNat n
noncomputable def cutD {α : Type} (xs : List α) (lo hi : Option Int) : List α := (xs.drop (sIxD xs.length 0 lo)).take (sIxD xs.length xs.length hi - sIxD xs.length 0 lo)

noncomputable def lim : Nat := 16777216

/-- a new list: with m a cell, else one that stays -/
noncomputable def newL (m : Bool) (ds : List D) (μ : Mem) (Q : QD) : Prop := match m with
  | true => Q (.loc μ.length) (μ ++ [.lst ds])
  | false => Q (.lst ds) μ

noncomputable def CMulD (i j : Int) : Prop := (-(2 ^ 64) < i ∧ i < 2 ^ 64) ∨ (-(2 ^ 64) < j ∧ j < 2 ^ 64)
noncomputable def CDivD (j : Int) : Prop := 0 < j ∧ j < 2 ^ 500
noncomputable def CPowD (i j : Int) : Prop := 0 ≤ j ∧ j ≤ 1000000 ∧ i.natAbs < 2 ^ 64

noncomputable def wBin (op : Operator) (x y : D) (μ : Mem) (Q : QD) : Prop :=
  match x, y with
  | .int i, .int j => match op with
    | .Add => Q (.int (i + j)) μ
    | .Sub => Q (.int (i - j)) μ
    | .Mult => CMulD i j ∧ Q (.int (i * j)) μ
    | .FloorDiv => CDivD j ∧ Q (.int (i / j)) μ
    | .Mod => 0 < j ∧ Q (.int (i % j)) μ
    | .Pow => CPowD i j ∧ Q (.int (i ^ j.toNat)) μ
    | _ => False
  | .str a, .str b => match op with
    | .Add => a.length + b.length ≤ lim ∧ Q (.str (a ++ b)) μ
    | _ => False
  | .lst a, .lst b => match op with
    | .Add => a.length + b.length ≤ lim ∧ Q (.lst (a ++ b)) μ
    | _ => False
  | _, _ => False

/-- what stands in cells, read now -/
noncomputable def thaw (μ : Mem) : Nat → D → D
  | 0, d => d
  | n + 1, d => match d with
    | .tup ds => .tup (ds.map (thaw μ n))
    | .lst ds => .lst (ds.map (thaw μ n))
    | .loc k => match μ[k]? with | some (.lst ds) => .lst (ds.map (thaw μ n)) | _ => .loc k
    | d => d
noncomputable def wEqT (neg : Bool) (x y : D) (μ : Mem) (Q : QD) : Prop := flat 60 (thaw μ 8 x) = true ∧ flat 60 (thaw μ 8 y) = true ∧ Q (.bl (neg != eqD (thaw μ 8 x) (thaw μ 8 y))) μ
noncomputable def isNon : D → Bool
  | .non => true
  | _ => false
noncomputable def wCmp (op : CmpOp) (x y : D) (μ : Mem) (Q : QD) : Prop :=
  match op with
  | .Eq => flat 60 x = true ∧ flat 60 y = true ∧ Q (.bl (eqD x y)) μ
  | .NotEq => flat 60 x = true ∧ flat 60 y = true ∧ Q (.bl (!eqD x y)) μ
  | .Lt => match ltD x y with | some b => Q (.bl b) μ | none => False
  | .LtE => match x, y with
    | .int i, .int j => Q (.bl (decide (i ≤ j))) μ
    | .str a, .str b => Q (.bl (!ltCs b a)) μ
    | _, _ => False
  | .Gt => match x, y with
    | .int i, .int j => Q (.bl (decide (j < i))) μ
    | _, _ => False
  | .GtE => match x, y with
    | .int i, .int j => Q (.bl (decide (j ≤ i))) μ
    | _, _ => False
  | .Is => match y with | .non => Q (.bl (isNon x)) μ | .bl b => (match x with | .bl a => Q (.bl (a == b)) μ | _ => False) | _ => False
  | .IsNot => match y with | .non => Q (.bl (!isNon x)) μ | .bl b => (match x with | .bl a => Q (.bl (a != b)) μ | _ => False) | _ => False
  | .In => match y with
    | .str t => (match x with | .str a => (match a with | [c] => Q (.bl (t.contains c)) μ | _ => False) | _ => False)
    | y => (match seqOf μ y with | some ds => flats 60 ds = true ∧ flat 60 x = true ∧ Q (.bl (ds.any fun d => eqD d x)) μ | none => False)
  | .NotIn => match y with
    | .str t => (match x with | .str a => (match a with | [c] => Q (.bl (!t.contains c)) μ | _ => False) | _ => False)
    | y => (match seqOf μ y with | some ds => flats 60 ds = true ∧ flat 60 x = true ∧ Q (.bl (!ds.any fun d => eqD d x)) μ | none => False)

noncomputable def allB : List D → Option Bool
  | [] => some true
  | .bl b :: ds => (allB ds).map (b && ·)
  | _ :: _ => none
noncomputable def intsD : List D → Option (List Int)
  | [] => some []
  | .int i :: ds => (intsD ds).map (i :: ·)
  | _ :: _ => none

noncomputable def knownB : List String := ["len", "abs", "all", "max", "min", "list", "divmod"]
noncomputable def wBlt (b : String) (ds : List D) (μ : Mem) (Q : QD) : Prop :=
  match ds with
  | [d] => match b with
    | "len" => match lenOf μ d with | some n => Q (.int n) μ | none => False
    | "abs" => match d with | .int i => Q (.int (if i < 0 then -i else i)) μ | _ => False
    | "all" => match (lstOf μ d).bind allB with | some r => Q (.bl r) μ | none => False
    | "max" => match (lstOf μ d).bind intsD with | some (i :: is) => Q (.int (is.foldl max i)) μ | _ => False
    | "min" => match (lstOf μ d).bind intsD with | some (i :: is) => Q (.int (is.foldl min i)) μ | _ => False
    | "list" => match seqOf μ d with | some es => Q (.lst es) μ | none => False
    | _ => False
  | [d, e] => match b with
    | "divmod" => match d, e with | .int i, .int j => CDivD j ∧ Q (.tup [.int (i / j), .int (i % j)]) μ | _, _ => False
    | "max" => match d, e with | .int i, .int j => Q (.int (if j > i then j else i)) μ | _, _ => False
    | "min" => match d, e with | .int i, .int j => Q (.int (if j < i then j else i)) μ | _, _ => False
    | _ => False
  | _ => False

/-! ### dicts -/
noncomputable def keyD : D → Option DKey
  | .int i => some (.inl i)
  | .str x => some (.inr x)
  | _ => none
noncomputable def keyDs : List D → Option (List DKey)
  | [] => some []
  | d :: ds => match keyD d with | some k => (keyDs ds).map (k :: ·) | none => none
noncomputable def dlook {κ : Type} [DecidableEq κ] : List κ → List D → κ → Option D
  | k' :: ks, d :: ds, k => if k' = k then some d else dlook ks ds k
  | _, _, _ => none
noncomputable def dputK {κ : Type} [DecidableEq κ] (ks : List κ) (k : κ) : List κ := if k ∈ ks then ks else ks ++ [k]
noncomputable def dputV {κ : Type} [DecidableEq κ] (ks : List κ) (ds : List D) (k : κ) (d : D) : List D := if k ∈ ks then List.zipWith (fun k' d' => if k' = k then d else d') ks ds else ds ++ [d]
noncomputable def wDget (x y : D) (μ : Mem) (Q : QD) : Prop := match x with
  | .loc n => match μ[n]? with
    | some (.dic ks ds) => (match keyD y with | some k => (match dlook ks ds k with | some d => Q d μ | none => False) | none => False)
    | some (.dtc ks ds) => (match y with | .tup es => (match keyDs es with | some k => (match dlook ks ds k with | some d => Q d μ | none => False) | none => False) | _ => False)
    | _ => False
  | _ => False
noncomputable def wDput (x y v : D) (μ : Mem) (k : Mem → Prop) : Prop := match x with
  | .loc n => match μ[n]? with
    | some (.dic ks ds) => (match keyD y with | some q => ks.length < lim ∧ k (μ.set n (.dic (dputK ks q) (dputV ks ds q v))) | none => False)
    | some (.dtc ks ds) => (match y with | .tup es => (match keyDs es with | some q => ks.length < lim ∧ k (μ.set n (.dtc (dputK ks q) (dputV ks ds q v))) | none => False) | _ => False)
    | _ => False
  | _ => False
/-- a list that is no script -/
noncomputable def wlOf (μ : Mem) : D → Option (List D)
  | .lst ds => some ds
  | .loc n => match μ[n]? with | some (.lst ds) => some ds | _ => none
  | _ => none
noncomputable def wCat (m : Bool) (x y : D) (μ : Mem) (Q : QD) : Prop := match wlOf μ x with
  | some as => (match wlOf μ y with | some bs => as.length + bs.length ≤ lim ∧ newL m (as ++ bs) μ Q | none => False)
  | none => False
/-! ### instances -/
noncomputable def insOf (μ : Mem) (c : String) (d : D) : Option (Nat × List (String × D)) := match d with
  | .loc n => match μ[n]? with | some (.ins c' fs) => if c' = c then some (n, fs) else none | _ => none
  | _ => none
noncomputable def getD' (f : String) : List (String × D) → Option D
  | [] => none
  | (g, d) :: r => if g = f then some d else getD' f r
noncomputable def putD (f : String) (d : D) : List (String × D) → List (String × D)
  | [] => [(f, d)]
  | (g, e) :: r => if g = f then (g, d) :: r else (g, e) :: putD f d r
noncomputable def wFld (c f : String) (x : D) (μ : Mem) (Q : QD) : Prop := match insOf μ c x with
  | some (_, fs) => match getD' f fs with | some d => Q d μ | none => False
  | none => False
noncomputable def wSetF (c f : String) (x v : D) (μ : Mem) (k : Mem → Prop) : Prop := match insOf μ c x with
  | some (n, fs) => fs.length < 1000 ∧ k (μ.set n (.ins c (putD f v fs)))
  | none => False
noncomputable def isIns (μ : Mem) (c m : String) (x : D) : Prop := match insOf μ c x with
  | some (_, fs) => getD' m fs = none
  | none => False
noncomputable def isCell (μ : Mem) : D → Bool
  | .loc n => match μ[n]? with | some (.lst _) => true | _ => false
  | _ => false
noncomputable def wMethL (m : String) (n : Nat) (xs : List D) (ds : List D) (μ : Mem) (Q : QD) : Prop :=
  match ds with
  | [] => match m with
    | "clear" => Q .non (μ.set n (.lst []))
    | _ => False
  | [d] => match m with
    | "append" => xs.length < lim ∧ Q .non (μ.set n (.lst (xs ++ [d])))
    | "extend" => match wlOf μ d with | some es => xs.length + es.length ≤ lim ∧ Q .non (μ.set n (.lst (xs ++ es))) | none => False
    | _ => False
  | [.int k, d] => match m with
    | _ => False
  | _ => False
noncomputable def wMeth (m : String) (o : D) (ds : List D) (μ : Mem) (Q : QD) : Prop :=
  match o with
  | .loc n => match μ[n]? with
    | some (.lst xs) => wMethL m n xs ds μ Q
    | _ => False
  | _ => False

/-- index and count of a whole number in a list of whole numbers -/
noncomputable def isLs (μ : Mem) : D → Bool
  | .lst _ => true
  | .loc n => match μ[n]? with | some (.lst _) => true | _ => false
  | _ => false
/-- the least one of a list of items -/
noncomputable def wImin (xs : List D) (μ : Mem) (Q : QD) : Prop := match xs with
  | [x] => (match lstOf μ x with
    | some es => ∃ r : List Itm, es = r.map itD ∧ r ≠ [] ∧ ∀ y, y ∈ r → (∀ z ∈ r, lt2 z y = false) → Q (itD y) μ
    | none => False)
  | _ => False
/-- an item taken out -/
noncomputable def wRmv (x : D) (ds : List D) (μ : Mem) (Q : QD) : Prop := match x with
  | .loc n => match μ[n]? with
    | some (.lst xs) => ∃ (r : List Itm) (y : Itm), xs = r.map itD ∧ ds = [itD y] ∧ y ∈ r ∧ Q .non (μ.set n (.lst ((r.erase y).map itD)))
    | _ => False
  | _ => False
noncomputable def wIdx (x y : D) (μ : Mem) (Q : QD) : Prop :=
  match x, y with
  | .str z, .int i => match (ixD z.length i).bind (z[·]?) with | some c => Q (.str [c]) μ | none => False
  | x, .int i => match seqOf μ x with
    | some ds => match (ixD ds.length i).bind (ds[·]?) with | some d => Q d μ | none => False
    | none => False
  | _, _ => False

noncomputable def wSlc (m : Bool) (x : D) (lo hi : Option Int) (μ : Mem) (Q : QD) : Prop :=
  match x with
  | .lst ds => newL m (cutD ds lo hi) μ Q
  | .loc n => match μ[n]? with | some (.lst ds) => newL m (cutD ds lo hi) μ Q | _ => False
  | _ => False
noncomputable def wFrz (d : D) (μ : Mem) (Q : QD) : Prop :=
  match d with
  | .loc n => match μ[n]? with | some (.lst ds) => Q (.lst ds) (μ.set n .gone) | _ => False
  | d => Q d μ

noncomputable def wTru (d : D) (μ : Mem) (Q : Bool → Mem → Prop) : Prop := match truth μ d with | some b => Q b μ | none => False

noncomputable def wBl (d : D) (μ : Mem) (Q : Bool → Mem → Prop) : Prop := match d with | .bl b => Q b μ | _ => False
noncomputable def wInt (d : D) (μ : Mem) (Q : Int → Mem → Prop) : Prop := match d with | .int i => Q i μ | _ => False
noncomputable abbrev QI := List D → (Mem → Prop) → Mem → Prop
noncomputable def wSeq (d : D) (μ : Mem) (Q : QI) : Prop :=
  match d with
  | .lst ds => Q ds (fun _ => True) μ
  | .tup ds => Q ds (fun _ => True) μ
  | .ro ds => Q ds (fun _ => True) μ
  | .str x => Q (chars x) (fun _ => True) μ
  | .loc n => match μ[n]? with
    | some (.lst ds) => Q ds (fun μ' => μ'[n]? = some (.lst ds)) μ
    | _ => False
  | _ => False
noncomputable def wRng (n : Nat) (ds : List D) (μ : Mem) (Q : QI) : Prop :=
  match n, ds with
  | 1, [.int j] => j ≤ lim ∧ -(2 ^ 62) ≤ j ∧ Q (rangeL 0 j.toNat) (fun _ => True) μ
  | _, _ => False
noncomputable def zipD : List D → List D → List D
  | a :: as, b :: bs => .tup [a, b] :: zipD as bs
  | _, _ => []
noncomputable def wZip (x y : D) (μ : Mem) (Q : QI) : Prop :=
  match lstOf μ x, lstOf μ y with
  | some as, some bs => Q (zipD as bs) (fun μ' => lstOf μ' x = some as ∧ lstOf μ' y = some bs) μ
  | _, _ => False

noncomputable def bindT (is : List Nat) (tt : Bool) (d : D) (ρ : Rho) (k : Rho → Prop) : Prop :=
  match tt with
  | false => match is with | [i] => k (ρ.set i (some d)) | _ => False
  | true => match d with | .tup ds => ds.length = is.length ∧ k ((is.zip ds).foldl (fun r p => r.set p.1 (some p.2)) ρ) | _ => False
noncomputable def bindC (n : Nat) (tt : Bool) (d : D) (r : Rho) (k : Rho → Prop) : Prop :=
  match tt with
  | false => k (some d :: r)
  | true => match d with | .tup ds => ds.length = n ∧ k (ds.map some ++ r) | _ => False

noncomputable def wComp (bnd : D → (Rho → Prop) → Prop) (cw : Rho → Mem → (Bool → Mem → Prop) → Prop) (ew : Rho → Mem → QD → Prop) (g : Mem → Prop) : List D → List D → Mem → (List D → Mem → Prop) → Prop
  | [], acc, μ, Q => g μ ∧ Q acc μ
  | d :: ds, acc, μ, Q => g μ ∧ bnd d fun ρ => cw ρ μ fun b μ1 => if b = true then ew ρ μ1 fun v μ2 => wComp bnd cw ew g ds (acc ++ [v]) μ2 Q else wComp bnd cw ew g ds acc μ1 Q

noncomputable def esLen : Es → Nat
  | .nil => 0
  | .cons _ es => esLen es + 1
/-! ### expressions -/
mutual
noncomputable def wE : E → Rho → Mem → QD → Prop
  | .var i, ρ, μ, Q => match ρ[i]? with | some (some d) => Q d μ | _ => False
  | .cst d, _, μ, Q => Q d μ
  | .gbl _ d, _, μ, Q => Q d μ
  | .bin op a b, ρ, μ, Q => wE a ρ μ fun x μ1 => wE b ρ μ1 fun y μ2 => wBin op x y μ2 Q
  | .neg a, ρ, μ, Q => wE a ρ μ fun x μ1 => match x with | .int i => Q (.int (-i)) μ1 | _ => False
  | .not a, ρ, μ, Q => wE a ρ μ fun x μ1 => wBl x μ1 fun b μ2 => Q (.bl (!b)) μ2
  | .cmp op a b, ρ, μ, Q => wE a ρ μ fun x μ1 => wE b ρ μ1 fun y μ2 => wCmp op x y μ2 Q
  | .cmpT n a b, ρ, μ, Q => wE a ρ μ fun x μ1 => wE b ρ μ1 fun y μ2 => wEqT n x y μ2 Q
  | .chain p q a b c, ρ, μ, Q => wE a ρ μ fun x μ1 => wE b ρ μ1 fun y μ2 => wCmp p x y μ2 fun r μ3 => wBl r μ3 fun t μ3 =>
      if t = true then wE c ρ μ3 fun z μ4 => wCmp q y z μ4 Q else Q (.bl false) μ3
  | .and a b, ρ, μ, Q => wE a ρ μ fun x μ1 => wBl x μ1 fun t μ2 => if t = true then wE b ρ μ2 Q else Q (.bl false) μ2
  | .or a b, ρ, μ, Q => wE a ρ μ fun x μ1 => wBl x μ1 fun t μ2 => if t = true then Q (.bl true) μ2 else wE b ρ μ2 Q
  | .ife c a b, ρ, μ, Q => wT c ρ μ fun t μ1 => if t = true then wE a ρ μ1 Q else wE b ρ μ1 Q
  | .call _ sp as, ρ, μ, Q => wEs as ρ μ fun ds μ1 => sp ds μ1 Q
  | .blt x as, ρ, μ, Q => wEs as ρ μ fun ds μ1 => wBlt x ds μ1 Q
  | .isin a t, ρ, μ, Q => wE a ρ μ fun d μ1 => wIsin t d μ1 Q
  | .meth m o as, ρ, μ, Q => wE o ρ μ fun x μ1 => isCell μ1 x = true ∧ wEs as ρ μ1 fun ds μ2 => wMeth m x ds μ2 Q
  | .rmv o as, ρ, μ, Q => wE o ρ μ fun x μ1 => isLs μ1 x = true ∧ wEs as ρ μ1 fun ds μ2 => wRmv x ds μ2 Q
  | .imin as, ρ, μ, Q => wEs as ρ μ fun ds μ1 => wImin ds μ1 Q
  | .dd3 k1 k2 k3 a b e, ρ, μ, Q => wE a ρ (μ ++ [.dic [] []]) fun x μ1 => wE b ρ μ1 fun y μ2 => wE e ρ μ2 fun z μ3 => μ3[μ.length]? = some (.dic [] []) ∧ Q (.loc μ.length) (μ3.set μ.length (.dic [.inr k1, .inr k2, .inr k3] [x, y, z]))
  | .idx a b, ρ, μ, Q => wE a ρ μ fun x μ1 => wE b ρ μ1 fun y μ2 => wIdx x y μ2 Q
  | .slc m a lo hi, ρ, μ, Q => wE a ρ μ fun x μ1 => wO lo ρ μ1 fun l μ2 => wO hi ρ μ2 fun h μ3 => wSlc m x l h μ3 Q
  | .tup as, ρ, μ, Q => wEs as ρ μ fun ds μ1 => ds.length ≤ lim ∧ Q (.tup ds) μ1
  | .lst m as, ρ, μ, Q => wEs as ρ μ fun ds μ1 => ds.length ≤ lim ∧ newL m ds μ1 Q
  | .comp m n tt cap elt it cond, ρ, μ, Q => wI it ρ μ fun ds g μ1 =>
      wComp (fun d k => bindC n tt d (cap.map fun i => (ρ[i]?).join) k) (fun ρ' μ' Q' => wTs cond ρ' μ' Q') (fun ρ' μ' Q' => wE elt ρ' μ' Q') g ds [] μ1 fun vs μ2 => newL m vs μ2 Q
  | .frz a, ρ, μ, Q => wE a ρ μ fun d μ1 => wFrz d μ1 Q
  | .dget o i, ρ, μ, Q => wE o ρ μ fun x μ1 => wE i ρ μ1 fun y μ2 => wDget x y μ2 Q
  | .cat m a b, ρ, μ, Q => wE a ρ μ fun x μ1 => wE b ρ μ1 fun y μ2 => wCat m x y μ2 Q
  | .fld c f o, ρ, μ, Q => wE o ρ μ fun x μ1 => wFld c f x μ1 Q
  | .mth c m sp o as, ρ, μ, Q => wE o ρ μ fun x μ1 => isIns μ1 c m x ∧ wEs as ρ μ1 fun ds μ2 => sp (x :: ds) μ2 Q
  | .mk c sp as, ρ, μ, Q => wEs as ρ μ fun ds μ1 => sp (.loc μ1.length :: ds) (μ1 ++ [.ins c []]) fun v μ2 => v = .non ∧ Q (.loc μ1.length) μ2
noncomputable def wEs : Es → Rho → Mem → (List D → Mem → Prop) → Prop
  | .nil, _, μ, Q => Q [] μ
  | .cons e es, ρ, μ, Q => wE e ρ μ fun d μ1 => wEs es ρ μ1 fun ds μ2 => Q (d :: ds) μ2
-- a part of a slice
noncomputable def wO : Es → Rho → Mem → (Option Int → Mem → Prop) → Prop
  | .nil, _, μ, Q => Q none μ
  | .cons e es, ρ, μ, Q => wE e ρ μ fun d μ1 => match es with | .nil => wInt d μ1 fun i μ2 => Q (some i) μ2 | _ => False
/-- as a test -/
noncomputable def wT : E → Rho → Mem → (Bool → Mem → Prop) → Prop
  | .not a, ρ, μ, Q => wT a ρ μ fun b μ1 => Q (!b) μ1
  | .and a b, ρ, μ, Q => wT a ρ μ fun t μ1 => if t = true then wT b ρ μ1 Q else Q false μ1
  | .or a b, ρ, μ, Q => wT a ρ μ fun t μ1 => if t = true then Q true μ1 else wT b ρ μ1 Q
  | .var i, ρ, μ, Q => match ρ[i]? with | some (some d) => wTru d μ Q | _ => False
  | .cst d, _, μ, Q => wTru d μ Q
  | .cmp op a b, ρ, μ, Q => wE a ρ μ fun x μ1 => wE b ρ μ1 fun y μ2 => wCmp op x y μ2 fun r μ3 => wBl r μ3 Q
  | .cmpT n a b, ρ, μ, Q => wE a ρ μ fun x μ1 => wE b ρ μ1 fun y μ2 => wEqT n x y μ2 fun r μ3 => wBl r μ3 Q
  | .chain p q a b c, ρ, μ, Q => wE a ρ μ fun x μ1 => wE b ρ μ1 fun y μ2 => wCmp p x y μ2 fun r μ3 => wBl r μ3 fun t μ3 =>
      if t = true then wE c ρ μ3 fun z μ4 => wCmp q y z μ4 fun r μ5 => wBl r μ5 Q else Q false μ3
  | .call _ sp as, ρ, μ, Q => wEs as ρ μ fun ds μ1 => sp ds μ1 fun d μ2 => wTru d μ2 Q
  | .mth c m sp o as, ρ, μ, Q => wE o ρ μ fun x μ1 => isIns μ1 c m x ∧ wEs as ρ μ1 fun ds μ2 => sp (x :: ds) μ2 fun d μ3 => wTru d μ3 Q
  | .fld c f o, ρ, μ, Q => wE o ρ μ fun x μ1 => wFld c f x μ1 fun d μ2 => wTru d μ2 Q
  | .blt x as, ρ, μ, Q => wEs as ρ μ fun ds μ1 => wBlt x ds μ1 fun d μ2 => wTru d μ2 Q
  | .isin a t, ρ, μ, Q => wE a ρ μ fun d μ1 => wIsin t d μ1 fun r μ2 => wBl r μ2 Q
  | _, _, _, _ => False
noncomputable def wTs : Es → Rho → Mem → (Bool → Mem → Prop) → Prop
  | .nil, _, μ, Q => Q true μ
  | .cons e es, ρ, μ, Q => wT e ρ μ fun b μ1 => match es with | .nil => Q b μ1 | _ => False
noncomputable def wI : It → Rho → Mem → QI → Prop
  | .seq e, ρ, μ, Q => wE e ρ μ fun d μ1 => wSeq d μ1 Q
  | .rng as, ρ, μ, Q => wEs as ρ μ fun ds μ1 => wRng (esLen as) ds μ1 Q
  | .zip a b, ρ, μ, Q => wE a ρ μ fun x μ1 => wE b ρ μ1 fun y μ2 => wZip x y μ2 Q
end

/-! ### statements -/
structure DEnds where
  nx : Rho → Mem → Prop
  rt : QD
  bk : Rho → Mem → Prop := fun _ _ => False
  ct : Rho → Mem → Prop := fun _ _ => False
  xc : Rho → QX := fun _ _ _ _ _ => False

noncomputable def wLoop (bnd : D → Rho → (Rho → Prop) → Prop) (bw : DEnds → Rho → Mem → Prop) (g : Mem → Prop) (Z : DEnds) : List D → Rho → Mem → Prop
  | [], ρ, μ => g μ ∧ Z.nx ρ μ
  | d :: ds, ρ, μ => g μ ∧ bnd d ρ fun ρ' => bw { Z with nx := wLoop bnd bw g Z ds, ct := wLoop bnd bw g Z ds, bk := Z.nx } ρ' μ

noncomputable def wSetIx (o i v : D) (μ : Mem) (k : Mem → Prop) : Prop :=
  match o, i with
  | .loc n, .int j => match μ[n]? with
    | some (.lst xs) => match ixD xs.length j with | some p => k (μ.set n (.lst (xs.set p v))) | none => False
    | _ => False
  | _, _ => False

mutual
noncomputable def wS : S → DEnds → Rho → Mem → Prop
  | .set i e, Z, ρ, μ => wE e ρ μ fun d μ1 => Z.nx (ρ.set i (some d)) μ1
  | .setT is e, Z, ρ, μ => wE e ρ μ fun d μ1 => bindT is true d ρ fun ρ' => Z.nx ρ' μ1
  | .dput o i e, Z, ρ, μ => wE e ρ μ fun v μ1 => wE o ρ μ1 fun x μ2 => wE i ρ μ2 fun y μ3 => wDput x y v μ3 fun μ4 => Z.nx ρ μ4
  | .setIx o i e, Z, ρ, μ => wE e ρ μ fun v μ1 => wE o ρ μ1 fun x μ2 => wE i ρ μ2 fun y μ3 => wSetIx x y v μ3 fun μ4 => Z.nx ρ μ4
  | .exp e, Z, ρ, μ => wE e ρ μ fun _ μ1 => Z.nx ρ μ1
  | .ret e, Z, ρ, μ => wE e ρ μ Z.rt
  | .ite c a b, Z, ρ, μ => wT c ρ μ fun t μ1 => if t = true then wSs a Z ρ μ1 else wSs b Z ρ μ1
  | .for_ tg tt it b, Z, ρ, μ => wI it ρ μ fun ds g μ1 => wLoop (fun d r k => bindT tg tt d r k) (fun Z' r m => wSs b Z' r m) g Z ds ρ μ1
  | .whl c b, Z, ρ, μ => ∃ W : Nat → Rho → Mem → Prop, (∃ m, W m ρ μ) ∧ ∀ m ρ μ, W m ρ μ → wT c ρ μ fun t μ1 =>
      if t = true then wSs b { Z with nx := fun ρ' μ' => ∃ m', m' < m ∧ W m' ρ' μ', ct := fun ρ' μ' => ∃ m', m' < m ∧ W m' ρ' μ', bk := Z.nx } ρ μ1 else Z.nx ρ μ1
  | .setF c f o e, Z, ρ, μ => wE e ρ μ fun v μ1 => wE o ρ μ1 fun x μ2 => wSetF c f x v μ2 fun μ3 => Z.nx ρ μ3
  | .nev, _, _, _ => False
noncomputable def wSs : Ss → DEnds → Rho → Mem → Prop
  | .nil, Z, ρ, μ => Z.nx ρ μ
  | .cons s r, Z, ρ, μ => wS s { Z with nx := fun ρ' μ' => wSs r Z ρ' μ' } ρ μ
end
end DW
end

section
set_option linter.all false
set_option autoImplicit false
/-! DW1b: how a body starts, loops by an invariant. -/
namespace DW
open PySem
noncomputable def startD (N : List Str) (ds : List D) : Rho := ds.map some ++ List.replicate (N.length - ds.length) none
noncomputable def topZ (Q : QD) : DEnds := ⟨fun _ μ => Q .non μ, Q, fun _ _ => False, fun _ _ => False, fun _ _ _ _ _ => False⟩
noncomputable def Keeps (N : List Str) (i : Ss) (sp : DSp) : Prop := ∀ ds μ Q, sp ds μ Q → wSs i (topZ Q) (startD N ds) μ
/-- law's: a list of at most 63 ints is handed in, True comes out -/
noncomputable def spLaw : DSp := fun ds μ Q => ∃ ns : List Int, ds = [.ro (ns.map D.int)] ∧ ns.length ≤ 63 ∧ ∀ μ', Q (.bl true) μ'
theorem wLoop_inv {bnd : D → Rho → (Rho → Prop) → Prop} {bw : DEnds → Rho → Mem → Prop} {g : Mem → Prop} {Z : DEnds} (Inv : List D → Rho → Mem → Prop)
    (hs : ∀ d ds ρ μ N, (∀ ρ μ, Inv ds ρ μ → N ρ μ) → Inv (d :: ds) ρ μ → g μ ∧ bnd d ρ fun ρ' => bw { Z with nx := N, ct := N, bk := Z.nx } ρ' μ)
    (he : ∀ ρ μ, Inv [] ρ μ → g μ ∧ Z.nx ρ μ) : ∀ (ds : List D) (ρ : Rho) (μ : Mem), Inv ds ρ μ → wLoop bnd bw g Z ds ρ μ
  | [], ρ, μ, h => he ρ μ h
  | d :: ds, ρ, μ, h => hs d ds ρ μ _ (fun ρ μ q => wLoop_inv Inv hs he ds ρ μ q) h
theorem wComp_inv {bnd : D → (Rho → Prop) → Prop} {cw : Rho → Mem → (Bool → Mem → Prop) → Prop} {ew : Rho → Mem → QD → Prop} {g : Mem → Prop} {Q : List D → Mem → Prop} (Inv : List D → List D → Mem → Prop)
    (hs : ∀ d ds acc μ (Y : D → Mem → Prop) (N : Mem → Prop), (∀ v μ, Inv ds (acc ++ [v]) μ → Y v μ) → (∀ μ, Inv ds acc μ → N μ) → Inv (d :: ds) acc μ → g μ ∧ bnd d fun ρ => cw ρ μ fun b μ1 => if b = true then ew ρ μ1 (fun v μ2 => Y v μ2) else N μ1)
    (he : ∀ acc μ, Inv [] acc μ → g μ ∧ Q acc μ) : ∀ (ds acc : List D) (μ : Mem), Inv ds acc μ → wComp bnd cw ew g ds acc μ Q
  | [], acc, μ, h => he acc μ h
  | d :: ds, acc, μ, h => hs d ds acc μ (fun v μ2 => wComp bnd cw ew g ds (acc ++ [v]) μ2 Q) (fun μ1 => wComp bnd cw ew g ds acc μ1 Q) (fun v μ q => wComp_inv Inv hs he ds (acc ++ [v]) μ q) (fun μ q => wComp_inv Inv hs he ds acc μ q) h
theorem wComp_mapL {α : Type} {bnd : D → (Rho → Prop) → Prop} {cw : Rho → Mem → (Bool → Mem → Prop) → Prop} {ew : Rho → Mem → QD → Prop} {g : Mem → Prop} {Q : List D → Mem → Prop} {μ : Mem} (c : α → D) (p : α → Bool) (f : α → D) (hg : g μ) :
    ∀ (l : List α) (acc : List D), (∀ x ∈ l, ∀ (Y : D → Mem → Prop) (N : Mem → Prop), (if p x = true then Y (f x) μ else N μ) → bnd (c x) fun ρ => cw ρ μ fun b μ1 => if b = true then ew ρ μ1 (fun v μ2 => Y v μ2) else N μ1) →
      Q (acc ++ (l.filter p).map f) μ → wComp bnd cw ew g (l.map c) acc μ Q
  | [], acc, _, h => ⟨hg, by simpa using h⟩
  | d :: ds, acc, hs, h => by
    refine ⟨hg, hs d (by simp) (fun v μ2 => wComp bnd cw ew g (ds.map c) (acc ++ [v]) μ2 Q) (fun μ1 => wComp bnd cw ew g (ds.map c) acc μ1 Q) ?_⟩
    by_cases q : p d = true
    · rw [if_pos q]
      refine wComp_mapL c p f hg ds _ (fun e he => hs e (by simp [he])) ?_
      rw [List.filter_cons_of_pos q] at h
      simpa using h
    · rw [if_neg q]
      refine wComp_mapL c p f hg ds _ (fun e he => hs e (by simp [he])) ?_
      rw [List.filter_cons_of_neg q] at h
      exact h
theorem wComp_mapT {α : Type} {bnd : D → (Rho → Prop) → Prop} {cw : Rho → Mem → (Bool → Mem → Prop) → Prop} {ew : Rho → Mem → QD → Prop} {g : Mem → Prop} {Q : List D → Mem → Prop} {μ : Mem} (c : α → D) (f : α → D) (hg : g μ)
    (l : List α) (acc : List D) (hs : ∀ x ∈ l, ∀ (Y : D → Mem → Prop) (N : Mem → Prop), Y (f x) μ → bnd (c x) fun ρ => cw ρ μ fun b μ1 => if b = true then ew ρ μ1 (fun v μ2 => Y v μ2) else N μ1)
    (h : Q (acc ++ l.map f) μ) : wComp bnd cw ew g (l.map c) acc μ Q :=
  wComp_mapL c (fun _ => true) f hg l acc (fun x hx Y N q => hs x hx Y N (by simpa using q)) (by rw [List.filter_eq_self.mpr (by simp)]; exact h)
theorem rangeL_eq (n : Nat) : rangeL 0 n = (List.range n).map fun (k : Nat) => D.int (k : Int) := by simp [rangeL]
theorem rangeL_mem {lo : Int} {n : Nat} {d : D} (h : d ∈ rangeL lo n) : ∃ i : Int, d = .int i ∧ lo ≤ i ∧ i < lo + n := by
  simp only [rangeL, List.mem_map, List.mem_range] at h
  obtain ⟨j, hj, rfl⟩ := h
  exact ⟨_, rfl, by omega, by omega⟩
end DW
end

section
set_option linter.all false
set_option autoImplicit false
/-! DW2: how deep values lie in the abstract heap. -/
namespace DW
open PySem PySem.Spec PyProof.Rows L2

noncomputable def keyOf : DKey → Key
  | .inl i => .inl i
  | .inr x => .inr ⟨x.toArray⟩

/-- a list of the module -/
noncomputable def KL (K : PySem.W.Frag) (a : Addr) (xs : List V) : Prop :=
  ∃ (o : Obj) (its : Array Value) (n : Nat), K.lookup a = some o ∧ o.cls = .type "list" ∧ o.dict = none ∧ o.data = .seq its n ∧ its.size ≤ sizeLine ∧ Vals xs its.toList

section
variable (K : PySem.W.Frag) (H : Hp) (θ : List Addr) (L : Addr → Prop)
mutual
noncomputable def Rep : D → V → Prop
  | .non, v => v = .non
  | .bl b, v => v = .bl b
  | .int i, v => v = .int i
  | .str x, v => v = .str ⟨x.toArray⟩ ∧ x.length ≤ sizeLine
  | .tup ds, v => ∃ a xs, v = .ref a ∧ H a = some (.tup xs) ∧ ¬ L a ∧ Reps ds xs
  | .lst ds, v => ∃ a xs, v = .ref a ∧ H a = some (.lst xs) ∧ ¬ L a ∧ Reps ds xs
  | .ro ds, v => ∃ a xs, v = .ref a ∧ ((∃ o, H a = some (.frz o (.lst xs)) ∧ ¬ L a) ∨ KL K a xs) ∧ Reps ds xs
  | .loc n, v => ∃ a, v = .ref a ∧ θ[n]? = some a
  | .dic ks ds, v => ∃ a kvs, v = .ref a ∧ H a = some (.dK kvs) ∧ ¬ L a ∧ kvs.map (·.1) = ks.map keyOf ∧ Reps ds (kvs.map (·.2))
noncomputable def Reps : List D → List V → Prop
  | [], vs => vs = []
  | d :: ds, vs => ∃ v r, vs = v :: r ∧ Rep d v ∧ Reps ds r
end
end

section
variable {K : PySem.W.Frag} {H H' : Hp} {θ θ' : List Addr} {L L' : Addr → Prop}
mutual
theorem Rep.mono (hp : ∀ (n : Nat) (a : Addr), θ[n]? = some a → θ'[n]? = some a) (hk : ∀ a o, H a = some o → ¬ L a → H' a = some o ∧ ¬ L' a) :
    ∀ (d : D) (v : V), Rep K H θ L d v → Rep K H' θ' L' d v
  | .non, v, h => by unfold Rep at *; exact h
  | .bl b, v, h => by unfold Rep at *; exact h
  | .int i, v, h => by unfold Rep at *; exact h
  | .str x, v, h => by unfold Rep at *; exact h
  | .tup ds, v, h => by
    unfold Rep at *
    obtain ⟨a, xs, e, h1, h2, h3⟩ := h
    exact ⟨a, xs, e, (hk a _ h1 h2).1, (hk a _ h1 h2).2, Reps.mono hp hk ds xs h3⟩
  | .lst ds, v, h => by
    unfold Rep at *
    obtain ⟨a, xs, e, h1, h2, h3⟩ := h
    exact ⟨a, xs, e, (hk a _ h1 h2).1, (hk a _ h1 h2).2, Reps.mono hp hk ds xs h3⟩
  | .ro ds, v, h => by
    unfold Rep at *
    obtain ⟨a, xs, e, h1, h3⟩ := h
    refine ⟨a, xs, e, ?_, Reps.mono hp hk ds xs h3⟩
    rcases h1 with ⟨o, h1, h2⟩ | h1
    · exact .inl ⟨o, (hk a _ h1 h2).1, (hk a _ h1 h2).2⟩
    · exact .inr h1
  | .loc n, v, h => by
    unfold Rep at *
    obtain ⟨a, e, h1⟩ := h
    exact ⟨a, e, hp n a h1⟩
  | .dic ks ds, v, h => by
    unfold Rep at *
    obtain ⟨a, kvs, e, h1, h2, h3, h4⟩ := h
    exact ⟨a, kvs, e, (hk a _ h1 h2).1, (hk a _ h1 h2).2, h3, Reps.mono hp hk ds _ h4⟩
theorem Reps.mono (hp : ∀ (n : Nat) (a : Addr), θ[n]? = some a → θ'[n]? = some a) (hk : ∀ a o, H a = some o → ¬ L a → H' a = some o ∧ ¬ L' a) :
    ∀ (ds : List D) (vs : List V), Reps K H θ L ds vs → Reps K H' θ' L' ds vs
  | [], vs, h => by unfold Reps at *; exact h
  | d :: ds, vs, h => by
    unfold Reps at *
    obtain ⟨v, r, e, h1, h2⟩ := h
    exact ⟨v, r, e, Rep.mono hp hk d v h1, Reps.mono hp hk ds r h2⟩
end

/-! ### rows of values -/
theorem Reps.nil : Reps K H θ L [] [] := by unfold Reps; rfl
theorem Reps.cons {d : D} {ds : List D} {v : V} {vs : List V} (h : Rep K H θ L d v) (r : Reps K H θ L ds vs) : Reps K H θ L (d :: ds) (v :: vs) := by
  unfold Reps; exact ⟨v, vs, rfl, h, r⟩
theorem Reps.nil_inv {vs : List V} (h : Reps K H θ L [] vs) : vs = [] := by unfold Reps at h; exact h
theorem Reps.cons_inv {d : D} {ds : List D} {vs : List V} (h : Reps K H θ L (d :: ds) vs) : ∃ v r, vs = v :: r ∧ Rep K H θ L d v ∧ Reps K H θ L ds r := by
  unfold Reps at h; exact h
theorem Reps.length : ∀ {ds : List D} {vs : List V}, Reps K H θ L ds vs → ds.length = vs.length
  | [], vs, h => by rw [h.nil_inv]; rfl
  | d :: ds, vs, h => by
    obtain ⟨v, r, rfl, _, h2⟩ := h.cons_inv
    simp [h2.length]
theorem Reps.get : ∀ {ds : List D} {vs : List V} {i : Nat} {d : D}, Reps K H θ L ds vs → ds[i]? = some d → ∃ v, vs[i]? = some v ∧ Rep K H θ L d v
  | [], _, _, _, _, e => by simp at e
  | d :: ds, vs, i, d', h, e => by
    obtain ⟨v, r, rfl, h1, h2⟩ := h.cons_inv
    cases i with
    | zero => simp at e; subst e; exact ⟨v, rfl, h1⟩
    | succ i =>
      obtain ⟨w, e1, e2⟩ := Reps.get (i := i) h2 (by simpa using e)
      exact ⟨w, by simpa using e1, e2⟩
theorem Reps.append : ∀ {ds es : List D} {vs ws : List V}, Reps K H θ L ds vs → Reps K H θ L es ws → Reps K H θ L (ds ++ es) (vs ++ ws)
  | [], _, _, _, h, k => by rw [h.nil_inv]; exact k
  | d :: ds, _, _, _, h, k => by
    obtain ⟨v, r, rfl, h1, h2⟩ := h.cons_inv
    exact Reps.cons h1 (h2.append k)
theorem Reps.take : ∀ {ds : List D} {vs : List V} (n : Nat), Reps K H θ L ds vs → Reps K H θ L (ds.take n) (vs.take n)
  | _, _, 0, _ => by simpa using Reps.nil
  | [], _, n + 1, h => by rw [h.nil_inv]; simpa using Reps.nil
  | d :: ds, _, n + 1, h => by
    obtain ⟨v, r, rfl, h1, h2⟩ := h.cons_inv
    exact Reps.cons h1 (h2.take n)
theorem Reps.drop : ∀ {ds : List D} {vs : List V} (n : Nat), Reps K H θ L ds vs → Reps K H θ L (ds.drop n) (vs.drop n)
  | _, _, 0, h => h
  | [], _, n + 1, h => by rw [h.nil_inv]; simpa using Reps.nil
  | d :: ds, _, n + 1, h => by
    obtain ⟨v, r, rfl, h1, h2⟩ := h.cons_inv
    exact h2.drop n
theorem Reps.set {d' : D} {v' : V} (hd : Rep K H θ L d' v') : ∀ {ds : List D} {vs : List V} (n : Nat), Reps K H θ L ds vs → Reps K H θ L (ds.set n d') (vs.set n v')
  | [], _, n, h => by rw [h.nil_inv]; simpa using Reps.nil
  | d :: ds, _, 0, h => by
    obtain ⟨v, r, rfl, h1, h2⟩ := h.cons_inv
    exact Reps.cons hd h2
  | d :: ds, _, n + 1, h => by
    obtain ⟨v, r, rfl, h1, h2⟩ := h.cons_inv
    exact Reps.cons h1 (h2.set hd n)
theorem Reps.one {d : D} {v : V} (h : Rep K H θ L d v) : Reps K H θ L [d] [v] := Reps.cons h Reps.nil
end

/-! ### the store -/
noncomputable def Live (θ : List Addr) (μ : Mem) (a : Addr) : Prop := ∃ (n : Nat) (c : Cell), θ[n]? = some a ∧ μ[n]? = some c ∧ c ≠ .gone
noncomputable abbrev Rp (K : PySem.W.Frag) (H : Hp) (θ : List Addr) (μ : Mem) : D → V → Prop := Rep K H θ (Live θ μ)
noncomputable abbrev Rps (K : PySem.W.Frag) (H : Hp) (θ : List Addr) (μ : Mem) : List D → List V → Prop := Reps K H θ (Live θ μ)

/-- an object of this class lies there -/
noncomputable def ExcAt (x C : Addr) (h : Heap) : Prop := ∃ o, h.get? x = some o ∧ o.cls = .ref C
noncomputable def CellOk (K : PySem.W.Frag) (H : Hp) (θ : List Addr) (μ : Mem) (a : Addr) : Cell → Prop
  | .lst ds => ∃ xs, H a = some (.lst xs) ∧ Rps K H θ μ ds xs
  | .ins c fs => ∃ C dx fs', PySem.W.nsIn K mainGlobals (Str.ofString c) = some (some (.ref C)) ∧ H a = some (.ins C dx fs') ∧ fs'.map (·.1) = fs.map (fun p => Str.ofString p.1) ∧ Rps K H θ μ (fs.map (·.2)) (fs'.map (·.2))
  | .dic ks ds => ∃ kvs, H a = some (.dK kvs) ∧ kvs.map (·.1) = ks.map keyOf ∧ Rps K H θ μ ds (kvs.map (·.2))
  | .dtc ks ds => ∃ kvs, H a = some (.dT kvs) ∧ kvs.map (·.1) = ks.map (·.map keyOf) ∧ Rps K H θ μ ds (kvs.map (·.2))
  | .exc c ks _ => ks = [] ∧ ∃ C, PySem.W.nsIn K mainGlobals (Str.ofString c) = some (some (.ref C)) ∧ H a = some (.ext (ExcAt a C))
  | .gone => True

structure WOk (K : PySem.W.Frag) (H : Hp) (θ : List Addr) (μ : Mem) : Prop where
  len : θ.length = μ.length
  inj : ∀ (m n : Nat) (a : Addr), θ[m]? = some a → θ[n]? = some a → m = n
  bnd : ∀ (n : Nat) (a : Addr), θ[n]? = some a → H a ≠ none
  cell : ∀ (n : Nat) (c : Cell) (a : Addr), μ[n]? = some c → θ[n]? = some a → CellOk K H θ μ a c

structure Grow (H : Hp) (θ : List Addr) (μ : Mem) (H' : Hp) (θ' : List Addr) (μ' : Mem) : Prop where
  pre : ∀ (n : Nat) (a : Addr), θ[n]? = some a → θ'[n]? = some a
  keep : ∀ a o, H a = some o → ¬ Live θ μ a → H' a = some o ∧ ¬ Live θ' μ' a

section
variable {K : PySem.W.Frag} {H H' H'' : Hp} {θ θ' θ'' : List Addr} {μ μ' μ'' : Mem} {p a : Addr} {n : Nat} {ds : List D} {xs : List V} {d : D} {v : V}
theorem Grow.refl : Grow H θ μ H θ μ := ⟨fun _ _ h => h, fun _ _ h k => ⟨h, k⟩⟩
theorem Grow.trans (g : Grow H θ μ H' θ' μ') (g' : Grow H' θ' μ' H'' θ'' μ'') : Grow H θ μ H'' θ'' μ'' :=
  ⟨fun n a h => g'.pre n a (g.pre n a h), fun a o h k => let ⟨x, y⟩ := g.keep a o h k; g'.keep a o x y⟩
theorem Grow.rep (g : Grow H θ μ H' θ' μ') (h : Rp K H θ μ d v) : Rp K H' θ' μ' d v := Rep.mono g.pre g.keep d v h
theorem Grow.reps (g : Grow H θ μ H' θ' μ') (h : Rps K H θ μ ds xs) : Rps K H' θ' μ' ds xs := Reps.mono g.pre g.keep ds xs h

theorem WOk.notIn (w : WOk K H θ μ) (hp : H p = none) (n : Nat) : θ[n]? ≠ some p := fun e => w.bnd n p e hp
theorem WOk.notLive (w : WOk K H θ μ) (hp : H p = none) : ¬ Live θ μ p := fun ⟨n, _, e, _⟩ => w.notIn hp n e
theorem Grow.ext (e : ∀ a o, H a = some o → H' a = some o) : Grow H θ μ H' θ μ := ⟨fun _ _ h => h, fun a o h k => ⟨e a o h, k⟩⟩
theorem CellOk.mono {c : Cell} (g : ∀ ds xs, Rps K H θ μ ds xs → Rps K H' θ' μ' ds xs) (e : ∀ o, H a = some o → H' a = some o) (h : CellOk K H θ μ a c) : CellOk K H' θ' μ' a c := by
  cases c with
  | lst ds => obtain ⟨xs, h1, h2⟩ := h; exact ⟨xs, e _ h1, g _ _ h2⟩
  | ins c fs => obtain ⟨C, dx, fs', h0, h1, h2, h3⟩ := h; exact ⟨C, dx, fs', h0, e _ h1, h2, g _ _ h3⟩
  | dic ks ds => obtain ⟨kvs, h1, h2, h3⟩ := h; exact ⟨kvs, e _ h1, h2, g _ _ h3⟩
  | dtc ks ds => obtain ⟨kvs, h1, h2, h3⟩ := h; exact ⟨kvs, e _ h1, h2, g _ _ h3⟩
  | exc c ks ds => obtain ⟨h0, C, h1, h2⟩ := h; exact ⟨h0, C, h1, e _ h2⟩
  | gone => trivial
theorem WOk.ext (w : WOk K H θ μ) (e : ∀ a o, H a = some o → H' a = some o) : WOk K H' θ μ where
  len := w.len
  inj := w.inj
  bnd := fun n a h k => by
    cases q : H a with
    | none => exact w.bnd n a h q
    | some o => rw [e a o q] at k; cases k
  cell := fun n c a h k => (w.cell n c a h k).mono (fun ds xs r => (Grow.ext e).reps r) (e a)
theorem ext_upd {o : HO} (hp : H p = none) : ∀ a u, H a = some u → (upd H p o) a = some u := fun a u h => by
  rw [upd_ne (ne_of_none h hp)]; exact h

theorem get_snoc_lt {α : Type} {l : List α} {x y : α} {n : Nat} (h : l[n]? = some y) : (l ++ [x])[n]? = some y := by
  have hl : n < l.length := (List.getElem?_eq_some_iff.mp h).1
  rw [List.getElem?_append_left hl]; exact h
theorem get_snoc {α : Type} {l : List α} {x y : α} {n : Nat} (h : (l ++ [x])[n]? = some y) : l[n]? = some y ∨ (n = l.length ∧ x = y) := by
  by_cases hn : n < l.length
  · rw [List.getElem?_append_left hn] at h; exact .inl h
  · rw [List.getElem?_append_right (by omega)] at h
    have : n - l.length = 0 := by
      cases e : n - l.length with
      | zero => rfl
      | succ k => rw [e] at h; simp at h
    rw [this] at h
    simp at h
    exact .inr ⟨by omega, h⟩

/-- a new cell -/
theorem Grow.new {c : Cell} {o : HO} (w : WOk K H θ μ) (hp : H p = none) : Grow H θ μ (upd H p o) (θ ++ [p]) (μ ++ [c]) where
  pre := fun n a h => get_snoc_lt h
  keep := fun a u h k => by
    refine ⟨ext_upd hp a u h, ?_⟩
    rintro ⟨n, c', e1, e2, e3⟩
    rcases get_snoc e1 with e1 | ⟨e1, rfl⟩
    · rcases get_snoc e2 with e2 | ⟨e2, _⟩
      · exact k ⟨n, c', e1, e2, e3⟩
      · have := (List.getElem?_eq_some_iff.mp e1).1
        have := w.len
        omega
    · rw [hp] at h; cases h
theorem WOk.new {c : Cell} {o : HO} (w : WOk K H θ μ) (hp : H p = none) (hc : CellOk K (upd H p o) (θ ++ [p]) (μ ++ [c]) p c) : WOk K (upd H p o) (θ ++ [p]) (μ ++ [c]) where
  len := by simp [w.len]
  inj := fun m n a h k => by
    rcases get_snoc h with h1 | ⟨h1, rfl⟩
    · rcases get_snoc k with k1 | ⟨k1, rfl⟩
      · exact w.inj m n a h1 k1
      · exact absurd h1 (w.notIn hp m)
    · rcases get_snoc k with k1 | ⟨k1, _⟩
      · exact absurd k1 (w.notIn hp n)
      · rw [h1, k1]
  bnd := fun n a h => by
    rcases get_snoc h with h | ⟨h, rfl⟩
    · intro k
      cases q : H a with
      | none => exact w.bnd n a h q
      | some u => rw [ext_upd hp a u q] at k; cases k
    · rw [upd_same]; simp
  cell := fun n c' a h k => by
    rcases get_snoc k with k | ⟨k, rfl⟩
    · rcases get_snoc h with h | ⟨h, rfl⟩
      · exact (w.cell n c' a h k).mono (fun ds xs r => (Grow.new w hp).reps r) (ext_upd hp a)
      · have := (List.getElem?_eq_some_iff.mp k).1
        have := w.len
        omega
    · rcases get_snoc h with h | ⟨h, rfl⟩
      · have := (List.getElem?_eq_some_iff.mp h).1
        have := w.len
        omega
      · exact hc

theorem live_set {c c' : Cell} (hn : μ[n]? = some c) (h1 : c ≠ .gone) (h2 : c' ≠ .gone) : Live θ (μ.set n c') a ↔ Live θ μ a := by
  constructor
  · rintro ⟨m, e, k1, k2, k3⟩
    by_cases q : m = n
    · subst q; exact ⟨m, c, k1, hn, h1⟩
    · rw [List.getElem?_set_ne (Ne.symm q)] at k2; exact ⟨m, e, k1, k2, k3⟩
  · rintro ⟨m, e, k1, k2, k3⟩
    by_cases q : m = n
    · subst q
      refine ⟨m, c', k1, ?_, h2⟩
      rw [List.getElem?_set_self (List.getElem?_eq_some_iff.mp hn).1]
    · exact ⟨m, e, k1, by rw [List.getElem?_set_ne (Ne.symm q)]; exact k2, k3⟩
/-- a cell is written -/
theorem Grow.write {c c' : Cell} {o : HO} (hn : μ[n]? = some c) (ha : θ[n]? = some a) (h1 : c ≠ .gone) (h2 : c' ≠ .gone) : Grow H θ μ (upd H a o) θ (μ.set n c') where
  pre := fun _ _ h => h
  keep := fun b u h k => by
    have : b ≠ a := by rintro rfl; exact k ⟨n, c, ha, hn, h1⟩
    exact ⟨by rw [upd_ne this]; exact h, fun z => k ((live_set hn h1 h2).mp z)⟩
theorem WOk.write {c c' : Cell} {o : HO} (w : WOk K H θ μ) (hn : μ[n]? = some c) (ha : θ[n]? = some a) (h1 : c ≠ .gone) (h2 : c' ≠ .gone) (hc : CellOk K (upd H a o) θ (μ.set n c') a c') : WOk K (upd H a o) θ (μ.set n c') where
  len := by simp [w.len]
  inj := w.inj
  bnd := fun m b h k => by
    unfold upd at k
    split at k
    · cases k
    · exact w.bnd m b h k
  cell := fun m c1 b h k => by
    by_cases q : m = n
    · subst q
      rw [List.getElem?_set_self (List.getElem?_eq_some_iff.mp hn).1] at h
      cases h
      rw [ha] at k; cases k
      exact hc
    · rw [List.getElem?_set_ne (Ne.symm q)] at h
      have hb : b ≠ a := fun z => q (w.inj m n b k (by rw [z]; exact ha))
      exact (w.cell m c1 b h k).mono (fun ds xs r => (Grow.write hn ha h1 h2).reps r) fun u e => by rw [upd_ne hb]; exact e
/-- a cell becomes a list that stays -/
theorem Grow.frz : Grow H θ μ H θ (μ.set n .gone) where
  pre := fun _ _ h => h
  keep := fun b u h k => ⟨h, fun ⟨m, c, k1, k2, k3⟩ => by
    by_cases q : m = n
    · subst q
      by_cases hl : m < μ.length
      · rw [List.getElem?_set_self hl] at k2; cases k2; exact k3 rfl
      · rw [List.set_eq_of_length_le (by omega)] at k2; exact k ⟨m, c, k1, k2, k3⟩
    · rw [List.getElem?_set_ne (Ne.symm q)] at k2; exact k ⟨m, c, k1, k2, k3⟩⟩
theorem WOk.frz (w : WOk K H θ μ) : WOk K H θ (μ.set n .gone) where
  len := by simp [w.len]
  inj := w.inj
  bnd := w.bnd
  cell := fun m c1 b h k => by
    by_cases q : m = n
    · subst q
      by_cases hl : m < μ.length
      · rw [List.getElem?_set_self hl] at h; cases h; trivial
      · rw [List.set_eq_of_length_le (by omega)] at h ⊢; exact w.cell m c1 b h k
    · rw [List.getElem?_set_ne (Ne.symm q)] at h
      exact (w.cell m c1 b h k).mono (fun ds xs r => Grow.frz.reps r) fun _ e => e
theorem gone_notLive (w : WOk K H θ μ) (ha : θ[n]? = some a) : ¬ Live θ (μ.set n .gone) a := by
  rintro ⟨m, c, k1, k2, k3⟩
  have := w.inj m n a k1 ha
  subst this
  by_cases hl : m < μ.length
  · rw [List.getElem?_set_self hl] at k2; cases k2; exact k3 rfl
  · rw [List.getElem?_eq_none (by simp; omega)] at k2; cases k2
/-- a cell of a list is there -/
theorem WOk.list (w : WOk K H θ μ) (hn : μ[n]? = some (.lst ds)) (ha : θ[n]? = some a) : ∃ xs, H a = some (.lst xs) ∧ Rps K H θ μ ds xs := w.cell n _ a hn ha
end

/-! ### frames and readings -/
structure Sim (K : PySem.W.Frag) (σ : L2.St) (H : Hp) (ρ : Rho) (θ : List Addr) (μ : Mem) : Prop where
  wok : WOk K H θ μ
  len : ρ.length = σ.length
  val : ∀ (i : Nat) (d : D), ρ[i]? = some (some d) → ∃ v, σ[i]? = some (some v) ∧ Rp K H θ μ d v

/-- what is wanted behind: a value and the heap, from a deep value and the store -/
noncomputable def Fin (K : PySem.W.Frag) (H : Hp) (θ : List Addr) (μ : Mem) (Qd : QD) (Q : VK) : Prop :=
  ∀ (d : D) (v : V) (H' : Hp) (θ' : List Addr) (μ' : Mem), WOk K H' θ' μ' → Grow H θ μ H' θ' μ' → Rp K H' θ' μ' d v → Qd d μ' → Q v H'

noncomputable abbrev WE := Rho → Mem → QD → Prop
noncomputable def LE (K : PySem.W.Frag) (w : WE) : TE := fun σ H Q => ∃ ρ θ μ Qd, Sim K σ H ρ θ μ ∧ w ρ μ Qd ∧ Fin K H θ μ Qd Q
noncomputable abbrev WT := Rho → Mem → (Bool → Mem → Prop) → Prop
noncomputable def LT (K : PySem.W.Frag) (w : WT) : TT := fun σ H Q => ∃ ρ θ μ Qd, Sim K σ H ρ θ μ ∧ w ρ μ Qd ∧
  ∀ (b : Bool) (H' : Hp) (θ' : List Addr) (μ' : Mem), WOk K H' θ' μ' → Grow H θ μ H' θ' μ' → Qd b μ' → Q b H'
noncomputable abbrev WA := Rho → Mem → (List D → Mem → Prop) → Prop
noncomputable def LA (K : PySem.W.Frag) (w : WA) : TA := fun σ H Q => ∃ ρ θ μ Qd, Sim K σ H ρ θ μ ∧ w ρ μ Qd ∧
  ∀ (ds : List D) (vs : List V) (H' : Hp) (θ' : List Addr) (μ' : Mem), WOk K H' θ' μ' → Grow H θ μ H' θ' μ' → Rps K H' θ' μ' ds vs → Qd ds μ' → Q vs H'
noncomputable abbrev WS := DEnds → Rho → Mem → Prop
/-- an error of this class meets what is wanted of errors -/
noncomputable def XLand (K : PySem.W.Frag) (E : XK) (H : Hp) (c : String) (ks : List String) : Prop := ks = [] → ∃ C, PySem.W.nsIn K mainGlobals (Str.ofString c) = some (some (.ref C)) ∧ E (.ref C) none H
structure FinS (K : PySem.W.Frag) (EX : L2.St → XK) (H : Hp) (θ : List Addr) (μ : Mem) (Z : DEnds) (D : Ends) : Prop where
  nx : ∀ σ' H' ρ' θ' μ', Sim K σ' H' ρ' θ' μ' → Grow H θ μ H' θ' μ' → Z.nx ρ' μ' → D.nx σ' H'
  rt : Fin K H θ μ Z.rt D.rt
  bk : ∀ σ' H' ρ' θ' μ', Sim K σ' H' ρ' θ' μ' → Grow H θ μ H' θ' μ' → Z.bk ρ' μ' → D.bk σ' H'
  ct : ∀ σ' H' ρ' θ' μ', Sim K σ' H' ρ' θ' μ' → Grow H θ μ H' θ' μ' → Z.ct ρ' μ' → D.ct σ' H'
  xc : ∀ σ' H' ρ' θ' μ' c ks ds, Sim K σ' H' ρ' θ' μ' → Grow H θ μ H' θ' μ' → Z.xc ρ' c ks ds μ' → XLand K (EX σ') H' c ks
noncomputable def LS (K : PySem.W.Frag) (EX : L2.St → XK) (w : WS) : TS := fun D σ H => ∃ ρ θ μ Z, Sim K σ H ρ θ μ ∧ w Z ρ μ ∧ FinS K EX H θ μ Z D

section
variable {K : PySem.W.Frag} {H H' H'' : Hp} {θ θ' θ'' : List Addr} {μ μ' μ'' : Mem} {σ : L2.St} {ρ : Rho} {i : Nat} {d : D} {v : V} {Qd : QD} {Q : VK}
theorem Sim.grow (s : Sim K σ H ρ θ μ) (w : WOk K H' θ' μ') (g : Grow H θ μ H' θ' μ') : Sim K σ H' ρ θ' μ' :=
  ⟨w, s.len, fun i d h => let ⟨v, e, r⟩ := s.val i d h; ⟨v, e, g.rep r⟩⟩
theorem Sim.set (s : Sim K σ H ρ θ μ) (r : Rp K H θ μ d v) (i : Nat) : Sim K (σ.set i (some v)) H (ρ.set i (some d)) θ μ :=
  ⟨s.wok, by simp [s.len], fun j e h => by
    by_cases q : j = i
    · subst q
      by_cases hl : j < ρ.length
      · rw [List.getElem?_set_self hl] at h
        cases h
        exact ⟨v, by rw [List.getElem?_set_self (by rw [← s.len]; exact hl)], r⟩
      · rw [List.getElem?_eq_none (by simp; omega)] at h; cases h
    · rw [List.getElem?_set_ne (Ne.symm q)] at h ⊢
      exact s.val j e h⟩
theorem Fin.mono (f : Fin K H θ μ Qd Q) (g : Grow H θ μ H' θ' μ') : Fin K H' θ' μ' Qd Q := fun d v H'' θ'' μ'' w g' r q => f d v H'' θ'' μ'' w (g.trans g') r q
theorem Fin.at (f : Fin K H θ μ Qd Q) (w : WOk K H θ μ) (r : Rp K H θ μ d v) (q : Qd d μ) : Q v H := f d v H θ μ w Grow.refl r q
theorem FinS.mono {EX : L2.St → XK} {Z : DEnds} {D : Ends} (f : FinS K EX H θ μ Z D) (g : Grow H θ μ H' θ' μ') : FinS K EX H' θ' μ' Z D :=
  ⟨fun σ' H' ρ' θ' μ' s g' z => f.nx σ' H' ρ' θ' μ' s (g.trans g') z, f.rt.mono g, fun σ' H' ρ' θ' μ' s g' z => f.bk σ' H' ρ' θ' μ' s (g.trans g') z, fun σ' H' ρ' θ' μ' s g' z => f.ct σ' H' ρ' θ' μ' s (g.trans g') z, fun σ' H' ρ' θ' μ' c ks ds s g' z => f.xc σ' H' ρ' θ' μ' c ks ds s (g.trans g') z⟩
end
end DW
end

section
set_option linter.all false
set_option autoImplicit false
set_option maxRecDepth 100000
/-! DW3: the readings of the layer, from what is wanted of deep values. -/
namespace DW
open PySem PySem.Spec PyProof.Rows L2

section
variable {X : Cx}
theorem PE.wk {e : Expr} {t t' : TE} (h : PE X e t) (m : ∀ σ H Q, t' σ H Q → t σ H Q) : PE X e t' := fun pins s σ H Q I hw => h pins s σ H Q I (m σ H Q hw)
theorem PT.wk {e : Expr} {t t' : TT} (h : PT X e t) (m : ∀ σ H Q, t' σ H Q → t σ H Q) : PT X e t' := fun pins s σ H Q I hw => h pins s σ H Q I (m σ H Q hw)
theorem PW.wk {e : Expr} {t t' : TT} (h : PW X e t) (m : ∀ σ H Q, t' σ H Q → t σ H Q) : PW X e t' := fun wh pins s σ H Q I hw => h wh pins s σ H Q I (m σ H Q hw)
theorem PA.wk {es : List Expr} {t t' : TA} (h : PA X es t) (m : ∀ σ H Q, t' σ H Q → t σ H Q) : PA X es t' := fun pos pins s σ H Q I hw => h pos pins s σ H Q I (m σ H Q hw)
theorem PS.wk {st : Stmt} {t t' : TS} (h : PS X st t) (m : ∀ D σ H, t' D σ H → t D σ H) : PS X st t' := fun pins s σ H D I hw => h pins s σ H D I (m D σ H hw)
theorem PSs.wk {st : List Stmt} {t t' : TS} (h : PSs X st t) (m : ∀ D σ H, t' D σ H → t D σ H) : PSs X st t' := fun pins s σ H D I hw => h pins s σ H D I (m D σ H hw)
end

theorem lim_eq : lim = sizeLine := by rw [sizeLine_eq]; rfl
noncomputable def low2 (K : PySem.W.Frag) (w : D → D → Mem → QD → Prop) : R2 := fun x y H Q => ∃ d e θ μ Qd, WOk K H θ μ ∧ Rp K H θ μ d x ∧ Rp K H θ μ e y ∧ w d e μ Qd ∧ Fin K H θ μ Qd Q
noncomputable def lowA (K : PySem.W.Frag) (w : List D → Mem → QD → Prop) : List V → Hp → VK → Prop := fun vs H Q => ∃ ds θ μ Qd, WOk K H θ μ ∧ Rps K H θ μ ds vs ∧ w ds μ Qd ∧ Fin K H θ μ Qd Q
noncomputable def lowM (K : PySem.W.Frag) (w : D → List D → Mem → QD → Prop) : V → List V → Hp → VK → Prop := fun x vs H Q => ∃ d ds θ μ Qd, WOk K H θ μ ∧ Rp K H θ μ d x ∧ Rps K H θ μ ds vs ∧ w d ds μ Qd ∧ Fin K H θ μ Qd Q

section
variable {K : PySem.W.Frag} {H H' : Hp} {θ θ' : List Addr} {μ μ' : Mem} {σ : L2.St} {ρ : Rho} {Qd : QD} {Q : VK} {ds : List D} {xs : List V} {p a : Addr}

/-! ### values that come -/
theorem rp_non : Rp K H θ μ .non .non := by unfold Rep; rfl
theorem rp_bl {b : Bool} : Rp K H θ μ (.bl b) (.bl b) := by unfold Rep; rfl
theorem rp_int {i : Int} : Rp K H θ μ (.int i) (.int i) := by unfold Rep; rfl
theorem rp_str {x : List Nat} (h : x.length ≤ sizeLine) : Rp K H θ μ (.str x) (.str ⟨x.toArray⟩) := by unfold Rep; exact ⟨rfl, h⟩
theorem inv_non {v : V} (h : Rp K H θ μ .non v) : v = .non := by unfold Rep at h; exact h
theorem inv_bl {b : Bool} {v : V} (h : Rp K H θ μ (.bl b) v) : v = .bl b := by unfold Rep at h; exact h
theorem inv_int {i : Int} {v : V} (h : Rp K H θ μ (.int i) v) : v = .int i := by unfold Rep at h; exact h
theorem inv_str {x : List Nat} {v : V} (h : Rp K H θ μ (.str x) v) : v = .str ⟨x.toArray⟩ ∧ x.length ≤ sizeLine := by unfold Rep at h; exact h
theorem inv_tup {v : V} (h : Rp K H θ μ (.tup ds) v) : ∃ a xs, v = .ref a ∧ H a = some (.tup xs) ∧ ¬ Live θ μ a ∧ Rps K H θ μ ds xs := by unfold Rep at h; exact h
theorem inv_lst {v : V} (h : Rp K H θ μ (.lst ds) v) : ∃ a xs, v = .ref a ∧ H a = some (.lst xs) ∧ ¬ Live θ μ a ∧ Rps K H θ μ ds xs := by unfold Rep at h; exact h
theorem inv_ro {v : V} (h : Rp K H θ μ (.ro ds) v) : ∃ a xs, v = .ref a ∧ ((∃ o, H a = some (.frz o (.lst xs)) ∧ ¬ Live θ μ a) ∨ KL K a xs) ∧ Rps K H θ μ ds xs := by unfold Rep at h; exact h
theorem inv_loc {n : Nat} {v : V} (h : Rp K H θ μ (.loc n) v) : ∃ a, v = .ref a ∧ θ[n]? = some a := by unfold Rep at h; exact h
theorem inv_dic {ks : List DKey} {v : V} (h : Rp K H θ μ (.dic ks ds) v) : ∃ a kvs, v = .ref a ∧ H a = some (.dK kvs) ∧ ¬ Live θ μ a ∧ kvs.map (·.1) = ks.map keyOf ∧ Rps K H θ μ ds (kvs.map (·.2)) := by unfold Rep at h; exact h
theorem SqL_ro (h : (∃ o, H a = some (.frz o (.lst xs)) ∧ ¬ Live θ μ a) ∨ KL K a xs) : SqL K H a xs := by
  rcases h with ⟨o, h, _⟩ | h
  · exact .inl (.inr ⟨o, h⟩)
  · exact .inr h
/-- a thing that is a list, a tuple or a read one, with its items -/
theorem seqOf_sq {d : D} {v : V} (wk : WOk K H θ μ) (r : Rp K H θ μ d v) (h : seqOf μ d = some ds) : ∃ a xs, v = .ref a ∧ (SqL K H a xs ∨ SqT K H a xs) ∧ Rps K H θ μ ds xs := by
  cases d with
  | lst es => simp only [seqOf, Option.some.injEq] at h; subst h; obtain ⟨a, xs, e, h1, _, h3⟩ := inv_lst r; exact ⟨a, xs, e, .inl (.of h1), h3⟩
  | tup es => simp only [seqOf, Option.some.injEq] at h; subst h; obtain ⟨a, xs, e, h1, _, h3⟩ := inv_tup r; exact ⟨a, xs, e, .inr (.of h1), h3⟩
  | ro es => simp only [seqOf, Option.some.injEq] at h; subst h; obtain ⟨a, xs, e, h1, h3⟩ := inv_ro r; exact ⟨a, xs, e, .inl (SqL_ro h1), h3⟩
  | loc n =>
    obtain ⟨a, e, h1⟩ := inv_loc r
    simp only [seqOf] at h
    split at h
    · rename_i es hn
      simp only [Option.some.injEq] at h; subst h
      obtain ⟨xs, h2, h3⟩ := wk.list hn h1
      exact ⟨a, xs, e, .inl (.of h2), h3⟩
    · cases h
  | _ => simp [seqOf] at h

/-- a new tuple -/
theorem new_tup (wk : WOk K H θ μ) (f : Fin K H θ μ Qd Q) (r : Rps K H θ μ ds xs) (h : Qd (.tup ds) μ) (hp : H p = none) : Q (.ref p) (upd H p (.tup xs)) := by
  refine f (.tup ds) (.ref p) _ θ μ (wk.ext (ext_upd hp)) (Grow.ext (ext_upd hp)) ?_ h
  unfold Rep
  exact ⟨p, xs, rfl, upd_same, wk.notLive hp, (Grow.ext (ext_upd hp)).reps r⟩
theorem new_lst (wk : WOk K H θ μ) (f : Fin K H θ μ Qd Q) (r : Rps K H θ μ ds xs) (h : Qd (.lst ds) μ) (hp : H p = none) : Q (.ref p) (upd H p (.lst xs)) := by
  refine f (.lst ds) (.ref p) _ θ μ (wk.ext (ext_upd hp)) (Grow.ext (ext_upd hp)) ?_ h
  unfold Rep
  exact ⟨p, xs, rfl, upd_same, wk.notLive hp, (Grow.ext (ext_upd hp)).reps r⟩
theorem new_cell (wk : WOk K H θ μ) (f : Fin K H θ μ Qd Q) (r : Rps K H θ μ ds xs) (h : Qd (.loc μ.length) (μ ++ [.lst ds])) (hp : H p = none) : Q (.ref p) (upd H p (.lst xs)) := by
  have g : Grow H θ μ (upd H p (.lst xs)) (θ ++ [p]) (μ ++ [.lst ds]) := Grow.new wk hp
  refine f (.loc μ.length) (.ref p) _ (θ ++ [p]) (μ ++ [.lst ds]) (wk.new (c := .lst ds) hp (show CellOk K _ _ _ p (.lst ds) from ⟨xs, upd_same, g.reps r⟩)) g ?_ h
  unfold Rep
  exact ⟨p, rfl, by rw [← wk.len]; simp⟩
theorem newL_ok {m : Bool} (wk : WOk K H θ μ) (f : Fin K H θ μ Qd Q) (r : Rps K H θ μ ds xs) (h : newL m ds μ Qd) (hp : H p = none) : Q (.ref p) (upd H p (.lst xs)) := by
  cases m with
  | true => exact new_cell wk f r h hp
  | false => exact new_lst wk f r h hp
end

/-! ### parts in a row -/
section
variable {K : PySem.W.Frag} {σ : L2.St} {H : Hp} {Q : VK} {wa wb wc : WE}
theorem le_bin {w : D → D → Mem → QD → Prop} (h : LE K (fun ρ μ Q => wa ρ μ fun x μ1 => wb ρ μ1 fun y μ2 => w x y μ2 Q) σ H Q) : tOp (low2 K w) (LE K wa) (LE K wb) σ H Q := by
  obtain ⟨ρ, θ, μ, Qd, s, h, f⟩ := h
  refine ⟨ρ, θ, μ, _, s, h, fun x v H1 θ1 μ1 w1 g1 r1 h1 => ⟨ρ, θ1, μ1, _, s.grow w1 g1, h1, fun y v2 H2 θ2 μ2 w2 g2 r2 h2 => ?_⟩⟩
  exact ⟨x, y, θ2, μ2, Qd, w2, g2.rep r1, r2, h2, f.mono (g1.trans g2)⟩
theorem le_args {w : List D → Mem → QD → Prop} {ws : WA} (h : LE K (fun ρ μ Q => ws ρ μ fun ds μ1 => w ds μ1 Q) σ H Q) : LA K ws σ H (fun vs H1 => lowA K w vs H1 Q) := by
  obtain ⟨ρ, θ, μ, Qd, s, h, f⟩ := h
  exact ⟨ρ, θ, μ, _, s, h, fun ds vs H1 θ1 μ1 w1 g1 r1 h1 => ⟨ds, θ1, μ1, Qd, w1, r1, h1, f.mono g1⟩⟩
theorem la_cons {ws : WA} {Q : List V → Hp → Prop} (h : LA K (fun ρ μ Q => wa ρ μ fun d μ1 => ws ρ μ1 fun ds μ2 => Q (d :: ds) μ2) σ H Q) : tCons (LE K wa) (LA K ws) σ H Q := by
  obtain ⟨ρ, θ, μ, Qd, s, h, f⟩ := h
  refine ⟨ρ, θ, μ, _, s, h, fun x v H1 θ1 μ1 w1 g1 r1 h1 => ⟨ρ, θ1, μ1, _, s.grow w1 g1, h1, fun ds vs H2 θ2 μ2 w2 g2 r2 h2 => ?_⟩⟩
  exact f (x :: ds) (v :: vs) H2 θ2 μ2 w2 (g1.trans g2) (.cons (g2.rep r1) r2) h2
end

section
variable {X : Cx}
theorem pa_nilD : PA X [] (LA X.K (fun _ μ Q => Q [] μ)) := PA.wk pa_nil fun σ H Q h => by
  obtain ⟨ρ, θ, μ, Qd, s, h, f⟩ := h
  exact f [] [] H θ μ s.wok Grow.refl Reps.nil h
theorem pa_consD {e : Expr} {es : List Expr} {wa : WE} {ws : WA} (h1 : PE X e (LE X.K wa)) (h2 : PA X es (LA X.K ws)) (hs : starEach (e :: es) X.env = (false, eval e X.env) :: starEach es X.env) :
    PA X (e :: es) (LA X.K (fun ρ μ Q => wa ρ μ fun d μ1 => ws ρ μ1 fun ds μ2 => Q (d :: ds) μ2)) := PA.wk (pa_cons h1 h2 hs) fun σ H Q h => la_cons h
theorem pe_varD {i : Nat} {x : Str} {pos : Pos} (hN : X.N[i]? = some x) (hv : Vis X.env.scope x) (hd : (x == ("__debug__" : Str)) = false) (hcd : (x == ("__classdict__" : Str)) = false) :
    PE X (.Name x pos) (LE X.K (fun ρ μ Q => match ρ[i]? with | some (some d) => Q d μ | _ => False)) := PE.wk (pe_var hN hv hd hcd) fun σ H Q h => by
  obtain ⟨ρ, θ, μ, Qd, s, h, f⟩ := h
  split at h
  · rename_i d e
    obtain ⟨v, e1, r⟩ := s.val i d e
    exact ⟨v, e1, f.at s.wok r h⟩
  · exact h.elim
theorem le_const {v : V} {d : D} (r : ∀ H θ μ, Rp X.K H θ μ d v) {σ : L2.St} {H : Hp} {Q : VK} (h : LE X.K (fun _ μ Q => Q d μ) σ H Q) : tC v σ H Q := by
  obtain ⟨ρ, θ, μ, Qd, s, h, f⟩ := h
  exact f.at s.wok (r H θ μ) h

/-! ### operations -/
theorem op_fdivB : OpR X (binaryOp .FloorDiv) (rI (fun _ j => CDivD j) fun i j => .int (i / j)) := opI fun i j _ _ _ _ _ hc q => by
  have h1 : (0 : Int) < j := hc.1
  have h2 : j < 2 ^ 500 := hc.2
  refine floordiv_int (by omega) ?_ (.inl (PyProof.noPylong_of_log2 ?_))
  · rw [Int.fdiv_eq_ediv_of_nonneg i (by omega)]; exact q
  · have h3 : j.natAbs < 2 ^ 500 := by omega
    have h4 : j.natAbs ≠ 0 := by omega
    have := (Nat.log2_lt h4).mpr h3
    omega
theorem bin_ok (op : Operator) : OpR X (binaryOp op) (low2 X.K (wBin op)) := by
  intro pins s σ H x y v u Q I rx ry h
  obtain ⟨d, e, θ, μ, Qd, wk, rd, re, hw, f⟩ := h
  unfold wBin at hw
  split at hw
  · rename_i i j
    have ex := inv_int rd
    have ey := inv_int re
    split at hw
    · exact op_add pins s σ H x y v u Q I rx ry ⟨i, j, ex, ey, f.at wk rp_int hw⟩
    · exact op_sub pins s σ H x y v u Q I rx ry ⟨i, j, ex, ey, f.at wk rp_int hw⟩
    · exact op_mul pins s σ H x y v u Q I rx ry ⟨i, j, ex, ey, hw.1, f.at wk rp_int hw.2⟩
    · exact op_fdivB pins s σ H x y v u Q I rx ry ⟨i, j, ex, ey, hw.1, f.at wk rp_int hw.2⟩
    · exact op_mod pins s σ H x y v u Q I rx ry ⟨i, j, ex, ey, hw.1, f.at wk rp_int hw.2⟩
    · exact op_pow pins s σ H x y v u Q I rx ry ⟨i, j, ex, ey, hw.1, f.at wk rp_int hw.2⟩
    · exact hw.elim
  · rename_i a b
    obtain ⟨ex, hx⟩ := inv_str rd
    obtain ⟨ey, hy⟩ := inv_str re
    split at hw
    · have hl : (a ++ b).length ≤ sizeLine := by rw [List.length_append, ← lim_eq]; exact hw.1
      have hq := f.at wk (rp_str hl) hw.2
      refine op_add_str pins s σ H x y v u Q I rx ry ⟨_, _, ex, ey, ?_, ?_⟩
      · show a.toArray.size + b.toArray.size ≤ _
        rw [← lim_eq]; simpa using hw.1
      · have e : (⟨a.toArray⟩ ++ ⟨b.toArray⟩ : Str) = ⟨(a ++ b).toArray⟩ := by
          show Str.mk (a.toArray ++ b.toArray) = _
          simp
        rw [e]; exact hq
    · exact hw.elim
  · rename_i a b
    obtain ⟨p, xs, ex, hx, _, r1⟩ := inv_lst rd
    obtain ⟨q, ys, ey, hy, _, r2⟩ := inv_lst re
    split at hw
    · have l1 := r1.length
      have l2 := r2.length
      refine op_cat pins s σ H x y v u Q I rx ry ⟨p, q, xs, ys, ex, ey, hx, hy, by have h1 := hw.1; rw [l1, l2, lim_eq] at h1; exact h1, fun z hz => ?_⟩
      exact new_lst wk f (r1.append r2) hw.2 hz
    · exact hw.elim
  · exact hw.elim
end
end DW
end

section
set_option linter.all false
set_option autoImplicit false
/-! DW4: does a piece of the text say the same as a term of the small language? -/
namespace DW
open PySem

structure Ctx where
  N : List Str
  names : List (Str × NameKind)
  blts : List Str
  calm : Bool
  rs : Bool
noncomputable abbrev Ctx.of (N : List Str) (names : List (Str × NameKind)) (blts : List Str) : Ctx := ⟨N, names, blts, true, true⟩
noncomputable def Ctx.vis (c : Ctx) (x : Str) : Bool := match c.names.lookup x with
  | some .local => true
  | some .cell => true
  | some .free => true
  | _ => false
noncomputable def Ctx.loc (c : Ctx) (x : Str) : Bool := match c.names.lookup x with
  | some .local => true
  | some .cell => true
  | _ => false
noncomputable def Ctx.glb (c : Ctx) (x : Str) : Bool := match c.names.lookup x with
  | some .globalImplicit => true
  | _ => false
noncomputable def Ctx.at_ (c : Ctx) (i : Nat) (x : Str) : Bool := match c.N[i]? with
  | some y => decide (y = x)
  | none => false
noncomputable def oddName (x : Str) : Bool := (x == ("__debug__" : Str)) || (x == ("__classdict__" : Str))

noncomputable def mC : Const → D → Bool
  | .none, .non => true
  | .bool a, .bl b => a == b
  | .int i, .int j => i == j
  | .str s, .str x => decide (s.cps.toList = x) && decide (x.length ≤ 16777216)
  | _, _ => false
noncomputable def notStar : Expr → Bool
  | .Starred .. => false
  | _ => true
noncomputable def notSet : Expr → Bool
  | .Set .. => false
  | _ => true
noncomputable def notComp : Expr → Bool
  | .ListComp .. => false
  | .SetComp .. => false
  | .DictComp .. => false
  | _ => true
noncomputable def plainIxB : Expr → Bool
  | .Name .. => true
  | .Constant .. => true
  | .BinOp .. => true
  | .UnaryOp .. => true
  | .Call .. => true
  | .Subscript .. => true
  | .Attribute .. => true
  | .Tuple .. => true
  | _ => false
noncomputable def baseB : Expr → Bool
  | .Name .. => true
  | .Subscript .. => true
  | .Attribute .. => true
  | .Call (.Name ..) (_ :: _) _ _ => true
  | _ => false
theorem baseB_call {f : Expr} {as : List Expr} {ks : List Keyword} {p : Pos} (h : baseB (.Call f as ks p) = true) : ∃ x q a r, f = .Name x q ∧ as = a :: r := by
  cases f with
  | Name x q => cases as with
    | nil => exact (Bool.false_ne_true h).elim
    | cons a r => exact ⟨x, q, a, r, rfl, rfl⟩
  | _ => exact (Bool.false_ne_true h).elim
noncomputable def bname (x : String) : Str := if x = "mlist" then "list" else if x = "msorted" then "sorted" else if x = "isorted" then "sorted" else Str.ofString x
noncomputable def bltName (c : Ctx) (x : Str) : Bool := c.glb x && c.blts.contains x
/-- the names of a comprehension's block: its variable, what it closes over -/
noncomputable def capNames (c : Ctx) : List Nat → Option (List Str)
  | [] => some []
  | i :: is => match c.N[i]?, capNames c is with
    | some x, some r => some (x :: r)
    | _, _ => none
noncomputable def compC (c : Ctx) (scope : Scope) (Nc : List Str) (cap : List Str) : Bool :=
  (scope.kind == .function) && scope.names.all (fun y => y.2 != .cell) && scope.names.all (fun y => y.2 != .local || (scope.names.lookup y.1 == some .local)) &&
  decide (Nc.Nodup) && cap.all (fun y => scope.names.lookup y == some .free) && scope.names.all (fun y => y.2 != .free || (c.names.lookup y.1 == some .cell || c.names.lookup y.1 == some .free))
noncomputable def namesOf : List Expr → Option (List Str)
  | [] => some []
  | .Name x _ :: as => (namesOf as).map (x :: ·)
  | _ :: _ => none
/-- the names of a comprehension's target -/
noncomputable def tgNames (tt : Bool) (a : Expr) : Option (List Str) := match tt with
  | false => match a with | .Name x _ => some [x] | _ => none
  | true => match a with | .Tuple ts _ _ => namesOf ts | _ => none
noncomputable def mNames (c : Ctx) : List Nat → List Expr → Bool
  | [], [] => true
  | i :: is, a :: as => (match a with | .Name x _ => c.at_ i x && c.loc x | _ => false) && mNames c is as
  | _, _ => false
noncomputable def mTg (c : Ctx) (is : List Nat) (tt : Bool) (a : Expr) : Bool :=
  match tt with
  | false => mNames c is [a]
  | true => match a with | .Tuple ts _ _ => mNames c is ts | _ => false

/-- two lists side by side are walked by a tuple of names alone -/
noncomputable def zipTg (tt : Bool) : It → Bool
  | .zip _ _ => tt
  | _ => true
/-! the parts of a piece of the text -/
noncomputable def opt {α : Type} (o : Option α) (f : α → Bool) : Bool := match o with
  | some x => f x
  | none => false
theorem opt_inv {α : Type} {o : Option α} {f : α → Bool} (h : opt o f = true) : ∃ x, o = some x ∧ f x = true := by
  cases o with
  | none => exact (Bool.false_ne_true h).elim
  | some x => exact ⟨x, rfl, h⟩
theorem none_some {α : Type} {x : α} {P : Prop} (h : none = some x) : P := (Option.some_ne_none x h.symm).elim
noncomputable def vName : Expr → Option Str
  | .Name x _ => some x
  | _ => none
theorem vName_inv {a : Expr} {t : Str} (h : vName a = some t) : ∃ p, a = .Name t p := by
  cases a with
  | Name x p => cases Option.some.inj (show some x = some t from h); exact ⟨p, rfl⟩
  | _ => exact none_some h
noncomputable def vConst : Expr → Option Const
  | .Constant k _ _ => some k
  | _ => none
theorem vConst_inv {a : Expr} {t : Const} (h : vConst a = some t) : ∃ j p, a = .Constant t j p := by
  cases a with
  | Constant k j p => cases Option.some.inj (show some k = some t from h); exact ⟨j, p, rfl⟩
  | _ => exact none_some h
noncomputable def vBin : Expr → Option (Expr × Operator × Expr)
  | .BinOp l o r _ => some (l, o, r)
  | _ => none
theorem vBin_inv {a : Expr} {t : (Expr × Operator × Expr)} (h : vBin a = some t) : ∃ p, a = .BinOp t.1 t.2.1 t.2.2 p := by
  cases a with
  | BinOp l o r p => cases Option.some.inj (show some (l, o, r) = some t from h); exact ⟨p, rfl⟩
  | _ => exact none_some h
noncomputable def vIf : Expr → Option (Expr × Expr × Expr)
  | .IfExp x y z _ => some (x, y, z)
  | _ => none
theorem vIf_inv {a : Expr} {t : (Expr × Expr × Expr)} (h : vIf a = some t) : ∃ p, a = .IfExp t.1 t.2.1 t.2.2 p := by
  cases a with
  | IfExp x y z p => cases Option.some.inj (show some (x, y, z) = some t from h); exact ⟨p, rfl⟩
  | _ => exact none_some h
noncomputable def vSub : Expr → Option (Expr × Expr)
  | .Subscript x y _ => some (x, y)
  | _ => none
theorem vSub_inv {a : Expr} {t : (Expr × Expr)} (h : vSub a = some t) : ∃ p, a = .Subscript t.1 t.2 p := by
  cases a with
  | Subscript x y p => cases Option.some.inj (show some (x, y) = some t from h); exact ⟨p, rfl⟩
  | _ => exact none_some h
noncomputable def vTup : Expr → Option (List Expr)
  | .Tuple x _ _ => some x
  | _ => none
theorem vTup_inv {a : Expr} {t : (List Expr)} (h : vTup a = some t) : ∃ k p, a = .Tuple t k p := by
  cases a with
  | Tuple x k p => cases Option.some.inj (show some x = some t from h); exact ⟨k, p, rfl⟩
  | _ => exact none_some h
noncomputable def vLst : Expr → Option (List Expr)
  | .List x _ => some x
  | _ => none
theorem vLst_inv {a : Expr} {t : (List Expr)} (h : vLst a = some t) : ∃ p, a = .List t p := by
  cases a with
  | List x p => cases Option.some.inj (show some x = some t from h); exact ⟨p, rfl⟩
  | _ => exact none_some h
noncomputable def vAttr : Expr → Option (Expr × Str)
  | .Attribute x y _ => some (x, y)
  | _ => none
theorem vAttr_inv {a : Expr} {t : (Expr × Str)} (h : vAttr a = some t) : ∃ p, a = .Attribute t.1 t.2 p := by
  cases a with
  | Attribute x y p => cases Option.some.inj (show some (x, y) = some t from h); exact ⟨p, rfl⟩
  | _ => exact none_some h
noncomputable def vNeg : Expr → Option Expr
  | .UnaryOp .USub l _ => some l
  | _ => none
theorem vNeg_inv {a : Expr} {t : Expr} (h : vNeg a = some t) : ∃ p, a = .UnaryOp .USub t p := by
  cases a with
  | UnaryOp o l p =>
    cases o with
    | USub => cases Option.some.inj (show some l = some t from h); exact ⟨p, rfl⟩
    | _ => exact none_some h
  | _ => exact none_some h
noncomputable def vNot : Expr → Option Expr
  | .UnaryOp .Not l _ => some l
  | _ => none
theorem vNot_inv {a : Expr} {t : Expr} (h : vNot a = some t) : ∃ p, a = .UnaryOp .Not t p := by
  cases a with
  | UnaryOp o l p =>
    cases o with
    | Not => cases Option.some.inj (show some l = some t from h); exact ⟨p, rfl⟩
    | _ => exact none_some h
  | _ => exact none_some h
noncomputable def vCmp : Expr → Option (Expr × CmpOp × Expr)
  | .Compare l [o] [r] _ => some (l, o, r)
  | _ => none
theorem vCmp_inv {a : Expr} {t : (Expr × CmpOp × Expr)} (h : vCmp a = some t) : ∃ p, a = .Compare t.1 [t.2.1] [t.2.2] p := by
  cases a with
  | Compare l os rs p =>
    match os, rs, h with
    | [o], [r], h => cases Option.some.inj (show some (l, o, r) = some t from h); exact ⟨p, rfl⟩
    | [], _, h => exact none_some h
    | _ :: _ :: _, _, h => exact none_some h
    | [_], [], h => exact none_some h
    | [_], _ :: _ :: _, h => exact none_some h
  | _ => exact none_some h
noncomputable def vCmp2 : Expr → Option (Expr × CmpOp × CmpOp × Expr × Expr)
  | .Compare l [o, q] [m, r] _ => some (l, o, q, m, r)
  | _ => none
theorem vCmp2_inv {a : Expr} {t : (Expr × CmpOp × CmpOp × Expr × Expr)} (h : vCmp2 a = some t) : ∃ p, a = .Compare t.1 [t.2.1, t.2.2.1] [t.2.2.2.1, t.2.2.2.2] p := by
  cases a with
  | Compare l os rs p =>
    match os, rs, h with
    | [o, q], [m, r], h => cases Option.some.inj (show some (l, o, q, m, r) = some t from h); exact ⟨p, rfl⟩
    | [], _, h => exact none_some h
    | [_], _, h => exact none_some h
    | _ :: _ :: _ :: _, _, h => exact none_some h
    | [_, _], [], h => exact none_some h
    | [_, _], [_], h => exact none_some h
    | [_, _], _ :: _ :: _ :: _, h => exact none_some h
  | _ => exact none_some h
noncomputable def vAnd : Expr → Option (Expr × Expr)
  | .BoolOp .And (v :: w :: rest) p => some (v, match rest with | [] => w | _ :: _ => .BoolOp .And (w :: rest) p)
  | _ => none
theorem vAnd_inv {a : Expr} {t : Expr × Expr} (h : vAnd a = some t) : (∃ p, a = .BoolOp .And [t.1, t.2] p) ∨ ∃ w z rest p, a = .BoolOp .And (t.1 :: w :: z :: rest) p ∧ t.2 = .BoolOp .And (w :: z :: rest) p := by
  cases a with
  | BoolOp o vs p =>
    cases o with
    | And =>
      match vs, h with
      | [v, w], h => cases Option.some.inj (show some (v, w) = some t from h); exact .inl ⟨p, rfl⟩
      | v :: w :: z :: rest, h => cases Option.some.inj (show some (v, .BoolOp .And (w :: z :: rest) p) = some t from h); exact .inr ⟨w, z, rest, p, rfl, rfl⟩
      | [], h => exact none_some h
      | [_], h => exact none_some h
    | _ => exact none_some h
  | _ => exact none_some h
noncomputable def vOr : Expr → Option (Expr × Expr)
  | .BoolOp .Or (v :: w :: rest) p => some (v, match rest with | [] => w | _ :: _ => .BoolOp .Or (w :: rest) p)
  | _ => none
theorem vOr_inv {a : Expr} {t : Expr × Expr} (h : vOr a = some t) : (∃ p, a = .BoolOp .Or [t.1, t.2] p) ∨ ∃ w z rest p, a = .BoolOp .Or (t.1 :: w :: z :: rest) p ∧ t.2 = .BoolOp .Or (w :: z :: rest) p := by
  cases a with
  | BoolOp o vs p =>
    cases o with
    | Or =>
      match vs, h with
      | [v, w], h => cases Option.some.inj (show some (v, w) = some t from h); exact .inl ⟨p, rfl⟩
      | v :: w :: z :: rest, h => cases Option.some.inj (show some (v, .BoolOp .Or (w :: z :: rest) p) = some t from h); exact .inr ⟨w, z, rest, p, rfl, rfl⟩
      | [], h => exact none_some h
      | [_], h => exact none_some h
    | _ => exact none_some h
  | _ => exact none_some h
noncomputable def vCall : Expr → Option (Str × List Expr)
  | .Call (.Name y _) as [] _ => some (y, as)
  | _ => none
theorem vCall_inv {a : Expr} {t : (Str × List Expr)} (h : vCall a = some t) : ∃ p q, a = .Call (.Name t.1 p) t.2 [] q := by
  cases a with
  | Call f as ks q =>
    cases f with
    | Name y p =>
      cases ks with
      | nil => cases Option.some.inj (show some (y, as) = some t from h); exact ⟨p, q, rfl⟩
      | cons _ _ => exact none_some h
    | _ => exact none_some h
  | _ => exact none_some h
noncomputable def vMeth : Expr → Option (Expr × Str × List Expr × Bool)
  | .Call (.Attribute o m p) as [] q => some (o, m, as, p.endLine == q.line)
  | _ => none
theorem vMeth_inv {a : Expr} {t : (Expr × Str × List Expr × Bool)} (h : vMeth a = some t) : ∃ p q, a = .Call (.Attribute t.1 t.2.1 p) t.2.2.1 [] q ∧ t.2.2.2 = (p.endLine == q.line) := by
  cases a with
  | Call f as ks q =>
    cases f with
    | Attribute o m p =>
      cases ks with
      | nil => cases Option.some.inj (show some (o, m, as, p.endLine == q.line) = some t from h); exact ⟨p, q, rfl, rfl⟩
      | cons _ _ => exact none_some h
    | _ => exact none_some h
  | _ => exact none_some h
noncomputable def vSlc : Expr → Option (Expr × Option Expr × Option Expr)
  | .Subscript x (.Slice lo hi none _) _ => some (x, lo, hi)
  | _ => none
theorem vSlc_inv {a : Expr} {t : (Expr × Option Expr × Option Expr)} (h : vSlc a = some t) : ∃ p q, a = .Subscript t.1 (.Slice t.2.1 t.2.2 none p) q := by
  cases a with
  | Subscript x y q =>
    cases y with
    | Slice lo hi st p =>
      cases st with
      | none => cases Option.some.inj (show some (x, lo, hi) = some t from h); exact ⟨p, q, rfl⟩
      | some _ => exact none_some h
    | _ => exact none_some h
  | _ => exact none_some h
noncomputable def vTwo : List Expr → Option (Expr × Expr)
  | [x, y] => some (x, y)
  | _ => none
theorem vTwo_inv {a : List Expr} {t : Expr × Expr} (h : vTwo a = some t) : a = [t.1, t.2] := by
  match a, h with
  | [x, y], h => cases Option.some.inj (show some (x, y) = some t from h); rfl
  | [], h => exact none_some h
  | [_], h => exact none_some h
  | _ :: _ :: _ :: _, h => exact none_some h
noncomputable def vKey : Option Expr → Option (List Nat)
  | some (.Constant (.str s) _ _) => some s.cps.toList
  | _ => none
theorem vKey_inv {a : Option Expr} {k : List Nat} (h : vKey a = some k) : ∃ s j p, a = some (.Constant (.str s) j p) ∧ s.cps.toList = k := by
  unfold vKey at h
  split at h
  · exact ⟨_, _, _, rfl, Option.some.inj h⟩
  · cases h
noncomputable def vD3 : List (Option Expr) → List Expr → Option ((List Nat × List Nat × List Nat) × Expr × Expr × Expr)
  | [a, b, c], [x, y, z] => (vKey a).bind fun i => (vKey b).bind fun j => (vKey c).map fun k => ((i, j, k), x, y, z)
  | _, _ => none
noncomputable def vDict3 : Expr → Option ((List Nat × List Nat × List Nat) × Expr × Expr × Expr)
  | .Dict ks vs _ => vD3 ks vs
  | _ => none
theorem vDict3_inv {e : Expr} {t : (List Nat × List Nat × List Nat) × Expr × Expr × Expr} (h : vDict3 e = some t) : ∃ s1 j1 p1 s2 j2 p2 s3 j3 p3 p, e = .Dict [some (.Constant (.str s1) j1 p1), some (.Constant (.str s2) j2 p2), some (.Constant (.str s3) j3 p3)] [t.2.1, t.2.2.1, t.2.2.2] p ∧ s1.cps.toList = t.1.1 ∧ s2.cps.toList = t.1.2.1 ∧ s3.cps.toList = t.1.2.2 := by
  unfold vDict3 at h
  split at h
  · rename_i ks vs p
    unfold vD3 at h
    split at h
    · rename_i a b c x y z
      obtain ⟨i, hi, h⟩ := Option.bind_eq_some_iff.mp h
      obtain ⟨j, hj, h⟩ := Option.bind_eq_some_iff.mp h
      obtain ⟨k, hk, h⟩ := Option.map_eq_some_iff.mp h
      subst h
      obtain ⟨s1, j1, p1, rfl, e1⟩ := vKey_inv hi
      obtain ⟨s2, j2, p2, rfl, e2⟩ := vKey_inv hj
      obtain ⟨s3, j3, p3, rfl, e3⟩ := vKey_inv hk
      exact ⟨s1, j1, p1, s2, j2, p2, s3, j3, p3, p, rfl, e1, e2, e3⟩
    · cases h
  · cases h
noncomputable def vComp : Expr → Option (Expr × Expr × Expr × List Expr × Scope)
  | .ListComp e [g] s _ => if g.is_async = 0 then some (e, g.target, g.iter, g.ifs, s) else none
  | _ => none
theorem vComp_inv {a : Expr} {t : Expr × Expr × Expr × List Expr × Scope} (h : vComp a = some t) : ∃ p, a = .ListComp t.1 [⟨t.2.1, t.2.2.1, t.2.2.2.1, 0⟩] t.2.2.2.2 p := by
  cases a with
  | ListComp e gs s p =>
    match gs, h with
    | [⟨tg, it, ifs, k⟩], h =>
      have h : (if k = 0 then some (e, tg, it, ifs, s) else none) = some t := h
      by_cases q : k = 0
      · rw [if_pos q] at h; cases Option.some.inj h; exact ⟨p, by rw [q]⟩
      · rw [if_neg q] at h; exact none_some h
    | [], h => exact none_some h
    | _ :: _ :: _, h => exact none_some h
  | _ => exact none_some h
mutual
noncomputable def mE (c : Ctx) : E → Expr → Bool
  | .var i, a => opt (vName a) fun x => c.at_ i x && c.vis x && !oddName x
  | .cst d, a => opt (vConst a) fun k => mC k d
  | .gbl y d, a => opt (vName a) fun x => x == y && c.glb x && !oddName x
  | .bin op l r, a => opt (vBin a) fun t => op == t.2.1 && mE c l t.1 && mE c r t.2.2
  | .neg l, a => opt (vNeg a) fun t => mE c l t
  | .not l, a => opt (vNot a) fun t => mE c l t
  | .cmp op l r, a => opt (vCmp a) fun t => c.calm && op == t.2.1 && mE c l t.1 && mE c r t.2.2 && notSet t.2.2
  | .cmpT n l r, a => opt (vCmp a) fun t => c.calm && (t.2.1 == (if n then CmpOp.NotEq else CmpOp.Eq)) && mE c l t.1 && mE c r t.2.2 && notSet t.2.2
  | .chain p q l m r, a => opt (vCmp2 a) fun t => c.calm && p == t.2.1 && q == t.2.2.1 && mE c l t.1 && mE c m t.2.2.2.1 && mE c r t.2.2.2.2 && notSet t.2.2.2.2 && notSet t.2.2.2.1
  | .and x y, a => opt (vAnd a) fun t => mE c x t.1 && mE c y t.2
  | .or x y, a => opt (vOr a) fun t => mE c x t.1 && mE c y t.2
  | .ife t x y, a => opt (vIf a) fun q => mE c t q.1 && mE c x q.2.1 && mE c y q.2.2
  | .call x _ as, a => opt (vCall a) fun t => x == t.1 && c.glb x && !oddName x && mEs c as t.2
  | .blt x as, a => opt (vCall a) fun t => c.calm && knownB.contains x && bname x == t.1 && bltName c t.1 && mEs c as t.2 && !t.2.isEmpty
  | .isin l t, a => opt (vCall a) fun q => opt (vTwo q.2) fun w => opt (vName w.2) fun z => (q.1 == Str.ofString "isinstance") && bltName c q.1 && ["int", "bool", "str", "tuple", "list", "dict"].contains t && (z == Str.ofString t) && bltName c z && mE c l w.1 && notStar w.1
  | .meth m o as, a => opt (vMeth a) fun t => (if t.2.2.1.isEmpty then ["clear"].contains m else ["append", "extend"].contains m) && t.2.1 == Str.ofString m && baseB t.1 && t.2.2.2 && mE c o t.1 && mEs c as t.2.2.1 && decide (t.2.2.1.length < 30)
  | .rmv o as, a => opt (vMeth a) fun t => c.calm && t.2.1 == Str.ofString "remove" && baseB t.1 && t.2.2.2 && mE c o t.1 && mEs c as t.2.2.1 && decide (t.2.2.1.length < 30) && !t.2.2.1.isEmpty
  | .imin as, a => opt (vCall a) fun t => c.calm && (t.1 == Str.ofString "min") && bltName c t.1 && mEs c as t.2 && !t.2.isEmpty
  | .dd3 k1 k2 k3 x y z, a => opt (vDict3 a) fun t => (t.1.1 == k1) && (t.1.2.1 == k2) && (t.1.2.2 == k3) && !decide (k1 = k2) && !decide (k1 = k3) && !decide (k2 = k3) && mE c x t.2.1 && mE c y t.2.2.1 && mE c z t.2.2.2
  | .idx x y, a => opt (vSub a) fun t => mE c x t.1 && mE c y t.2 && plainIxB t.2
  | .slc _ x lo hi, a => opt (vSlc a) fun t => mE c x t.1 && mO c lo t.2.1 && mO c hi t.2.2
  | .tup as, a => opt (vTup a) fun es => mEs c as es && decide (es.length ≤ 16777216)
  | .lst _ as, a => opt (vLst a) fun es => mEs c as es && decide (es.length ≤ 16777216)
  | .comp _ n tt cap elt it cond, a => opt (vComp a) fun t => c.calm && opt (tgNames tt t.2.1) fun xs => opt (capNames c cap) fun cs => n == xs.length && compC c t.2.2.2.2 (xs ++ cs) cs && zipTg tt it && mI c it t.2.2.1 && mTg (Ctx.of (xs ++ cs) t.2.2.2.2.names c.blts) (List.range n) tt t.2.1 && mE (Ctx.of (xs ++ cs) t.2.2.2.2.names c.blts) elt t.1 && mEs (Ctx.of (xs ++ cs) t.2.2.2.2.names c.blts) cond t.2.2.2.1 && decide (t.2.2.2.1.length ≤ 1)
  | .frz x, a => mE c x a
  | .dget x y, a => opt (vSub a) fun t => c.calm && mE c x t.1 && mE c y t.2 && plainIxB t.2
  | .cat _ l r, a => opt (vBin a) fun t => t.2.1 == .Add && mE c l t.1 && mE c r t.2.2
  | .fld _ f o, a => opt (vAttr a) fun t => t.2 == Str.ofString f && baseB t.1 && mE c o t.1
  | .mth _ m _ o as, a => opt (vMeth a) fun t => t.2.1 == Str.ofString m && baseB t.1 && t.2.2.2 && mE c o t.1 && mEs c as t.2.2.1 && decide (t.2.2.1.length < 30)
  | .mk x _ as, a => opt (vCall a) fun t => Str.ofString x == t.1 && c.glb t.1 && !oddName t.1 && mEs c as t.2
noncomputable def mEs (c : Ctx) : Es → List Expr → Bool
  | .nil, as => as.isEmpty
  | .cons e es, as => match as with | [] => false | a :: as => mE c e a && notStar a && mEs c es as
noncomputable def mO (c : Ctx) : Es → Option Expr → Bool
  | .nil, a => a.isNone
  | .cons e es, a => match a, es with | some a, .nil => mE c e a | _, _ => false
noncomputable def mI (c : Ctx) : It → Expr → Bool
  | .seq e, a => mE c e a && notSet a
  | .rng as, a => opt (vCall a) fun t => (t.1 == Str.ofString "range") && bltName c t.1 && mEs c as t.2 && (t.2.length == 1)
  | .zip l r, a => opt (vCall a) fun t => opt (vTwo t.2) fun w => (t.1 == Str.ofString "zip") && bltName c t.1 && mE c l w.1 && mE c r w.2 && notStar w.1 && notStar w.2
end

noncomputable def notTupleE : Expr → Bool
  | .Tuple .. => false
  | .List .. => false
  | _ => true
noncomputable def isLocal (c : Ctx) (x : Str) : Bool := c.names.lookup x == some .local
noncomputable def isCompE : E → Bool
  | .comp .. => true
  | _ => false
/-! the parts of a statement -/
noncomputable def uAsg : Stmt → Option (Expr × Expr)
  | .Assign [t] v _ => some (t, v)
  | _ => none
theorem uAsg_inv {a : Stmt} {t : Expr × Expr} (h : uAsg a = some t) : ∃ p, a = .Assign [t.1] t.2 p := by
  cases a with
  | Assign ts v p =>
    match ts, h with
    | [x], h => cases Option.some.inj (show some (x, v) = some t from h); exact ⟨p, rfl⟩
    | [], h => exact none_some h
    | _ :: _ :: _, h => exact none_some h
  | _ => exact none_some h
noncomputable def uExp : Stmt → Option Expr
  | .Expr v _ => some v
  | _ => none
theorem uExp_inv {a : Stmt} {t : Expr} (h : uExp a = some t) : ∃ p, a = .Expr t p := by
  cases a with
  | Expr v p => cases Option.some.inj (show some v = some t from h); exact ⟨p, rfl⟩
  | _ => exact none_some h
noncomputable def uRet : Stmt → Option (Option Expr)
  | .Return v _ => some v
  | _ => none
theorem uRet_inv {a : Stmt} {t : Option Expr} (h : uRet a = some t) : ∃ p, a = .Return t p := by
  cases a with
  | Return v p => cases Option.some.inj (show some v = some t from h); exact ⟨p, rfl⟩
  | _ => exact none_some h
noncomputable def uIf : Stmt → Option (Expr × List Stmt × List Stmt)
  | .If t x y _ => some (t, x, y)
  | _ => none
theorem uIf_inv {a : Stmt} {t : Expr × List Stmt × List Stmt} (h : uIf a = some t) : ∃ p, a = .If t.1 t.2.1 t.2.2 p := by
  cases a with
  | If u x y p => cases Option.some.inj (show some (u, x, y) = some t from h); exact ⟨p, rfl⟩
  | _ => exact none_some h
noncomputable def uFor : Stmt → Option (Expr × Expr × List Stmt)
  | .For t i b [] _ => some (t, i, b)
  | _ => none
theorem uFor_inv {a : Stmt} {t : Expr × Expr × List Stmt} (h : uFor a = some t) : ∃ p, a = .For t.1 t.2.1 t.2.2 [] p := by
  cases a with
  | For u i b e p =>
    cases e with
    | nil => cases Option.some.inj (show some (u, i, b) = some t from h); exact ⟨p, rfl⟩
    | cons _ _ => exact none_some h
  | _ => exact none_some h
noncomputable def uWhl : Stmt → Option (Expr × List Stmt)
  | .While t b [] _ => some (t, b)
  | _ => none
theorem uWhl_inv {a : Stmt} {t : Expr × List Stmt} (h : uWhl a = some t) : ∃ p, a = .While t.1 t.2 [] p := by
  cases a with
  | While u b e p =>
    cases e with
    | nil => cases Option.some.inj (show some (u, b) = some t from h); exact ⟨p, rfl⟩
    | cons _ _ => exact none_some h
  | _ => exact none_some h
mutual
noncomputable def mS (c : Ctx) : S → Stmt → Bool
  | .set i e, a => opt (uAsg a) fun t => opt (vName t.1) fun x => c.at_ i x && c.loc x && mE c e t.2 && (notComp t.2 || isCompE e)
  | .setT is e, a => opt (uAsg a) fun t => opt (vTup t.1) fun ts => c.calm && mNames c is ts && mE c e t.2 && notComp t.2 && notTupleE t.2
  | .dput o i e, a => opt (uAsg a) fun t => opt (vSub t.1) fun u => c.calm && mE c o u.1 && mE c i u.2 && plainIxB u.2 && mE c e t.2 && notComp t.2
  | .setIx o i e, a => opt (uAsg a) fun t => opt (vSub t.1) fun u => mE c o u.1 && mE c i u.2 && plainIxB u.2 && mE c e t.2 && notComp t.2
  | .exp e, a => opt (uExp a) fun v => mE c e v && notComp v
  | .ret e, a => opt (uRet a) fun o => opt o fun v => mE c e v
  | .ite t x y, a => opt (uIf a) fun u => mE c t u.1 && mSs c x u.2.1 && mSs c y u.2.2
  | .for_ is tt it b, a => opt (uFor a) fun u => c.calm && mTg c is tt u.1 && mI c it u.2.1 && mSs c b u.2.2 && notSet u.2.1 && zipTg tt it
  | .whl t b, a => opt (uWhl a) fun u => mE c t u.1 && mSs c b u.2
  | .setF cn f o e, a => opt (uAsg a) fun t => opt (vAttr t.1) fun u => u.2 == Str.ofString f && mE c o u.1 && mE c e t.2 && notComp t.2
  | .nev, _ => true
noncomputable def mSs (c : Ctx) : Ss → List Stmt → Bool
  | .nil, as => as.isEmpty
  | .cons s r, as => match as with | [] => false | a :: as => mS c s a && mSs c r as
end

/-- what a term may call -/
inductive Rf where
  | fn (x : Str) | mth (c m : String) | mk (c : String) | fld (c f : String)
  | fnX (x : Str) (sp : DSpX) | mthX (c m : String) (sp : DSpX) | mkX (c : String) (sp : DSpX) | rse (c : String) | hdl (P : String) (tab : List String) | isx (tt : Bool) (ts : List String) (tab : List (String × Bool))
noncomputable def spN : DSp := fun _ _ _ => False
/-! the defs that a term calls, the module's names that it reads -/
mutual
noncomputable def okE (P : Rf → DSp → Prop) (G : Str → D → Prop) : E → Prop
  | .gbl x d => G x d
  | .bin _ a b => okE P G a ∧ okE P G b
  | .neg a => okE P G a
  | .not a => okE P G a
  | .cmp _ a b => okE P G a ∧ okE P G b
  | .cmpT _ a b => okE P G a ∧ okE P G b
  | .chain _ _ a b c => okE P G a ∧ okE P G b ∧ okE P G c
  | .and a b => okE P G a ∧ okE P G b
  | .or a b => okE P G a ∧ okE P G b
  | .ife a b c => okE P G a ∧ okE P G b ∧ okE P G c
  | .call x sp as => P (.fn x) sp ∧ okEs P G as
  | .blt _ as => okEs P G as
  | .isin a _ => okE P G a
  | .meth _ o as => okE P G o ∧ okEs P G as
  | .rmv o as => okE P G o ∧ okEs P G as
  | .imin as => okEs P G as
  | .dd3 _ _ _ a b e => okE P G a ∧ okE P G b ∧ okE P G e
  | .idx a b => okE P G a ∧ okE P G b
  | .slc _ a lo hi => okE P G a ∧ okEs P G lo ∧ okEs P G hi
  | .tup as => okEs P G as
  | .lst _ as => okEs P G as
  | .comp _ _ _ _ elt it cond => okE P G elt ∧ okI P G it ∧ okEs P G cond
  | .frz a => okE P G a
  | .dget a b => okE P G a ∧ okE P G b
  | .cat _ a b => okE P G a ∧ okE P G b
  | .fld c f o => P (.fld c f) spN ∧ okE P G o
  | .mth c m sp o as => P (.mth c m) sp ∧ okE P G o ∧ okEs P G as
  | .mk c sp as => P (.mk c) sp ∧ okEs P G as
  | _ => True
noncomputable def okEs (P : Rf → DSp → Prop) (G : Str → D → Prop) : Es → Prop
  | .nil => True
  | .cons e es => okE P G e ∧ okEs P G es
noncomputable def okI (P : Rf → DSp → Prop) (G : Str → D → Prop) : It → Prop
  | .seq e => okE P G e
  | .rng as => okEs P G as
  | .zip a b => okE P G a ∧ okE P G b
end
mutual
noncomputable def okS (P : Rf → DSp → Prop) (G : Str → D → Prop) : S → Prop
  | .set _ e => okE P G e
  | .setT _ e => okE P G e
  | .dput o i e => okE P G o ∧ okE P G i ∧ okE P G e
  | .setIx o i e => okE P G o ∧ okE P G i ∧ okE P G e
  | .exp e => okE P G e
  | .ret e => okE P G e
  | .ite c a b => okE P G c ∧ okSs P G a ∧ okSs P G b
  | .for_ _ _ it b => okI P G it ∧ okSs P G b
  | .whl c b => okE P G c ∧ okSs P G b
  | .setF c f o e => P (.fld c f) spN ∧ okE P G o ∧ okE P G e
  | _ => True
noncomputable def okSs (P : Rf → DSp → Prop) (G : Str → D → Prop) : Ss → Prop
  | .nil => True
  | .cons s r => okS P G s ∧ okSs P G r
end
end DW
end

section
set_option linter.all false
set_option autoImplicit false
/-! DW4b: what a term may call, weakened. -/
namespace DW
open PySem
section
variable {P P' : Rf → DSp → Prop} {G G' : Str → D → Prop} (hp : ∀ x sp, P x sp → P' x sp) (hg : ∀ x d, G x d → G' x d)
include hp hg
mutual
theorem okE.mono : ∀ e : E, okE P G e → okE P' G' e
  | .var _, h => trivial
  | .cst _, h => trivial
  | .gbl x d, h => hg x d h
  | .bin _ a b, h => ⟨okE.mono a h.1, okE.mono b h.2⟩
  | .neg a, h => okE.mono a h
  | .not a, h => okE.mono a h
  | .cmp _ a b, h => ⟨okE.mono a h.1, okE.mono b h.2⟩
  | .cmpT _ a b, h => ⟨okE.mono a h.1, okE.mono b h.2⟩
  | .chain _ _ a b c, h => ⟨okE.mono a h.1, okE.mono b h.2.1, okE.mono c h.2.2⟩
  | .and a b, h => ⟨okE.mono a h.1, okE.mono b h.2⟩
  | .or a b, h => ⟨okE.mono a h.1, okE.mono b h.2⟩
  | .ife a b c, h => ⟨okE.mono a h.1, okE.mono b h.2.1, okE.mono c h.2.2⟩
  | .call x sp as, h => ⟨hp (.fn x) sp h.1, okEs.mono as h.2⟩
  | .blt _ as, h => okEs.mono as h
  | .isin a _, h => okE.mono a h
  | .meth _ o as, h => ⟨okE.mono o h.1, okEs.mono as h.2⟩
  | .rmv o as, h => ⟨okE.mono o h.1, okEs.mono as h.2⟩
  | .imin as, h => okEs.mono as h
  | .dd3 _ _ _ a b e, h => ⟨okE.mono a h.1, okE.mono b h.2.1, okE.mono e h.2.2⟩
  | .idx a b, h => ⟨okE.mono a h.1, okE.mono b h.2⟩
  | .slc _ a lo hi, h => ⟨okE.mono a h.1, okEs.mono lo h.2.1, okEs.mono hi h.2.2⟩
  | .tup as, h => okEs.mono as h
  | .lst _ as, h => okEs.mono as h
  | .comp _ _ _ _ elt it cond, h => ⟨okE.mono elt h.1, okI.mono it h.2.1, okEs.mono cond h.2.2⟩
  | .frz a, h => okE.mono a h
  | .dget a b, h => ⟨okE.mono a h.1, okE.mono b h.2⟩
  | .cat _ a b, h => ⟨okE.mono a h.1, okE.mono b h.2⟩
  | .fld c f o, h => ⟨hp _ _ h.1, okE.mono o h.2⟩
  | .mth c m sp o as, h => ⟨hp _ _ h.1, okE.mono o h.2.1, okEs.mono as h.2.2⟩
  | .mk c sp as, h => ⟨hp _ _ h.1, okEs.mono as h.2⟩
theorem okEs.mono : ∀ e : Es, okEs P G e → okEs P' G' e
  | .nil, _ => trivial
  | .cons e es, h => ⟨okE.mono e h.1, okEs.mono es h.2⟩
theorem okI.mono : ∀ e : It, okI P G e → okI P' G' e
  | .seq e, h => okE.mono e h
  | .rng as, h => okEs.mono as h
  | .zip a b, h => ⟨okE.mono a h.1, okE.mono b h.2⟩
end
end
mutual
theorem okS.mono : ∀ (s : S) {P P' : Rf → DSp → Prop} {G G' : Str → D → Prop} (hp : ∀ x sp, P x sp → P' x sp) (hg : ∀ x d, G x d → G' x d), okS P G s → okS P' G' s
  | .set _ e, _, _, _, _, hp, hg, h => okE.mono hp hg e h
  | .setT _ e, _, _, _, _, hp, hg, h => okE.mono hp hg e h
  | .dput o i e, _, _, _, _, hp, hg, h => ⟨okE.mono hp hg o h.1, okE.mono hp hg i h.2.1, okE.mono hp hg e h.2.2⟩
  | .setIx o i e, _, _, _, _, hp, hg, h => ⟨okE.mono hp hg o h.1, okE.mono hp hg i h.2.1, okE.mono hp hg e h.2.2⟩
  | .exp e, _, _, _, _, hp, hg, h => okE.mono hp hg e h
  | .ret e, _, _, _, _, hp, hg, h => okE.mono hp hg e h
  | .ite c a b, _, _, _, _, hp, hg, h => ⟨okE.mono hp hg c h.1, okSs.mono a hp hg h.2.1, okSs.mono b hp hg h.2.2⟩
  | .for_ _ _ it b, _, _, _, _, hp, hg, h => ⟨okI.mono hp hg it h.1, okSs.mono b hp hg h.2⟩
  | .whl c b, _, _, _, _, hp, hg, h => ⟨okE.mono hp hg c h.1, okSs.mono b hp hg h.2⟩
  | .setF c f o e, _, _, _, _, hp, hg, h => ⟨hp _ _ h.1, okE.mono hp hg o h.2.1, okE.mono hp hg e h.2.2⟩
  | .nev, _, _, _, _, _, _, _ => trivial
theorem okSs.mono : ∀ (s : Ss) {P P' : Rf → DSp → Prop} {G G' : Str → D → Prop} (hp : ∀ x sp, P x sp → P' x sp) (hg : ∀ x d, G x d → G' x d), okSs P G s → okSs P' G' s
  | .nil, _, _, _, _, _, _, _ => trivial
  | .cons s r, _, _, _, _, hp, hg, h => ⟨okS.mono s hp hg h.1, okSs.mono r hp hg h.2⟩
end
end DW
end

section
set_option linter.all false
set_option autoImplicit false
set_option maxRecDepth 100000
set_option maxHeartbeats 2000000
/-! PAR3: three names at once. -/
namespace DW
open PySem PySem.Spec PyProof.Rows L2
section
variable {X : Cx} {pos : Pos}
end
end DW
end

section
set_option linter.all false
set_option autoImplicit false
set_option maxRecDepth 100000
/-! DW5: comparisons, truth, built-in calls, indexes, slices, methods. -/
namespace DW
open PySem PySem.Spec PyProof.Rows L2

/-! ### == -/
mutual
noncomputable def pd : D → PyData
  | .non => .none
  | .bl b => .bool b
  | .int i => .int i
  | .str x => .str ⟨x.toArray⟩
  | .tup ds => .tuple (pds ds)
  | .lst ds => .list (pds ds)
  | _ => .none
noncomputable def pds : List D → List PyData
  | [] => []
  | d :: ds => pd d :: pds ds
end
mutual
theorem canLay_pd : ∀ (n : Nat) (d : D), flat n d = true → (pd d).canLay0 = true
  | _, .non, _ => by simp [pd, PyData.canLay0]
  | _, .bl _, _ => by simp [pd, PyData.canLay0]
  | _, .int _, _ => by simp [pd, PyData.canLay0]
  | _, .str x, h => by
    simp only [pd, PyData.canLay0, PyData.strOk]
    simpa [flat] using h
  | n + 1, .tup ds, h => by simp only [pd, PyData.canLay0]; exact canLay_pds n ds (by simpa [flat] using h)
  | n + 1, .lst ds, h => by simp only [pd, PyData.canLay0]; exact canLay_pds n ds (by simpa [flat] using h)
  | 0, .tup _, h => by simp [flat] at h
  | 0, .lst _, h => by simp [flat] at h
  | _, .ro _, h => by simp [flat] at h
  | _, .loc _, h => by simp [flat] at h
  | _, .dic _ _, h => by simp [flat] at h
theorem canLay_pds : ∀ (n : Nat) (ds : List D), flats n ds = true → PyData.canLayAll0 (pds ds) = true
  | _, [], _ => by simp [pds, PyData.canLayAll0]
  | n, d :: ds, h => by
    have h' : flat n d = true ∧ flats n ds = true := by simpa [flats] using h
    simp only [pds, PyData.canLayAll0, canLay_pd n d h'.1, canLay_pds n ds h'.2, Bool.and_self]
end
mutual
theorem depth_pd : ∀ (n : Nat) (d : D), flat n d = true → (pd d).depth ≤ n
  | _, .non, _ => by simp [pd, PyData.depth]
  | _, .bl _, _ => by simp [pd, PyData.depth]
  | _, .int _, _ => by simp [pd, PyData.depth]
  | _, .str x, h => by simp [pd, PyData.depth]
  | n + 1, .tup ds, h => by simp only [pd, PyData.depth]; have := depth_pds n ds (by simpa [flat] using h); omega
  | n + 1, .lst ds, h => by simp only [pd, PyData.depth]; have := depth_pds n ds (by simpa [flat] using h); omega
  | 0, .tup _, h => by simp [flat] at h
  | 0, .lst _, h => by simp [flat] at h
  | _, .ro _, h => by simp [flat] at h
  | _, .loc _, h => by simp [flat] at h
  | _, .dic _ _, h => by simp [flat] at h
theorem depth_pds : ∀ (n : Nat) (ds : List D), flats n ds = true → PyData.depthAll (pds ds) ≤ n
  | _, [], _ => by simp [pds, PyData.depthAll]
  | n, d :: ds, h => by
    have h' : flat n d = true ∧ flats n ds = true := by simpa [flats] using h
    simp only [pds, PyData.depthAll]
    have h1 := depth_pd n d h'.1
    have h2 := depth_pds n ds h'.2
    omega
end
theorem str_beqD (x y : List Nat) : ((⟨x.toArray⟩ : Str) == ⟨y.toArray⟩) = (x == y) := by
  by_cases h : x = y
  · subst h; simp
  · have h1 : ¬ (⟨x.toArray⟩ : Str) = ⟨y.toArray⟩ := fun e => h (by injection e with e; simpa using congrArg Array.toList e)
    rw [beq_eq_false_iff_ne.mpr h1, beq_eq_false_iff_ne.mpr h]
mutual
theorem eqv_pd : ∀ (n m : Nat) (d e : D), flat n d = true → flat m e = true → PyData.eqv (pd d) (pd e) = eqD d e
  | _, _, .non, e, _, he => by cases e <;> simp_all [pd, PyData.eqv, eqD, flat]
  | _, _, .bl a, e, _, he => by cases e <;> simp_all [pd, PyData.eqv, eqD, flat, b2i]
  | _, _, .int i, e, _, he => by cases e <;> simp_all [pd, PyData.eqv, eqD, flat, b2i]
  | _, _, .str x, e, _, he => by cases e <;> simp_all [pd, PyData.eqv, eqD, flat, str_beqD]
  | n + 1, m, .tup ds, e, hd, he => by
    cases e with
    | tup es =>
      cases m with
      | zero => simp [flat] at he
      | succ m =>
        simp only [pd, PyData.eqv, eqD]
        exact eqv_pds n m ds es (by simpa [flat] using hd) (by simpa [flat] using he)
    | _ => simp_all [pd, PyData.eqv, eqD, flat]
  | n + 1, m, .lst ds, e, hd, he => by
    cases e with
    | lst es =>
      cases m with
      | zero => simp [flat] at he
      | succ m =>
        simp only [pd, PyData.eqv, eqD]
        exact eqv_pds n m ds es (by simpa [flat] using hd) (by simpa [flat] using he)
    | _ => simp_all [pd, PyData.eqv, eqD, flat]
  | 0, _, .tup _, _, h, _ => by simp [flat] at h
  | 0, _, .lst _, _, h, _ => by simp [flat] at h
  | _, _, .ro _, _, h, _ => by simp [flat] at h
  | _, _, .loc _, _, h, _ => by simp [flat] at h
  | _, _, .dic _ _, _, h, _ => by simp [flat] at h
theorem eqv_pds : ∀ (n m : Nat) (ds es : List D), flats n ds = true → flats m es = true → PyData.eqvAll (pds ds) (pds es) = eqDs ds es
  | _, _, [], es, _, _ => by cases es <;> simp [pds, PyData.eqvAll, eqDs]
  | n, m, d :: ds, es, hd, he => by
    cases es with
    | nil => simp [pds, PyData.eqvAll, eqDs]
    | cons e es =>
      have hd' : flat n d = true ∧ flats n ds = true := by simpa [flats] using hd
      have he' : flat m e = true ∧ flats m es = true := by simpa [flats] using he
      simp only [pds, PyData.eqvAll, eqDs]
      rw [eqv_pd n m d e hd'.1 he'.1, eqv_pds n m ds es hd'.2 he'.2]
end

section
variable {X : Cx} {pins : List (Addr × Obj)} {σ : L2.St} {H : Hp} {s : Shared} {θ : List Addr} {μ : Mem}
mutual
theorem reads_of (I : Inv X pins σ H s) : ∀ (n : Nat) (d : D) (v : V) (u : Value), Rp X.K H θ μ d v → RelV v u → flat n d = true → ∃ as, Reads s.heap u (pd d) as
  | _, .non, v, u, r, ru, _ => by cases inv_non r; cases ru; exact ⟨_, by unfold pd; exact .none⟩
  | _, .bl b, v, u, r, ru, _ => by cases inv_bl r; cases ru; exact ⟨_, by unfold pd; exact .bool b⟩
  | _, .int i, v, u, r, ru, _ => by cases inv_int r; obtain ⟨t, rfl⟩ := ru; exact ⟨_, by unfold pd; exact .int i t⟩
  | _, .str x, v, u, r, ru, _ => by cases (inv_str r).1; obtain ⟨t, rfl⟩ := ru; exact ⟨_, by unfold pd; exact .str _ t⟩
  | n + 1, .tup ds, v, u, r, ru, h => by
    obtain ⟨a, xs, rfl, hH, _, rs⟩ := inv_tup r
    cases ru
    obtain ⟨its, rv, ⟨o, ho, hc, k, hd⟩, _⟩ := I.tuple (SqT.of hH)
    obtain ⟨as, ra⟩ := readsAll_of I n ds xs its rs rv (by simpa [flat] using h)
    exact ⟨as, by unfold pd; exact .tuple ho hc hd (by simpa using ra)⟩
  | n + 1, .lst ds, v, u, r, ru, h => by
    obtain ⟨a, xs, rfl, hH, _, rs⟩ := inv_lst r
    cases ru
    obtain ⟨its, rv, ⟨o, k, ho, hc, _, hd⟩, _⟩ := I.list (SqL.of hH)
    obtain ⟨as, ra⟩ := readsAll_of I n ds xs its rs rv (by simpa [flat] using h)
    exact ⟨a :: as, by unfold pd; exact .list ho hc hd (by simpa using ra)⟩
  | 0, .tup _, _, _, _, _, h => by simp [flat] at h
  | 0, .lst _, _, _, _, _, h => by simp [flat] at h
  | _, .ro _, _, _, _, _, h => by simp [flat] at h
  | _, .loc _, _, _, _, _, h => by simp [flat] at h
  | _, .dic _ _, _, _, _, _, h => by simp [flat] at h
theorem readsAll_of (I : Inv X pins σ H s) : ∀ (n : Nat) (ds : List D) (vs : List V) (us : List Value), Rps X.K H θ μ ds vs → Vals vs us → flats n ds = true → ∃ as, ReadsAll s.heap us (pds ds) as
  | _, [], vs, us, r, rv, _ => by cases r.nil_inv; cases rv; exact ⟨_, by unfold pds; exact .nil⟩
  | n, d :: ds, vs, us, r, rv, h => by
    obtain ⟨v, vr, rfl, h1, h2⟩ := r.cons_inv
    have h' : flat n d = true ∧ flats n ds = true := by simpa [flats] using h
    cases rv with
    | cons ru rr =>
      obtain ⟨as, ra⟩ := reads_of I n d v _ h1 ru h'.1
      obtain ⟨bs, rb⟩ := readsAll_of I n ds vr _ h2 rr h'.2
      exact ⟨as ++ bs, by unfold pds; exact .cons ra rb⟩
end
end

/-! ### < -/
theorem ltCs_eq : ∀ (x y : List Nat), ltCs x y = decide (x < y)
  | [], [] => by simp [ltCs]
  | [], _ :: _ => by simp [ltCs]
  | _ :: _, [] => by simp [ltCs]
  | a :: x, b :: y => by
    unfold ltCs
    by_cases h : a = b
    · subst h
      rw [if_pos rfl, ltCs_eq x y]
      simp [List.cons_lt_cons_iff]
    · rw [if_neg h]
      simp [List.cons_lt_cons_iff, h]
/-- an int or a text -/
noncomputable def SV (u : Value) (d : D) : Prop := (∃ i t, u = .int i t ∧ d = .int i) ∨ ∃ x t, u = .str ⟨x.toArray⟩ t ∧ d = .str x
noncomputable abbrev SVs : List Value → List D → Prop := Paired SV
theorem sv_eq {A : Around} {s : Shared} {u v : Value} {d e : D} (h : SV u d) (k : SV v e) : SeqAt.EqAt A s u v (eqD d e) := by
  rcases h with ⟨i, t, rfl, rfl⟩ | ⟨x, t, rfl, rfl⟩
  · rcases k with ⟨j, t', rfl, rfl⟩ | ⟨y, t', rfl, rfl⟩
    · simp only [eqD]; exact SeqAt.EqAt.int_int i t j t'
    · simp only [eqD]; exact SeqAt.EqAt.int_str i t _ t'
  · rcases k with ⟨j, t', rfl, rfl⟩ | ⟨y, t', rfl, rfl⟩
    · simp only [eqD]; exact SeqAt.EqAt.str_int _ t j t'
    · simp only [eqD]; rw [← str_beqD]; exact SeqAt.EqAt.str_str _ t _ t'
theorem sv_lt {A : Around} {s : Shared} {u v : Value} {d e : D} {b : Bool} (h : SV u d) (k : SV v e) (hb : ltD d e = some b) (prog : Program) (w : World) (E : Value → Shared → Prop) (Q : Value → Shared → Prop) (q : Q (.bool b) s) :
    wpAny (model prog w) A (richCompare .Lt u v) Q E s := by
  rcases h with ⟨i, t, rfl, rfl⟩ | ⟨x, t, rfl, rfl⟩
  · rcases k with ⟨j, t', rfl, rfl⟩ | ⟨y, t', rfl, rfl⟩
    · simp only [ltD, Option.some.injEq] at hb
      subst hb
      exact (PyProof.Rows.lt_int q : wpAny (model prog w) A (compareOp .Lt (.int i t) (.int j t')) Q E s)
    · simp [ltD] at hb
  · rcases k with ⟨j, t', rfl, rfl⟩ | ⟨y, t', rfl, rfl⟩
    · simp [ltD] at hb
    · simp only [ltD, Option.some.injEq] at hb
      subst hb
      rw [ltCs_eq] at q
      exact (PySem.P.lt_str (by simpa using q) : wpAny (model prog w) A (compareOp .Lt (.str ⟨x.toArray⟩ t) (.str ⟨y.toArray⟩ t')) Q E s)

section
open PySem.SeqAt
open PySem.AutoSeq1 (wpAny_loadPart')
open PySem.MeetsSeq PySem.MeetsSeq2 PySem.MeetsSeq3
theorem ltDs_cons (d e : D) (ds es : List D) : ltDs (d :: ds) (e :: es) = if eqD d e then ltDs ds es else ltD d e := by rw [ltDs]
theorem tuple_lt_sv (l b : Addr) (items items2 : Array Value) (n n2 : Nat) (dd dd2 : Option Addr) (sl sl2 : Array (Option Value)) (ns ms : List D) (r : Bool) (hi : SVs items.toList ns) (hj : SVs items2.toList ms) (hr : ltDs ns ms = some r) :
    Meets (Builtin.«tuple.__lt__» ⟨[.ref l, .ref b], []⟩)
      (fun _ R s => s.heap.get? l = some { cls := .type "tuple", dict := dd, data := .seq items n, slots := sl } ∧ s.heap.get? b = some { cls := .type "tuple", dict := dd2, data := .seq items2 n2, slots := sl2 } ∧
        R (.ok (.ret (.bool r))) s) :=
  .of_wp fun prog w A R s h => by
    obtain ⟨hp, g, d, tk, os⟩ := s; obtain ⟨hl, hb, h⟩ := h
    have f2 := AutoSeq1.sub_tuple_tuple
    have z1 : items.size = ns.length := by rw [← Paired.length hi]; simp
    have z2 : items2.size = ms.length := by rw [← Paired.length hj]; simp
    wp_walk using wpAny_loadPart' hl, wpAny_loadPart' hb, wpAny_forIn_list _ (fun rest b s' => b.1 = none ∧ s' = ⟨hp, g, d, tk, os⟩ ∧ ∃ (vs ws : List Value) (ns' ms' : List D), rest = vs.zip ws ∧
      SVs vs ns' ∧ SVs ws ms' ∧ ns'.length + items2.size = ms'.length + items.size ∧ ltDs ns' ms' = some r) _
    case turn =>
      rintro ⟨y, x⟩ rest b s' ⟨hb', rfl, vs, ws, ns', ms', hz, hvi, hwi, hlen, hR⟩
      cases hvi with
      | nil => rw [List.zip_nil_left] at hz; cases hz
      | @cons u du vs' ns'' hu hvi' =>
        cases hwi with
        | nil => rw [List.zip_nil_right] at hz; cases hz
        | @cons v dv ws' ms'' hv hwi' =>
          rw [List.zip_cons_cons] at hz
          injection hz with hyx hrest
          injection hyx with hy hx
          subst hy hx
          rw [ltDs_cons] at hR
          simp only [List.length_cons] at hlen
          have he := sv_eq (A := A.in1) (s := ⟨hp, g, d, tk, os⟩) hu hv
          refine wpAny_bind (he prog w _ _ ?_)
          cases e : eqD du dv with
          | true =>
            rw [e, if_pos rfl] at hR
            wp_walk
            exact ⟨rfl, rfl, _, _, _, _, hrest, hvi', hwi', by omega, hR⟩
          | false =>
            rw [e, if_neg Bool.false_ne_true] at hR
            have hri := sv_lt (A := A.in1) (s := ⟨hp, g, d, tk, os⟩) hu hv hR prog w
            wp_walk using hri
            exact ⟨_, rfl, by simpa using h⟩
    case fin =>
      rintro ⟨b1, b2⟩ s' ⟨hb', rfl, vs, ws, ns', ms', hz, hvi, hwi, hlen, hR⟩
      simp only at hb'
      subst hb'
      have hv : r = decide (items.size < items2.size) := by
        cases hvi with
        | nil =>
          cases hwi with
          | nil =>
            simp only [List.length_nil] at hlen
            simp [ltDs] at hR
            rw [hR]
            exact (decide_eq_false (by omega)).symm
          | cons hu hw =>
            simp only [List.length_nil, List.length_cons] at hlen
            simp [ltDs] at hR
            rw [hR]
            exact (decide_eq_true (by omega)).symm
        | cons hu hv =>
          cases hwi with
          | nil =>
            simp only [List.length_nil, List.length_cons] at hlen
            simp [ltDs] at hR
            rw [hR]
            exact (decide_eq_false (by omega)).symm
          | cons hu' hw =>
            rw [List.zip_cons_cons] at hz
            cases hz
      rw [hv] at h
      wp_walk
      exact ⟨_, rfl, by simpa [Builtin.Tuple.tupleCompareSizes] using h⟩
    case h =>
      exact ⟨rfl, rfl, items.toList, items2.toList, ns, ms, rfl, hi, hj, by omega, hr⟩
end
theorem lt_tupSV {prog : Program} {w : World} {A : Around} {E : Value → Shared → Prop} {s : Shared} {l b : Addr} {items items2 : Array Value} {ns ms : List D} {r : Bool} {Q : Value → Shared → Prop} (hl : IsTup s.heap l items) (hb : IsTup s.heap b items2) (hi : SVs items.toList ns) (hj : SVs items2.toList ms)
    (hr : ltDs ns ms = some r) (hu : A.units < cLine) (h : Q (.bool r) s) : wpAny (model prog w) A (compareOp .Lt (.ref l) (.ref b)) Q E s := by
  obtain ⟨⟨cls, dd, data, sl⟩, ho, hc, n, hd⟩ := id hl
  obtain ⟨⟨cls2, dd2, data2, sl2⟩, ho2, hc2, n2, hd2⟩ := id hb
  simp only at hc hd hc2 hd2
  subst hc hd hc2 hd2
  exact richCompare_meets_room (op := .Lt) ⟨_, ho, rfl⟩ ⟨_, ho2, rfl⟩ PySem.F.slot_tuple_lt PySem.F.entry_tuple_lt (PySem.F.args_tuple_lt_2 _ _) (tuple_lt_sv l b items items2 n n2 dd dd2 sl sl2 ns ms r hi hj hr)
    ⟨ho, ho2, show Value.bool r ≠ Value.notImplemented ∧ Q (.bool r) s from ⟨(fun x => nomatch x), h⟩⟩ hu
end DW
end

section
set_option linter.all false
set_option autoImplicit false
set_option maxRecDepth 100000
namespace DW
open PySem PySem.Spec PyProof.Rows L2
section
variable {X : Cx}
theorem sv_of {H : Hp} {θ : List Addr} {μ : Mem} {d e : D} {v : V} {u : Value} {b : Bool} (r : Rp X.K H θ μ d v) (ru : RelV v u) (h : (∃ i, d = .int i) ∨ ∃ x, d = .str x) : SV u d := by
  rcases h with ⟨i, rfl⟩ | ⟨x, rfl⟩
  · cases inv_int r; obtain ⟨t, rfl⟩ := ru; exact .inl ⟨i, t, rfl, rfl⟩
  · cases (inv_str r).1; obtain ⟨t, rfl⟩ := ru; exact .inr ⟨x, t, rfl, rfl⟩
theorem sc2_cases {d : D} (h : sc2 d = true) : (∃ i, d = .int i) ∨ ∃ x, d = .str x := by
  cases d <;> simp [sc2] at h
  · exact .inl ⟨_, rfl⟩
  · exact .inr ⟨_, rfl⟩
theorem svs_of {H : Hp} {θ : List Addr} {μ : Mem} : ∀ {ds : List D} {vs : List V} {us : List Value}, Rps X.K H θ μ ds vs → Vals vs us → ds.all sc2 = true → SVs us ds
  | [], vs, us, r, rv, _ => by cases r.nil_inv; cases rv; exact .nil
  | d :: ds, vs, us, r, rv, h => by
    obtain ⟨v, vr, rfl, h1, h2⟩ := r.cons_inv
    simp only [List.all_cons, Bool.and_eq_true] at h
    cases rv with
    | cons ru rr => exact .cons (sv_of (e := .non) (b := true) h1 ru (sc2_cases h.1)) (svs_of h2 rr h.2)
theorem nonV {K : PySem.W.Frag} {H : Hp} {θ : List Addr} {μ : Mem} {d : D} {x : V} (r : Rp K H θ μ d x) : decide (x = .non) = isNon d := by
  cases d with
  | non => cases inv_non r; rfl
  | bl b => cases inv_bl r; rfl
  | int b => cases inv_int r; rfl
  | str b => cases (inv_str r).1; rfl
  | tup ds => obtain ⟨a, xs, rfl, _⟩ := inv_tup r; rfl
  | lst ds => obtain ⟨a, xs, rfl, _⟩ := inv_lst r; rfl
  | ro ds => obtain ⟨a, xs, rfl, _⟩ := inv_ro r; rfl
  | loc n => obtain ⟨a, rfl, _⟩ := inv_loc r; rfl
  | dic ks ds => obtain ⟨a, xs, rfl, _⟩ := inv_dic r; rfl
/-- what an item is found to be, by its value -/
noncomputable def isItemV (its : List Value) (ds : List D) (x : D) (y : Value) : Bool := open Classical in if h : ∃ j : Nat, its[j]? = some y then (match ds[h.choose]? with | some d => eqD d x | none => false) else false
theorem in_items {pins : List (Addr × Obj)} {σ : L2.St} {H : Hp} {s : Shared} {θ : List Addr} {μ : Mem} {d e : D} {x y : V} {v u : Value} {ds : List D} (I : Inv X pins σ H s) (wk : WOk X.K H θ μ) (re : Rp X.K H θ μ e y) (ry : RelV y u) (hq : seqOf μ e = some ds)
    (f1 : flats 60 ds = true) (f2 : flat 60 d = true) (rd : Rp X.K H θ μ d x) (rx : RelV x v) (hu : X.A.units + 64 < cLine) :
    ∃ (its : List Value) (a : Addr), u = .ref a ∧ (s.heap.IsList a its.toArray ∨ s.heap.IsTuple a its.toArray) ∧ (∀ w ∈ its.toArray, SeqAt.EqAt X.A.in1 s w v (isItemV its ds d w)) ∧ its.toArray.any (isItemV its ds d) = ds.any fun d' => eqD d' d := by
  obtain ⟨a, xs, rfl, hs, rs⟩ := seqOf_sq wk re hq
  cases ry
  obtain ⟨its, rv, hl⟩ : ∃ its : List Value, Vals xs its ∧ (s.heap.IsList a its.toArray ∨ s.heap.IsTuple a its.toArray) := by
    rcases hs with h | h
    · obtain ⟨its, rv, p, _⟩ := I.list h
      exact ⟨its, rv, .inl p.isList⟩
    · obtain ⟨its, rv, p, _⟩ := I.tuple h
      exact ⟨its, rv, .inr p⟩
  obtain ⟨as0, ra0⟩ := reads_of I 60 d x v rd rx f2
  have fl : ∀ (n : Nat) (l : List D), flats n l = true → ∀ (j : Nat) (e : D), l[j]? = some e → flat n e = true := by
    intro n l
    induction l with
    | nil => intro _ j e h; simp at h
    | cons c l ih =>
      intro h j e he
      have h' : flat n c = true ∧ flats n l = true := by simpa [flats] using h
      cases j with
      | zero => simp at he; subst he; exact h'.1
      | succ j => exact ih h'.2 j e (by simpa using he)
  have at_ : ∀ (j : Nat) (w : Value), its[j]? = some w → ∃ (e : D) (as : List Addr), ds[j]? = some e ∧ Reads s.heap w (pd e) as ∧ flat 60 e = true := by
    intro j w hw
    have hj : j < its.length := (List.getElem?_eq_some_iff.mp hw).1
    have hj2 : j < ds.length := by rw [rs.length, rv.length]; exact hj
    have he : ds[j]? = some ds[j] := List.getElem?_eq_getElem hj2
    obtain ⟨z, z1, z2⟩ := rs.get he
    obtain ⟨w', w1, w2⟩ := rv.get z1
    rw [hw] at w1; cases w1
    obtain ⟨as, ra⟩ := reads_of I 60 ds[j] z w z2 w2 (fl 60 ds f1 j _ he)
    exact ⟨ds[j], as, he, ra, fl 60 ds f1 j _ he⟩
  have val : ∀ (j : Nat) (w : Value) (e : D), its[j]? = some w → ds[j]? = some e → isItemV its ds d w = eqD e d := by
    intro j w e hw he
    have hx : ∃ j : Nat, its[j]? = some w := ⟨j, hw⟩
    unfold isItemV
    rw [dif_pos hx]
    obtain ⟨e1, as1, g1, g2, g3⟩ := at_ _ w hx.choose_spec
    obtain ⟨e2, as2, k1, k2, k3⟩ := at_ j w hw
    rw [he] at k1; cases k1
    rw [g1]
    have un := SeqAt.Reads.unique (pd e1) (pd e) _ _ _ (canLay_pd _ _ g3) g2 k2
    show eqD e1 d = eqD e d
    rw [← eqv_pd 60 60 e1 d g3 f2, ← eqv_pd 60 60 e d k3 f2, un]
  refine ⟨its, a, rfl, hl, fun w hw => ?_, ?_⟩
  · obtain ⟨j, hj⟩ := List.getElem?_of_mem (show w ∈ its by simpa using hw)
    obtain ⟨e, as, k1, k2, k3⟩ := at_ j w hj
    rw [val j w e hj k1, ← eqv_pd 60 60 e d k3 f2]
    have hd := depth_pd _ _ f2
    exact SeqAt.eqAt_reads (pd e) (pd d) X.A.in1 s w v as as0 k2 ra0 (canLay_pd _ _ k3) (canLay_pd _ _ f2) (by show X.A.units + 1 + _ < cLine; omega)
  · have key : ∀ (js : List Nat), (∀ j ∈ js, j < its.length) → (js.any fun j => (its[j]?.map (isItemV its ds d)).getD false) = js.any fun j => (ds[j]?.map fun d' => eqD d' d).getD false := by
      intro js
      induction js with
      | nil => intro _; rfl
      | cons j js ih =>
        intro h
        have hj := h j (by simp)
        have hj2 : j < ds.length := by rw [rs.length, rv.length]; exact hj
        rw [List.any_cons, List.any_cons, ih fun i hi => h i (by simp [hi])]
        congr 1
        rw [List.getElem?_eq_getElem hj, List.getElem?_eq_getElem hj2]
        exact val j _ _ (List.getElem?_eq_getElem hj) (List.getElem?_eq_getElem hj2)
    have hlen : its.length = ds.length := by rw [rs.length, rv.length]
    have all : ∀ {α : Type} (l : List α) (p : α → Bool), l.any p = (List.range l.length).any fun j => (l[j]?.map p).getD false := by
      intro α l p
      rw [Bool.eq_iff_iff, List.any_eq_true, List.any_eq_true]
      constructor
      · rintro ⟨z, hz, hp⟩
        obtain ⟨j, hj⟩ := List.getElem?_of_mem hz
        have := (List.getElem?_eq_some_iff.mp hj).1
        exact ⟨j, by simpa using this, by rw [hj]; simpa using hp⟩
      · rintro ⟨j, hj, hp⟩
        have hj' : j < l.length := by simpa using hj
        rw [List.getElem?_eq_getElem hj'] at hp
        exact ⟨l[j], List.getElem_mem hj', by simpa using hp⟩
    rw [List.any_toArray, all its, all ds, hlen]
    exact key _ fun j hj => by rw [hlen]; simpa using hj
theorem cmp_ok {k : Nat} (hr : Room k X.A) (op : CmpOp) : OpR X (compareOp op) (low2 X.K (wCmp op)) := by
  intro pins s σ H x y v u Q I rx ry h
  obtain ⟨d, e, θ, μ, Qd, wk, rd, re, hw, f⟩ := h
  have hu : X.A.units + 64 < cLine := hr.units
  have bl : ∀ {b : Bool} {s' : Shared}, Inv X pins σ H s' → Qd (.bl b) μ → EP X pins σ Q (.bool b) s' := fun I' q => ⟨.bl _, H, I', rfl, f.at wk rp_bl q⟩
  cases op with
  | Eq =>
    obtain ⟨f1, f2, q⟩ := hw
    obtain ⟨as, ra⟩ := reads_of I 60 d x v rd rx f1
    obtain ⟨bs, rb⟩ := reads_of I 60 e y u re ry f2
    refine SeqAt.compareEq_reads ra rb (canLay_pd _ _ f1) (canLay_pd _ _ f2) ?_ ?_
    · have := depth_pd _ _ f1
      omega
    · rw [eqv_pd _ _ _ _ f1 f2]; exact bl I q
  | NotEq =>
    obtain ⟨f1, f2, q⟩ := hw
    obtain ⟨as, ra⟩ := reads_of I 60 d x v rd rx f1
    obtain ⟨bs, rb⟩ := reads_of I 60 e y u re ry f2
    refine SeqAt.compareNe_reads ra rb (canLay_pd _ _ f1) (canLay_pd _ _ f2) ?_ ?_
    · have := depth_pd _ _ f1
      omega
    · rw [eqv_pd _ _ _ _ f1 f2]; exact bl I q
  | Lt =>
    simp only [wCmp] at hw
    cases d with
    | int i =>
      cases e with
      | int j => simp only [ltD] at hw; exact op_lt pins s σ H x y v u Q I rx ry ⟨i, j, inv_int rd, inv_int re, f.at wk rp_bl hw⟩
      | _ => simp [ltD] at hw
    | str a =>
      cases e with
      | str b =>
        simp only [ltD] at hw
        refine op_lt_str pins s σ H x y v u Q I rx ry ⟨_, _, (inv_str rd).1, (inv_str re).1, f.at wk rp_bl ?_⟩
        rw [ltCs_eq] at hw
        simpa using hw
      | _ => simp [ltD] at hw
    | tup ds =>
      cases e with
      | tup es =>
        simp only [ltD] at hw
        split at hw
        · rename_i r hl
          split at hl
          · rename_i hsc
            rw [Bool.and_eq_true] at hsc
            obtain ⟨a, xs, rfl, h1, _, r1⟩ := inv_tup rd
            obtain ⟨b, ys, rfl, h2, _, r2⟩ := inv_tup re
            cases rx; cases ry
            obtain ⟨its, rv1, p1, _⟩ := I.tuple (SqT.of h1)
            obtain ⟨jts, rv2, p2, _⟩ := I.tuple (SqT.of h2)
            exact lt_tupSV p1 p2 (by simpa using svs_of r1 rv1 hsc.1) (by simpa using svs_of r2 rv2 hsc.2) hl (by omega) (bl I hw)
          · cases hl
        · exact hw.elim
      | _ => simp [ltD] at hw
    | _ => simp [ltD] at hw
  | LtE =>
    cases d with
    | int i =>
      cases e with
      | int j => exact op_le pins s σ H x y v u Q I rx ry ⟨i, j, inv_int rd, inv_int re, f.at wk rp_bl hw⟩
      | _ => exact hw.elim
    | str a =>
      cases e with
      | str b =>
        have hw : Qd (.bl (!ltCs b a)) μ := hw
        cases (inv_str rd).1
        cases (inv_str re).1
        obtain ⟨t, rfl⟩ := rx
        obtain ⟨t', rfl⟩ := ry
        refine PySem.P.le_str ?_
        rw [ltCs_eq] at hw
        refine bl I ?_
        simpa using hw
      | _ => exact hw.elim
    | _ => exact hw.elim
  | Gt =>
    cases d with
    | int i =>
      cases e with
      | int j => exact op_gt pins s σ H x y v u Q I rx ry ⟨i, j, inv_int rd, inv_int re, f.at wk rp_bl hw⟩
      | _ => exact hw.elim
    | _ => exact hw.elim
  | GtE =>
    cases d with
    | int i =>
      cases e with
      | int j => exact op_ge pins s σ H x y v u Q I rx ry ⟨i, j, inv_int rd, inv_int re, f.at wk rp_bl hw⟩
      | _ => exact hw.elim
    | _ => exact hw.elim
  | Is =>
    cases e with
    | non =>
      refine op_isN pins s σ H x y v u Q I rx ry ⟨inv_non re, f.at wk rp_bl ?_⟩
      have hw : Qd (.bl (isNon d)) μ := hw
      rw [nonV rd]; exact hw
    | bl b =>
      cases d with
      | bl a =>
        cases inv_bl rd; cases inv_bl re
        cases rx; cases ry
        exact is_bool (bl I hw)
      | _ => exact hw.elim
    | _ => exact hw.elim
  | IsNot =>
    cases e with
    | non =>
      refine op_notN pins s σ H x y v u Q I rx ry ⟨inv_non re, f.at wk rp_bl ?_⟩
      have hw : Qd (.bl (!isNon d)) μ := hw
      rw [nonV rd]; exact hw
    | bl b =>
      cases d with
      | bl a =>
        cases inv_bl rd; cases inv_bl re
        cases rx; cases ry
        exact isnot_bool (bl I hw)
      | _ => exact hw.elim
    | _ => exact hw.elim
  | In =>
    have hw' : (∃ t, e = .str t) ∨ (∃ ds, seqOf μ e = some ds ∧ flats 60 ds = true ∧ flat 60 d = true ∧ Qd (.bl (ds.any fun d' => eqD d' d)) μ) := by
      cases e with
      | str t => exact .inl ⟨t, rfl⟩
      | _ =>
        right
        simp only [wCmp] at hw
        split at hw
        · rename_i ds hq; exact ⟨ds, hq, hw⟩
        · exact hw.elim
    rcases hw' with ⟨t, rfl⟩ | ⟨ds, hq, f1, f2, q⟩
    · cases d with
      | str a =>
        cases a with
        | nil => exact hw.elim
        | cons c r =>
          cases r with
          | nil =>
            refine op_in_str pins s σ H x y v u Q I rx ry ⟨_, _, (inv_str rd).1, (inv_str re).1, f.at wk rp_bl ?_⟩
            have q : Qd (.bl (t.contains c)) μ := hw
            have q2 := StrLaws.found_one ⟨t.toArray⟩ c
            rw [show (⟨[c].toArray⟩ : Str) = ⟨#[c]⟩ from rfl, q2]
            simpa using q
          | cons _ _ => exact hw.elim
      | _ => exact hw.elim
    · obtain ⟨its, a, e1, hsq, hany⟩ := in_items I wk re ry hq f1 f2 rd rx hu
      subst e1
      rcases hsq with hsq | hsq
      · exact SeqAt.in_listAt _ hsq (fun y hy => (hany.1 y hy)) (bl I (by rw [hany.2]; exact q))
      · exact SeqAt.in_tupleAt _ hsq (fun y hy => (hany.1 y hy)) (bl I (by rw [hany.2]; exact q))
  | NotIn =>
    have hw' : (∃ t, e = .str t) ∨ (∃ ds, seqOf μ e = some ds ∧ flats 60 ds = true ∧ flat 60 d = true ∧ Qd (.bl (!ds.any fun d' => eqD d' d)) μ) := by
      cases e with
      | str t => exact .inl ⟨t, rfl⟩
      | _ =>
        right
        simp only [wCmp] at hw
        split at hw
        · rename_i ds hq; exact ⟨ds, hq, hw⟩
        · exact hw.elim
    rcases hw' with ⟨t, rfl⟩ | ⟨ds, hq, f1, f2, q⟩
    · cases d with
      | str a =>
        cases a with
        | nil => exact hw.elim
        | cons c r =>
          cases r with
          | nil =>
            refine op_notin_str pins s σ H x y v u Q I rx ry ⟨_, _, (inv_str rd).1, (inv_str re).1, f.at wk rp_bl ?_⟩
            have q : Qd (.bl (!t.contains c)) μ := hw
            have q2 := StrLaws.found_one ⟨t.toArray⟩ c
            rw [show (⟨[c].toArray⟩ : Str) = ⟨#[c]⟩ from rfl, q2]
            simpa using q
          | cons _ _ => exact hw.elim
      | _ => exact hw.elim
    · obtain ⟨its, a, e1, hsq, hany⟩ := in_items I wk re ry hq f1 f2 rd rx hu
      subst e1
      rcases hsq with hsq | hsq
      · exact SeqAt.notIn_listAt _ hsq (fun y hy => (hany.1 y hy)) (bl I (by rw [hany.2]; exact q))
      · exact SeqAt.notIn_tupleAt _ hsq (fun y hy => (hany.1 y hy)) (bl I (by rw [hany.2]; exact q))
end
end DW
end

section
set_option linter.all false
set_option autoImplicit false
set_option maxRecDepth 100000
set_option maxHeartbeats 2000000
/-! DW6s: a thing compared with itself; a dict of one pair. -/
namespace DW
open PySem PySem.Spec PyProof.Rows L2
section
variable {X : Cx} {pins : List (Addr × Obj)} {σ : L2.St} {H : Hp} {s : Shared} {θ : List Addr} {μ : Mem}
/-! ### == of what stands in cells -/
theorem flat_map {μ : Mem} {n m : Nat} : ∀ (ds : List D), flats m (ds.map (thaw μ n)) = true → ∀ d ∈ ds, flat m (thaw μ n d) = true
  | [], _, d, h => by simp at h
  | e :: ds, h, d, hd => by
    have h' : flat m (thaw μ n e) = true ∧ flats m (ds.map (thaw μ n)) = true := by simpa [flats] using h
    rcases List.mem_cons.mp hd with rfl | hd
    · exact h'.1
    · exact flat_map ds h'.2 d hd
theorem readsAll_map (μ : Mem) (n : Nat) {K : PySem.W.Frag} {H : Hp} {θ : List Addr} {h : Heap} : ∀ (ds : List D) (vs : List V) (us : List Value), Rps K H θ μ ds vs → Vals vs us → (∀ d ∈ ds, ∀ v u, Rp K H θ μ d v → RelV v u → ∃ as, Reads h u (pd (thaw μ n d)) as) → ∃ as, ReadsAll h us (pds (ds.map (thaw μ n))) as
  | [], vs, us, r, rv, _ => by cases r.nil_inv; cases rv; exact ⟨_, by rw [List.map_nil]; unfold pds; exact .nil⟩
  | d :: ds, vs, us, r, rv, hh => by
    obtain ⟨v, vr, rfl, h1, h2⟩ := r.cons_inv
    cases rv with
    | cons ru rr =>
      obtain ⟨as, ra⟩ := hh d (by simp) v _ h1 ru
      obtain ⟨bs, rb⟩ := readsAll_map μ n ds vr _ h2 rr fun e he => hh e (by simp [he])
      exact ⟨as ++ bs, by rw [List.map_cons]; unfold pds; exact .cons ra rb⟩
theorem reads_thaw (I : Inv X pins σ H s) (wk : WOk X.K H θ μ) : ∀ (n m : Nat) (d : D) (v : V) (u : Value), Rp X.K H θ μ d v → RelV v u → flat m (thaw μ n d) = true → ∃ as, Reads s.heap u (pd (thaw μ n d)) as
  | 0, m, d, v, u, r, ru, h => reads_of I m d v u r ru h
  | n + 1, m, d, v, u, r, ru, h => by
    have ls : ∀ {a : Addr} {xs : List V} {ds : List D} {u : Value}, H a = some (.lst xs) → Rps X.K H θ μ ds xs → RelV (.ref a) u → flat m (.lst (ds.map (thaw μ n))) = true → ∃ as, Reads s.heap u (pd (.lst (ds.map (thaw μ n)))) as := by
      intro a xs ds u hH rs ru h
      cases ru
      cases m with
      | zero => simp [flat] at h
      | succ m =>
        obtain ⟨its, rv, ⟨o, k, ho, hc, _, hd⟩, _⟩ := I.list (SqL.of hH)
        obtain ⟨as, ra⟩ := readsAll_map μ n ds xs its rs rv fun d hd v u r ru => reads_thaw I wk n m d v u r ru (flat_map ds (by simpa [flat] using h) d hd)
        exact ⟨a :: as, by unfold pd; exact .list ho hc hd (by simpa using ra)⟩
    cases d with
    | tup ds =>
      replace h : flat m (.tup (ds.map (thaw μ n))) = true := h
      obtain ⟨a, xs, rfl, hH, _, rs⟩ := inv_tup r
      cases ru
      cases m with
      | zero => simp [flat] at h
      | succ m =>
        obtain ⟨its, rv, ⟨o, ho, hc, k, hd⟩, _⟩ := I.tuple (SqT.of hH)
        obtain ⟨as, ra⟩ := readsAll_map μ n ds xs its rs rv fun d hd v u r ru => reads_thaw I wk n m d v u r ru (flat_map ds (by simpa [flat] using h) d hd)
        exact ⟨as, by show Reads _ _ (pd (.tup (ds.map (thaw μ n)))) _; unfold pd; exact .tuple ho hc hd (by simpa using ra)⟩
    | lst ds =>
      obtain ⟨a, xs, rfl, hH, _, rs⟩ := inv_lst r
      exact ls hH rs ru h
    | loc k =>
      obtain ⟨a, rfl, h1⟩ := inv_loc r
      have e : thaw μ (n + 1) (.loc k) = match μ[k]? with | some (.lst ds) => .lst (ds.map (thaw μ n)) | _ => .loc k := rfl
      rw [e] at h ⊢
      cases hk : μ[k]? with
      | none => rw [hk] at h; simp [flat] at h
      | some c =>
        rw [hk] at h
        cases c with
        | lst ds =>
          obtain ⟨xs, hH, rs⟩ := wk.cell k _ a hk h1
          exact ls hH rs ru h
        | ins _ _ => simp [flat] at h
        | dic _ _ => simp [flat] at h
        | dtc _ _ => simp [flat] at h
        | exc _ _ _ => simp [flat] at h
        | gone => simp [flat] at h
    | non => exact reads_of I m _ v u r ru h
    | bl _ => exact reads_of I m _ v u r ru h
    | int _ => exact reads_of I m _ v u r ru h
    | str _ => exact reads_of I m _ v u r ru h
    | ro _ => exact reads_of I m _ v u r ru h
    | dic _ _ => exact reads_of I m _ v u r ru h
theorem eqT_ok {k : Nat} (hr : Room k X.A) (neg : Bool) : OpR X (compareOp (if neg then .NotEq else .Eq)) (low2 X.K (wEqT neg)) := by
  intro pins s σ H x y v u Q I rx ry h
  obtain ⟨d, e, θ, μ, Qd, wk, rd, re, ⟨f1, f2, q⟩, f⟩ := h
  have hu : X.A.units + 64 < cLine := hr.units
  obtain ⟨as, ra⟩ := reads_thaw I wk 8 60 d x v rd rx f1
  obtain ⟨bs, rb⟩ := reads_thaw I wk 8 60 e y u re ry f2
  have dp := depth_pd _ _ f1
  have bl : ∀ {b : Bool}, Qd (.bl b) μ → EP X pins σ Q (.bool b) s := fun q => ⟨.bl _, H, I, rfl, f.at wk rp_bl q⟩
  cases neg with
  | true =>
    refine SeqAt.compareNe_reads ra rb (canLay_pd _ _ f1) (canLay_pd _ _ f2) (by omega) ?_
    rw [eqv_pd _ _ _ _ f1 f2]; exact bl (by simpa using q)
  | false =>
    refine SeqAt.compareEq_reads ra rb (canLay_pd _ _ f1) (canLay_pd _ _ f2) (by omega) ?_
    rw [eqv_pd _ _ _ _ f1 f2]; exact bl (by simpa using q)
end
end DW
end

section
set_option linter.all false
set_option autoImplicit false
set_option maxRecDepth 100000
namespace DW
open PySem PySem.Spec PyProof.Rows L2
section
variable {X : Cx}
/-! ### truth -/
theorem truV_of {K : PySem.W.Frag} {H : Hp} {θ : List Addr} {μ : Mem} {d : D} {x : V} {b : Bool} (wk : WOk K H θ μ) (r : Rp K H θ μ d x) (h : truth μ d = some b) : TruV K x H b := by
  cases d with
  | non => cases inv_non r; simp only [truth, Option.some.injEq] at h; exact h.symm
  | bl c => cases inv_bl r; simp only [truth, Option.some.injEq] at h; exact h.symm
  | int i => cases inv_int r; simp only [truth, Option.some.injEq] at h; exact h.symm
  | str y =>
    obtain ⟨rfl, hy⟩ := inv_str r
    simp only [truth, lenOf, Option.map_some, Option.some.injEq] at h
    refine ⟨by simpa [Str.length] using hy, ?_⟩
    rw [← h]
    simp [Str.length]
    cases y <;> simp <;> omega
  | dic ks ds =>
    obtain ⟨a, kvs, rfl, h1, _, h2, h3⟩ := inv_dic r
    simp only [truth, Option.some.injEq] at h
    refine .inr (.inr ⟨kvs, h1, ?_⟩)
    have := congrArg List.length h2
    simp at this
    rw [← h, ← this]
    cases kvs <;> simp
  | tup ds =>
    simp only [truth, lenOf, seqOf, Option.map_some, Option.some.injEq] at h
    obtain ⟨a, xs, rfl, hs, rs⟩ := seqOf_sq wk r (show seqOf μ (.tup ds) = some ds from rfl)
    have e : b = !xs.isEmpty := by rw [← h, rs.length]; cases xs <;> simp
    rcases hs with hs | hs
    · exact .inl ⟨xs, hs, e⟩
    · exact .inr (.inl ⟨xs, hs, e⟩)
  | lst ds =>
    simp only [truth, lenOf, seqOf, Option.map_some, Option.some.injEq] at h
    obtain ⟨a, xs, rfl, hs, rs⟩ := seqOf_sq wk r (show seqOf μ (.lst ds) = some ds from rfl)
    have e : b = !xs.isEmpty := by rw [← h, rs.length]; cases xs <;> simp
    rcases hs with hs | hs
    · exact .inl ⟨xs, hs, e⟩
    · exact .inr (.inl ⟨xs, hs, e⟩)
  | ro ds =>
    simp only [truth, lenOf, seqOf, Option.map_some, Option.some.injEq] at h
    obtain ⟨a, xs, rfl, hs, rs⟩ := seqOf_sq wk r (show seqOf μ (.ro ds) = some ds from rfl)
    have e : b = !xs.isEmpty := by rw [← h, rs.length]; cases xs <;> simp
    rcases hs with hs | hs
    · exact .inl ⟨xs, hs, e⟩
    · exact .inr (.inl ⟨xs, hs, e⟩)
  | loc n =>
    simp only [truth, lenOf] at h
    cases q : seqOf μ (.loc n) with
    | none => rw [q] at h; cases h
    | some ds =>
      rw [q] at h
      simp only [Option.map_some, Option.some.injEq] at h
      obtain ⟨a, xs, rfl, hs, rs⟩ := seqOf_sq wk r q
      have e : b = !xs.isEmpty := by rw [← h, rs.length]; cases xs <;> simp
      rcases hs with hs | hs
      · exact .inl ⟨xs, hs, e⟩
      · exact .inr (.inl ⟨xs, hs, e⟩)
theorem pt_truD {a : Expr} {wa : WE} (ha : PE X a (LE X.K wa)) (he : ∀ whole, isTrue a X.env whole = (do let v ← whole; standAt a.pos; holding [v] (truthy v))) :
    PT X a (LT X.K fun ρ μ Q => wa ρ μ fun d μ1 => wTru d μ1 Q) := PT.wk (pt_truth ha he) fun σ H Q h => by
  obtain ⟨ρ, θ, μ, Qd, s, h, f⟩ := h
  refine ⟨ρ, θ, μ, _, s, h, fun d v H1 θ1 μ1 w1 g1 r1 h1 => ?_⟩
  unfold wTru at h1
  split at h1
  · rename_i b e
    exact ⟨b, truV_of w1 r1 e, f b H1 θ1 μ1 w1 g1 h1⟩
  · exact h1.elim

/-! ### isinstance -/
theorem kit_tab (K : PySem.W.Frag) : ∀ a ∈ ["NoneType", "bool", "int", "str", "tuple", "list", "dict"], ∀ b ∈ ["int", "bool", "str", "tuple", "list", "dict"], PySem.W.kitOne K (.type a) (.type b) = some (isTy a b) := by
  intro a ha b hb
  simp only [List.mem_cons, List.not_mem_nil, or_false] at ha hb
  rcases ha with rfl | rfl | rfl | rfl | rfl | rfl | rfl <;> rcases hb with rfl | rfl | rfl | rfl | rfl | rfl <;> first | rfl | decide
theorem tyOf_TyOf {K : PySem.W.Frag} {H : Hp} {θ : List Addr} {μ : Mem} {d : D} {x : V} {t : String} (wk : WOk K H θ μ) (r : Rp K H θ μ d x) (h : tyOf μ d = some t) : TyOf K H x (.type t) ∧ t ∈ ["NoneType", "bool", "int", "str", "tuple", "list", "dict"] := by
  cases d with
  | non => cases inv_non r; cases h; exact ⟨.non, by simp⟩
  | bl c => cases inv_bl r; cases h; exact ⟨.bl _, by simp⟩
  | int i => cases inv_int r; cases h; exact ⟨.int _, by simp⟩
  | str y => cases (inv_str r).1; cases h; exact ⟨.str _, by simp⟩
  | dic ks ds => obtain ⟨a, kvs, rfl, h1, _⟩ := inv_dic r; cases h; exact ⟨.dK h1, by simp⟩
  | tup ds => obtain ⟨a, kvs, rfl, h1, _⟩ := inv_tup r; cases h; exact ⟨.tup h1, by simp⟩
  | lst ds => obtain ⟨a, kvs, rfl, h1, _⟩ := inv_lst r; cases h; exact ⟨.lst h1, by simp⟩
  | ro ds => cases h
  | loc n =>
    obtain ⟨a, rfl, h1⟩ := inv_loc r
    simp only [tyOf] at h
    split at h
    · rename_i es hn
      cases h
      obtain ⟨xs, h2, _⟩ := wk.list hn h1
      exact ⟨.lst h2, by simp⟩
    · rename_i ks es hn
      cases h
      obtain ⟨kvs, h2, _⟩ := wk.cell n _ a hn h1
      exact ⟨.dK h2, by simp⟩
    · cases h
theorem boot_tys : ∀ b ∈ ["int", "bool", "str", "tuple", "list", "dict"], bootBuiltins (Str.ofString b) = some (.type b) ∧ Str.ofString b ≠ "__name__" ∧ (Str.ofString b == ("__debug__" : Str)) = false := by
  intro b hb
  simp only [List.mem_cons, List.not_mem_nil, or_false] at hb
  rcases hb with rfl | rfl | rfl | rfl | rfl | rfl <;> exact ⟨by decide +kernel, by decide +kernel, by decide +kernel⟩
theorem boot_isinst : bootBuiltins "isinstance" = some (.builtin "isinstance") := by decide +kernel
theorem call_isinst : CallR X (.builtin "isinstance") (fun xs H Q => ∃ x t c, xs = [x, .ty c] ∧ TyOf X.K H x (.type t) ∧ t ∈ ["NoneType", "bool", "int", "str", "tuple", "list", "dict"] ∧ c ∈ ["int", "bool", "str", "tuple", "list", "dict"] ∧ Q (.bl (isTy t c)) H) := by
  intro pins s σ H xs us Q I r h
  obtain ⟨x, t, c, rfl, ty, ht, hc, q⟩ := h
  obtain ⟨u, w', rfl, rx, ry⟩ := vals2 r
  cases ry
  exact isinst_ok I rx ty (kit_tab X.K t ht c hc) fun tk => ⟨.bl _, H, I.tok tk, rfl, q⟩
theorem pe_isinD {a : Expr} {wa : WE} {t : String} {y z : Str} {p p2 pos : Pos} (ha : PE X a (LE X.K wa)) (ey : y = Str.ofString "isinstance") (ht : t ∈ ["int", "bool", "str", "tuple", "list", "dict"]) (ez : z = Str.ofString t) (g1 : Gl X y) (g2 : Gl X z) (m1 : X.mg y = none) (m2 : X.mg z = none)
    (hs : starEach [a, .Name z p2] X.env = (false, eval a X.env) :: starEach [.Name z p2] X.env) :
    PE X (.Call (.Name y p) [a, .Name z p2] [] pos) (LE X.K fun ρ μ Q => wa ρ μ fun d μ1 => wIsin t d μ1 Q) := by
  subst ey ez
  obtain ⟨b1, b2, b3⟩ := boot_tys t ht
  have hz : PE X (.Name (Str.ofString t) p2) (tC (.ty t)) := pe_bltn g2 m2 b1 rfl b2 b3
  refine PE.wk (pe_callB (x := Str.ofString "isinstance") call_isinst g1 m1 boot_isinst (pa_cons ha (pa_cons hz pa_nil) hs) (by decide +kernel) (by decide +kernel) hs rfl) fun σ H Q h => ?_
  obtain ⟨ρ, θ, μ, Qd, s, h, f⟩ := h
  refine ⟨ρ, θ, μ, _, s, h, fun d v H1 θ1 μ1 w1 g1 r1 h1 => ?_⟩
  unfold wIsin at h1
  split at h1
  · rename_i ty e
    obtain ⟨k1, k2⟩ := tyOf_TyOf w1 r1 e
    exact ⟨v, ty, t, rfl, k1, k2, ht, f _ _ H1 θ1 μ1 w1 g1 rp_bl h1⟩
  · exact h1.elim

/-! ### indexes, slices -/
theorem ixD_eq (n : Nat) (i : Int) : ixD n i = ixN n i := rfl
theorem reps_at {K : PySem.W.Frag} {H : Hp} {θ : List Addr} {μ : Mem} {ds : List D} {xs : List V} {i : Int} {d : D} (r : Rps K H θ μ ds xs) (h : (ixD ds.length i).bind (ds[·]?) = some d) : ∃ v, atI xs i = some v ∧ Rp K H θ μ d v := by
  rw [r.length, ixD_eq] at h
  cases q : ixN xs.length i with
  | none => rw [q] at h; cases h
  | some j =>
    rw [q] at h
    obtain ⟨v, e1, e2⟩ := r.get (i := j) h
    exact ⟨v, by unfold atI; rw [q]; exact e1, e2⟩
theorem idx_ok : IxR X (low2 X.K wIdx) := by
  intro value slice pins s σ H x y v u Q I rx ry h hs
  obtain ⟨d, e, θ, μ, Qd, wk, rd, re, hw, f⟩ := h
  unfold wIdx at hw
  split at hw
  · rename_i z i
    cases inv_int re
    obtain ⟨rfl, hz⟩ := inv_str rd
    split at hw
    · rename_i c hc
      refine ix_str value slice pins s σ H _ _ v u Q I rx ry ⟨_, i, c, rfl, rfl, by simpa [Str.length] using hz, ?_, f.at wk (rp_str (x := [c]) (by simp [sizeLine_eq])) hw⟩ hs
      unfold atI
      simpa [ixD_eq] using hc
    · exact hw.elim
  · rename_i x' i hne
    cases inv_int re
    split at hw
    · rename_i ds hq
      obtain ⟨a, xs, rfl, hx, r⟩ := seqOf_sq wk rd hq
      split at hw
      · rename_i d' hd
        obtain ⟨w', e1, e2⟩ := reps_at r hd
        rcases hx with hx | hx
        · exact ix_list value slice pins s σ H _ _ v u Q I rx ry ⟨a, xs, i, w', rfl, rfl, hx, e1, f.at wk e2 hw⟩ hs
        · exact ix_tup value slice pins s σ H _ _ v u Q I rx ry ⟨a, xs, i, w', rfl, rfl, hx, e1, f.at wk e2 hw⟩ hs
      · exact hw.elim
    · exact hw.elim
  · exact hw.elim
theorem sIxD_eq (n d : Nat) (o : Option Int) : sIxD n d o = HT.sIx n d o := by
  cases o with
  | none => rfl
  | some v => first | rfl | (simp only [sIxD, HT.sIx]; done) | (simp only [sIxD, HT.sIx]; split <;> omega)
noncomputable def lowSl (K : PySem.W.Frag) (m : Bool) : V → Option Int → Option Int → Hp → VK → Prop := fun x lo hi H Q => ∃ d θ μ Qd, WOk K H θ μ ∧ Rp K H θ μ d x ∧ wSlc m d lo hi μ Qd ∧ Fin K H θ μ Qd Q
theorem slc_ok (m : Bool) : SlR X (lowSl X.K m) := by
  intro pins s σ H x v vl vu lo hi sl Q I rx hs pl pu h
  obtain ⟨d, θ, μ, Qd, wk, rd, hw, f⟩ := h
  have go : ∀ {ds : List D} {a : Addr} {xs : List V}, x = .ref a → SqL X.K H a xs → Rps X.K H θ μ ds xs → newL m (cutD ds lo hi) μ Qd → _ := fun {ds a xs} ex hx r hn =>
    sl_list pins s σ H x v vl vu lo hi sl Q I rx hs pl pu ⟨a, xs, ex, hx, fun p hp => newL_ok wk f (by
      have : cutD ds lo hi = (ds.drop (HT.sIx ds.length 0 lo)).take (HT.sIx ds.length ds.length hi - HT.sIx ds.length 0 lo) := by unfold cutD; rw [sIxD_eq, sIxD_eq]
      rw [this, r.length]
      exact (r.drop _).take _) hn hp⟩
  cases d with
  | lst ds => obtain ⟨a, xs, rfl, h1, _, r⟩ := inv_lst rd; exact go rfl (.of h1) r hw
  | loc n =>
    obtain ⟨a, rfl, h1⟩ := inv_loc rd
    simp only [wSlc] at hw
    split at hw
    · rename_i ds hn
      obtain ⟨xs, h2, r⟩ := wk.list hn h1
      exact go rfl (.of h2) r hw
    · exact hw.elim
  | _ => exact hw.elim

/-! ### stores, methods -/
theorem setIx_ok : PSet X (fun o i v H Q => ∃ x y z θ μ k, WOk X.K H θ μ ∧ Rp X.K H θ μ x o ∧ Rp X.K H θ μ y i ∧ Rp X.K H θ μ z v ∧ wSetIx x y z μ k ∧ ∀ H' μ', WOk X.K H' θ μ' → Grow H θ μ H' θ μ' → k μ' → Q H') := by
  intro pins s σ H o i v ov iv u Q I ro ri rv h
  obtain ⟨x, y, z, θ, μ, k, wk, rx, ry, rz, hw, f⟩ := h
  unfold wSetIx at hw
  split at hw
  · rename_i n j
    obtain ⟨a, rfl, ha⟩ := inv_loc rx
    cases inv_int ry
    split at hw
    · rename_i xs hn
      split at hw
      · rename_i p hp
        obtain ⟨vs, h2, r⟩ := wk.list hn ha
        have g : Grow H θ μ (upd H a (.lst (vs.set p v))) θ (μ.set n (.lst (xs.set p z))) := Grow.write hn ha (by simp) (by simp)
        refine set_list pins s σ H _ _ v ov iv u Q I ro ri rv ⟨a, vs, j, p, rfl, rfl, h2, by rw [← ixD_eq, ← r.length]; exact hp, ?_⟩
        exact f _ _ (wk.write (c' := .lst (xs.set p z)) hn ha (by simp) (by simp) (show CellOk X.K _ _ _ a (.lst (xs.set p z)) from ⟨_, upd_same, (g.reps r).set (g.rep rz) p⟩)) g hw
      · exact hw.elim
    · exact hw.elim
  · exact hw.elim
theorem wMeth_inv {m : String} {x : V} {d : D} {ds : List D} {H : Hp} {θ : List Addr} {μ : Mem} {Qd : QD} (wk : WOk X.K H θ μ) (rd : Rp X.K H θ μ d x) (hw : wMeth m d ds μ Qd) :
    ∃ n a xs ys, d = .loc n ∧ x = .ref a ∧ θ[n]? = some a ∧ μ[n]? = some (.lst xs) ∧ H a = some (.lst ys) ∧ Rps X.K H θ μ xs ys ∧ wMethL m n xs ds μ Qd := by
  cases d with
  | loc n =>
    obtain ⟨a, rfl, ha⟩ := inv_loc rd
    simp only [wMeth] at hw
    split at hw
    · rename_i xs hn
      obtain ⟨ys, h2, r⟩ := wk.list hn ha
      exact ⟨n, a, xs, ys, rfl, rfl, ha, hn, h2, r, hw⟩
    · exact hw.elim
  | _ => exact hw.elim
/-- a cell's list is written -/
theorem fin_set {H : Hp} {θ : List Addr} {μ : Mem} {Qd : QD} {Q : VK} {n : Nat} {a : Addr} {xs xs' : List D} {ys' : List V} {e : D} {v : V} (wk : WOk X.K H θ μ) (f : Fin X.K H θ μ Qd Q) (ha : θ[n]? = some a) (hn : μ[n]? = some (.lst xs)) (r : Rps X.K H θ μ xs' ys')
    (re : Rp X.K H θ μ e v) (h : Qd e (μ.set n (.lst xs'))) : Q v (upd H a (.lst ys')) := by
  have g : Grow H θ μ (upd H a (.lst ys')) θ (μ.set n (.lst xs')) := Grow.write hn ha (by simp) (by simp)
  exact f e v _ _ _ (wk.write (c' := .lst xs') hn ha (by simp) (by simp) (show CellOk X.K _ _ _ a (.lst xs') from ⟨_, upd_same, g.reps r⟩)) g (g.rep re) h
theorem meth_append : MtR X "list.append" (lowM X.K (wMeth "append")) := by
  intro pins s σ H x vs v us Q I rx rv h
  obtain ⟨d, ds, θ, μ, Qd, wk, rd, rs, hw, f⟩ := h
  obtain ⟨n, a, xs, ys, rfl, rfl, ha, hn, h2, r, hw⟩ := wMeth_inv wk rd hw
  match ds, hw with
  | [e], hw =>
    obtain ⟨w', vr, rfl, r1, r2⟩ := rs.cons_inv
    cases r2.nil_inv
    have hw : xs.length < lim ∧ Qd .non (μ.set n (.lst (xs ++ [e]))) := hw
    exact mt_append pins s σ H _ _ v us Q I rx rv ⟨a, ys, w', rfl, rfl, h2, by rw [← r.length, ← lim_eq]; exact hw.1, fin_set wk f ha hn (r.append (Reps.one r1)) rp_non hw.2⟩
  | [], hw => simp [wMethL] at hw
  | e1 :: e2 :: er, hw => cases e1 <;> cases er <;> simp [wMethL] at hw
theorem meth_extend : MtR X "list.extend" (lowM X.K (wMeth "extend")) := by
  intro pins s σ H x vs v us Q I rx rv h
  obtain ⟨d, ds, θ, μ, Qd, wk, rd, rs, hw, f⟩ := h
  obtain ⟨n, a, xs, ys, rfl, rfl, ha, hn, h2, r, hw⟩ := wMeth_inv wk rd hw
  match ds, hw with
  | [e], hw =>
    obtain ⟨w', vr, rfl, r1, r2⟩ := rs.cons_inv
    cases r2.nil_inv
    simp only [wMethL] at hw
    split at hw
    · rename_i es he
      obtain ⟨b, zs, rfl, hb, rz⟩ : ∃ b zs, w' = .ref b ∧ H b = some (.lst zs) ∧ Rps X.K H θ μ es zs := by
        cases e with
        | lst l => simp only [wlOf, Option.some.injEq] at he; subst he; obtain ⟨b, zs, e1, e2, _, e3⟩ := inv_lst r1; exact ⟨b, zs, e1, e2, e3⟩
        | loc k =>
          obtain ⟨b, rfl, hb⟩ := inv_loc r1
          simp only [wlOf] at he
          split at he
          · rename_i l hl
            cases he
            obtain ⟨zs, e1, e2⟩ := wk.list hl hb
            exact ⟨b, zs, rfl, e1, e2⟩
          · cases he
        | _ => simp [wlOf] at he
      have l1 := r.length
      have l2 := rz.length
      exact mt_extend pins s σ H _ _ v us Q I rx rv ⟨a, b, ys, zs, rfl, rfl, h2, hb, by rw [← l1, ← l2, ← lim_eq]; exact hw.1, fin_set wk f ha hn (r.append rz) rp_non hw.2⟩
    · exact hw.elim
  | [], hw => simp [wMethL] at hw
  | e1 :: e2 :: er, hw => cases e1 <;> cases er <;> simp [wMethL] at hw
theorem meth_clear : MtR X "list.clear" (lowM X.K (wMeth "clear")) := by
  intro pins s σ H x vs v us Q I rx rv h
  obtain ⟨d, ds, θ, μ, Qd, wk, rd, rs, hw, f⟩ := h
  obtain ⟨n, a, xs, ys, rfl, rfl, ha, hn, h2, r, hw⟩ := wMeth_inv wk rd hw
  match ds, hw with
  | [], hw =>
    cases rs.nil_inv
    exact mt_clear pins s σ H _ _ v us Q I rx rv ⟨a, ys, rfl, rfl, h2, fin_set wk f ha hn Reps.nil rp_non hw⟩
  | [e], hw => simp [wMethL] at hw
  | e1 :: e2 :: er, hw => cases e1 <;> cases er <;> simp [wMethL] at hw
theorem Reps.eraseIdx' {K : PySem.W.Frag} {H : Hp} {θ : List Addr} {L : Addr → Prop} {ds : List D} {vs : List V} (h : Reps K H θ L ds vs) (k : Nat) : Reps K H θ L (ds.eraseIdx k) (vs.eraseIdx k) := by
  rw [List.eraseIdx_eq_take_drop_succ, List.eraseIdx_eq_take_drop_succ]
  exact (h.take k).append (h.drop (k + 1))
theorem wl_inv {H : Hp} {θ : List Addr} {μ : Mem} {d : D} {v : V} {ds : List D} (wk : WOk X.K H θ μ) (r : Rp X.K H θ μ d v) (h : wlOf μ d = some ds) : ∃ a xs, v = .ref a ∧ H a = some (.lst xs) ∧ Rps X.K H θ μ ds xs := by
  cases d with
  | lst l => simp only [wlOf, Option.some.injEq] at h; subst h; obtain ⟨b, zs, e1, e2, _, e3⟩ := inv_lst r; exact ⟨b, zs, e1, e2, e3⟩
  | loc k =>
    obtain ⟨b, rfl, hb⟩ := inv_loc r
    simp only [wlOf] at h
    split at h
    · rename_i l hl
      cases h
      obtain ⟨zs, e1, e2⟩ := wk.list hl hb
      exact ⟨b, zs, rfl, e1, e2⟩
    · cases h
  | _ => simp [wlOf] at h
theorem cat_ok (m : Bool) : OpR X (binaryOp .Add) (low2 X.K (wCat m)) := by
  intro pins s σ H x y v u Q I rx ry h
  obtain ⟨d, e, θ, μ, Qd, wk, rd, re, hw, f⟩ := h
  unfold wCat at hw
  split at hw
  · rename_i as ha
    split at hw
    · rename_i bs hb
      obtain ⟨a, xs, rfl, h1, r1⟩ := wl_inv wk rd ha
      obtain ⟨b, ys, rfl, h2, r2⟩ := wl_inv wk re hb
      have l1 := r1.length
      have l2 := r2.length
      exact op_cat pins s σ H _ _ v u Q I rx ry ⟨a, b, xs, ys, rfl, rfl, h1, h2, by rw [← l1, ← l2, ← lim_eq]; exact hw.1, fun p hp => newL_ok wk f (r1.append r2) hw.2 hp⟩
    · exact hw.elim
  · exact hw.elim
end
end DW
end

section
set_option linter.all false
set_option autoImplicit false
set_option maxRecDepth 100000
namespace DW
open PySem PySem.Spec PyProof.Rows L2
section
variable {X : Cx}
theorem lstOf_sq {K : PySem.W.Frag} {H : Hp} {θ : List Addr} {μ : Mem} {ds : List D} {d : D} {v : V} (wk : WOk K H θ μ) (r : Rp K H θ μ d v) (h : lstOf μ d = some ds) : ∃ a xs, v = .ref a ∧ SqL K H a xs ∧ Rps K H θ μ ds xs := by
  cases d with
  | lst es => simp only [lstOf, seqOf, Option.some.injEq] at h; subst h; obtain ⟨a, xs, e, h1, _, h3⟩ := inv_lst r; exact ⟨a, xs, e, .of h1, h3⟩
  | ro es => simp only [lstOf, seqOf, Option.some.injEq] at h; subst h; obtain ⟨a, xs, e, h1, h3⟩ := inv_ro r; exact ⟨a, xs, e, SqL_ro h1, h3⟩
  | loc n =>
    obtain ⟨a, e, h1⟩ := inv_loc r
    simp only [lstOf, seqOf] at h
    split at h
    · rename_i es hn
      simp only [Option.some.injEq] at h; subst h
      obtain ⟨xs, h2, h3⟩ := wk.list hn h1
      exact ⟨a, xs, e, .of h2, h3⟩
    · cases h
  | _ => simp [lstOf, seqOf] at h
theorem ints_V {K : PySem.W.Frag} {H : Hp} {θ : List Addr} {μ : Mem} : ∀ {ds : List D} {xs : List V} {ns : List Int}, Rps K H θ μ ds xs → intsD ds = some ns → xs = ns.map V.int
  | [], xs, ns, r, h => by
    cases r.nil_inv
    simp only [intsD, Option.some.injEq] at h
    subst h; rfl
  | d :: ds, xs, ns, r, h => by
    obtain ⟨v, vr, rfl, h1, h2⟩ := r.cons_inv
    cases d with
    | int i =>
      simp only [intsD] at h
      cases q : intsD ds with
      | none => rw [q] at h; cases h
      | some ms =>
        rw [q] at h
        simp only [Option.map_some, Option.some.injEq] at h
        subst h
        cases inv_int h1
        rw [ints_V h2 q]; rfl
    | _ => simp [intsD] at h
theorem bools_V {K : PySem.W.Frag} {H : Hp} {θ : List Addr} {μ : Mem} : ∀ {ds : List D} {xs : List V} {b : Bool}, Rps K H θ μ ds xs → allB ds = some b → ∃ bs : List Bool, xs = bs.map V.bl ∧ bs.all id = b
  | [], xs, b, r, h => by
    cases r.nil_inv
    simp only [allB, Option.some.injEq] at h
    subst h; exact ⟨[], rfl, rfl⟩
  | d :: ds, xs, b, r, h => by
    obtain ⟨v, vr, rfl, h1, h2⟩ := r.cons_inv
    cases d with
    | bl c =>
      simp only [allB] at h
      cases q : allB ds with
      | none => rw [q] at h; cases h
      | some ms =>
        rw [q] at h
        simp only [Option.map_some, Option.some.injEq] at h
        subst h
        cases inv_bl h1
        obtain ⟨bs, rfl, e⟩ := bools_V h2 q
        exact ⟨c :: bs, rfl, by simp [← e]⟩
    | _ => simp [allB] at h

/-! ### a list that is walked by a built-in -/
theorem kept_iter {h h' : Heap} {o : Obj} (hk : ∀ b ob, b ∉ [h.objs.size] → (h.push o).get? b = some ob → h'.get? b = some ob) : ∀ b ob, h.get? b = some ob → h'.get? b = some ob := fun b ob e =>
  hk b ob (fun hm => by
    have := List.mem_singleton.mp hm
    subst this
    exact Nat.lt_irrefl _ (Heap.lt_size e)) (Heap.get?_push_of_some _ e)
theorem call_allL (hc : X.calm = true) : CallR X (.builtin "all") (fun xs H Q => ∃ p, ∃ bs : List Bool, xs = [.ref p] ∧ SqL X.K H p (bs.map V.bl) ∧ Q (.bl (bs.all id)) H) := by
  intro pins s σ H xs us Q I r h
  obtain ⟨p, bs, rfl, hx, q⟩ := h
  obtain ⟨u, rfl, rx⟩ := vals1 r
  cases rx
  obtain ⟨its, rv, pl, hz⟩ := I.list hx
  have hlt : p < s.heap.objs.size := by obtain ⟨o, n, e, _⟩ := pl; exact Heap.lt_size e
  have hlen : bs.length = its.length := by have := rv.length; simpa using this
  have hit : ∀ (i : Nat) (v : Value), its.toArray[i]? = some v → v = .bool (bs.getD i true) := fun i v e => by
    have e' : its[i]? = some v := by simpa using e
    have hi : i < bs.length := by rw [hlen]; exact (List.getElem?_eq_some_iff.mp e').1
    obtain ⟨w', h1, h2⟩ := rv.get (i := i) (x := .bl (bs.getD i true)) (by simp [hi])
    rw [e'] at h1; cases h1; exact h2
  refine call_all_walk (wpAny_pyIter_list pl.isList ?_)
  refine ⟨s.heap.objs.size, _, _, _, _, _, fun i => bs.getD i true, rfl, Walks.list (A := X.A.in1) (I.ok.hd hc) _ p (Nat.ne_of_lt hlt) its.toArray, ⟨⟨_, Heap.get?_push_size _ rfl, rfl, rfl⟩, pl.isList.push _⟩, fun i v s' Q' E' hP hQ => ?_, fun h' tk hk => ?_⟩
  · rw [hit i v hP]; exact wpAny_truthy_bool hQ
  · refine ⟨.bl (bs.all id), H, I.kept (kept_iter hk), ?_, q⟩
    show Value.bool _ = Value.bool _
    congr 1
    rw [List.size_toArray, ← hlen, Bool.eq_iff_iff, List.all_eq_true, List.all_eq_true]
    constructor
    · intro hh x hx
      obtain ⟨i, hi, rfl⟩ := List.mem_iff_getElem.mp hx
      have := hh i (by simpa using hi)
      simpa [hi] using this
    · intro hh i hi
      have hi' : i < bs.length := by simpa using hi
      have := hh bs[i] (List.getElem_mem hi')
      simpa [hi'] using this
theorem vals_intItems : ∀ {ns : List Int} {its : List Value}, Vals (ns.map V.int) its → ∃ xs : Array (Int × Tok), its.toArray = intItems xs ∧ xs.toList.map (·.1) = ns
  | [], its, h => by cases h; exact ⟨#[], by simp [intItems], rfl⟩
  | n :: ns, its, h => by
    cases h with
    | cons r rr =>
      obtain ⟨t, rfl⟩ := r
      obtain ⟨xs, e1, e2⟩ := vals_intItems rr
      refine ⟨((n, t) :: xs.toList).toArray, ?_, by simp [e2]⟩
      have e1' := congrArg Array.toList e1
      simp only [intItems, Array.toList_map] at e1'
      apply Array.toList_inj.mp
      simp only [intItems, Array.toList_map]
      simpa using e1'
theorem min_arg (xs : Array (Int × Tok)) (n : Int) (ns : List Int) (h : xs.toList.map (·.1) = n :: ns) : numAt xs (argBest (fun i j => decide (numAt xs i < numAt xs j)) (xs.size - 1)) = ns.foldl min n := by
  have key : ∀ k, k < (n :: ns).length → numAt xs (argBest (fun i j => decide (numAt xs i < numAt xs j)) k) = (ns.take k).foldl min n := by
    intro k
    have at_ : ∀ i, numAt xs i = ((n :: ns)[i]?).getD 0 := fun i => by
      rw [← h]; simp [numAt]
    induction k with
    | zero => intro _; simp [argBest, at_]
    | succ k ih =>
      intro hk
      have ih' := ih (by omega)
      have hk' : k < ns.length := by simpa using hk
      have e : ns.take (k + 1) = ns.take k ++ [ns[k]] := by rw [List.take_succ_eq_append_getElem hk']
      rw [e, List.foldl_append]
      simp only [List.foldl_cons, List.foldl_nil]
      rw [← ih']
      simp only [argBest]
      have a1 : numAt xs (k + 1) = ns[k] := by rw [at_]; simp [hk']
      split
      · rename_i hgt
        have hgt := of_decide_eq_true hgt
        rw [a1] at hgt ⊢
        omega
      · rename_i hgt
        have hgt : ¬ (numAt xs (k + 1) < _) := fun z => hgt (decide_eq_true z)
        rw [a1] at hgt
        omega
  have hs : xs.size = (n :: ns).length := by rw [← h]; simp
  have := key (xs.size - 1) (by rw [hs]; simp)
  rw [this, hs, List.take_of_length_le (by simp)]
theorem call_minL (hc : X.calm = true) : CallR X (.builtin "min") (fun xs H Q => ∃ p, ∃ n : Int, ∃ ns : List Int, xs = [.ref p] ∧ SqL X.K H p ((n :: ns).map V.int) ∧ Q (.int (ns.foldl min n)) H) := by
  intro pins s σ H xs us Q I r h
  obtain ⟨p, n, ns, rfl, hx, q⟩ := h
  obtain ⟨u, rfl, rx⟩ := vals1 r
  cases rx
  obtain ⟨its, rv, pl, hz⟩ := I.list hx
  obtain ⟨zs, e1, e2⟩ := vals_intItems rv
  have hl := pl.isList
  rw [e1] at hl
  have hs : zs.size = (n :: ns).length := by rw [← e2]; simp
  refine min_intList (I.ok.hd hc) hl (by rw [hs]; simp) fun v h' tk hv hk => ?_
  obtain ⟨t, rfl⟩ := intItems_at hv
  exact ⟨.int _, H, I.kept hk, ⟨t, by rw [min_arg zs n ns e2]⟩, q⟩
theorem max_arg (xs : Array (Int × Tok)) (n : Int) (ns : List Int) (h : xs.toList.map (·.1) = n :: ns) : numAt xs (argBest (fun i j => decide (numAt xs i > numAt xs j)) (xs.size - 1)) = ns.foldl max n := by
  have key : ∀ k, k < (n :: ns).length → numAt xs (argBest (fun i j => decide (numAt xs i > numAt xs j)) k) = (ns.take k).foldl max n := by
    intro k
    have at_ : ∀ i, numAt xs i = ((n :: ns)[i]?).getD 0 := fun i => by
      rw [← h]; simp [numAt]
    induction k with
    | zero => intro _; simp [argBest, at_]
    | succ k ih =>
      intro hk
      have ih' := ih (by omega)
      have hk' : k < ns.length := by simpa using hk
      have e : ns.take (k + 1) = ns.take k ++ [ns[k]] := by rw [List.take_succ_eq_append_getElem hk']
      rw [e, List.foldl_append]
      simp only [List.foldl_cons, List.foldl_nil]
      rw [← ih']
      simp only [argBest]
      have a1 : numAt xs (k + 1) = ns[k] := by rw [at_]; simp [hk']
      split
      · rename_i hgt
        have hgt := of_decide_eq_true hgt
        rw [a1] at hgt ⊢
        omega
      · rename_i hgt
        have hgt : ¬ (numAt xs (k + 1) > _) := fun z => hgt (decide_eq_true z)
        rw [a1] at hgt
        omega
  have hs : xs.size = (n :: ns).length := by rw [← h]; simp
  have := key (xs.size - 1) (by rw [hs]; simp)
  rw [this, hs, List.take_of_length_le (by simp)]
theorem call_maxL (hc : X.calm = true) : CallR X (.builtin "max") (fun xs H Q => ∃ p, ∃ n : Int, ∃ ns : List Int, xs = [.ref p] ∧ SqL X.K H p ((n :: ns).map V.int) ∧ Q (.int (ns.foldl max n)) H) := by
  intro pins s σ H xs us Q I r h
  obtain ⟨p, n, ns, rfl, hx, q⟩ := h
  obtain ⟨u, rfl, rx⟩ := vals1 r
  cases rx
  obtain ⟨its, rv, pl, hz⟩ := I.list hx
  obtain ⟨zs, e1, e2⟩ := vals_intItems rv
  have hl := pl.isList
  rw [e1] at hl
  have hs : zs.size = (n :: ns).length := by rw [← e2]; simp
  refine max_intList (I.ok.hd hc) hl (by rw [hs]; simp) fun v h' tk hv hk => ?_
  obtain ⟨t, rfl⟩ := intItems_at hv
  exact ⟨.int _, H, I.kept hk, ⟨t, by rw [max_arg zs n ns e2]⟩, q⟩
end
end DW
end

section
set_option linter.all false
set_option autoImplicit false
/-! SO: the machine's sorting of less than 64 things, as a tree of questions, sorts. -/
namespace DW
open PySem PySem.W PyProof.Rows

section
variable {lt : Nat → Nat → Bool} (hA : ∀ a b, lt a b = true → lt b a = false) (hT : ∀ a b c, lt b a = false → lt c b = false → lt c a = false)
end
/-! every question is about two of the n -/
end DW
end

section
set_option linter.all false
set_option autoImplicit false
set_option maxRecDepth 100000
set_option maxHeartbeats 4000000
/-! SW: sorted of a list of less than 64 things whose comparisons are known and change nothing. -/
namespace DW
open PySem PySem.W PySem.Calls PyProof.Rows

section
variable {prog : Program} {w : World} {A : Around} {E : Value → Shared → Prop} {s : Shared} {vs : List Value} {lt : Nat → Nat → Bool}
end
end DW
end

section
set_option linter.all false
set_option autoImplicit false
set_option maxRecDepth 100000
set_option maxHeartbeats 4000000
/-! SW2: the comparisons of items. -/
namespace DW
open PySem PySem.W PySem.Calls PyProof.Rows

theorem ltCs_lt : ∀ (x y : List Nat), ltCs x y = decide (x < y)
  | [], [] => by simp [ltCs]
  | [], _ :: _ => by simp [ltCs]
  | _ :: _, [] => by simp [ltCs]
  | a :: x, b :: y => by
    unfold ltCs
    by_cases h : a = b
    · subst h
      rw [if_pos rfl, ltCs_lt x y]
      simp [List.cons_lt_cons_iff]
    · rw [if_neg h]
      simp [List.cons_lt_cons_iff, h]
/-- v stands for the item x -/
noncomputable def IsItem (h : Heap) (v : Value) (x : Itm) : Prop := ∃ (a : Addr) (o : Obj) (t u : Tok) (n : Nat), v = .ref a ∧ h.get? a = some o ∧ o.cls = .type "tuple" ∧ o.data = .seq #[.int x.1 t, .str ⟨x.2.toArray⟩ u] n
noncomputable def ltAt (r : List Itm) (i j : Nat) : Bool := lt2 (r[i]?.getD (0, [])) (r[j]?.getD (0, []))
section
variable {prog : Program} {w : World} {A : Around} {E : Value → Shared → Prop}
end
end DW
end

section
set_option linter.all false
set_option autoImplicit false
/-! ORD0: the order of items is total; a row in order is one alone. -/
namespace DW
theorem ltCs_irr : ∀ x : List Nat, ltCs x x = false
  | [] => rfl
  | a :: x => by simp [ltCs, ltCs_irr x]
theorem ltCs_asym : ∀ x y : List Nat, ltCs x y = true → ltCs y x = false
  | [], [], h => by simp [ltCs] at h
  | [], _ :: _, _ => rfl
  | _ :: _, [], h => by simp [ltCs] at h
  | a :: x, b :: y, h => by
    unfold ltCs at h ⊢
    by_cases e : a = b
    · rw [if_pos e] at h
      rw [if_pos e.symm]
      exact ltCs_asym x y h
    · rw [if_neg e] at h
      rw [if_neg (fun z => e z.symm)]
      simp at h ⊢; omega
theorem ltCs_tot : ∀ x y : List Nat, ltCs x y = false → ltCs y x = false → x = y
  | [], [], _, _ => rfl
  | [], _ :: _, h, _ => by simp [ltCs] at h
  | _ :: _, [], _, h => by simp [ltCs] at h
  | a :: x, b :: y, h, k => by
    unfold ltCs at h k
    by_cases e : a = b
    · rw [if_pos e] at h
      rw [if_pos e.symm] at k
      rw [e, ltCs_tot x y h k]
    · rw [if_neg e] at h
      rw [if_neg (fun z => e z.symm)] at k
      simp at h k; omega
theorem ltCs_trans : ∀ x y z : List Nat, ltCs y x = false → ltCs z y = false → ltCs z x = false
  | x, y, [], h, k => by
    cases x with
    | nil => rfl
    | cons a x =>
      cases y with
      | nil => simp [ltCs] at h
      | cons b y => simp [ltCs] at k
  | [], y, c :: z, h, k => by simp [ltCs]
  | a :: x, [], c :: z, h, k => by simp [ltCs] at h
  | a :: x, b :: y, c :: z, h, k => by
    unfold ltCs at h k ⊢
    by_cases e : b = a
    · by_cases f : c = b
      · rw [if_pos e] at h; rw [if_pos f] at k; rw [if_pos (f.trans e)]
        exact ltCs_trans x y z h k
      · rw [if_neg f] at k; subst e; rw [if_neg f]; exact k
    · rw [if_neg e] at h
      by_cases f : c = b
      · subst f; rw [if_neg e]; exact h
      · rw [if_neg f] at k
        simp at h k
        rw [if_neg (by omega)]
        simp; omega
theorem lt2_asym (x y : Itm) (h : lt2 x y = true) : lt2 y x = false := by
  unfold lt2 at h ⊢
  by_cases e : x.1 = y.1
  · rw [if_pos e] at h; rw [if_pos e.symm]; exact ltCs_asym _ _ h
  · rw [if_neg e] at h; rw [if_neg (fun z => e z.symm)]; simp at h ⊢; omega
theorem lt2_tot (x y : Itm) (h : lt2 x y = false) (k : lt2 y x = false) : x = y := by
  unfold lt2 at h k
  by_cases e : x.1 = y.1
  · rw [if_pos e] at h; rw [if_pos e.symm] at k
    exact Prod.ext e (ltCs_tot _ _ h k)
  · rw [if_neg e] at h; rw [if_neg (fun z => e z.symm)] at k; simp at h k; omega
theorem lt2_trans (x y z : Itm) (h : lt2 y x = false) (k : lt2 z y = false) : lt2 z x = false := by
  unfold lt2 at h k ⊢
  by_cases e : y.1 = x.1
  · by_cases f : z.1 = y.1
    · rw [if_pos e] at h; rw [if_pos f] at k; rw [if_pos (f.trans e)]; exact ltCs_trans _ _ _ h k
    · rw [if_neg f] at k; rw [← e, if_neg f]; exact k
  · rw [if_neg e] at h
    by_cases f : z.1 = y.1
    · rw [f, if_neg e]; exact h
    · rw [if_neg f] at k
      simp at h k
      rw [if_neg (by omega)]; simp; omega
theorem lt2_irr (x : Itm) : lt2 x x = false := by simp [lt2, ltCs_irr]
end DW
end

section
set_option linter.all false
set_option autoImplicit false
/-! SW3: what the sorting of items gives. -/
namespace DW
open PySem PySem.W PyProof.Rows
theorem ltAt_asym (r : List Itm) : ∀ a b, ltAt r a b = true → ltAt r b a = false := fun a b h => lt2_asym _ _ h
theorem ltAt_trans (r : List Itm) : ∀ a b c, ltAt r b a = false → ltAt r c b = false → ltAt r c a = false := fun a b c h k => lt2_trans _ _ _ h k
end DW
/-! whole numbers -/
namespace DW
open PySem PySem.W PySem.Calls PyProof.Rows
section
variable {prog : Program} {w : World} {A : Around} {E : Value → Shared → Prop}
end
end DW
end

section
set_option linter.all false
set_option autoImplicit false
set_option maxRecDepth 100000
namespace DW
open PySem PySem.Spec PyProof.Rows L2
section
variable {X : Cx}
theorem one_of {K : PySem.W.Frag} {b : String} {vs : List V} {H : Hp} {Q : VK} (h : lowA K (wBlt b) vs H Q) : (∃ d v θ μ Qd, vs = [v] ∧ WOk K H θ μ ∧ Rp K H θ μ d v ∧ wBlt b [d] μ Qd ∧ Fin K H θ μ Qd Q) ∨ ∃ d e v w θ μ Qd, vs = [v, w] ∧ WOk K H θ μ ∧ Rp K H θ μ d v ∧ Rp K H θ μ e w ∧ wBlt b [d, e] μ Qd ∧ Fin K H θ μ Qd Q := by
  obtain ⟨ds, θ, μ, Qd, wk, rs, hw, f⟩ := h
  match ds, hw with
  | [], hw => exact hw.elim
  | [d], hw =>
    obtain ⟨v, r, rfl, r1, r2⟩ := rs.cons_inv
    cases r2.nil_inv
    exact .inl ⟨d, v, θ, μ, Qd, rfl, wk, r1, hw, f⟩
  | [d, e], hw =>
    obtain ⟨v, r, rfl, r1, r2⟩ := rs.cons_inv
    obtain ⟨w, r, rfl, r3, r4⟩ := r2.cons_inv
    cases r4.nil_inv
    exact .inr ⟨d, e, v, w, θ, μ, Qd, rfl, wk, r1, r3, hw, f⟩
  | _ :: _ :: _ :: _, hw => exact hw.elim
theorem blt_len : CallR X (.builtin "len") (lowA X.K (wBlt "len")) := by
  intro pins s σ H xs us Q I r h
  rcases one_of h with ⟨d, v, θ, μ, Qd, rfl, wk, rd, hw, f⟩ | ⟨d, e, v, w, θ, μ, Qd, rfl, wk, rd, re, hw, f⟩
  · simp only [wBlt] at hw
    split at hw
    · rename_i n hn
      refine call_len pins s σ H _ us Q I r ⟨v, n, rfl, ?_, f.at wk rp_int hw⟩
      have seq : ∀ {ds : List D}, seqOf μ d = some ds → n = ds.length → LenV X.K v H n := fun {ds} hq hl => by
        obtain ⟨a, xs, rfl, hx, r'⟩ := seqOf_sq wk rd hq
        rcases hx with hx | hx
        · exact .inl ⟨xs, hx, hl.trans r'.length⟩
        · exact .inr ⟨xs, hx, hl.trans r'.length⟩
      cases d with
      | str x =>
        obtain ⟨rfl, hx⟩ := inv_str rd
        simp only [lenOf, Option.some.injEq] at hn
        exact ⟨by simpa [Str.length] using hx, by rw [← hn]; simp [Str.length]⟩
      | _ =>
        simp only [lenOf] at hn
        first
          | (simp [seqOf] at hn; done)
          | (cases q : seqOf μ _ with
             | none => rw [q] at hn; cases hn
             | some ds => rw [q] at hn; simp only [Option.map_some, Option.some.injEq] at hn; exact seq q hn.symm)
    · exact hw.elim
  · simp [wBlt] at hw
theorem blt_abs : CallR X (.builtin "abs") (lowA X.K (wBlt "abs")) := by
  intro pins s σ H xs us Q I r h
  rcases one_of h with ⟨d, v, θ, μ, Qd, rfl, wk, rd, hw, f⟩ | ⟨d, e, v, w, θ, μ, Qd, rfl, wk, rd, re, hw, f⟩
  · cases d with
    | int i => cases inv_int rd; exact call_abs pins s σ H _ us Q I r ⟨i, rfl, f.at wk rp_int hw⟩
    | _ => simp [wBlt] at hw
  · simp [wBlt] at hw
theorem blt_all (hc : X.calm = true) : CallR X (.builtin "all") (lowA X.K (wBlt "all")) := by
  intro pins s σ H xs us Q I r h
  rcases one_of h with ⟨d, v, θ, μ, Qd, rfl, wk, rd, hw, f⟩ | ⟨d, e, v, w, θ, μ, Qd, rfl, wk, rd, re, hw, f⟩
  · simp only [wBlt] at hw
    split at hw
    · rename_i b hb
      cases q : lstOf μ d with
      | none => rw [q] at hb; cases hb
      | some ds =>
        rw [q] at hb
        obtain ⟨a, ys, rfl, hx, rs⟩ := lstOf_sq wk rd q
        obtain ⟨bs, rfl, eb⟩ := bools_V rs hb
        exact call_allL hc pins s σ H _ us Q I r ⟨a, bs, rfl, hx, f.at wk rp_bl (by rw [eb]; exact hw)⟩
    · exact hw.elim
  · simp [wBlt] at hw
theorem blt_max (hc : X.calm = true) : CallR X (.builtin "max") (lowA X.K (wBlt "max")) := by
  intro pins s σ H xs us Q I r h
  rcases one_of h with ⟨d, v, θ, μ, Qd, rfl, wk, rd, hw, f⟩ | ⟨d, e, v, w, θ, μ, Qd, rfl, wk, rd, re, hw, f⟩
  · simp only [wBlt] at hw
    split at hw
    · rename_i n ns hb
      cases q : lstOf μ d with
      | none => rw [q] at hb; cases hb
      | some ds =>
        rw [q] at hb
        obtain ⟨a, ys, rfl, hx, rs⟩ := lstOf_sq wk rd q
        cases ints_V rs hb
        exact call_maxL hc pins s σ H _ us Q I r ⟨a, n, ns, rfl, hx, f.at wk rp_int hw⟩
    · exact hw.elim
  · cases d with
    | int i =>
      cases e with
      | int j =>
        cases inv_int rd; cases inv_int re
        exact call_max2 hc pins s σ H _ us Q I r ⟨i, j, rfl, f.at wk rp_int hw⟩
      | _ => simp [wBlt] at hw
    | _ => simp [wBlt] at hw
theorem blt_min (hc : X.calm = true) : CallR X (.builtin "min") (lowA X.K (wBlt "min")) := by
  intro pins s σ H xs us Q I r h
  rcases one_of h with ⟨d, v, θ, μ, Qd, rfl, wk, rd, hw, f⟩ | ⟨d, e, v, w, θ, μ, Qd, rfl, wk, rd, re, hw, f⟩
  · simp only [wBlt] at hw
    split at hw
    · rename_i n ns hb
      cases q : lstOf μ d with
      | none => rw [q] at hb; cases hb
      | some ds =>
        rw [q] at hb
        obtain ⟨a, ys, rfl, hx, rs⟩ := lstOf_sq wk rd q
        cases ints_V rs hb
        exact call_minL hc pins s σ H _ us Q I r ⟨a, n, ns, rfl, hx, f.at wk rp_int hw⟩
    · exact hw.elim
  · cases d with
    | int i =>
      cases e with
      | int j =>
        cases inv_int rd; cases inv_int re
        exact call_min2 hc pins s σ H _ us Q I r ⟨i, j, rfl, f.at wk rp_int hw⟩
      | _ => simp [wBlt] at hw
    | _ => simp [wBlt] at hw
theorem blt_list : CallR X (.type "list") (lowA X.K (wBlt "list")) := by
  intro pins s σ H xs us Q I r h
  rcases one_of h with ⟨d, v, θ, μ, Qd, rfl, wk, rd, hw, f⟩ | ⟨d, e, v, w, θ, μ, Qd, rfl, wk, rd, re, hw, f⟩
  · simp only [wBlt] at hw
    split at hw
    · rename_i ds hq
      obtain ⟨a, ys, rfl, hx, rs⟩ := seqOf_sq wk rd hq
      exact call_list_of pins s σ H _ us Q I r ⟨a, ys, rfl, hx, fun l hl => new_lst wk f rs hw hl⟩
    · exact hw.elim
  · simp [wBlt] at hw
theorem blt_divmod : CallR X (.builtin "divmod") (lowA X.K (wBlt "divmod")) := by
  intro pins s σ H xs us Q I r h
  rcases one_of h with ⟨d, v, θ, μ, Qd, rfl, wk, rd, hw, f⟩ | ⟨d, e, v, w, θ, μ, Qd, rfl, wk, rd, re, hw, f⟩
  · simp [wBlt] at hw
  · cases d with
    | int i =>
      cases e with
      | int j =>
        cases inv_int rd; cases inv_int re
        have hw : CDivD j ∧ Qd (.tup [.int (i / j), .int (i % j)]) μ := hw
        obtain ⟨⟨h1, h2⟩, hq⟩ := hw
        obtain ⟨u, w', rfl, ⟨t, rfl⟩, ⟨t', rfl⟩⟩ := vals2 r
        have h3 : j.natAbs < 2 ^ 500 := by omega
        have h4 : j.natAbs ≠ 0 := by omega
        have h5 := (Nat.log2_lt h4).mpr h3
        refine divmod_int (by omega) ?_ (.inl (PyProof.noPylong_of_log2 (by omega)))
        rw [Int.fdiv_eq_ediv_of_nonneg i (by omega), Int.fmod_eq_emod_of_nonneg i (by omega)]
        have hn : H s.heap.objs.size = none := I.hok.fresh (Nat.le_refl _)
        refine ⟨.ref s.heap.objs.size, _, ?_, rfl, new_tup wk f (xs := [.int (i / j), .int (i % j)]) (.cons rp_int (.cons rp_int .nil)) hq hn⟩
        refine I.laid (fun b o e => Heap.get?_push_of_some _ e) (Nat.le_refl _) ⟨by simp only [List.length_cons, List.length_nil]; rw [sizeLine_eq]; decide, [.int (i / j) s.toks, .int (i % j) (s.toks + 1)], .cons ⟨_, rfl⟩ (.cons ⟨_, rfl⟩ .nil), ?_⟩
        exact ⟨_, Heap.get?_push_size s.heap rfl, rfl, 0, rfl⟩
      | _ => simp [wBlt] at hw
    | _ => simp [wBlt] at hw

theorem item_of {pins : List (Addr × Obj)} {σ : L2.St} {H : Hp} {s : Shared} {θ : List Addr} {μ : Mem} {x : Itm} {v : V} {u : Value} (I : Inv X pins σ H s) (r : Rp X.K H θ μ (itD x) v) (ru : RelV v u) : IsItem s.heap u x := by
  obtain ⟨b, zs, rfl, hb, _, rs⟩ := inv_tup r
  cases ru
  obtain ⟨v1, r1, rfl, e1, rs1⟩ := rs.cons_inv
  obtain ⟨v2, r2, rfl, e2, rs2⟩ := rs1.cons_inv
  cases rs2.nil_inv
  cases inv_int e1
  cases (inv_str e2).1
  obtain ⟨_, its, rv, ob, e, c, n, d⟩ := I.hok b _ hb
  cases rv with
  | cons ra rr =>
    cases rr with
    | cons rb rr =>
      cases rr
      obtain ⟨t, rfl⟩ := ra
      obtain ⟨t', rfl⟩ := rb
      exact ⟨b, ob, t, t', n, rfl, e, c, d⟩
theorem pe_bltD {x : String} {as : List Expr} {ws : WA} {y : Str} {p pos : Pos} {e : Expr} {es : List Expr} (hx : x ∈ knownB) (ey : y = bname x) (hc : X.calm = true) (g : Gl X y) (m : X.mg y = none) (ha : PA X (e :: es) (LA X.K ws))
    (hs : starEach (e :: es) X.env = (false, eval e X.env) :: starEach es X.env) (hpl : (backTo pos (starEach es X.env)).any (·.1) = false) :
    PE X (.Call (.Name y p) (e :: es) [] pos) (LE X.K fun ρ μ Q => ws ρ μ fun ds μ1 => wBlt x ds μ1 Q) := by
  have wk : ∀ {f : Value}, PE X (.Call (.Name y p) (e :: es) [] pos) (tCB (lowA X.K (wBlt x)) (LA X.K ws)) → PE X (.Call (.Name y p) (e :: es) [] pos) (LE X.K fun ρ μ Q => ws ρ μ fun ds μ1 => wBlt x ds μ1 Q) := fun h => PE.wk h fun σ H Q z => le_args z
  subst ey
  simp only [knownB, List.mem_cons, List.not_mem_nil, or_false] at hx
  rcases hx with rfl | rfl | rfl | rfl | rfl | rfl | rfl
  · exact wk (f := .none) (pe_callB blt_len g m (by decide +kernel) ha (by decide +kernel) (by decide +kernel) hs hpl)
  · exact wk (f := .none) (pe_callB blt_abs g m (by decide +kernel) ha (by decide +kernel) (by decide +kernel) hs hpl)
  · exact wk (f := .none) (pe_callB (blt_all hc) g m (by decide +kernel) ha (by decide +kernel) (by decide +kernel) hs hpl)
  · exact wk (f := .none) (pe_callB (blt_max hc) g m (by decide +kernel) ha (by decide +kernel) (by decide +kernel) hs hpl)
  · exact wk (f := .none) (pe_callB (blt_min hc) g m (by decide +kernel) ha (by decide +kernel) (by decide +kernel) hs hpl)
  · exact wk (f := .none) (pe_callTy blt_list g m (by decide +kernel) ha (by decide +kernel) (by decide +kernel) hs hpl)
  · exact wk (f := .none) (pe_callB blt_divmod g m (by decide +kernel) ha (by decide +kernel) (by decide +kernel) hs hpl)
end
end DW
end

section
set_option linter.all false
set_option autoImplicit false
set_option maxRecDepth 100000
/-! COMP: a list comprehension with one for (its target a name, a tuple of names) and tests, over the layer. -/
namespace L2
open PySem PySem.Spec PyProof.Rows

theorem closureFor_go {env : Env} : ∀ (names : List (Str × NameKind)) (acc : List (Str × Addr)), (∀ y ∈ names, y.2 = .free → ∃ c, env.cells.lookup y.1 = some c) →
    (∀ y c, acc.lookup y = some c → env.cells.lookup y = some c) →
    ∃ cl : List (Str × Addr), (forIn names acc fun (x : Str × NameKind) (r : List (Str × Addr)) => match x with
      | (name, kind) => if (kind == .free) = true then (do let c ← cellOf env name; pure (ForInStep.yield ((name, c) :: r))) else pure (ForInStep.yield r)) = (pure cl : Sem (List (Str × Addr))) ∧
      (∀ y c, cl.lookup y = some c → env.cells.lookup y = some c) ∧ (∀ y, (acc.lookup y).isSome = true → (cl.lookup y).isSome = true) ∧ ∀ y ∈ names, y.2 = .free → (cl.lookup y.1).isSome = true
  | [], acc, _, h2 => ⟨acc, by simp, h2, fun _ h => h, fun y hy => nomatch hy⟩
  | (n, k) :: r, acc, h1, h2 => by
    by_cases hk : k = .free
    · subst hk
      obtain ⟨c, hc⟩ := h1 (n, .free) List.mem_cons_self rfl
      obtain ⟨cl, e1, e2, e3, e4⟩ := closureFor_go r ((n, c) :: acc) (fun y hy => h1 y (List.mem_cons_of_mem _ hy)) (fun y d hy => by
        rw [List.lookup_cons] at hy
        split at hy
        · rename_i hb
          rw [eq_of_beq hb]; cases hy; exact hc
        · exact h2 y d hy)
      refine ⟨cl, ?_, e2, fun y hy => e3 y ?_, fun y hy hf => ?_⟩
      · rw [List.forIn_cons]
        simp only [beq_self_eq_true, if_true]
        have : cellOf env n = pure c := by unfold cellOf; rw [hc]
        rw [this, pure_bind, pure_bind]
        exact e1
      · rw [List.lookup_cons]; split <;> simp_all
      · rcases List.mem_cons.mp hy with rfl | hy
        · exact e3 n (by simp [List.lookup_cons])
        · exact e4 y hy hf
    · obtain ⟨cl, e1, e2, e3, e4⟩ := closureFor_go r acc (fun y hy => h1 y (List.mem_cons_of_mem _ hy)) h2
      refine ⟨cl, ?_, e2, e3, fun y hy hf => ?_⟩
      · rw [List.forIn_cons]
        have hb : (k == NameKind.free) = false := by simpa using hk
        simp only [hb, Bool.false_eq_true, if_false]
        rw [pure_bind]
        exact e1
      · rcases List.mem_cons.mp hy with rfl | hy
        · exact absurd hf hk
        · exact e4 y hy hf
theorem closureFor_some {scope : Scope} {env : Env} (h : ∀ y ∈ scope.names, y.2 = .free → ∃ c, env.cells.lookup y.1 = some c) :
    ∃ cl, closureFor scope env = pure cl ∧ (∀ y c, cl.lookup y = some c → env.cells.lookup y = some c) ∧ ∀ y ∈ scope.names, y.2 = .free → (cl.lookup y.1).isSome = true := by
  obtain ⟨cl, e1, e2, _, e4⟩ := closureFor_go scope.names [] h (fun y c hy => by simp at hy)
  refine ⟨cl, ?_, e2, e4⟩
  unfold closureFor
  simp only [bind_pure]
  exact e1

/-- the context of a comprehension's block -/
noncomputable def compX (X : Cx) (Nc : List Str) (scope : Scope) (cl : List (Str × Addr)) (C : Addr) (s : Shared) (H : Hp) (ex : List Addr) : Cx :=
  { X with N := Nc, s₀ := s, H₀ := H, env := compEnvC scope cl C X.env, outer := X.stack, ex := ex, fn := fun _ => false, pn := [], xe := fun _ _ => False }

/-- the tests of a clause -/
noncomputable def PIf (X : Cx) (ifs : List Expr) (t : TT) : Prop :=
  ∀ (pins : List (Addr × Obj)) (s : Shared) (σ : St) (H : Hp) (Q : Bool → Hp → Prop), Inv X pins σ H s → t σ H Q →
    wpAny (model X.prog X.w) X.A (forIn ifs true fun c r => if r = true then do let ok ← isTrue c X.env (eval c X.env); pure (ForInStep.yield ok) else pure (ForInStep.yield r)) (TP X pins σ Q) X.xe s
theorem pif_nil {X : Cx} : PIf X [] (fun σ H Q => Q true H) := fun pins s σ H Q I h => by
  rw [List.forIn_nil]; exact wpAny_pure ⟨H, I, h⟩
theorem pif_one {X : Cx} {c : Expr} {t : TT} (hc : PT X c t) : PIf X [c] t := fun pins s σ H Q I h => by
  rw [List.forIn_cons]
  simp only [if_true]
  refine wpAny_bind (wpAny_bind (thn (hc pins s σ H Q I h) fun b s1 q => wpAny_pure ?_))
  show wpAny _ _ (forIn ([] : List Expr) b _) _ _ _
  rw [List.forIn_nil]; exact wpAny_pure q

noncomputable def capS (cap : List Nat) (σ : St) : St := cap.map fun i => (σ[i]?).join
noncomputable def tComp (n : Nat) (gt : TG) (cap : List Nat) (wi : TI) (tt : TT) (te : TE) : TE := fun σ H Q => wi σ H fun J H1 => ∃ W : Nat → Nat → List V → St → Hp → Prop, (∃ m, W 0 m [] (List.replicate n none ++ capS cap σ) H1) ∧ ∀ i m vs σc H, W i m vs σc H →
  (vs.length ≤ sizeLine ∧ J.stop i H ∧ ∀ p, H p = none → Q (.ref p) (upd H p (.lst vs))) ∨
  (J.go i H ∧ vs.length < sizeLine ∧ ∀ x H', J.yld i H x H' → gt x σc H' fun σ2 H2 => tt σ2 H2 fun b H3 =>
    if b = true then te σ2 H3 fun v H4 => ∃ m', m' < m ∧ W (i + 1) m' (vs ++ [v]) σ2 H4 else ∃ m', m' < m ∧ W (i + 1) m' vs σ2 H3)

/-- what the text must have -/
structure CompTxt (X : Cx) (xs : List Str) (scope : Scope) (Nc : List Str) (cap : List Nat) : Prop where
  kind : scope.kind = .function
  nocell : ∀ y ∈ scope.names, y.2 ≠ .cell
  names : ∀ y ∈ scope.names, y.2 = .local → scope.names.lookup y.1 = some .local
  nd : Nc.Nodup
  caps : ∀ (j : Nat) (y : Str), Nc[xs.length + j]? = some y → ∃ i, cap[j]? = some i ∧ X.N[i]? = some y ∧ scope.names.lookup y = some .free
  len : Nc.length = xs.length + cap.length
  free : ∀ y ∈ scope.names, y.2 = .free → X.env.kindOf y.1 = some .cell ∨ X.env.kindOf y.1 = some .free

theorem relabel_free {env : Env} : ∀ {names : List (Str × NameKind)} {x : Str}, names.lookup x = some .free →
    (names.map fun (n, k) => if (k == NameKind.free && env.scope.kind == .function && env.kindOf n == some .cell) then (n, NameKind.cell) else (n, k)).lookup x = some .free ∨
    (names.map fun (n, k) => if (k == NameKind.free && env.scope.kind == .function && env.kindOf n == some .cell) then (n, NameKind.cell) else (n, k)).lookup x = some .cell
  | [], _, h => by simp at h
  | (n, k) :: r, x, h => by
    have ih := @relabel_free env r x
    show List.lookup x ((if (k == NameKind.free && env.scope.kind == .function && env.kindOf n == some .cell) = true then (n, NameKind.cell) else (n, k)) :: _) = _ ∨ List.lookup x ((if (k == NameKind.free && env.scope.kind == .function && env.kindOf n == some .cell) = true then (n, NameKind.cell) else (n, k)) :: _) = _
    by_cases hc : (k == NameKind.free && env.scope.kind == .function && env.kindOf n == some .cell) = true
    · rw [if_pos hc]
      cases hx : x == n with
      | true => right; simp only [List.lookup_cons, hx]
      | false =>
        simp only [List.lookup_cons, hx] at h ⊢
        exact ih h
    · rw [if_neg hc]
      cases hx : x == n with
      | true =>
        simp only [List.lookup_cons, hx] at h ⊢
        exact .inl h
      | false =>
        simp only [List.lookup_cons, hx] at h ⊢
        exact ih h
theorem relabel_glob' {env : Env} : ∀ {names : List (Str × NameKind)} {x : Str}, names.lookup x = some .globalImplicit →
    (names.map fun (n, k) => if (k == NameKind.free && env.scope.kind == .function && env.kindOf n == some .cell) then (n, NameKind.cell) else (n, k)).lookup x = some .globalImplicit
  | [], _, h => by simp at h
  | (n, k) :: r, x, h => by
    have ih := @relabel_glob' env r x
    show List.lookup x ((if (k == NameKind.free && env.scope.kind == .function && env.kindOf n == some .cell) = true then (n, NameKind.cell) else (n, k)) :: _) = _
    by_cases hc : (k == NameKind.free && env.scope.kind == .function && env.kindOf n == some .cell) = true
    · rw [if_pos hc]
      cases hx : x == n with
      | true =>
        simp only [List.lookup_cons, hx] at h
        have : k = .free := by
          rw [Bool.and_eq_true, Bool.and_eq_true] at hc
          simpa using hc.1.1
        rw [this] at h; cases h
      | false =>
        simp only [List.lookup_cons, hx] at h ⊢
        exact ih h
    · rw [if_neg hc]
      cases hx : x == n with
      | true =>
        simp only [List.lookup_cons, hx] at h ⊢
        exact h
      | false =>
        simp only [List.lookup_cons, hx] at h ⊢
        exact ih h
theorem relabel_glob {scope : Scope} {env : Env} {x : Str} (h : scope.names.lookup x = some .globalImplicit) : (relabel scope env).names.lookup x = some .globalImplicit := relabel_glob' h
theorem relabel_lookup {env : Env} : ∀ {names : List (Str × NameKind)} {x : Str} {k : NameKind},
    (names.map fun (n, k) => if (k == NameKind.free && env.scope.kind == .function && env.kindOf n == some .cell) then (n, NameKind.cell) else (n, k)).lookup x = some k →
    names.lookup x = some k ∨ (k = .cell ∧ names.lookup x = some .free)
  | [], _, _, h => by simp at h
  | (n, k0) :: r, x, k, h => by
    have ih := @relabel_lookup env r x k
    have h' : List.lookup x ((if (k0 == NameKind.free && env.scope.kind == .function && env.kindOf n == some .cell) = true then (n, NameKind.cell) else (n, k0)) :: (r.map fun (n, k) => if (k == NameKind.free && env.scope.kind == .function && env.kindOf n == some .cell) then (n, NameKind.cell) else (n, k))) = some k := h
    by_cases hc : (k0 == NameKind.free && env.scope.kind == .function && env.kindOf n == some .cell) = true
    · rw [if_pos hc] at h'
      cases hx : x == n with
      | true =>
        simp only [List.lookup_cons, hx] at h' ⊢
        cases h'
        have : k0 = .free := by
          rw [Bool.and_eq_true, Bool.and_eq_true] at hc
          simpa using hc.1.1
        exact .inr ⟨rfl, by rw [this]⟩
      | false =>
        simp only [List.lookup_cons, hx] at h' ⊢
        exact ih h'
    · rw [if_neg hc] at h'
      cases hx : x == n with
      | true =>
        simp only [List.lookup_cons, hx] at h' ⊢
        exact .inl h'
      | false =>
        simp only [List.lookup_cons, hx] at h' ⊢
        exact ih h'
end L2
namespace L2
open PySem PySem.Spec PyProof.Rows
section
variable {X : Cx} {elt iter tg : Expr} {xs : List Str} {gt : TG} {ifs : List Expr} {scope : Scope} {pos : Pos} {Nc : List Str} {cap : List Nat} {tt : TT} {te : TE} {cl : List (Str × Addr)}
  {pins : List (Addr × Obj)} {s2 : Shared} {σ : St} {H2 : Hp} {it : Addr} {fp : List Addr} {tn : Nat → Heap → Prop} {J : It}

noncomputable abbrev listAt (h : Heap) (D : Addr) (vs : List V) : Prop := ∃ (its : List Value) (n : Nat), Vals vs its ∧ h.get? D = some { cls := .type "list", data := .seq its.toArray n }

/-- a turn of the block's loop, its target whatever it is: what the iterator kept is let go, the target stored, the tests asked, the item put behind the others -/
theorem comp_loopT {prog : Program} {w : World} {A : Around} {R : Result → Shared → Prop} {s : Shared} {elt tg iter : Expr} {ifs : List Expr} {scope : Scope} {pos : Pos} {it acc : Value} {env : Env} (J : Nat → Shared → Prop)
    (turn : ∀ m s0, J m s0 → wpAny (model prog w) A (pyNext it) (fun r s1 => match r with
      | none => R (.ok .next) s1
      | some v => wpAny (model prog w) A (letOwnedTupleGo tg it v) (fun _ s2 => wpAny (model prog w) A (assign tg env v) (fun _ s3 =>
          wpAny (model prog w) A (forIn ifs true fun c r => if r = true then do let ok ← isTrue c env (eval c env); pure (ForInStep.yield ok) else pure (ForInStep.yield r)) (fun b s4 =>
            if b = true then wpAny (model prog w) A (eval elt env) (fun x s5 =>
              wpAny (model prog w) A (call (.builtin "list.append") [acc, x]) (fun _ s6 => ∃ k, k < m ∧ J k s6) (notedBy (model prog w) A env fun e z => R (.error e) z) s5) (notedBy (model prog w) A env fun e z => R (.error e) z) s4
            else ∃ k, k < m ∧ J k s4) (notedBy (model prog w) A env fun e z => R (.error e) z) s3) (notedBy (model prog w) A env fun e z => R (.error e) z) s2) (notedBy (model prog w) A env fun e z => R (.error e) z) s1) (notedBy (model prog w) A env fun e z => R (.error e) z) s0)
    (m : Nat) (h : J m s) : codeAny (model prog w) A (.compLoop (.ListComp elt [⟨tg, iter, ifs, 0⟩] scope pos) 0 it acc env) R s := by
  refine codeAny_loop rfl J ?_ m h
  intro m s0 h0
  have q := turn m s0 h0
  show wpAny _ A (Sem.onRaise (compTurn (.ListComp elt [⟨tg, iter, ifs, 0⟩] scope pos) 0 it acc env) _) _ _ s0
  apply wpAny_noted
  rw [compTurn_list]
  apply wpAny_bind
  apply wpAny_standAt
  refine wpAny_bind (thn q ?_)
  rintro (_ | v) s1 q
  · exact wpAny_pure q
  refine wpAny_bind (thn q ?_)
  intro _ s2 q
  refine wpAny_bind (thn q ?_)
  intro _ s3 q
  refine wpAny_bind (thn q ?_)
  rintro (_ | _) s4 q
  · exact wpAny_pure ⟨rfl, q⟩
  refine wpAny_bind (wpAny_bind (thn q ?_))
  intro x s5 q
  refine wpAny_bind (thn q ?_)
  intro _ s6 q
  exact wpAny_pure (wpAny_pure ⟨rfl, q⟩)
/-- the block's entry -/
theorem comp_start (T : CompTxt X xs scope Nc cap) (hcl : ∀ y c, cl.lookup y = some c → X.env.cells.lookup y = some c) (hcl2 : ∀ y ∈ scope.names, y.2 = .free → (cl.lookup y.1).isSome = true)
    (I2 : Inv X pins σ H2 s2) (st2 : tn 0 s2.heap) (Tn : Turn X.prog X.w X.K tg J fp it tn) (f2 : ∀ b ∈ fp, FpOk X pins H2 b) {o : Obj} {h₁ : Heap} {m : Str → Option Value} {tk : Nat} {o2 : Obj}
    (ho : ∀ v, o.data ≠ .cell v)
    (hns : h₁.Ns (s2.heap.push o).objs.size m) (hsb : Heap.SameBut (s2.heap.push o).objs.size ((s2.heap.push o).push o2) h₁) :
    Inv (compX X Nc scope cl (s2.heap.push o).objs.size { s2 with heap := s2.heap.push o } H2 (s2.heap.objs.size :: fp)) [] (List.replicate xs.length none ++ capS cap σ) H2 { s2 with heap := h₁, toks := tk } := by
  have hC : (s2.heap.push o).objs.size = s2.heap.objs.size + 1 := Heap.size_push ..
  have old : ∀ b ob, (s2.heap.push o).get? b = some ob → h₁.get? b = some ob := fun b ob e => by
    refine (hsb.2 b (Nat.ne_of_lt (Heap.lt_size e))).trans (Heap.get?_push_of_some _ e)
  have old2 : ∀ b ob, s2.heap.get? b = some ob → h₁.get? b = some ob := fun b ob e => old b ob (Heap.get?_push_of_some _ e)
  have hfr : ∀ b, s2.heap.objs.size ≤ b → H2 b = none := fun b hb => I2.hok.fresh hb
  have cellLt : ∀ y c, X.env.cells.lookup y = some c → c < s2.heap.objs.size := fun y c e => let ⟨v, q⟩ := I2.cell y c e; q.lt
  have fpLt : ∀ b ∈ fp, b < s2.heap.objs.size := fun b hb => let ⟨ob, e, _⟩ := Tn.obj 0 s2.heap st2 b hb; Heap.lt_size e
  have kinds : ∀ y, ((compEnvC scope cl (s2.heap.push o).objs.size X.env).kindOf y = some .cell ∨ (compEnvC scope cl (s2.heap.push o).objs.size X.env).kindOf y = some .free) → scope.names.lookup y = some .free := fun y hy => by
    have nc : scope.names.lookup y ≠ some .cell := fun z => T.nocell _ (PySem.mem_of_lookup z) rfl
    rcases hy with hy | hy
    · rcases relabel_lookup (env := X.env) (show (scope.names.map _).lookup y = some .cell from hy) with z | ⟨_, z⟩
      · exact absurd z nc
      · exact z
    · rcases relabel_lookup (env := X.env) (show (scope.names.map _).lookup y = some .free from hy) with z | ⟨z, _⟩
      · exact z
      · cases z
  refine ⟨⟨I2.ok.mod, T.kind, I2.ok.glob, I2.ok.blt, Nat.le_refl _, fun y z c h1 h2 => I2.ok.inj y z c (hcl y c h1) (hcl z c h2), fun y hy => ?_, fun y c h _ => (by cases h), I2.ok.hd, I2.ok.frames, .inl rfl, fun b hb => ?_, fun b ob e => ?_, ?_, fun b ob e hb => ?_, fun b hb hf => ?_, ?_, fun b hb => I2.stkFree b hb⟩,
    rfl, I2.bare, Un.kept old, ⟨m, hns, fun i y v h1 h2 h3 => ?_⟩, fun y c h => ?_, hfr _ (by show s2.heap.objs.size ≤ (s2.heap.push o).objs.size; omega), fun y c h => I2.freeC y c (hcl y c h), fun p hp => absurd (show p ∈ ([] : List (Addr × Obj)) from hp) (by simp), I2.hok.kept old2, ?_⟩
  · exact Option.isSome_iff_exists.mp (hcl2 _ (PySem.mem_of_lookup (kinds y hy)) rfl)
  · refine ⟨?_, fun y c h z => ?_⟩
    · show b ≠ (s2.heap.push o).objs.size
      rcases List.mem_cons.mp hb with rfl | hb
      · exact Nat.ne_of_lt (by rw [hC]; exact Nat.lt_succ_self _)
      · exact Nat.ne_of_lt (by rw [hC]; exact Nat.lt_succ_of_lt (fpLt b hb))
    · have hc := cellLt y c (hcl y c h)
      subst z
      rcases List.mem_cons.mp hb with rfl | hb
      · exact Nat.lt_irrefl _ hc
      · exact (f2 _ hb).2.2.2.2.1 y _ (hcl y _ h) rfl
  · have := I2.bs b ob e
    exact ⟨Heap.get?_push_of_some _ this.1, this.2⟩
  · show X.base.objs.size ≤ (s2.heap.push o).objs.size
    have := Nat.le_trans I2.ok.bsz I2.sz
    omega
  · have h1 := (I2.bs b ob e).1
    rcases List.mem_cons.mp hb with rfl | hb
    · exact Nat.lt_irrefl _ (Heap.lt_size h1)
    · rcases (f2 b hb).2.2.2.1 with z | z
      · exact I2.ok.noex b ob e z
      · have h3 : b < X.base.objs.size := Heap.lt_size e
        have h4 := I2.ok.bsz
        exact absurd (Nat.lt_of_lt_of_le h3 (Nat.le_trans h4 z)) (Nat.lt_irrefl _)
  · show False
    rcases List.mem_cons.mp hb with rfl | hb
    · obtain ⟨_, ob, e, _⟩ := I2.stack.mem hf
      exact Nat.lt_irrefl _ (Heap.lt_size e)
    · rcases List.mem_cons.mp (I2.stkSub b hf) with z | z
      · exact (f2 b hb).2.1 z
      · exact (f2 b hb).2.2.1 z
  · exact (I2.stack : s2.heap.FunFrames X.base X.stack).of_keeps (fun b ob e _ => ⟨ob, Heap.get?_push_of_some _ e, rfl⟩)
  · by_cases hix : i < xs.length
    · rw [List.getElem?_append_left (by simpa using hix), List.getElem?_replicate] at h2
      split at h2 <;> cases h2
    · obtain ⟨j, rfl⟩ : ∃ j, i = xs.length + j := ⟨i - xs.length, by omega⟩
      obtain ⟨i', e1, e2, e3⟩ := T.caps j y h1
      have hv : σ[i']? = some (some v) := by
        have h2' : (capS cap σ)[j]? = some (some v) := by
          rw [List.getElem?_append_right (by simp)] at h2
          simpa using h2
        unfold capS at h2'
        rw [List.getElem?_map, e1] at h2'
        simp only [Option.map_some, Option.some.injEq] at h2'
        cases q : σ[i']? with
        | none => rw [q] at h2'; cases h2'
        | some w' => rw [q] at h2'; simp only [Option.join_some] at h2'; rw [h2']
      obtain ⟨mo, hno, hlo⟩ := I2.loc
      have hk := T.free _ (PySem.mem_of_lookup e3) rfl
      have vis : Vis X.env.scope y := by rcases hk with k | k; exact .inr (.inl k); exact .inr (.inr k)
      obtain ⟨u, r, l⟩ := hlo i' y v e2 hv vis
      refine ⟨u, r, .inr ⟨?_, ?_⟩⟩
      · exact (relabel_free (env := X.env) e3).symm
      · rcases l with ⟨k, _⟩ | ⟨_, c, e, z⟩
        · rcases hk with k' | k' <;> (rw [k] at k'; cases k')
        · obtain ⟨c', ec⟩ := Option.isSome_iff_exists.mp (hcl2 _ (PySem.mem_of_lookup e3) rfl)
          have e' : some c = some c' := e.symm.trans (hcl y c' ec)
          cases e'
          obtain ⟨oc, q1, q2⟩ := z
          exact ⟨c, ec, oc, old2 _ _ q1, q2⟩
  · obtain ⟨v, oc, q1, q2⟩ := I2.cell y c (hcl y c h)
    exact ⟨v, oc, old2 _ _ q1, q2⟩
  · show (List.replicate xs.length none ++ capS cap σ).length = Nc.length
    rw [T.len]
    simp [capS]

/-- and its end: the outer context again, the new list tracked -/
theorem comp_back (I2 : Inv X pins σ H2 s2) (f2 : ∀ b ∈ fp, FpOk X pins H2 b) {o : Obj} {σ' : St} {H : Hp} {s' : Shared} {pins' : List (Addr × Obj)} {vs : List V} {h' : Heap}
    (I : Inv (compX X Nc scope cl (s2.heap.push o).objs.size { s2 with heap := s2.heap.push o } H2 (s2.heap.objs.size :: fp)) pins' σ' H s') (hD : H s2.heap.objs.size = none) (hz : vs.length ≤ sizeLine) (hl : listAt s'.heap s2.heap.objs.size vs)
    (hs : Heap.SameBut (s2.heap.push o).objs.size s'.heap h') : Inv X pins σ (upd H s2.heap.objs.size (.lst vs)) { s' with heap := h' } := by
  have hC : (s2.heap.push o).objs.size = s2.heap.objs.size + 1 := Heap.size_push ..
  have hk : ∀ b ob, b ≠ (s2.heap.push o).objs.size → s'.heap.get? b = some ob → h'.get? b = some ob := fun b ob hb e => (hs.2 b hb).trans e
  have B : Un (frs X.stack) (s2.heap.objs.size :: fp) H2 H (s2.heap.push o) s'.heap := I.base
  have low : ∀ b ob, s2.heap.get? b = some ob → b ≠ s2.heap.objs.size ∧ b ≠ (s2.heap.push o).objs.size := fun b ob e => by
    have := Heap.lt_size e
    exact ⟨Nat.ne_of_lt this, Nat.ne_of_lt (by rw [hC]; exact Nat.lt_succ_of_lt this)⟩
  have nin : ∀ b ob, s2.heap.get? b = some ob → b ∉ fp → b ∉ s2.heap.objs.size :: fp := fun b ob e h z => (List.mem_cons.mp z).elim (low b ob e).1 h
  refine I2.call' (ch := fp) I.os ⟨fun b ob e n hf he => ?_, fun b ob e n hf he => ?_, fun b ob e n he => ?_, fun b ob e he => ?_, fun b xs e => ?_, fun b ob u e => ?_, fun b ps e => ?_⟩ ?_ I.bare fun b hb => ⟨(f2 b hb).2.2.2.1, (f2 b hb).2.1, (f2 b hb).2.2.2.2.1, (f2 b hb).2.2.2.2.2⟩
  · exact hk b ob (low b ob e).2 (B.keep b ob (Heap.get?_push_of_some _ e) n hf (nin b ob e he))
  · obtain ⟨sl, q⟩ := B.slot b ob (Heap.get?_push_of_some _ e) n hf (nin b ob e he)
    exact ⟨sl, hk b _ (low b ob e).2 q⟩
  · rw [upd_ne (low b ob e).1]
    exact B.free b ob (Heap.get?_push_of_some _ e) n (nin b ob e he)
  · obtain ⟨o', q⟩ := B.there b ob (Heap.get?_push_of_some _ e) (nin b ob e he)
    exact ⟨o', hk b _ (low b ob e).2 q⟩
  · have q := B.tups b xs e
    rw [upd_ne (ne_of_none q hD)]; exact q
  · have q := B.frzs b ob u e
    rw [upd_ne (ne_of_none q hD)]; exact q
  · obtain ⟨more, q⟩ := B.tbls b ps e
    exact ⟨more, by rw [upd_ne (ne_of_none q hD)]; exact q⟩
  · intro b ob e
    have hCn : H (s2.heap.push o).objs.size = none := I.free
    by_cases hb : b = s2.heap.objs.size
    · subst hb
      rw [upd_same] at e
      cases e
      obtain ⟨its, n, r, q⟩ := hl
      exact ⟨hz, its, n, r, hk _ _ (Nat.ne_of_lt (by rw [hC]; exact Nat.lt_succ_self _)) q⟩
    · rw [upd_ne hb] at e
      refine (I.hok b ob e).stay (fun c u hc q => hk c u ?_ q) (fun c q => ?_) fun c xs q => ?_
      · rintro rfl
        rcases hc with rfl | hc
        · rw [hCn] at e; cases e
        · rw [hCn] at hc; cases hc
      · rw [upd_ne (ne_of_none q hD)]; exact q
      · rw [upd_ne (ne_of_none q hD)]; exact q

/-- the block, run -/
theorem comp_run (hc : X.calm = true) (T : CompTxt X xs scope Nc cap) (hcl : ∀ y c, cl.lookup y = some c → X.env.cells.lookup y = some c) (hcl2 : ∀ y ∈ scope.names, y.2 = .free → (cl.lookup y.1).isSome = true)
    (I2 : Inv X pins σ H2 s2) (st2 : tn 0 s2.heap) (Tn : Turn X.prog X.w X.K tg J fp it tn) (f2 : ∀ b ∈ fp, FpOk X pins H2 b)
    (hG : ∀ C s H ex, PG (compX X Nc scope cl C s H ex) tg gt) (hT : ∀ C s H ex, PIf (compX X Nc scope cl C s H ex) ifs tt) (hE : ∀ C s H ex, PE (compX X Nc scope cl C s H ex) elt te)
    (W : Nat → Nat → List V → St → Hp → Prop) {m0 : Nat} (w0 : W 0 m0 [] (List.replicate xs.length none ++ capS cap σ) H2) {Fn : List V → Hp → Prop}
    (turn : ∀ i m vs σc H, W i m vs σc H → (vs.length ≤ sizeLine ∧ J.stop i H ∧ Fn vs H) ∨
      (J.go i H ∧ vs.length < sizeLine ∧ ∀ x H', J.yld i H x H' → gt x σc H' fun σ2 H2 => tt σ2 H2 fun b H3 =>
        if b = true then te σ2 H3 fun v H4 => ∃ m', m' < m ∧ W (i + 1) m' (vs ++ [v]) σ2 H4 else ∃ m', m' < m ∧ W (i + 1) m' vs σ2 H3))
    {E : Value → Shared → Prop} {RR : Value → Addr → Result → Shared → Prop}
    (fin : ∀ (C : Addr) (vs : List V) (H : Hp) (s' : Shared) (m : Str → Option Value), s2.heap.objs.size < C → H C = none → s'.heap.Ns C m → H s2.heap.objs.size = none → Fn vs H →
      (∀ h', Heap.SameBut C s'.heap h' → Inv X pins σ (upd H s2.heap.objs.size (.lst vs)) { s' with heap := h' }) → RR (.ref s2.heap.objs.size) C (.ok .next) s') :
    wpAny (model X.prog X.w) X.A (newList []) (fun acc s₃ => wpAny (model X.prog X.w) X.A (newFunctionEnv scope X.env.globals cl [] X.env.qual none .none (some X.env)) (fun cenv s₄ =>
      codeAny (model X.prog X.w) X.A (.compStart (.ListComp elt [⟨tg, iter, ifs, 0⟩] scope pos) 0 (.ref it) acc { cenv with scope := relabel scope X.env }) (RR acc cenv.locals) s₄) E s₃) E s2 := by
  refine wpAny_newObj_type (wpAny_newFunctionEnv T.nocell (by intro y hy; simp at hy) (fun h₁ hns₁ hsb₁ => ?_) T.kind)
  dsimp only at hns₁ hsb₁ ⊢
  have I0 := comp_start (o := { cls := .type "list", dict := none, data := .seq ([] : List Value).toArray }) (tk := s2.toks + ([] : List (Str × Value)).length) T hcl hcl2 I2 st2 Tn f2 (by intro v z; cases z) hns₁ hsb₁
  have hsz : (s2.heap.push { cls := .type "list", dict := none, data := .seq ([] : List Value).toArray }).objs.size = s2.heap.objs.size + 1 := Heap.size_push ..
  have oldC : ∀ b ob, (s2.heap.push { cls := .type "list", dict := none, data := .seq ([] : List Value).toArray }).get? b = some ob → h₁.get? b = some ob := fun b ob e =>
    (hsb₁.2 b (Nat.ne_of_lt (Heap.lt_size e))).trans (Heap.get?_push_of_some _ e)
  have st1 : tn 0 h₁ := Tn.keep 0 _ _ st2 fun b _ ob e => oldC b ob (Heap.get?_push_of_some _ e)
  have hD0 : listAt h₁ s2.heap.objs.size [] := ⟨[], 0, .nil, oldC _ _ (Heap.get?_push_size _ rfl)⟩
  have fpF : ∀ {H : Hp} {pn : List (Addr × Obj)}, (∀ b ∈ fp, H b = none) → (∀ p ∈ pn, p.1 ∉ fp) → ∀ b ∈ fp, FpOk (compX X Nc scope cl (s2.heap.push { cls := .type "list", dict := none, data := .seq ([] : List Value).toArray }).objs.size { s2 with heap := s2.heap.push { cls := .type "list", dict := none, data := .seq ([] : List Value).toArray } } H2 (s2.heap.objs.size :: fp)) pn H b := fun {H pn} hn hp b hb => by
    have hlt : b < s2.heap.objs.size := let ⟨ob, e, _⟩ := Tn.obj 0 s2.heap st2 b hb; Heap.lt_size e
    refine ⟨hn b hb, ?_, fun z => ?_, .inl (List.mem_cons_of_mem _ hb), fun y c h => (f2 b hb).2.2.2.2.1 y c (hcl y c h), fun p hpp => ?_⟩
    · exact Nat.ne_of_lt (by show b < (s2.heap.push _).objs.size; rw [hsz]; exact Nat.lt_succ_of_lt hlt)
    · rcases List.mem_cons.mp (I2.stkSub b z) with z | z
      · exact (f2 b hb).2.1 z
      · exact (f2 b hb).2.2.1 z
    · rcases List.mem_append.mp hpp with q | q
      · exact absurd (show p ∈ ([] : List (Addr × Obj)) from q) (by simp)
      · exact fun z => hp p q (z ▸ hb)
  have loop : codeAny (model X.prog X.w) X.A (.compLoop (.ListComp elt [⟨tg, iter, ifs, 0⟩] scope pos) 0 (.ref it) (.ref s2.heap.objs.size) (compEnvC scope cl (s2.heap.push { cls := .type "list", dict := none, data := .seq ([] : List Value).toArray }).objs.size X.env))
      (RR (.ref s2.heap.objs.size) (s2.heap.push { cls := .type "list", dict := none, data := .seq ([] : List Value).toArray }).objs.size) { s2 with heap := h₁, toks := s2.toks + ([] : List (Str × Value)).length } := by
    generalize hX : compX X Nc scope cl (s2.heap.push { cls := .type "list", dict := none, data := .seq ([] : List Value).toArray }).objs.size { s2 with heap := s2.heap.push { cls := .type "list", dict := none, data := .seq ([] : List Value).toArray } } H2 (s2.heap.objs.size :: fp) = X' at I0 fpF
    have eP : X'.prog = X.prog := by rw [← hX]; rfl
    have ew : X'.w = X.w := by rw [← hX]; rfl
    have eK : X'.K = X.K := by rw [← hX]; rfl
    have eA : X'.A = X.A := by rw [← hX]; rfl
    have ec : X'.calm = X.calm := by rw [← hX]; rfl
    have eN : X'.N = Nc := by rw [← hX]; rfl
    have ee : X'.env = compEnvC scope cl (s2.heap.push { cls := .type "list", dict := none, data := .seq ([] : List Value).toArray }).objs.size X.env := by rw [← hX]; rfl
    have ex : X'.xe = fun _ _ => False := by rw [← hX]; rfl
    have eX : X'.ex = s2.heap.objs.size :: fp := by rw [← hX]; rfl
    have hT' : PIf X' ifs tt := by rw [← hX]; exact hT _ _ _ _
    have hE' : PE X' elt te := by rw [← hX]; exact hE _ _ _ _
    have hG' : PG X' tg gt := by rw [← hX]; exact hG _ _ _ _
    have back : ∀ {σ' : St} {H : Hp} {s' : Shared} {pins' : List (Addr × Obj)} {vs : List V} {h' : Heap}, Inv X' pins' σ' H s' → H s2.heap.objs.size = none → vs.length ≤ sizeLine → listAt s'.heap s2.heap.objs.size vs →
        Heap.SameBut (s2.heap.push { cls := .type "list", dict := none, data := .seq ([] : List Value).toArray }).objs.size s'.heap h' → Inv X pins σ (upd H s2.heap.objs.size (.lst vs)) { s' with heap := h' } := by
      intro σ' H s' pins' vs h' I
      rw [← hX] at I
      exact comp_back I2 f2 I
    have Dex : s2.heap.objs.size ∈ X'.ex ∨ X'.s₀.heap.objs.size ≤ s2.heap.objs.size := .inl (by rw [eX]; exact List.mem_cons_self)
    have DnL : s2.heap.objs.size ≠ X'.env.locals := by rw [ee]; exact Nat.ne_of_lt (by show _ < (s2.heap.push _).objs.size; rw [hsz]; exact Nat.lt_succ_self _)
    have DnC : ∀ y c, X'.env.cells.lookup y = some c → c ≠ s2.heap.objs.size := fun y c h => by
      rw [ee] at h
      exact Nat.ne_of_lt (let ⟨v, q⟩ := I2.cell y c (hcl y c h); q.lt : c < s2.heap.objs.size)
    have DnF : s2.heap.objs.size ∉ X'.fs := fun z => by
      rw [← hX] at z
      obtain ⟨_, ob, e, _⟩ := I2.stack.mem (show s2.heap.objs.size ∈ frs X.stack from z)
      exact Nat.lt_irrefl _ (Heap.lt_size e)
    have Dfp : s2.heap.objs.size ∉ fp := fun hb => by
      obtain ⟨ob, e, _⟩ := Tn.obj 0 s2.heap st2 _ hb
      exact Nat.lt_irrefl _ (Heap.lt_size e)
    have pn0 : X'.pn = [] := by rw [← hX]; rfl
    rw [← ee]
    refine comp_loopT (fun n s => ∃ i vs H σ0, Inv X' [] σ0 H s ∧ tn i s.heap ∧ (∀ b ∈ fp, H b = none) ∧ H s2.heap.objs.size = none ∧ listAt s.heap s2.heap.objs.size vs ∧ W i n vs σ0 H) ?_ m0
      ⟨0, [], H2, _, I0, st1, fun b hb => (f2 b hb).1, I2.hok.fresh (Nat.le_refl _), hD0, w0⟩
    rintro n s ⟨i, vs, H, σ0, I, st, hf, hDn, ⟨its, k, rv, eD⟩, w1⟩
    have pinned : Inv X' [(s2.heap.objs.size, ({ cls := .type "list", data := .seq its.toArray k } : Obj))] σ0 H s := I.pins_of fun p hp => by
      obtain rfl := List.mem_singleton.mp hp
      exact ⟨eD, hDn, DnL, DnF, fun v z => by cases z⟩
    have fpp : ∀ p ∈ [(s2.heap.objs.size, ({ cls := .type "list", data := .seq its.toArray k } : Obj))], p.1 ∉ fp := fun p hp => by
      obtain rfl := List.mem_singleton.mp hp
      exact Dfp
    rcases turn i n vs σ0 H w1 with ⟨hz, stop, fn⟩ | ⟨go, hz, step⟩
    · have dn := Tn.done X' eP ew eK (by rw [ec]; exact hc) i _ s _ H (notedBy (model X.prog X.w) X.A X'.env fun e s' => RR (.ref s2.heap.objs.size) (s2.heap.push { cls := .type "list", dict := none, data := .seq ([] : List Value).toArray }).objs.size (.error e) s') pinned (fpF hf fpp) st stop
      rw [eA] at dn
      refine thn dn fun r s1 ⟨hr, J1⟩ => ?_
      subst hr
      have pD := J1.pin (s2.heap.objs.size, ({ cls := .type "list", data := .seq its.toArray k } : Obj)) (by rw [pn0]; simp)
      obtain ⟨mC, hnC, _⟩ := J1.loc
      rw [ee] at hnC
      have fC := J1.free
      rw [ee] at fC
      refine fin _ vs H s1 mC (by rw [hsz]; exact Nat.lt_succ_self _) fC hnC hDn fn fun h' hs => back J1 hDn hz ⟨its, k, rv, pD.1⟩ hs
    · have im := Tn.item X' eP ew eK (by rw [ec]; exact hc) i _ s _ H (notedBy (model X.prog X.w) X.A X'.env fun e s' => RR (.ref s2.heap.objs.size) (s2.heap.push { cls := .type "list", dict := none, data := .seq ([] : List Value).toArray }).objs.size (.error e) s') pinned (fpF hf fpp) st go
      rw [eA] at im
      refine thn im fun r s1 ⟨u, hr, h1⟩ => ?_
      subst hr
      dsimp only
      refine thn h1 fun _ s3 ⟨y, H3, I3, r3, y3, st3, fr3⟩ => ?_
      have I3' := I3.pinned (fpF fr3 fpp) (Tn.obj _ _ st3)
      have g := hG' _ s3 _ H3 y u _ I3' r3 (step y H3 y3)
      rw [eP, ew, eA, ex] at g
      refine wpAny_mono g (fun _ s4 ⟨σ4, H4, I4, q4⟩ => ?_) fun _ _ z => z.elim
      have t := hT' _ s4 _ H4 _ I4 q4
      rw [eP, ew, eA, ex] at t
      have tk' : ∀ {pl : List (Addr × Obj)} {σ' : St} {H' : Hp} {s' : Shared}, Inv X' (pl ++ pinsAt fp s3.heap) σ' H' s' → tn (i + 1) s'.heap ∧ ∀ b ∈ fp, H' b = none := fun {pl σ' H' s'} J => by
        refine ⟨Tn.keep _ _ _ st3 fun b hb o e => (J.pin (b, o) (List.mem_append_right _ (List.mem_append_right _ (mem_pinsAt hb e)))).1, fun b hb => ?_⟩
        obtain ⟨o, e, d⟩ := Tn.obj _ _ st3 b hb
        exact (J.pin (b, o) (List.mem_append_right _ (List.mem_append_right _ (mem_pinsAt hb e)))).2.1
      refine wpAny_mono t (fun b s5 ⟨H5, I5, q5⟩ => ?_) fun _ _ z => z.elim
      cases b with
      | false =>
        rw [if_neg Bool.false_ne_true] at q5 ⊢
        obtain ⟨m', hm, w5⟩ := q5
        obtain ⟨st5, fr5⟩ := tk' I5
        have pD := I5.pin (s2.heap.objs.size, ({ cls := .type "list", data := .seq its.toArray k } : Obj)) (by simp)
        exact ⟨m', hm, i + 1, vs, H5, σ4, I5.pins_of (fun p hp => nomatch hp), st5, fr5, pD.2.1, ⟨its, k, rv, pD.1⟩, w5⟩
      | true =>
        rw [if_pos rfl] at q5 ⊢
        have ev := hE' _ s5 _ H5 _ I5 q5
        rw [eP, ew, eA, ex] at ev
        refine wpAny_mono ev (fun z s6 ⟨v, H6, I6, r6, q6⟩ => ?_) fun _ _ z => z.elim
        obtain ⟨m', hm, w6⟩ := q6
        obtain ⟨st6, fr6⟩ := tk' I6
        have pD := I6.pin (s2.heap.objs.size, ({ cls := .type "list", data := .seq its.toArray k } : Obj)) (by simp)
        have hlen := rv.length
        refine call_meets F.slot_list_append ⟨_, pD.1, rfl⟩ F.entry_list_append (F.args_list_append_2 _ _) (PySem.list_append s2.heap.objs.size its.toArray k z (by rw [List.size_toArray]; omega)) ⟨pD.1, ?_⟩
        have q := PySem.IsL.update pD.1 (fun a => a.push z)
        dsimp only at q
        rw [show its.toArray.push z = (its ++ [z]).toArray by simp] at q
        have kk : ∀ b o, b ≠ s2.heap.objs.size → s6.heap.get? b = some o → (s6.heap.update s2.heap.objs.size (Obj.mapSeq fun a => a.push z)).get? b = some o := fun b o hb e => (Heap.get?_update_other s6.heap _ (Ne.symm hb)).trans e
        have I7 : Inv X' [] σ4 H6 { s6 with heap := s6.heap.update s2.heap.objs.size (Obj.mapSeq fun a => a.push z), toks := s6.toks } := (I6.pins_of (pins' := []) (fun p hp => nomatch hp)).turned kk pD.2.1 DnL Dex DnC (fun p hp => by
          rw [pn0] at hp; exact absurd hp (by simp))
        refine ⟨m', hm, i + 1, vs ++ [v], H6, σ4, I7, Tn.keep _ _ _ st6 (fun b hb o e => kk b o (fun zz => Dfp (zz ▸ hb)) e), fr6, pD.2.1, ⟨its ++ [z], _, rv.append (.cons r6 .nil), q⟩, w6⟩
  exact codeAny_compStart_list loop (Tn.self _ 0 _ _ _ st1 loop)
end
end L2

namespace L2
open PySem PySem.Spec PyProof.Rows
section
variable {X : Cx} {elt iter tg : Expr} {xs : List Str} {gt : TG} {ifs : List Expr} {scope : Scope} {pos : Pos} {Nc : List Str} {cap : List Nat} {tt : TT} {te : TE} {wi : TI}
theorem comp_clos {pins : List (Addr × Obj)} {s : Shared} {σ : St} {H : Hp} (T : CompTxt X xs scope Nc cap) (I : Inv X pins σ H s) : ∃ cl, closureFor scope X.env = pure cl ∧ (∀ y c, cl.lookup y = some c → X.env.cells.lookup y = some c) ∧ ∀ y ∈ scope.names, y.2 = .free → (cl.lookup y.1).isSome = true :=
  closureFor_some fun y hy hf => I.ok.has y.1 (T.free y hy hf)
/-- a comprehension as a value -/
theorem pe_comp (hc : X.calm = true) (T : CompTxt X xs scope Nc cap) (hi : PI X tg iter wi) (hG : ∀ cl C s H ex, PG (compX X Nc scope cl C s H ex) tg gt) (hT : ∀ cl C s H ex, PIf (compX X Nc scope cl C s H ex) ifs tt) (hE : ∀ cl C s H ex, PE (compX X Nc scope cl C s H ex) elt te)
    (hs : ∀ v, foldedSetIterable iter X.env v = pure v) : PE X (.ListComp elt [⟨tg, iter, ifs, 0⟩] scope pos) (tComp xs.length gt cap wi tt te) := by
  intro pins s σ H Q I h
  rw [eval_ListComp]
  obtain ⟨cl, e1, e2, e3⟩ := comp_clos T I
  refine wpAny_comprehension_free (use := none) rfl hs e1 T.kind T.names (thn (hi pins s σ H _ I h) fun v s1 h1 => thn h1 fun itv s2 h2 => ?_)
  obtain ⟨it, fp, tn, J, H2, rfl, I2, Tn, st2, f2, W, ⟨m0, w0⟩, turn⟩ := h2
  refine comp_run (RR := fun acc C => compPost (model X.prog X.w) X.A X.xe none (EP X pins σ Q) acc C) hc T e2 e3 I2 st2 Tn f2 (hG cl) (hT cl) (hE cl) W w0 turn fun C vs H' s' m hC hHC hn hD fn back => ?_
  exact ⟨m, hn, fun h' hs' => ⟨.ref _, _, back h' hs', rfl, fn _ hD⟩⟩
/-- x = [..]: the store is done within -/
theorem ps_setcomp {i : Nat} {t : Str} {pt pos2 : Pos} (hc : X.calm = true) (T : CompTxt X xs scope Nc cap) (hi : PI X tg iter wi) (hG : ∀ cl C s H ex, PG (compX X Nc scope cl C s H ex) tg gt) (hT : ∀ cl C s H ex, PIf (compX X Nc scope cl C s H ex) ifs tt) (hE : ∀ cl C s H ex, PE (compX X Nc scope cl C s H ex) elt te)
    (hs : ∀ v, foldedSetIterable iter X.env v = pure v) (hN : X.N.Nodup) (hti : X.N[i]? = some t) (htl : X.env.scope.names.lookup t = some .local)
    (hsw : swapsWith (.ListComp elt [⟨tg, iter, ifs, 0⟩] scope pos) (some (.Name t pt)) pos2.line X.env = pure true) :
    PS X (.Assign [.Name t pt] (.ListComp elt [⟨tg, iter, ifs, 0⟩] scope pos) pos2) (tAsg (tComp xs.length gt cap wi tt te) (gName i)) := by
  intro pins s σ H D I h
  rw [exec_Assign_Name_used _ _ _ _ hsw]
  obtain ⟨cl, e1, e2, e3⟩ := comp_clos T I
  refine wpAny_bind (wpAny_standAt (wpAny_bind ?_))
  show wpAny _ X.A (do let _ ← comprehension (.ListComp elt [⟨tg, iter, ifs, 0⟩] scope pos) scope X.env _ (newList []) false (eval iter X.env) (some (assign (.Name t pt) X.env))) _ _ s
  refine wpAny_bind (wpAny_mono (wpAny_comprehension_free (use := some (assign (.Name t pt) X.env)) (Q := fun _ s' => SP X pins D .next s') rfl hs e1 T.kind T.names
    (thn (hi pins s σ H _ I h) fun v s1 h1 => thn h1 fun itv s2 h2 => ?_)) (fun _ s' q => wpAny_pure (wpAny_pure q)) fun _ _ e => e)
  obtain ⟨it, fp, tn, J, H2, rfl, I2, Tn, st2, f2, W, ⟨m0, w0⟩, turn⟩ := h2
  refine comp_run (RR := fun acc C => compPost (model X.prog X.w) X.A X.xe (some (assign (.Name t pt) X.env)) (fun _ s' => SP X pins D .next s') acc C) hc T e2 e3 I2 st2 Tn f2 (hG cl) (hT cl) (hE cl) W w0 turn fun C vs H' s' m hC hHC hn hD fn back => ?_
  have I3 : Inv X pins σ (upd H' s2.heap.objs.size (.lst vs)) s' := back s'.heap (.refl ..)
  have hLC : X.env.locals ≠ C := Nat.ne_of_lt (Nat.lt_trans I2.lt hC)
  have hDC : C ≠ s2.heap.objs.size := Nat.ne_of_gt hC
  show wpAny _ X.A (assign (.Name t pt) X.env (.ref s2.heap.objs.size)) _ _ s'
  refine wpAny_assign_Name (store_ok2 I3 hN hti (.inl htl) (v := .ref s2.heap.objs.size) rfl (fun s4 I4 ⟨a, sb, ha⟩ => ?_) (.inr htl))
  have hCa : C ≠ a := by
    rcases ha with rfl | ha
    · exact Ne.symm hLC
    · obtain ⟨v, q⟩ := I2.cell t a ha
      exact Nat.ne_of_gt (Nat.lt_trans q.lt hC)
  refine ⟨m, hn.sameBut sb hCa, fun h' sb' => ⟨_, _, I4.turned (t' := s4.toks) (it := C) (fun b o hb e => (sb'.2 b hb).trans e) (by rw [upd_ne hDC]; exact hHC) (Ne.symm hLC) (.inr ?_) (fun y c e => ?_) (fun p hp => ?_), fn _ hD⟩⟩
  · exact Nat.le_trans I2.sz (Nat.le_of_lt hC)
  · obtain ⟨v, q⟩ := I2.cell y c e
    exact Nat.ne_of_lt (Nat.lt_trans q.lt hC)
  · exact Nat.ne_of_lt (Nat.lt_trans (Heap.lt_size (I2.pin p hp).1) hC)
end
end L2
end

section
set_option linter.all false
set_option autoImplicit false
set_option maxRecDepth 100000
/-! DW10: what a loop walks; for, while, comprehensions. -/
namespace DW
open PySem PySem.Spec PyProof.Rows L2

/-! ### a text, walked -/
noncomputable def Its (z : Str) : L2.It := ⟨fun i _ => i < z.cps.size, fun i H x H' => H' = H ∧ ∃ c, z.cps[i]? = some c ∧ x = .str ⟨#[c]⟩, fun i _ => z.cps.size ≤ i⟩
theorem turn_str {P : Program} {w : World} {K : PySem.W.Frag} {tg : Expr} (it : Addr) (z : Str) (t : Tok) (ty : String) (hty : ty = "str_ascii_iterator" ∨ ty = "str_iterator") : Turn P w K tg (Its z) [it] it (fun i h => h.IsStrIter it ty z t i) := by
  have hn : ["enumerate", "zip", "dict_itemiterator", "dict_reverseitemiterator", "odict_iterator", "itertools.zip_longest", "itertools.pairwise"].contains ty = false := by
    rcases hty with rfl | rfl <;> decide
  have W : ∀ A : Around, A.handled = none → Walks P w A it [it] [it] z.cps.size (SignAt z) (fun i h => h.IsStrIter it ty z t i) := fun A hA => by
    rcases hty with rfl | rfl
    · exact Walks.strAscii hA it z t
    · exact Walks.strWide hA it z t
  refine ⟨by simp, fun i h st b hb => ?_, fun i h h' st k => ?_, ?_, ?_, ?_⟩
  · obtain rfl := List.mem_singleton.mp hb
    obtain ⟨o, e, _, d⟩ := st
    exact ⟨o, e, fun v q => by rw [d] at q; cases q⟩
  · obtain ⟨o, e, r⟩ := st
    exact ⟨o, k it (by simp) o e, r⟩
  · intro X hP hw hK hc i pins s σ H E I hf st hg
    subst hP hw hK
    obtain ⟨f0, f1, f2, f3, f4, f5⟩ := hf it (by simp)
    refine (W X.A (I.ok.hd hc)).item i s _ _ hg st fun v h' tk hv st' kk => ?_
    obtain ⟨c, u, e1, rfl⟩ := hv
    have I1 : Inv X pins σ H { s with heap := h', toks := tk } := I.turned (fun b o hb e => kk b o (by simpa using hb) e) f0 f1 f3 f4 f5
    obtain ⟨o, e, c1, d1⟩ := id st'
    exact ⟨_, rfl, go_of (s := { s with heap := h', toks := tk }) e c1 d1 hn ⟨.str ⟨#[c]⟩, H, I1, ⟨u, rfl⟩, ⟨rfl, c, e1, rfl⟩, st', fun b hb => (hf b hb).1⟩⟩
  · intro X hP hw hK hc i pins s σ H E I hf st hg
    subst hP hw hK
    obtain ⟨f0, f1, f2, f3, f4, f5⟩ := hf it (by simp)
    have hi : z.cps.size ≤ i := hg
    rcases hty with rfl | rfl
    · exact wpAny_pyNext_ascii_end (I.ok.hd hc) st (by simp [hi]) fun h' eb => ⟨rfl, I.turned (t' := s.toks) (fun b o hb e => eb b o hb e) f0 f1 f3 f4 f5⟩
    · exact wpAny_pyNext_wide_end (I.ok.hd hc) st (by simp [hi]) fun h' eb => ⟨rfl, I.turned (t' := s.toks) (fun b o hb e => eb b o hb e) f0 f1 f3 f4 f5⟩
  · intro A i s Q E st q
    rcases hty with rfl | rfl
    · exact wpAny_pyIter_striter_ascii st q
    · exact wpAny_pyIter_striter_wide st q

/-! ### deep: J walks ds, as long as g holds -/
noncomputable def WalkOk (K : PySem.W.Frag) (J : L2.It) (ds : List D) (g : Mem → Prop) (H0 : Hp) (θ0 : List Addr) (μ0 : Mem) : Prop :=
  ds.length ≤ sizeLine ∧ ∀ (i : Nat) (H : Hp) (θ : List Addr) (μ : Mem), WOk K H θ μ → Grow H0 θ0 μ0 H θ μ → g μ →
    (i < ds.length → J.go i H ∧ ∀ x H', J.yld i H x H' → WOk K H' θ μ ∧ Grow H θ μ H' θ μ ∧ ∃ d, ds[i]? = some d ∧ Rp K H' θ μ d x) ∧ (i = ds.length → J.stop i H)
noncomputable abbrev WI := Rho → Mem → QI → Prop
noncomputable def LI (K : PySem.W.Frag) (w : WI) : TI := fun σ H R => ∃ ρ θ μ Qi, Sim K σ H ρ θ μ ∧ w ρ μ Qi ∧
  ∀ ds g (J : L2.It) H' θ' μ', WOk K H' θ' μ' → Grow H θ μ H' θ' μ' → WalkOk K J ds g H' θ' μ' → Qi ds g μ' → R J H'
section
variable {K : PySem.W.Frag} {H : Hp} {θ : List Addr} {μ : Mem} {ds : List D} {a : Addr} {xs : List V}
theorem walk_list (hl : ds.length ≤ sizeLine) (g : Mem → Prop) (h : ∀ (H' : Hp) (θ' : List Addr) (μ' : Mem), WOk K H' θ' μ' → Grow H θ μ H' θ' μ' → g μ' → ∃ xs, SqL K H' a xs ∧ Rps K H' θ' μ' ds xs) : WalkOk K (Itl K a) ds g H θ μ := by
  refine ⟨hl, fun i H' θ' μ' w' gr hg => ?_⟩
  obtain ⟨xs, hx, rs⟩ := h H' θ' μ' w' gr hg
  refine ⟨fun hi => ?_, fun hi => ⟨xs, hx, by rw [hi, rs.length]; exact Nat.le_refl _⟩⟩
  obtain ⟨v, e1, e2⟩ := rs.get (i := i) (List.getElem?_eq_getElem hi)
  refine ⟨⟨xs, v, hx, e1⟩, fun x H'' y => ?_⟩
  obtain ⟨rfl, y⟩ := y
  have := y xs hx
  rw [e1] at this; cases this
  exact ⟨w', Grow.refl, _, List.getElem?_eq_getElem hi, e2⟩
theorem walk_tup (hl : ds.length ≤ sizeLine) (g : Mem → Prop) (h : ∀ (H' : Hp) (θ' : List Addr) (μ' : Mem), WOk K H' θ' μ' → Grow H θ μ H' θ' μ' → g μ' → ∃ xs, SqT K H' a xs ∧ Rps K H' θ' μ' ds xs) : WalkOk K (Itt K a) ds g H θ μ := by
  refine ⟨hl, fun i H' θ' μ' w' gr hg => ?_⟩
  obtain ⟨xs, hx, rs⟩ := h H' θ' μ' w' gr hg
  refine ⟨fun hi => ?_, fun hi => ⟨xs, hx, by rw [hi, rs.length]; exact Nat.le_refl _⟩⟩
  obtain ⟨v, e1, e2⟩ := rs.get (i := i) (List.getElem?_eq_getElem hi)
  refine ⟨⟨xs, v, hx, e1⟩, fun x H'' y => ?_⟩
  obtain ⟨rfl, y⟩ := y
  have := y xs hx
  rw [e1] at this; cases this
  exact ⟨w', Grow.refl, _, List.getElem?_eq_getElem hi, e2⟩
theorem walk_range {lo : Int} {n : Nat} (hn : n ≤ sizeLine) : WalkOk K (Itr lo n) (rangeL lo n) (fun _ => True) H θ μ := by
  refine ⟨by simpa [rangeL] using hn, fun i H' θ' μ' w' gr _ => ⟨fun hi => ?_, fun hi => ?_⟩⟩
  · have hi' : i < n := by simpa [rangeL] using hi
    refine ⟨hi', fun x H'' y => ?_⟩
    obtain ⟨rfl, rfl⟩ := y
    exact ⟨w', Grow.refl, .int (lo + (i : Int)), by simp [rangeL, hi'], rp_int⟩
  · have hi' : i = n := by simpa [rangeL] using hi
    show n ≤ i
    omega
theorem walk_str {x : List Nat} (hx : x.length ≤ sizeLine) : WalkOk K (Its ⟨x.toArray⟩) (chars x) (fun _ => True) H θ μ := by
  refine ⟨by simpa [chars] using hx, fun i H' θ' μ' w' gr _ => ⟨fun hi => ?_, fun hi => ?_⟩⟩
  · have hi' : i < x.length := by simpa [chars] using hi
    refine ⟨by show i < x.toArray.size; simpa using hi', fun y H'' q => ?_⟩
    obtain ⟨rfl, c, e1, rfl⟩ := q
    have e1' : x[i]? = some c := by simpa using e1
    exact ⟨w', Grow.refl, .str [c], by simp [chars, e1'], rp_str (x := [c]) (by rw [sizeLine_eq]; simp)⟩
  · have hi' : i = x.length := by simpa [chars] using hi
    show x.toArray.size ≤ i
    simp [hi']
end
section
variable {X : Cx} {tg : Expr}
/-- iterating what a value holds -/
theorem pi_seqD {l : Expr} {wl : WE} (hl : PE X l (LE X.K wl)) : PI X tg l (LI X.K fun ρ μ Q => wl ρ μ fun d μ1 => wSeq d μ1 Q) := by
  intro pins s σ H R I h
  have big : ∀ (x : V) (H1 : Hp) (s1 : Shared), Inv X pins σ H1 s1 → True := fun _ _ _ _ => trivial
  obtain ⟨ρ, θ, μ, Qi, sm, h, f⟩ := h
  -- the lengths are known where the value lies: by the state behind its evaluation
  refine thn (hl pins s σ H (fun x H1 => ∃ d θ1 μ1, WOk X.K H1 θ1 μ1 ∧ Grow H θ μ H1 θ1 μ1 ∧ Rp X.K H1 θ1 μ1 d x ∧ wSeq d μ1 Qi) I ⟨ρ, θ, μ, _, sm, h, fun d v H1 θ1 μ1 w1 g1 r1 h1 => ⟨d, θ1, μ1, w1, g1, r1, h1⟩⟩) fun v s1 ⟨x, H1, I1, r1, d, θ1, μ1, w1, g1, rd, hq⟩ => ?_
  have pe : ∀ (R' : L2.It → Hp → Prop), ((∃ a, x = .ref a ∧ (∃ xs, SqL X.K H1 a xs) ∧ R' (Itl X.K a) H1) ∨ (∃ a, x = .ref a ∧ (∃ xs, SqT X.K H1 a xs) ∧ R' (Itt X.K a) H1) ∨ ∃ z, x = .str z ∧ R' (Its z) H1) →
      wpAny (model X.prog X.w) X.A (pyIter v) (PIE X pins σ tg R') X.xe s1 := fun R' q1 => by
    rcases q1 with ⟨a, rfl, ⟨xs, hq⟩, q⟩ | ⟨a, rfl, ⟨xs, hq⟩, q⟩ | ⟨z, rfl, q⟩
    · cases r1
      obtain ⟨its, rv, p, hz⟩ := I1.list hq
      refine wpAny_pyIter_list p.isList ?_
      refine ⟨s1.heap.objs.size, [s1.heap.objs.size], _, _, H1, rfl, I1.kept (t' := s1.toks) fun b o e => Heap.get?_push_of_some _ e, turn_list a _, ⟨_, Heap.get?_push_size _ rfl, rfl, rfl⟩, fun b hb => ?_, q⟩
      obtain rfl := List.mem_singleton.mp hb
      exact I1.fpOk (Nat.le_refl _) (I1.hok.fresh (Nat.le_refl _))
    · cases r1
      obtain ⟨its, rv, p, hz⟩ := I1.tuple hq
      refine wpAny_pyIter_tuple (show s1.heap.IsTuple a its.toArray from p) ?_
      refine ⟨s1.heap.objs.size, [s1.heap.objs.size], _, _, H1, rfl, I1.kept (t' := s1.toks) fun b o e => Heap.get?_push_of_some _ e, turn_tuple a _, ⟨_, Heap.get?_push_size _ rfl, rfl, rfl⟩, fun b hb => ?_, q⟩
      obtain rfl := List.mem_singleton.mp hb
      exact I1.fpOk (Nat.le_refl _) (I1.hok.fresh (Nat.le_refl _))
    · obtain ⟨t, rfl⟩ := r1
      have fp : ∀ b ∈ [s1.heap.objs.size], FpOk X pins H1 b := fun b hb => by
        obtain rfl := List.mem_singleton.mp hb
        exact I1.fpOk (Nat.le_refl _) (I1.hok.fresh (Nat.le_refl _))
      cases ha : z.cps.all (· < 128) with
      | false =>
        refine wpAny_pyIter_wide ha ?_
        exact ⟨s1.heap.objs.size, [s1.heap.objs.size], _, _, H1, rfl, I1.kept (t' := s1.toks) fun b o e => Heap.get?_push_of_some _ e, turn_str _ z t _ (.inr rfl), ⟨_, Heap.get?_push_size _ rfl, rfl, rfl⟩, fp, q⟩
      | true =>
        refine wpAny_pyIter_ascii ha ?_
        exact ⟨s1.heap.objs.size, [s1.heap.objs.size], _, _, H1, rfl, I1.kept (t' := s1.toks) fun b o e => Heap.get?_push_of_some _ e, turn_str _ z t _ (.inl rfl), ⟨_, Heap.get?_push_size _ rfl, rfl, rfl⟩, fp, q⟩
  unfold wSeq at hq
  split at hq
  · rename_i ds
    obtain ⟨a, xs, rfl, h1, nl, rs⟩ := inv_lst rd
    have hz : ds.length ≤ sizeLine := by obtain ⟨_, _, _, hz⟩ := I1.list (SqL.of h1); rw [rs.length]; exact hz
    exact pe R (.inl ⟨a, rfl, ⟨xs, .of h1⟩, f ds _ _ H1 θ1 μ1 w1 g1 (walk_list hz _ fun H' θ' μ' w' gr _ => ⟨xs, .of (gr.keep a _ h1 nl).1, gr.reps rs⟩) hq⟩)
  · rename_i ds
    obtain ⟨a, xs, rfl, h1, nl, rs⟩ := inv_tup rd
    have hz : ds.length ≤ sizeLine := by obtain ⟨_, _, _, hz⟩ := I1.tuple (SqT.of h1); rw [rs.length]; exact hz
    exact pe R (.inr (.inl ⟨a, rfl, ⟨xs, .of h1⟩, f ds _ _ H1 θ1 μ1 w1 g1 (walk_tup hz _ fun H' θ' μ' w' gr _ => ⟨xs, .of (gr.keep a _ h1 nl).1, gr.reps rs⟩) hq⟩))
  · rename_i ds
    obtain ⟨a, xs, rfl, h1, rs⟩ := inv_ro rd
    have hz : ds.length ≤ sizeLine := by obtain ⟨_, _, _, hz⟩ := I1.list (SqL_ro h1); rw [rs.length]; exact hz
    refine pe R (.inl ⟨a, rfl, ⟨xs, SqL_ro h1⟩, f ds _ _ H1 θ1 μ1 w1 g1 (walk_list hz _ fun H' θ' μ' w' gr _ => ⟨xs, ?_, gr.reps rs⟩) hq⟩)
    rcases h1 with ⟨o, h1, h2⟩ | h1
    · exact .inl (.inr ⟨o, (gr.keep a _ h1 h2).1⟩)
    · exact .inr h1
  · rename_i z
    obtain ⟨rfl, hz⟩ := inv_str rd
    exact pe R (.inr (.inr ⟨_, rfl, f _ _ _ H1 θ1 μ1 w1 g1 (walk_str hz) hq⟩))
  · rename_i n
    obtain ⟨a, rfl, ha⟩ := inv_loc rd
    split at hq
    · rename_i ds hn
      obtain ⟨xs, h1, rs⟩ := w1.list hn ha
      have hz : ds.length ≤ sizeLine := by obtain ⟨_, _, _, hz⟩ := I1.list (SqL.of h1); rw [rs.length]; exact hz
      refine pe R (.inl ⟨a, rfl, ⟨xs, .of h1⟩, f ds _ _ H1 θ1 μ1 w1 g1 (walk_list hz _ fun H' θ' μ' w' gr hg => ?_) hq⟩)
      obtain ⟨ys, h2, rs2⟩ := w'.list hg (gr.pre n a ha)
      exact ⟨ys, .of h2, rs2⟩
    · exact hq.elim
  · exact hq.elim
theorem pi_rng1D {a : Expr} {ws : WA} {y : Str} {p pos : Pos} (ey : y = Str.ofString "range") (hg : Gl X y) (hm : X.mg y = none) (ha : PA X [a] (LA X.K ws)) (hs : starEach [a] X.env = [(false, eval a X.env)]) :
    PI X tg (.Call (.Name y p) [a] [] pos) (LI X.K fun ρ μ Q => ws ρ μ fun ds μ1 => wRng 1 ds μ1 Q) := by
  subst ey
  intro pins s σ H R I h
  refine pi_range1 (tg := tg) hg hm ha hs pins s σ H R I ?_
  obtain ⟨ρ, θ, μ, Qi, sm, h, f⟩ := h
  refine ⟨ρ, θ, μ, _, sm, h, fun ds vs H1 θ1 μ1 w1 g1 r1 h1 => ?_⟩
  have hl : lim = 16777216 := rfl
  unfold wRng at h1
  split at h1
  · rename_i j _
    obtain ⟨v, r, rfl, r2, r3⟩ := r1.cons_inv
    cases r3.nil_inv
    cases inv_int r2
    obtain ⟨k1, k2, k3⟩ := h1
    refine ⟨j, rfl, k2, by rw [hl] at k1; omega, f _ _ _ H1 θ1 μ1 w1 g1 (walk_range ?_) k3⟩
    rw [hl] at k1; rw [sizeLine_eq]; omega
  · exact h1.elim
/-! ### range with a step -/
/-! ### targets -/
noncomputable def LG (K : PySem.W.Frag) (bnd : D → Rho → (Rho → Prop) → Prop) : TG := fun v σ H Q => ∃ d ρ θ μ k, Sim K σ H ρ θ μ ∧ Rp K H θ μ d v ∧ bnd d ρ k ∧ ∀ σ' ρ', Sim K σ' H ρ' θ μ → k ρ' → Q σ' H
theorem PG.wk {t t' : TG} (h : PG X tg t) (m : ∀ v σ H Q, t' v σ H Q → t v σ H Q) : PG X tg t' := fun pins s σ H v u Q I r hw => h pins s σ H v u Q I r (m v σ H Q hw)
theorem pg_nameD {i : Nat} {x : Str} {pos : Pos} (hN : X.N.Nodup) (hi : X.N[i]? = some x) (hx : Loc X.env.scope x) (hf : X.fn x = true ∨ X.env.scope.names.lookup x = some .local) : PG X (.Name x pos) (LG X.K (bindT [i] false)) :=
  PG.wk (pg_name hN hi hx hf) fun v σ H Q h => by
    obtain ⟨d, ρ, θ, μ, k, sm, rd, hb, f⟩ := h
    exact f _ _ (sm.set rd i) hb
/-- several names -/
noncomputable def gNames : List Nat → TGs
  | [] => gNil
  | i :: is => gCons (gName i) (gNames is)
theorem gNames_ok {K : PySem.W.Frag} {H : Hp} {θ : List Addr} {μ : Mem} {Q : L2.St → Hp → Prop} : ∀ (is : List Nat) (ds : List D) (vs : List V) (σ : L2.St) (ρ : Rho), Sim K σ H ρ θ μ → Rps K H θ μ ds vs → ds.length = is.length →
    (∀ σ', Sim K σ' H ((is.zip ds).foldl (fun r p => r.set p.1 (some p.2)) ρ) θ μ → Q σ' H) → gNames is vs σ H Q
  | [], ds, vs, σ, ρ, sm, rs, hl, f => by
    have : ds = [] := by simpa using hl
    subst this
    cases rs.nil_inv
    exact ⟨rfl, f σ (by simpa using sm)⟩
  | i :: is, ds, vs, σ, ρ, sm, rs, hl, f => by
    cases ds with
    | nil => simp at hl
    | cons d ds =>
      obtain ⟨v, r, rfl, r1, r2⟩ := rs.cons_inv
      exact ⟨v, r, rfl, gNames_ok is ds r (σ.set i (some v)) (ρ.set i (some d)) (sm.set r1 i) r2 (by simpa using hl) (by simpa using f)⟩
theorem pg_tupD {is : List Nat} {es : List Expr} {k : Nat} {pos : Pos} (hc : X.calm = true) (h : PGs X es (gNames is)) (hn : (assignEach es X.env).length = is.length) (hst : (assignEach es X.env).findIdx? (·.1) = none) : PG X (.Tuple es k pos) (LG X.K (bindT is true)) :=
  PG.wk (pg_tup hc h hn hst) fun v σ H Q q => by
    obtain ⟨d, ρ, θ, μ, k, sm, rd, hb, f⟩ := q
    unfold bindT at hb
    split at hb
    · rename_i h2; cases h2
    · split at hb
      · rename_i ds
        obtain ⟨a, xs, rfl, h1, _, rs⟩ := inv_tup rd
        exact ⟨a, xs, rfl, .of h1, by rw [← rs.length]; exact hb.1, gNames_ok is ds xs σ ρ sm rs hb.1 fun σ' s' => f σ' _ s' hb.2⟩
      · exact hb.elim

/-! ### for -/
theorem ps_forD {EX : L2.St → XK} {iter : Expr} {body : List Stmt} {wi : WI} {bnd : D → Rho → (Rho → Prop) → Prop} {wb : WS} {pos : Pos} (hp : PassesOwn (model X.prog X.w) X.A X.env X.xe) (hc : X.calm = true) (hi : PI X tg iter (LI X.K wi)) (hg : PG X tg (LG X.K bnd)) (hb : PSs X body (LS X.K EX wb))
    (hs : ∀ x, foldedSetIterable iter X.env x = pure x) : PS X (.For tg iter body [] pos) (LS X.K EX fun Z ρ μ => wi ρ μ fun ds g μ1 => wLoop bnd wb g Z ds ρ μ1) := by
  refine PS.wk (ps_for hp hc hi hg hb hs) fun E σ H h => ?_
  obtain ⟨ρ, θ, μ, Z, sm, h, f⟩ := h
  refine ⟨ρ, θ, μ, _, sm, h, fun ds g J H1 θ1 μ1 w1 g1 wk h1 => ?_⟩
  have f1 := f.mono g1
  refine ⟨fun i m σ' H' => m = ds.length - i ∧ i ≤ ds.length ∧ ∃ ρ' θ' μ', Sim X.K σ' H' ρ' θ' μ' ∧ Grow H1 θ1 μ1 H' θ' μ' ∧ wLoop bnd wb g Z (ds.drop i) ρ' μ', ⟨ds.length, by simp, Nat.zero_le _, ρ, θ1, μ1, sm.grow w1 g1, Grow.refl, by simpa using h1⟩, ?_⟩
  rintro i m σ' H' ⟨rfl, hi', ρ', θ', μ', sm', gr, hl⟩
  by_cases hlt : i < ds.length
  · right
    have e : ds.drop i = ds[i] :: ds.drop (i + 1) := List.drop_eq_getElem_cons hlt
    rw [e] at hl
    obtain ⟨hgμ, hl⟩ := hl
    obtain ⟨go, y⟩ := (wk.2 i H' θ' μ' sm'.wok gr hgμ).1 hlt
    refine ⟨go, fun σ2 H2 => ∃ ρ2 θ2 μ2, Sim X.K σ2 H2 ρ2 θ2 μ2 ∧ Grow H1 θ1 μ1 H2 θ2 μ2 ∧ wLoop bnd wb g Z (ds.drop (i + 1)) ρ2 μ2, fun σ2 H2 ⟨ρ2, θ2, μ2, s2, g2, l2⟩ => ⟨ds.length - (i + 1), by omega, rfl, hlt, ρ2, θ2, μ2, s2, g2, l2⟩, fun x H'' yx => ?_⟩
    obtain ⟨w2, g2, d, ed, rd⟩ := y x H'' yx
    rw [List.getElem?_eq_getElem hlt] at ed
    cases ed
    refine ⟨ds[i], ρ', θ', μ', _, sm'.grow w2 g2, rd, hl, fun σ3 ρ3 s3 q3 => ⟨ρ3, θ', μ', _, s3, q3, ?_⟩⟩
    have g3 := gr.trans g2
    have f3 := f1.mono g3
    exact ⟨fun σ4 H4 ρ4 θ4 μ4 s4 g4 z4 => ⟨ρ4, θ4, μ4, s4, g3.trans g4, z4⟩, f3.rt, fun σ4 H4 ρ4 θ4 μ4 s4 g4 z4 => f3.nx σ4 H4 ρ4 θ4 μ4 s4 g4 z4, fun σ4 H4 ρ4 θ4 μ4 s4 g4 z4 => ⟨ρ4, θ4, μ4, s4, g3.trans g4, z4⟩, f3.xc⟩
  · left
    have e : i = ds.length := by omega
    subst e
    rw [List.drop_length] at hl
    obtain ⟨hgμ, hl⟩ := hl
    exact ⟨(wk.2 _ H' θ' μ' sm'.wok gr hgμ).2 rfl, f1.nx σ' H' ρ' θ' μ' sm' gr hl⟩
theorem ps_whlD {EX : L2.St → XK} {c : Expr} {body : List Stmt} {wt : WT} {wb : WS} {pos : Pos} (hp : PassesOwn (model X.prog X.w) X.A X.env X.xe) (hc : PT X c (LT X.K wt)) (hb : PSs X body (LS X.K EX wb)) :
    PS X (.While c body [] pos) (LS X.K EX fun Z ρ μ => ∃ W : Nat → Rho → Mem → Prop, (∃ m, W m ρ μ) ∧ ∀ m ρ μ, W m ρ μ → wt ρ μ fun t μ1 =>
      if t = true then wb { Z with nx := fun ρ' μ' => ∃ m', m' < m ∧ W m' ρ' μ', ct := fun ρ' μ' => ∃ m', m' < m ∧ W m' ρ' μ', bk := Z.nx } ρ μ1 else Z.nx ρ μ1) := by
  refine PS.wk (ps_while hp hc hb) fun E σ H h => ?_
  obtain ⟨ρ, θ, μ, Z, sm, ⟨W, ⟨m0, w0⟩, turn⟩, f⟩ := h
  refine ⟨fun m σ' H' => ∃ ρ' θ' μ', Sim X.K σ' H' ρ' θ' μ' ∧ Grow H θ μ H' θ' μ' ∧ W m ρ' μ', ⟨m0, ρ, θ, μ, sm, Grow.refl, w0⟩, ?_⟩
  rintro m σ1 H1 ⟨ρ1, θ1, μ1, s1, g1, w1⟩
  refine ⟨ρ1, θ1, μ1, _, s1, turn m ρ1 μ1 w1, fun b H2 θ2 μ2 wk2 g2 q => ?_⟩
  have f2 := f.mono (g1.trans g2)
  cases b with
  | true =>
    rw [if_pos rfl] at q
    dsimp only
    rw [if_pos rfl]
    refine ⟨fun σ3 H3 => ∃ ρ3 θ3 μ3 m', m' < m ∧ Sim X.K σ3 H3 ρ3 θ3 μ3 ∧ Grow H θ μ H3 θ3 μ3 ∧ W m' ρ3 μ3, fun σ3 H3 ⟨ρ3, θ3, μ3, m', hm, s3, g3, w3⟩ => ⟨m', hm, ρ3, θ3, μ3, s3, g3, w3⟩, ρ1, θ2, μ2, _, s1.grow wk2 g2, q, ?_⟩
    exact ⟨fun σ4 H4 ρ4 θ4 μ4 s4 g4 ⟨m', hm, w4⟩ => ⟨ρ4, θ4, μ4, m', hm, s4, (g1.trans g2).trans g4, w4⟩, f2.rt, f2.nx, fun σ4 H4 ρ4 θ4 μ4 s4 g4 ⟨m', hm, w4⟩ => ⟨ρ4, θ4, μ4, m', hm, s4, (g1.trans g2).trans g4, w4⟩, f2.xc⟩
  | false =>
    rw [if_neg Bool.false_ne_true] at q
    dsimp only
    rw [if_neg Bool.false_ne_true]
    exact f2.nx σ1 H2 ρ1 θ2 μ2 (s1.grow wk2 g2) Grow.refl q

/-! ### comprehensions -/
theorem sim_cap {K : PySem.W.Frag} {H : Hp} {θ : List Addr} {μ : Mem} {σ : L2.St} {ρ : Rho} {cap : List Nat} (n : Nat) (sm : Sim K σ H ρ θ μ) : Sim K (List.replicate n none ++ capS cap σ) H (List.replicate n none ++ cap.map fun i => (ρ[i]?).join) θ μ := by
  refine ⟨sm.wok, by simp [capS], fun i e h => ?_⟩
  by_cases hi : i < n
  · rw [List.getElem?_append_left (by simpa using hi), List.getElem?_replicate] at h
    split at h <;> cases h
  · obtain ⟨j, rfl⟩ : ∃ j, i = n + j := ⟨i - n, by omega⟩
    rw [List.getElem?_append_right (by simp)] at h ⊢
    simp only [List.length_replicate, Nat.add_sub_cancel_left, List.getElem?_map] at h ⊢
    cases q : cap[j]? with
    | none => rw [q] at h; cases h
    | some k =>
      rw [q] at h
      simp only [Option.map_some, Option.some.injEq] at h
      have hj : ρ[k]? = some (some e) := by
        cases z : ρ[k]? with
        | none => rw [z] at h; cases h
        | some w => rw [z] at h; simp only [Option.join_some] at h; rw [h]
      obtain ⟨w, e1, e2⟩ := sm.val k e hj
      refine ⟨w, ?_, e2⟩
      simp only [capS, List.getElem?_map, q, Option.map_some, e1, Option.join_some]
theorem foldl_bind (caps : Rho) : ∀ (ds : List D) (pre ρs : Rho), ρs.length = ds.length → ((List.range' pre.length ds.length).zip ds).foldl (fun r p => r.set p.1 (some p.2)) (pre ++ ρs ++ caps) = pre ++ ds.map some ++ caps
  | [], pre, ρs, h => by
    have : ρs = [] := by simpa using h
    subst this; simp
  | d :: ds, pre, ρs, h => by
    cases ρs with
    | nil => simp at h
    | cons r ρs =>
      have ih := foldl_bind caps ds (pre ++ [some d]) ρs (by simpa using h)
      simp only [List.length_append, List.length_cons, List.length_nil, Nat.zero_add] at ih
      simp only [List.length_cons, List.range'_succ, List.zip_cons_cons, List.foldl_cons]
      have e : (pre ++ r :: ρs ++ caps).set pre.length (some d) = pre ++ [some d] ++ ρs ++ caps := by simp
      rw [e, ih]
      simp
theorem bind_CT {n : Nat} {tt : Bool} {d : D} {ρs caps : Rho} {k : Rho → Prop} (hn : tt = false → n = 1) (hl : ρs.length = n) (h : bindC n tt d caps k) : bindT (List.range n) tt d (ρs ++ caps) fun ρ' => (∃ ρt : Rho, ρt.length = n ∧ ρ' = ρt ++ caps) ∧ k ρ' := by
  cases tt with
  | false =>
    cases hn rfl
    match ρs, hl with
    | [r], _ => exact ⟨⟨[some d], rfl, rfl⟩, h⟩
  | true =>
    cases d with
    | tup ds =>
      obtain ⟨h1, h2⟩ := (show ds.length = n ∧ k (ds.map some ++ caps) from h)
      show ds.length = (List.range n).length ∧ _
      have e := foldl_bind caps ds [] ρs (by rw [hl, h1])
      simp only [List.length_nil, List.nil_append] at e
      rw [List.range_eq_range', ← h1, e]
      refine ⟨by simp, ⟨⟨ds.map some, by simp, rfl⟩, h2⟩⟩
    | _ => exact False.elim h
theorem le_comp {m : Bool} {n : Nat} {tt : Bool} {cap : List Nat} {wi : WI} {cw : WT} {ew : WE} {σ : L2.St} {H : Hp} {Q : VK} (hn : tt = false → n = 1)
    (h : LE X.K (fun ρ μ Q => wi ρ μ fun ds g μ1 => wComp (fun d k => bindC n tt d (cap.map fun i => (ρ[i]?).join) k) cw ew g ds [] μ1 fun vs μ2 => newL m vs μ2 Q) σ H Q) : tComp n (LG X.K fun d r k => bindT (List.range n) tt d r k) cap (LI X.K wi) (LT X.K cw) (LE X.K ew) σ H Q := by
  obtain ⟨ρ, θ, μ, Qd, sm, h, f⟩ := h
  refine ⟨ρ, θ, μ, _, sm, h, fun ds g J H1 θ1 μ1 w1 g1 wk h1 => ?_⟩
  have f1 := f.mono g1
  have sm1 := sm.grow w1 g1
  refine ⟨fun i k vs σc H' => k = ds.length - i ∧ i ≤ ds.length ∧ vs.length ≤ i ∧ ∃ acc θ' μ' ρs, ρs.length = n ∧ Sim X.K σc H' (ρs ++ cap.map fun i => (ρ[i]?).join) θ' μ' ∧ Grow H1 θ1 μ1 H' θ' μ' ∧ Rps X.K H' θ' μ' acc vs ∧ wComp (fun d k => bindC n tt d (cap.map fun i => (ρ[i]?).join) k) cw ew g (ds.drop i) acc μ' fun vs μ2 => newL m vs μ2 Qd,
    ⟨ds.length, by simp, Nat.zero_le _, Nat.le_refl _, [], θ1, μ1, List.replicate n none, by simp, sim_cap n sm1, Grow.refl, Reps.nil, by simpa using h1⟩, ?_⟩
  rintro i k vs σc H' ⟨rfl, hi, hv, acc, θ', μ', ρs, hρ, sc, gr, rs, hl⟩
  have w' := sc.wok
  have hz := wk.1
  by_cases hlt : i < ds.length
  · right
    have e : ds.drop i = ds[i] :: ds.drop (i + 1) := List.drop_eq_getElem_cons hlt
    rw [e] at hl
    obtain ⟨hgμ, hl⟩ := hl
    obtain ⟨go, y⟩ := (wk.2 i H' θ' μ' w' gr hgμ).1 hlt
    refine ⟨go, by omega, fun x H'' yx => ?_⟩
    obtain ⟨w2, g2, d, ed, rd⟩ := y x H'' yx
    rw [List.getElem?_eq_getElem hlt] at ed
    cases ed
    refine ⟨ds[i], _, θ', μ', _, sc.grow w2 g2, rd, bind_CT hn hρ hl, fun σ2 ρ2 s2 q2 => ?_⟩
    obtain ⟨⟨ρt, ht, rfl⟩, q2⟩ := q2
    refine ⟨_, θ', μ', _, s2, q2, fun b H3 θ3 μ3 w3 g3 q3 => ?_⟩
    have g23 := g2.trans g3
    cases b with
    | true =>
      rw [if_pos rfl] at q3
      dsimp only
      rw [if_pos rfl]
      refine ⟨_, θ3, μ3, _, s2.grow w3 g3, q3, fun d4 v4 H4 θ4 μ4 w4 g4 r4 q4 => ?_⟩
      have g24 := g23.trans g4
      exact ⟨ds.length - (i + 1), by omega, rfl, hlt, by simp; omega, acc ++ [d4], θ4, μ4, ρt, ht, s2.grow w4 (g3.trans g4), gr.trans g24, (g24.reps rs).append (Reps.one r4), q4⟩
    | false =>
      rw [if_neg Bool.false_ne_true] at q3
      dsimp only
      rw [if_neg Bool.false_ne_true]
      exact ⟨ds.length - (i + 1), by omega, rfl, hlt, by omega, acc, θ3, μ3, ρt, ht, s2.grow w3 g3, gr.trans g23, g23.reps rs, q3⟩
  · left
    have e : i = ds.length := by omega
    subst e
    rw [List.drop_length] at hl
    obtain ⟨hgμ, hl⟩ := hl
    exact ⟨by omega, (wk.2 _ H' θ' μ' w' gr hgμ).2 rfl, fun p hp => newL_ok w' (f1.mono gr) rs hl hp⟩
end
end DW
end

section
set_option linter.all false
set_option autoImplicit false
set_option maxRecDepth 100000
set_option maxHeartbeats 2000000
/-! LRG: list(range(..)). -/
namespace DW
open PySem PySem.Spec PyProof.Rows L2
section
variable {X : Cx}
end
end DW
end

section
set_option linter.all false
set_option autoImplicit false
set_option maxRecDepth 100000
set_option maxHeartbeats 2000000
/-! DW10z: two lists walked side by side. -/
namespace DW
open PySem PySem.Spec PyProof.Rows L2

/-- some untracked records of ours have turned, one tuple is new -/
theorem inv_pair {X : Cx} {pins : List (Addr × Obj)} {σ : L2.St} {H : Hp} {s : Shared} {h' : Heap} {ch : List Addr} {p : Addr} {x y : V} {u v : Value} (I : Inv X pins σ H s) (hf : ∀ b ∈ ch, FpOk X pins H b)
    (k : ∀ b o, b ∉ ch → s.heap.get? b = some o → h'.get? b = some o) (hp : s.heap.objs.size ≤ p) (np : IsPair h' p u v) (ru : RelV x u) (rv : RelV y v) : Inv X pins σ (upd H p (.tup [x, y])) { s with heap := h' } := by
  have hn : H p = none := I.hok.fresh hp
  have up : ∀ b u, H b = some u → (upd H p (.tup [x, y])) b = some u := fun b u e => by rw [upd_ne (ne_of_none e hn)]; exact e
  have nch : ∀ b u, H b = some u → b ∉ ch := fun b u e z => by
    have := (hf b z).1
    rw [e] at this; cases this
  refine I.step (t' := s.toks) (g' := s.gens) (d' := s.drawn) (ch := ch) (fun b hb => ?_) (fun b o _ _ hc e _ => k b o hc e) (fun b o _ _ hc e _ => ⟨o.slots, k b o hc e⟩) (fun b o hc e n => ?_) (fun b o hc e => ⟨o, k b o hc e⟩)
    (fun b xs e => up b _ e) (fun b o u e => up b _ e) (fun b ps e => ⟨#[], by rw [up b _ e]; simp⟩) (fun m hm => ?_) (fun b u e => ?_) I.bare
  · obtain ⟨_, f1, _, f3, f4, f5⟩ := hf b hb
    exact ⟨f3, f1, f4, f5⟩
  · rw [upd_ne (Nat.ne_of_lt (Nat.lt_of_lt_of_le (Heap.lt_size e) hp))]; exact n
  · obtain ⟨o, es, ep, ho, r⟩ := hm
    exact ⟨o, es, ep, k _ o (fun z => (hf _ z).2.1 rfl) ho, r⟩
  · by_cases hb : b = p
    · subst hb
      rw [upd_same] at e; cases e
      exact ⟨by rw [sizeLine_eq]; simp, [u, v], .cons ru (.cons rv .nil), ⟨_, np, rfl, _, rfl⟩⟩
    · rw [upd_ne hb] at e
      refine (I.hok b u e).stay (fun c w hc q => k c w ?_ q) (fun c q => up c _ q) fun c xs q => up c _ q
      rcases hc with z | z
      · rw [z]; exact nch b u e
      · exact nch c _ z

noncomputable def Itz (K : PySem.W.Frag) (a b : Addr) : L2.It :=
  ⟨fun i H => ∃ xs ys x y, SqL K H a xs ∧ SqL K H b ys ∧ xs[i]? = some x ∧ ys[i]? = some y,
   fun i H v H' => ∃ p x y, H p = none ∧ v = .ref p ∧ H' = upd H p (.tup [x, y]) ∧ (∀ xs, SqL K H a xs → xs[i]? = some x) ∧ ∀ ys, SqL K H b ys → ys[i]? = some y,
   fun i H => ∃ xs ys, SqL K H a xs ∧ SqL K H b ys ∧ (xs.length ≤ i ∨ ys.length ≤ i)⟩
theorem turn_zip {P : Program} {w : World} {K : PySem.W.Frag} {es : List Expr} {k : Nat} {pos : Pos} (a b z TI TO i1 i2 : Addr) (D : ZipApart z TI TO i1 i2 a b) :
    Turn P w K (.Tuple es k pos) (Itz K a b) [z, TI, TO, i1, i2] z (fun i h => IsZip h z TI TO .none ∧ IsPair h TI (.ref i1) (.ref i2) ∧ (∃ c d, IsPair h TO c d) ∧ h.IsListIter i1 a i ∧ h.IsListIter i2 b i) where
  mem := by simp
  obj := fun i h st c hc => by
    obtain ⟨hz, hTI, ⟨_, _, hTO⟩, ⟨o1, e1, _, d1⟩, ⟨o2, e2, _, d2⟩⟩ := st
    simp only [List.mem_cons, List.not_mem_nil, or_false] at hc
    rcases hc with rfl | rfl | rfl | rfl | rfl
    · exact ⟨_, hz, fun v q => by cases q⟩
    · exact ⟨_, hTI, fun v q => by cases q⟩
    · exact ⟨_, hTO, fun v q => by cases q⟩
    · exact ⟨_, e1, fun v q => by rw [d1] at q; cases q⟩
    · exact ⟨_, e2, fun v q => by rw [d2] at q; cases q⟩
  keep := fun i h h' st kk => by
    obtain ⟨hz, hTI, ⟨c, d, hTO⟩, h1, h2⟩ := st
    exact ⟨kk z (by simp) _ hz, kk TI (by simp) _ hTI, ⟨c, d, kk TO (by simp) _ hTO⟩, h1.at fun o e => kk i1 (by simp) o e, h2.at fun o e => kk i2 (by simp) o e⟩
  item := by
    intro X hP hw hK hc i pins s σ H E I hf st hg
    subst hP hw hK
    obtain ⟨xs, ys, x, y, hq1, hq2, hx, hy⟩ := hg
    obtain ⟨hz, hTI, ⟨c, d, hTO⟩, h1, h2⟩ := st
    obtain ⟨its1, rv1, p1, _⟩ := I.list hq1
    obtain ⟨its2, rv2, p2, _⟩ := I.list hq2
    obtain ⟨u1, hu1, ru1⟩ := rv1.get hx
    obtain ⟨u2, hu2, ru2⟩ := rv2.get hy
    refine wpAny_pyNext_zip_item D hz hTI hTO h1 h2 p1.isList p2.isList (x := u1) (y := u2) (by simpa using hu1) (by simpa using hu2) fun h' a1 a2 a3 a4 a5 a6 a7 => ⟨_, rfl, ?_⟩
    refine wpAny_letOwnedTupleGo_zip (s := { s with heap := h' }) a1 fun h2' hz2 hs2 => ?_
    have hzl : z < s.heap.objs.size := Heap.lt_size hz
    have nz : s.heap.objs.size ≠ z := Nat.ne_of_gt hzl
    have I2 : Inv X pins σ (upd H s.heap.objs.size (.tup [x, y])) { s with heap := h2' } := inv_pair (ch := [z, TO, i1, i2]) I (fun q hq => hf q (by simp only [List.mem_cons, List.not_mem_nil, or_false] at hq ⊢; rcases hq with rfl | rfl | rfl | rfl <;> simp))
      (fun q o hq e => by
        simp only [List.mem_cons, List.not_mem_nil, or_false, not_or] at hq
        exact hs2.extBut _ _ hq.1 (a7 q o hq.1 hq.2.1 hq.2.2.1 hq.2.2.2 e)) (Nat.le_refl _) (hs2.extBut _ _ nz a5) ru1 ru2
    refine ⟨.ref s.heap.objs.size, _, I2, rfl, ⟨s.heap.objs.size, x, y, I.hok.fresh (Nat.le_refl _), rfl, rfl, fun xs' h' => by rw [I.list_inj h' hq1]; exact hx, fun ys' h' => by rw [I.list_inj h' hq2]; exact hy⟩, ?_, fun q hq => ?_⟩
    · exact ⟨hz2, hs2.extBut _ _ D.TIz (a7 _ _ D.TIz D.TITO D.TIi1 D.TIi2 hTI), ⟨_, _, hs2.extBut _ _ D.TOz a2⟩, a3.extBut hs2.extBut D.i1z, a4.extBut hs2.extBut D.i2z⟩
    · have hn := (hf q hq).1
      rw [upd_ne]
      · exact hn
      · intro e
        subst e
        obtain ⟨_, _, ⟨_, _, _⟩, ⟨o1, e1, _⟩, ⟨o2, e2, _⟩⟩ : IsZip s.heap z TI TO .none ∧ IsPair s.heap TI (.ref i1) (.ref i2) ∧ (∃ c d, IsPair s.heap TO c d) ∧ s.heap.IsListIter i1 a i ∧ s.heap.IsListIter i2 b i := ⟨hz, hTI, ⟨c, d, hTO⟩, h1, h2⟩
        simp only [List.mem_cons, List.not_mem_nil, or_false] at hq
        rcases hq with q | q | q | q | q
        · exact nz q
        · exact Nat.ne_of_gt (Heap.lt_size hTI) q
        · exact Nat.ne_of_gt (Heap.lt_size hTO) q
        · exact Nat.ne_of_gt (Heap.lt_size e1) q
        · exact Nat.ne_of_gt (Heap.lt_size e2) q
  done := by
    intro X hP hw hK hc i pins s σ H E I hf st hg
    subst hP hw hK
    obtain ⟨xs, ys, hq1, hq2, hl⟩ := hg
    obtain ⟨hz, hTI, ⟨c, d, hTO⟩, h1, h2⟩ := st
    obtain ⟨its1, rv1, p1, _⟩ := I.list hq1
    obtain ⟨its2, rv2, p2, _⟩ := I.list hq2
    have l1 := rv1.length
    have l2 := rv2.length
    refine wpAny_pyNext_zip_end (I.ok.hd hc) D hz hTI hTO h1 h2 p1.isList p2.isList ?_ fun h' kk => ⟨rfl, ?_⟩
    · rcases hl with hl | hl
      · left; simp; omega
      · right; simp; omega
    · refine I.step (t' := s.toks) (g' := s.gens) (d' := s.drawn) (ch := [z, TO, i1, i2]) (fun q hq => ?_) (fun q o _ _ hc e _ => ?_) (fun q o _ _ hc e _ => ⟨o.slots, ?_⟩) (fun _ _ _ _ n => n) (fun q o hc e => ⟨o, ?_⟩)
        (fun _ _ e => e) (fun _ _ _ e => e) (fun q ps e => ⟨#[], by rw [e]; simp⟩) (fun m hm => ?_) (fun q u e => ?_) I.bare
      · obtain ⟨_, f1, _, f3, f4, f5⟩ := hf q (by simp only [List.mem_cons, List.not_mem_nil, or_false] at hq ⊢; rcases hq with rfl | rfl | rfl | rfl <;> simp)
        exact ⟨f3, f1, f4, f5⟩
      · simp only [List.mem_cons, List.not_mem_nil, or_false, not_or] at hc
        exact kk q o hc.1 hc.2.1 hc.2.2.1 hc.2.2.2 e
      · simp only [List.mem_cons, List.not_mem_nil, or_false, not_or] at hc
        exact kk q o hc.1 hc.2.1 hc.2.2.1 hc.2.2.2 e
      · simp only [List.mem_cons, List.not_mem_nil, or_false, not_or] at hc
        exact kk q o hc.1 hc.2.1 hc.2.2.1 hc.2.2.2 e
      · obtain ⟨o, es', ep, ho, r⟩ := hm
        exact ⟨o, es', ep, kk _ o (Ne.symm (hf z (by simp)).2.1) (Ne.symm (hf TO (by simp)).2.1) (Ne.symm (hf i1 (by simp)).2.1) (Ne.symm (hf i2 (by simp)).2.1) ho, r⟩
      · have nh : ∀ c v, H c = some v → c ≠ z ∧ c ≠ TO ∧ c ≠ i1 ∧ c ≠ i2 := fun c v e => by
          refine ⟨?_, ?_, ?_, ?_⟩
          · rintro rfl; have := (hf c (by simp)).1; rw [e] at this; cases this
          · rintro rfl; have := (hf c (by simp)).1; rw [e] at this; cases this
          · rintro rfl; have := (hf c (by simp)).1; rw [e] at this; cases this
          · rintro rfl; have := (hf c (by simp)).1; rw [e] at this; cases this
        refine (I.hok q u e).stay (fun c v hc q' => ?_) (fun _ q => q) fun _ _ q => q
        have : c ≠ z ∧ c ≠ TO ∧ c ≠ i1 ∧ c ≠ i2 := by
          rcases hc with rfl | hc
          · exact nh _ _ e
          · exact nh _ _ hc
        exact kk c v this.1 this.2.1 this.2.2.1 this.2.2.2 q'
  self := fun _ _ _ _ _ st h => wpAny_pyIter_zip st.1 h

section
variable {K : PySem.W.Frag} {H : Hp} {θ : List Addr} {μ : Mem} {ds es : List D} {a b : Addr}
theorem zipD_len : ∀ (ds es : List D), (zipD ds es).length = min ds.length es.length
  | [], es => by simp [zipD]
  | _ :: _, [] => by simp [zipD]
  | d :: ds, e :: es => by simp [zipD, zipD_len ds es]
theorem zipD_get : ∀ (ds es : List D) (i : Nat), i < (zipD ds es).length → ∃ d e, ds[i]? = some d ∧ es[i]? = some e ∧ (zipD ds es)[i]? = some (.tup [d, e])
  | [], es, i, h => by simp [zipD] at h
  | _ :: _, [], i, h => by simp [zipD] at h
  | d :: ds, e :: es, 0, h => ⟨d, e, rfl, rfl, rfl⟩
  | d :: ds, e :: es, i + 1, h => by
    obtain ⟨x, y, h1, h2, h3⟩ := zipD_get ds es i (by simpa [zipD] using h)
    exact ⟨x, y, by simpa using h1, by simpa using h2, by simpa [zipD] using h3⟩
theorem walk_zip (hl : ds.length ≤ sizeLine) (g : Mem → Prop) (h : ∀ (H' : Hp) (θ' : List Addr) (μ' : Mem), WOk K H' θ' μ' → Grow H θ μ H' θ' μ' → g μ' → ∃ xs ys, SqL K H' a xs ∧ Rps K H' θ' μ' ds xs ∧ SqL K H' b ys ∧ Rps K H' θ' μ' es ys) :
    WalkOk K (Itz K a b) (zipD ds es) g H θ μ := by
  refine ⟨by rw [zipD_len]; omega, fun i H' θ' μ' w' gr hg => ?_⟩
  obtain ⟨xs, ys, hx, rx, hy, ry⟩ := h H' θ' μ' w' gr hg
  refine ⟨fun hi => ?_, fun hi => ⟨xs, ys, hx, hy, ?_⟩⟩
  · obtain ⟨d, e, h1, h2, h3⟩ := zipD_get ds es i hi
    obtain ⟨v, e1, e2⟩ := rx.get h1
    obtain ⟨u, f1, f2⟩ := ry.get h2
    refine ⟨⟨xs, ys, v, u, hx, hy, e1, f1⟩, fun x H'' y => ?_⟩
    obtain ⟨p, x', y', hn, rfl, rfl, y1, y2⟩ := y
    have := y1 xs hx
    rw [e1] at this; cases this
    have := y2 ys hy
    rw [f1] at this; cases this
    have ext : ∀ a o, H' a = some o → (upd H' p (.tup [v, u])) a = some o := ext_upd hn
    refine ⟨w'.ext ext, Grow.ext ext, _, h3, ?_⟩
    unfold Rep
    exact ⟨p, [v, u], rfl, upd_same, w'.notLive hn, Reps.cons ((Grow.ext ext).rep e2) (Reps.one ((Grow.ext ext).rep f2))⟩
  · rw [zipD_len] at hi
    have := rx.length
    have := ry.length
    omega
end
section
variable {X : Cx}
theorem pi_zipD {l r : Expr} {wl wr : WE} {y : Str} {p pos tp : Pos} {es : List Expr} {k : Nat} (ey : y = Str.ofString "zip") (hg : Gl X y) (hm : X.mg y = none) (hl : PE X l (LE X.K wl)) (hr : PE X r (LE X.K wr)) (hs : starEach [l, r] X.env = [(false, eval l X.env), (false, eval r X.env)]) (hs2 : starEach [r] X.env = [(false, eval r X.env)]) :
    PI X (.Tuple es k tp) (.Call (.Name y p) [l, r] [] pos) (LI X.K fun ρ μ Q => wl ρ μ fun a μ1 => wr ρ μ1 fun b μ2 => wZip a b μ2 Q) := by
  subst ey
  intro pins s σ H R I h
  obtain ⟨ρ, θ, μ, Qi, sm, h, f⟩ := h
  have hA : PA X [l, r] (tCons (LE X.K wl) (tCons (LE X.K wr) tNil)) := pa_cons hl (pa_cons hr pa_nil (by rw [hs2]; rfl)) (by rw [hs, hs2])
  refine Call_ (ld_blt I hg hm boot_zip (PyProof.Rows.callWith_type1 (thn (hA pos pins s σ H (fun vs H2 => ∃ d e v w θ2 μ2, vs = [v, w] ∧ WOk X.K H2 θ2 μ2 ∧ Grow H θ μ H2 θ2 μ2 ∧ Rp X.K H2 θ2 μ2 d v ∧ Rp X.K H2 θ2 μ2 e w ∧ wZip d e μ2 Qi) I
    ⟨ρ, θ, μ, _, sm, h, fun d v H1 θ1 μ1 w1 g1 r1 h1 => ⟨ρ, θ1, μ1, _, sm.grow w1 g1, h1, fun e w H2 θ2 μ2 w2 g2 r2 h2 => ⟨d, e, v, w, θ2, μ2, rfl, w2, g1.trans g2, g2.rep r1, r2, h2⟩⟩⟩) fun us s1 ⟨vs, H2, I2, rv, d, e, v, w, θ2, μ2, ev, w2, g2, rd, re, hq⟩ => ?_) (by rw [hs, hs2]) (by rw [hs2]; rfl)))
  subst ev
  unfold wZip at hq
  split at hq
  · rename_i as bs ha hb
    obtain ⟨a, xs, rfl, sa, ra⟩ := lstOf_sq w2 rd ha
    obtain ⟨b, ys, rfl, sb, rb⟩ := lstOf_sq w2 re hb
    cases rv with
    | cons r1 rr =>
      cases rr with
      | cons r2 rr =>
        cases rr
        cases r1
        cases r2
        obtain ⟨i1, v1, p1, z1⟩ := I2.list sa
        obtain ⟨i2, v2, p2, z2⟩ := I2.list sb
        have la : as.length ≤ sizeLine := by rw [ra.length]; exact z1
        obtain ⟨oa, ga, _⟩ := p1.isList
        obtain ⟨ob, gb, _⟩ := p2.isList
        have ha' : a < s1.heap.objs.size := Heap.lt_size ga
        have hb' : b < s1.heap.objs.size := Heap.lt_size gb
        refine call_zip_2 p1.isList p2.isList fun h' a1 a2 a3 a4 a5 a6 kk => ?_
        have I3 : Inv X pins σ H2 { s1 with heap := h' } := I2.kept (t' := s1.toks) kk
        have D : ZipApart (s1.heap.objs.size + 4) (s1.heap.objs.size + 2) (s1.heap.objs.size + 3) s1.heap.objs.size (s1.heap.objs.size + 1) a b := by
          have na : ∀ j, a ≠ s1.heap.objs.size + j := fun j => Nat.ne_of_lt (Nat.lt_of_lt_of_le ha' (Nat.le_add_right _ _))
          have nb : ∀ j, b ≠ s1.heap.objs.size + j := fun j => Nat.ne_of_lt (Nat.lt_of_lt_of_le hb' (Nat.le_add_right _ _))
          refine ⟨?_, ?_, ?_, ?_, ?_, ?_, ?_, ?_, ?_, ?_, na 4, na 3, na 0, na 1, nb 4, nb 3, nb 0, nb 1⟩ <;> (intro q; have q' : (_ : Nat) = _ := q; omega)
        refine wpAny_pyIter_zip a1 ⟨_, _, _, Itz X.K a b, H2, rfl, I3, turn_zip a b _ _ _ _ _ D, ⟨a1, a2, ⟨_, _, a3⟩, a4, a5⟩, fun q hq' => ?_, ?_⟩
        · have : s1.heap.objs.size ≤ q := by
            simp only [List.mem_cons, List.not_mem_nil, or_false] at hq'
            rcases hq' with rfl | rfl | rfl | rfl | rfl
            · exact Nat.le_add_right _ _
            · exact Nat.le_add_right _ _
            · exact Nat.le_add_right _ _
            · exact Nat.le_refl _
            · exact Nat.le_add_right _ _
          exact I2.fpOk this (I2.hok.fresh this)
        · refine f _ _ _ H2 θ2 μ2 w2 g2 (walk_zip la _ fun H' θ' μ' w' gr hg => ?_) hq
          obtain ⟨a', xs', e1, s1', r1'⟩ := lstOf_sq w' (gr.rep rd) hg.1
          obtain ⟨b', ys', e2, s2', r2'⟩ := lstOf_sq w' (gr.rep re) hg.2
          cases e1; cases e2
          exact ⟨xs', ys', s1', r1', s2', r2'⟩
  · exact hq.elim
end
end DW
end

section
set_option linter.all false
set_option autoImplicit false
set_option maxRecDepth 100000
set_option maxHeartbeats 2000000
/-! DW10e: a list walked with its numbers. -/
namespace DW
open PySem PySem.Spec PyProof.Rows L2
section
variable {K : PySem.W.Frag} {H : Hp} {θ : List Addr} {μ : Mem} {ds : List D} {a : Addr}
end
section
variable {X : Cx}
end
end DW
end

section
set_option linter.all false
set_option autoImplicit false
set_option maxRecDepth 100000
set_option maxHeartbeats 2000000
/-! REV: a list walked from its end. -/
namespace DW
open PySem PySem.Spec PyProof.Rows L2
section
variable {K : PySem.W.Frag} {H : Hp} {θ : List Addr} {μ : Mem} {ds : List D} {a : Addr}
end
section
variable {X : Cx} {tg : Expr}
end
end DW
end

section
set_option linter.all false
set_option autoImplicit false
set_option maxRecDepth 100000
namespace DW
open PySem PySem.Spec PyProof.Rows L2
section
variable {X : Cx}
/-! ### xs[::-1] -/
/-! ### max(xs, default=d) -/
end
set_option maxHeartbeats 1000000
section
variable {prog : Program} {w : World} {A : Around} {R : Result → Shared → Prop} {I l S : Addr} {items : Array Value} {val : Nat → Int} {dv : Value}
end
section
variable {X : Cx}
end
end DW
end

section
set_option linter.all false
set_option autoImplicit false
set_option maxRecDepth 100000
set_option maxHeartbeats 2000000
/-! EXA: an attribute of an own error's object; isinstance of it. -/
namespace DW
open PySem PySem.W PySem.Spec PySem.Calls PyProof.Rows Builtin.Getset_descriptor

/-- an own error class: what is asked of it -/
structure ExcCls (K : Frag) (C : Addr) : Prop where
  ga : findIn K (.ref C) "__getattribute__" = some (some (.builtin "BaseException.__getattribute__"))
  hk : findIn K (.ref C) "__getattr__" = some none
  ex : mroIn K C (.type "BaseException") = some true
  ob : mroIn K C (.type "object") = some true
  ca : findIn K (.ref C) "__class__" = some (some (.builtin "object.__class__"))
  cg : specialIn K (.builtin "object.__class__") "__get__" = some (some (.builtin "getset_descriptor.__get__"))
  ct : takesIn K (.builtin "object.__class__") = some true
  cl : (clsIn K C).isSome = true

section
variable {prog : Program} {w : World} {A : Around} {E : Value → Shared → Prop} {s : Shared} {K : Frag} {x C : Addr} {name : Str}
end
end DW
end

section
set_option linter.all false
set_option autoImplicit false
set_option maxRecDepth 100000
set_option maxHeartbeats 2000000
/-! EXB: how an own error leaves frames. -/
namespace DW
open PySem PySem.W PySem.Spec PyProof.Rows L2

/-- how an own error lies behind a call. B: all that stays while it flies -/
structure Fly (outer : List Env) (H H' : Hp) (h h' : Heap) (B : Heap) (ea : Addr) (cls a0 : Value) (P : Program) (w : World) : Prop where
  un : Un (frs outer) [] H H' h h'
  hok : HOk P w H' h'
  fl : Heap.FlyingW B outer ea cls a0 h'
  old : ∀ b o, h.get? b = some o → b ∉ frs outer → ∃ o', B.get? b = some o'
  trk : ∀ b u, H' b = some u → ∃ o, B.get? b = some o
noncomputable def CXE (P : Program) (w : World) : CXT := fun outer H s E e s' =>
  ∃ (ea : Addr) (cls a0 : Value) (B : Heap) (H' : Hp), e = .ref ea ∧ s'.os = s.os ∧ AllBare s'.gens ∧ Fly outer H H' s.heap s'.heap B ea cls a0 P w ∧ E cls none H'

/-- a def's body: what leaves it -/
structure Leaves (X : Cx) (E : XK) : Prop where
  stk : X.stack = X.env :: X.outer
  fr : X.env.frame = some X.env.locals
  ex : X.ex = []
  xe : X.xe = fun e s' => wpAny (model X.prog X.w) X.A (leaving X.env e) (fun _ s'' => CXE X.prog X.w X.outer X.H₀ X.s₀ E e s'') (fun e' s'' => CXE X.prog X.w X.outer X.H₀ X.s₀ E e' s'') s'
theorem leaves_cx {P : Program} {w : World} {K : Frag} {mg : Str → Option Value} {base : Heap} {N : List Str} {qual : Str} {scope : Scope} {f : Addr} {cd : Value} {A : Around} {outer : List Env} {s : Shared} {H : Hp} {E : XK} :
    Leaves (cxOf (CXE P w) P w K mg base N qual scope f cd A outer s H E) E := ⟨rfl, rfl, rfl, rfl⟩

theorem un_fly {fs : List Addr} {H0 H : Hp} {h0 h h' B : Heap} {fr : List Addr} (u : Un fs [] H0 H h0 h) (hB : ∀ b o, (∃ o0, h0.get? b = some o0) → h.get? b = some o → b ∉ fr → B.get? b = some o) (st : B.StaysIn h')
    (up : ∀ b ∈ fr, ∀ o, h.get? b = some o → ∃ sl, h'.get? b = some { o with slots := sl }) (nl : ∀ b o, h0.get? b = some o → b ∈ fr → b ∈ fs) : Un fs [] H0 H h0 h' where
  keep := fun b o q n hb hx => by
    have e := u.keep b o q n hb hx
    exact st b o (hB b o ⟨o, q⟩ e fun z => hb (nl b o q z))
  slot := fun b o q n hb hx => by
    obtain ⟨sl, e⟩ := u.slot b o q n hb hx
    by_cases z : b ∈ fr
    · obtain ⟨sl', e'⟩ := up b z _ e
      exact ⟨sl', e'⟩
    · exact ⟨sl, st b _ (hB b _ ⟨o, q⟩ e z)⟩
  free := u.free
  there := fun b o q hx => by
    obtain ⟨o', e⟩ := u.there b o q hx
    by_cases z : b ∈ fr
    · obtain ⟨sl', e'⟩ := up b z _ e
      exact ⟨_, e'⟩
    · exact ⟨o', st b _ (hB b _ ⟨o, q⟩ e z)⟩
  tups := u.tups
  frzs := u.frzs
  tbls := u.tbls
theorem hok_fly {P : Program} {w : World} {H : Hp} {h h' B : Heap} (hok : HOk P w H h) (hB : ∀ b u, H b = some u → ∃ o, B.get? b = some o) (s1 : B.StaysIn h) (st : B.StaysIn h') : HOk P w H h' := fun a o e => by
  have k : ∀ b v, H b ≠ none → h.get? b = some v → h'.get? b = some v := fun b v hb hv => by
    cases q : H b with
    | none => exact absurd q hb
    | some u =>
      obtain ⟨o', e'⟩ := hB b u q
      have := s1 b o' e'
      rw [hv] at this; cases this
      exact st b _ e'
  refine (hok a o e).stay (fun b u hb q => k b u ?_ q) (fun _ q => q) fun _ _ q => q
  rcases hb with rfl | z
  · rw [e]; simp
  · rw [z]; simp

section
variable {X : Cx} {E E' : XK} {pins : List (Addr × Obj)} {σ : L2.St} {H : Hp} {s s' : Shared} {e : Value}
theorem fr_up {l : List Env} {base h h' : Heap} (F : h.FunFrames base l) (up : h.UpToSlots h') : ∀ b ∈ frs l, ∀ o, h.get? b = some o → ∃ sl, h'.get? b = some { o with slots := sl } := fun b hb o ho => by
  obtain ⟨_, o', e', nf⟩ := F.mem hb
  rw [ho] at e'; cases e'
  exact up b o ho nf
theorem frs_eq (L : Leaves X E) : frs X.stack = X.env.locals :: X.fs := by rw [L.stk]; unfold frs; rw [List.filterMap_cons, L.fr]; rfl
theorem old_out (L : Leaves X E) (I : Inv X pins σ H s) {b : Addr} {o : Obj} (q : X.s₀.heap.get? b = some o) (z : b ∈ frs X.stack) : b ∈ X.fs := by
  rw [frs_eq L] at z
  rcases List.mem_cons.mp z with z | z
  · exact absurd (Heap.lt_size q) (by rw [z]; exact Nat.not_lt.mpr I.ok.above)
  · exact z
/-- behind a call that raised: the state of the caller -/
theorem fly_inv {H' : Hp} {B : Heap} {ea : Addr} {cls a0 : Value} (I : Inv X pins σ H s) (ho : s'.os = s.os) (hg : AllBare s'.gens) (F : Fly X.stack H H' s.heap s'.heap B ea cls a0 X.prog X.w) : Inv X pins σ H' s' :=
  I.call' (ch := []) ho F.un F.hok hg fun b z => absurd z (by simp)
/-- raised by a callee: it flies on -/
theorem call_xe (L : Leaves X E) (I : Inv X pins σ H s) (hE : ∀ cls H', E' cls none H' → E cls none H') (h : CXE X.prog X.w X.stack H s E' e s') : X.xe e s' := by
  obtain ⟨ea, cls, a0, B, H', rfl, ho, hg, F, q⟩ := h
  have I' := fly_inv I ho hg F
  rw [L.xe]
  have hfr : X.A.frames = some (X.env :: X.outer) := by rw [I.ok.frames, L.stk]
  have fl := F.fl
  have F0 : s'.heap.FunFrames B X.stack := fl.2.2.1
  rw [L.stk] at fl
  have hbase : Un X.fs [] X.H₀ H' X.s₀.heap s'.heap := by have := I'.base; rw [L.ex] at this; exact this
  have hbase0 : Un X.fs [] X.H₀ H X.s₀.heap s.heap := by have := I.base; rw [L.ex] at this; exact this
  refine wpAny_leaves_onW hfr L.fr fl fun h2 fl2 up => ?_
  have inB : ∀ b, (∃ o0, X.s₀.heap.get? b = some o0) → b ∉ frs X.stack → ∃ o', B.get? b = some o' := fun b ⟨o0, q0⟩ z => by
    obtain ⟨o1, e1⟩ := hbase0.there b o0 q0 (by simp)
    exact F.old b o1 e1 z
  refine ⟨ea, cls, a0, B, H', rfl, I'.os, I'.bare, ⟨?_, ?_, fl2, ?_, F.trk⟩, hE cls H' q⟩
  · refine un_fly hbase (fun b o hb q0 z => ?_) fl2.1 (fr_up F0 up) fun b o q0 z => old_out L I q0 z
    obtain ⟨o', e'⟩ := inB b hb z
    have := fl.1 b o' e'
    rw [q0] at this; cases this
    exact e'
  · exact hok_fly F.hok F.trk fl.1 fl2.1
  · intro b o q0 z
    exact inB b ⟨o, q0⟩ fun y => z (old_out L I q0 y)
end
end DW
end

section
set_option linter.all false
set_option autoImplicit false
set_option maxRecDepth 100000
set_option maxHeartbeats 2000000
/-! EXC: raise of an own error without attributes; a call that may raise. -/
namespace DW
open PySem PySem.W PySem.Spec PyProof.Rows L2

abbrev bmVE : List Value := [.type "ValueError", .type "Exception", .type "BaseException", .type "object"]
section
variable {X : Cx} {E : XK} {x : Str} {C : Addr} {np cpos pos : Pos} {args : List Expr} {t : TA}
end

/-! ### calls that may raise -/
/-- what an error that a callee raised meets here; EX: by the frame's values -/
noncomputable def Meets (X : Cx) (EX : L2.St → XK) : Prop := ∀ (pins : List (Addr × Obj)) (σ : L2.St) (H : Hp) (s : Shared) (E' : XK) (e : Value) (s' : Shared), Inv X pins σ H s → (∀ cls H', E' cls none H' → EX σ cls none H') → CXE X.prog X.w X.stack H s E' e s' → X.xe e s'
theorem meets_of {X : Cx} {E : XK} (L : Leaves X E) : Meets X fun _ => E := fun pins σ H s E' e s' I hE h => call_xe L I hE h
section
variable {X : Cx} {EX : L2.St → XK} {k : Nat} {f C : Addr} {fd : FuncData} {ps : List Str} {sp : Sp} {x m : Str} {p pos apos : Pos} {e o : Expr} {es : List Expr} {ta : TE} {t : TA}
end
end DW
end

section
set_option linter.all false
set_option autoImplicit false
set_option maxRecDepth 100000
set_option maxHeartbeats 2000000
/-! EXD: try with one handler that takes an own error by a name. -/
namespace DW
open PySem PySem.W PySem.Spec PyProof.Rows L2

section
variable {X : Cx} {pins : List (Addr × Obj)} {σ : L2.St} {H H' : Hp} {s s' : Shared} {ea : Addr} {oe : Obj}
end

section
variable {X : Cx} {pins pn : List (Addr × Obj)} {σ : L2.St} {H : Hp} {s : Shared} {ξ : Value → Shared → Prop}
end
section
variable {X : Cx} {i : Nat} {n P : Str} {np hpos pos : Pos} {b₀ : Stmt} {suite body : List Stmt} {CP : Addr} {tb : (L2.St → XK) → TS} {th : TS}
end
end DW
end

section
set_option linter.all false
set_option autoImplicit false
set_option maxRecDepth 100000
set_option maxHeartbeats 2000000
/-! DW12: a term of the small language, matched by a piece of the text, says what the text does. -/
namespace DW
open PySem PySem.Spec PyProof.Rows L2

noncomputable def low (K : PySem.W.Frag) (sp : DSp) : Sp := fun vs H Q _ => ∃ ds θ μ Qd, WOk K H θ μ ∧ Rps K H θ μ ds vs ∧ sp ds μ Qd ∧ Fin K H θ μ Qd Q
/-- what is wanted behind an error -/
noncomputable def FinX (K : PySem.W.Frag) (H : Hp) (θ : List Addr) (μ : Mem) (Xd : QX) (E : XK) : Prop := ∀ (H' : Hp) (θ' : List Addr) (μ' : Mem) (c : String) (ks : List String) (ds : List D), WOk K H' θ' μ' → Grow H θ μ H' θ' μ' → Xd c ks ds μ' → XLand K E H' c ks
noncomputable def lowX (K : PySem.W.Frag) (sp : DSpX) : Sp := fun vs H Q E => ∃ ds θ μ Qd Xd, WOk K H θ μ ∧ Rps K H θ μ ds vs ∧ sp ds μ Qd Xd ∧ Fin K H θ μ Qd Q ∧ FinX K H θ μ Xd E
theorem passE {X : Cx} : Passes (CXE X.prog X.w) X E0 := fun _ _ _ _ _ _ _ h => by
  obtain ⟨_, _, _, _, _, _, _, _, _, q⟩ := h
  exact q.elim
/-- a class by its name: an own one, a built-in one -/
noncomputable def ClsVal (mg : Str → Option Value) (t : String) (v : V) : Prop :=
  (∃ C, v = .ref C ∧ mg (Str.ofString t) = some (.ref C)) ∨ (v = .ty t ∧ mg (Str.ofString t) = none ∧ bootBuiltins (Str.ofString t) = some (.type t) ∧ Str.ofString t ≠ "__name__")
noncomputable def ClsVals (mg : Str → Option Value) : List String → List V → Prop
  | [], [] => True
  | t :: ts, v :: vs => ClsVal mg t v ∧ ClsVals mg ts vs
  | _, _ => False
noncomputable def clsU : V → Value
  | .ref a => .ref a
  | .ty n => .type n
  | _ => .none
noncomputable def IsxAt (K : PySem.W.Frag) (mg : Str → Option Value) (tt : Bool) (ts : List String) (tab : List (String × Bool)) : Prop := ∃ vs, ClsVals mg ts vs ∧ ∀ p ∈ tab, ∃ C, PySem.W.nsIn K mainGlobals (Str.ofString p.1) = some (some (.ref C)) ∧ ExcCls K C ∧
  (if tt = true then PySem.W.kitAny K (.ref C) (vs.map clsU) = some p.2 else ∃ v, vs = [v] ∧ PySem.W.kitOne K (.ref C) (clsU v) = some p.2)
noncomputable def HdlAt (K : PySem.W.Frag) (mg : Str → Option Value) (P : String) (tab : List String) : Prop := ∃ CP, mg (Str.ofString P) = some (.ref CP) ∧ ∀ c ∈ tab, ∃ C, PySem.W.nsIn K mainGlobals (Str.ofString c) = some (some (.ref C)) ∧ PySem.W.exmOne K (.ref C) (.ref CP) = some true
noncomputable def RseAt (K : PySem.W.Frag) (mg : Str → Option Value) (c : String) : Prop := ∃ C, PySem.W.nsIn K mainGlobals (Str.ofString c) = some (some (.ref C)) ∧ mg (Str.ofString c) = some (.ref C) ∧ PySem.W.excIn K C bmVE "ValueError.__new__" = true
noncomputable def FnRef (X : Cx) : Rf → DSp → Prop
  | .fn x, sp => ∃ (fa : Addr) (fd : FuncData) (ps : List Str) (k : Nat), X.mg x = some (.ref fa) ∧ PySem.W.keepIn X.K (.ref fa) = true ∧ Binds X.K fd ps [] ∧ FnOk X.prog X.w X.K X.mg X.base (CXE X.prog X.w) k fa fd ps (low X.K sp) ∧ Room k X.A
  | .mth c m, sp => ∃ (C fa : Addr) (fd : FuncData) (ps : List Str) (k : Nat), PySem.W.nsIn X.K mainGlobals (Str.ofString c) = some (some (.ref C)) ∧ Cls X.K C ∧ Meth X.K C (Str.ofString m) fa ∧ Binds X.K fd ps [] ∧ FnOk X.prog X.w X.K X.mg X.base (CXE X.prog X.w) k fa fd ps (low X.K sp) ∧ Room k X.A
  | .mk c, sp => ∃ (C fa : Addr) (fd : FuncData) (ps : List Str) (k : Nat), PySem.W.nsIn X.K mainGlobals (Str.ofString c) = some (some (.ref C)) ∧ X.mg (Str.ofString c) = some (.ref C) ∧ Mk X.K C fa ∧ Binds X.K fd ps [] ∧ FnOk X.prog X.w X.K X.mg X.base (CXE X.prog X.w) k fa fd ps (low X.K sp) ∧ Room (k + 1) X.A
  | .fld c f, _ => ∃ C : Addr, PySem.W.nsIn X.K mainGlobals (Str.ofString c) = some (some (.ref C)) ∧ Cls X.K C ∧ NoAttr X.K C (Str.ofString f)
  | .fnX x sp, _ => ∃ (fa : Addr) (fd : FuncData) (ps : List Str) (k : Nat), X.mg x = some (.ref fa) ∧ PySem.W.keepIn X.K (.ref fa) = true ∧ Binds X.K fd ps [] ∧ FnOk X.prog X.w X.K X.mg X.base (CXE X.prog X.w) k fa fd ps (lowX X.K sp) ∧ Room k X.A
  | .mthX c m sp, _ => ∃ (C fa : Addr) (fd : FuncData) (ps : List Str) (k : Nat), PySem.W.nsIn X.K mainGlobals (Str.ofString c) = some (some (.ref C)) ∧ Cls X.K C ∧ Meth X.K C (Str.ofString m) fa ∧ Binds X.K fd ps [] ∧ FnOk X.prog X.w X.K X.mg X.base (CXE X.prog X.w) k fa fd ps (lowX X.K sp) ∧ Room k X.A
  | .mkX c sp, _ => ∃ (C fa : Addr) (fd : FuncData) (ps : List Str) (k : Nat), PySem.W.nsIn X.K mainGlobals (Str.ofString c) = some (some (.ref C)) ∧ X.mg (Str.ofString c) = some (.ref C) ∧ Mk X.K C fa ∧ Binds X.K fd ps [] ∧ FnOk X.prog X.w X.K X.mg X.base (CXE X.prog X.w) k fa fd ps (lowX X.K sp) ∧ Room (k + 1) X.A
  | .rse c, _ => RseAt X.K X.mg c
  | .hdl P tab, _ => HdlAt X.K X.mg P tab
  | .isx tt ts tab, _ => IsxAt X.K X.mg tt ts tab
noncomputable def GblRef (X : Cx) (x : Str) (d : D) : Prop := ∃ (u : Value) (v : V), X.mg x = some u ∧ RelV v u ∧ ∀ H θ μ, Rp X.K H θ μ d v
structure CtxOk (X : Cx) (c : Ctx) : Prop where
  N : X.N = c.N
  nd : c.N.Nodup
  vis : ∀ x, c.vis x = true → Vis X.env.scope x
  loc : ∀ x, c.loc x = true → Loc X.env.scope x ∧ (X.fn x = true ∨ X.env.scope.names.lookup x = some .local)
  isl : ∀ x, isLocal c x = true → X.env.scope.names.lookup x = some .local
  glb : ∀ x, c.glb x = true → Gl X x
  clo : ∀ x, (c.names.lookup x = some .cell ∨ c.names.lookup x = some .free) → (X.env.kindOf x = some .cell ∨ X.env.kindOf x = some .free)
  blt : ∀ x, c.blts.contains x = true → X.mg x = none
  calm : c.calm = true → X.calm = true
  room : c.calm = true → ∃ k, Room k X.A
  pas : PassesOwn (model X.prog X.w) X.A X.env X.xe

theorem at_some {c : Ctx} {i : Nat} {x : Str} (h : c.at_ i x = true) : c.N[i]? = some x := by
  unfold Ctx.at_ at h
  split at h
  · rename_i y e; rw [e, of_decide_eq_true h]
  · cases h
theorem star_of {e : Expr} {es : List Expr} {env : Env} (h : notStar e = true) : starEach (e :: es) env = (false, eval e env) :: starEach es env := by
  cases e <;> first | rfl | exact (Bool.false_ne_true h).elim
theorem any_star {c : Ctx} {pos : Pos} {env : Env} : ∀ {es : Es} {as : List Expr}, mEs c es as = true → (backTo pos (starEach as env)).any (·.1) = false
  | .nil, as, h => by
    have : as = [] := by simpa [mEs] using h
    subst this; rfl
  | .cons e es, as, h => by
    cases as with
    | nil => simp [mEs] at h
    | cons a as =>
      simp only [mEs, Bool.and_eq_true] at h
      rw [star_of h.1.2]
      show (false || (backTo pos (starEach as env)).any (·.1)) = false
      rw [any_star h.2]; rfl
theorem esLen_eq {c : Ctx} : ∀ {es : Es} {as : List Expr}, mEs c es as = true → esLen es = as.length
  | .nil, as, h => by
    have : as = [] := by simpa [mEs] using h
    subst this; rfl
  | .cons e es, as, h => by
    cases as with
    | nil => simp [mEs] at h
    | cons a as =>
      simp only [mEs, Bool.and_eq_true] at h
      simp [esLen, esLen_eq h.2]
theorem oddName_of {x : Str} (h : oddName x = false) : (x == ("__debug__" : Str)) = false ∧ (x == ("__classdict__" : Str)) = false := by
  unfold oddName at h
  exact Bool.or_eq_false_iff.mp h
theorem set_of {op : CmpOp} {e : Expr} (h : notSet e = true) : behindInMarks op e = false := by
  cases e <;> first | rfl | exact (Bool.false_ne_true h).elim
theorem folded_of {e : Expr} {env : Env} (h : notSet e = true) : ∀ v, foldedSetIterable e env v = pure v := by
  intro v
  cases e <;> first | rfl | exact (Bool.false_ne_true h).elim
theorem plainIx_of {e : Expr} (h : plainIxB e = true) : PlainIx e := by
  intro o i
  cases e <;> first | rfl | exact (Bool.false_ne_true h).elim
theorem swap_of {e : Expr} {t : Option Expr} {n : Nat} {env : Env} (h : notComp e = true) : swapsWith e t n env = pure false := by
  cases e <;> first | rfl | exact (Bool.false_ne_true h).elim

structure Snd (X : Cx) (e : E) (a : Expr) : Prop where
  pe : PE X a (LE X.K (wE e))
  pt : PT X a (LT X.K (wT e))
  pw : ∀ op vs pos, a = .BoolOp op vs pos → PW X a (LT X.K (wT e))

section
variable {X : Cx}
theorem pt_never {a : Expr} : PT X a (LT X.K fun _ _ _ => False) := fun pins s σ H Q I h => by obtain ⟨_, _, _, _, _, h, _⟩ := h; exact h.elim
/-- a test as a bool's value -/
theorem lt_bl {t : TE} {w : WE} {σ : L2.St} {H : Hp} {Q : Bool → Hp → Prop} (ht : ∀ σ H Q, LE X.K w σ H Q → t σ H Q) (h : LT X.K (fun ρ μ Q => w ρ μ fun r μ1 => wBl r μ1 Q) σ H Q) : tTest t σ H Q := by
  obtain ⟨ρ, θ, μ, Qd, s, h, f⟩ := h
  refine ht σ H _ ⟨ρ, θ, μ, _, s, h, fun r v H1 θ1 μ1 w1 g1 r1 h1 => ?_⟩
  cases r with
  | bl b => exact ⟨b, inv_bl r1, f b H1 θ1 μ1 w1 g1 h1⟩
  | _ => exact h1.elim
theorem le_chain {p q : CmpOp} {wa wb wc : WE} {σ : L2.St} {H : Hp} {Q : VK}
    (h : LE X.K (fun ρ μ Q => wa ρ μ fun x μ1 => wb ρ μ1 fun y μ2 => wCmp p x y μ2 fun r μ3 => wBl r μ3 fun t μ3 => if t = true then wc ρ μ3 fun z μ4 => wCmp q y z μ4 Q else Q (.bl false) μ3) σ H Q) :
    tChain (low2 X.K (wCmp p)) (low2 X.K (wCmp q)) (LE X.K wa) (LE X.K wb) (LE X.K wc) σ H Q := by
  obtain ⟨ρ, θ, μ, Qd, s, h, f⟩ := h
  refine ⟨ρ, θ, μ, _, s, h, fun x v H1 θ1 μ1 w1 g1 r1 h1 => ⟨ρ, θ1, μ1, _, s.grow w1 g1, h1, fun y v2 H2 θ2 μ2 w2 g2 r2 h2 => ⟨x, y, θ2, μ2, _, w2, g2.rep r1, r2, h2, fun r v3 H3 θ3 μ3 w3 g3 r3 h3 => ?_⟩⟩⟩
  cases r with
  | bl b =>
    refine ⟨b, inv_bl r3, ?_⟩
    have g13 := (g1.trans g2).trans g3
    cases b with
    | true =>
      exact ⟨ρ, θ3, μ3, _, s.grow w3 g13, h3, fun z v4 H4 θ4 μ4 w4 g4 r4 h4 => ⟨y, z, θ4, μ4, Qd, w4, (g3.trans g4).rep r2, r4, h4, f.mono (g13.trans g4)⟩⟩
    | false => exact (f.mono g13).at w3 rp_bl h3
  | _ => exact h3.elim
theorem le_and {wa wb : WE} {σ : L2.St} {H : Hp} {Q : VK} (h : LE X.K (fun ρ μ Q => wa ρ μ fun x μ1 => wBl x μ1 fun t μ2 => if t = true then wb ρ μ2 Q else Q (.bl false) μ2) σ H Q) : tAndV (LE X.K wa) (LE X.K wb) σ H Q := by
  obtain ⟨ρ, θ, μ, Qd, s, h, f⟩ := h
  refine ⟨ρ, θ, μ, _, s, h, fun x v H1 θ1 μ1 w1 g1 r1 h1 => ?_⟩
  cases x with
  | bl b =>
    refine ⟨b, inv_bl r1, ?_⟩
    cases b with
    | true => exact ⟨ρ, θ1, μ1, Qd, s.grow w1 g1, h1, f.mono g1⟩
    | false => exact (f.mono g1).at w1 rp_bl h1
  | _ => exact h1.elim
theorem le_or {wa wb : WE} {σ : L2.St} {H : Hp} {Q : VK} (h : LE X.K (fun ρ μ Q => wa ρ μ fun x μ1 => wBl x μ1 fun t μ2 => if t = true then Q (.bl true) μ2 else wb ρ μ2 Q) σ H Q) : tOrV (LE X.K wa) (LE X.K wb) σ H Q := by
  obtain ⟨ρ, θ, μ, Qd, s, h, f⟩ := h
  refine ⟨ρ, θ, μ, _, s, h, fun x v H1 θ1 μ1 w1 g1 r1 h1 => ?_⟩
  cases x with
  | bl b =>
    refine ⟨b, inv_bl r1, ?_⟩
    cases b with
    | false => exact ⟨ρ, θ1, μ1, Qd, s.grow w1 g1, h1, f.mono g1⟩
    | true => exact (f.mono g1).at w1 rp_bl h1
  | _ => exact h1.elim
theorem lt_and {wa wb : WT} {σ : L2.St} {H : Hp} {Q : Bool → Hp → Prop} (h : LT X.K (fun ρ μ Q => wa ρ μ fun t μ1 => if t = true then wb ρ μ1 Q else Q false μ1) σ H Q) : tAnd (LT X.K wa) (LT X.K wb) σ H Q := by
  obtain ⟨ρ, θ, μ, Qd, s, h, f⟩ := h
  refine ⟨ρ, θ, μ, _, s, h, fun b H1 θ1 μ1 w1 g1 h1 => ?_⟩
  cases b with
  | true => exact ⟨ρ, θ1, μ1, Qd, s.grow w1 g1, h1, fun b H2 θ2 μ2 w2 g2 q => f b H2 θ2 μ2 w2 (g1.trans g2) q⟩
  | false => exact f false H1 θ1 μ1 w1 g1 h1
theorem lt_or {wa wb : WT} {σ : L2.St} {H : Hp} {Q : Bool → Hp → Prop} (h : LT X.K (fun ρ μ Q => wa ρ μ fun t μ1 => if t = true then Q true μ1 else wb ρ μ1 Q) σ H Q) : tOr (LT X.K wa) (LT X.K wb) σ H Q := by
  obtain ⟨ρ, θ, μ, Qd, s, h, f⟩ := h
  refine ⟨ρ, θ, μ, _, s, h, fun b H1 θ1 μ1 w1 g1 h1 => ?_⟩
  cases b with
  | false => exact ⟨ρ, θ1, μ1, Qd, s.grow w1 g1, h1, fun b H2 θ2 μ2 w2 g2 q => f b H2 θ2 μ2 w2 (g1.trans g2) q⟩
  | true => exact f true H1 θ1 μ1 w1 g1 h1
theorem le_ife {wt : WT} {wa wb : WE} {σ : L2.St} {H : Hp} {Q : VK} (h : LE X.K (fun ρ μ Q => wt ρ μ fun t μ1 => if t = true then wa ρ μ1 Q else wb ρ μ1 Q) σ H Q) : tIf (LT X.K wt) (LE X.K wa) (LE X.K wb) σ H Q := by
  obtain ⟨ρ, θ, μ, Qd, s, h, f⟩ := h
  refine ⟨ρ, θ, μ, _, s, h, fun b H1 θ1 μ1 w1 g1 h1 => ?_⟩
  cases b with
  | true => exact ⟨ρ, θ1, μ1, Qd, s.grow w1 g1, h1, f.mono g1⟩
  | false => exact ⟨ρ, θ1, μ1, Qd, s.grow w1 g1, h1, f.mono g1⟩
theorem pe_frzD {a : Expr} {wa : WE} (h : PE X a (LE X.K wa)) : PE X a (LE X.K fun ρ μ Q => wa ρ μ fun d μ1 => wFrz d μ1 Q) := PE.wk h fun σ H Q q => by
  obtain ⟨ρ, θ, μ, Qd, s, h, f⟩ := q
  refine ⟨ρ, θ, μ, _, s, h, fun d v H1 θ1 μ1 w1 g1 r1 h1 => ?_⟩
  have f1 := f.mono g1
  cases d with
  | loc n =>
    simp only [wFrz] at h1
    split at h1
    · rename_i ds hn
      obtain ⟨a, rfl, ha⟩ := inv_loc r1
      obtain ⟨xs, hx, rs⟩ := w1.list hn ha
      refine f1 (.lst ds) (.ref a) H1 θ1 (μ1.set n .gone) w1.frz Grow.frz ?_ h1
      unfold Rep
      exact ⟨a, xs, rfl, hx, gone_notLive w1 ha, Grow.frz.reps rs⟩
    · exact h1.elim
  | _ => exact f1.at w1 r1 h1
theorem pe_callD {x : Str} {sp : DSp} {ws : WA} {p pos : Pos} {e : Expr} {es : List Expr} (R : FnRef X (.fn x) sp) (hg : Gl X x) (ha : PA X (e :: es) (LA X.K ws)) (hdb : (x == ("__debug__" : Str)) = false) (hs : starEach (e :: es) X.env = (false, eval e X.env) :: starEach es X.env)
    (hpl : (backTo pos (starEach es X.env)).any (·.1) = false) : PE X (.Call (.Name x p) (e :: es) [] pos) (LE X.K fun ρ μ Q => ws ρ μ fun ds μ1 => sp ds μ1 Q) := by
  obtain ⟨fa, fd, ps, k, hm, hk, hb, F, hr⟩ := R
  refine PE.wk (pe_call F hr hg hm hk hb .nil passE ha hdb hs hpl) fun σ H Q h => ?_
  obtain ⟨ρ, θ, μ, Qd, s, h, f⟩ := h
  refine ⟨ρ, θ, μ, _, s, h, fun ds vs H1 θ1 μ1 w1 g1 r1 h1 => ?_⟩
  dsimp only
  rw [List.append_nil]
  exact ⟨ds, θ1, μ1, Qd, w1, r1, h1, f.mono g1⟩
theorem pe_call0D {x : Str} {sp : DSp} {p pos : Pos} (R : FnRef X (.fn x) sp) (hg : Gl X x) (hdb : (x == ("__debug__" : Str)) = false) : PE X (.Call (.Name x p) [] [] pos) (LE X.K fun ρ μ Q => sp [] μ Q) := by
  obtain ⟨fa, fd, ps, k, hm, hk, hb, F, hr⟩ := R
  refine PE.wk (pe_call0 F hr hg hm hk hb .nil passE hdb) fun σ H Q h => ?_
  obtain ⟨ρ, θ, μ, Qd, s, h, f⟩ := h
  exact ⟨[], θ, μ, Qd, s.wok, Reps.nil, h, f⟩
end

/-! ### the block of a comprehension -/
theorem capNames_get {c : Ctx} : ∀ {cap : List Nat} {cs : List Str}, capNames c cap = some cs → cs.length = cap.length ∧ ∀ (j : Nat) (y : Str), cs[j]? = some y → ∃ i, cap[j]? = some i ∧ c.N[i]? = some y
  | [], cs, h => by simp only [capNames, Option.some.injEq] at h; subst h; exact ⟨rfl, fun j y e => by simp at e⟩
  | i :: is, cs, h => by
    simp only [capNames] at h
    split at h
    · rename_i x r e1 e2
      simp only [Option.some.injEq] at h
      subst h
      obtain ⟨h1, h2⟩ := capNames_get e2
      refine ⟨by simp [h1], fun j y e => ?_⟩
      cases j with
      | zero => simp at e; subst e; exact ⟨i, rfl, e1⟩
      | succ j =>
        obtain ⟨i', a1, a2⟩ := h2 j y (by simpa using e)
        exact ⟨i', by simpa using a1, a2⟩
    · cases h
theorem compTxt_of {X : Cx} {c : Ctx} {scope : Scope} {xs : List Str} {cap : List Nat} {cs : List Str} (C : CtxOk X c) (h1 : capNames c cap = some cs) (h : compC c scope (xs ++ cs) cs = true) : CompTxt X xs scope (xs ++ cs) cap := by
  simp only [compC, Bool.and_eq_true, List.all_eq_true] at h
  obtain ⟨⟨⟨⟨⟨k1, k2⟩, k3⟩, k5⟩, k6⟩, k7⟩ := h
  obtain ⟨hl, hg⟩ := capNames_get h1
  refine ⟨by simpa using k1, fun y hy => by simpa using k2 y hy, fun y hy hloc => ?_, of_decide_eq_true k5, fun j y e => ?_, by simp [hl], fun y hy hf => ?_⟩
  · have := k3 y hy
    rw [hloc] at this
    simpa using this
  · have e' : cs[j]? = some y := by
      rw [List.getElem?_append_right (by omega)] at e
      simpa using e
    obtain ⟨i, a1, a2⟩ := hg j y e'
    refine ⟨i, a1, by rw [C.N]; exact a2, ?_⟩
    have := k6 y (List.mem_of_getElem? e')
    simpa using this
  · have := k7 y hy
    rw [hf] at this
    refine C.clo y.1 ?_
    simpa using this
theorem ctx_comp {X : Cx} {c : Ctx} {scope : Scope} {xs : List Str} {cs : List Str} (C : CtxOk X c) (hcm : c.calm = true) (h : compC c scope (xs ++ cs) cs = true) (cl : List (Str × Addr)) (Ca : Addr) (s : Shared) (H : Hp) (ex : List Addr) :
    CtxOk (compX X (xs ++ cs) scope cl Ca s H ex) (Ctx.of (xs ++ cs) scope.names c.blts) := by
  simp only [compC, Bool.and_eq_true, List.all_eq_true] at h
  obtain ⟨⟨⟨⟨⟨k1, k2⟩, k3⟩, k5⟩, k6⟩, k7⟩ := h
  have nocell : ∀ y, scope.names.lookup y ≠ some .cell := fun y z => by
    have := k2 _ (PySem.mem_of_lookup z)
    simp at this
  have lk : ∀ y, scope.names.lookup y = some .local → (relabel scope X.env).names.lookup y = some .local := fun y z => lookup_relabel_local z
  refine ⟨rfl, of_decide_eq_true k5, fun y hy => ?_, fun y hy => ?_, fun y hy => ?_, fun y hy => ?_, fun y hy => ?_, C.blt, fun _ => C.calm hcm, fun _ => C.room hcm, PassesOwn.never⟩
  · unfold Ctx.vis at hy
    split at hy
    · rename_i z; exact .inl (lk y z)
    · rename_i z; exact absurd z (nocell y)
    · rename_i z
      rcases relabel_free (env := X.env) z with q | q
      · exact .inr (.inr q)
      · exact .inr (.inl q)
    · cases hy
  · unfold Ctx.loc at hy
    split at hy
    · rename_i z; exact ⟨.inl (lk y z), .inr (lk y z)⟩
    · rename_i z; exact absurd z (nocell y)
    · cases hy
  · exact lk y (by simpa [isLocal] using hy)
  · unfold Ctx.glb at hy
    split at hy
    · rename_i z
      show (relabel scope X.env).names.lookup y = some .globalImplicit
      exact relabel_glob z
    · cases hy
  · rcases hy with hy | hy
    · exact absurd hy (nocell y)
    · exact (relabel_free (env := X.env) hy).symm
section
variable {X : Cx}
theorem mNames_pgs {c : Ctx} (C : CtxOk X c) : ∀ {is : List Nat} {ts : List Expr}, mNames c is ts = true → PGs X ts (gNames is) ∧ (assignEach ts X.env).length = is.length ∧ (assignEach ts X.env).findIdx? (·.1) = none
  | [], [], _ => ⟨pgs_nil, rfl, rfl⟩
  | [], _ :: _, h => by simp [mNames] at h
  | _ :: _, [], h => by simp [mNames] at h
  | i :: is, t :: ts, h => by
    simp only [mNames, Bool.and_eq_true] at h
    obtain ⟨h1, h2⟩ := h
    cases t with
    | Name x p =>
      simp only [Bool.and_eq_true] at h1
      obtain ⟨k1, k2, k3⟩ := mNames_pgs C h2
      obtain ⟨l1, l2⟩ := C.loc x h1.2
      refine ⟨pgs_cons (pg_name (by rw [C.N]; exact C.nd) (by rw [C.N]; exact at_some h1.1) l1 l2) k1 rfl, ?_, ?_⟩
      · show (assignEach ts X.env).length + 1 = _
        rw [k2]; rfl
      · show List.findIdx? (fun x => x.1) ((false, assign (.Name x p) X.env) :: assignEach ts X.env) = none
        rw [List.findIdx?_cons]
        simp [k3]
    | _ => simp at h1
theorem pg_of {c : Ctx} (C : CtxOk X c) (hcm : c.calm = true) {is : List Nat} {tt : Bool} {a : Expr} (h : mTg c is tt a = true) : PG X a (LG X.K fun d r k => bindT is tt d r k) := by
  cases tt with
  | false =>
    have h : mNames c is [a] = true := h
    match is, h with
    | [i], h =>
      cases a with
      | Name x p =>
        simp only [mNames, Bool.and_eq_true] at h
        obtain ⟨⟨h1, h2⟩, _⟩ := h
        obtain ⟨l1, l2⟩ := C.loc x h2
        exact pg_nameD (by rw [C.N]; exact C.nd) (by rw [C.N]; exact at_some h1) l1 l2
      | _ => exact (Bool.false_ne_true h).elim
    | [], h => simp [mNames] at h
    | _ :: _ :: _, h => simp [mNames] at h
  | true =>
    cases a with
    | Tuple ts k p =>
      obtain ⟨k1, k2, k3⟩ := mNames_pgs C (show mNames c is ts = true from h)
      exact pg_tupD (C.calm hcm) k1 k2 k3
    | _ => exact (Bool.false_ne_true h).elim
end
theorem tgn {tt : Bool} {a : Expr} {xs : List Str} (h : tgNames tt a = some xs) : tt = false → xs.length = 1 := by
  rintro rfl
  cases a <;> first | (cases h; rfl) | cases h
end DW
end

section
set_option linter.all false
set_option autoImplicit false
set_option maxRecDepth 100000
set_option maxHeartbeats 2000000
/-! AGX: xs[i] += e, of whole numbers. -/
namespace DW
open PySem PySem.Spec PyProof.Rows L2
section
variable {X : Cx}
end
end DW
end

section
set_option linter.all false
set_option autoImplicit false
set_option maxRecDepth 100000
set_option maxHeartbeats 2000000
/-! DCT: dicts in cells: {}, d[k], d[k] = v. -/
namespace DW
open PySem PySem.Spec PyProof.Rows L2
theorem keyOf_inj {a b : DKey} (h : keyOf a = keyOf b) : a = b := by
  cases a with
  | inl i => cases b with
    | inl j => simp only [keyOf, Sum.inl.injEq] at h; rw [h]
    | inr y => cases h
  | inr x => cases b with
    | inl j => cases h
    | inr y =>
      simp only [keyOf, Sum.inr.injEq, Str.mk.injEq] at h
      have : x = y := by simpa using congrArg Array.toList h
      rw [this]
theorem keysOf_inj {a b : List DKey} (h : a.map keyOf = b.map keyOf) : a = b := List.map_inj_right (fun _ _ => keyOf_inj) |>.mp h
section
variable {K : PySem.W.Frag} {H : Hp} {θ : List Addr} {μ : Mem} {κ κ' : Type} [DecidableEq κ] [DecidableEq κ']
theorem dlook_val (f : κ → κ') (inj : ∀ a b, f a = f b → a = b) : ∀ (ks : List κ) (ds : List D) (kvs : List (κ' × V)) (k : κ) (d : D), kvs.map (·.1) = ks.map f → Rps K H θ μ ds (kvs.map (·.2)) → dlook ks ds k = some d → ∃ v, valV kvs (f k) = some v ∧ Rp K H θ μ d v
  | [], ds, kvs, k, d, _, _, h => by simp [dlook] at h
  | k' :: ks, [], kvs, k, d, _, _, h => by simp [dlook] at h
  | k' :: ks, d' :: ds, [], k, d, h1, _, _ => by simp at h1
  | k' :: ks, d' :: ds, (q, v) :: kvs, k, d, h1, h2, h => by
    simp only [List.map_cons, List.cons.injEq] at h1
    obtain ⟨rfl, h1⟩ := h1
    rw [List.map_cons] at h2
    obtain ⟨v', r, e, r1, r2⟩ := h2.cons_inv
    cases e
    simp only [dlook] at h
    by_cases c : k' = k
    · rw [if_pos c] at h; cases h
      subst c
      exact ⟨v, valV_pos rfl, r1⟩
    · rw [if_neg c] at h
      obtain ⟨w, w1, w2⟩ := dlook_val f inj ks ds kvs k d h1 r2 h
      exact ⟨w, by rw [valV_neg (fun e => c (inj _ _ e))]; exact w1, w2⟩
theorem keys_mem (f : κ → κ') (inj : ∀ a b, f a = f b → a = b) {ks : List κ} {kvs : List (κ' × V)} {k : κ} (h1 : kvs.map (·.1) = ks.map f) : (kvs.any fun kv => decide (kv.1 = f k)) = true ↔ k ∈ ks := by
  have e : (kvs.any fun kv => decide (kv.1 = f k)) = (kvs.map (·.1)).any fun q => decide (q = f k) := by rw [List.any_map]; rfl
  rw [e, h1, List.any_eq_true]
  constructor
  · rintro ⟨q, hq, e⟩
    obtain ⟨k', hk, rfl⟩ := List.mem_map.mp hq
    have := inj _ _ (of_decide_eq_true e)
    subst this
    exact hk
  · intro hk
    exact ⟨f k, List.mem_map.mpr ⟨k, hk, rfl⟩, by simp⟩
theorem dput_ok (f : κ → κ') (inj : ∀ a b, f a = f b → a = b) {ks : List κ} {ds : List D} {kvs : List (κ' × V)} {k : κ} {d : D} {v : V} (h1 : kvs.map (·.1) = ks.map f) (h2 : Rps K H θ μ ds (kvs.map (·.2))) (hd : Rp K H θ μ d v) :
    (putK kvs (f k) v).map (·.1) = (dputK ks k).map f ∧ Rps K H θ μ (dputV ks ds k d) ((putK kvs (f k) v).map (·.2)) := by
  have hm := keys_mem (k := k) f inj h1
  unfold putK dputK dputV
  by_cases c : k ∈ ks
  · rw [if_pos (hm.mpr c), if_pos c, if_pos c]
    refine ⟨?_, ?_⟩
    · rw [← h1, List.map_map]
      refine List.map_congr_left fun p _ => ?_
      show (if p.1 = f k then (p.1, v) else p).1 = p.1
      split <;> rfl
    · clear hm c
      induction kvs generalizing ks ds with
      | nil =>
        cases ds with
        | nil => cases ks <;> simpa using Reps.nil
        | cons _ _ => have := h2.length; simp at this
      | cons p kvs ih =>
        cases ks with
        | nil => simp at h1
        | cons k' ks =>
          cases ds with
          | nil => have := h2.length; simp at this
          | cons d' ds =>
            simp only [List.map_cons, List.cons.injEq] at h1
            rw [List.map_cons] at h2
            obtain ⟨v', r, e, r1, r2⟩ := h2.cons_inv
            cases e
            rw [List.map_cons, List.map_cons, List.zipWith_cons_cons]
            refine Reps.cons ?_ (ih h1.2 r2)
            by_cases c : k' = k
            · rw [if_pos c, if_pos (by rw [h1.1, c])]; exact hd
            · rw [if_neg c, if_neg (fun e => c (inj _ _ (h1.1.symm.trans e)))]; exact r1
  · rw [if_neg (fun e => c (hm.mp e)), if_neg c, if_neg c]
    refine ⟨by rw [List.map_append, List.map_append, h1]; rfl, ?_⟩
    rw [List.map_append]
    exact h2.append (Reps.one hd)
end
section
variable {K : PySem.W.Frag} {H : Hp} {θ : List Addr} {μ : Mem}
theorem key_rep {d : D} {k : DKey} {v : V} (h : keyD d = some k) (r : Rp K H θ μ d v) : v = kV (keyOf k) := by
  cases d with
  | int i => simp only [keyD, Option.some.injEq] at h; subst h; exact inv_int r
  | str x => simp only [keyD, Option.some.injEq] at h; subst h; exact (inv_str r).1
  | _ => simp [keyD] at h
theorem keys_rep : ∀ {ds : List D} {ks : List DKey} {vs : List V}, keyDs ds = some ks → Rps K H θ μ ds vs → vs = (ks.map keyOf).map kV
  | [], ks, vs, h, r => by simp only [keyDs, Option.some.injEq] at h; subst h; rw [r.nil_inv]; rfl
  | d :: ds, ks, vs, h, r => by
    obtain ⟨v, vr, rfl, r1, r2⟩ := r.cons_inv
    simp only [keyDs] at h
    split at h
    · rename_i k hk
      cases e : keyDs ds with
      | none => rw [e] at h; cases h
      | some ks' =>
        rw [e] at h
        simp only [Option.map_some, Option.some.injEq] at h
        subst h
        rw [List.map_cons, List.map_cons, key_rep hk r1, keys_rep e r2]
    · cases h
end
section
variable {X : Cx}
theorem pe_dgetD {o i : Expr} {wo wi : WE} {pos : Pos} (hu : X.A.units + 1 < cLine) (ho : PE X o (LE X.K wo)) (hi : PE X i (LE X.K wi)) (hs : PlainIx i) : PE X (.Subscript o i pos) (LE X.K fun ρ μ Q => wo ρ μ fun x μ1 => wi ρ μ1 fun y μ2 => wDget x y μ2 Q) := by
  intro pins s σ H Q I h
  refine pe_dget hu ho hi hs pins s σ H Q I ?_
  obtain ⟨ρ, θ, μ, Qd, sm, h, f⟩ := h
  refine ⟨ρ, θ, μ, _, sm, h, fun x vx H1 θ1 μ1 w1 g1 r1 h1 => ⟨ρ, θ1, μ1, _, sm.grow w1 g1, h1, fun y vy H2 θ2 μ2 w2 g2 r2 h2 => ?_⟩⟩
  have r1' := g2.rep r1
  unfold wDget at h2
  split at h2
  · rename_i n
    obtain ⟨a, rfl, ha⟩ := inv_loc r1'
    split at h2
    · rename_i ks ds hn
      obtain ⟨kvs, e1, e2, e3⟩ := w2.cell n _ a hn ha
      split at h2
      · rename_i k hk
        split at h2
        · rename_i d hd
          obtain ⟨v, v1, v2⟩ := dlook_val keyOf (fun _ _ => keyOf_inj) ks ds kvs k d e2 e3 hd
          exact ⟨a, v, rfl, by rw [key_rep hk r2, ← v1]; exact DGet.k e1, f.mono (g1.trans g2) d v H2 θ2 μ2 w2 Grow.refl v2 h2⟩
        · exact h2.elim
      · exact h2.elim
    · rename_i ks ds hn
      obtain ⟨kvs, e1, e2, e3⟩ := w2.cell n _ a hn ha
      split at h2
      · rename_i es
        split at h2
        · rename_i k hk
          split at h2
          · rename_i d hd
            obtain ⟨v, v1, v2⟩ := dlook_val (fun l : List DKey => l.map keyOf) (fun _ _ => keysOf_inj) ks ds kvs k d e2 e3 hd
            obtain ⟨b, xs, rfl, hb, _, rs⟩ := inv_tup r2
            exact ⟨a, v, rfl, by rw [← v1]; exact DGet.t e1 (by rw [hb, keys_rep hk rs]), f.mono (g1.trans g2) d v H2 θ2 μ2 w2 Grow.refl v2 h2⟩
          · exact h2.elim
        · exact h2.elim
      · exact h2.elim
    · exact h2.elim
  · exact h2.elim
theorem dput_step {n : Nat} {x y v : D} {H : Hp} {θ : List Addr} {μ : Mem} {vx vy vv : V} {k : Mem → Prop} (w : WOk X.K H θ μ) (rx : Rp X.K H θ μ x vx) (ry : Rp X.K H θ μ y vy) (rv : Rp X.K H θ μ v vv) (h : wDput x y v μ k) :
    ∃ a H4 μ4, vx = .ref a ∧ DPut H a vy vv H4 ∧ WOk X.K H4 θ μ4 ∧ Grow H θ μ H4 θ μ4 ∧ k μ4 := by
  unfold wDput at h
  split at h
  · rename_i n
    obtain ⟨a, rfl, ha⟩ := inv_loc rx
    split at h
    · rename_i ks ds hn
      obtain ⟨kvs, e1, e2, e3⟩ := w.cell n _ a hn ha
      split at h
      · rename_i q hq
        have hl : kvs.length < sizeLine := by
          have : kvs.length = ks.length := by simpa using congrArg List.length e2
          rw [this, sizeLine_eq]; exact h.1
        have g : Grow H θ μ (upd H a (.dK (putK kvs (keyOf q) vv))) θ (μ.set n (.dic (dputK ks q) (dputV ks ds q v))) := Grow.write hn ha (by simp) (by simp)
        obtain ⟨p1, p2⟩ := dput_ok (K := X.K) (k := q) keyOf (fun _ _ => keyOf_inj) e2 (g.reps e3) (g.rep rv)
        have w4 : WOk X.K (upd H a (.dK (putK kvs (keyOf q) vv))) θ (μ.set n (.dic (dputK ks q) (dputV ks ds q v))) := w.write (c' := .dic (dputK ks q) (dputV ks ds q v)) hn ha (by simp) (by simp) ⟨_, upd_same, p1, p2⟩
        exact ⟨a, _, _, rfl, by rw [key_rep hq ry]; exact DPut.k e1 hl, w4, g, h.2⟩
      · exact h.elim
    · rename_i ks ds hn
      obtain ⟨kvs, e1, e2, e3⟩ := w.cell n _ a hn ha
      split at h
      · rename_i es
        split at h
        · rename_i q hq
          have hl : kvs.length < sizeLine := by
            have : kvs.length = ks.length := by simpa using congrArg List.length e2
            rw [this, sizeLine_eq]; exact h.1
          obtain ⟨b, xs, rfl, hb, _, rs⟩ := inv_tup ry
          have g : Grow H θ μ (upd H a (.dT (putK kvs (q.map keyOf) vv))) θ (μ.set n (.dtc (dputK ks q) (dputV ks ds q v))) := Grow.write hn ha (by simp) (by simp)
          obtain ⟨p1, p2⟩ := dput_ok (K := X.K) (k := q) (fun l : List DKey => l.map keyOf) (fun _ _ => keysOf_inj) e2 (g.reps e3) (g.rep rv)
          have w4 : WOk X.K (upd H a (.dT (putK kvs (q.map keyOf) vv))) θ (μ.set n (.dtc (dputK ks q) (dputV ks ds q v))) := w.write (c' := .dtc (dputK ks q) (dputV ks ds q v)) hn ha (by simp) (by simp) ⟨_, upd_same, p1, p2⟩
          exact ⟨a, _, _, rfl, DPut.t e1 (by rw [hb, keys_rep hq rs]) hl, w4, g, h.2⟩
        · exact h.elim
      · exact h.elim
    · exact h.elim
  · exact h.elim
theorem ps_dputD {EX : L2.St → XK} {o i value : Expr} {wo wi we : WE} {pos pos' : Pos} (hu : X.A.units + 1 < cLine) (ho : PE X o (LE X.K wo)) (hi : PE X i (LE X.K wi)) (hv : PE X value (LE X.K we)) (hs : swapsWith value (some (.Subscript o i pos')) pos.line X.env = pure false) :
    PS X (.Assign [.Subscript o i pos'] value pos) (LS X.K EX fun Z ρ μ => we ρ μ fun v μ1 => wo ρ μ1 fun x μ2 => wi ρ μ2 fun y μ3 => wDput x y v μ3 fun μ4 => Z.nx ρ μ4) := by
  intro pins s σ H D I h
  refine ps_dput hu ho hi hv hs pins s σ H D I ?_
  obtain ⟨ρ, θ, μ, Z, sm, h, f⟩ := h
  refine ⟨ρ, θ, μ, _, sm, h, fun d v H1 θ1 μ1 w1 g1 r1 h1 => ⟨ρ, θ1, μ1, _, sm.grow w1 g1, h1, fun x vx H2 θ2 μ2 w2 g2 r2 h2 => ⟨ρ, θ2, μ2, _, sm.grow w2 (g1.trans g2), h2, fun y vy H3 θ3 μ3 w3 g3 r3 h3 => ?_⟩⟩⟩
  obtain ⟨a, H4, μ4, e, p, w4, g4, q⟩ := dput_step (n := 0) w3 (g3.rep r2) r3 ((g2.trans g3).rep r1) h3
  exact ⟨a, H4, e, p, f.nx σ H4 ρ θ3 μ4 (sm.grow w4 (((g1.trans g2).trans g3).trans g4)) (((g1.trans g2).trans g3).trans g4) q⟩
end
end DW
end

section
set_option linter.all false
set_option autoImplicit false
set_option maxRecDepth 100000
set_option maxHeartbeats 2000000
/-! SQM: index and count of a whole number in a list. -/
namespace DW
open PySem PySem.Spec PyProof.Rows L2 PySem.SeqAt
section
variable {X : Cx}
theorem isLs_ty {K : PySem.W.Frag} {H : Hp} {θ : List Addr} {μ : Mem} {d : D} {v : V} (wk : WOk K H θ μ) (r : Rp K H θ μ d v) (h : isLs μ d = true) : tyV K "list" v H := by
  cases d with
  | lst ds =>
    obtain ⟨a, xs, rfl, hx, _, _⟩ := inv_lst r
    exact .inl ⟨rfl, xs, .of hx⟩
  | loc n =>
    obtain ⟨a, rfl, ha⟩ := inv_loc r
    simp only [isLs] at h
    split at h
    · rename_i ds hn
      obtain ⟨ys, e, _⟩ := wk.list hn ha
      exact .inl ⟨rfl, ys, .of e⟩
    · cases h
  | _ => cases h
end
end DW
end

section
set_option linter.all false
set_option autoImplicit false
set_option maxRecDepth 100000
set_option maxHeartbeats 4000000
/-! MNR: the least one of a list of items; an item taken out of a list. -/
namespace DW
open PySem PySem.Spec PyProof.Rows L2 PySem.SeqAt
open PySem.AutoSeq1 (wpAny_loadPart')
theorem isItem_inj {h : Heap} {v : Value} {x y : Itm} (a : IsItem h v x) (b : IsItem h v y) : x = y := by
  obtain ⟨p, o, t, u, n, rfl, g, _, d⟩ := a
  obtain ⟨p', o', t', u', n', e, g', _, d'⟩ := b
  cases e
  rw [g] at g'; cases g'
  rw [d] at d'
  injection d' with e1 e2
  have e3 := congrArg Array.toList e1
  simp only [List.cons.injEq, Value.int.injEq, Value.str.injEq, Str.mk.injEq, and_true] at e3
  obtain ⟨⟨h1, _⟩, h2, _⟩ := e3
  have h2' : x.2 = y.2 := by simpa using congrArg Array.toList h2
  exact Prod.ext h1 h2'
theorem IsItem.keep {h h' : Heap} {v : Value} {x : Itm} (k : ∀ b o, h.get? b = some o → h'.get? b = some o) (i : IsItem h v x) : IsItem h' v x := by
  obtain ⟨p, o, t, u, n, e, g, r⟩ := i
  exact ⟨p, o, t, u, n, e, k _ _ g, r⟩
theorem item_sv {x : Itm} {t u : Tok} : SVs [Value.int x.1 t, Value.str ⟨x.2.toArray⟩ u] [.int x.1, .str x.2] := .cons (.inl ⟨_, _, rfl, rfl⟩) (.cons (.inr ⟨_, _, rfl, rfl⟩) .nil)
theorem lt_items (x y : Itm) : ltDs [.int x.1, .str x.2] [.int y.1, .str y.2] = some (lt2 x y) := by
  unfold lt2
  by_cases e : x.1 = y.1
  · rw [if_pos e]
    by_cases e2 : x.2 = y.2
    · have : ltCs x.2 y.2 = false := by rw [e2, ltCs_lt]; simp
      rw [← e2] at this
      simp [ltDs, eqD, e, ← e2, this]
    · simp [ltDs, eqD, e, e2, ltD]
  · rw [if_neg e]
    simp [ltDs, eqD, e, ltD]
section
variable {prog : Program} {w : World} {A : Around} {E : Value → Shared → Prop}
theorem rich_item {s : Shared} {v u : Value} {x y : Itm} {Q : Value → Shared → Prop} (hv : IsItem s.heap v x) (hu : IsItem s.heap u y) (hun : A.units < cLine) (h : Q (.bool (lt2 x y)) s) : wpAny (model prog w) A (richCompare .Lt v u) Q E s := by
  obtain ⟨a, oa, t1, t2, n, rfl, ga, ca, da⟩ := hv
  obtain ⟨b, ob, t3, t4, m, rfl, gb, cb, db⟩ := hu
  exact lt_tupSV (l := a) (b := b) ⟨oa, ga, ca, n, da⟩ ⟨ob, gb, cb, m, db⟩ item_sv item_sv (lt_items x y) hun h
theorem eqAt_item {s : Shared} {v u : Value} {x y : Itm} (hv : IsItem s.heap v x) (hu : IsItem s.heap u y) (hun : A.units < cLine) : EqAt A s v u (decide (x = y)) := by
  obtain ⟨a, oa, t1, t2, n, rfl, ga, ca, da⟩ := id hv
  obtain ⟨b, ob, t3, t4, m, rfl, gb, cb, db⟩ := id hu
  by_cases e : a = b
  · subst e
    have := isItem_inj hv hu
    rw [decide_eq_true this]
    exact EqAt.same _
  · have rc := RcAt.tuples (A := A) (s := s) (l := a) (b := b) (e := fun j => match j with | 0 => x.1 == y.1 | _ => decide (x.2 = y.2)) ⟨oa, ga, ca, n, da⟩ ⟨ob, gb, cb, m, db⟩ hun (fun j h1 h2 => by
      match j, h1, h2 with
      | 0, _, _ => exact SeqAt.EqAt.int_int x.1 t1 y.1 t3
      | 1, _, _ =>
        have := SeqAt.EqAt.str_str (A := A.in1) (s := s) ⟨x.2.toArray⟩ t2 ⟨y.2.toArray⟩ t4
        have q : ((⟨x.2.toArray⟩ : Str) == ⟨y.2.toArray⟩) = decide (x.2 = y.2) := by
          rw [str_beqD]
          by_cases z : x.2 = y.2 <;> simp [z]
        rw [q] at this
        exact this)
    have eb : ((List.range (min (#[Value.int x.1 t1, Value.str ⟨x.2.toArray⟩ t2] : Array Value).size (#[Value.int y.1 t3, Value.str ⟨y.2.toArray⟩ t4] : Array Value).size)).all (fun j => match j with | 0 => x.1 == y.1 | _ => decide (x.2 = y.2)) && (#[Value.int x.1 t1, Value.str ⟨x.2.toArray⟩ t2] : Array Value).size == (#[Value.int y.1 t3, Value.str ⟨y.2.toArray⟩ t4] : Array Value).size) = decide (x = y) := by
      have : x = y ↔ x.1 = y.1 ∧ x.2 = y.2 := ⟨fun z => by rw [z]; exact ⟨rfl, rfl⟩, fun z => Prod.ext z.1 z.2⟩
      by_cases z1 : x.1 = y.1 <;> by_cases z2 : x.2 = y.2 <;> simp [this, z1, z2, List.range, List.range.loop]
    rw [eb] at rc
    exact EqAt.of_refs e rc
/-! ### the least one -/
theorem min_loop {I S : Addr} {fp wr : List Addr} {n : Nat} {St : Nat → Heap → Prop} {R : Result → Shared → Prop} {h0 : Heap} {vs : List Value} {r : List Itm} (W : Walks prog w A.in1 I fp wr n (fun i v => vs[i]? = some v) St) (hvr : ∀ (i : Nat) (v : Value), vs[i]? = some v → ∃ x, r[i]? = some x ∧ IsItem h0 v x)
    (hun : A.in1.units < cLine) (nS : S ∉ fp) (old : ∀ b o, h0.get? b = some o → b ∉ wr ∧ b ≠ S) :
    ∀ (k j : Nat) (s : Shared) (best : Value) (c : Nat), j + 1 + k = n → St (j + 1) s.heap → (∃ i, i ≤ j ∧ vs[i]? = some best ∧ i = argBest (ltAt r) j) →
      s.heap.get? S = some { cls := .type "list", dict := none, data := .seq #[best, best] c, slots := #[] } → (∀ b o, h0.get? b = some o → s.heap.get? b = some o) →
      (∀ v h' tk, vs[argBest (ltAt r) (n - 1)]? = some v → (∀ b o, b ∉ wr → b ≠ S → s.heap.get? b = some o → h'.get? b = some o) → R (.ok (.ret v)) { s with heap := h', toks := tk }) →
      codeAny (model prog w) A (.builtin "min.loop" ⟨[.ref I, .none, .ref S], []⟩) R s := by
  have nSw : S ∉ wr := fun z => nS (W.sub _ z)
  have nm : (toString "min" ++ toString ".loop" : String) = "min.loop" := by decide
  intro k
  induction k with
  | zero =>
    rintro j s best c hn st ⟨i, _, hi, ei⟩ gS _ hR
    have ej : j + 1 = n := hn
    refine codeAny_builtin F.entry_min_loop (by
      rw [Around.under_plainId F.plain_min_loop _]
      show wpAny _ A.in1 (seqItems? (.ref S) >>= _) _ _ s
      refine wpAny_bind (wpAny_seqItems gS rfl (?_ : wpAny _ A.in1 (tryCatch (pyNext (.ref I)) _ >>= _) _ _ s))
      refine wpAny_bind (wpAny_tryCatch (W.done s _ _ (by rw [← ej]; exact st) fun h1 tk ke => ?_))
      have gS1 := ke S _ nSw gS
      refine wpAny_bind (m := updateSeq S (fun _ => #[])) (wpAny_updateSeq gS1 rfl (wpAny_bind (wpAny_letGo (wpAny_pure ?_))))
      exact hR best _ tk (by rw [← ej, Nat.add_sub_cancel, ← ei]; exact hi) fun b o nb nbS e => (Heap.get?_update_other _ _ (Ne.symm nbS)).trans (ke b o nb e))
  | succ k ih =>
    rintro j s best c hn st ⟨i, il, hi, ei⟩ gS kp hR
    refine codeAny_builtin F.entry_min_loop (by
      rw [Around.under_plainId F.plain_min_loop _]
      show wpAny _ A.in1 (seqItems? (.ref S) >>= _) _ _ s
      refine wpAny_bind (wpAny_seqItems gS rfl (?_ : wpAny _ A.in1 (tryCatch (pyNext (.ref I)) _ >>= _) _ _ s))
      refine wpAny_bind (wpAny_tryCatch (W.item (j + 1) s _ _ (by omega) st fun v h1 tk hv st1 ke => ?_))
      have gS1 := ke S _ nSw gS
      have kp1 : ∀ b o, h0.get? b = some o → h1.get? b = some o := fun b o e => ke b o (old b o e).1 (kp b o e)
      obtain ⟨x, hx, ix⟩ := hvr _ _ hv
      obtain ⟨y, hy, iy⟩ := hvr _ _ hi
      have lb : lt2 x y = ltAt r (j + 1) (argBest (ltAt r) j) := by rw [← ei]; simp [ltAt, hx, hy]
      refine wpAny_bind (m := tryCatch (holding [v, v] (richCompare .Lt v best >>= _)) _) (wpAny_tryCatch (wpAny_holding (wpAny_bind (rich_item (ix.keep kp1) (iy.keep kp1) hun ?_))))
      refine wpAny_bind (wpAny_holding (wpAny_truthy_bool (wpAny_bind (wpAny_letGo (wpAny_pure ?_)))))
      rw [lb]
      cases hb : ltAt r (j + 1) (argBest (ltAt r) j) with
      | true =>
        simp only [if_true]
        refine wpAny_bind (wpAny_updateSeq gS1 rfl (wpAny_bind (wpAny_letGo ?_)))
        rw [nm]
        refine wpAny_pure ⟨plainId_quiet F.plain_min_loop _, ih (j + 1) _ v _ (by omega) (W.frame _ _ _ st1 fun b bf o e => ?_) ⟨j + 1, Nat.le_refl _, hv, by simp only [argBest, hb, if_true]⟩ (Heap.get?_update_self _ gS1 rfl) (fun b o e => ?_) fun v' h2 tk2 q ke2 => ?_⟩
        · exact (Heap.get?_update_other _ _ (fun z : S = b => nS (by rw [z]; exact bf))).trans e
        · exact (Heap.get?_update_other _ _ (Ne.symm (old b o e).2)).trans (kp1 b o e)
        · exact hR v' h2 tk2 q fun b o nb nbS e => ke2 b o nb nbS ((Heap.get?_update_other _ _ (Ne.symm nbS)).trans (ke b o nb e))
      | false =>
        simp only [Bool.false_eq_true, if_false]
        refine wpAny_bind (wpAny_letGo ?_)
        rw [nm]
        refine wpAny_pure ⟨plainId_quiet F.plain_min_loop _, ih (j + 1) _ best c (by omega) st1 ⟨i, by omega, hi, by simp only [argBest, hb, Bool.false_eq_true, if_false]; exact ei⟩ gS1 kp1 fun v' h2 tk2 q ke2 => ?_⟩
        exact hR v' h2 tk2 q fun b o nb nbS e => ke2 b o nb nbS (ke b o nb e))
theorem min_first {I S : Addr} {fp wr : List Addr} {n : Nat} {St : Nat → Heap → Prop} {R : Result → Shared → Prop} {h0 : Heap} {vs : List Value} {r : List Itm} (W : Walks prog w A.in1 I fp wr n (fun i v => vs[i]? = some v) St) (hvr : ∀ (i : Nat) (v : Value), vs[i]? = some v → ∃ x, r[i]? = some x ∧ IsItem h0 v x)
    (hun : A.in1.units < cLine) (nS : S ∉ fp) (old : ∀ b o, h0.get? b = some o → b ∉ wr ∧ b ≠ S) (hn : 0 < n) {s : Shared} {c : Nat} (st : St 0 s.heap) (gS : s.heap.get? S = some { cls := .type "list", dict := none, data := .seq #[] c, slots := #[] }) (kp : ∀ b o, h0.get? b = some o → s.heap.get? b = some o)
    (hR : ∀ v h' tk, vs[argBest (ltAt r) (n - 1)]? = some v → (∀ b o, b ∉ wr → b ≠ S → s.heap.get? b = some o → h'.get? b = some o) → R (.ok (.ret v)) { s with heap := h', toks := tk }) :
    codeAny (model prog w) A (.builtin "min.loop" ⟨[.ref I, .none, .ref S], []⟩) R s := by
  have nSw : S ∉ wr := fun z => nS (W.sub _ z)
  have nm : (toString "min" ++ toString ".loop" : String) = "min.loop" := by decide
  refine codeAny_builtin F.entry_min_loop (by
    rw [Around.under_plainId F.plain_min_loop _]
    show wpAny _ A.in1 (seqItems? (.ref S) >>= _) _ _ s
    refine wpAny_bind (wpAny_seqItems gS rfl (?_ : wpAny _ A.in1 (tryCatch (pyNext (.ref I)) _ >>= _) _ _ s))
    refine wpAny_bind (wpAny_tryCatch (W.item 0 s _ _ hn st fun v h1 tk hv st1 ke => ?_))
    have gS1 := ke S _ nSw gS
    refine wpAny_bind (m := updateSeq S (fun _ => #[v, v])) (wpAny_updateSeq gS1 rfl ?_)
    rw [nm]
    refine wpAny_pure ⟨plainId_quiet F.plain_min_loop _, min_loop W hvr hun nS old (n - 1) 0 _ v _ (by omega) (W.frame _ _ _ st1 fun b bf o e => ?_) ⟨0, Nat.le_refl _, hv, rfl⟩ (Heap.get?_update_self _ gS1 rfl) (fun b o e => ?_) fun v' h2 tk2 q ke2 => ?_⟩
    · exact (Heap.get?_update_other _ _ (fun z : S = b => nS (by rw [z]; exact bf))).trans e
    · exact (Heap.get?_update_other _ _ (Ne.symm (old b o e).2)).trans (ke b o (old b o e).1 (kp b o e))
    · exact hR v' h2 tk2 q fun b o nb nbS e => ke2 b o nb nbS ((Heap.get?_update_other _ _ (Ne.symm nbS)).trans (ke b o nb e)))
theorem min_items {l : Addr} {vs : List Value} {r : List Itm} {s : Shared} {Q : Value → Shared → Prop} (hh : A.handled = none) (hl : s.heap.IsList l vs.toArray) (hvr : ∀ (i : Nat) (v : Value), vs[i]? = some v → ∃ x, r[i]? = some x ∧ IsItem s.heap v x) (hn : 0 < vs.length) (hun : A.in1.units < cLine)
    (h : ∀ v h' tk, vs[argBest (ltAt r) (vs.length - 1)]? = some v → (∀ b o, s.heap.get? b = some o → h'.get? b = some o) → Q v { s with heap := h', toks := tk }) : wpAny (model prog w) A (call (.builtin "min") [.ref l]) Q E s := by
  have nm : (toString "min" ++ toString ".loop" : String) = "min.loop" := by decide
  have hlt : l < s.heap.objs.size := by obtain ⟨o, e, _⟩ := hl; exact Heap.lt_size e
  refine call_function_tree F.kind_min F.plain_min F.entry_min (F.args_min1 _) ?_
  refine wpAny_bind (m := Builtin.Builtins.bindParams "min" ["key", "default"] 0 ⟨[], []⟩) (wpAny_of_eq (show Builtin.Builtins.bindParams "min" ["key", "default"] 0 ⟨[], []⟩ = pure [none, none] from rfl) (wpAny_bind (wpAny_pure ?_)))
  refine wpAny_bind (wpAny_pyIter_list hl ?_)
  have W := Walks.list (prog := prog) (w := w) (A := A.in1) hh s.heap.objs.size l (Nat.ne_of_lt hlt) vs.toArray
  refine wpAny_bind (wpAny_newObj_type ?_)
  rw [nm]
  have z1 : (s.heap.push { cls := .type "list_iterator", data := .fields #[.ref l, .int 0 0] }).objs.size = s.heap.objs.size + 1 := Heap.size_push ..
  have st0 : (s.heap.push { cls := .type "list_iterator", data := .fields #[.ref l, .int 0 0] }).IsListIter s.heap.objs.size l 0 ∧ (s.heap.push { cls := .type "list_iterator", data := .fields #[.ref l, .int 0 0] }).IsList l vs.toArray := ⟨⟨_, Heap.get?_push_size _ rfl, rfl, rfl⟩, hl.push _⟩
  refine wpAny_pure ⟨plainId_quiet F.plain_min_loop _, min_first (h0 := s.heap) (vs := vs) (r := r) (n := vs.length) (by simpa using W) hvr hun ?_ ?_ hn (by simpa using W.frame _ _ _ st0 fun b _ o e => Heap.get?_push_of_some _ e) (Heap.get?_push_size _ rfl) ?_ fun v h' tk q ke => ?_⟩
  · intro z
    rw [z1] at z
    rcases List.mem_cons.mp z with z | z
    · exact absurd z (Nat.succ_ne_self _)
    · have z := List.mem_singleton.mp z
      exact Nat.not_lt.mpr (Nat.le_succ s.heap.objs.size) (by rw [← z] at hlt; exact hlt)
  · intro b o e
    have := Heap.lt_size e
    rw [z1]
    exact ⟨fun z => by rw [List.mem_singleton.mp z] at this; exact Nat.lt_irrefl _ this, Nat.ne_of_lt (Nat.lt_succ_of_lt this)⟩
  · exact fun b o e => Heap.get?_push_of_some _ (Heap.get?_push_of_some _ e)
  · refine h v h' tk q fun b o e => ke b o ?_ ?_ (Heap.get?_push_of_some _ (Heap.get?_push_of_some _ e))
    · intro z; have q := Heap.lt_size e; rw [List.mem_singleton.mp z] at q; exact Nat.lt_irrefl _ q
    · rw [z1]; exact Nat.ne_of_lt (Nat.lt_succ_of_lt (Heap.lt_size e))
end
/-! ### taken out -/
theorem rem_loop (l : Addr) (its : Array Value) (n : Nat) (x : Value) (p : Value → Bool) (j : Nat) (hj : j < its.size) (yes : p its[j] = true) (hz : its.size ≤ sizeLine) :
    ∀ k i : Nat, i + k = j → (∀ m (hm : m < its.size), i ≤ m → m < j → p its[m] = false) → PySem.Meets (Builtin.«list.remove.loop» ⟨[.ref l, x, rawInt i], []⟩)
      (fun A R s => s.heap.get? l = some { cls := .type "list", dict := none, data := .seq its n, slots := #[] } ∧ (∀ y, y ∈ its → EqAt A.in1 s y x (p y)) ∧ R (.ok (.ret .none)) { s with heap := s.heap.update l (Obj.mapSeq fun xs => xs.eraseIdxIfInBounds j) }) := by
  intro k
  induction k with
  | zero =>
    intro i ij no prog w A R s hs
    obtain ⟨hq, g5, d5, t5, o5⟩ := s
    obtain ⟨gl, eq, hR⟩ := hs
    obtain rfl : i = j := by omega
    wp_walk using wpAny_loadPart' gl
    have ai : its[((i : Nat) : Int).toNat]? = some its[i] := by simp [hj]
    rw [ai]
    refine wpAny_bind (eq _ (Array.getElem_mem hj) prog w _ _ ?_)
    rw [yes]
    have z2 : (its.eraseIdxIfInBounds i).size ≤ sizeLine + 1 := by have := MeetsSeq.size_erased its i; omega
    wp_walk using (wpAny_updateSeq gl rfl (hz := hz) (_hz' := z2)), wpAny_loadPart' gl
    simpa using hR
  | succ k ih =>
    intro i ij no prog w A R s hs
    obtain ⟨hq, g5, d5, t5, o5⟩ := s
    obtain ⟨gl, eq, hR⟩ := hs
    have li : i < its.size := by omega
    wp_walk using wpAny_loadPart' gl
    have ai : its[((i : Nat) : Int).toNat]? = some its[i] := by simp [li]
    have ci : ((i : Int) + 1) = ((i + 1 : Nat) : Int) := by omega
    rw [ai]
    refine wpAny_bind (eq _ (Array.getElem_mem li) prog w _ _ ?_)
    rw [no i li (Nat.le_refl _) (by omega)]
    wp_walk
    rw [ci]
    exact ⟨plainId_quiet MeetsSeq.plain_remove_loop _, codeAny_builtin MeetsSeq.entry_remove_loop (by
      rw [Around.under_plainId MeetsSeq.plain_remove_loop _]; exact ih (i + 1) (by omega) (fun m hm a b => no m hm (by omega) b) prog w A R _ ⟨gl, eq, hR⟩)⟩
theorem rem_list (l : Addr) (its : Array Value) (n : Nat) (x : Value) (p : Value → Bool) (j : Nat) (hj : j < its.size) (yes : p its[j] = true) (no : ∀ m (hm : m < its.size), m < j → p its[m] = false) (hz : its.size ≤ sizeLine) :
    PySem.Meets (Builtin.«list.remove» ⟨[.ref l, x], []⟩)
      (fun A R s => s.heap.get? l = some { cls := .type "list", dict := none, data := .seq its n, slots := #[] } ∧ (∀ y, y ∈ its → EqAt A.in1 s y x (p y)) ∧ R (.ok (.ret .none)) { s with heap := s.heap.update l (Obj.mapSeq fun xs => xs.eraseIdxIfInBounds j) }) := by
  intro prog w A R s hs
  obtain ⟨hq, g5, d5, t5, o5⟩ := s
  obtain ⟨gl, eq, hR⟩ := hs
  wp_walk using wpAny_loadPart' gl
  exact ⟨plainId_quiet MeetsSeq.plain_remove_loop _, codeAny_builtin MeetsSeq.entry_remove_loop (by
    rw [Around.under_plainId MeetsSeq.plain_remove_loop _]; exact rem_loop l its n x p j hj yes hz j 0 (by omega) (fun m hm _ b => no m hm b) prog w A R _ ⟨gl, eq, hR⟩)⟩
section
variable {X : Cx}
/-- what the items of a list are, by their values -/
theorem items_at {pins : List (Addr × Obj)} {σ : L2.St} {H : Hp} {s : Shared} {θ : List Addr} {μ : Mem} {r : List Itm} {ys : List V} {its : List Value} (I : Inv X pins σ H s) (rs : Rps X.K H θ μ (r.map itD) ys) (rv : Vals ys its) (i : Nat) (v : Value) (h : its[i]? = some v) : ∃ x, r[i]? = some x ∧ IsItem s.heap v x := by
  have hi : i < its.length := (List.getElem?_eq_some_iff.mp h).1
  have l1 := rs.length
  have l2 := rv.length
  have hr : i < r.length := by simp at l1; omega
  refine ⟨r[i], List.getElem?_eq_getElem hr, ?_⟩
  obtain ⟨y, e1, e2⟩ := rs.get (i := i) (d := itD r[i]) (by simp [hr])
  obtain ⟨u, f1, f2⟩ := rv.get e1
  rw [h] at f1; cases f1
  exact item_of I e2 f2
theorem argBest_lt (bt : Nat → Nat → Bool) : ∀ k, argBest bt k ≤ k
  | 0 => Nat.le_refl 0
  | k + 1 => by
    have := argBest_lt bt k
    simp only [argBest]
    split <;> omega
theorem argBest_least (r : List Itm) : ∀ k, ∀ i, i ≤ k → ltAt r i (argBest (ltAt r) k) = false
  | 0, i, h => by
    have : i = 0 := by omega
    subst this
    exact lt2_irr _
  | k + 1, i, h => by
    simp only [argBest]
    cases hb : ltAt r (k + 1) (argBest (ltAt r) k) with
    | true =>
      simp only [if_true]
      rcases Nat.lt_or_ge i (k + 1) with q | q
      · have h1 := argBest_least r k i (by omega)
        have h2 := ltAt_asym r _ _ hb
        exact ltAt_trans r _ _ _ h2 h1
      · have : i = k + 1 := by omega
        subst this
        exact lt2_irr _
    | false =>
      simp only [Bool.false_eq_true, if_false]
      rcases Nat.lt_or_ge i (k + 1) with q | q
      · exact argBest_least r k i (by omega)
      · have : i = k + 1 := by omega
        subst this; exact hb
theorem imin_ok (hc : X.calm = true) (hu : X.A.in1.units < cLine) : CallR X (.builtin "min") (lowA X.K wImin) := by
  intro pins s σ H xs us Q I r h
  obtain ⟨d, v, θ, μ, Qd, rfl, wk, rd, hw, f⟩ : ∃ d v θ μ Qd, xs = [v] ∧ WOk X.K H θ μ ∧ Rp X.K H θ μ d v ∧ (match lstOf μ d with | some es => ∃ r : List Itm, es = r.map itD ∧ r ≠ [] ∧ ∀ y, y ∈ r → (∀ z ∈ r, lt2 z y = false) → Qd (itD y) μ | none => False) ∧ Fin X.K H θ μ Qd Q := by
    obtain ⟨ds, θ, μ, Qd, wk, rs, hw, f⟩ := h
    match ds, hw with
    | [d], hw =>
      obtain ⟨v, vr, rfl, r2, r3⟩ := rs.cons_inv
      cases r3.nil_inv
      exact ⟨d, v, θ, μ, Qd, rfl, wk, r2, hw, f⟩
  obtain ⟨u, rfl, rx⟩ := vals1 r
  split at hw
  · rename_i ds hq
    obtain ⟨it, rfl, hne, hw⟩ := hw
    obtain ⟨a, ys, rfl, hx, rs⟩ := lstOf_sq wk rd hq
    cases rx
    obtain ⟨its, rv, pl, hz⟩ := I.list hx
    have l1 := rs.length
    have l2 := rv.length
    simp only [List.length_map] at l1
    have hn : 0 < it.length := List.length_pos_iff.mpr hne
    refine min_items (r := it) (I.ok.hd hc) pl.isList (items_at I rs rv) (by omega) hu fun w h' tk hw' ke => ?_
    have hk : argBest (ltAt it) (its.length - 1) < it.length := by have := argBest_lt (ltAt it) (its.length - 1); omega
    obtain ⟨y, e1, e2⟩ := rs.get (i := argBest (ltAt it) (its.length - 1)) (d := itD it[argBest (ltAt it) (its.length - 1)]) (by simp [hk])
    obtain ⟨u, f1, f2⟩ := rv.get e1
    rw [hw'] at f1; cases f1
    refine ⟨y, H, I.kept ke, f2, f.at wk e2 (hw _ (List.getElem_mem hk) fun z hz' => ?_)⟩
    obtain ⟨i, hi, rfl⟩ := List.mem_iff_getElem.mp hz'
    have := argBest_least it (its.length - 1) i (by omega)
    simpa [ltAt, hi, hk] using this
  · exact hw.elim
theorem erase_at {r : List Itm} {y : Itm} (h : y ∈ r) : ∃ j : Nat, ∃ hj : j < r.length, r[j] = y ∧ (∀ m (hm : m < r.length), m < j → r[m] ≠ y) ∧ r.erase y = r.eraseIdx j := by
  refine ⟨r.idxOf y, List.idxOf_lt_length_iff.mpr h, List.getElem_idxOf _, fun m hm hlt e => ?_, ?_⟩
  · have := List.not_of_lt_findIdx (p := (· == y)) hlt
    simp [e] at this
  · rw [List.erase_eq_eraseIdx_of_idxOf rfl]
theorem map_erase {α β : Type} (f : α → β) : ∀ (l : List α) (j : Nat), (l.map f).eraseIdx j = (l.eraseIdx j).map f
  | [], j => by simp
  | a :: l, 0 => by simp
  | a :: l, j + 1 => by simp [map_erase f l j]
theorem rmv_ok (hu : X.A.units + 64 < cLine) : MtR X "list.remove" (lowM X.K wRmv) := by
  intro pins s σ H x vs v us Q I rx rv h
  obtain ⟨d, ds, θ, μ, Qd, wk, rd, rs, hw, f⟩ := h
  unfold wRmv at hw
  split at hw
  · rename_i n
    obtain ⟨a, rfl, ha⟩ := inv_loc rd
    split at hw
    · rename_i xs hn
      obtain ⟨ys, h2, ry⟩ := wk.list hn ha
      obtain ⟨it, y, rfl, rfl, hy, hq⟩ := hw
      obtain ⟨w', vr, rfl, r1, r2⟩ := rs.cons_inv
      cases r2.nil_inv
      cases rx
      obtain ⟨u, rfl, ru⟩ := vals1 rv
      obtain ⟨z, its, m, vi, hl, e⟩ := I.lstM h2
      have iy := item_of I r1 ru
      obtain ⟨j, hj, ej, nj, ee⟩ := erase_at hy
      have l1 := ry.length
      simp only [List.length_map] at l1
      have lz : its.length = it.length := by omega
      have hj' : j < its.toArray.size := by simp; omega
      have at_ : ∀ i (hi : i < its.toArray.size), ∃ hi' : i < it.length, IsItem s.heap its.toArray[i] it[i] := fun i hi => by
        have hi0 : i < its.length := by simpa using hi
        obtain ⟨x, e1, e2⟩ := items_at I ry vi i its[i] (List.getElem?_eq_getElem hi0)
        have hi' : i < it.length := by omega
        rw [List.getElem?_eq_getElem hi'] at e1
        cases e1
        exact ⟨hi', by simpa using e2⟩
      have pd : ∀ i (hi : i < its.toArray.size) (hi' : i < it.length), (open Classical in decide (IsItem s.heap its.toArray[i] y)) = decide (it[i] = y) := fun i hi hi' => by
        obtain ⟨_, q⟩ := at_ i hi
        classical
        by_cases c : it[i] = y
        · rw [c] at q
          rw [decide_eq_true c]
          exact decide_eq_true q
        · have q2 : ¬ IsItem s.heap its.toArray[i] y := fun q' => c (isItem_inj q q')
          rw [decide_eq_false c]
          exact decide_eq_false q2
      refine call_meets PySem.F.slot_list_remove ⟨_, e, rfl⟩ PySem.F.entry_list_remove (PySem.F.args_list_remove_2 _ _)
        (rem_list a its.toArray m u (fun q => open Classical in decide (IsItem s.heap q y)) j hj' (by rw [pd j hj' hj]; simp [ej]) (fun k hk lt => by rw [pd k hk (by simp at hk; omega)]; simp [nj k (by simp at hk; omega) lt]) (by simp; omega)) ⟨e, fun q hq' => ?_, ?_⟩
      · obtain ⟨i, hi, rfl⟩ := Array.mem_iff_getElem.mp hq'
        obtain ⟨hi', q⟩ := at_ i hi
        have := eqAt_item (A := X.A.in1) q iy (by show X.A.units + 1 < cLine; omega)
        rw [← pd i hi hi'] at this
        exact this
      · refine ⟨.non, _, I.lset (its' := its.eraseIdx j) h2 e ?_ (vi.eraseIdx j) ?_, rfl, ?_⟩
        · show its.toArray.eraseIdxIfInBounds j = (its.eraseIdx j).toArray
          rw [List.eraseIdxIfInBounds_toArray]
        · have := len_erase ys j; omega
        · have r3 := ry.eraseIdx' j
          have em : (it.map itD).eraseIdx j = (it.erase y).map itD := by rw [ee, map_erase]
          rw [em] at r3
          exact fin_set wk f ha hn r3 rp_non hq
    · exact hw.elim
  · exact hw.elim
theorem le_rmv {wo : WE} {ws : WA} {σ : L2.St} {H : Hp} {Q : VK} (h : LE X.K (fun ρ μ Q => wo ρ μ fun x μ1 => isLs μ1 x = true ∧ ws ρ μ1 fun ds μ2 => wRmv x ds μ2 Q) σ H Q) : tBM X.K "list" (lowM X.K wRmv) (LE X.K wo) (LA X.K ws) σ H Q := by
  obtain ⟨ρ, θ, μ, Qd, s, h, f⟩ := h
  refine ⟨ρ, θ, μ, _, s, h, fun x v H1 θ1 μ1 w1 g1 r1 h1 => ⟨isLs_ty w1 r1 h1.1, ρ, θ1, μ1, _, s.grow w1 g1, h1.2, fun ds vs H2 θ2 μ2 w2 g2 r2 h2 => ?_⟩⟩
  exact ⟨x, ds, θ2, μ2, Qd, w2, g2.rep r1, r2, h2, f.mono (g1.trans g2)⟩
end
end DW
end

section
set_option linter.all false
set_option autoImplicit false
set_option maxRecDepth 100000
set_option maxHeartbeats 2000000
/-! DD3: a dict written with three texts as keys. -/
namespace DW
open PySem PySem.Spec PyProof.Rows L2
section
variable {X : Cx}
theorem pe_dd3 {k1 k2 k3 : List Nat} {s1 s2 s3 : Str} {j1 j2 j3 : Nat} {p1 p2 p3 pos : Pos} {x y z : Expr} {wa wb we : WE} (e1 : s1.cps.toList = k1) (e2 : s2.cps.toList = k2) (e3 : s3.cps.toList = k3) (n1 : k1 ≠ k2) (n2 : k1 ≠ k3) (n3 : k2 ≠ k3)
    (hx : PE X x (LE X.K wa)) (hy : PE X y (LE X.K wb)) (hz : PE X z (LE X.K we)) : PE X (.Dict [some (.Constant (.str s1) j1 p1), some (.Constant (.str s2) j2 p2), some (.Constant (.str s3) j3 p3)] [x, y, z] pos)
      (LE X.K fun ρ μ Q => wa ρ (μ ++ [.dic [] []]) fun x μ1 => wb ρ μ1 fun y μ2 => we ρ μ2 fun z μ3 => μ3[μ.length]? = some (.dic [] []) ∧ Q (.loc μ.length) (μ3.set μ.length (.dic [.inr k1, .inr k2, .inr k3] [x, y, z]))) := by
  refine PE.wk (pe_disp (pps_cons pe_str hx (pps_cons pe_str hy (pps_cons pe_str hz pps_nil))) rfl rfl (by simp) (by simp)) fun σ H Q q => ?_
  obtain ⟨ρ, θ, μ, Qd, sm, q, f⟩ := q
  intro p hp
  have wk := sm.wok
  have g0 : Grow H θ μ (upd H p (.dK [])) (θ ++ [p]) (μ ++ [Cell.dic [] []]) := Grow.new wk hp
  have w0 : WOk X.K (upd H p (.dK [])) (θ ++ [p]) (μ ++ [Cell.dic [] []]) := wk.new hp ⟨[], by rw [upd_same], rfl, Reps.nil⟩
  have hth : (θ ++ [p])[μ.length]? = some p := by rw [← wk.len]; simp
  have s0 := sm.grow w0 g0
  refine ⟨ρ, θ ++ [p], μ ++ [.dic [] []], _, s0, q, fun d1 v1 H1 θ1 μ1 w1 g1 r1 h1 => ?_⟩
  refine ⟨ρ, θ1, μ1, _, s0.grow w1 g1, h1, fun d2 v2 H2 θ2 μ2 w2 g2 r2 h2 => ?_⟩
  refine ⟨ρ, θ2, μ2, _, (s0.grow w1 g1).grow w2 g2, h2, fun d3 v3 H3 θ3 μ3 w3 g3 r3 h3 => ?_⟩
  obtain ⟨hc, h3⟩ := h3
  have g13 := (g1.trans g2).trans g3
  have ha : θ3[μ.length]? = some p := g13.pre _ _ hth
  obtain ⟨kvs, hH, hk, hr⟩ := w3.cell _ _ p hc ha
  have hk0 : kvs = [] := by simpa using hk
  subst hk0
  have es : ∀ {s : Str} {k : List Nat}, s.cps.toList = k → s = ⟨k.toArray⟩ := fun {s k} e => by subst e; cases s; simp
  refine ⟨hH, [(.inr s1, v1), (.inr s2, v2), (.inr s3, v3)], rfl, by simp, ?_⟩
  have m1 : s1 ≠ s2 := fun z => n1 (by rw [← e1, ← e2, z])
  have m2 : s1 ≠ s3 := fun z => n2 (by rw [← e1, ← e3, z])
  have m3 : s2 ≠ s3 := fun z => n3 (by rw [← e2, ← e3, z])
  have em : mergeK [] [((.inr s1 : Key), v1), (.inr s2, v2), (.inr s3, v3)] = [(.inr s1, v1), (.inr s2, v2), (.inr s3, v3)] := by
    simp [mergeK, putK, m1, m2, m3, Ne.symm m1, Ne.symm m2, Ne.symm m3]
  rw [em]
  have gw : Grow H3 θ3 μ3 (upd H3 p (.dK [(.inr s1, v1), (.inr s2, v2), (.inr s3, v3)])) θ3 (μ3.set μ.length (.dic [.inr k1, .inr k2, .inr k3] [d1, d2, d3])) := Grow.write hc ha (by simp) (by simp)
  refine f (.loc μ.length) (.ref p) _ θ3 _ (w3.write hc ha (by simp) (by simp) ?_) ((g0.trans g13).trans gw) ?_ h3
  · refine ⟨_, upd_same, ?_, ?_⟩
    · simp only [List.map_cons, List.map_nil, keyOf]
      rw [es e1, es e2, es e3]
    · exact Reps.cons ((g2.trans g3).trans gw |>.rep r1) (Reps.cons ((g3.trans gw).rep r2) (Reps.cons (gw.rep r3) Reps.nil))
  · unfold Rep
    exact ⟨p, rfl, ha⟩
end
end DW
end

section
set_option linter.all false
set_option autoImplicit false
set_option maxRecDepth 100000
set_option maxHeartbeats 2000000
/-! DW12c: instances: fields, methods, made ones. -/
namespace DW
open PySem PySem.Spec PyProof.Rows L2
theorem ofString_inj {a b : String} (h : Str.ofString a = Str.ofString b) : a = b := by
  rw [Str.ofString_eq_toList, Str.ofString_eq_toList] at h
  have h1 : a.toList.map Char.toNat = b.toList.map Char.toNat := by
    have := congrArg (fun s : Str => s.cps.toList) h
    simpa using this
  have inj : ∀ (x y : List Char), x.map Char.toNat = y.map Char.toNat → x = y := by
    intro x
    induction x with
    | nil => intro y e; cases y with | nil => rfl | cons _ _ => simp at e
    | cons c x ih =>
      intro y e
      cases y with
      | nil => simp at e
      | cons d y =>
        simp only [List.map_cons, List.cons.injEq] at e
        have : c = d := Char.ext (UInt32.toNat_inj.mp e.1)
        rw [this, ih y e.2]
  exact String.ext (inj _ _ h1)
section
variable {K : PySem.W.Frag} {H : Hp} {θ : List Addr} {μ : Mem} {f : String} {d : D} {v : V}
theorem look_some : ∀ {fs : List (String × D)} {fs' : List (Str × V)}, fs'.map (·.1) = fs.map (fun p => Str.ofString p.1) → Rps K H θ μ (fs.map (·.2)) (fs'.map (·.2)) → getD' f fs = some d → ∃ v, fs'.lookup (Str.ofString f) = some v ∧ Rp K H θ μ d v
  | [], _, _, _, h => by simp [getD'] at h
  | (g, e) :: fs, [], h1, _, _ => by simp at h1
  | (g, e) :: fs, (g', w) :: fs', h1, h2, h => by
    simp only [List.map_cons, List.cons.injEq] at h1
    obtain ⟨v0, r, e0, r1, r2⟩ := h2.cons_inv
    simp only [List.map_cons, List.cons.injEq] at e0
    obtain ⟨rfl, rfl⟩ := e0
    unfold getD' at h
    by_cases q : g = f
    · rw [if_pos q] at h
      cases h
      refine ⟨w, ?_, r1⟩
      rw [h1.1, q]; simp [List.lookup]
    · rw [if_neg q] at h
      obtain ⟨v', k1, k2⟩ := look_some h1.2 r2 h
      refine ⟨v', ?_, k2⟩
      have : (Str.ofString f == g') = false := by
        rw [h1.1]
        exact beq_eq_false_iff_ne.mpr fun z => q (ofString_inj z.symm)
      simp only [List.lookup, this]; exact k1
theorem look_none : ∀ {fs : List (String × D)} {fs' : List (Str × V)}, fs'.map (·.1) = fs.map (fun p => Str.ofString p.1) → getD' f fs = none → fs'.lookup (Str.ofString f) = none
  | [], [], _, _ => rfl
  | [], _ :: _, h1, _ => by simp at h1
  | (g, e) :: fs, [], h1, _ => by simp at h1
  | (g, e) :: fs, (g', w) :: fs', h1, h => by
    simp only [List.map_cons, List.cons.injEq] at h1
    unfold getD' at h
    by_cases q : g = f
    · rw [if_pos q] at h; cases h
    · rw [if_neg q] at h
      have : (Str.ofString f == g') = false := by
        rw [h1.1]
        exact beq_eq_false_iff_ne.mpr fun z => q (ofString_inj z.symm)
      simp only [List.lookup, this]
      exact look_none h1.2 h
theorem put_ok (rv : Rp K H θ μ d v) : ∀ {fs : List (String × D)} {fs' : List (Str × V)}, fs'.map (·.1) = fs.map (fun p => Str.ofString p.1) → Rps K H θ μ (fs.map (·.2)) (fs'.map (·.2)) →
    (putF (Str.ofString f) v fs').map (·.1) = (putD f d fs).map (fun p => Str.ofString p.1) ∧ Rps K H θ μ ((putD f d fs).map (·.2)) ((putF (Str.ofString f) v fs').map (·.2))
  | [], [], _, _ => ⟨rfl, Reps.one rv⟩
  | [], _ :: _, h1, _ => by simp at h1
  | (g, e) :: fs, [], h1, _ => by simp at h1
  | (g, e) :: fs, (g', w) :: fs', h1, h2 => by
    simp only [List.map_cons, List.cons.injEq] at h1
    obtain ⟨v0, r, e0, r1, r2⟩ := h2.cons_inv
    simp only [List.map_cons, List.cons.injEq] at e0
    obtain ⟨rfl, rfl⟩ := e0
    by_cases q : g = f
    · have q' : g' = Str.ofString f := by rw [h1.1, q]
      unfold putF putD
      rw [if_pos q, if_pos q']
      exact ⟨by simp [h1.1, h1.2], Reps.cons rv r2⟩
    · have q' : ¬ g' = Str.ofString f := by rw [h1.1]; exact fun z => q (ofString_inj z)
      obtain ⟨k1, k2⟩ := put_ok rv h1.2 r2
      unfold putF putD
      rw [if_neg q, if_neg q']
      exact ⟨by simp [h1.1, k1], Reps.cons r1 k2⟩
theorem ins_inv {c : String} {x : V} {n : Nat} {fs : List (String × D)} (wk : WOk K H θ μ) (rd : Rp K H θ μ d x) (h : insOf μ c d = some (n, fs)) :
    ∃ a C dx fs', d = .loc n ∧ x = .ref a ∧ θ[n]? = some a ∧ μ[n]? = some (.ins c fs) ∧ PySem.W.nsIn K mainGlobals (Str.ofString c) = some (some (.ref C)) ∧ H a = some (.ins C dx fs') ∧ fs'.map (·.1) = fs.map (fun p => Str.ofString p.1) ∧ Rps K H θ μ (fs.map (·.2)) (fs'.map (·.2)) := by
  cases d with
  | loc k =>
    obtain ⟨a, rfl, ha⟩ := inv_loc rd
    simp only [insOf] at h
    split at h
    · rename_i c' fs0 hn
      split at h
      · rename_i e
        subst e
        cases h
        obtain ⟨C, dx, fs', h0, h1, h2, h3⟩ := wk.cell _ _ a hn ha
        exact ⟨a, C, dx, fs', rfl, rfl, ha, hn, h0, h1, h2, h3⟩
      · cases h
    · cases h
  | _ => simp [insOf] at h
end
section
variable {X : Cx}
theorem anyBase {o : Expr} {m : Str} {env : Env} (h : baseB o = true) : attributeBase o m env (eval o env) = eval o env := by
  cases o with
  | Call f as ks p => obtain ⟨x, q, a, r, rfl, rfl⟩ := baseB_call h; rfl
  | _ => first | rfl | exact (Bool.false_ne_true h).elim
theorem meth_eval {o : Expr} {m : Str} {apos pos : Pos} {args : List Expr} {env : Env} (hbase : attributeBase o m env (eval o env) = eval o env) (hform : methodCallForm (args.length + ([] : List Keyword).length) (backTo pos (starEach args env)) (backToKw pos (keywordEach [] env)) = true) (hline : (apos.endLine == pos.line) = true) :
    eval (.Call (.Attribute o m apos) args [] pos) env = (do
      let ov ← eval o env
      standAt apos.atName
      let (f, first) ← holding [ov] (getMethod ov m (do return (← importBound o env).getD true))
      callWith pos f first (backTo pos (starEach args env)) (backToKw pos (keywordEach [] env))) := by
  have hpos : methodCallPos true o env apos pos = pure pos := by unfold methodCallPos; simp [hline]
  rw [arm_eval_Call, hbase]
  unfold methodCall
  rw [hform]
  simp only [calleeOf, if_true, hpos, pure_bind]
theorem pe_fldD {c f : String} {o : Expr} {wo : WE} {pos : Pos} (R : FnRef X (.fld c f) spN) (he : PE X o (LE X.K wo)) (hb : baseB o = true) : PE X (.Attribute o (Str.ofString f) pos) (LE X.K fun ρ μ Q => wo ρ μ fun x μ1 => wFld c f x μ1 Q) := by
  obtain ⟨C, hc, hC, hN⟩ := R
  refine PE.wk (pe_fld he (anyBase hb)) fun σ H Q h => ?_
  obtain ⟨ρ, θ, μ, Qd, s, h, fi⟩ := h
  refine ⟨ρ, θ, μ, _, s, h, fun x v H1 θ1 μ1 w1 g1 r1 h1 => ?_⟩
  unfold wFld at h1
  split at h1
  · rename_i n fs e
    split at h1
    · rename_i d ed
      obtain ⟨a, C', dx, fs', rfl, rfl, ha, hn, h0, h2, h3, h4⟩ := ins_inv w1 r1 e
      rw [hc] at h0; cases h0
      obtain ⟨v', k1, k2⟩ := look_some h3 h4 ed
      exact ⟨a, C, dx, fs', v', rfl, h2, hC, hN, k1, (fi.mono g1).at w1 k2 h1⟩
    · exact h1.elim
  · exact h1.elim
theorem set_ins {H : Hp} {θ : List Addr} {μ : Mem} {c : String} {n : Nat} {a C dx : Addr} {fs fs1 : List (String × D)} {fs' : List (Str × V)} (wk : WOk X.K H θ μ) (ha : θ[n]? = some a) (hn : μ[n]? = some (.ins c fs))
    (h0 : PySem.W.nsIn X.K mainGlobals (Str.ofString c) = some (some (.ref C))) (h3 : fs'.map (·.1) = fs1.map (fun p => Str.ofString p.1)) (h4 : Rps X.K H θ μ (fs1.map (·.2)) (fs'.map (·.2))) :
    WOk X.K (upd H a (.ins C dx fs')) θ (μ.set n (.ins c fs1)) ∧ Grow H θ μ (upd H a (.ins C dx fs')) θ (μ.set n (.ins c fs1)) := by
  have g : Grow H θ μ (upd H a (.ins C dx fs')) θ (μ.set n (.ins c fs1)) := Grow.write hn ha (by simp) (by simp)
  exact ⟨wk.write (c' := .ins c fs1) hn ha (by simp) (by simp) (show CellOk X.K _ _ _ a (.ins c fs1) from ⟨C, dx, fs', h0, upd_same, h3, g.reps h4⟩), g⟩
theorem ps_fldD {EX : L2.St → XK} {c f : String} {o e : Expr} {wo we : WE} {pos pos' : Pos} (R : FnRef X (.fld c f) spN) (ho : PE X o (LE X.K wo)) (he : PE X e (LE X.K we)) (hs : swapsWith e (some (.Attribute o (Str.ofString f) pos')) pos.line X.env = pure false) :
    PS X (.Assign [.Attribute o (Str.ofString f) pos'] e pos) (LS X.K EX fun Z ρ μ => we ρ μ fun v μ1 => wo ρ μ1 fun x μ2 => wSetF c f x v μ2 fun μ3 => Z.nx ρ μ3) := by
  obtain ⟨C, hc, hC, hN⟩ := R
  refine PS.wk (ps_fld ho he hs) fun D σ H h => ?_
  obtain ⟨ρ, θ, μ, Z, s, h, fi⟩ := h
  refine ⟨ρ, θ, μ, _, s, h, fun d v H1 θ1 μ1 w1 g1 r1 h1 => ⟨ρ, θ1, μ1, _, s.grow w1 g1, h1, fun x vx H2 θ2 μ2 w2 g2 r2 h2 => ?_⟩⟩
  unfold wSetF at h2
  split at h2
  · rename_i n fs e'
    obtain ⟨a, C', dx, fs', rfl, rfl, ha, hn, h0, h3, h4, h5⟩ := ins_inv w2 r2 e'
    rw [hc] at h0; cases h0
    obtain ⟨p1, p2⟩ := put_ok (f := f) (g2.rep r1) h4 h5
    obtain ⟨w3, g3⟩ := set_ins (C := C) (dx := dx) w2 ha hn hc p1 p2
    have hl : fs'.length = fs.length := by have := congrArg List.length h4; simpa using this
    exact ⟨a, C, dx, fs', rfl, h3, hC, hN, by rw [hl]; exact h2.1, fi.nx σ _ ρ θ2 _ (s.grow w3 ((g1.trans g2).trans g3)) ((g1.trans g2).trans g3) h2.2⟩
  · exact h2.elim
theorem pe_methD {c m : String} {sp : DSp} {o : Expr} {wo : WE} {ws : WA} {pos apos : Pos} {e : Expr} {es : List Expr} (R : FnRef X (.mth c m) sp) (ho : PE X o (LE X.K wo)) (hb : baseB o = true) (ha : PA X (e :: es) (LA X.K ws))
    (hs : starEach (e :: es) X.env = (false, eval e X.env) :: starEach es X.env) (hpl : (backTo pos (starEach es X.env)).any (·.1) = false)
    (hform : methodCallForm ((e :: es).length + ([] : List Keyword).length) (backTo pos (starEach (e :: es) X.env)) (backToKw pos (keywordEach [] X.env)) = true) (hline : (apos.endLine == pos.line) = true) :
    PE X (.Call (.Attribute o (Str.ofString m) apos) (e :: es) [] pos) (LE X.K fun ρ μ Q => wo ρ μ fun x μ1 => isIns μ1 c m x ∧ ws ρ μ1 fun ds μ2 => sp (x :: ds) μ2 Q) := by
  obtain ⟨C, fa, fd, ps, k, hc, hC, hM, hbd, F, hr⟩ := R
  have base : PE X (.Call (.Attribute o (Str.ofString m) apos) (e :: es) [] pos) (tMeth C (Str.ofString m) (low X.K sp) [] E0 (LE X.K wo) (LA X.K ws)) := by
    exact pe_meth ho hC hM F hr hbd .nil passE ha hs hpl (meth_eval (anyBase hb) hform hline)
  refine PE.wk base fun σ H Q h => ?_
  obtain ⟨ρ, θ, μ, Qd, s, h, fi⟩ := h
  refine ⟨ρ, θ, μ, _, s, h, fun x v H1 θ1 μ1 w1 g1 r1 h1 => ?_⟩
  obtain ⟨hi, h1⟩ := h1
  unfold isIns at hi
  split at hi
  · rename_i n fs e'
    obtain ⟨a, C', dx, fs', rfl, rfl, hθ, hn, h0, h3, h4, h5⟩ := ins_inv w1 r1 e'
    rw [hc] at h0; cases h0
    refine ⟨a, dx, fs', rfl, h3, look_none h4 hi, ρ, θ1, μ1, _, s.grow w1 g1, h1, fun ds vs H2 θ2 μ2 w2 g2 r2 h2 => ?_⟩
    dsimp only
    rw [List.append_nil]
    exact ⟨.loc n :: ds, θ2, μ2, Qd, w2, Reps.cons (g2.rep r1) r2, h2, fi.mono (g1.trans g2)⟩
  · exact hi.elim
theorem pe_meth0D {c m : String} {sp : DSp} {o : Expr} {wo : WE} {pos apos : Pos} (R : FnRef X (.mth c m) sp) (ho : PE X o (LE X.K wo)) (hb : baseB o = true) (hline : (apos.endLine == pos.line) = true) :
    PE X (.Call (.Attribute o (Str.ofString m) apos) [] [] pos) (LE X.K fun ρ μ Q => wo ρ μ fun x μ1 => isIns μ1 c m x ∧ sp [x] μ1 Q) := by
  obtain ⟨C, fa, fd, ps, k, hc, hC, hM, hbd, F, hr⟩ := R
  have base : PE X (.Call (.Attribute o (Str.ofString m) apos) [] [] pos) (tMeth C (Str.ofString m) (low X.K sp) [] E0 (LE X.K wo) tNil) := by
    exact pe_meth0 ho hC hM F hr hbd .nil passE (meth_eval (anyBase hb) rfl hline)
  refine PE.wk base fun σ H Q h => ?_
  obtain ⟨ρ, θ, μ, Qd, s, h, fi⟩ := h
  refine ⟨ρ, θ, μ, _, s, h, fun x v H1 θ1 μ1 w1 g1 r1 h1 => ?_⟩
  obtain ⟨hi, h1⟩ := h1
  unfold isIns at hi
  split at hi
  · rename_i n fs e'
    obtain ⟨a, C', dx, fs', rfl, rfl, hθ, hn, h0, h3, h4, h5⟩ := ins_inv w1 r1 e'
    rw [hc] at h0; cases h0
    exact ⟨a, dx, fs', rfl, h3, look_none h4 hi, [.loc n], θ1, μ1, Qd, w1, Reps.one r1, h1, fi.mono g1⟩
  · exact hi.elim
/-- a new instance, ahead of its __init__ -/
theorem make_low {c : String} {sp : DSp} {C : Addr} {H : Hp} {θ : List Addr} {μ : Mem} {ds : List D} {vs : List V} {Qd : QD} {Q : VK} (hc : PySem.W.nsIn X.K mainGlobals (Str.ofString c) = some (some (.ref C))) (w : WOk X.K H θ μ) (r : Rps X.K H θ μ ds vs)
    (h : sp (.loc μ.length :: ds) (μ ++ [.ins c []]) fun v μ2 => v = .non ∧ Qd (.loc μ.length) μ2) (fi : Fin X.K H θ μ Qd Q) (x dx : Addr) (hx : H x = none) (hdx : H dx = none) (hne : dx ≠ x) :
    low X.K sp (.ref x :: vs) (upd (upd H dx (.own x)) x (.ins C dx [])) (fun v H2 => v = .non ∧ Q (.ref x) H2) E0 := by
  have e1 := ext_upd (o := HO.own x) hdx
  have w1 : WOk X.K (upd H dx (.own x)) θ μ := w.ext e1
  have g1 : Grow H θ μ (upd H dx (.own x)) θ μ := Grow.ext e1
  have hx1 : (upd H dx (.own x)) x = none := by rw [upd_ne (Ne.symm hne)]; exact hx
  have g2 : Grow (upd H dx (.own x)) θ μ (upd (upd H dx (.own x)) x (.ins C dx [])) (θ ++ [x]) (μ ++ [.ins c []]) := Grow.new w1 hx1
  have w2 : WOk X.K (upd (upd H dx (.own x)) x (.ins C dx [])) (θ ++ [x]) (μ ++ [.ins c []]) := w1.new (c := .ins c []) hx1 (show CellOk X.K _ _ _ x (.ins c []) from ⟨C, dx, [], hc, upd_same, rfl, Reps.nil⟩)
  have rl : Rp X.K (upd (upd H dx (.own x)) x (.ins C dx [])) (θ ++ [x]) (μ ++ [.ins c []]) (.loc μ.length) (.ref x) := by
    unfold Rep
    exact ⟨x, rfl, by rw [← w.len]; simp⟩
  refine ⟨.loc μ.length :: ds, _, _, _, w2, Reps.cons rl ((g1.trans g2).reps r), h, fun d v H' θ' μ' w' g' r' q => ?_⟩
  obtain ⟨rfl, q⟩ := q
  exact ⟨inv_non r', fi (.loc μ.length) (.ref x) H' θ' μ' w' ((g1.trans g2).trans g') (g'.rep rl) q⟩
theorem pe_mkD {c : String} {sp : DSp} {ws : WA} {p pos : Pos} {e : Expr} {es : List Expr} (R : FnRef X (.mk c) sp) (hg : Gl X (Str.ofString c)) (ha : PA X (e :: es) (LA X.K ws)) (hdb : (Str.ofString c == ("__debug__" : Str)) = false)
    (hs : starEach (e :: es) X.env = (false, eval e X.env) :: starEach es X.env) (hpl : (backTo pos (starEach es X.env)).any (·.1) = false) :
    PE X (.Call (.Name (Str.ofString c) p) (e :: es) [] pos) (LE X.K fun ρ μ Q => ws ρ μ fun ds μ1 => sp (.loc μ1.length :: ds) (μ1 ++ [.ins c []]) fun v μ2 => v = .non ∧ Q (.loc μ1.length) μ2) := by
  obtain ⟨C, fa, fd, ps, k, hc, hm, hM, hbd, F, hr⟩ := R
  refine PE.wk (pe_make hM F hr hg hm hbd .nil passE ha hdb hs hpl) fun σ H Q h => ?_
  obtain ⟨ρ, θ, μ, Qd, s, h, fi⟩ := h
  refine ⟨ρ, θ, μ, _, s, h, fun ds vs H1 θ1 μ1 w1 g1 r1 h1 => fun x dx hx hdx hne => ?_⟩
  rw [List.append_nil]
  exact make_low hc w1 r1 h1 (fi.mono g1) x dx hx hdx hne
theorem pe_mk0D {c : String} {sp : DSp} {p pos : Pos} (R : FnRef X (.mk c) sp) (hg : Gl X (Str.ofString c)) (hdb : (Str.ofString c == ("__debug__" : Str)) = false) :
    PE X (.Call (.Name (Str.ofString c) p) [] [] pos) (LE X.K fun ρ μ Q => sp [.loc μ.length] (μ ++ [.ins c []]) fun v μ2 => v = .non ∧ Q (.loc μ.length) μ2) := by
  obtain ⟨C, fa, fd, ps, k, hc, hm, hM, hbd, F, hr⟩ := R
  refine PE.wk (pe_make0 hM F hr hg hm hbd .nil passE hdb) fun σ H Q h => ?_
  obtain ⟨ρ, θ, μ, Qd, s, h, fi⟩ := h
  exact fun x dx hx hdx hne => make_low hc s.wok Reps.nil h fi x dx hx hdx hne
end
end DW
end

section
set_option linter.all false
set_option autoImplicit false
set_option maxRecDepth 100000
set_option maxHeartbeats 2000000
/-! EXI: isinstance of an error; calls that may raise; raise; over deep values. -/
namespace DW
open PySem PySem.Spec PyProof.Rows L2

section
variable {X : Cx}
end

/-! ### calls that may raise -/
section
variable {X : Cx} {EX : L2.St → XK}
end
end DW
end

section
set_option linter.all false
set_option autoImplicit false
set_option maxRecDepth 100000
set_option maxHeartbeats 4000000
namespace DW
open PySem PySem.Spec PyProof.Rows L2

section
variable {X : Cx}
theorem isCell_ty {K : PySem.W.Frag} {H : Hp} {θ : List Addr} {μ : Mem} {d : D} {v : V} (wk : WOk K H θ μ) (r : Rp K H θ μ d v) (h : isCell μ d = true) : tyV K "list" v H := by
  cases d with
  | loc n =>
    obtain ⟨a, rfl, ha⟩ := inv_loc r
    simp only [isCell] at h
    split at h
    · rename_i ds hn
      obtain ⟨xs, hx, _⟩ := wk.list hn ha
      exact .inl ⟨rfl, xs, .of hx⟩
    · cases h
  | _ => cases h
theorem le_meth {m : String} {wo : WE} {ws : WA} {σ : L2.St} {H : Hp} {Q : VK} (h : LE X.K (fun ρ μ Q => wo ρ μ fun x μ1 => isCell μ1 x = true ∧ ws ρ μ1 fun ds μ2 => wMeth m x ds μ2 Q) σ H Q) : tBM X.K "list" (lowM X.K (wMeth m)) (LE X.K wo) (LA X.K ws) σ H Q := by
  obtain ⟨ρ, θ, μ, Qd, s, h, f⟩ := h
  refine ⟨ρ, θ, μ, _, s, h, fun x v H1 θ1 μ1 w1 g1 r1 h1 => ⟨isCell_ty w1 r1 h1.1, ρ, θ1, μ1, _, s.grow w1 g1, h1.2, fun ds vs H2 θ2 μ2 w2 g2 r2 h2 => ?_⟩⟩
  exact ⟨x, ds, θ2, μ2, Qd, w2, g2.rep r1, r2, h2, f.mono (g1.trans g2)⟩
theorem le_meth0 {m : String} {wo : WE} {σ : L2.St} {H : Hp} {Q : VK} (h : LE X.K (fun ρ μ Q => wo ρ μ fun x μ1 => isCell μ1 x = true ∧ wMeth m x [] μ1 Q) σ H Q) : tBM0 X.K "list" (lowM X.K (wMeth m)) (LE X.K wo) σ H Q := by
  obtain ⟨ρ, θ, μ, Qd, s, h, f⟩ := h
  refine ⟨ρ, θ, μ, _, s, h, fun x v H1 θ1 μ1 w1 g1 r1 h1 => ⟨isCell_ty w1 r1 h1.1, ?_⟩⟩
  exact ⟨x, [], θ1, μ1, Qd, w1, r1, Reps.nil, h1.2, f.mono g1⟩
theorem few_of {c : Ctx} {cpos : Pos} {as : Es} {e : Expr} {es : List Expr} (h : mEs c as (e :: es) = true) (h30 : (e :: es).length < 30) : ((backTo cpos (starEach (e :: es) X.env)).all (fun x => !x.1) && (backToKw cpos (keywordEach [] X.env)).all (fun x => x.1.isSome)
      && decide ((e :: es).length + ([] : List Keyword).length + (if ([] : List Keyword).isEmpty then 0 else 1) < 30)) = true := by
  have h1 : (backTo cpos (starEach (e :: es) X.env)).all (fun x => !x.1) = true := by
    have := any_star (pos := cpos) (env := X.env) h
    rw [List.all_eq_not_any_not]
    simpa using this
  have h2 : (backToKw cpos (keywordEach [] X.env)).all (fun x => x.1.isSome) = true := rfl
  rw [h1, h2]
  simpa using h30
noncomputable abbrev WO := Rho → Mem → (Option Int → Mem → Prop) → Prop
noncomputable def LO (K : PySem.W.Frag) (w : WO) : TO := fun σ H Q => ∃ ρ θ μ Qd, Sim K σ H ρ θ μ ∧ w ρ μ Qd ∧ ∀ (o : Option Int) (H' : Hp) (θ' : List Addr) (μ' : Mem), WOk K H' θ' μ' → Grow H θ μ H' θ' μ' → Qd o μ' → Q o H'
theorem po_noneD : PO X none (LO X.K fun _ μ Q => Q none μ) := fun pins s σ H Q I h => by
  obtain ⟨ρ, θ, μ, Qd, sm, h, f⟩ := h
  exact po_none pins s σ H Q I (f none H θ μ sm.wok Grow.refl h)
theorem po_someD {a : Expr} {w : WE} (ha : PE X a (LE X.K w)) : PO X (some a) (LO X.K fun ρ μ Q => w ρ μ fun d μ1 => wInt d μ1 fun i μ2 => Q (some i) μ2) := fun pins s σ H Q I h => by
  obtain ⟨ρ, θ, μ, Qd, sm, h, f⟩ := h
  refine po_some ha pins s σ H Q I ⟨ρ, θ, μ, _, sm, h, fun d v H1 θ1 μ1 w1 g1 r1 h1 => ?_⟩
  cases d with
  | int i => exact ⟨i, inv_int r1, f (some i) H1 θ1 μ1 w1 g1 h1⟩
  | _ => exact h1.elim
theorem le_slc {m : Bool} {wa : WE} {wl wh : WO} {σ : L2.St} {H : Hp} {Q : VK} (h : LE X.K (fun ρ μ Q => wa ρ μ fun x μ1 => wl ρ μ1 fun l μ2 => wh ρ μ2 fun h μ3 => wSlc m x l h μ3 Q) σ H Q) :
    tSl (lowSl X.K m) (LE X.K wa) (LO X.K wl) (LO X.K wh) σ H Q := by
  obtain ⟨ρ, θ, μ, Qd, s, h, f⟩ := h
  refine ⟨ρ, θ, μ, _, s, h, fun x v H1 θ1 μ1 w1 g1 r1 h1 => ⟨ρ, θ1, μ1, _, s.grow w1 g1, h1, fun l H2 θ2 μ2 w2 g2 h2 => ⟨ρ, θ2, μ2, _, s.grow w2 (g1.trans g2), h2, fun o H3 θ3 μ3 w3 g3 h3 => ?_⟩⟩⟩
  exact ⟨x, θ3, μ3, Qd, w3, (g2.trans g3).rep r1, h3, f.mono ((g1.trans g2).trans g3)⟩
noncomputable def isTup : Expr → Bool
  | .Tuple .. => true
  | _ => false
theorem zipTg_of {c : Ctx} {is : List Nat} {tt : Bool} {t : Expr} {it : It} (h : mTg c is tt t = true) (hz : zipTg tt it = true) : zipTg (isTup t) it = true := by
  cases it with
  | zip l r =>
    simp only [zipTg] at hz ⊢
    subst hz
    cases t <;> first | rfl | exact (Bool.false_ne_true h).elim
  | _ => rfl
theorem mI_set {c : Ctx} {it : It} {a : Expr} (h : mI c it a = true) : notSet a = true := by
  cases it with
  | seq e => simp only [mI, Bool.and_eq_true] at h; exact h.2
  | _ =>
    obtain ⟨t, e, _⟩ := opt_inv h
    obtain ⟨p, q, rfl⟩ := vCall_inv e
    rfl
theorem lt_chain {p q : CmpOp} {wa wb wc : WE} {σ : L2.St} {H : Hp} {Q : Bool → Hp → Prop}
    (h : LT X.K (fun ρ μ Q => wa ρ μ fun x μ1 => wb ρ μ1 fun y μ2 => wCmp p x y μ2 fun r μ3 => wBl r μ3 fun t μ3 => if t = true then wc ρ μ3 fun z μ4 => wCmp q y z μ4 fun r μ5 => wBl r μ5 Q else Q false μ3) σ H Q) :
    tTest (tChain (low2 X.K (wCmp p)) (low2 X.K (wCmp q)) (LE X.K wa) (LE X.K wb) (LE X.K wc)) σ H Q := by
  obtain ⟨ρ, θ, μ, Qd, s, h, f⟩ := h
  refine le_chain (Q := fun x H' => ∃ k, x = .bl k ∧ Q k H') ⟨ρ, θ, μ, fun r μ' => wBl r μ' Qd, s, h, fun r v H1 θ1 μ1 w1 g1 r1 h1 => ?_⟩
  cases r with
  | bl b => exact ⟨b, inv_bl r1, f b H1 θ1 μ1 w1 g1 h1⟩
  | _ => exact h1.elim
theorem pw_no {a : Expr} {t : TT} (h : ∀ op vs pos, a ≠ .BoolOp op vs pos) : ∀ op vs pos, a = .BoolOp op vs pos → PW X a t := fun op vs pos e => absurd e (h op vs pos)
end

theorem args_head {c : Ctx} {as : Es} {e : Expr} {es : List Expr} (h : mEs c as (e :: es) = true) : notStar e = true ∧ ∃ es', mEs c es' es = true := by
  cases as with
  | nil => exact (Bool.false_ne_true h).elim
  | cons e' es' =>
    simp only [mEs, Bool.and_eq_true] at h
    exact ⟨h.1.2, es', h.2⟩
theorem pe_cstD {X : Cx} {k : Const} {j : Nat} {pos : Pos} {d : D} (h : mC k d = true) : PE X (.Constant k j pos) (LE X.K (wE (.cst d))) := by
  cases k <;> cases d <;> simp only [mC, Bool.false_eq_true, Bool.and_eq_true, beq_iff_eq] at h
  · exact PE.wk pe_non fun σ H Q q => le_const (fun _ _ _ => rp_non) q
  · subst h; exact PE.wk pe_bl fun σ H Q q => le_const (fun _ _ _ => rp_bl) q
  · subst h; exact PE.wk pe_int fun σ H Q q => le_const (fun _ _ _ => rp_int) q
  · rename_i x y
    obtain ⟨h1, h2⟩ := h
    have h1 := of_decide_eq_true h1
    have h2 := of_decide_eq_true h2
    subst h1
    have e : x = ⟨x.cps.toList.toArray⟩ := by simp
    refine PE.wk pe_str fun σ H Q q => le_const (fun _ _ _ => ?_) q
    rw [e]
    exact rp_str (by rw [sizeLine_eq]; exact h2)
mutual
theorem sE : ∀ (e : E) {X : Cx} {c : Ctx} {a : Expr}, CtxOk X c → mE c e a = true → okE (FnRef X) (GblRef X) e → Snd X e a
  | .var i, X, c, a, C, h, _ => by
    have h : (opt (vName a) fun x => c.at_ i x && c.vis x && !oddName x) = true := h
    obtain ⟨x, e, hh⟩ := opt_inv h
    obtain ⟨pos, rfl⟩ := vName_inv e
    have h := hh
    simp only [Bool.and_eq_true, Bool.not_eq_true'] at h
    obtain ⟨⟨h1, h2⟩, h3⟩ := h
    obtain ⟨o1, o2⟩ := oddName_of h3
    have pe : PE X (.Name x pos) (LE X.K (wE (.var i))) := PE.wk (pe_varD (by rw [C.N]; exact at_some h1) (C.vis x h2) o1 o2) fun σ H Q q => q
    refine ⟨pe, PT.wk (pt_truD pe fun _ => rfl) fun σ H Q q => ?_, pw_no (fun _ _ _ z => by cases z)⟩
    obtain ⟨ρ, θ, μ, Qd, s, q, f⟩ := q
    refine ⟨ρ, θ, μ, Qd, s, ?_, f⟩
    simp only [wT] at q
    simp only [wE]
    split at q
    · exact q
    · exact q.elim
  | .cst d, X, c, a, C, h, _ => by
    have h : (opt (vConst a) fun k => mC k d) = true := h
    obtain ⟨k, e, hh⟩ := opt_inv h
    obtain ⟨j, pos, rfl⟩ := vConst_inv e
    have h := hh
    have pe := pe_cstD (X := X) (j := j) (pos := pos) h
    refine ⟨pe, PT.wk (pt_truD pe fun _ => rfl) fun σ H Q q => ?_, pw_no (fun _ _ _ z => by cases z)⟩
    obtain ⟨ρ, θ, μ, Qd, s, q, f⟩ := q
    exact ⟨ρ, θ, μ, Qd, s, q, f⟩
  | .gbl y d, X, c, a, C, h, ok => by
    have h : (opt (vName a) fun x => x == y && c.glb x && !oddName x) = true := h
    obtain ⟨x, e, hh⟩ := opt_inv h
    obtain ⟨pos, rfl⟩ := vName_inv e
    have h := hh
    simp only [Bool.and_eq_true, Bool.not_eq_true', beq_iff_eq] at h
    obtain ⟨⟨rfl, h2⟩, h3⟩ := h
    obtain ⟨u, v, m, r, rp⟩ := (show GblRef X x d from ok)
    exact ⟨PE.wk (pe_glob (C.glb x h2) m r (oddName_of h3).1) fun σ H Q q => le_const rp q, pt_never, pw_no (fun _ _ _ z => by cases z)⟩
  | .bin op l r, X, c, a, C, h, ok => by
    have h : (opt (vBin a) fun t => op == t.2.1 && mE c l t.1 && mE c r t.2.2) = true := h
    obtain ⟨⟨l', op', r'⟩, e, hh⟩ := opt_inv h
    obtain ⟨pos, rfl⟩ := vBin_inv e
    have h := hh
    simp only [Bool.and_eq_true, beq_iff_eq] at h
    obtain ⟨⟨rfl, h1⟩, h2⟩ := h
    exact ⟨PE.wk (pe_op (bin_ok op) (sE l C h1 ok.1).pe (sE r C h2 ok.2).pe) fun σ H Q q => le_bin q, pt_never, pw_no (fun _ _ _ z => by cases z)⟩
  | .neg l, X, c, a, C, h, ok => by
    have h : (opt (vNeg a) fun t => mE c l t) = true := h
    obtain ⟨l', e, hh⟩ := opt_inv h
    obtain ⟨pos, rfl⟩ := vNeg_inv e
    have h := hh
    have S1 := sE l C h ok
    refine ⟨PE.wk (pe_un un_neg S1.pe) fun σ H Q q => ?_, pt_never, pw_no (fun _ _ _ z => by cases z)⟩
    obtain ⟨ρ, θ, μ, Qd, s, q, f⟩ := q
    refine ⟨ρ, θ, μ, _, s, q, fun x v H1 θ1 μ1 w1 g1 r1 h1 => ?_⟩
    cases x with
    | int i => exact ⟨i, inv_int r1, (f.mono g1).at w1 rp_int h1⟩
    | _ => exact h1.elim
  | .not l, X, c, a, C, h, ok => by
    have h : (opt (vNot a) fun t => mE c l t) = true := h
    obtain ⟨l', e, hh⟩ := opt_inv h
    obtain ⟨pos, rfl⟩ := vNot_inv e
    have h := hh
    have S1 := sE l C h ok
    refine ⟨PE.wk (pe_not S1.pe) fun σ H Q q => ?_, PT.wk (pt_not S1.pt) fun σ H Q q => ?_, pw_no (fun _ _ _ z => by cases z)⟩
    · obtain ⟨ρ, θ, μ, Qd, s, q, f⟩ := q
      refine ⟨ρ, θ, μ, _, s, q, fun x v H1 θ1 μ1 w1 g1 r1 h1 => ?_⟩
      cases x with
      | bl b => exact ⟨b, inv_bl r1, (f.mono g1).at w1 rp_bl h1⟩
      | _ => exact h1.elim
    · obtain ⟨ρ, θ, μ, Qd, s, q, f⟩ := q
      exact ⟨ρ, θ, μ, _, s, q, fun b H1 θ1 μ1 w1 g1 h1 => f (!b) H1 θ1 μ1 w1 g1 h1⟩
  | .cmp op l r, X, c, a, C, h, ok => by
    have h : (opt (vCmp a) fun t => c.calm && op == t.2.1 && mE c l t.1 && mE c r t.2.2 && notSet t.2.2) = true := h
    obtain ⟨⟨l', op', r'⟩, e, hh⟩ := opt_inv h
    obtain ⟨pos, rfl⟩ := vCmp_inv e
    have h := hh
    simp only [Bool.and_eq_true, beq_iff_eq] at h
    obtain ⟨⟨⟨⟨hc, rfl⟩, h1⟩, h2⟩, h3⟩ := h
    have S1 := sE l C h1 ok.1
    have S2 := sE r C h2 ok.2
    obtain ⟨k, hr⟩ := C.room hc
    exact ⟨PE.wk (pe_cmpR (cmp_ok hr op) S1.pe S2.pe (set_of h3)) fun σ H Q q => le_bin q, PT.wk (pt_cmpR (cmp_ok hr op) S1.pe S2.pe (set_of h3)) fun σ H Q q => lt_bl (w := wE (.cmp op l r)) (fun _ _ _ z => le_bin z) q, pw_no (fun _ _ _ z => by cases z)⟩
  | .cmpT n l r, X, c, a, C, h, ok => by
    have h : (opt (vCmp a) fun t => c.calm && (t.2.1 == (if n then CmpOp.NotEq else CmpOp.Eq)) && mE c l t.1 && mE c r t.2.2 && notSet t.2.2) = true := h
    obtain ⟨⟨l', op', r'⟩, e, hh⟩ := opt_inv h
    obtain ⟨pos, rfl⟩ := vCmp_inv e
    have h := hh
    simp only [Bool.and_eq_true, beq_iff_eq] at h
    obtain ⟨⟨⟨⟨hc, rfl⟩, h1⟩, h2⟩, h3⟩ := h
    have S1 := sE l C h1 ok.1
    have S2 := sE r C h2 ok.2
    obtain ⟨k, hr⟩ := C.room hc
    exact ⟨PE.wk (pe_cmpR (eqT_ok hr n) S1.pe S2.pe (set_of h3)) fun σ H Q q => le_bin q, PT.wk (pt_cmpR (eqT_ok hr n) S1.pe S2.pe (set_of h3)) fun σ H Q q => lt_bl (w := wE (.cmpT n l r)) (fun _ _ _ z => le_bin z) q, pw_no (fun _ _ _ z => by cases z)⟩
  | .chain p q l m r, X, c, a, C, h, ok => by
    have h : (opt (vCmp2 a) fun t => c.calm && p == t.2.1 && q == t.2.2.1 && mE c l t.1 && mE c m t.2.2.2.1 && mE c r t.2.2.2.2 && notSet t.2.2.2.2 && notSet t.2.2.2.1) = true := h
    obtain ⟨⟨l', p', q', m', r'⟩, e, hh⟩ := opt_inv h
    obtain ⟨pos, rfl⟩ := vCmp2_inv e
    have h := hh
    simp only [Bool.and_eq_true, beq_iff_eq] at h
    obtain ⟨⟨⟨⟨⟨⟨⟨hc, rfl⟩, rfl⟩, h1⟩, h2⟩, h3⟩, h4⟩, h5⟩ := h
    have S1 := sE l C h1 ok.1
    have S2 := sE m C h2 ok.2.1
    have S3 := sE r C h3 ok.2.2
    obtain ⟨k, hr⟩ := C.room hc
    have hm : lastMarks [p, q] [m', r'] = false := by
      show behindInMarks q r' = false
      exact set_of h4
    exact ⟨PE.wk (pe_chain (cmp_ok hr p) (cmp_ok hr q) S1.pe S2.pe S3.pe hm) fun σ H Q z => le_chain z, PT.wk (pt_chain (cmp_ok hr p) (cmp_ok hr q) S1.pe S2.pe S3.pe hm) fun σ H Q z => lt_chain z, pw_no (fun _ _ _ z => by cases z)⟩
  | .and x y, X, c, a, C, h, ok => by
    have h : (opt (vAnd a) fun t => mE c x t.1 && mE c y t.2) = true := h
    obtain ⟨⟨v, y'⟩, e, h⟩ := opt_inv h
    simp only [Bool.and_eq_true] at h
    have S1 := sE x C h.1 ok.1
    have S2 := sE y C h.2 ok.2
    rcases vAnd_inv e with ⟨pos, rfl⟩ | ⟨w, z, rest, pos, rfl, rfl⟩
    · have pw : PW X (.BoolOp .And [v, y'] pos) (LT X.K (wT (.and x y))) := PW.wk (pw_and S1.pt (pw_and1 S2.pt)) fun σ H Q q => lt_and q
      exact ⟨PE.wk (pe_and S1.pe (pe_one S2.pe)) fun σ H Q q => le_and q, pw.pt, fun _ _ _ _ => pw⟩
    · have pw : PW X (.BoolOp .And (v :: w :: z :: rest) pos) (LT X.K (wT (.and x y))) := PW.wk (pw_and S1.pt (S2.pw _ _ _ rfl)) fun σ H Q q => lt_and q
      exact ⟨PE.wk (pe_and S1.pe S2.pe) fun σ H Q q => le_and q, pw.pt, fun _ _ _ _ => pw⟩
  | .or x y, X, c, a, C, h, ok => by
    have h : (opt (vOr a) fun t => mE c x t.1 && mE c y t.2) = true := h
    obtain ⟨⟨v, y'⟩, e, h⟩ := opt_inv h
    simp only [Bool.and_eq_true] at h
    have S1 := sE x C h.1 ok.1
    have S2 := sE y C h.2 ok.2
    rcases vOr_inv e with ⟨pos, rfl⟩ | ⟨w, z, rest, pos, rfl, rfl⟩
    · have pw : PW X (.BoolOp .Or [v, y'] pos) (LT X.K (wT (.or x y))) := PW.wk (pw_or S1.pt (pw_or1 S2.pt)) fun σ H Q q => lt_or q
      exact ⟨PE.wk (pe_or S1.pe (pe_one S2.pe)) fun σ H Q q => le_or q, pw.pt, fun _ _ _ _ => pw⟩
    · have pw : PW X (.BoolOp .Or (v :: w :: z :: rest) pos) (LT X.K (wT (.or x y))) := PW.wk (pw_or S1.pt (S2.pw _ _ _ rfl)) fun σ H Q q => lt_or q
      exact ⟨PE.wk (pe_or S1.pe S2.pe) fun σ H Q q => le_or q, pw.pt, fun _ _ _ _ => pw⟩
  | .ife t x y, X, c, a, C, h, ok => by
    have h : (opt (vIf a) fun q => mE c t q.1 && mE c x q.2.1 && mE c y q.2.2) = true := h
    obtain ⟨⟨t', x', y'⟩, e, hh⟩ := opt_inv h
    obtain ⟨pos, rfl⟩ := vIf_inv e
    have h := hh
    simp only [Bool.and_eq_true] at h
    exact ⟨PE.wk (pe_ifExp (sE t C h.1.1 ok.1).pt (sE x C h.1.2 ok.2.1).pe (sE y C h.2 ok.2.2).pe) fun σ H Q q => le_ife q, pt_never, pw_no (fun _ _ _ z => by cases z)⟩
  | .call x sp as, X, c, a, C, h, ok => by
    have h : (opt (vCall a) fun t => x == t.1 && c.glb x && !oddName x && mEs c as t.2) = true := h
    obtain ⟨⟨y, args⟩, e, hh⟩ := opt_inv h
    obtain ⟨p, pos, rfl⟩ := vCall_inv e
    have h := hh
    simp only [Bool.and_eq_true, Bool.not_eq_true', beq_iff_eq] at h
    obtain ⟨⟨⟨rfl, h1⟩, h2⟩, h3⟩ := h
    have pe : PE X (.Call (.Name x p) args [] pos) (LE X.K (wE (.call x sp as))) := by
      cases args with
      | nil =>
        cases as with
        | nil => exact PE.wk (pe_call0D ok.1 (C.glb x h1) (oddName_of h2).1) fun σ H Q q => q
        | cons e es => exact (Bool.false_ne_true h3).elim
      | cons e es =>
        obtain ⟨hst, es', hes⟩ := args_head h3
        exact PE.wk (pe_callD ok.1 (C.glb x h1) (sEs as C h3 ok.2) (oddName_of h2).1 (star_of hst) (any_star hes)) fun σ H Q q => q
    exact ⟨pe, PT.wk (pt_truD pe fun _ => rfl) fun σ H Q q => q, pw_no (fun _ _ _ z => by cases z)⟩
  | .blt x as, X, c, a, C, h, ok => by
    have h : (opt (vCall a) fun t => c.calm && knownB.contains x && bname x == t.1 && bltName c t.1 && mEs c as t.2 && !t.2.isEmpty) = true := h
    obtain ⟨⟨y, args⟩, e, hh⟩ := opt_inv h
    obtain ⟨p, pos, rfl⟩ := vCall_inv e
    have h := hh
    simp only [Bool.and_eq_true, Bool.not_eq_true', beq_iff_eq, bltName] at h
    obtain ⟨⟨⟨⟨⟨hc, h0⟩, h1⟩, h2, h3⟩, h4⟩, h5⟩ := h
    cases args with
    | nil => simp at h5
    | cons a1 es =>
      obtain ⟨hst, es', hes⟩ := args_head h4
      have pe : PE X (.Call (.Name y p) (a1 :: es) [] pos) (LE X.K (wE (.blt x as))) := PE.wk (pe_bltD (as := []) (by simpa using h0) h1.symm (C.calm hc) (C.glb y h2) (C.blt y h3) (sEs as C h4 ok) (star_of hst) (any_star hes)) fun σ H Q q => q
      exact ⟨pe, PT.wk (pt_truD pe fun _ => rfl) fun σ H Q q => q, pw_no (fun _ _ _ z => by cases z)⟩
  | .isin l t, X, c, a, C, h, ok => by
    have h : (opt (vCall a) fun q => opt (vTwo q.2) fun w => opt (vName w.2) fun z => (q.1 == Str.ofString "isinstance") && bltName c q.1 && ["int", "bool", "str", "tuple", "list", "dict"].contains t && (z == Str.ofString t) && bltName c z && mE c l w.1 && notStar w.1) = true := h
    obtain ⟨⟨y, args⟩, e, hh⟩ := opt_inv h
    obtain ⟨p, pos, rfl⟩ := vCall_inv e
    have h := hh
    obtain ⟨⟨l', zz⟩, e2, hh⟩ := opt_inv h
    obtain rfl := vTwo_inv e2
    have h := hh
    obtain ⟨z, e3, h⟩ := opt_inv h
    obtain ⟨p2, e4⟩ := vName_inv e3
    simp only at e4
    subst e4
    simp only [Bool.and_eq_true, beq_iff_eq, bltName] at h
    obtain ⟨⟨⟨⟨⟨⟨h0, h1, h2⟩, h3⟩, h4⟩, h5, h6⟩, h7⟩, h8⟩ := h
    have pe : PE X (.Call (.Name y p) [l', .Name z p2] [] pos) (LE X.K (wE (.isin l t))) := PE.wk (pe_isinD (sE l C h7 ok).pe h0 (by simpa using h3) h4 (C.glb y h1) (C.glb z h5) (C.blt y h2) (C.blt z h6) (star_of h8)) fun σ H Q q => q
    refine ⟨pe, PT.wk (pt_truD pe fun _ => rfl) fun σ H Q q => ?_, pw_no (fun _ _ _ z => by cases z)⟩
    obtain ⟨ρ, θ, μ, Qd, s, q, f⟩ := q
    refine ⟨ρ, θ, μ, _, s, q, fun r H1 θ1 μ1 w1 g1 h1 => f r H1 θ1 μ1 w1 g1 h1⟩
  | .meth m o as, X, c, a, C, h, ok => by
    have h : (opt (vMeth a) fun t => (if t.2.2.1.isEmpty then ["clear"].contains m else ["append", "extend"].contains m) && t.2.1 == Str.ofString m && baseB t.1 && t.2.2.2 && mE c o t.1 && mEs c as t.2.2.1 && decide (t.2.2.1.length < 30)) = true := h
    obtain ⟨⟨o', m', args, ln⟩, e, hh⟩ := opt_inv h
    obtain ⟨apos, pos, rfl, e2⟩ := vMeth_inv e
    have h := hh
    simp only [Bool.and_eq_true, beq_iff_eq] at h
    obtain ⟨⟨⟨⟨⟨⟨h0, h2⟩, h3⟩, h4⟩, h5⟩, h6⟩, h7⟩ := h
    have hline : (apos.endLine == pos.line) = true := by rw [← e2]; exact h4
    refine ⟨?_, pt_never, pw_no (fun _ _ _ z => by cases z)⟩
    subst h2
    cases args with
    | nil =>
      have : as = .nil := by
        cases as with
        | nil => rfl
        | cons e es => exact (Bool.false_ne_true h6).elim
      subst this
      have h0' : m = "clear" := by simpa using h0
      rcases h0' with rfl
      · exact PE.wk (pe_bm0 PySem.F.plainAttrs_list PySem.F.slot_list_clear PySem.F.type_list_clear meth_clear (sE o C h5 ok.1).pe (anyBase h3) hline) fun σ H Q q => le_meth0 q
    | cons e es =>
      obtain ⟨hst, es', hes⟩ := args_head h6
      have h0' : m = "append" ∨ m = "extend" := by simpa using h0
      have h7' := of_decide_eq_true h7
      rcases h0' with rfl | rfl
      · exact PE.wk (pe_bm PySem.F.plainAttrs_list PySem.F.slot_list_append PySem.F.type_list_append meth_append (sE o C h5 ok.1).pe (sEs as C h6 ok.2) (anyBase h3) (few_of h6 h7') hline (star_of hst) (any_star hes)) fun σ H Q q => le_meth q
      · exact PE.wk (pe_bm PySem.F.plainAttrs_list PySem.F.slot_list_extend PySem.F.type_list_extend meth_extend (sE o C h5 ok.1).pe (sEs as C h6 ok.2) (anyBase h3) (few_of h6 h7') hline (star_of hst) (any_star hes)) fun σ H Q q => le_meth q
  | .rmv o as, X, c, a, C, h, ok => by
    have h : (opt (vMeth a) fun t => c.calm && t.2.1 == Str.ofString "remove" && baseB t.1 && t.2.2.2 && mE c o t.1 && mEs c as t.2.2.1 && decide (t.2.2.1.length < 30) && !t.2.2.1.isEmpty) = true := h
    obtain ⟨⟨o', m', args, ln⟩, e, hh⟩ := opt_inv h
    obtain ⟨apos, pos, rfl, e2⟩ := vMeth_inv e
    have h := hh
    simp only [Bool.and_eq_true, beq_iff_eq] at h
    obtain ⟨⟨⟨⟨⟨⟨⟨hc, h2⟩, h3⟩, h4⟩, h5⟩, h6⟩, h7⟩, h8⟩ := h
    have hline : (apos.endLine == pos.line) = true := by rw [← e2]; exact h4
    obtain ⟨k, hr⟩ := C.room hc
    refine ⟨?_, pt_never, pw_no (fun _ _ _ z => by cases z)⟩
    subst h2
    cases args with
    | nil => exact (Bool.false_ne_true h8).elim
    | cons e es =>
      obtain ⟨hst, es', hes⟩ := args_head h6
      have h7' := of_decide_eq_true h7
      exact PE.wk (pe_bm PySem.F.plainAttrs_list PySem.F.slot_list_remove PySem.F.type_list_remove (rmv_ok hr.units) (sE o C h5 ok.1).pe (sEs as C h6 ok.2) (anyBase h3) (few_of h6 h7') hline (star_of hst) (any_star hes)) fun σ H Q q => le_rmv q
  | .imin as, X, c, a, C, h, ok => by
    have h : (opt (vCall a) fun t => c.calm && (t.1 == Str.ofString "min") && bltName c t.1 && mEs c as t.2 && !t.2.isEmpty) = true := h
    obtain ⟨⟨y, args⟩, e, hh⟩ := opt_inv h
    obtain ⟨p, pos, rfl⟩ := vCall_inv e
    have h := hh
    simp only [Bool.and_eq_true, Bool.not_eq_true', beq_iff_eq, bltName] at h
    obtain ⟨⟨⟨⟨hc, rfl⟩, h2, h3⟩, h4⟩, h5⟩ := h
    obtain ⟨k, hr⟩ := C.room hc
    cases args with
    | nil => simp at h5
    | cons a1 es =>
      obtain ⟨hst, es', hes⟩ := args_head h4
      exact ⟨PE.wk (pe_callB (imin_ok (C.calm hc) (by have := hr.units; show X.A.units + 1 < cLine; omega)) (C.glb _ h2) (C.blt _ h3) (show bootBuiltins (Str.ofString "min") = some (Value.builtin "min") from by decide +kernel) (sEs as C h4 ok) (show (Str.ofString "min") ≠ Str.ofString "__name__" from by decide +kernel) (show ((Str.ofString "min") == ("__debug__" : Str)) = false from by decide +kernel) (star_of hst) (any_star hes)) fun σ H Q q => le_args q, pt_never, pw_no (fun _ _ _ z => by cases z)⟩
  | .dd3 k1 k2 k3 x y z, X, c, a, C, h, ok => by
    have h : (opt (vDict3 a) fun t => (t.1.1 == k1) && (t.1.2.1 == k2) && (t.1.2.2 == k3) && !decide (k1 = k2) && !decide (k1 = k3) && !decide (k2 = k3) && mE c x t.2.1 && mE c y t.2.2.1 && mE c z t.2.2.2) = true := h
    obtain ⟨t, e, hh⟩ := opt_inv h
    obtain ⟨s1, j1, p1, s2, j2, p2, s3, j3, p3, p, rfl, e1, e2, e3⟩ := vDict3_inv e
    have h := hh
    simp only [Bool.and_eq_true, beq_iff_eq, Bool.not_eq_true', decide_eq_false_iff_not] at h
    obtain ⟨⟨⟨⟨⟨⟨⟨⟨h1, h2⟩, h3⟩, h4⟩, h5⟩, h6⟩, h7⟩, h8⟩, h9⟩ := h
    exact ⟨PE.wk (pe_dd3 (e1.trans h1) (e2.trans h2) (e3.trans h3) h4 h5 h6 (sE x C h7 ok.1).pe (sE y C h8 ok.2.1).pe (sE z C h9 ok.2.2).pe) fun σ H Q q => q, pt_never, pw_no (fun _ _ _ z => by cases z)⟩
  | .cat m l r, X, c, a, C, h, ok => by
    have h : (opt (vBin a) fun t => t.2.1 == .Add && mE c l t.1 && mE c r t.2.2) = true := h
    obtain ⟨⟨l', op', r'⟩, e, hh⟩ := opt_inv h
    obtain ⟨pos, rfl⟩ := vBin_inv e
    have h := hh
    simp only [Bool.and_eq_true, beq_iff_eq] at h
    obtain ⟨⟨rfl, h1⟩, h2⟩ := h
    exact ⟨PE.wk (pe_op (cat_ok m) (sE l C h1 ok.1).pe (sE r C h2 ok.2).pe) fun σ H Q q => le_bin q, pt_never, pw_no (fun _ _ _ z => by cases z)⟩
  | .fld cn f o, X, c, a, C, h, ok => by
    have h : (opt (vAttr a) fun t => t.2 == Str.ofString f && baseB t.1 && mE c o t.1) = true := h
    obtain ⟨⟨o', f'⟩, e, hh⟩ := opt_inv h
    obtain ⟨pos, rfl⟩ := vAttr_inv e
    have h := hh
    simp only [Bool.and_eq_true, beq_iff_eq] at h
    obtain ⟨⟨rfl, h2⟩, h3⟩ := h
    have pe := pe_fldD (pos := pos) ok.1 (sE o C h3 ok.2).pe h2
    exact ⟨PE.wk pe fun σ H Q q => q, PT.wk (pt_truD pe fun _ => rfl) fun σ H Q q => q, pw_no (fun _ _ _ z => by cases z)⟩
  | .mth cn m sp o as, X, c, a, C, h, ok => by
    have h : (opt (vMeth a) fun t => t.2.1 == Str.ofString m && baseB t.1 && t.2.2.2 && mE c o t.1 && mEs c as t.2.2.1 && decide (t.2.2.1.length < 30)) = true := h
    obtain ⟨⟨o', m', args, ln⟩, e, hh⟩ := opt_inv h
    obtain ⟨apos, pos, rfl, e2⟩ := vMeth_inv e
    have h := hh
    simp only [Bool.and_eq_true, beq_iff_eq] at h
    obtain ⟨⟨⟨⟨⟨rfl, h3⟩, h4⟩, h5⟩, h6⟩, h7⟩ := h
    have hline : (apos.endLine == pos.line) = true := by rw [← e2]; exact h4
    have pe : PE X (.Call (.Attribute o' (Str.ofString m) apos) args [] pos) (LE X.K (wE (.mth cn m sp o as))) := by
      cases args with
      | nil =>
        have : as = .nil := by
          cases as with
          | nil => rfl
          | cons e es => exact (Bool.false_ne_true h6).elim
        subst this
        exact PE.wk (pe_meth0D ok.1 (sE o C h5 ok.2.1).pe h3 hline) fun σ H Q q => q
      | cons e es =>
        obtain ⟨hst, es', hes⟩ := args_head h6
        exact PE.wk (pe_methD ok.1 (sE o C h5 ok.2.1).pe h3 (sEs as C h6 ok.2.2) (star_of hst) (any_star hes) (few_of h6 (of_decide_eq_true h7)) hline) fun σ H Q q => q
    exact ⟨pe, PT.wk (pt_truD pe fun _ => rfl) fun σ H Q q => q, pw_no (fun _ _ _ z => by cases z)⟩
  | .mk x sp as, X, c, a, C, h, ok => by
    have h : (opt (vCall a) fun t => Str.ofString x == t.1 && c.glb t.1 && !oddName t.1 && mEs c as t.2) = true := h
    obtain ⟨⟨y, args⟩, e, hh⟩ := opt_inv h
    obtain ⟨p, pos, rfl⟩ := vCall_inv e
    have h := hh
    simp only [Bool.and_eq_true, Bool.not_eq_true', beq_iff_eq] at h
    obtain ⟨⟨⟨rfl, h1⟩, h2⟩, h3⟩ := h
    refine ⟨?_, pt_never, pw_no (fun _ _ _ z => by cases z)⟩
    cases args with
    | nil =>
      cases as with
      | nil => exact PE.wk (pe_mk0D ok.1 (C.glb _ h1) (oddName_of h2).1) fun σ H Q q => q
      | cons e es => exact (Bool.false_ne_true h3).elim
    | cons e es =>
      obtain ⟨hst, es', hes⟩ := args_head h3
      exact PE.wk (pe_mkD ok.1 (C.glb _ h1) (sEs as C h3 ok.2) (oddName_of h2).1 (star_of hst) (any_star hes)) fun σ H Q q => q
  | .idx x y, X, c, a, C, h, ok => by
    have h : (opt (vSub a) fun t => mE c x t.1 && mE c y t.2 && plainIxB t.2) = true := h
    obtain ⟨⟨x', y'⟩, e, hh⟩ := opt_inv h
    obtain ⟨pos, rfl⟩ := vSub_inv e
    have h := hh
    simp only [Bool.and_eq_true] at h
    exact ⟨PE.wk (pe_ix idx_ok (sE x C h.1.1 ok.1).pe (sE y C h.1.2 ok.2).pe (plainIx_of h.2)) fun σ H Q q => le_bin q, pt_never, pw_no (fun _ _ _ z => by cases z)⟩
  | .slc m x lo hi, X, c, a, C, h, ok => by
    have h : (opt (vSlc a) fun t => mE c x t.1 && mO c lo t.2.1 && mO c hi t.2.2) = true := h
    obtain ⟨⟨x', lo', hi'⟩, e, hh⟩ := opt_inv h
    obtain ⟨p2, pos, rfl⟩ := vSlc_inv e
    have h := hh
    simp only [Bool.and_eq_true] at h
    exact ⟨PE.wk (pe_slice (slc_ok m) (sE x C h.1.1 ok.1).pe (sO lo C h.1.2 ok.2.1) (sO hi C h.2 ok.2.2)) fun σ H Q q => le_slc q, pt_never, pw_no (fun _ _ _ z => by cases z)⟩
  | .tup as, X, c, a, C, h, ok => by
    have h : (opt (vTup a) fun es => mEs c as es && decide (es.length ≤ 16777216)) = true := h
    obtain ⟨es, e, hh⟩ := opt_inv h
    obtain ⟨k, pos, rfl⟩ := vTup_inv e
    have h := hh
    simp only [Bool.and_eq_true] at h
    refine ⟨PE.wk (pe_tup (sEs as C h.1 ok)) fun σ H Q q => ?_, pt_never, pw_no (fun _ _ _ z => by cases z)⟩
    obtain ⟨ρ, θ, μ, Qd, s, q, f⟩ := q
    refine ⟨ρ, θ, μ, _, s, q, fun ds vs H1 θ1 μ1 w1 g1 r1 h1 => ⟨?_, fun p hp => new_tup w1 (f.mono g1) r1 h1.2 hp⟩⟩
    rw [← r1.length, ← lim_eq]; exact h1.1
  | .lst m as, X, c, a, C, h, ok => by
    have h : (opt (vLst a) fun es => mEs c as es && decide (es.length ≤ 16777216)) = true := h
    obtain ⟨es, e, hh⟩ := opt_inv h
    obtain ⟨pos, rfl⟩ := vLst_inv e
    have h := hh
    simp only [Bool.and_eq_true] at h
    refine ⟨PE.wk (pe_lst (sEs as C h.1 ok)) fun σ H Q q => ?_, pt_never, pw_no (fun _ _ _ z => by cases z)⟩
    obtain ⟨ρ, θ, μ, Qd, s, q, f⟩ := q
    refine ⟨ρ, θ, μ, _, s, q, fun ds vs H1 θ1 μ1 w1 g1 r1 h1 => ⟨?_, fun p hp => newL_ok w1 (f.mono g1) r1 h1.2 hp⟩⟩
    rw [← r1.length, ← lim_eq]; exact h1.1
  | .comp m n tt cap elt it cond, X, c, a, C, h, ok => by
    have h : (opt (vComp a) fun t => c.calm && opt (tgNames tt t.2.1) fun xs => opt (capNames c cap) fun cs => n == xs.length && compC c t.2.2.2.2 (xs ++ cs) cs && zipTg tt it && mI c it t.2.2.1 && mTg (Ctx.of (xs ++ cs) t.2.2.2.2.names c.blts) (List.range n) tt t.2.1 && mE (Ctx.of (xs ++ cs) t.2.2.2.2.names c.blts) elt t.1 && mEs (Ctx.of (xs ++ cs) t.2.2.2.2.names c.blts) cond t.2.2.2.1 && decide (t.2.2.2.1.length ≤ 1)) = true := h
    obtain ⟨⟨elt', tg, iter, ifs, scope⟩, e, hh⟩ := opt_inv h
    obtain ⟨pos, rfl⟩ := vComp_inv e
    have h := hh
    simp only [Bool.and_eq_true] at h
    obtain ⟨hcm, h⟩ := h
    obtain ⟨xs, hxs, h⟩ := opt_inv h
    obtain ⟨cs, hcs, h⟩ := opt_inv h
    simp only [Bool.and_eq_true, beq_iff_eq] at h
    obtain ⟨⟨⟨⟨⟨⟨⟨hn, h1⟩, hz⟩, h2⟩, hg⟩, h3⟩, h4⟩, h5⟩ := h
    have h5 := of_decide_eq_true h5
    subst hn
    exact ⟨PE.wk (pe_comp (C.calm hcm) (compTxt_of C hcs h1) (sI it C h2 ok.2.1 (zipTg_of hg hz)) (fun cl Ca s H ex => pg_of (ctx_comp C hcm h1 cl Ca s H ex) rfl hg) (fun cl Ca s H ex => sTs cond (ctx_comp C hcm h1 cl Ca s H ex) h4 h5 ok.2.2) (fun cl Ca s H ex => (sE elt (ctx_comp C hcm h1 cl Ca s H ex) h3 ok.1).pe) (folded_of (mI_set h2))) fun σ H Q q => le_comp (tgn hxs) q, pt_never, pw_no (fun _ _ _ z => by cases z)⟩
  | .frz x, X, c, a, C, h, ok => by
    have S := sE x C h ok
    exact ⟨PE.wk (pe_frzD S.pe) fun σ H Q q => q, pt_never, fun op vs pos e => fun wh pins s σ H Q I q => by obtain ⟨_, _, _, _, _, q, _⟩ := q; exact q.elim⟩
  | .dget x y, X, c, a, C, h, ok => by
    have h : (opt (vSub a) fun t => c.calm && mE c x t.1 && mE c y t.2 && plainIxB t.2) = true := h
    obtain ⟨⟨x', y'⟩, e, hh⟩ := opt_inv h
    obtain ⟨pos, rfl⟩ := vSub_inv e
    have h := hh
    simp only [Bool.and_eq_true] at h
    obtain ⟨⟨⟨hc, h1⟩, h2⟩, h3⟩ := h
    obtain ⟨k, hr⟩ := C.room hc
    exact ⟨PE.wk (pe_dgetD (by have := hr.units; omega) (sE x C h1 ok.1).pe (sE y C h2 ok.2).pe (plainIx_of h3)) fun σ H Q q => q, pt_never, pw_no (fun _ _ _ z => by cases z)⟩
theorem sEs : ∀ (es : Es) {X : Cx} {c : Ctx} {as : List Expr}, CtxOk X c → mEs c es as = true → okEs (FnRef X) (GblRef X) es → PA X as (LA X.K (wEs es))
  | .nil, X, c, as, C, h, _ => by
    have : as = [] := by simpa [mEs] using h
    subst this
    exact PA.wk pa_nilD fun σ H Q q => q
  | .cons e es, X, c, as, C, h, ok => by
    cases as with
    | nil => simp [mEs] at h
    | cons a as =>
      simp only [mEs, Bool.and_eq_true] at h
      exact PA.wk (pa_consD (sE e C h.1.1 ok.1).pe (sEs es C h.2 ok.2) (star_of h.1.2)) fun σ H Q q => q
theorem sO : ∀ (es : Es) {X : Cx} {c : Ctx} {a : Option Expr}, CtxOk X c → mO c es a = true → okEs (FnRef X) (GblRef X) es → PO X a (LO X.K (wO es))
  | .nil, X, c, a, C, h, _ => by
    cases a with
    | none => exact fun pins s σ H Q I q => po_noneD pins s σ H Q I q
    | some _ => simp [mO] at h
  | .cons e es, X, c, a, C, h, ok => by
    cases a with
    | none => simp [mO] at h
    | some a =>
      cases es with
      | nil => exact fun pins s σ H Q I q => po_someD (sE e C (by simpa [mO] using h) ok.1).pe pins s σ H Q I q
      | cons _ _ => simp [mO] at h
theorem sTs : ∀ (es : Es) {X : Cx} {c : Ctx} {as : List Expr}, CtxOk X c → mEs c es as = true → as.length ≤ 1 → okEs (FnRef X) (GblRef X) es → PIf X as (LT X.K (wTs es))
  | .nil, X, c, as, C, h, _, _ => by
    have : as = [] := by simpa [mEs] using h
    subst this
    intro pins s σ H Q I q
    obtain ⟨ρ, θ, μ, Qd, sm, q, f⟩ := q
    exact pif_nil pins s σ H Q I (f true H θ μ sm.wok Grow.refl q)
  | .cons e es, X, c, as, C, h, hl, ok => by
    cases as with
    | nil => simp [mEs] at h
    | cons a as =>
      simp only [mEs, Bool.and_eq_true] at h
      have : as = [] := by
        cases as with
        | nil => rfl
        | cons _ _ => simp at hl
      subst this
      have : es = .nil := by
        cases es with
        | nil => rfl
        | cons _ _ => simp [mEs] at h
      subst this
      have S := sE e C h.1.1 ok.1
      intro pins s σ H Q I q
      refine pif_one S.pt pins s σ H Q I ?_
      obtain ⟨ρ, θ, μ, Qd, sm, q, f⟩ := q
      exact ⟨ρ, θ, μ, Qd, sm, q, f⟩
theorem sI : ∀ (it : It) {X : Cx} {c : Ctx} {a tg : Expr}, CtxOk X c → mI c it a = true → okI (FnRef X) (GblRef X) it → zipTg (isTup tg) it = true → PI X tg a (LI X.K (wI it))
  | .seq e, X, c, a, tg, C, h, ok, _ => by
    simp only [mI, Bool.and_eq_true] at h
    exact fun pins s σ H R I q => pi_seqD (sE e C h.1 ok).pe pins s σ H R I q
  | .rng as, X, c, a, tg, C, h, ok, _ => by
    have h : (opt (vCall a) fun t => (t.1 == Str.ofString "range") && bltName c t.1 && mEs c as t.2 && (t.2.length == 1)) = true := h
    obtain ⟨⟨y, args⟩, e, hh⟩ := opt_inv h
    obtain ⟨p, pos, rfl⟩ := vCall_inv e
    have h := hh
    simp only [Bool.and_eq_true, Bool.or_eq_true, beq_iff_eq, bltName] at h
    obtain ⟨⟨⟨h0, h1, h2⟩, h3⟩, h4⟩ := h
    have hA := sEs as C h3 ok
    have hl := esLen_eq h3
    match args, h3, h4, hA, hl with
    | [a1], h3, _, hA, hl =>
      have k1 := (args_head h3).1
      exact fun pins s σ H R I q => pi_rng1D h0 (C.glb y h1) (C.blt y h2) hA (by rw [star_of k1]; rfl) pins s σ H R I (by simp only [wI, hl] at q; exact q)
    | [], _, h4, _, _ => simp at h4
    | _ :: _ :: _, _, h4, _, _ => simp at h4
  | .zip l r, X, c, a, tg, C, h, ok, ht => by
    have h : (opt (vCall a) fun t => opt (vTwo t.2) fun w => (t.1 == Str.ofString "zip") && bltName c t.1 && mE c l w.1 && mE c r w.2 && notStar w.1 && notStar w.2) = true := h
    obtain ⟨⟨y, args⟩, e, hh⟩ := opt_inv h
    obtain ⟨p, pos, rfl⟩ := vCall_inv e
    have h := hh
    obtain ⟨⟨l', r'⟩, e2, hh⟩ := opt_inv h
    obtain rfl := vTwo_inv e2
    have h := hh
    simp only [Bool.and_eq_true, beq_iff_eq, bltName] at h
    obtain ⟨⟨⟨⟨⟨h0, h1, h2⟩, h3⟩, h4⟩, h5⟩, h6⟩ := h
    simp only [zipTg] at ht
    cases tg with
    | Tuple es k tp => exact fun pins s σ H R I q => pi_zipD h0 (C.glb _ h1) (C.blt _ h2) (sE l C h3 ok.1).pe (sE r C h4 ok.2).pe (by rw [star_of h5, star_of h6]; rfl) (by rw [star_of h6]; rfl) pins s σ H R I q
    | _ => exact (Bool.false_ne_true ht).elim
end
end DW
end

section
set_option linter.all false
set_option autoImplicit false
set_option maxRecDepth 100000
set_option maxHeartbeats 4000000
/-! DW14: statements, and a def by its body. -/
namespace DW
open PySem PySem.Spec PyProof.Rows L2

theorem swapS_of {t e : Expr} {n : Nat} {env : Env} (h : notComp e = true) : swapsWithSole [t] e n env = pure false := swap_of h
theorem assign_sub {o i : Expr} {pos : Pos} {env : Env} (h : plainIxB i = true) : ∀ v, assign (.Subscript o i pos) env v = (do
      let ov ← holding [v] (eval o env)
      let iv ← holding [v, ov] (eval i env)
      standAt pos
      holding [v, ov, iv] (setItem ov iv v)
      release [v, ov, iv] []) := by
  intro v
  cases i <;> first | rfl | exact (Bool.false_ne_true h).elim
section
variable {X : Cx} {EX : L2.St → XK}
theorem ls_set {i : Nat} {we : WE} {D : Ends} {σ : L2.St} {H : Hp} (h : LS X.K EX (fun Z ρ μ => we ρ μ fun d μ1 => Z.nx (ρ.set i (some d)) μ1) D σ H) : tAsg (LE X.K we) (gName i) D σ H := by
  obtain ⟨ρ, θ, μ, Z, s, h, f⟩ := h
  exact ⟨ρ, θ, μ, _, s, h, fun d v H1 θ1 μ1 w1 g1 r1 h1 => f.nx _ H1 _ θ1 μ1 ((s.grow w1 g1).set r1 i) g1 h1⟩
theorem ls_asg {bnd : D → Rho → (Rho → Prop) → Prop} {we : WE} {D : Ends} {σ : L2.St} {H : Hp} (h : LS X.K EX (fun Z ρ μ => we ρ μ fun d μ1 => bnd d ρ fun ρ' => Z.nx ρ' μ1) D σ H) : tAsg (LE X.K we) (LG X.K bnd) D σ H := by
  obtain ⟨ρ, θ, μ, Z, s, h, f⟩ := h
  exact ⟨ρ, θ, μ, _, s, h, fun d v H1 θ1 μ1 w1 g1 r1 h1 => ⟨d, ρ, θ1, μ1, _, s.grow w1 g1, r1, h1, fun σ' ρ' s' q => f.nx σ' H1 ρ' θ1 μ1 s' g1 q⟩⟩
theorem ls_setIx {wo wi we : WE} {D : Ends} {σ : L2.St} {H : Hp} (h : LS X.K EX (fun Z ρ μ => we ρ μ fun v μ1 => wo ρ μ1 fun x μ2 => wi ρ μ2 fun y μ3 => wSetIx x y v μ3 fun μ4 => Z.nx ρ μ4) D σ H) :
    tAsg (LE X.K we) (gSub (LE X.K wo) (LE X.K wi) (fun o i v H Q => ∃ x y z θ μ k, WOk X.K H θ μ ∧ Rp X.K H θ μ x o ∧ Rp X.K H θ μ y i ∧ Rp X.K H θ μ z v ∧ wSetIx x y z μ k ∧ ∀ H' μ', WOk X.K H' θ μ' → Grow H θ μ H' θ μ' → k μ' → Q H')) D σ H := by
  obtain ⟨ρ, θ, μ, Z, s, h, f⟩ := h
  refine ⟨ρ, θ, μ, _, s, h, fun d v H1 θ1 μ1 w1 g1 r1 h1 => ⟨ρ, θ1, μ1, _, s.grow w1 g1, h1, fun x vx H2 θ2 μ2 w2 g2 r2 h2 => ⟨ρ, θ2, μ2, _, s.grow w2 (g1.trans g2), h2, fun y vy H3 θ3 μ3 w3 g3 r3 h3 => ?_⟩⟩⟩
  exact ⟨x, y, d, θ3, μ3, _, w3, g3.rep r2, r3, (g2.trans g3).rep r1, h3, fun H4 μ4 w4 g4 q => f.nx σ H4 ρ θ3 μ4 (s.grow w4 (((g1.trans g2).trans g3).trans g4)) (((g1.trans g2).trans g3).trans g4) q⟩
theorem swapped_none {tg v : Expr} {env : Env} (h : notTupleE v = true) : swappedStores [tg] v env = pure none := by
  unfold swappedStores
  cases tg <;> first | rfl | (cases v <;> first | rfl | exact (Bool.false_ne_true h).elim)
end

/-- a body's context -/
structure SCtx (X : Cx) (EX : L2.St → XK) (c : Ctx) : Prop extends CtxOk X c where
  mt : Meets X EX
  lv : c.rs = true → ∃ E, Leaves X E ∧ EX = fun _ => E
  st : c.calm = true → X.ex = [] ∧ X.stack = X.env :: X.outer ∧ X.env.frame = some X.env.locals
mutual
theorem sS : ∀ (st : S) {X : Cx} {EX : L2.St → XK} {c : Ctx} {a : Stmt}, SCtx X EX c → mS c st a = true → okS (FnRef X) (GblRef X) st → PS X a (LS X.K EX (wS st))
  | .set i e, X, EX, c, a, C, h, ok => by
    replace h : (opt (uAsg a) fun t => opt (vName t.1) fun x => c.at_ i x && c.loc x && mE c e t.2 && (notComp t.2 || isCompE e)) = true := h
    obtain ⟨⟨tg, v⟩, e1, hh⟩ := opt_inv h
    obtain ⟨x, e2, hh⟩ := opt_inv hh
    obtain ⟨p, rfl⟩ := vName_inv (a := tg) e2
    obtain ⟨pos, rfl⟩ := uAsg_inv e1
    replace h := hh
    simp only [Bool.and_eq_true] at h
    obtain ⟨⟨⟨h1, h2⟩, h3⟩, h4⟩ := h
    obtain ⟨l1, l2⟩ := C.loc x h2
    have hN : X.N.Nodup := by rw [C.N]; exact C.nd
    have hi : X.N[i]? = some x := by rw [C.N]; exact at_some h1
    have S := sE e C.toCtxOk h3 ok
    by_cases hn : notComp v = true
    · exact PS.wk (ps_set hN hi l1 S.pe (swap_of hn) l2) fun D σ H q => ls_set q
    · have h4 : isCompE e = true := by
        rcases Bool.or_eq_true_iff.mp h4 with z | z
        · exact absurd z hn
        · exact z
      cases e with
      | comp m n tt cap elt it cond =>
        have hv : mE c (.comp m n tt cap elt it cond) v = true → ∃ elt' tg iter ifs scope vpos, v = .ListComp elt' [⟨tg, iter, ifs, 0⟩] scope vpos ∧ (c.calm && opt (tgNames tt tg) fun xs => opt (capNames c cap) fun cs => n == xs.length && compC c scope (xs ++ cs) cs && zipTg tt it && mI c it iter && mTg (Ctx.of (xs ++ cs) scope.names c.blts) (List.range n) tt tg && mE (Ctx.of (xs ++ cs) scope.names c.blts) elt elt' && mEs (Ctx.of (xs ++ cs) scope.names c.blts) cond ifs && decide (ifs.length ≤ 1)) = true := fun z => by
          obtain ⟨⟨elt', tg, iter, ifs, scope⟩, e, hh⟩ := opt_inv z
          obtain ⟨vpos, e⟩ := vComp_inv e
          exact ⟨elt', tg, iter, ifs, scope, vpos, e, hh⟩
        obtain ⟨elt', tg, iter, ifs, scope, vpos, rfl, h9⟩ := hv h3
        replace h3 := h9
        have hsw : swapsWith (.ListComp elt' [⟨tg, iter, ifs, 0⟩] scope vpos) (some (.Name x p)) pos.line X.env = pure (X.env.blockKind == .function && X.env.kindOf x == some .local && p.line == (Expr.ListComp elt' [⟨tg, iter, ifs, 0⟩] scope vpos).pos.line && !(scope.names.any fun (n, k) => n == x && (k == .local || k == .cell))) := rfl
        cases hb : (X.env.blockKind == .function && X.env.kindOf x == some .local && p.line == (Expr.ListComp elt' [⟨tg, iter, ifs, 0⟩] scope vpos).pos.line && !(scope.names.any fun (n, k) => n == x && (k == .local || k == .cell))) with
        | false =>
          rw [hb] at hsw
          exact PS.wk (ps_set hN hi l1 S.pe hsw l2) fun D σ H q => ls_set q
        | true =>
          rw [hb] at hsw
          have hl : X.env.scope.names.lookup x = some .local := by
            simp only [Bool.and_eq_true, beq_iff_eq] at hb
            exact hb.1.1.2
          simp only [Bool.and_eq_true] at h3
          obtain ⟨hcm, h3⟩ := h3
          obtain ⟨xs, hxs, h3⟩ := opt_inv h3
          obtain ⟨cs, hcs, h3⟩ := opt_inv h3
          simp only [Bool.and_eq_true, beq_iff_eq] at h3
          obtain ⟨⟨⟨⟨⟨⟨⟨hn, k1⟩, kz⟩, k2⟩, kg⟩, k3⟩, k4⟩, k5⟩ := h3
          have k5 := of_decide_eq_true k5
          subst hn
          have ok' : okE (FnRef X) (GblRef X) elt ∧ okI (FnRef X) (GblRef X) it ∧ okEs (FnRef X) (GblRef X) cond := ok
          refine PS.wk (ps_setcomp (gt := LG X.K fun d r k => bindT (List.range xs.length) tt d r k) (tt := LT X.K (wTs cond)) (te := LE X.K (wE elt)) (wi := LI X.K (wI it)) (C.calm hcm) (compTxt_of C.toCtxOk hcs k1) (sI it C.toCtxOk k2 ok'.2.1 (zipTg_of kg kz)) (fun cl Ca s H ex => pg_of (ctx_comp C.toCtxOk hcm k1 cl Ca s H ex) rfl kg) (fun cl Ca s H ex => sTs cond (ctx_comp C.toCtxOk hcm k1 cl Ca s H ex) k4 k5 ok'.2.2) (fun cl Ca s H ex => (sE elt (ctx_comp C.toCtxOk hcm k1 cl Ca s H ex) k3 ok'.1).pe) (folded_of (mI_set k2)) hN hi hl hsw) fun D σ H q => ?_
          have q := ls_set (we := wE (.comp m xs.length tt cap elt it cond)) q
          exact le_comp (tgn hxs) q
      | _ => cases h4
  | .setT is e, X, EX, c, a, C, h, ok => by
    replace h : (opt (uAsg a) fun t => opt (vTup t.1) fun ts => c.calm && mNames c is ts && mE c e t.2 && notComp t.2 && notTupleE t.2) = true := h
    obtain ⟨⟨tg, v⟩, e1, hh⟩ := opt_inv h
    obtain ⟨ts, e2, hh⟩ := opt_inv hh
    obtain ⟨k, p, rfl⟩ := vTup_inv (a := tg) e2
    obtain ⟨pos, rfl⟩ := uAsg_inv e1
    replace h := hh
    simp only [Bool.and_eq_true] at h
    obtain ⟨⟨⟨⟨hcm, h1⟩, h2⟩, h3⟩, h4⟩ := h
    have S := sE e C.toCtxOk h2 ok
    exact PS.wk (ps_asg S.pe (pg_of C.toCtxOk hcm (is := is) (tt := true) h1) (swapS_of h3) (swapped_none h4) rfl) fun D σ H q => ls_asg q
  | .dput o i e, X, EX, c, a, C, h, ok => by
    replace h : (opt (uAsg a) fun t => opt (vSub t.1) fun u => c.calm && mE c o u.1 && mE c i u.2 && plainIxB u.2 && mE c e t.2 && notComp t.2) = true := h
    obtain ⟨⟨tg, v⟩, e1, hh⟩ := opt_inv h
    obtain ⟨⟨o', i'⟩, e2, hh⟩ := opt_inv hh
    obtain ⟨p, rfl⟩ := vSub_inv (a := tg) e2
    obtain ⟨pos, rfl⟩ := uAsg_inv e1
    replace h := hh
    simp only [Bool.and_eq_true] at h
    obtain ⟨⟨⟨⟨⟨hc, h1⟩, h2⟩, h3⟩, h4⟩, h5⟩ := h
    obtain ⟨k, hr⟩ := C.room hc
    exact PS.wk (ps_dputD (by have := hr.units; omega) (sE o C.toCtxOk h1 ok.1).pe (sE i C.toCtxOk h2 ok.2.1).pe (sE e C.toCtxOk h4 ok.2.2).pe (swap_of h5)) fun D σ H q => q
  | .setIx o i e, X, EX, c, a, C, h, ok => by
    replace h : (opt (uAsg a) fun t => opt (vSub t.1) fun u => mE c o u.1 && mE c i u.2 && plainIxB u.2 && mE c e t.2 && notComp t.2) = true := h
    obtain ⟨⟨tg, v⟩, e1, hh⟩ := opt_inv h
    obtain ⟨⟨o', i'⟩, e2, hh⟩ := opt_inv hh
    obtain ⟨p, rfl⟩ := vSub_inv (a := tg) e2
    obtain ⟨pos, rfl⟩ := uAsg_inv e1
    replace h := hh
    simp only [Bool.and_eq_true] at h
    obtain ⟨⟨⟨⟨h1, h2⟩, h3⟩, h4⟩, h5⟩ := h
    exact PS.wk (ps_asg (sE e C.toCtxOk h4 ok.2.2).pe (pg_sub (sE o C.toCtxOk h1 ok.1).pe (sE i C.toCtxOk h2 ok.2.1).pe setIx_ok (assign_sub h3)) (swapS_of h5) (by cases v <;> rfl) rfl) fun D σ H q => ls_setIx q
  | .exp e, X, EX, c, a, C, h, ok => by
    replace h : (opt (uExp a) fun v => mE c e v && notComp v) = true := h
    obtain ⟨v, e1, hh⟩ := opt_inv h
    obtain ⟨pos, rfl⟩ := uExp_inv e1
    replace h := hh
    simp only [Bool.and_eq_true] at h
    refine PS.wk (ps_expr (sE e C.toCtxOk h.1 ok).pe (swap_of h.2)) fun D σ H q => ?_
    obtain ⟨ρ, θ, μ, Z, s, q, f⟩ := q
    exact ⟨ρ, θ, μ, _, s, q, fun d v H1 θ1 μ1 w1 g1 r1 h1 => f.nx σ H1 ρ θ1 μ1 (s.grow w1 g1) g1 h1⟩
  | .ret e, X, EX, c, a, C, h, ok => by
    replace h : (opt (uRet a) fun o => opt o fun v => mE c e v) = true := h
    obtain ⟨o, e1, hh⟩ := opt_inv h
    obtain ⟨v, rfl, hh⟩ := opt_inv hh
    obtain ⟨pos, rfl⟩ := uRet_inv e1
    replace h := hh
    refine PS.wk (ps_ret (sE e C.toCtxOk h ok).pe) fun D σ H q => ?_
    obtain ⟨ρ, θ, μ, Z, s, q, f⟩ := q
    exact ⟨ρ, θ, μ, _, s, q, f.rt⟩
  | .ite t x y, X, EX, c, a, C, h, ok => by
    replace h : (opt (uIf a) fun u => mE c t u.1 && mSs c x u.2.1 && mSs c y u.2.2) = true := h
    obtain ⟨⟨t', x', y'⟩, e1, hh⟩ := opt_inv h
    obtain ⟨pos, rfl⟩ := uIf_inv e1
    replace h := hh
    simp only [Bool.and_eq_true] at h
    refine PS.wk (ps_if (sE t C.toCtxOk h.1.1 ok.1).pt (sSs x C h.1.2 ok.2.1) (sSs y C h.2 ok.2.2)) fun D σ H q => ?_
    obtain ⟨ρ, θ, μ, Z, s, q, f⟩ := q
    refine ⟨ρ, θ, μ, _, s, q, fun b H1 θ1 μ1 w1 g1 h1 => ?_⟩
    cases b with
    | true => exact ⟨ρ, θ1, μ1, Z, s.grow w1 g1, h1, f.mono g1⟩
    | false => exact ⟨ρ, θ1, μ1, Z, s.grow w1 g1, h1, f.mono g1⟩
  | .for_ is tt it b, X, EX, c, a, C, h, ok => by
    replace h : (opt (uFor a) fun u => c.calm && mTg c is tt u.1 && mI c it u.2.1 && mSs c b u.2.2 && notSet u.2.1 && zipTg tt it) = true := h
    obtain ⟨⟨t', i', b'⟩, e1, hh⟩ := opt_inv h
    obtain ⟨pos, rfl⟩ := uFor_inv e1
    replace h := hh
    simp only [Bool.and_eq_true] at h
    obtain ⟨⟨⟨⟨⟨hcm, h1⟩, h2⟩, h3⟩, h4⟩, hz⟩ := h
    exact PS.wk (ps_forD C.pas (C.calm hcm) (sI it C.toCtxOk h2 ok.1 (zipTg_of h1 hz)) (pg_of C.toCtxOk hcm h1) (sSs b C h3 ok.2) (folded_of h4)) fun D σ H q => q
  | .whl t b, X, EX, c, a, C, h, ok => by
    replace h : (opt (uWhl a) fun u => mE c t u.1 && mSs c b u.2) = true := h
    obtain ⟨⟨t', b'⟩, e1, hh⟩ := opt_inv h
    obtain ⟨pos, rfl⟩ := uWhl_inv e1
    replace h := hh
    simp only [Bool.and_eq_true] at h
    exact PS.wk (ps_whlD C.pas (sE t C.toCtxOk h.1 ok.1).pt (sSs b C h.2 ok.2)) fun D σ H q => q
  | .setF cn f o e, X, EX, c, a, C, h, ok => by
    replace h : (opt (uAsg a) fun t => opt (vAttr t.1) fun u => u.2 == Str.ofString f && mE c o u.1 && mE c e t.2 && notComp t.2) = true := h
    obtain ⟨⟨tg, v⟩, e1, hh⟩ := opt_inv h
    obtain ⟨⟨o', f'⟩, e2, hh⟩ := opt_inv hh
    obtain ⟨p, rfl⟩ := vAttr_inv (a := tg) e2
    obtain ⟨pos, rfl⟩ := uAsg_inv e1
    replace h := hh
    simp only [Bool.and_eq_true, beq_iff_eq] at h
    obtain ⟨⟨⟨rfl, h1⟩, h2⟩, h3⟩ := h
    exact PS.wk (ps_fldD ok.1 (sE o C.toCtxOk h1 ok.2.1).pe (sE e C.toCtxOk h2 ok.2.2).pe (swap_of h3)) fun D σ H q => q
  | .nev, X, EX, c, a, C, h, ok => fun pins s σ H D I q => by
    obtain ⟨ρ, θ, μ, Z, sm, q, f⟩ := q
    exact q.elim
theorem sSs : ∀ (st : Ss) {X : Cx} {EX : L2.St → XK} {c : Ctx} {as : List Stmt}, SCtx X EX c → mSs c st as = true → okSs (FnRef X) (GblRef X) st → PSs X as (LS X.K EX (wSs st))
  | .nil, X, EX, c, as, C, h, _ => by
    have : as = [] := by simpa [mSs] using h
    subst this
    refine PSs.wk pss_nil fun D σ H q => ?_
    obtain ⟨ρ, θ, μ, Z, s, q, f⟩ := q
    exact f.nx σ H ρ θ μ s Grow.refl q
  | .cons s r, X, EX, c, as, C, h, ok => by
    cases as with
    | nil => simp [mSs] at h
    | cons a as =>
      simp only [mSs, Bool.and_eq_true] at h
      refine PSs.wk (pss_cons (sS s C h.1 ok.1) (sSs r C h.2 ok.2)) fun D σ H q => ?_
      obtain ⟨ρ, θ, μ, Z, sm, q, f⟩ := q
      refine ⟨ρ, θ, μ, _, sm, q, ⟨fun σ' H' ρ' θ' μ' s' g' z => ⟨ρ', θ', μ', Z, s', z, f.mono g'⟩, f.rt, f.bk, f.ct, f.xc⟩⟩
end
end DW
end

section
set_option linter.all false
set_option autoImplicit false
set_option maxRecDepth 100000
set_option maxHeartbeats 2000000
/-! DW15: a def by its body; the law's last step. -/
namespace DW
open PySem PySem.Spec PyProof.Rows L2

/-- the module as it stands behind its top -/
structure Top where
  P : Program
  w : World
  K : PySem.W.Frag
  mg : Str → Option Value
  base : Heap
noncomputable def FnTop (T : Top) (k : Nat) : Rf → DSp → Prop
  | .fn x, sp => ∃ (fa : Addr) (fd : FuncData) (ps : List Str), T.mg x = some (.ref fa) ∧ PySem.W.keepIn T.K (.ref fa) = true ∧ Binds T.K fd ps [] ∧ FnOk T.P T.w T.K T.mg T.base (CXE T.P T.w) k fa fd ps (low T.K sp)
  | .mth c m, sp => ∃ (C fa : Addr) (fd : FuncData) (ps : List Str), PySem.W.nsIn T.K mainGlobals (Str.ofString c) = some (some (.ref C)) ∧ Cls T.K C ∧ Meth T.K C (Str.ofString m) fa ∧ Binds T.K fd ps [] ∧ FnOk T.P T.w T.K T.mg T.base (CXE T.P T.w) k fa fd ps (low T.K sp)
  | .mk c, sp => ∃ (C fa : Addr) (fd : FuncData) (ps : List Str) (j : Nat), PySem.W.nsIn T.K mainGlobals (Str.ofString c) = some (some (.ref C)) ∧ T.mg (Str.ofString c) = some (.ref C) ∧ Mk T.K C fa ∧ Binds T.K fd ps [] ∧ FnOk T.P T.w T.K T.mg T.base (CXE T.P T.w) j fa fd ps (low T.K sp) ∧ j + 1 ≤ k
  | .fld c f, _ => ∃ C : Addr, PySem.W.nsIn T.K mainGlobals (Str.ofString c) = some (some (.ref C)) ∧ Cls T.K C ∧ NoAttr T.K C (Str.ofString f)
  | .fnX x sp, _ => ∃ (fa : Addr) (fd : FuncData) (ps : List Str), T.mg x = some (.ref fa) ∧ PySem.W.keepIn T.K (.ref fa) = true ∧ Binds T.K fd ps [] ∧ FnOk T.P T.w T.K T.mg T.base (CXE T.P T.w) k fa fd ps (lowX T.K sp)
  | .mthX c m sp, _ => ∃ (C fa : Addr) (fd : FuncData) (ps : List Str), PySem.W.nsIn T.K mainGlobals (Str.ofString c) = some (some (.ref C)) ∧ Cls T.K C ∧ Meth T.K C (Str.ofString m) fa ∧ Binds T.K fd ps [] ∧ FnOk T.P T.w T.K T.mg T.base (CXE T.P T.w) k fa fd ps (lowX T.K sp)
  | .mkX c sp, _ => ∃ (C fa : Addr) (fd : FuncData) (ps : List Str) (j : Nat), PySem.W.nsIn T.K mainGlobals (Str.ofString c) = some (some (.ref C)) ∧ T.mg (Str.ofString c) = some (.ref C) ∧ Mk T.K C fa ∧ Binds T.K fd ps [] ∧ FnOk T.P T.w T.K T.mg T.base (CXE T.P T.w) j fa fd ps (lowX T.K sp) ∧ j + 1 ≤ k
  | .rse c, _ => RseAt T.K T.mg c
  | .hdl P tab, _ => HdlAt T.K T.mg P tab
  | .isx tt ts tab, _ => IsxAt T.K T.mg tt ts tab
noncomputable def GblTop (T : Top) (x : Str) (d : D) : Prop := ∃ (u : Value) (v : V), T.mg x = some u ∧ RelV v u ∧ ∀ H θ μ, Rp T.K H θ μ d v
theorem FnTop.up {T : Top} {j k : Nat} {x : Rf} {sp : DSp} (h : FnTop T j x sp) (hk : j ≤ k) : FnTop T k x sp := by
  cases x with
  | fn x =>
    obtain ⟨fa, fd, ps, h1, h2, h3, h4⟩ := h
    exact ⟨fa, fd, ps, h1, h2, h3, h4.mono hk⟩
  | mth c m =>
    obtain ⟨C, fa, fd, ps, h0, h1, h2, h3, h4⟩ := h
    exact ⟨C, fa, fd, ps, h0, h1, h2, h3, h4.mono hk⟩
  | mk c =>
    obtain ⟨C, fa, fd, ps, i, h0, h1, h2, h3, h4, h5⟩ := h
    exact ⟨C, fa, fd, ps, i, h0, h1, h2, h3, h4, Nat.le_trans h5 hk⟩
  | fld c f => exact h
  | fnX x sp =>
    obtain ⟨fa, fd, ps, h1, h2, h3, h4⟩ := h
    exact ⟨fa, fd, ps, h1, h2, h3, h4.mono hk⟩
  | mthX c m sp =>
    obtain ⟨C, fa, fd, ps, h0, h1, h2, h3, h4⟩ := h
    exact ⟨C, fa, fd, ps, h0, h1, h2, h3, h4.mono hk⟩
  | mkX c sp =>
    obtain ⟨C, fa, fd, ps, i, h0, h1, h2, h3, h4, h5⟩ := h
    exact ⟨C, fa, fd, ps, i, h0, h1, h2, h3, h4, Nat.le_trans h5 hk⟩
  | rse c => exact h
  | hdl P tab => exact h
  | isx tt ts tab => exact h
theorem gbl_int {T : Top} {x : Str} {i : Int} {t : Tok} (h : T.mg x = some (.int i t)) : GblTop T x (.int i) := ⟨_, .int i, h, ⟨t, rfl⟩, fun _ _ _ => rp_int⟩

theorem sim_start {K : PySem.W.Frag} {H : Hp} {θ : List Addr} {μ : Mem} {ds : List D} {vs : List V} (N : List Str) (w : WOk K H θ μ) (r : Rps K H θ μ ds vs) : Sim K (L2.start N vs) H (startD N ds) θ μ := by
  have hl := r.length
  refine ⟨w, by simp [L2.start, startD, hl], fun i d h => ?_⟩
  unfold startD at h
  by_cases hi : i < ds.length
  · rw [List.getElem?_append_left (by simpa using hi), List.getElem?_map] at h
    cases e : ds[i]? with
    | none => rw [e] at h; cases h
    | some d' =>
      rw [e] at h; cases h
      obtain ⟨v, e1, e2⟩ := r.get e
      refine ⟨v, ?_, e2⟩
      unfold L2.start
      rw [List.getElem?_append_left (by simpa using (hl ▸ hi)), List.getElem?_map, e1]; rfl
  · rw [List.getElem?_append_right (by simpa using hi), List.getElem?_replicate] at h
    split at h <;> cases h

section
variable {T : Top} {k : Nat} {x qual : Str} {st : Stmt} {f : Addr} {fd : FuncData} {N ps blts : List Str} {i : Ss} {sp : DSp} {spx : DSpX}
theorem body_ok {spL : Sp} (F : Fun T.K x qual st f fd) (S : FnScope N ps (defScope st)) (hmt : mSs (Ctx.of N (defScope st).names blts) i (defBody st) = true) (hblt : ∀ y, blts.contains y = true → T.mg y = none)
    (ok : okSs (FnTop T k) (GblTop T) i) (len : ∀ vs H Q E, spL vs H Q E → vs.length = ps.length)
    (hrun : ∀ vs H Q E, spL vs H Q E → ∃ ds θ μ Z, WOk T.K H θ μ ∧ Rps T.K H θ μ ds vs ∧ wSs i Z (startD N ds) μ ∧ FinS T.K (fun _ => E) H θ μ Z { nx := fun _ H' => Q .non H', rt := Q }) :
    FnOk T.P T.w T.K T.mg T.base (CXE T.P T.w) (k + 1) f fd ps spL := by
  obtain ⟨oc, od, kV, doc, pm, an, cdv, ct, osl, rfl, lk, hcd⟩ := F.ex
  refine fn_of lk hcd S len fun A outer s H vs Q E hr h => ?_
  obtain ⟨ds, θ, μ, Z, wok, r, hs, fin⟩ := hrun vs H Q E h
  have L := leaves_cx (P := T.P) (w := T.w) (K := T.K) (mg := T.mg) (base := T.base) (N := N) (qual := qual) (scope := defScope st) (f := f) (cd := cdv) (A := A) (outer := outer) (s := s) (H := H) (E := E)
  have C : SCtx (cxOf (CXE T.P T.w) T.P T.w T.K T.mg T.base N qual (defScope st) f cdv A outer s H E) (fun _ => E) (Ctx.of N (defScope st).names blts) := by
    refine ⟨⟨rfl, S.nd, fun y hy => ?_, fun y hy => ?_, fun y hy => ?_, fun y hy => ?_, fun y hy => hy, fun y hy => hblt y hy, fun _ => rfl, fun _ => ⟨k, hr⟩, PassesOwn.leaving⟩, meets_of L, fun _ => ⟨E, L, rfl⟩, fun _ => ⟨rfl, rfl, rfl⟩⟩
    · unfold Ctx.vis at hy
      split at hy
      · rename_i z; exact .inl z
      · rename_i z; exact .inr (.inl z)
      · rename_i z; exact .inr (.inr z)
      · cases hy
    · unfold Ctx.loc at hy
      split at hy
      · rename_i z; exact ⟨.inl z, .inl rfl⟩
      · rename_i z; exact ⟨.inr z, .inl rfl⟩
      · cases hy
    · have hy' : (defScope st).names.lookup y = some .local := by simpa [isLocal] using hy
      exact hy'
    · unfold Ctx.glb at hy
      split at hy
      · rename_i z; exact z
      · cases hy
  refine ⟨LS T.K (fun _ => E) (wSs i), sSs i C hmt (okSs.mono i (fun y sp' z => ?_) (fun y d z => z) ok), ?_⟩
  · cases y with
    | fn y =>
      obtain ⟨fa, fd', ps', h1, h2, h3, h4⟩ := z
      exact ⟨fa, fd', ps', k, h1, h2, h3, h4, hr⟩
    | mth c m =>
      obtain ⟨C', fa, fd', ps', h0, h1, h2, h3, h4⟩ := z
      exact ⟨C', fa, fd', ps', k, h0, h1, h2, h3, h4, hr⟩
    | mk c =>
      obtain ⟨C', fa, fd', ps', j, h0, h1, h2, h3, h4, h5⟩ := z
      exact ⟨C', fa, fd', ps', j, h0, h1, h2, h3, h4, hr.mono h5⟩
    | fld c f => exact z
    | fnX y sp =>
      obtain ⟨fa, fd', ps', h1, h2, h3, h4⟩ := z
      exact ⟨fa, fd', ps', k, h1, h2, h3, h4, hr⟩
    | mthX c m sp =>
      obtain ⟨C', fa, fd', ps', h0, h1, h2, h3, h4⟩ := z
      exact ⟨C', fa, fd', ps', k, h0, h1, h2, h3, h4, hr⟩
    | mkX c sp =>
      obtain ⟨C', fa, fd', ps', j, h0, h1, h2, h3, h4, h5⟩ := z
      exact ⟨C', fa, fd', ps', j, h0, h1, h2, h3, h4, hr.mono h5⟩
    | rse c => exact z
    | hdl P tab => exact z
    | isx tt ts tab => exact z
  · exact ⟨startD N ds, θ, μ, Z, sim_start N wok r, hs, fin⟩
theorem fn_okF (F : Fun T.K x qual st f fd) (S : FnScope N ps (defScope st)) (hmt : mSs (Ctx.of N (defScope st).names blts) i (defBody st) = true) (hblt : ∀ y, blts.contains y = true → T.mg y = none)
    (ok : okSs (FnTop T k) (GblTop T) i) (har : ∀ ds μ Q, sp ds μ Q → ds.length = ps.length) (hk : Keeps N i sp) : FnOk T.P T.w T.K T.mg T.base (CXE T.P T.w) (k + 1) f fd ps (low T.K sp) := by
  refine body_ok F S hmt hblt ok (fun vs H Q E h => ?_) fun vs H Q E h => ?_
  · obtain ⟨ds, θ, μ, Qd, wok, r, hs, _⟩ := h
    rw [← r.length]; exact har ds μ Qd hs
  · obtain ⟨ds, θ, μ, Qd, wok, r, hs, fin⟩ := h
    refine ⟨ds, θ, μ, topZ Qd, wok, r, hk ds μ Qd hs, ⟨fun σ' H' ρ' θ' μ' s' g z => ?_, fin, fun _ _ _ _ _ _ _ z => z.elim, fun _ _ _ _ _ _ _ z => z.elim, fun _ _ _ _ _ _ _ _ _ _ z => z.elim⟩⟩
    exact fin .non .non H' θ' μ' s'.wok g rp_non z
theorem fn_ok {y : Str} (F : Fun T.K x qual st f fd) (S : FnScope N ps (defScope st)) (hmt : mSs (Ctx.of N (defScope st).names blts) i (defBody st) = true) (hblt : ∀ y, blts.contains y = true → T.mg y = none)
    (ok : okSs (FnTop T k) (GblTop T) i) (har : ∀ ds μ Q, sp ds μ Q → ds.length = ps.length) (hk : Keeps N i sp) (hm : T.mg y = some (.ref f)) (hb : Binds T.K fd ps []) : FnTop T (k + 1) (.fn y) sp :=
  ⟨f, fd, ps, hm, F.kp, hb, fn_okF F S hmt hblt ok har hk⟩
end

theorem reps_ints {K : PySem.W.Frag} {H : Hp} {θ : List Addr} {L : Addr → Prop} : ∀ ns : List Int, Reps K H θ L (ns.map D.int) (ns.map V.int)
  | [] => Reps.nil
  | n :: ns => Reps.cons (by unfold Rep; rfl) (reps_ints ns)
theorem law_start {K : PySem.W.Frag} {H : Hp} {a : Addr} {ns : List Int} (hl : ns.length ≤ 63) (hO : Only H) (hS : SqL K H a (ns.map V.int)) : low K spLaw [.ref a] H (fun v _ => v = .bl true) fun _ _ _ => False := by
  refine ⟨[.ro (ns.map D.int)], [], [], fun d _ => d = .bl true, ⟨rfl, fun m n b h => by simp at h, fun n b h => by simp at h, fun n c b h => by simp at h⟩, Reps.one ?_, ⟨ns, rfl, hl, fun _ => rfl⟩, fun d v H' θ' μ' w g r q => ?_⟩
  · unfold Rep
    refine ⟨a, ns.map V.int, rfl, ?_, reps_ints ns⟩
    rcases hS with (h | ⟨o, h⟩) | h
    · rcases hO a with z | ⟨o, xs, z⟩
      · rw [h] at z; cases z
      · rw [h] at z; cases z
    · exact .inl ⟨o, h, fun ⟨n, c, e, _⟩ => by simp at e⟩
    · exact .inr h
  · subst q; exact inv_bl r
theorem law_walk {l : PySem.W.OpenLaw} {k : Nat} {q : Program} {loose : List Str} {XP : (Str → Option Value) → Heap → Prop} {YP : World → Heap → Prop} {d : DefRec} {K : Params → PySem.W.Frag} (hn : l.most = some 63) (hk : k ≤ 200) (hdf : d.params.defaults = [])
    (hY : ∀ (w : World) (h : Heap), YP w h → (K w.params).In h)
    (F : ∀ (w : World) (mg : Str → Option Value) (fa : Addr) (h : Heap), (K w.params).In h → h.Ns mainGlobals mg → mg d.name = some (.ref fa) →
      ∃ fd : FuncData, (∀ (s : Shared) (u : Value), BindsTo s fd ⟨[u], []⟩ [("script", u)]) ∧ ∀ base : Heap, (K w.params).In base → base.Ns mainGlobals mg → FnOk l.prog w (K w.params) mg base (CXE l.prog w) k fa fd ["script"] (low (K w.params) spLaw)) :
    PySem.W.WalkO q loose XP YP l.row.toRowW d [] (fun f vs => PySem.call f vs) := by
  have hr : Room 200 callerA := ⟨rfl, by decide, by decide⟩
  exact L2.walk_of (n := 63) (k := k) (x := "script") (CX := fun w => CXE l.prog w) (sp := fun w => low (K w.params) spLaw) hn (by decide) hdf (hr.mono hk) hY F (fun _ _ a ns hl hO hS => law_start hl hO hS) fun w _ _ _ _ z => by
    obtain ⟨_, _, _, _, _, _, _, _, _, q⟩ := z
    exact q

/-! ### what the top has written -/
section
variable {α : Type} {P : List α → Prop}
theorem len1 (h : ∀ a, P [a]) : ∀ us : List α, us.length = 1 → P us
  | [a], _ => h a
theorem len2 (h : ∀ a b, P [a, b]) : ∀ us : List α, us.length = 2 → P us
  | [a, b], _ => h a b
end
noncomputable def DefAt (K : PySem.W.Frag) (x : Str) (st : Stmt) : Prop := ∃ (f : Addr) (fd : FuncData), PySem.W.nsIn K mainGlobals x = some (some (.ref f)) ∧ Fun K x x st f fd
theorem defAt_mk {K : PySem.W.Frag} {x : Str} {st : Stmt} {f : Addr} {oc : Value} {od an : Option Addr} {osl : Array (Option Value)} {kV doc pm cdv ct : Value} (a : PySem.W.nsIn K mainGlobals x = some (some (.ref f)))
    (l : K.lookup f = some ⟨oc, od, .func (PySem.W.fnOf x x (defArgs st) (defBody st) (defScope st) .none kV doc pm an cdv ct), osl⟩) (c : PySem.W.codeIn K cdv x = true) (k : PySem.W.keepIn K (.ref f) = true) : DefAt K x st := ⟨f, _, a, fun_mk l c k⟩
theorem intAt_mk {K : PySem.W.Frag} {x : Str} {i : Int} {t : Tok} (h : PySem.W.nsIn K mainGlobals x = some (some (.int i t))) : ∃ t, PySem.W.nsIn K mainGlobals x = some (some (.int i t)) := ⟨t, h⟩
noncomputable def FreeAt (K : PySem.W.Frag) : List Str → Prop
  | [] => True
  | x :: xs => PySem.W.nsIn K mainGlobals x = some none ∧ FreeAt K xs
theorem free_of {K : PySem.W.Frag} {h : Heap} {mg : Str → Option Value} (X : K.In h) (G : h.Ns mainGlobals mg) : ∀ {xs : List Str}, FreeAt K xs → ∀ y, xs.contains y = true → mg y = none
  | [], _, y, h => by simp at h
  | x :: xs, F, y, h => by
    by_cases e : y = x
    · subst e; exact PySem.W.mg_none_of X G F.1
    · exact free_of X G F.2 y (by simpa [e] using h)
theorem fn_at {T : Top} {h : Heap} {k : Nat} {x : Str} {st : Stmt} {N ps blts : List Str} {i : Ss} {sp : DSp} (D : DefAt T.K x st) (X : T.K.In h) (G : h.Ns mainGlobals T.mg) (S : FnScope N ps (defScope st)) (hmt : mSs (Ctx.of N (defScope st).names blts) i (defBody st) = true) (hblt : ∀ y, blts.contains y = true → T.mg y = none)
    (hbd : ∀ (kV doc pm : Value) (an : Option Addr) (cdv ct : Value) (us : List Value), us.length = ps.length → bindArgs (PySem.W.fnOf x x (defArgs st) (defBody st) (defScope st) .none kV doc pm an cdv ct) ⟨us, []⟩ = pure (ps.zip us))
    (har : ∀ ds μ Q, sp ds μ Q → ds.length = ps.length) (hk : Keeps N i sp) (ok : okSs (FnTop T k) (GblTop T) i) : FnTop T (k + 1) (.fn x) sp := by
  obtain ⟨f, fd, a, F⟩ := D
  exact fn_ok F S hmt hblt ok har hk (PySem.W.mg_of X G a) (F.binds hbd)
/-! ### a def that calls itself: specs by depth -/
/-! ### classes -/
noncomputable def ClsAt (K : PySem.W.Frag) (c : String) : Prop := ∃ C : Addr, PySem.W.nsIn K mainGlobals (Str.ofString c) = some (some (.ref C)) ∧ Cls K C ∧ PySem.W.makesIn K C = true ∧ PySem.W.keepIn K (.ref C) = true
theorem clsAt_mk {K : PySem.W.Frag} {c : String} {C : Addr} (a : PySem.W.nsIn K mainGlobals (Str.ofString c) = some (some (.ref C))) (pg : PySem.W.plainGet K C Str.empty = true) (hd : PySem.W.hasDictIn K C = true) (po : PySem.W.plainOver K C = true)
    (sa : PySem.W.findIn K (.ref C) "__setattr__" = some (some (.builtin "object.__setattr__"))) (mk : PySem.W.makesIn K C = true) (kc : PySem.W.keepIn K (.ref C) = true) : ClsAt K c := ⟨C, a, ⟨pg, hd, po, sa⟩, mk, kc⟩
noncomputable def NoAt (K : PySem.W.Frag) (c f : String) : Prop := ∃ C : Addr, PySem.W.nsIn K mainGlobals (Str.ofString c) = some (some (.ref C)) ∧ PySem.W.findIn K (.ref C) (Str.ofString f) = some none
theorem noAt_mk {K : PySem.W.Frag} {c f : String} {C : Addr} (a : PySem.W.nsIn K mainGlobals (Str.ofString c) = some (some (.ref C))) (n : PySem.W.findIn K (.ref C) (Str.ofString f) = some none) : NoAt K c f := ⟨C, a, n⟩
theorem fld_at {T : Top} {k : Nat} {c f : String} (Cl : ClsAt T.K c) (N : NoAt T.K c f) : FnTop T k (.fld c f) spN := by
  obtain ⟨C, h1, h2, _⟩ := Cl
  obtain ⟨C', h3, h4⟩ := N
  rw [h1] at h3; cases h3
  exact ⟨C, h1, h2, h4⟩
noncomputable def MthAt (K : PySem.W.Frag) (c m : String) (q : Str) (st : Stmt) : Prop := ∃ (C f : Addr) (fd : FuncData), PySem.W.nsIn K mainGlobals (Str.ofString c) = some (some (.ref C)) ∧ PySem.W.findIn K (.ref C) (Str.ofString m) = some (some (.ref f)) ∧ PySem.W.isFn K (.ref f) = true ∧ Fun K (Str.ofString m) q st f fd
theorem mthAt_mk {K : PySem.W.Frag} {c m : String} {q : Str} {st : Stmt} {C f : Addr} {oc : Value} {od an : Option Addr} {osl : Array (Option Value)} {kV doc pm cdv ct : Value} (a : PySem.W.nsIn K mainGlobals (Str.ofString c) = some (some (.ref C)))
    (b : PySem.W.findIn K (.ref C) (Str.ofString m) = some (some (.ref f))) (i : PySem.W.isFn K (.ref f) = true) (l : K.lookup f = some ⟨oc, od, .func (PySem.W.fnOf (Str.ofString m) q (defArgs st) (defBody st) (defScope st) .none kV doc pm an cdv ct), osl⟩)
    (cd : PySem.W.codeIn K cdv q = true) (k : PySem.W.keepIn K (.ref f) = true) : MthAt K c m q st := ⟨C, f, _, a, b, i, fun_mk l cd k⟩
section
variable {T : Top} {k : Nat} {c m : String} {q : Str} {st : Stmt} {N ps blts : List Str} {i : Ss} {sp : DSp} {spx : DSpX}
theorem mth_at (D : MthAt T.K c m q st) (Cl : ClsAt T.K c) (S : FnScope N ps (defScope st)) (hmt : mSs (Ctx.of N (defScope st).names blts) i (defBody st) = true) (hblt : ∀ y, blts.contains y = true → T.mg y = none)
    (hbd : ∀ (kV doc pm : Value) (an : Option Addr) (cdv ct : Value) (us : List Value), us.length = ps.length → bindArgs (PySem.W.fnOf (Str.ofString m) q (defArgs st) (defBody st) (defScope st) .none kV doc pm an cdv ct) ⟨us, []⟩ = pure (ps.zip us))
    (har : ∀ ds μ Q, sp ds μ Q → ds.length = ps.length) (hk : Keeps N i sp) (ok : okSs (FnTop T k) (GblTop T) i) : FnTop T (k + 1) (.mth c m) sp := by
  obtain ⟨C, f, fd, h1, h2, h3, F⟩ := D
  obtain ⟨C', h4, h5, _⟩ := Cl
  rw [h1] at h4; cases h4
  exact ⟨C, f, fd, ps, h1, h5, ⟨h2, h3, F.kp⟩, F.binds hbd, fn_okF F S hmt hblt ok har hk⟩
theorem mk_at {h : Heap} (X : T.K.In h) (G : h.Ns mainGlobals T.mg) (D : MthAt T.K c "__init__" q st) (Cl : ClsAt T.K c) (S : FnScope N ps (defScope st)) (hmt : mSs (Ctx.of N (defScope st).names blts) i (defBody st) = true) (hblt : ∀ y, blts.contains y = true → T.mg y = none)
    (hbd : ∀ (kV doc pm : Value) (an : Option Addr) (cdv ct : Value) (us : List Value), us.length = ps.length → bindArgs (PySem.W.fnOf (Str.ofString "__init__") q (defArgs st) (defBody st) (defScope st) .none kV doc pm an cdv ct) ⟨us, []⟩ = pure (ps.zip us))
    (har : ∀ ds μ Q, sp ds μ Q → ds.length = ps.length) (hk : Keeps N i sp) (ok : okSs (FnTop T k) (GblTop T) i) : FnTop T (k + 2) (.mk c) sp := by
  obtain ⟨C, f, fd, h1, h2, h3, F⟩ := D
  obtain ⟨C', h4, h5, h6, h7⟩ := Cl
  rw [h1] at h4; cases h4
  exact ⟨C, f, fd, ps, k + 1, h1, PySem.W.mg_of X G h1, ⟨h6, h2, h3, h7⟩, F.binds hbd, fn_okF F S hmt hblt ok har hk, Nat.le_refl _⟩
end
/-! ### error classes -/
section
variable {K : PySem.W.Frag} {h : Heap} {mg : Str → Option Value} (X : K.In h) (G : h.Ns mainGlobals mg)
include X G
end
end DW
end

section
set_option linter.all false
set_option autoImplicit false
set_option maxRecDepth 100000
set_option exponentiation.threshold 1000
/-! BX: the drawing of items from a script, as all the laws have it: what each def is wanted for, and that its body does it. -/
namespace DW
open PySem

noncomputable def tags : List (List Nat) := [[], [], [97], [98], [97, 98], [98, 97], [122], [97, 98, 99, 100, 101, 102, 103, 104]]
noncomputable def keyOk (k : Int) : Prop := -(10 ^ 40) < k ∧ k < 10 ^ 40
noncomputable def ItOk (x : Itm) : Prop := keyOk x.1 ∧ x.2 ∈ tags
noncomputable def isBox (μ : Mem) (n : Nat) : Prop := ∃ b : Int, μ[n]? = some (.lst [.int b])
noncomputable def bx (μ : Mem) (n : Nat) (b : Int) : Mem := μ.set n (.lst [.int b])

noncomputable def spL_cell : DSp := fun ds μ Q => match ds with
  | [.ro xs, .int k] => ∃ ns : List Int, xs = ns.map D.int ∧ ns.length < 1000 ∧ 0 ≤ k ∧ ∀ c, Q (.int c) μ
  | _ => False
noncomputable def spL_mix : DSp := fun ds μ Q => match ds with
  | [.int c, .int k] => 0 ≤ k ∧ k < 1000 ∧ ∀ r, 0 ≤ r → r < 142857144 → Q (.int r) μ
  | _ => False
noncomputable def spL_box : DSp := fun ds μ Q => match ds with
  | [.ro xs, .int k] => ∃ ns : List Int, xs = ns.map D.int ∧ ns.length < 1000 ∧ 0 ≤ k ∧ ∀ b, Q (.loc μ.length) (μ ++ [.lst [.int b]])
  | _ => False
noncomputable def spL_take : DSp := fun ds μ Q => match ds with
  | [.loc n, .int m] => isBox μ n ∧ 0 < m ∧ m < 2 ^ 500 ∧ ∀ d b, 0 ≤ d → d < m → Q (.int d) (bx μ n b)
  | _ => False
noncomputable def spL_tag : DSp := fun ds μ Q => match ds with
  | [.loc n] => isBox μ n ∧ ∀ t b, t ∈ tags → Q (.str t) (bx μ n b)
  | _ => False
noncomputable def spL_key : DSp := fun ds μ Q => match ds with
  | [.loc n] => isBox μ n ∧ ∀ k b, keyOk k → Q (.int k) (bx μ n b)
  | _ => False
noncomputable def spL_row : DSp := fun ds μ Q => match ds with
  | [.loc n, .int m] => isBox μ n ∧ 0 ≤ m ∧ m < 1000 ∧ ∀ (r : List Itm) b, (r.length : Int) ≤ m → (∀ x ∈ r, ItOk x) → Q (.lst (r.map itD)) (bx μ n b)
  | _ => False
noncomputable def nL_cell : List Str := ["script", "k"]
noncomputable def iL_cell : Ss := (.cons (.ite (.cmp .Lt (.var 1) (.blt "len" (.cons (.var 0) .nil))) (.cons (.ret (.idx (.var 0) (.var 1))) .nil) .nil) (.cons (.ret (.cst (.int 0))) .nil))
noncomputable def nL_mix : List Str := ["cell", "k", "some", "stir"]
noncomputable def iL_mix : Ss := (.cons (.set 2 (.lst false (.cons (.cst (.int 48271)) (.cons (.cst (.int 69621)) (.cons (.cst (.int 16807)) (.cons (.cst (.int 39373)) (.cons (.cst (.int 30269)) (.cons (.cst (.int 40014)) (.cons (.cst (.int 40692)) (.cons (.cst (.int 50021)) (.cons (.cst (.int 61687)) (.cons (.cst (.int 71993)) (.cons (.cst (.int 83869)) (.cons (.cst (.int 95561)) (.cons (.cst (.int 30307)) .nil))))))))))))))) (.cons (.set 3 (.bin .Add (.bin .Add (.bin .Mult (.bin .Add (.bin .Mod (.var 0) (.cst (.int 2147483647))) (.cst (.int 12345))) (.idx (.var 2) (.bin .Mod (.var 1) (.cst (.int 13))))) (.bin .Mult (.cst (.int 977)) (.var 1))) (.bin .Mult (.cst (.int 7919)) (.bin .FloorDiv (.var 1) (.cst (.int 13)))))) (.cons (.set 3 (.bin .Mod (.var 3) (.cst (.int 1000000007)))) (.cons (.ret (.bin .FloorDiv (.bin .Mod (.bin .Add (.bin .Mult (.var 3) (.var 3)) (.bin .Mult (.cst (.int 48271)) (.var 1))) (.cst (.int 1000000007))) (.cst (.int 7)))) .nil))))
noncomputable def nL_box : List Str := ["script", "k", "cell", "number", "j"]
noncomputable def iL_box : Ss := (.cons (.set 2 (.call "_law_cell" spL_cell (.cons (.var 0) (.cons (.var 1) .nil)))) (.cons (.ite (.cmp .Eq (.bin .Mod (.var 2) (.cst (.int 2))) (.cst (.int 0))) (.cons (.ret (.lst true (.cons (.bin .FloorDiv (.blt "abs" (.cons (.var 2) .nil)) (.cst (.int 2))) .nil))) .nil) .nil) (.cons (.set 3 (.cst (.int 0))) (.cons (.for_ [4] false (.rng (.cons (.cst (.int 40)) .nil)) (.cons (.set 3 (.bin .Add (.bin .Mult (.var 3) (.cst (.int 142857143))) (.call "_law_mix" spL_mix (.cons (.var 2) (.cons (.var 4) .nil))))) .nil)) (.cons (.ret (.lst true (.cons (.var 3) .nil))) .nil)))))
noncomputable def nL_take : List Str := ["box", "many", "left", "digit"]
noncomputable def iL_take : Ss := (.cons (.setT [2, 3] (.blt "divmod" (.cons (.idx (.var 0) (.cst (.int 0))) (.cons (.var 1) .nil)))) (.cons (.setIx (.var 0) (.cst (.int 0)) (.var 2)) (.cons (.ret (.var 3)) .nil)))
noncomputable def nL_tag : List Str := ["box", "some"]
noncomputable def iL_tag : Ss := (.cons (.set 1 (.lst false (.cons (.cst (.str [])) (.cons (.cst (.str [])) (.cons (.cst (.str [97])) (.cons (.cst (.str [98])) (.cons (.cst (.str [97, 98])) (.cons (.cst (.str [98, 97])) (.cons (.cst (.str [122])) (.cons (.cst (.str [97, 98, 99, 100, 101, 102, 103, 104])) .nil)))))))))) (.cons (.ret (.idx (.var 1) (.call "_law_take" spL_take (.cons (.var 0) (.cons (.cst (.int 8)) .nil))))) .nil))
noncomputable def nL_key : List Str := ["box", "way"]
noncomputable def iL_key : Ss := (.cons (.set 1 (.call "_law_take" spL_take (.cons (.var 0) (.cons (.cst (.int 8)) .nil)))) (.cons (.ite (.cmp .Eq (.var 1) (.cst (.int 7))) (.cons (.ret (.bin .Add (.bin .Sub (.call "_law_take" spL_take (.cons (.var 0) (.cons (.bin .Sub (.bin .Mult (.cst (.int 2)) (.bin .Pow (.cst (.int 10)) (.cst (.int 40)))) (.cst (.int 1))) .nil))) (.bin .Pow (.cst (.int 10)) (.cst (.int 40)))) (.cst (.int 1)))) .nil) .nil) (.cons (.ret (.bin .Sub (.call "_law_take" spL_take (.cons (.var 0) (.cons (.idx (.lst false (.cons (.cst (.int 3)) (.cons (.cst (.int 9)) (.cons (.cst (.int 9)) (.cons (.cst (.int 9)) (.cons (.cst (.int 30)) (.cons (.cst (.int 30)) (.cons (.cst (.int 4)) .nil)))))))) (.var 1)) .nil))) (.idx (.lst false (.cons (.cst (.int 0)) (.cons (.cst (.int 0)) (.cons (.cst (.int 4)) (.cons (.cst (.int 0)) (.cons (.cst (.int 15)) (.cons (.cst (.int 0)) (.cons (.cst (.int 2)) .nil)))))))) (.var 1)))) .nil)))
noncomputable def nL_row : List Str := ["box", "most"]
noncomputable def iL_row : Ss := (.cons (.ret (.comp false 1 false [0] (.tup (.cons (.call "_law_key" spL_key (.cons (.var 1) .nil)) (.cons (.call "_law_tag" spL_tag (.cons (.var 1) .nil)) .nil))) (.rng (.cons (.call "_law_take" spL_take (.cons (.var 0) (.cons (.bin .Add (.var 1) (.cst (.int 1))) .nil))) .nil)) .nil)) .nil)
theorem isBox_bx {μ : Mem} {n : Nat} {b : Int} (h : isBox μ n) : isBox (bx μ n b) n := by
  obtain ⟨c, h⟩ := h
  exact ⟨b, by unfold bx; rw [List.getElem?_set_self (List.getElem?_eq_some_iff.mp h).1]⟩
theorem isBox_new {μ : Mem} {b : Int} : isBox (μ ++ [.lst [.int b]]) μ.length := ⟨b, by simp⟩
theorem bx_bx {μ : Mem} {n : Nat} {b c : Int} : bx (bx μ n b) n c = bx μ n c := by simp [bx]
theorem kL_cell : Keeps nL_cell iL_cell spL_cell := by
  intro ds μ Q h
  unfold spL_cell at h
  split at h
  · obtain ⟨ns, rfl, hl, hk, h⟩ := h
    rename_i k
    simp [iL_cell, nL_cell, startD, topZ, wSs, wS, wT, wE, wEs, wBlt, lenOf, seqOf, wCmp, ltD, wBl]
    by_cases hk2 : k < ns.length
    · have e : ixD ns.length k = some k.toNat := by simp [ixD, hk, hk2]
      have h2 : k.toNat < ns.length := by omega
      simp [hk2, wIdx, seqOf, e, h2, h]
    · simp [hk2, h]
  · exact h.elim
theorem kL_take : Keeps nL_take iL_take spL_take := by
  intro ds μ Q h
  unfold spL_take at h
  split at h
  · obtain ⟨⟨b, hb⟩, h0, hm, h⟩ := h
    rename_i n m
    have hc : CDivD m := ⟨h0, hm⟩
    simp [iL_take, nL_take, startD, topZ, wSs, wS, wT, wE, wEs, wIdx, seqOf, hb, ixD, wBlt, hc, bindT, wSetIx]
    exact h _ _ (Int.emod_nonneg _ (by omega)) (Int.emod_lt_of_pos _ h0)
  · exact h.elim
theorem kL_mix : Keeps nL_mix iL_mix spL_mix := by
  intro ds μ Q h
  unfold spL_mix at h
  split at h
  · obtain ⟨h0, hm, h⟩ := h
    rename_i c k
    have e : ixD 13 (k % 13) = some (k % 13).toNat := by
      have q1 : 0 ≤ k % 13 := by omega
      have q2 : k % 13 < 13 := by omega
      simp [ixD, q1, q2]
    have hr := h
    have hk13 : (k % 13).toNat < 13 := by omega
    have hz : ∃ z : Int, ([D.int 48271, .int 69621, .int 16807, .int 39373, .int 30269, .int 40014, .int 40692, .int 50021, .int 61687, .int 71993, .int 83869, .int 95561, .int 30307] : List D)[(k % 13).toNat]? = some (.int z) ∧ 0 < z ∧ z < 100000 := by
      generalize (k % 13).toNat = j at hk13
      match j, hk13 with
      | 0, _ => exact ⟨_, rfl, by decide⟩
      | 1, _ => exact ⟨_, rfl, by decide⟩
      | 2, _ => exact ⟨_, rfl, by decide⟩
      | 3, _ => exact ⟨_, rfl, by decide⟩
      | 4, _ => exact ⟨_, rfl, by decide⟩
      | 5, _ => exact ⟨_, rfl, by decide⟩
      | 6, _ => exact ⟨_, rfl, by decide⟩
      | 7, _ => exact ⟨_, rfl, by decide⟩
      | 8, _ => exact ⟨_, rfl, by decide⟩
      | 9, _ => exact ⟨_, rfl, by decide⟩
      | 10, _ => exact ⟨_, rfl, by decide⟩
      | 11, _ => exact ⟨_, rfl, by decide⟩
      | 12, _ => exact ⟨_, rfl, by decide⟩
    obtain ⟨z, hz, z1, z2⟩ := hz
    simp [iL_mix, nL_mix, startD, topZ, wSs, wS, wT, wE, wEs, wIdx, seqOf, newL, lim, wBin, CDivD, e]
    rw [hz]
    have m1 : CMulD (c % 2147483647 + 12345) z := .inr (by omega)
    have m2 : CMulD 977 k := .inl (by omega)
    have m3 : CMulD 7919 (k / 13) := .inl (by omega)
    have m5 : CMulD 48271 k := .inl (by omega)
    simp only [m1, m2, m3, m5, true_and]
    generalize hv : ((c % 2147483647 + 12345) * z + 977 * k + 7919 * (k / 13)) % 1000000007 = v
    have m4 : CMulD v v := .inl (by omega)
    refine ⟨m4, h _ (by omega) (by omega)⟩
  · exact h.elim
theorem kL_box : Keeps nL_box iL_box spL_box := by
  intro ds μ Q h
  unfold spL_box at h
  split at h
  · obtain ⟨ns, rfl, hl, hk, h⟩ := h
    rename_i k
    simp [iL_box, nL_box, startD, topZ, wSs, wS, wT, wE, wEs, wI, spL_cell]
    refine ⟨ns, rfl, hl, hk, fun c => ?_⟩
    simp [wBin, wCmp, flat, wBl]
    by_cases hc : eqD (.int (c % 2)) (.int 0) = true
    · simp [hc, wBlt, CDivD, lim, newL, h]
    · simp only [hc, if_neg, Bool.false_eq_true, not_false_eq_true, wRng, esLen]
      refine ⟨by decide, by decide, ?_⟩
      refine wLoop_inv (fun ds ρ μ' => μ' = μ ∧ (∀ d ∈ ds, ∃ i : Int, d = .int i ∧ 0 ≤ i ∧ i < 1000) ∧ ∃ v w, ρ = [some (.ro (ns.map D.int)), some (.int k), some (.int c), some (.int v), w]) ?_ ?_ _ _ _ ⟨rfl, ?_, 0, none, rfl⟩
      · rintro d ds ρ μ' N hN ⟨rfl, hd, v, w, rfl⟩
        obtain ⟨i, rfl, i0, i1⟩ := hd d (by simp)
        refine ⟨trivial, ?_⟩
        simp [bindT, wBin, CMulD, spL_mix, i0, i1]
        intro r _ _
        exact hN _ _ ⟨rfl, fun d q => hd d (by simp [q]), _, _, rfl⟩
      · rintro ρ μ' ⟨rfl, -, v, w, rfl⟩
        refine ⟨trivial, ?_⟩
        simp [lim, newL]
        exact h _
      · intro d hd
        simp only [rangeL, List.mem_map, List.mem_range] at hd
        obtain ⟨j, hj, rfl⟩ := hd
        exact ⟨_, rfl, by omega, by omega⟩
  · exact h.elim
theorem kL_tag : Keeps nL_tag iL_tag spL_tag := by
  intro ds μ Q h
  unfold spL_tag at h
  split at h
  · obtain ⟨hb, h⟩ := h
    rename_i n
    simp [iL_tag, nL_tag, startD, topZ, wSs, wS, wT, wE, wEs, wIdx, seqOf, newL, lim, spL_take, hb]
    intro d b d0 d8
    have e : ixD 8 d = some d.toNat := by simp [ixD, d0, d8]
    rw [e]
    have hd : d.toNat < 8 := by omega
    simp only [Option.bind_some]
    generalize d.toNat = j at hd
    match j, hd with
    | 0, _ => exact h _ _ (by decide)
    | 1, _ => exact h _ _ (by decide)
    | 2, _ => exact h _ _ (by decide)
    | 3, _ => exact h _ _ (by decide)
    | 4, _ => exact h _ _ (by decide)
    | 5, _ => exact h _ _ (by decide)
    | 6, _ => exact h _ _ (by decide)
    | 7, _ => exact h _ _ (by decide)
  · exact h.elim
theorem kL_key : Keeps nL_key iL_key spL_key := by
  intro ds μ Q h
  unfold spL_key at h
  split at h
  · obtain ⟨hb, h⟩ := h
    rename_i n
    simp [iL_key, nL_key, startD, topZ, wSs, wS, wT, wE, wEs, spL_take, hb, wCmp, flat, wBl]
    intro d b d0 d8
    have hb2 := isBox_bx (b := b) hb
    by_cases h7 : d = 7
    · subst h7
      simp [eqD, wBin, CPowD, CMulD, hb2, bx_bx]
      intro a b' a0 a1
      exact h _ _ ⟨by omega, by omega⟩
    · have e7 : eqD (.int d) (.int 7) = false := by simp [eqD, h7]
      have e : ixD 7 d = some d.toNat := by simp [ixD, d0]; omega
      simp [e7, newL, wIdx, seqOf, lim, e]
      have hd : d.toNat < 7 := by omega
      generalize d.toNat = j at hd
      match j, hd with
      | 0, _ => simp [hb2, bx_bx, wBin]; intro a b' a0 a1; exact h _ _ ⟨by omega, by omega⟩
      | 1, _ => simp [hb2, bx_bx, wBin]; intro a b' a0 a1; exact h _ _ ⟨by omega, by omega⟩
      | 2, _ => simp [hb2, bx_bx, wBin]; intro a b' a0 a1; exact h _ _ ⟨by omega, by omega⟩
      | 3, _ => simp [hb2, bx_bx, wBin]; intro a b' a0 a1; exact h _ _ ⟨by omega, by omega⟩
      | 4, _ => simp [hb2, bx_bx, wBin]; intro a b' a0 a1; exact h _ _ ⟨by omega, by omega⟩
      | 5, _ => simp [hb2, bx_bx, wBin]; intro a b' a0 a1; exact h _ _ ⟨by omega, by omega⟩
      | 6, _ => simp [hb2, bx_bx, wBin]; intro a b' a0 a1; exact h _ _ ⟨by omega, by omega⟩
  · exact h.elim
theorem kL_row : Keeps nL_row iL_row spL_row := by
  intro ds μ Q h
  unfold spL_row at h
  split at h
  · obtain ⟨hb, m0, m1, h⟩ := h
    rename_i n m
    simp [iL_row, nL_row, startD, topZ, wSs, wS, wE, wEs, wI, wTs, wBin, spL_take, hb, wRng, esLen]
    refine ⟨by omega, by omega, fun d b d0 d1 => ⟨by simp only [lim]; omega, by omega, ?_⟩⟩
    refine wComp_inv (fun ds acc μ' => ∃ (r : List Itm) (b : Int), acc = r.map itD ∧ μ' = bx μ n b ∧ (∀ x ∈ r, ItOk x) ∧ ((r.length + ds.length : Nat) : Int) ≤ m) ?_ ?_ _ _ _ ⟨[], b, rfl, rfl, by simp, ?_⟩
    · rintro d ds acc μ' Y N hY hN ⟨r, b, rfl, rfl, hr, hl⟩
      have hb2 := isBox_bx (b := b) hb
      simp [bindC, spL_key, spL_tag, hb2]
      intro k b2 hk
      simp only [bx_bx]
      refine ⟨isBox_bx hb, fun t b3 ht => ⟨by decide, hY _ _ ⟨r ++ [(k, t)], b3, by simp [itD], rfl, ?_, ?_⟩⟩⟩
      · intro x hx
        simp at hx
        rcases hx with hx | rfl
        · exact hr x hx
        · exact ⟨hk, ht⟩
      · simp at hl ⊢; omega
    · rintro acc μ' ⟨r, b, rfl, rfl, hr, hl⟩
      refine ⟨trivial, ?_⟩
      simp [newL]
      exact h _ _ (by simp at hl; omega) hr
    · simp [rangeL]; omega
  · exact h.elim
end DW
end

section
set_option linter.all false
set_option autoImplicit false
set_option maxRecDepth 100000
set_option exponentiation.threshold 1000
/-! IT: the order of items, the counts of greater ones ahead, the law's own sorting. -/
namespace DW
open PySem

noncomputable def sp_less : DSp := fun ds μ Q => ∃ x y : Itm, ds = [itD x, itD y] ∧ Q (.bl (lt2 x y)) μ
noncomputable def spL_under : DSp := fun ds μ Q => ∃ x y : Itm, ds = [itD x, itD y] ∧ Q (.bl (lt2 x y)) μ
/-- a dict stands there -/
noncomputable def dicB (μ : Mem) (n : Nat) : Bool := match μ[n]? with | some (.dic _ _) => true | _ => false
theorem dic_at {μ : Mem} {n : Nat} (h : dicB μ n = true) : ∃ ks ds, μ[n]? = some (.dic ks ds) := by
  unfold dicB at h
  split at h
  · rename_i ks ds e; exact ⟨ks, ds, e⟩
  · cases h
theorem dic_ty {μ : Mem} {n : Nat} (h : dicB μ n = true) : tyOf μ (.loc n) = some "dict" := by
  unfold dicB at h
  simp only [tyOf]
  split at h
  · rename_i e; rw [e]
  · cases h
noncomputable def spL_whole : DSp := fun ds μ Q => match ds with
  | [.int _] => Q (.bl true) μ
  | [.loc n] => dicB μ n = true ∧ Q (.bl false) μ
  | [.ro _] => False
  | [_] => Q (.bl false) μ
  | _ => False
noncomputable def n_less : List Str := ["one", "other"]
noncomputable def i_less : Ss := (.cons (.ret (.cmp .Lt (.var 0) (.var 1))) .nil)
noncomputable def nL_under : List Str := ["one", "other"]
noncomputable def iL_under : Ss := (.cons (.ret (.or (.cmp .Lt (.idx (.var 0) (.cst (.int 0))) (.idx (.var 1) (.cst (.int 0)))) (.and (.cmp .Eq (.idx (.var 0) (.cst (.int 0))) (.idx (.var 1) (.cst (.int 0)))) (.cmp .Lt (.idx (.var 0) (.cst (.int 1))) (.idx (.var 1) (.cst (.int 1))))))) .nil)
noncomputable def nL_whole : List Str := ["thing"]
noncomputable def iL_whole : Ss := (.cons (.ret (.and (.isin (.var 0) "int") (.not (.isin (.var 0) "bool")))) .nil)
theorem k_less : Keeps n_less i_less sp_less := by
  rintro ds μ Q ⟨x, y, rfl, h⟩
  simp [i_less, n_less, startD, topZ, wSs, wS, wT, wE, wEs, itD, wCmp, ltD, ltDs, eqD, sc2]
  by_cases e : x.1 = y.1
  · simp [lt2, e] at h
    by_cases e2 : x.2 = y.2
    · rw [e2, ltCs_irr] at h
      simp [e, e2]; exact h
    · simp [e, e2]; exact h
  · simp [lt2, e] at h
    simp [e]; exact h
theorem kL_under : Keeps nL_under iL_under spL_under := by
  rintro ds μ Q ⟨x, y, rfl, h⟩
  simp [iL_under, nL_under, startD, topZ, wSs, wS, wT, wE, wEs, itD, wCmp, wIdx, seqOf, ixD, ltD, wBl, flat, eqD]
  by_cases e : x.1 = y.1
  · simp [lt2, e] at h
    simp [e]; exact h
  · simp [lt2, e] at h
    by_cases e2 : x.1 < y.1
    · simp [e2] at h ⊢; exact h
    · simp [e2] at h ⊢; simp [e]; exact h
theorem kL_whole : Keeps nL_whole iL_whole spL_whole := by
  intro ds μ Q h
  unfold spL_whole at h
  split at h
  · simpa [iL_whole, nL_whole, startD, topZ, wSs, wS, wE, wIsin, tyOf, isTy, wBl] using h
  · simpa [iL_whole, nL_whole, startD, topZ, wSs, wS, wE, wIsin, dic_ty h.1, isTy, wBl] using h.2
  · exact h.elim
  · rename_i d h1 h2 h3
    cases d with
    | int i => exact absurd rfl (h1 i)
    | loc i => exact absurd rfl (h2 i)
    | ro i => exact absurd rfl (h3 i)
    | _ => simpa [iL_whole, nL_whole, startD, topZ, wSs, wS, wE, wIsin, tyOf, isTy, wBl] using h
  · exact h.elim
end DW
end

section
set_option linter.all false
set_option autoImplicit false
/-! ORD: the law's own sorting gives the row in order. -/
namespace DW
end DW
end

section
set_option linter.all false
set_option autoImplicit false
set_option maxRecDepth 100000
set_option exponentiation.threshold 1000
/-! RS: sorted_row and rises. -/
namespace DW
open PySem
end DW
end

section
set_option linter.all false
set_option autoImplicit false
set_option maxRecDepth 100000
set_option exponentiation.threshold 1000
/-! K03a: the law's own body. -/
namespace DW.K03
open PySem DW
theorem flats_items {r : List Itm} (h : ∀ x ∈ r, ItOk x) : flat 60 (.lst (r.map itD)) = true := by
  unfold flat
  induction r with
  | nil => rfl
  | cons x r ih =>
    rw [List.map_cons, flats, ih fun y hy => h y (by simp [hy])]
    have : flat 59 (itD x) = true := by
      have ht := (h x (by simp)).2
      have : ∀ t ∈ tags, t.all (· < 1114112) = true := by decide
      simp [itD, flat, flats]
      simpa using this _ ht
    simp [this]
mutual
theorem eqD_self : ∀ (n : Nat) (d : D), flat n d = true → eqD d d = true
  | n, .non, _ => rfl
  | n, .bl b, _ => by simp [eqD]
  | n, .int i, _ => by simp [eqD]
  | n, .str x, _ => by simp [eqD]
  | 0, .tup ds, h => by simp [flat] at h
  | n + 1, .tup ds, h => by rw [eqD]; exact eqDs_self n ds (by simpa [flat] using h)
  | 0, .lst ds, h => by simp [flat] at h
  | n + 1, .lst ds, h => by rw [eqD]; exact eqDs_self n ds (by simpa [flat] using h)
  | n, .ro ds, h => by simp [flat] at h
  | n, .loc ds, h => by simp [flat] at h
  | n, .dic ks ds, h => by simp [flat] at h
theorem eqDs_self : ∀ (n : Nat) (ds : List D), flats n ds = true → eqDs ds ds = true
  | n, [], _ => rfl
  | n, d :: ds, h => by
    simp only [flats, Bool.and_eq_true] at h
    simp [eqDs, eqD_self n d h.1, eqDs_self n ds h.2]
end
end DW.K03
end

section
set_option linter.all false
set_option autoImplicit false
set_option maxRecDepth 100000
set_option exponentiation.threshold 1000
/-! LI: the laws' own looks at items, lists of items, truths. -/
namespace DW
open PySem DW.K03
mutual
/-- nothing in it changes, but dicts may lie in it -/
noncomputable def good (μ : Mem) : D → Bool
  | .str x => x.all (· < 1114112)
  | .tup ds => goods μ ds
  | .lst ds => goods μ ds
  | .dic _ _ => false
  | .loc n => dicB μ n
  | .ro _ => false
  | _ => true
noncomputable def goods (μ : Mem) : List D → Bool
  | [] => true
  | d :: ds => good μ d && goods μ ds
end
noncomputable def letter (c : Nat) : Bool := decide (97 ≤ c) && decide (c ≤ 122)
noncomputable def isItemD : D → Bool
  | .tup ds => match ds with
    | [.int _, .str t] => decide (t.length < 9) && t.all letter
    | _ => false
  | _ => false
noncomputable def spL_is_item : DSp := fun ds μ Q => ∃ d, ds = [d] ∧ good μ d = true ∧ Q (.bl (isItemD d)) μ
noncomputable def spL_is_list : DSp := fun ds μ Q => ∃ (f : D) (r : List Itm), ds = [f, .lst (r.map itD)] ∧ ((∃ n, f = .loc n) ∨ ∃ l, f = .lst l) ∧ lstOf μ f = some (r.map itD) ∧ (∀ x ∈ r, ItOk x) ∧ Q (.bl true) μ
noncomputable def nL_is_item : List Str := ["thing"]
noncomputable def iL_is_item : Ss := (.cons (.ite (.or (.not (.isin (.var 0) "tuple")) (.or (.cmp .NotEq (.blt "len" (.cons (.var 0) .nil)) (.cst (.int 2))) (.or (.not (.call "_law_whole" spL_whole (.cons (.idx (.var 0) (.cst (.int 0))) .nil))) (.not (.isin (.idx (.var 0) (.cst (.int 1))) "str"))))) (.cons (.ret (.cst (.bl false))) .nil) .nil) (.cons (.ret (.and (.cmp .Lt (.blt "len" (.cons (.idx (.var 0) (.cst (.int 1))) .nil)) (.cst (.int 9))) (.cmp .Eq (.comp false 1 false [] (.var 0) (.seq (.idx (.var 0) (.cst (.int 1)))) (.cons (.cmp .NotIn (.var 0) (.cst (.str [97, 98, 99, 100, 101, 102, 103, 104, 105, 106, 107, 108, 109, 110, 111, 112, 113, 114, 115, 116, 117, 118, 119, 120, 121, 122]))) .nil)) (.lst false .nil)))) .nil))
noncomputable def nL_is_list : List Str := ["found", "due", "one", "other"]
noncomputable def iL_is_list : Ss := (.cons (.ite (.or (.not (.isin (.var 0) "list")) (.cmp .NotEq (.blt "len" (.cons (.var 0) .nil)) (.blt "len" (.cons (.var 1) .nil)))) (.cons (.ret (.cst (.bl false))) .nil) .nil) (.cons (.for_ [2, 3] true (.zip (.var 0) (.var 1)) (.cons (.ite (.or (.not (.call "_law_is_item" spL_is_item (.cons (.var 2) .nil))) (.cmp .NotEq (.var 2) (.var 3))) (.cons (.ret (.cst (.bl false))) .nil) .nil) .nil)) (.cons (.ret (.cst (.bl true))) .nil)))
theorem contains_out {c n : Nat} (hc : n ≤ c) : ∀ l : List Nat, (∀ x ∈ l, x < n) → l.contains c = false
  | [], _ => rfl
  | x :: l, h => by
    have h1 := h x (by simp)
    rw [List.contains_cons, contains_out hc l fun y hy => h y (by simp [hy])]
    simp; omega
theorem abc_has (c : Nat) : ([97, 98, 99, 100, 101, 102, 103, 104, 105, 106, 107, 108, 109, 110, 111, 112, 113, 114, 115, 116, 117, 118, 119, 120, 121, 122] : List Nat).contains c = letter c := by
  by_cases h : c < 123
  · have : ∀ c < 123, ([97, 98, 99, 100, 101, 102, 103, 104, 105, 106, 107, 108, 109, 110, 111, 112, 113, 114, 115, 116, 117, 118, 119, 120, 121, 122] : List Nat).contains c = letter c := by decide +kernel
    exact this c h
  · rw [contains_out (n := 123) (by omega) _ (by decide +kernel)]
    simp [letter]; omega
theorem flats_chars : ∀ (t : List Nat) (p : Nat → Bool), t.all (· < 1114112) = true → flats 59 ((t.filter p).map fun c => D.str [c]) = true
  | [], _, _ => rfl
  | c :: t, p, h => by
    simp only [List.all_cons, Bool.and_eq_true] at h
    have ih := flats_chars t p h.2
    by_cases q : p c = true
    · rw [List.filter_cons_of_pos q, List.map_cons, flats, ih]
      have hc : c < 1114112 := by simpa using h.1
      simp [flat, hc]
    · rw [List.filter_cons_of_neg q]; exact ih
theorem kL_is_item : Keeps nL_is_item iL_is_item spL_is_item := by
  rintro ds μ Q ⟨d, rfl, hg, h⟩
  simp only [iL_is_item, nL_is_item, startD, topZ, wSs, wS, wT, wE, wEs, List.map_cons, List.map_nil, List.length_cons, List.length_nil, List.cons_append, List.nil_append, List.getElem?_cons_zero]
  cases d with
  | tup ds =>
    match ds, hg, h with
    | [], hg, h => simpa [wIsin, tyOf, isTy, wBl, wBlt, lenOf, seqOf, wCmp, flat, eqD, isItemD] using h
    | [a], hg, h =>
      have : isItemD (.tup [a]) = false := by cases a <;> rfl
      rw [this] at h
      simpa [wIsin, tyOf, isTy, wBl, wBlt, lenOf, seqOf, wCmp, flat, eqD] using h
    | a :: b :: c :: r, hg, h =>
      have : isItemD (.tup (a :: b :: c :: r)) = false := by cases a <;> cases b <;> rfl
      rw [this] at h
      have e : ((r.length : Int) + 1 + 1 + 1 == 2) = false := by simp; omega
      simpa [wIsin, tyOf, isTy, wBl, wBlt, lenOf, seqOf, wCmp, flat, eqD, e] using h
    | [a, b], hg, h =>
      simp only [good, goods, Bool.and_eq_true] at hg
      simp [wIsin, tyOf, isTy, wBl, wBlt, lenOf, seqOf, wCmp, flat, eqD, wIdx, ixD]
      have hint : (∃ i, a = .int i) ∨ ((∀ i, a ≠ .int i) ∧ ∀ Q : QD, Q (.bl false) μ → spL_whole [a] μ Q) := by
        cases a with
        | int i => exact .inl ⟨i, rfl⟩
        | loc i => right; refine ⟨by simp, fun Q q => ?_⟩; simp only [good] at hg; exact ⟨hg.1, q⟩
        | ro i => simp [good] at hg
        | dic i j => simp [good] at hg
        | _ => right; exact ⟨by simp, fun Q q => q⟩
      rcases hint with ⟨i, rfl⟩ | hw
      · simp only [spL_whole, wTru, truth, Bool.not_true, Bool.false_eq_true, if_false]
        cases b with
        | str t =>
          have ht : t.all (· < 1114112) = true := by simpa [good] using hg.2.1
          have e : isItemD (.tup [.int i, .str t]) = (decide (t.length < 9) && t.all letter) := rfl
          rw [e] at h
          simp only [wIsin, tyOf, isTy, wBl, lenOf, ltD, wSeq, wI, wE, wTs, wT, List.getElem?_cons_zero, chars, wCmp, wIdx, seqOf, ixD]
          by_cases h9 : t.length < 9
          · have h9' : (t.length : Int) < 9 := by omega
            simp [h9', wI, wE, wIdx, ixD, seqOf, wSeq, chars]
            rw [decide_eq_true h9, Bool.true_and] at h
            refine wComp_mapL _ (fun c => !letter c) (fun c => D.str [c]) trivial _ _ ?_ ?_
            · intro c _ Y N q
              simp only [bindC, wTs, wT, wE, List.map_nil, List.getElem?_cons_zero, wCmp, wBl, abc_has]
              have eb : ∀ b : Bool, b = (!letter c) → (if b = true then Y (D.str [c]) μ else N μ) := fun b hb => by rw [hb]; exact q
              refine eb _ ?_
              rw [← abc_has c]
              simp
            · have hf := flats_chars t (fun c => !letter c) ht
              have e2 : flat 60 (.lst ((t.filter fun c => !letter c).map fun c => D.str [c])) = true := by rw [flat]; exact hf
              simp only [List.nil_append, newL, lim, Nat.zero_le, true_and, e2]
              refine ⟨rfl, ?_⟩
              have e3 : eqD (.lst ((t.filter fun c => !letter c).map fun c => D.str [c])) (.lst []) = t.all letter := by
                simp only [eqD]
                cases q : t.filter fun c => !letter c with
                | nil =>
                  rw [List.filter_eq_nil_iff] at q
                  have : t.all letter = true := by
                    rw [List.all_eq_true]
                    intro c hc
                    simpa using q c hc
                  rw [this]; rfl
                | cons c r =>
                  have hc : c ∈ t.filter fun c => !letter c := by rw [q]; simp
                  have hc2 := List.mem_filter.mp hc
                  have : t.all letter = false := by
                    rw [List.all_eq_false]
                    exact ⟨c, hc2.1, by simpa using hc2.2⟩
                  rw [this]; rfl
              rw [e3]
              exact h
          · have h9' : ¬ (t.length : Int) < 9 := by omega
            rw [decide_eq_false h9] at h
            simpa [h9'] using h
        | loc n =>
          simp only [good] at hg
          obtain ⟨ks, es, e9⟩ := dic_at hg.2.1
          simpa [wIsin, e9, tyOf, isTy, wBl, isItemD, wIdx, ixD, seqOf] using h
        | ro n => simp [good] at hg
        | dic n m => simp [good] at hg
        | _ => simpa [wIsin, tyOf, isTy, wBl, isItemD, wIdx, ixD, seqOf] using h
      · obtain ⟨hni, hw⟩ := hw
        have e : isItemD (.tup [a, b]) = false := by
          cases a <;> first | rfl | exact absurd rfl (hni _)
        rw [e] at h
        exact hw _ (by simpa [wTru, truth] using h)
  | loc n =>
    simp only [good] at hg
    simpa [wIsin, dic_ty hg, isTy, wBl, isItemD] using h
  | ro n => simp [good] at hg
  | dic n m => simp [good] at hg
  | _ => simpa [wIsin, tyOf, isTy, wBl, isItemD] using h
theorem tags_letters {x : Itm} (h : ItOk x) : isItemD (itD x) = true := by
  have : ∀ t ∈ tags, (decide (t.length < 9) && t.all letter) = true := by decide
  exact this _ h.2
theorem good_item {x : Itm} {μ : Mem} (h : ItOk x) : good μ (itD x) = true := by
  have : ∀ t ∈ tags, t.all (· < 1114112) = true := by decide
  have := this _ h.2
  simp [itD, good, goods]
  simpa using this
theorem flat_item {x : Itm} (h : ItOk x) : flat 60 (itD x) = true := by
  have : ∀ t ∈ tags, t.all (· < 1114112) = true := by decide
  have := this _ h.2
  simp [itD, flat, flats]
  simpa using this
theorem zipD_same {α : Type} (f g : α → D) : ∀ l : List α, zipD (l.map f) (l.map g) = l.map fun x => .tup [f x, g x]
  | [] => rfl
  | x :: l => by simp [zipD, zipD_same f g l]
theorem kL_is_list : Keeps nL_is_list iL_is_list spL_is_list := by
  rintro ds μ Q ⟨f, r, rfl, hf, hs, ok, h⟩
  have hl : lenOf μ f = some r.length := by
    rcases hf with ⟨n, rfl⟩ | ⟨l, rfl⟩
    · simp only [lstOf] at hs; simp [lenOf, hs]
    · simp only [lstOf] at hs; simp [lenOf, hs]
  have ht : tyOf μ f = some "list" := by
    rcases hf with ⟨n, rfl⟩ | ⟨l, rfl⟩
    · simp only [lstOf, seqOf] at hs
      simp only [tyOf]
      cases e9 : μ[n]? with
      | none => rw [e9] at hs; cases hs
      | some c =>
        rw [e9] at hs
        cases c with
        | lst l => rfl
        | _ => cases hs
    · rfl
  simp [iL_is_list, nL_is_list, startD, topZ, wSs, wS, wT, wE, wEs, wI, wIsin, ht, isTy, wBl, wBlt, hl, wCmp, flat, eqD, wZip, hs]
  have hl2 : lenOf μ (.lst (r.map itD)) = some r.length := by simp [lenOf, seqOf]
  have hs2 : lstOf μ (.lst (r.map itD)) = some (r.map itD) := rfl
  simp [hl2, hs2, flat, eqD, zipD_same]
  refine wLoop_inv (fun ds ρ μ' => μ' = μ ∧ ∃ (r2 : List Itm) (u v : Option D), ds = r2.map (fun x => .tup [itD x, itD x]) ∧ (∀ x ∈ r2, ItOk x) ∧ ρ = [some f, some (.lst (r.map itD)), u, v]) ?_ ?_ _ _ _ ⟨rfl, r, none, none, rfl, ok, rfl⟩
  · rintro d ds ρ μ' N hN ⟨rfl, r2, u, v, e, ok2, rfl⟩
    cases r2 with
    | nil => simp at e
    | cons x r2 =>
      simp at e
      obtain ⟨rfl, rfl⟩ := e
      refine ⟨⟨hs, hs2⟩, ?_⟩
      have hx := ok2 x (by simp)
      simp [bindT]
      refine ⟨itD x, rfl, good_item hx, ?_⟩
      rw [tags_letters hx]
      have fx := flat_item hx
      simp [wTru, truth, fx, eqD_self 60 _ fx]
      exact hN _ _ ⟨rfl, r2, _, _, rfl, fun y hy => ok2 y (by simp [hy]), rfl⟩
  · rintro ρ μ' ⟨rfl, r2, u, v, e, ok2, rfl⟩
    exact ⟨⟨hs, hs2⟩, h⟩
end DW
end

section
set_option linter.all false
set_option autoImplicit false
set_option maxRecDepth 100000
set_option exponentiation.threshold 1000
/-! OD: odd things, spoilt items, and what the program says of things. -/
namespace DW
open PySem
noncomputable def sp_is_whole : DSp := fun ds μ Q => match ds with
  | [.int _] => Q (.bl true) μ
  | [.loc n] => dicB μ n = true ∧ Q (.bl false) μ
  | [.ro _] => False
  | [_] => Q (.bl false) μ
  | _ => False
noncomputable def n_is_whole : List Str := ["thing"]
noncomputable def i_is_whole : Ss := (.cons (.ret (.and (.isin (.var 0) "int") (.not (.isin (.var 0) "bool")))) .nil)
theorem k_is_whole : Keeps n_is_whole i_is_whole sp_is_whole := by
  have e : sp_is_whole = spL_whole := rfl
  rw [e]; exact kL_whole
end DW
end

section
set_option linter.all false
set_option autoImplicit false
set_option maxRecDepth 100000
set_option exponentiation.threshold 1000
/-! LR: rooms, what is no room, lists of rows (the laws' side). -/
namespace DW
open PySem DW.K03
noncomputable def spL_room : DSp := fun ds μ Q => match ds with
  | [.loc n] => isBox μ n ∧ ∀ m b, 1 ≤ m → m ≤ 50 → Q (.int m) (bx μ n b)
  | _ => False
noncomputable def nL_room : List Str := ["box"]
noncomputable def iL_room : Ss := (.cons (.ret (.bin .Add (.cst (.int 1)) (.call "_law_take" spL_take (.cons (.var 0) (.cons (.idx (.lst false (.cons (.cst (.int 3)) (.cons (.cst (.int 5)) (.cons (.cst (.int 9)) (.cons (.cst (.int 50)) .nil))))) (.call "_law_take" spL_take (.cons (.var 0) (.cons (.cst (.int 4)) .nil)))) .nil))))) .nil)
theorem kL_room : Keeps nL_room iL_room spL_room := by
  intro ds μ Q h
  unfold spL_room at h
  split at h
  · obtain ⟨hb, h⟩ := h
    rename_i n
    simp [iL_room, nL_room, startD, topZ, wSs, wS, wE, wEs, newL, lim, spL_take, hb]
    intro d b d0 d4
    have hb2 := isBox_bx (b := b) hb
    have e : ixD 4 d = some d.toNat := by simp [ixD, d0, d4]
    simp [wIdx, seqOf, e]
    have hd : d.toNat < 4 := by omega
    generalize d.toNat = j at hd
    match j, hd with
    | 0, _ => simp [hb2, bx_bx, wBin]; intro a b' a0 a1; exact h _ _ (by omega) (by omega)
    | 1, _ => simp [hb2, bx_bx, wBin]; intro a b' a0 a1; exact h _ _ (by omega) (by omega)
    | 2, _ => simp [hb2, bx_bx, wBin]; intro a b' a0 a1; exact h _ _ (by omega) (by omega)
    | 3, _ => simp [hb2, bx_bx, wBin]; intro a b' a0 a1; exact h _ _ (by omega) (by omega)
  · exact h.elim
/-! ### lists of rows, each a cell, none below b -/
structure LL (μ : Mem) (b n : Nat) (ls : List Nat) (rs : List (List Itm)) : Prop where
  lo : b ≤ n
  at_ : μ[n]? = some (.lst (ls.map D.loc))
  len : ls.length = rs.length
  sub : ∀ l ∈ ls, b ≤ l ∧ l ≠ n
  row : ∀ (i l : Nat) (r : List Itm), ls[i]? = some l → rs[i]? = some r → μ[l]? = some (.lst (r.map itD))
theorem LL.app {μ : Mem} {b n : Nat} {ls : List Nat} {rs : List (List Itm)} (h : LL μ b n ls rs) (ν : Mem) : LL (μ ++ ν) b n ls rs :=
  ⟨h.lo, by rw [List.getElem?_append_left (List.getElem?_eq_some_iff.mp h.at_).1]; exact h.at_, h.len, h.sub, fun i l r h1 h2 => by
    have := h.row i l r h1 h2
    rw [List.getElem?_append_left (List.getElem?_eq_some_iff.mp this).1]; exact this⟩
noncomputable def rowsD (rs : List (List Itm)) : List D := rs.map fun r => .lst (r.map itD)
noncomputable def spL_are_lists : DSp := fun ds μ Q => ∃ (b n : Nat) (ls : List Nat) (rs : List (List Itm)), ds = [.loc n, .lst (rowsD rs)] ∧ LL μ b n ls rs ∧ (∀ r ∈ rs, ∀ x ∈ r, ItOk x) ∧ Q (.bl true) μ
noncomputable def nL_are_lists : List Str := ["found", "due"]
noncomputable def iL_are_lists : Ss := (.cons (.ite (.or (.not (.isin (.var 0) "list")) (.cmp .NotEq (.blt "len" (.cons (.var 0) .nil)) (.blt "len" (.cons (.var 1) .nil)))) (.cons (.ret (.cst (.bl false))) .nil) .nil) (.cons (.ret (.blt "all" (.cons (.comp false 2 true [] (.call "_law_is_list" spL_is_list (.cons (.var 0) (.cons (.var 1) .nil))) (.zip (.var 0) (.var 1)) .nil) .nil))) .nil))
theorem zipD_map {α β : Type} (f : α → D) (g : β → D) : ∀ (l : List α) (m : List β), zipD (l.map f) (m.map g) = (l.zip m).map fun p => .tup [f p.1, g p.2]
  | [], m => by cases m <;> rfl
  | x :: l, [] => rfl
  | x :: l, y :: m => by simp [zipD, zipD_map f g l m]
theorem allB_true {α : Type} : ∀ l : List α, allB (l.map fun _ => D.bl true) = some true
  | [] => rfl
  | x :: l => by simp [allB, allB_true l]
theorem mem_zip_get {α β : Type} {l : List α} {m : List β} {p : α × β} (h : p ∈ l.zip m) : ∃ i : Nat, l[i]? = some p.1 ∧ m[i]? = some p.2 := by
  obtain ⟨i, hi, rfl⟩ := List.mem_iff_getElem.mp h
  refine ⟨i, ?_⟩
  have h1 : i < l.length ∧ i < m.length := by simp at hi; omega
  simp [h1.1, h1.2]
theorem kL_are_lists : Keeps nL_are_lists iL_are_lists spL_are_lists := by
  rintro ds μ Q ⟨b, n, ls, rs, rfl, hl, ok, h⟩
  have hat := hl.at_
  simp [iL_are_lists, nL_are_lists, startD, topZ, wSs, wS, wT, wE, wEs, wI, wTs, wIsin, tyOf, hat, isTy, wBl, wBlt, lenOf, seqOf, rowsD, wCmp, flat, eqD, hl.len, wZip, lstOf, newL]
  have e := zipD_map D.loc (fun r : List Itm => D.lst (r.map itD)) ls rs
  rw [e]
  refine wComp_mapT _ (fun _ => D.bl true) (by simp [hat]) _ _ ?_ ?_
  · intro p hp Y N q
    obtain ⟨i, h1, h2⟩ := mem_zip_get hp
    simp [bindC]
    refine ⟨.loc p.1, p.2, rfl, .inl ⟨_, rfl⟩, ?_, ok p.2 (List.mem_of_getElem? h2), q⟩
    simp [lstOf, seqOf, hl.row i p.1 p.2 h1 h2]
  · simp [allB_true]
    exact h
/-! ### the natural runs, as the law cuts them -/
end DW
end

section
set_option linter.all false
set_option autoImplicit false
set_option maxRecDepth 100000
/-! TH: what stands in cells, read: rules. -/
namespace DW
open PySem
theorem thaw_tup (μ : Mem) (n : Nat) (ds : List D) : thaw μ (n + 1) (.tup ds) = .tup (ds.map (thaw μ n)) := rfl
theorem thaw_lst (μ : Mem) (n : Nat) (ds : List D) : thaw μ (n + 1) (.lst ds) = .lst (ds.map (thaw μ n)) := rfl
theorem thaw_loc {μ : Mem} {k : Nat} {ds : List D} (h : μ[k]? = some (.lst ds)) (n : Nat) : thaw μ (n + 1) (.loc k) = .lst (ds.map (thaw μ n)) := by
  show (match μ[k]? with | some (.lst ds) => D.lst (ds.map (thaw μ n)) | _ => .loc k) = _
  rw [h]
theorem thaw_int (μ : Mem) (n : Nat) (i : Int) : thaw μ n (.int i) = .int i := by cases n <;> rfl
theorem thaw_str (μ : Mem) (n : Nat) (x : List Nat) : thaw μ n (.str x) = .str x := by cases n <;> rfl
theorem thaw_it (μ : Mem) (n : Nat) (x : Itm) : thaw μ n (itD x) = itD x := by
  cases n with
  | zero => rfl
  | succ n => simp [itD, thaw_tup, thaw_int, thaw_str]
theorem thaw_map {α : Type} (μ : Mem) (n : Nat) (f : α → D) (h : ∀ x, thaw μ n (f x) = f x) (l : List α) : (l.map f).map (thaw μ n) = l.map f := by
  rw [List.map_map]; exact List.map_congr_left fun x _ => h x
end DW
end

section
set_option linter.all false
set_option autoImplicit false
set_option maxRecDepth 100000
set_option exponentiation.threshold 1000
/-! K25a: late items. -/
namespace DW.K25
open PySem DW DW.K03
noncomputable def sp_check_room : DSp := fun ds μ Q => ∃ m : Int, ds = [.int m] ∧ 1 ≤ m ∧ m ≤ 50 ∧ Q .non μ
noncomputable def n_check_room : List Str := ["thing"]
noncomputable def i_check_room : Ss := (.cons (.ite (.or (.not (.call "is_whole" sp_is_whole (.cons (.var 0) .nil))) (.not (.chain .LtE .LtE (.cst (.int 1)) (.var 0) (.gbl "MOST_ROOM" (.int 50))))) (.cons .nev .nil) .nil) .nil)
theorem k_check_room : Keeps n_check_room i_check_room sp_check_room := by
  rintro ds μ Q ⟨m, rfl, h1, h2, h⟩
  simpa [i_check_room, n_check_room, startD, topZ, wSs, wS, wT, wE, wEs, sp_is_whole, wBl, wCmp, wTru, truth, h1, h2] using h
end DW.K25
end

section
set_option linter.all false
set_option autoImplicit false
set_option maxRecDepth 100000
set_option exponentiation.threshold 1000
/-! CHO: choosing from what the room keeps. -/
namespace DW.CHO
open PySem DW DW.K03 DW.K25
noncomputable abbrev Tk := Option Itm
noncomputable def tkD : Tk → D
  | none => .tup [.str [101, 110, 100]]
  | some x => .tup [.str [111, 117, 116], itD x]
noncomputable def lastD : Option Itm → D
  | none => .non
  | some x => itD x
structure Ch where
  room : Nat
  kept : List Itm
  last : Option Itm
noncomputable def mayGo (last : Option Itm) (x : Itm) : Bool := match last with | none => true | some l => !lt2 x l
noncomputable def leastF (a : Itm) (l : List Itm) : Itm := l.foldl (fun a x => if lt2 x a = true then x else a) a
noncomputable def leastI (l : List Itm) : Itm := match l with | [] => (0, []) | a :: r => leastF a (a :: r)
noncomputable def able (c : Ch) : List Itm := c.kept.filter (mayGo c.last)
noncomputable def src (c : Ch) : List Itm := if able c = [] then c.kept else able c
noncomputable def outF (c : Ch) : List Tk × Ch := ((if able c = [] then [none] else []) ++ [some (leastI (src c))], ⟨c.room, c.kept.erase (leastI (src c)), some (leastI (src c))⟩)
noncomputable def giveF (c : Ch) (x : Itm) : List Tk × Ch := if c.kept.length = c.room then ((outF c).1, ⟨c.room, (outF c).2.kept ++ [x], (outF c).2.last⟩) else ([], ⟨c.room, c.kept ++ [x], c.last⟩)
noncomputable def finL : Nat → Ch → List Tk × Ch
  | 0, c => ([], c)
  | n + 1, c => if c.kept = [] then ([], c) else ((outF c).1 ++ (finL n (outF c).2).1, (finL n (outF c).2).2)
noncomputable def finF (c : Ch) : List Tk × Ch := (if (finL c.kept.length c).1 = [] then [] else (finL c.kept.length c).1 ++ [none], ⟨c.room, [], none⟩)
theorem leastF_spec : ∀ (l : List Itm) (a : Itm), (leastF a l = a ∨ leastF a l ∈ l) ∧ lt2 a (leastF a l) = false ∧ ∀ z ∈ l, lt2 z (leastF a l) = false
  | [], a => ⟨.inl rfl, lt2_irr a, by simp⟩
  | x :: l, a => by
    unfold leastF
    rw [List.foldl_cons]
    by_cases c : lt2 x a = true
    · rw [if_pos c]
      obtain ⟨h1, h2, h3⟩ := leastF_spec l x
      refine ⟨.inr ?_, ?_, ?_⟩
      · rcases h1 with h1 | h1
        · exact List.mem_cons.mpr (.inl h1)
        · exact List.mem_cons.mpr (.inr h1)
      · exact lt2_trans _ _ _ h2 (lt2_asym _ _ c)
      · intro z hz
        rcases List.mem_cons.mp hz with rfl | hz
        · exact h2
        · exact h3 z hz
    · rw [if_neg c]
      obtain ⟨h1, h2, h3⟩ := leastF_spec l a
      refine ⟨?_, h2, ?_⟩
      · rcases h1 with h1 | h1
        · exact .inl h1
        · exact .inr (List.mem_cons.mpr (.inr h1))
      · intro z hz
        rcases List.mem_cons.mp hz with rfl | hz
        · exact lt2_trans _ _ _ h2 (by simpa using c)
        · exact h3 z hz
theorem least_mem {l : List Itm} (h : l ≠ []) : leastI l ∈ l := by
  cases l with
  | nil => exact absurd rfl h
  | cons a r =>
    rcases (leastF_spec (a :: r) a).1 with q | q
    · exact List.mem_cons.mpr (.inl q)
    · exact q
theorem least_le {l : List Itm} (h : l ≠ []) : ∀ z ∈ l, lt2 z (leastI l) = false := by
  cases l with
  | nil => exact absurd rfl h
  | cons a r => exact (leastF_spec (a :: r) a).2.2
theorem least_eq {l : List Itm} {y : Itm} (hy : y ∈ l) (h : ∀ z ∈ l, lt2 z y = false) : y = leastI l := by
  have hne : l ≠ [] := fun e => by subst e; simp at hy
  exact lt2_tot _ _ (least_le hne y hy) (h _ (least_mem hne))
theorem src_ne {c : Ch} (h : c.kept ≠ []) : src c ≠ [] := by
  unfold src
  split
  · exact h
  · assumption
theorem src_sub {c : Ch} : ∀ x ∈ src c, x ∈ c.kept := by
  unfold src
  split
  · exact fun x hx => hx
  · exact fun x hx => (List.mem_filter.mp hx).1
theorem out_mem {c : Ch} (h : c.kept ≠ []) : leastI (src c) ∈ c.kept := src_sub _ (least_mem (src_ne h))
theorem out_len {c : Ch} (h : c.kept ≠ []) : (outF c).2.kept.length + 1 = c.kept.length := by
  have := List.length_erase_of_mem (out_mem h)
  have := List.length_pos_iff.mpr h
  simp only [outF]; omega
/-- it is in order -/
noncomputable def Wf (c : Ch) : Prop := 1 ≤ c.room ∧ c.room ≤ 50 ∧ c.kept.length ≤ c.room ∧ (c.kept = [] → c.last = none) ∧ (∀ x ∈ c.kept, ItOk x) ∧ ∀ x, c.last = some x → ItOk x
noncomputable def isCh (μ : Mem) (n : Nat) (c : Ch) : Prop := μ[n]? = some (.ins "Chooser" [("room", .int (c.room : Int)), ("kept", .loc (n + 1)), ("last", lastD c.last)]) ∧ μ[n + 1]? = some (.lst (c.kept.map itD))
/-- two cells alone have changed, new ones may have come -/
noncomputable def Fr (μ μ' : Mem) (n : Nat) : Prop := μ.length ≤ μ'.length ∧ ∀ i, i < μ.length → i ≠ n → i ≠ n + 1 → μ'[i]? = μ[i]?
theorem Fr.refl (μ : Mem) (n : Nat) : Fr μ μ n := ⟨Nat.le_refl _, fun _ _ _ _ => rfl⟩
theorem Fr.trans {μ μ' μ'' : Mem} {n : Nat} (a : Fr μ μ' n) (b : Fr μ' μ'' n) : Fr μ μ'' n := ⟨Nat.le_trans a.1 b.1, fun i h1 h2 h3 => by rw [b.2 i (Nat.lt_of_lt_of_le h1 a.1) h2 h3, a.2 i h1 h2 h3]⟩
theorem Fr.push {μ μ' : Mem} {n : Nat} (a : Fr μ μ' n) (c : Cell) : Fr μ (μ' ++ [c]) n := ⟨by have := a.1; simp; omega, fun i h1 h2 h3 => by rw [List.getElem?_append_left (Nat.lt_of_lt_of_le h1 a.1)]; exact a.2 i h1 h2 h3⟩
theorem Fr.set {μ μ' : Mem} {n t : Nat} (a : Fr μ μ' n) (c : Cell) (h : μ.length ≤ t ∨ t = n ∨ t = n + 1) : Fr μ (μ'.set t c) n := ⟨by have := a.1; simp; omega, fun i h1 h2 h3 => by rw [List.getElem?_set_ne (by omega)]; exact a.2 i h1 h2 h3⟩
theorem isCh.push {μ : Mem} {n : Nat} {c : Ch} (h : isCh μ n c) (x : Cell) : isCh (μ ++ [x]) n c := by
  obtain ⟨h1, h2⟩ := h
  exact ⟨by rw [List.getElem?_append_left (List.getElem?_eq_some_iff.mp h1).1]; exact h1, by rw [List.getElem?_append_left (List.getElem?_eq_some_iff.mp h2).1]; exact h2⟩
theorem isCh.other {μ : Mem} {n t : Nat} {c : Ch} (h : isCh μ n c) (x : Cell) (h1 : t ≠ n) (h2 : t ≠ n + 1) : isCh (μ.set t x) n c := ⟨by rw [List.getElem?_set_ne h1]; exact h.1, by rw [List.getElem?_set_ne h2]; exact h.2⟩
theorem fld_kept {μ : Mem} {n : Nat} {c : Ch} {Q : QD} (h : isCh μ n c) (q : Q (.loc (n + 1)) μ) : wFld "Chooser" "kept" (.loc n) μ Q := by simpa [wFld, insOf, h.1, getD'] using q
theorem fld_room {μ : Mem} {n : Nat} {c : Ch} {Q : QD} (h : isCh μ n c) (q : Q (.int (c.room : Int)) μ) : wFld "Chooser" "room" (.loc n) μ Q := by simpa [wFld, insOf, h.1, getD'] using q
theorem fld_last {μ : Mem} {n : Nat} {c : Ch} {Q : QD} (h : isCh μ n c) (q : Q (lastD c.last) μ) : wFld "Chooser" "last" (.loc n) μ Q := by simpa [wFld, insOf, h.1, getD'] using q
theorem set_last {μ : Mem} {n : Nat} {c : Ch} {l : Option Itm} {k : Mem → Prop} (h : isCh μ n c) (q : ∀ μ', μ' = μ.set n (.ins "Chooser" [("room", .int (c.room : Int)), ("kept", .loc (n + 1)), ("last", lastD l)]) → isCh μ' n ⟨c.room, c.kept, l⟩ → k μ') : wSetF "Chooser" "last" (.loc n) (lastD l) μ k := by
  have hl := (List.getElem?_eq_some_iff.mp h.1).1
  have := q _ rfl ⟨by rw [List.getElem?_set_self hl], by rw [List.getElem?_set_ne (by omega)]; exact h.2⟩
  simpa [wSetF, insOf, h.1, putD] using this
theorem isIns_ch {μ : Mem} {n : Nat} {c : Ch} {m : String} (h : isCh μ n c) (h1 : m ≠ "room") (h2 : m ≠ "kept") (h3 : m ≠ "last") : isIns μ "Chooser" m (.loc n) := by
  simp [isIns, insOf, h.1, getD', Ne.symm h1, Ne.symm h2, Ne.symm h3]
noncomputable def sp_Chooser_init : DSp := fun ds μ Q => ∃ (μ0 : Mem) (m : Nat), ds = [.loc μ0.length, .int (m : Int)] ∧ μ = μ0 ++ [.ins "Chooser" []] ∧ 1 ≤ m ∧ m ≤ 50 ∧ Q .non (μ0 ++ [.ins "Chooser" [("room", .int (m : Int)), ("kept", .loc (μ0.length + 1)), ("last", .non)], .lst []])
noncomputable def sp_Chooser_may_go : DSp := fun ds μ Q => ∃ (n : Nat) (x : Itm) (c : Ch), ds = [.loc n, itD x] ∧ isCh μ n c ∧ Q (.bl (mayGo c.last x)) μ
noncomputable def sp_Chooser_let_out : DSp := fun ds μ Q => ∃ (n : Nat) (c : Ch), ds = [.loc n] ∧ isCh μ n c ∧ c.kept ≠ [] ∧ c.kept.length ≤ 50 ∧ ∀ μ' t, Fr μ μ' n → isCh μ' n (outF c).2 → μ.length ≤ t → μ'[t]? = some (.lst ((outF c).1.map tkD)) → Q (.loc t) μ'
noncomputable def sp_Chooser_give : DSp := fun ds μ Q => ∃ (n : Nat) (x : Itm) (c : Ch), ds = [.loc n, itD x] ∧ isCh μ n c ∧ Wf c ∧ ∀ μ' t, Fr μ μ' n → isCh μ' n (giveF c x).2 → μ.length ≤ t → μ'[t]? = some (.lst ((giveF c x).1.map tkD)) → Q (.loc t) μ'
noncomputable def sp_Chooser_finish : DSp := fun ds μ Q => ∃ (n : Nat) (c : Ch), ds = [.loc n] ∧ isCh μ n c ∧ Wf c ∧ ∀ μ' t, Fr μ μ' n → isCh μ' n (finF c).2 → μ.length ≤ t → μ'[t]? = some (.lst ((finF c).1.map tkD)) → Q (.loc t) μ'
noncomputable def n_Chooser_init : List Str := ["self", "room"]
noncomputable def i_Chooser_init : Ss := (.cons (.exp (.call "check_room" sp_check_room (.cons (.var 1) .nil))) (.cons (.setF "Chooser" "room" (.var 0) (.var 1)) (.cons (.setF "Chooser" "kept" (.var 0) (.lst true .nil)) (.cons (.setF "Chooser" "last" (.var 0) (.cst .non)) .nil))))
noncomputable def n_Chooser_give : List Str := ["self", "item", "told"]
noncomputable def i_Chooser_give : Ss := (.cons (.set 2 (.lst true .nil)) (.cons (.ite (.cmp .Eq (.blt "len" (.cons (.fld "Chooser" "kept" (.var 0)) .nil)) (.fld "Chooser" "room" (.var 0))) (.cons (.set 2 (.mth "Chooser" "let_out" sp_Chooser_let_out (.var 0) .nil)) .nil) .nil) (.cons (.exp (.meth "append" (.fld "Chooser" "kept" (.var 0)) (.cons (.var 1) .nil))) (.cons (.ret (.var 2)) .nil))))
noncomputable def n_Chooser_finish : List Str := ["self", "told"]
noncomputable def i_Chooser_finish : Ss := (.cons (.set 1 (.lst true .nil)) (.cons (.whl (.fld "Chooser" "kept" (.var 0)) (.cons (.exp (.meth "extend" (.var 1) (.cons (.mth "Chooser" "let_out" sp_Chooser_let_out (.var 0) .nil) .nil))) .nil)) (.cons (.ite (.var 1) (.cons (.exp (.meth "append" (.var 1) (.cons (.tup (.cons (.cst (.str [101, 110, 100])) .nil)) .nil))) .nil) .nil) (.cons (.setF "Chooser" "last" (.var 0) (.cst .non)) (.cons (.ret (.var 1)) .nil)))))
noncomputable def n_Chooser_let_out : List Str := ["self", "told", "able"]
noncomputable def i_Chooser_let_out : Ss := (.cons (.set 1 (.lst true .nil)) (.cons (.set 2 (.comp false 1 false [0] (.var 0) (.seq (.fld "Chooser" "kept" (.var 0))) (.cons (.mth "Chooser" "may_go" sp_Chooser_may_go (.var 1) (.cons (.var 0) .nil)) .nil))) (.cons (.ite (.not (.var 2)) (.cons (.exp (.meth "append" (.var 1) (.cons (.tup (.cons (.cst (.str [101, 110, 100])) .nil)) .nil))) (.cons (.set 2 (.fld "Chooser" "kept" (.var 0))) .nil)) .nil) (.cons (.setF "Chooser" "last" (.var 0) (.imin (.cons (.var 2) .nil))) (.cons (.exp (.rmv (.fld "Chooser" "kept" (.var 0)) (.cons (.fld "Chooser" "last" (.var 0)) .nil))) (.cons (.exp (.meth "append" (.var 1) (.cons (.tup (.cons (.cst (.str [111, 117, 116])) (.cons (.fld "Chooser" "last" (.var 0)) .nil))) .nil))) (.cons (.ret (.var 1)) .nil)))))))
noncomputable def n_Chooser_may_go : List Str := ["self", "item"]
noncomputable def i_Chooser_may_go : Ss := (.cons (.ret (.or (.cmp .Is (.fld "Chooser" "last" (.var 0)) (.cst .non)) (.not (.call "less" sp_less (.cons (.var 1) (.cons (.fld "Chooser" "last" (.var 0)) .nil)))))) .nil)
theorem k_Chooser_init : Keeps n_Chooser_init i_Chooser_init sp_Chooser_init := by
  rintro ds μ Q ⟨μ0, m, rfl, rfl, h1, h2, h⟩
  simp only [i_Chooser_init, n_Chooser_init, startD, topZ, wSs, wS, wE, wEs, newL, lim, List.map_cons, List.map_nil, List.length_cons, List.length_nil, List.cons_append, List.nil_append, List.getElem?_cons_zero, List.getElem?_cons_succ]
  refine ⟨m, rfl, by omega, by omega, ?_⟩
  simp [wSetF, insOf, putD]
  simpa using h
theorem k_Chooser_may_go : Keeps n_Chooser_may_go i_Chooser_may_go sp_Chooser_may_go := by
  rintro ds μ Q ⟨n, x, c, rfl, hc, h⟩
  simp only [i_Chooser_may_go, n_Chooser_may_go, startD, topZ, wSs, wS, wE, wEs, List.map_cons, List.map_nil, List.length_cons, List.length_nil, List.cons_append, List.nil_append, List.getElem?_cons_zero, List.getElem?_cons_succ]
  refine fld_last hc ?_
  cases hl : c.last with
  | none =>
    rw [hl] at h
    simpa [lastD, wCmp, isNon, wBl, mayGo] using h
  | some l =>
    rw [hl] at h
    simp [lastD, wCmp, isNon, itD, wBl]
    refine fld_last hc ?_
    rw [hl]
    refine ⟨x, l, rfl, ?_⟩
    simpa [mayGo] using h
theorem append_ok {μ : Mem} {t : Nat} {l : List Tk} {x : Tk} {Q : QD} (h : μ[t]? = some (.lst (l.map tkD))) (hl : l.length < 1000) (q : Q .non (μ.set t (.lst ((l ++ [x]).map tkD)))) : wMeth "append" (.loc t) [tkD x] μ Q := by
  simp only [wMeth, h, wMethL, List.length_map]
  exact ⟨by simp only [lim]; omega, by simpa using q⟩
theorem k_Chooser_let_out : Keeps n_Chooser_let_out i_Chooser_let_out sp_Chooser_let_out := by
  rintro ds μ Q ⟨n, c, rfl, hc, hne, hl, h⟩
  have hn1 : n + 1 < μ.length := (List.getElem?_eq_some_iff.mp hc.2).1
  simp only [i_Chooser_let_out, n_Chooser_let_out, startD, topZ, wSs, wS, wE, wEs, wI, newL, lim, List.map_cons, List.map_nil, List.length_cons, List.length_nil, List.cons_append, List.nil_append, List.getElem?_cons_zero, List.getElem?_cons_succ, List.replicate, List.set_cons_succ, List.set_cons_zero, Option.join_some]
  refine ⟨by omega, ?_⟩
  have f1 : Fr μ (μ ++ [Cell.lst []]) n := (Fr.refl μ n).push _
  have c1 := hc.push (Cell.lst [])
  have t1 : (μ ++ [Cell.lst []])[μ.length]? = some (.lst (([] : List Tk).map tkD)) := by simp
  generalize μ ++ [Cell.lst []] = μ1 at f1 c1 t1
  refine fld_kept c1 ?_
  simp only [wSeq, c1.2]
  refine wComp_mapL itD (mayGo c.last) itD c1.2 _ _ ?_ ?_
  · intro x hx Y N z
    simp only [bindC, wTs, wT, wE, wEs, List.getElem?_cons_zero, List.getElem?_cons_succ]
    refine ⟨isIns_ch c1 (by decide) (by decide) (by decide), n, x, c, rfl, c1, ?_⟩
    simpa [wTru, truth] using z
  · have ea : c.kept.filter (mayGo c.last) = able c := rfl
    rw [List.nil_append, ea]
    simp only [wT, wTru, truth, lenOf, seqOf, Option.map_some, List.length_map, List.getElem?_cons_zero, List.getElem?_cons_succ]
    have fin : ∀ (μ2 : Mem) (tk : List Tk) (a : D), Fr μ μ2 n → isCh μ2 n c → μ2[μ.length]? = some (.lst (tk.map tkD)) → tk.length < 10 → lstOf μ2 a = some ((src c).map itD) → tk ++ [some (leastI (src c))] = (outF c).1 →
        wImin [a] μ2 fun v μ1 => wSetF "Chooser" "last" (.loc n) v μ1 fun μ3 => wFld "Chooser" "kept" (.loc n) μ3 fun x μ1 => isLs μ1 x = true ∧ wFld "Chooser" "last" (.loc n) μ1 fun d μ1 => wRmv x [d] μ1 fun d μ1 => isCell μ1 (.loc μ.length) = true ∧ wFld "Chooser" "last" (.loc n) μ1 fun d μ1 => [D.str [111, 117, 116], d].length ≤ 16777216 ∧ wMeth "append" (.loc μ.length) [.tup [.str [111, 117, 116], d]] μ1 fun d μ1 => Q (.loc μ.length) μ1 := by
      intro μ2 tk a f2 c2 t2 tl ha et
      simp only [wImin, ha]
      refine ⟨src c, rfl, src_ne hne, fun y hy hle => ?_⟩
      have ey := least_eq hy hle
      subst ey
      refine set_last (l := some (leastI (src c))) c2 fun μ3 e3 c3 => ?_
      have f3 : Fr μ μ3 n := by rw [e3]; exact f2.set _ (.inr (.inl rfl))
      have t3 : μ3[μ.length]? = some (.lst (tk.map tkD)) := by rw [e3, List.getElem?_set_ne (by omega)]; exact t2
      clear e3
      refine fld_kept c3 ⟨by simp [isLs, c3.2], fld_last c3 ?_⟩
      simp only [wRmv, c3.2]
      refine ⟨c.kept, leastI (src c), rfl, rfl, out_mem hne, ?_⟩
      have hn3 : n + 1 < μ3.length := by have := f3.1; omega
      have c4 : isCh (μ3.set (n + 1) (Cell.lst ((c.kept.erase (leastI (src c))).map itD))) n (outF c).2 := ⟨by rw [List.getElem?_set_ne (by omega)]; exact c3.1, by rw [List.getElem?_set_self hn3]; rfl⟩
      have f4 : Fr μ (μ3.set (n + 1) (Cell.lst ((c.kept.erase (leastI (src c))).map itD))) n := f3.set _ (.inr (.inr rfl))
      have t4 : (μ3.set (n + 1) (Cell.lst ((c.kept.erase (leastI (src c))).map itD)))[μ.length]? = some (.lst (tk.map tkD)) := by rw [List.getElem?_set_ne (by omega)]; exact t3
      generalize μ3.set (n + 1) (Cell.lst ((c.kept.erase (leastI (src c))).map itD)) = μ4 at c4 f4 t4
      refine ⟨by simp [isCell, t4], fld_last c4 ⟨by simp, ?_⟩⟩
      refine append_ok (x := some (leastI (src c))) t4 (by omega) ?_
      have hm4 : μ.length < μ4.length := (List.getElem?_eq_some_iff.mp t4).1
      refine h _ _ (f4.set _ (.inl (Nat.le_refl _))) (c4.other _ (by omega) (by omega)) (Nat.le_refl _) ?_
      rw [List.getElem?_set_self hm4, et]
    by_cases ce : able c = []
    · have e0 : ((able c).length != 0) = false := by rw [ce]; rfl
      simp only [e0, Bool.not_false, if_true, wSs, wS, wE, wEs, List.getElem?_cons_zero, List.getElem?_cons_succ, isCell, t1, true_and]
      refine ⟨by decide, ?_⟩
      refine append_ok (x := none) t1 (by decide) ?_
      have hm1 : μ.length < μ1.length := (List.getElem?_eq_some_iff.mp t1).1
      have c2 := c1.other (t := μ.length) (Cell.lst (([] ++ [none] : List Tk).map tkD)) (by omega) (by omega)
      have f2 := f1.set (t := μ.length) (Cell.lst (([] ++ [none] : List Tk).map tkD)) (.inl (Nat.le_refl _))
      have t2 : (μ1.set μ.length (Cell.lst (([] ++ [none] : List Tk).map tkD)))[μ.length]? = some (.lst (([none] : List Tk).map tkD)) := by rw [List.getElem?_set_self hm1]; rfl
      generalize μ1.set μ.length (Cell.lst (([] ++ [none] : List Tk).map tkD)) = μ2 at c2 f2 t2
      refine fld_kept c2 ?_
      refine fin μ2 [none] (.loc (n + 1)) f2 c2 t2 (by decide) (by simp [lstOf, seqOf, c2.2, src, ce]) (by simp [outF, ce])
    · have e0 : ((able c).length != 0) = true := by
        cases q : able c with
        | nil => exact absurd q ce
        | cons a r => rfl
      simp only [e0, Bool.not_true, Bool.false_eq_true, if_false, wSs, wS, wE, wEs, List.getElem?_cons_zero, List.getElem?_cons_succ]
      refine fin μ1 [] (.lst ((able c).map itD)) f1 c1 t1 (by decide) (by simp [lstOf, seqOf, src, ce]) (by simp [outF, ce])
theorem k_Chooser_give : Keeps n_Chooser_give i_Chooser_give sp_Chooser_give := by
  rintro ds μ Q ⟨n, x, c, rfl, hc, hw, h⟩
  obtain ⟨w1, w2, w3, w4, w5, w6⟩ := hw
  have hn1 : n + 1 < μ.length := (List.getElem?_eq_some_iff.mp hc.2).1
  simp only [i_Chooser_give, n_Chooser_give, startD, topZ, wSs, wS, wT, wE, wEs, newL, lim, List.map_cons, List.map_nil, List.length_cons, List.length_nil, List.cons_append, List.nil_append, List.getElem?_cons_zero, List.getElem?_cons_succ, List.replicate, List.set_cons_succ, List.set_cons_zero]
  refine ⟨by omega, ?_⟩
  have f1 : Fr μ (μ ++ [Cell.lst []]) n := (Fr.refl μ n).push _
  have c1 := hc.push (Cell.lst [])
  have t1 : (μ ++ [Cell.lst []])[μ.length]? = some (.lst (([] : List Tk).map tkD)) := by simp
  generalize μ ++ [Cell.lst []] = μ1 at f1 c1 t1
  refine fld_kept c1 ?_
  simp only [wBlt, lenOf, seqOf, c1.2, Option.map_some, List.length_map]
  refine fld_room c1 ?_
  simp only [wCmp, flat, true_and, wBl]
  have fin : ∀ (μ2 : Mem) (t : Nat) (tk : List Tk) (k : List Itm) (la : Option Itm), Fr μ μ2 n → isCh μ2 n ⟨c.room, k, la⟩ → k.length ≤ 50 → μ.length ≤ t → μ2[t]? = some (.lst (tk.map tkD)) → giveF c x = (tk, ⟨c.room, k ++ [x], la⟩) →
      wFld "Chooser" "kept" (.loc n) μ2 fun x_1 μ1 => isCell μ1 x_1 = true ∧ wMeth "append" x_1 [itD x] μ1 fun d μ1 => Q (.loc t) μ1 := by
    intro μ2 t tk k la f2 c2 kl ht t2 eg
    refine fld_kept c2 ⟨by simp [isCell, c2.2], ?_⟩
    have hn2 : n + 1 < μ2.length := by have := f2.1; omega
    simp only [wMeth, c2.2, wMethL, List.length_map]
    refine ⟨by simp only [lim]; omega, ?_⟩
    refine h _ t (f2.set _ (.inr (.inr rfl))) ?_ ht ?_
    · rw [eg]
      exact ⟨by rw [List.getElem?_set_ne (by omega)]; exact c2.1, by rw [List.getElem?_set_self hn2]; simp⟩
    · rw [eg, List.getElem?_set_ne (by omega)]; exact t2
  by_cases ce : c.kept.length = c.room
  · have e0 : eqD (.int (c.kept.length : Int)) (.int (c.room : Int)) = true := by simp [eqD, ce]
    have hne : c.kept ≠ [] := fun z => by rw [z] at ce; simp at ce; omega
    simp only [e0, if_true, wSs, wS, wE, wEs, List.getElem?_cons_zero, List.getElem?_cons_succ]
    refine ⟨isIns_ch c1 (by decide) (by decide) (by decide), n, c, rfl, c1, hne, by omega, fun μ2 t f2 c2 ht t2 => ?_⟩
    have ol := out_len hne
    exact fin μ2 t _ (outF c).2.kept (outF c).2.last (f1.trans f2) c2 (by omega) (by have := f1.1; omega) t2 (by simp only [giveF, ce, if_true])
  · have e0 : eqD (.int (c.kept.length : Int)) (.int (c.room : Int)) = false := by
      simp only [eqD]
      have : ¬ ((c.kept.length : Int) = (c.room : Int)) := by omega
      simpa using this
    simp only [e0, Bool.false_eq_true, if_false, wSs]
    exact fin μ1 μ.length [] _ _ f1 c1 (by omega) (Nat.le_refl _) t1 (by simp only [giveF, ce, if_false])
theorem finL_len : ∀ (m : Nat) (c : Ch), c.kept.length ≤ m → (finL m c).1.length ≤ 2 * c.kept.length ∧ (finL m c).2.kept = [] ∧ ((finL m c).2.room = c.room)
  | 0, c, h => by
    have : c.kept = [] := List.length_eq_zero_iff.mp (by omega)
    simp [finL, this]
  | m + 1, c, h => by
    simp only [finL]
    by_cases e : c.kept = []
    · rw [if_pos e]; exact ⟨by simp, e, rfl⟩
    · rw [if_neg e]
      have ol := out_len e
      obtain ⟨i1, i2, i3⟩ := finL_len m (outF c).2 (by omega)
      refine ⟨?_, i2, by rw [i3]; rfl⟩
      have : (outF c).1.length ≤ 2 := by simp only [outF]; split <;> simp
      rw [List.length_append]; omega
theorem k_Chooser_finish : Keeps n_Chooser_finish i_Chooser_finish sp_Chooser_finish := by
  rintro ds μ Q ⟨n, c, rfl, hc, hw, h⟩
  obtain ⟨w1, w2, w3, w4, w5, w6⟩ := hw
  have hn1 : n + 1 < μ.length := (List.getElem?_eq_some_iff.mp hc.2).1
  have fl := finL_len c.kept.length c (Nat.le_refl _)
  simp only [i_Chooser_finish, n_Chooser_finish, startD, topZ, wSs, wS, wE, wEs, newL, lim, List.map_cons, List.map_nil, List.length_cons, List.length_nil, List.cons_append, List.nil_append, List.getElem?_cons_zero, List.getElem?_cons_succ, List.replicate, List.set_cons_succ, List.set_cons_zero]
  refine ⟨by omega, ?_⟩
  have f1 : Fr μ (μ ++ [Cell.lst []]) n := (Fr.refl μ n).push _
  have c1 := hc.push (Cell.lst [])
  have t1 : (μ ++ [Cell.lst []])[μ.length]? = some (.lst (([] : List Tk).map tkD)) := by simp
  generalize μ ++ [Cell.lst []] = μ1 at f1 c1 t1
  refine ⟨fun M ρ μ' => ∃ (c' : Ch) (tk : List Tk), M = c'.kept.length ∧ c'.kept.length ≤ 50 ∧ c'.room = c.room ∧ Fr μ μ' n ∧ isCh μ' n c' ∧ μ'[μ.length]? = some (.lst (tk.map tkD)) ∧ tk ++ (finL M c').1 = (finL c.kept.length c).1 ∧ ρ = [some (.loc n), some (.loc μ.length)],
    ⟨_, c, [], rfl, by omega, rfl, f1, c1, t1, rfl, rfl⟩, ?_⟩
  rintro M ρ μ' ⟨c', tk, rfl, hl, er, f2, c2, t2, et, rfl⟩
  simp only [wT, wE, List.getElem?_cons_zero]
  refine fld_kept c2 ?_
  simp only [wTru, truth, lenOf, seqOf, c2.2, Option.map_some, List.length_map]
  by_cases ce : c'.kept = []
  · have e0 : (c'.kept.length != 0) = false := by rw [ce]; rfl
    simp only [e0, Bool.false_eq_true, if_false, wSs, wS, wT, wE, wEs, List.getElem?_cons_zero, List.getElem?_cons_succ, wTru, truth, lenOf, seqOf, t2, Option.map_some, List.length_map]
    have et' : tk = (finL c.kept.length c).1 := by
      rw [← et]
      cases q : c'.kept.length with
      | zero => simp [finL]
      | succ k => rw [ce] at q; simp at q
    have hm2 : μ.length < μ'.length := (List.getElem?_eq_some_iff.mp t2).1
    have fin : ∀ (μ3 : Mem), Fr μ μ3 n → isCh μ3 n c' → μ3[μ.length]? = some (.lst ((finF c).1.map tkD)) → wSetF "Chooser" "last" (.loc n) .non μ3 fun μ3 => Q (.loc μ.length) μ3 := by
      intro μ3 f3 c3 t3
      refine set_last (l := none) c3 fun μ4 e4 c4 => ?_
      refine h μ4 μ.length (by rw [e4]; exact f3.set _ (.inr (.inl rfl))) ?_ (Nat.le_refl _) (by rw [e4, List.getElem?_set_ne (by omega)]; exact t3)
      rw [ce, er] at c4
      exact c4
    by_cases ck : tk = []
    · have e1 : (tk.length != 0) = false := by rw [ck]; rfl
      simp only [e1, Bool.false_eq_true, if_false]
      refine fin μ' f2 c2 ?_
      rw [t2, ck]
      have : (finL c.kept.length c).1 = [] := by rw [← et', ck]
      simp [finF, this]
    · have e1 : (tk.length != 0) = true := by
        cases tk with
        | nil => exact absurd rfl ck
        | cons a r => rfl
      simp only [e1, if_true, isCell, t2, true_and]
      refine ⟨by simp, ?_⟩
      refine append_ok (x := none) t2 (by rw [et']; omega) ?_
      refine fin _ (f2.set _ (.inl (Nat.le_refl _))) (c2.other _ (by omega) (by omega)) ?_
      rw [List.getElem?_set_self hm2]
      have : ¬ (finL c.kept.length c).1 = [] := by rw [← et']; exact ck
      simp [finF, this, et']
  · have e0 : (c'.kept.length != 0) = true := by
      cases q : c'.kept with
      | nil => exact absurd q ce
      | cons a r => rfl
    simp only [e0, if_true, wSs, wS, wE, wEs, List.getElem?_cons_zero, List.getElem?_cons_succ]
    refine ⟨by simp [isCell, t2], isIns_ch c2 (by decide) (by decide) (by decide), n, c', rfl, c2, ce, hl, fun μ3 t f3 c3 ht t3 => ?_⟩
    have hm2 : μ.length < μ'.length := (List.getElem?_eq_some_iff.mp t2).1
    have t3' : μ3[μ.length]? = some (.lst (tk.map tkD)) := by rw [f3.2 _ hm2 (by omega) (by omega)]; exact t2
    have hm3 : μ.length < μ3.length := (List.getElem?_eq_some_iff.mp t3').1
    have ol := out_len ce
    have ek : tk ++ (outF c').1 ++ (finL (outF c').2.kept.length (outF c').2).1 = (finL c.kept.length c).1 := by
      rw [← et, ← ol, finL, if_neg ce, List.append_assoc]
    have elen : tk.length + (outF c').1.length ≤ 100 := by
      have := congrArg List.length ek
      simp only [List.length_append] at this
      omega
    simp only [wMeth, t3', wMethL, wlOf, t3, List.length_map]
    refine ⟨by simp only [lim]; omega, (outF c').2.kept.length, by omega, (outF c').2, tk ++ (outF c').1, rfl, by omega, by rw [← er]; rfl, (f2.trans f3).set _ (.inl (Nat.le_refl _)), c3.other _ (by omega) (by omega), ?_, ek, trivial⟩
    rw [List.getElem?_set_self hm3]
    simp
end DW.CHO
end

section
set_option linter.all false
set_option autoImplicit false
set_option maxRecDepth 100000
set_option exponentiation.threshold 1000
/-! CHS: the laws' own choosing. -/
namespace DW.CHO
open PySem DW DW.K03 DW.K25
noncomputable def kK : DKey := .inr [107, 101, 112, 116]
noncomputable def kL : DKey := .inr [108, 97, 115, 116]
noncomputable def kR : DKey := .inr [114, 111, 111, 109]
noncomputable def isSt (μ : Mem) (n : Nat) (c : Ch) : Prop := μ[n]? = some (.dic [kK, kL, kR] [.loc (n + 1), lastD c.last, .int (c.room : Int)]) ∧ μ[n + 1]? = some (.lst (c.kept.map itD))
theorem isSt.push {μ : Mem} {n : Nat} {c : Ch} (h : isSt μ n c) (x : Cell) : isSt (μ ++ [x]) n c := by
  obtain ⟨h1, h2⟩ := h
  exact ⟨by rw [List.getElem?_append_left (List.getElem?_eq_some_iff.mp h1).1]; exact h1, by rw [List.getElem?_append_left (List.getElem?_eq_some_iff.mp h2).1]; exact h2⟩
theorem isSt.other {μ : Mem} {n t : Nat} {c : Ch} (h : isSt μ n c) (x : Cell) (h1 : t ≠ n) (h2 : t ≠ n + 1) : isSt (μ.set t x) n c := ⟨by rw [List.getElem?_set_ne h1]; exact h.1, by rw [List.getElem?_set_ne h2]; exact h.2⟩
theorem get_kept {μ : Mem} {n : Nat} {c : Ch} {Q : QD} (h : isSt μ n c) (q : Q (.loc (n + 1)) μ) : wDget (.loc n) (.str [107, 101, 112, 116]) μ Q := by simpa [wDget, h.1, keyD, dlook, kK] using q
theorem get_last {μ : Mem} {n : Nat} {c : Ch} {Q : QD} (h : isSt μ n c) (q : Q (lastD c.last) μ) : wDget (.loc n) (.str [108, 97, 115, 116]) μ Q := by simpa [wDget, h.1, keyD, dlook, kK, kL] using q
theorem get_room {μ : Mem} {n : Nat} {c : Ch} {Q : QD} (h : isSt μ n c) (q : Q (.int (c.room : Int)) μ) : wDget (.loc n) (.str [114, 111, 111, 109]) μ Q := by simpa [wDget, h.1, keyD, dlook, kK, kL, kR] using q
theorem put_last {μ : Mem} {n : Nat} {c : Ch} {l : Option Itm} {k : Mem → Prop} (h : isSt μ n c) (q : ∀ μ', μ' = μ.set n (.dic [kK, kL, kR] [.loc (n + 1), lastD l, .int (c.room : Int)]) → isSt μ' n ⟨c.room, c.kept, l⟩ → k μ') : wDput (.loc n) (.str [108, 97, 115, 116]) (lastD l) μ k := by
  have hl := (List.getElem?_eq_some_iff.mp h.1).1
  have := q _ rfl ⟨by rw [List.getElem?_set_self hl], by rw [List.getElem?_set_ne (by omega)]; exact h.2⟩
  simpa [wDput, h.1, keyD, dputK, dputV, kK, kL, kR, lim] using this
noncomputable def spL_least : DSp := fun ds μ Q => ∃ (a : D) (l : List Itm), ds = [a] ∧ (a = .lst (l.map itD) ∨ ∃ n, a = .loc n ∧ μ[n]? = some (.lst (l.map itD))) ∧ l ≠ [] ∧ Q (itD (leastI l)) μ
noncomputable def AllOk (tk : List Tk) : Prop := ∀ x, some x ∈ tk → ItOk x
noncomputable def spL_out : DSp := fun ds μ Q => ∃ (n : Nat) (c : Ch), ds = [.loc n] ∧ isSt μ n c ∧ c.kept ≠ [] ∧ c.kept.length ≤ 50 ∧ (∀ x ∈ c.kept, ItOk x) ∧ ∀ μ', Fr μ μ' n → isSt μ' n (outF c).2 → Q (.lst ((outF c).1.map tkD)) μ'
noncomputable def spL_given : DSp := fun ds μ Q => ∃ (n : Nat) (x : Itm) (c : Ch), ds = [.loc n, itD x] ∧ isSt μ n c ∧ Wf c ∧ ∀ μ', Fr μ μ' n → isSt μ' n (giveF c x).2 → Q (.lst ((giveF c x).1.map tkD)) μ'
noncomputable def spL_finished : DSp := fun ds μ Q => ∃ (n : Nat) (c : Ch), ds = [.loc n] ∧ isSt μ n c ∧ Wf c ∧ ∀ μ', Fr μ μ' n → isSt μ' n (finF c).2 → Q (.lst ((finF c).1.map tkD)) μ'
noncomputable def nL_least : List Str := ["some", "found", "item"]
noncomputable def iL_least : Ss := (.cons (.set 1 (.idx (.var 0) (.cst (.int 0)))) (.cons (.for_ [2] false (.seq (.var 0)) (.cons (.ite (.call "_law_under" spL_under (.cons (.var 2) (.cons (.var 1) .nil))) (.cons (.set 1 (.var 2)) .nil) .nil) .nil)) (.cons (.ret (.var 1)) .nil)))
noncomputable def nL_out : List Str := ["state", "told", "some", "item"]
noncomputable def iL_out : Ss := (.cons (.set 1 (.lst true .nil)) (.cons (.set 2 (.comp false 1 false [0] (.var 0) (.seq (.dget (.var 0) (.cst (.str [107, 101, 112, 116])))) (.cons (.or (.cmp .Is (.dget (.var 1) (.cst (.str [108, 97, 115, 116]))) (.cst .non)) (.not (.call "_law_under" spL_under (.cons (.var 0) (.cons (.dget (.var 1) (.cst (.str [108, 97, 115, 116]))) .nil))))) .nil))) (.cons (.ite (.cmp .Eq (.var 2) (.lst false .nil)) (.cons (.exp (.meth "append" (.var 1) (.cons (.tup (.cons (.cst (.str [101, 110, 100])) .nil)) .nil))) (.cons (.set 2 (.dget (.var 0) (.cst (.str [107, 101, 112, 116])))) .nil)) .nil) (.cons (.set 3 (.call "_law_least" spL_least (.cons (.var 2) .nil))) (.cons (.exp (.rmv (.dget (.var 0) (.cst (.str [107, 101, 112, 116]))) (.cons (.var 3) .nil))) (.cons (.dput (.var 0) (.cst (.str [108, 97, 115, 116])) (.var 3)) (.cons (.ret (.cat false (.var 1) (.lst false (.cons (.tup (.cons (.cst (.str [111, 117, 116])) (.cons (.var 3) .nil))) .nil)))) .nil)))))))
noncomputable def nL_given : List Str := ["state", "item", "told"]
noncomputable def iL_given : Ss := (.cons (.set 2 (.lst false .nil)) (.cons (.ite (.cmp .Eq (.blt "len" (.cons (.dget (.var 0) (.cst (.str [107, 101, 112, 116]))) .nil)) (.dget (.var 0) (.cst (.str [114, 111, 111, 109])))) (.cons (.set 2 (.call "_law_out" spL_out (.cons (.var 0) .nil))) .nil) .nil) (.cons (.exp (.meth "append" (.dget (.var 0) (.cst (.str [107, 101, 112, 116]))) (.cons (.var 1) .nil))) (.cons (.ret (.var 2)) .nil))))
noncomputable def nL_finished : List Str := ["state", "told"]
noncomputable def iL_finished : Ss := (.cons (.set 1 (.lst false .nil)) (.cons (.whl (.cmpT true (.dget (.var 0) (.cst (.str [107, 101, 112, 116]))) (.lst false .nil)) (.cons (.set 1 (.cat false (.var 1) (.call "_law_out" spL_out (.cons (.var 0) .nil)))) .nil)) (.cons (.ite (.cmp .IsNot (.dget (.var 0) (.cst (.str [108, 97, 115, 116]))) (.cst .non)) (.cons (.set 1 (.cat false (.var 1) (.lst false (.cons (.tup (.cons (.cst (.str [101, 110, 100])) .nil)) .nil)))) .nil) .nil) (.cons (.dput (.var 0) (.cst (.str [108, 97, 115, 116])) (.cst .non)) (.cons (.ret (.var 1)) .nil)))))
theorem kL_least : Keeps nL_least iL_least spL_least := by
  rintro ds μ Q ⟨a, l, rfl, ha, hne, h⟩
  cases l with
  | nil => exact absurd rfl hne
  | cons x r =>
    have hs : seqOf μ a = some ((x :: r).map itD) := by
      rcases ha with rfl | ⟨n, rfl, hn⟩
      · rfl
      · simp [seqOf, hn]
    have hw : ∀ Q : QI, (∀ g : Mem → Prop, g μ → Q ((x :: r).map itD) g μ) → wSeq a μ Q := by
      intro Q q
      rcases ha with rfl | ⟨n, rfl, hn⟩
      · exact q _ trivial
      · simp only [wSeq, hn]
        exact q _ hn
    simp only [iL_least, nL_least, startD, topZ, wSs, wS, wE, wEs, wI, List.map_cons, List.map_nil, List.length_cons, List.length_nil, List.cons_append, List.nil_append, List.getElem?_cons_zero, List.getElem?_cons_succ, List.replicate, List.set_cons_succ, List.set_cons_zero]
    have hi : ∀ Q : QD, Q (itD x) μ → wIdx a (.int 0) μ Q := by
      intro Q q
      rcases ha with rfl | ⟨n, rfl, hn⟩
      · simpa [wIdx, seqOf, ixD] using q
      · simpa [wIdx, seqOf, hn, ixD] using q
    refine hi _ (hw _ fun g hg => ?_)
    refine wLoop_inv (fun ds ρ μ' => ∃ (l : List Itm) (b : Itm) (c : Option D), ds = l.map itD ∧ leastF b l = leastI (x :: r) ∧ ρ = [some a, some (itD b), c] ∧ μ' = μ) ?_ ?_ _ _ _ ⟨x :: r, x, none, rfl, rfl, rfl, rfl⟩
    · rintro d ds ρ μ1 N hN ⟨l, b, c, e, hl, rfl, rfl⟩
      cases l with
      | nil => simp at e
      | cons y l =>
        simp only [List.map_cons, List.cons.injEq] at e
        obtain ⟨rfl, rfl⟩ := e
        refine ⟨hg, ?_⟩
        simp only [bindT, wT, wE, wEs, List.set_cons_succ, List.set_cons_zero, List.getElem?_cons_zero, List.getElem?_cons_succ]
        refine ⟨y, b, rfl, ?_⟩
        simp only [wTru, truth]
        unfold leastF at hl
        rw [List.foldl_cons] at hl
        by_cases q : lt2 y b = true
        · rw [if_pos q] at hl
          simp only [q, if_true, wSs, wS, wE, List.set_cons_succ, List.set_cons_zero, List.getElem?_cons_zero, List.getElem?_cons_succ]
          exact hN _ _ ⟨l, y, _, rfl, hl, rfl, rfl⟩
        · rw [if_neg q] at hl
          simp only [q, Bool.false_eq_true, if_false, wSs]
          exact hN _ _ ⟨l, b, _, rfl, hl, rfl, rfl⟩
    · rintro ρ μ1 ⟨l, b, c, e, hl, rfl, rfl⟩
      have : l = [] := by simpa using e.symm
      subst this
      refine ⟨hg, ?_⟩
      simp only [List.getElem?_cons_zero, List.getElem?_cons_succ]
      have : b = leastI (x :: r) := hl
      rw [this]; exact h
theorem kL_out : Keeps nL_out iL_out spL_out := by
  rintro ds μ Q ⟨n, c, rfl, hc, hne, hl, hok, h⟩
  have hn1 : n + 1 < μ.length := (List.getElem?_eq_some_iff.mp hc.2).1
  simp only [iL_out, nL_out, startD, topZ, wSs, wS, wE, wEs, wI, newL, lim, List.map_cons, List.map_nil, List.length_cons, List.length_nil, List.cons_append, List.nil_append, List.getElem?_cons_zero, List.getElem?_cons_succ, List.replicate, List.set_cons_succ, List.set_cons_zero, Option.join_some]
  refine ⟨by omega, ?_⟩
  have f1 : Fr μ (μ ++ [Cell.lst []]) n := (Fr.refl μ n).push _
  have c1 := hc.push (Cell.lst [])
  have t1 : (μ ++ [Cell.lst []])[μ.length]? = some (.lst (([] : List Tk).map tkD)) := by simp
  generalize μ ++ [Cell.lst []] = μ1 at f1 c1 t1
  refine get_kept c1 ?_
  simp only [wSeq, c1.2]
  refine wComp_mapL itD (mayGo c.last) itD c1.2 _ _ ?_ ?_
  · intro x hx Y N z
    simp only [bindC, wTs, wT, wE, wEs, List.getElem?_cons_zero, List.getElem?_cons_succ]
    refine get_last c1 ?_
    cases hla : c.last with
    | none =>
      rw [hla] at z
      simpa [lastD, wCmp, isNon, wBl, mayGo] using z
    | some la =>
      rw [hla] at z
      simp only [lastD, wCmp, isNon, itD, wBl, Bool.false_eq_true, if_false]
      refine get_last c1 ?_
      rw [hla]
      refine ⟨x, la, rfl, ?_⟩
      simpa [mayGo, wTru, truth, itD] using z
  · have ea : c.kept.filter (mayGo c.last) = able c := rfl
    rw [List.nil_append, ea]
    have fin : ∀ (μ2 : Mem) (tk : List Tk) (a : D), Fr μ μ2 n → isSt μ2 n c → μ2[μ.length]? = some (.lst (tk.map tkD)) → tk.length < 10 → (a = .lst ((src c).map itD) ∨ ∃ n, a = .loc n ∧ μ2[n]? = some (.lst ((src c).map itD))) → tk ++ [some (leastI (src c))] = (outF c).1 →
        spL_least [a] μ2 fun v μ1 => wDget (.loc n) (.str [107, 101, 112, 116]) μ1 fun x μ1 => isLs μ1 x = true ∧ wRmv x [v] μ1 fun d μ1 => wDput (.loc n) (.str [108, 97, 115, 116]) v μ1 fun μ4 => [D.str [111, 117, 116], v].length ≤ 16777216 ∧ [D.tup [.str [111, 117, 116], v]].length ≤ 16777216 ∧ wCat false (.loc μ.length) (.lst [.tup [.str [111, 117, 116], v]]) μ4 Q := by
      intro μ2 tk a f2 c2 t2 tl ha et
      refine ⟨a, src c, rfl, ha, src_ne hne, ?_⟩
      refine get_kept c2 ⟨by simp [isLs, c2.2], ?_⟩
      simp only [wRmv, c2.2]
      refine ⟨c.kept, leastI (src c), rfl, rfl, out_mem hne, ?_⟩
      have hn3 : n + 1 < μ2.length := by have := f2.1; omega
      have c4 : isSt (μ2.set (n + 1) (Cell.lst ((c.kept.erase (leastI (src c))).map itD))) n ⟨c.room, c.kept.erase (leastI (src c)), c.last⟩ := ⟨by rw [List.getElem?_set_ne (by omega)]; exact c2.1, by rw [List.getElem?_set_self hn3]⟩
      have f4 : Fr μ (μ2.set (n + 1) (Cell.lst ((c.kept.erase (leastI (src c))).map itD))) n := f2.set _ (.inr (.inr rfl))
      have t4 : (μ2.set (n + 1) (Cell.lst ((c.kept.erase (leastI (src c))).map itD)))[μ.length]? = some (.lst (tk.map tkD)) := by rw [List.getElem?_set_ne (by omega)]; exact t2
      generalize μ2.set (n + 1) (Cell.lst ((c.kept.erase (leastI (src c))).map itD)) = μ4 at c4 f4 t4
      refine put_last (l := some (leastI (src c))) c4 fun μ5 e5 c5 => ⟨by simp, by simp, ?_⟩
      have f5 : Fr μ μ5 n := by rw [e5]; exact f4.set _ (.inr (.inl rfl))
      have t5 : μ5[μ.length]? = some (.lst (tk.map tkD)) := by rw [e5, List.getElem?_set_ne (by omega)]; exact t4
      simp only [wCat, wlOf, t5, newL, List.length_map, List.length_cons, List.length_nil]
      refine ⟨by simp only [lim]; omega, ?_⟩
      have := h μ5 f5 c5
      rw [← et] at this
      simpa [tkD] using this
    simp only [wT, wE, wEs, newL, wCmp, List.getElem?_cons_zero, List.getElem?_cons_succ]
    have hf : flat 60 (.lst ((able c).map itD)) = true := flats_items (fun x hx => hok x (List.mem_filter.mp hx).1)
    refine ⟨by simp, hf, rfl, ?_⟩
    simp only [wBl]
    by_cases ce : able c = []
    · have e0 : eqD (.lst ((able c).map itD)) (.lst []) = true := by rw [ce]; rfl
      simp only [e0, if_true, wSs, wS, wE, wEs, List.getElem?_cons_zero, List.getElem?_cons_succ, isCell, t1, true_and]
      refine ⟨by decide, ?_⟩
      refine append_ok (x := none) t1 (by decide) ?_
      have hm1 : μ.length < μ1.length := (List.getElem?_eq_some_iff.mp t1).1
      have c2 := c1.other (t := μ.length) (Cell.lst (([] ++ [none] : List Tk).map tkD)) (by omega) (by omega)
      have f2 := f1.set (t := μ.length) (Cell.lst (([] ++ [none] : List Tk).map tkD)) (.inl (Nat.le_refl _))
      have t2 : (μ1.set μ.length (Cell.lst (([] ++ [none] : List Tk).map tkD)))[μ.length]? = some (.lst (([none] : List Tk).map tkD)) := by rw [List.getElem?_set_self hm1]; rfl
      generalize μ1.set μ.length (Cell.lst (([] ++ [none] : List Tk).map tkD)) = μ2 at c2 f2 t2
      refine get_kept c2 ?_
      refine fin μ2 [none] (.loc (n + 1)) f2 c2 t2 (by decide) (.inr ⟨n + 1, rfl, by rw [c2.2]; simp [src, ce]⟩) (by simp [outF, ce])
    · have e0 : eqD (.lst ((able c).map itD)) (.lst []) = false := by
        cases q : able c with
        | nil => exact absurd q ce
        | cons a r => rfl
      simp only [e0, Bool.false_eq_true, if_false, wSs, wS, wE, wEs, List.getElem?_cons_zero, List.getElem?_cons_succ]
      refine fin μ1 [] (.lst ((able c).map itD)) f1 c1 t1 (by decide) (.inl (by simp [src, ce])) (by simp [outF, ce])
theorem kL_given : Keeps nL_given iL_given spL_given := by
  rintro ds μ Q ⟨n, x, c, rfl, hc, hw, h⟩
  obtain ⟨w1, w2, w3, w4, w5, w6⟩ := hw
  have hn1 : n + 1 < μ.length := (List.getElem?_eq_some_iff.mp hc.2).1
  simp only [iL_given, nL_given, startD, topZ, wSs, wS, wT, wE, wEs, newL, lim, List.map_cons, List.map_nil, List.length_cons, List.length_nil, List.cons_append, List.nil_append, List.getElem?_cons_zero, List.getElem?_cons_succ, List.replicate, List.set_cons_succ, List.set_cons_zero]
  refine ⟨by omega, ?_⟩
  refine get_kept hc ?_
  simp only [wBlt, lenOf, seqOf, hc.2, Option.map_some, List.length_map]
  refine get_room hc ?_
  simp only [wCmp, flat, true_and, wBl]
  have fin : ∀ (μ2 : Mem) (tk : List Tk) (k : List Itm) (la : Option Itm), Fr μ μ2 n → isSt μ2 n ⟨c.room, k, la⟩ → k.length ≤ 50 → giveF c x = (tk, ⟨c.room, k ++ [x], la⟩) →
      wDget (.loc n) (.str [107, 101, 112, 116]) μ2 fun x_1 μ1 => isCell μ1 x_1 = true ∧ wMeth "append" x_1 [itD x] μ1 fun d μ1 => Q (.lst (tk.map tkD)) μ1 := by
    intro μ2 tk k la f2 c2 kl eg
    refine get_kept c2 ⟨by simp [isCell, c2.2], ?_⟩
    have hn2 : n + 1 < μ2.length := by have := f2.1; omega
    simp only [wMeth, c2.2, wMethL, List.length_map]
    refine ⟨by simp only [lim]; omega, ?_⟩
    have := h (μ2.set (n + 1) (.lst ((k ++ [x]).map itD))) (f2.set _ (.inr (.inr rfl))) (by
      rw [eg]
      exact ⟨by rw [List.getElem?_set_ne (by omega)]; exact c2.1, by rw [List.getElem?_set_self hn2]⟩)
    rw [eg] at this
    simpa using this
  by_cases ce : c.kept.length = c.room
  · have e0 : eqD (.int (c.kept.length : Int)) (.int (c.room : Int)) = true := by simp [eqD, ce]
    have hne : c.kept ≠ [] := fun z => by rw [z] at ce; simp at ce; omega
    simp only [e0, if_true, wSs, wS, wE, wEs, List.getElem?_cons_zero, List.getElem?_cons_succ]
    refine ⟨n, c, rfl, hc, hne, by omega, w5, fun μ2 f2 c2 => ?_⟩
    have ol := out_len hne
    exact fin μ2 _ (outF c).2.kept (outF c).2.last f2 c2 (by omega) (by simp only [giveF, ce, if_true])
  · have e0 : eqD (.int (c.kept.length : Int)) (.int (c.room : Int)) = false := by
      simp only [eqD]
      have : ¬ ((c.kept.length : Int) = (c.room : Int)) := by omega
      simpa using this
    simp only [e0, Bool.false_eq_true, if_false, wSs]
    exact fin μ [] _ _ (Fr.refl _ _) hc (by omega) (by simp only [giveF, ce, if_false])
theorem out_ok {c : Ch} (hne : c.kept ≠ []) (h : ∀ x ∈ c.kept, ItOk x) : (∀ x ∈ (outF c).2.kept, ItOk x) ∧ AllOk (outF c).1 ∧ ∀ x, (outF c).2.last = some x → ItOk x := by
  have hm := h _ (out_mem hne)
  refine ⟨fun x hx => h x (List.mem_of_mem_erase hx), fun x hx => ?_, fun x hx => ?_⟩
  · simp only [outF] at hx
    rcases List.mem_append.mp hx with hx | hx
    · split at hx <;> simp at hx
    · have := List.mem_singleton.mp hx
      cases this; exact hm
  · simp only [outF, Option.some.injEq] at hx
    subst hx; exact hm
theorem finL_ok : ∀ (m : Nat) (c : Ch), c.kept.length ≤ m → (∀ x ∈ c.kept, ItOk x) → AllOk (finL m c).1 ∧ ((finL m c).1 = [] ↔ c.kept = [])
  | 0, c, hl, _ => by
    have : c.kept = [] := List.length_eq_zero_iff.mp (by omega)
    simp [finL, this, AllOk]
  | m + 1, c, hl, h => by
    simp only [finL]
    by_cases e : c.kept = []
    · rw [if_pos e]; simp [AllOk, e]
    · rw [if_neg e]
      obtain ⟨o1, o2, o3⟩ := out_ok e h
      have ol := out_len e
      obtain ⟨i1, _⟩ := finL_ok m (outF c).2 (by omega) o1
      refine ⟨fun x hx => ?_, ?_⟩
      · rcases List.mem_append.mp hx with hx | hx
        · exact o2 x hx
        · exact i1 x hx
      · constructor
        · intro z
          have := congrArg List.length z
          simp [outF] at this
        · intro z; exact absurd z e
theorem give_ok {c : Ch} {x : Itm} (hw : Wf c) (hx : ItOk x) : Wf (giveF c x).2 ∧ AllOk (giveF c x).1 := by
  obtain ⟨w1, w2, w3, w4, w5, w6⟩ := hw
  unfold giveF
  by_cases ce : c.kept.length = c.room
  · rw [if_pos ce]
    have hne : c.kept ≠ [] := fun z => by rw [z] at ce; simp at ce; omega
    obtain ⟨o1, o2, o3⟩ := out_ok hne w5
    have ol := out_len hne
    refine ⟨⟨w1, w2, by simp; omega, fun z => by simp at z, fun y hy => ?_, o3⟩, o2⟩
    rcases List.mem_append.mp hy with hy | hy
    · exact o1 y hy
    · have := List.mem_singleton.mp hy; subst this; exact hx
  · rw [if_neg ce]
    refine ⟨⟨w1, w2, by simp; omega, fun z => by simp at z, fun y hy => ?_, w6⟩, by simp [AllOk]⟩
    rcases List.mem_append.mp hy with hy | hy
    · exact w5 y hy
    · have := List.mem_singleton.mp hy; subst this; exact hx
theorem fin_ok {c : Ch} (hw : Wf c) : Wf (finF c).2 ∧ AllOk (finF c).1 := by
  obtain ⟨w1, w2, w3, w4, w5, w6⟩ := hw
  have fo := finL_ok c.kept.length c (Nat.le_refl _) w5
  refine ⟨⟨w1, w2, Nat.zero_le _, fun _ => rfl, by simp [finF], by simp [finF]⟩, fun x hx => ?_⟩
  simp only [finF] at hx
  split at hx
  · simp at hx
  · rcases List.mem_append.mp hx with hx | hx
    · exact fo.1 x hx
    · simp at hx
theorem kL_finished : Keeps nL_finished iL_finished spL_finished := by
  rintro ds μ Q ⟨n, c, rfl, hc, hw, h⟩
  obtain ⟨w1, w2, w3, w4, w5, w6⟩ := hw
  have hn1 : n + 1 < μ.length := (List.getElem?_eq_some_iff.mp hc.2).1
  have fl := finL_len c.kept.length c (Nat.le_refl _)
  have fo := finL_ok c.kept.length c (Nat.le_refl _) w5
  simp only [iL_finished, nL_finished, startD, topZ, wSs, wS, wE, wEs, newL, lim, List.map_cons, List.map_nil, List.length_cons, List.length_nil, List.cons_append, List.nil_append, List.getElem?_cons_zero, List.getElem?_cons_succ, List.replicate, List.set_cons_succ, List.set_cons_zero]
  refine ⟨by omega, ?_⟩
  refine ⟨fun M ρ μ' => ∃ (c' : Ch) (tk : List Tk), M = c'.kept.length ∧ c'.kept.length ≤ 50 ∧ c'.room = c.room ∧ (∀ x ∈ c'.kept, ItOk x) ∧ (c'.last = none ↔ tk = [] ∧ c.last = none) ∧ Fr μ μ' n ∧ isSt μ' n c' ∧ tk ++ (finL M c').1 = (finL c.kept.length c).1 ∧ ρ = [some (.loc n), some (.lst (tk.map tkD))],
    ⟨_, c, [], rfl, by omega, rfl, w5, by simp, Fr.refl _ _, hc, rfl, rfl⟩, ?_⟩
  rintro M ρ μ' ⟨c', tk, rfl, hl, er, hok, hla, f2, c2, et, rfl⟩
  simp only [wT, wE, wEs, newL, List.getElem?_cons_zero, List.getElem?_cons_succ]
  refine get_kept c2 ⟨by simp, ?_⟩
  have hth : thaw μ' 8 (.loc (n + 1)) = .lst (c'.kept.map itD) := by rw [thaw_loc c2.2, thaw_map μ' 7 itD (fun x => thaw_it μ' 7 x)]
  have hf : flat 60 (.lst (c'.kept.map itD)) = true := flats_items hok
  simp only [wEqT, hth]
  refine ⟨hf, rfl, ?_⟩
  have hth2 : thaw μ' 8 (.lst []) = .lst [] := rfl
  rw [hth2]
  simp only [wBl]
  by_cases ce : c'.kept = []
  · have e0 : (true != eqD (.lst (c'.kept.map itD)) (.lst [])) = false := by rw [ce]; rfl
    simp only [e0, Bool.false_eq_true, if_false, wSs, wS, wT, wE, wEs, newL, List.getElem?_cons_zero, List.getElem?_cons_succ]
    have et' : tk = (finL c.kept.length c).1 := by
      rw [← et]
      cases q : c'.kept.length with
      | zero => simp [finL]
      | succ k => rw [ce] at q; simp at q
    have fin : ∀ tk', tk' = (finF c).1 → wDput (.loc n) (.str [108, 97, 115, 116]) .non μ' fun μ4 => Q (.lst (tk'.map tkD)) μ4 := by
      rintro tk' rfl
      refine put_last (l := none) c2 fun μ4 e4 c4 => ?_
      refine h μ4 (by rw [e4]; exact f2.set _ (.inr (.inl rfl))) ?_
      rw [ce, er] at c4
      exact c4
    refine get_last c2 ?_
    cases hlc : c'.last with
    | none =>
      obtain ⟨q1, q2⟩ := hla.mp hlc
      simp only [lastD, wCmp, isNon, wBl, Bool.not_true, Bool.false_eq_true, if_false]
      refine fin tk ?_
      rw [q1]
      have : (finL c.kept.length c).1 = [] := by rw [← et', q1]
      simp [finF, this]
    | some y =>
      have hne : tk ≠ [] := fun z => by
        have ek : c.kept = [] := fo.2.mp (by rw [← et', z])
        have := hla.mpr ⟨z, w4 ek⟩
        rw [hlc] at this; cases this
      simp only [lastD, wCmp, isNon, itD, wBl, Bool.not_false, if_true, wSs, wS, wE, wEs, newL, List.getElem?_cons_zero, List.getElem?_cons_succ]
      refine ⟨by simp, by simp, ?_⟩
      simp only [wCat, wlOf, newL, List.length_map, List.length_cons, List.length_nil]
      refine ⟨by simp only [lim]; rw [et']; omega, ?_⟩
      have : ¬ (finL c.kept.length c).1 = [] := by rw [← et']; exact hne
      have := fin (tk ++ [none]) (by simp [finF, this, et'])
      simpa [tkD] using this
  · have e0 : (true != eqD (.lst (c'.kept.map itD)) (.lst [])) = true := by
      cases q : c'.kept with
      | nil => exact absurd q ce
      | cons a r => rfl
    simp only [e0, if_true, wSs, wS, wE, wEs, List.getElem?_cons_zero, List.getElem?_cons_succ]
    refine ⟨n, c', rfl, c2, ce, hl, hok, fun μ3 f3 c3 => ?_⟩
    have ol := out_len ce
    have ek : tk ++ (outF c').1 ++ (finL (outF c').2.kept.length (outF c').2).1 = (finL c.kept.length c).1 := by
      rw [← et, ← ol, finL, if_neg ce, List.append_assoc]
    have elen : tk.length + (outF c').1.length ≤ 100 := by
      have := congrArg List.length ek
      simp only [List.length_append] at this
      omega
    simp only [wCat, wlOf, newL, List.length_map]
    refine ⟨by simp only [lim]; omega, (outF c').2.kept.length, by omega, (outF c').2, tk ++ (outF c').1, rfl, by omega, by rw [← er]; rfl, (out_ok ce hok).1, ?_, f2.trans f3, c3, ek, by simp⟩
    simp [outF]
end DW.CHO
end

section
set_option linter.all false
set_option autoImplicit false
set_option maxRecDepth 100000
set_option exponentiation.threshold 1000
/-! CHR: rows chosen to runs. -/
namespace DW.CHO
open PySem DW DW.K03 DW.K25
noncomputable def runsT : List Tk → List Itm → List (List Itm)
  | [], _ => []
  | none :: r, run => run :: runsT r []
  | some x :: r, run => runsT r (run ++ [x])
noncomputable def givesF : Ch → List Itm → List Tk × Ch
  | c, [] => ([], c)
  | c, x :: r => ((giveF c x).1 ++ (givesF (giveF c x).2 r).1, (givesF (giveF c x).2 r).2)
noncomputable def newCh (m : Nat) : Ch := ⟨m, [], none⟩
noncomputable def tellF (row : List Itm) (m : Nat) : List Tk := (givesF (newCh m) row).1 ++ (finF (givesF (newCh m) row).2).1
noncomputable def chosenF (row : List Itm) (m : Nat) : List (List Itm) := runsT (tellF row m) []
/-- what was there stays -/
noncomputable def Pre (μ μ' : Mem) : Prop := μ.length ≤ μ'.length ∧ ∀ i, i < μ.length → μ'[i]? = μ[i]?
theorem Pre.refl (μ : Mem) : Pre μ μ := ⟨Nat.le_refl _, fun _ _ => rfl⟩
theorem Pre.trans {a b c : Mem} (h : Pre a b) (k : Pre b c) : Pre a c := ⟨Nat.le_trans h.1 k.1, fun i hi => by rw [k.2 i (Nat.lt_of_lt_of_le hi h.1), h.2 i hi]⟩
theorem Pre.app (μ ν : Mem) : Pre μ (μ ++ ν) := ⟨by simp, fun i hi => List.getElem?_append_left hi⟩
theorem Pre.set {μ μ' : Mem} {t : Nat} (h : Pre μ μ') (c : Cell) (ht : μ.length ≤ t) : Pre μ (μ'.set t c) := ⟨by have := h.1; simp; omega, fun i hi => by rw [List.getElem?_set_ne (by omega)]; exact h.2 i hi⟩
theorem Pre.fr {μ μ' μ'' : Mem} {n : Nat} (h : Pre μ μ') (f : Fr μ' μ'' n) (hn : μ.length ≤ n) : Pre μ μ'' := ⟨Nat.le_trans h.1 f.1, fun i hi => by rw [f.2 i (Nat.lt_of_lt_of_le hi h.1) (by omega) (by omega)]; exact h.2 i hi⟩
theorem Pre.get {μ μ' : Mem} {i : Nat} {c : Cell} (h : Pre μ μ') (g : μ[i]? = some c) : μ'[i]? = some c := by rw [h.2 i (List.getElem?_eq_some_iff.mp g).1]; exact g
noncomputable def sp_runs_told : DSp := fun ds μ Q => ∃ (t : Nat) (tk : List Tk), ds = [.loc t] ∧ μ[t]? = some (.lst (tk.map tkD)) ∧ tk.length ≤ 1000 ∧ ∀ μ' n ls, Pre μ μ' → LL μ' μ.length n ls (runsT tk []) → Q (.loc n) μ'
noncomputable def sp_chosen : DSp := fun ds μ Q => ∃ (row : List Itm) (m : Nat), ds = [.lst (row.map itD), .int (m : Int)] ∧ row.length ≤ 300 ∧ 1 ≤ m ∧ m ≤ 50 ∧ (∀ x ∈ row, ItOk x) ∧ ∀ μ' n ls, Pre μ μ' → LL μ' μ.length n ls (chosenF row m) → Q (.loc n) μ'
noncomputable def n_chosen : List Str := ["row", "room", "chooser", "told", "item"]
noncomputable def i_chosen : Ss := (.cons (.set 2 (.mk "Chooser" sp_Chooser_init (.cons (.var 1) .nil))) (.cons (.set 3 (.lst true .nil)) (.cons (.for_ [4] false (.seq (.var 0)) (.cons (.exp (.meth "extend" (.var 3) (.cons (.mth "Chooser" "give" sp_Chooser_give (.var 2) (.cons (.var 4) .nil)) .nil))) .nil)) (.cons (.exp (.meth "extend" (.var 3) (.cons (.mth "Chooser" "finish" sp_Chooser_finish (.var 2) .nil) .nil))) (.cons (.ret (.call "runs_told" sp_runs_told (.cons (.var 3) .nil))) .nil)))))
noncomputable def n_runs_told : List Str := ["told", "runs", "run", "deed"]
noncomputable def i_runs_told : Ss := (.cons (.set 1 (.lst true .nil)) (.cons (.set 2 (.lst true .nil)) (.cons (.for_ [3] false (.seq (.var 0)) (.cons (.ite (.cmp .Eq (.idx (.var 3) (.cst (.int 0))) (.cst (.str [111, 117, 116]))) (.cons (.exp (.meth "append" (.var 2) (.cons (.idx (.var 3) (.cst (.int 1))) .nil))) .nil) (.cons (.exp (.meth "append" (.var 1) (.cons (.var 2) .nil))) (.cons (.set 2 (.lst true .nil)) .nil))) .nil)) (.cons (.ret (.var 1)) .nil))))
theorem k_runs_told : Keeps n_runs_told i_runs_told sp_runs_told := by
  rintro ds μ Q ⟨t, tk, rfl, ht, hl, h⟩
  have htl : t < μ.length := (List.getElem?_eq_some_iff.mp ht).1
  simp only [i_runs_told, n_runs_told, startD, topZ, wSs, wS, wE, wEs, wI, newL, lim, wSeq, List.map_cons, List.map_nil, List.length_cons, List.length_nil, List.cons_append, List.nil_append, List.getElem?_cons_zero, List.getElem?_cons_succ, List.replicate, List.set_cons_succ, List.set_cons_zero]
  refine ⟨by omega, by omega, ?_⟩
  have p2 : Pre μ (μ ++ [Cell.lst []] ++ [Cell.lst []]) := by rw [List.append_assoc]; exact Pre.app _ _
  have t2 := p2.get ht
  rw [t2]
  simp only
  have g0 : (μ ++ [Cell.lst []] ++ [Cell.lst []])[μ.length]? = some (.lst (([] : List Nat).map D.loc)) := by simp
  have g1 : (μ ++ [Cell.lst []] ++ [Cell.lst []])[μ.length + 1]? = some (.lst (([] : List Itm).map itD)) := by simp
  have e1 : (μ ++ [Cell.lst []]).length = μ.length + 1 := by simp
  rw [e1]
  generalize μ ++ [Cell.lst []] ++ [Cell.lst []] = μ2 at p2 t2 g0 g1
  refine wLoop_inv (fun ds ρ μ' => ∃ (rest : List Tk) (ls : List Nat) (done : List (List Itm)) (q : Nat) (run : List Itm) (a : Option D), ds = rest.map tkD ∧ run.length + rest.length ≤ 1000 ∧ done.length + rest.length ≤ 1000 ∧ Pre μ μ' ∧ LL μ' μ.length μ.length ls done ∧ μ.length < q ∧ q ∉ ls ∧ μ'[q]? = some (.lst (run.map itD)) ∧ done ++ runsT rest run = runsT tk [] ∧
    ρ = [some (.loc t), some (.loc μ.length), some (.loc q), a]) ?_ ?_ _ _ _ ⟨tk, [], [], μ.length + 1, [], none, rfl, by simpa using hl, by simpa using hl, p2, ⟨Nat.le_refl _, g0, rfl, by simp, by simp⟩, by omega, by simp, g1, rfl, rfl⟩
  · rintro d ds ρ μ1 N hN ⟨rest, ls, done, q, run, a, e, h1, h2, hp, hL, hq, hqn, gq, er, rfl⟩
    have ql : q < μ1.length := (List.getElem?_eq_some_iff.mp gq).1
    cases rest with
    | nil => simp at e
    | cons y rest =>
      simp only [List.map_cons, List.cons.injEq] at e
      obtain ⟨rfl, rfl⟩ := e
      simp only [List.length_cons] at h1 h2
      refine ⟨hp.get ht, ?_⟩
      cases y with
      | none =>
        have nl : μ.length < μ1.length := by omega
        simp [tkD, bindT, wT, wE, wIdx, seqOf, ixD, wCmp, flat, eqD, wBl, isCell, hL.at_, wMeth, wMethL, newL, lim]
        refine ⟨by rw [hL.len]; omega, ?_⟩
        refine hN _ _ ⟨rest, ls ++ [q], done ++ [run], μ1.length, [], _, rfl, by simp; omega, by simp; omega, ?_, ?_, by omega, ?_, by simp, by rw [← er]; simp [runsT], rfl⟩
        · exact (hp.set _ (Nat.le_refl _)).trans (Pre.app _ _)
        · refine LL.app ⟨Nat.le_refl _, by rw [List.getElem?_set_self nl]; simp, by simp [hL.len], fun l hl' => ?_, fun i l r i1 i2 => ?_⟩ _
          · rcases List.mem_append.mp hl' with hl' | hl'
            · exact hL.sub l hl'
            · have := List.mem_singleton.mp hl'; subst this; exact ⟨by omega, by omega⟩
          · have hne : l ≠ μ.length := by
              rcases List.mem_append.mp (List.mem_of_getElem? i1) with z | z
              · exact (hL.sub l z).2
              · have := List.mem_singleton.mp z; omega
            rw [List.getElem?_set_ne (Ne.symm hne)]
            rcases Nat.lt_or_ge i ls.length with z | z
            · rw [List.getElem?_append_left z] at i1
              rw [List.getElem?_append_left (by rw [← hL.len]; exact z)] at i2
              exact hL.row i l r i1 i2
            · have hi : i = ls.length := by
                have := (List.getElem?_eq_some_iff.mp i1).1
                simp at this; omega
              subst hi
              rw [List.getElem?_append_right (Nat.le_refl _)] at i1
              rw [hL.len, List.getElem?_append_right (Nat.le_refl _)] at i2
              simp at i1 i2
              subst i1 i2
              exact gq
        · intro z
          rcases List.mem_append.mp z with z | z
          · obtain ⟨i, hi, ei⟩ := List.mem_iff_getElem.mp z
            have hir : i < done.length := by rw [← hL.len]; exact hi
            have := hL.row i ls[i] done[i] (List.getElem?_eq_getElem hi) (List.getElem?_eq_getElem hir)
            have := (List.getElem?_eq_some_iff.mp this).1
            omega
          · have := List.mem_singleton.mp z; omega
      | some x =>
        simp [tkD, bindT, wT, wE, wIdx, seqOf, ixD, wCmp, flat, eqD, wBl, isCell, gq, wMeth, wMethL, lim]
        refine ⟨by omega, ?_⟩
        refine hN _ _ ⟨rest, ls, done, q, run ++ [x], _, rfl, by simp; omega, by omega, hp.set _ (by omega), ⟨hL.lo, by rw [List.getElem?_set_ne (by omega)]; exact hL.at_, hL.len, hL.sub, fun i l r i1 i2 => ?_⟩, hq, hqn, by rw [List.getElem?_set_self ql]; simp, by rw [← er]; rfl, rfl⟩
        have hne : l ≠ q := fun z => hqn (z ▸ List.mem_of_getElem? i1)
        rw [List.getElem?_set_ne (Ne.symm hne)]
        exact hL.row i l r i1 i2
  · rintro ρ μ1 ⟨rest, ls, done, q, run, a, e, h1, h2, hp, hL, hq, hqn, gq, er, rfl⟩
    have : rest = [] := by simpa using e.symm
    subst this
    refine ⟨hp.get ht, ?_⟩
    simp only [List.getElem?_cons_zero, List.getElem?_cons_succ]
    rw [show done = runsT tk [] by rw [← er]; simp [runsT]] at hL
    exact h μ1 _ ls hp hL
theorem gives_ok : ∀ (row : List Itm) (c : Ch), Wf c → (∀ x ∈ row, ItOk x) → Wf (givesF c row).2 ∧ AllOk (givesF c row).1 ∧ (givesF c row).1.length ≤ 2 * row.length
  | [], c, hw, _ => ⟨hw, by simp [givesF, AllOk], by simp [givesF]⟩
  | x :: row, c, hw, h => by
    obtain ⟨g1, g2⟩ := give_ok hw (h x (by simp))
    obtain ⟨i1, i2, i3⟩ := gives_ok row (giveF c x).2 g1 fun y hy => h y (by simp [hy])
    refine ⟨i1, fun y hy => ?_, ?_⟩
    · rcases List.mem_append.mp hy with hy | hy
      · exact g2 y hy
      · exact i2 y hy
    · have : (giveF c x).1.length ≤ 2 := by
        unfold giveF
        split
        · simp only [outF]; split <;> simp
        · simp
      simp only [givesF, List.length_append, List.length_cons]; omega
theorem fin_le {c : Ch} (hw : Wf c) : (finF c).1.length ≤ 101 := by
  have := (finL_len c.kept.length c (Nat.le_refl _)).1
  have := hw.2.1; have := hw.2.2.1
  simp only [finF]
  split
  · simp
  · simp; omega
theorem new_wf {m : Nat} (h1 : 1 ≤ m) (h2 : m ≤ 50) : Wf (newCh m) := ⟨h1, h2, Nat.zero_le _, fun _ => rfl, by simp [newCh], by simp [newCh]⟩
theorem k_chosen : Keeps n_chosen i_chosen sp_chosen := by
  rintro ds μ Q ⟨row, m, rfl, hl, m1, m2, hok, h⟩
  simp only [i_chosen, n_chosen, startD, topZ, wSs, wS, wE, wEs, wI, newL, lim, wSeq, List.map_cons, List.map_nil, List.length_cons, List.length_nil, List.cons_append, List.nil_append, List.getElem?_cons_zero, List.getElem?_cons_succ, List.replicate, List.set_cons_succ, List.set_cons_zero]
  refine ⟨μ, m, rfl, rfl, m1, m2, rfl, by omega, ?_⟩
  have el : (μ ++ [Cell.ins "Chooser" [("room", D.int (m : Int)), ("kept", D.loc (μ.length + 1)), ("last", D.non)], Cell.lst []]).length = μ.length + 2 := by simp
  rw [el]
  have p2 : Pre μ (μ ++ [Cell.ins "Chooser" [("room", D.int (m : Int)), ("kept", D.loc (μ.length + 1)), ("last", D.non)], Cell.lst []] ++ [Cell.lst []]) := by rw [List.append_assoc]; exact Pre.app _ _
  have c2 : isCh (μ ++ [Cell.ins "Chooser" [("room", D.int (m : Int)), ("kept", D.loc (μ.length + 1)), ("last", D.non)], Cell.lst []] ++ [Cell.lst []]) μ.length (newCh m) := ⟨by simp [newCh, lastD], by simp [newCh]⟩
  have t2 : (μ ++ [Cell.ins "Chooser" [("room", D.int (m : Int)), ("kept", D.loc (μ.length + 1)), ("last", D.non)], Cell.lst []] ++ [Cell.lst []])[μ.length + 2]? = some (.lst (([] : List Tk).map tkD)) := by simp
  generalize μ ++ [Cell.ins "Chooser" [("room", D.int (m : Int)), ("kept", D.loc (μ.length + 1)), ("last", D.non)], Cell.lst []] ++ [Cell.lst []] = μ2 at p2 c2 t2
  have go := gives_ok row (newCh m) (new_wf m1 m2) hok
  refine wLoop_inv (fun ds ρ μ' => ∃ (rest : List Itm) (c : Ch) (tk : List Tk) (a : Option D), ds = rest.map itD ∧ (∀ x ∈ rest, ItOk x) ∧ tk.length + 2 * rest.length ≤ 600 ∧ Pre μ μ' ∧ isCh μ' μ.length c ∧ Wf c ∧ μ'[μ.length + 2]? = some (.lst (tk.map tkD)) ∧ tk ++ (givesF c rest).1 = (givesF (newCh m) row).1 ∧ (givesF c rest).2 = (givesF (newCh m) row).2 ∧
    ρ = [some (.lst (row.map itD)), some (.int (m : Int)), some (.loc μ.length), some (.loc (μ.length + 2)), a]) ?_ ?_ _ _ _ ⟨row, newCh m, [], none, rfl, hok, by simp; omega, p2, c2, new_wf m1 m2, t2, rfl, rfl, rfl⟩
  · rintro d ds ρ μ1 N hN ⟨rest, c, tk, a, e, ok1, tl, hp, hc, hw, gt, e1, e2, rfl⟩
    cases rest with
    | nil => simp at e
    | cons x rest =>
      simp only [List.map_cons, List.cons.injEq] at e
      obtain ⟨rfl, rfl⟩ := e
      simp only [List.length_cons] at tl
      refine ⟨trivial, ?_⟩
      simp only [bindT, List.set_cons_succ, List.set_cons_zero, List.getElem?_cons_zero, List.getElem?_cons_succ]
      refine ⟨by simp [isCell, gt], isIns_ch hc (by decide) (by decide) (by decide), μ.length, x, c, rfl, hc, hw, fun μ3 t f3 c3 ht t3 => ?_⟩
      have gl : μ.length + 2 < μ1.length := (List.getElem?_eq_some_iff.mp gt).1
      have gt3 : μ3[μ.length + 2]? = some (.lst (tk.map tkD)) := by rw [f3.2 _ gl (by omega) (by omega)]; exact gt
      have gl3 : μ.length + 2 < μ3.length := (List.getElem?_eq_some_iff.mp gt3).1
      have gle : (giveF c x).1.length ≤ 2 := by
        unfold giveF
        split
        · simp only [outF]; split <;> simp
        · simp
      simp only [wMeth, gt3, wMethL, wlOf, t3, List.length_map]
      refine ⟨by simp only [lim]; omega, ?_⟩
      refine hN _ _ ⟨rest, (giveF c x).2, tk ++ (giveF c x).1, _, rfl, fun y hy => ok1 y (by simp [hy]), by simp; omega, (hp.fr f3 (Nat.le_refl _)).set _ (by omega), c3.other _ (by omega) (by omega), (give_ok hw (ok1 x (by simp))).1, by rw [List.getElem?_set_self gl3]; simp, by rw [← e1]; simp [givesF], by rw [← e2]; rfl, rfl⟩
  · rintro ρ μ1 ⟨rest, c, tk, a, e, ok1, tl, hp, hc, hw, gt, e1, e2, rfl⟩
    have : rest = [] := by simpa using e.symm
    subst this
    simp only [givesF, List.append_nil] at e1 e2
    subst e2
    refine ⟨trivial, ?_⟩
    simp only [List.getElem?_cons_zero, List.getElem?_cons_succ, wE, wEs]
    refine ⟨by simp [isCell, gt], isIns_ch hc (by decide) (by decide) (by decide), μ.length, _, rfl, hc, hw, fun μ3 t f3 c3 ht t3 => ?_⟩
    have gl : μ.length + 2 < μ1.length := (List.getElem?_eq_some_iff.mp gt).1
    have gt3 : μ3[μ.length + 2]? = some (.lst (tk.map tkD)) := by rw [f3.2 _ gl (by omega) (by omega)]; exact gt
    have gl3 : μ.length + 2 < μ3.length := (List.getElem?_eq_some_iff.mp gt3).1
    have fle := fin_le hw
    simp only [wMeth, gt3, wMethL, wlOf, t3, List.length_map]
    refine ⟨by simp only [lim]; omega, ?_⟩
    have p4 : Pre μ (μ3.set (μ.length + 2) (Cell.lst (tk.map tkD ++ (finF (givesF (newCh m) row).2).1.map tkD))) := (hp.fr f3 (Nat.le_refl _)).set _ (by omega)
    refine ⟨μ.length + 2, tellF row m, rfl, by rw [List.getElem?_set_self gl3, tellF, ← e1]; simp, by rw [tellF, ← e1]; simp; simp at tl; omega, fun μ5 n ls p5 hL => ?_⟩
    refine h μ5 n ls (p4.trans p5) ?_
    exact ⟨by have := hL.lo; have := p4.1; omega, hL.at_, hL.len, fun l hl' => ⟨by have := (hL.sub l hl').1; have := p4.1; omega, (hL.sub l hl').2⟩, hL.row⟩
end DW.CHO
end

section
set_option linter.all false
set_option autoImplicit false
set_option maxRecDepth 100000
set_option exponentiation.threshold 1000
/-! K24a: chosen runs. -/
namespace DW.K24
open PySem DW DW.K03 DW.K25 DW.CHO
noncomputable def spL_chosen : DSp := fun ds μ Q => ∃ (row : List Itm) (m : Nat), ds = [.lst (row.map itD), .int (m : Int)] ∧ row.length ≤ 300 ∧ 1 ≤ m ∧ m ≤ 50 ∧ (∀ x ∈ row, ItOk x) ∧ ∀ μ', Pre μ μ' → Q (.lst (rowsD (chosenF row m))) μ'
noncomputable def spL_great : DSp := fun ds μ Q => match ds with
  | [.loc n] => isBox μ n ∧ ∀ (r : List Itm) b, r.length ≤ 200 → (∀ x ∈ r, ItOk x) → Q (.lst (r.map itD)) (bx μ n b)
  | _ => False
noncomputable def spL_by_chooser : DSp := fun ds μ Q => ∃ (row : List Itm) (m : Nat), ds = [.lst (row.map itD), .int (m : Int)] ∧ row.length ≤ 300 ∧ 1 ≤ m ∧ m ≤ 50 ∧ (∀ x ∈ row, ItOk x) ∧ ∀ μ' (ls : List Nat), Pre μ μ' → ls.length = (chosenF row m).length → (∀ (i l : Nat) (r : List Itm), ls[i]? = some l → (chosenF row m)[i]? = some r → μ'[l]? = some (.lst (r.map itD))) → Q (.lst (ls.map D.loc)) μ'
noncomputable def nL_chosen : List Str := ["row", "room", "state", "told", "item", "runs", "run", "thing"]
noncomputable def iL_chosen : Ss := (.cons (.set 2 (.dd3 [107, 101, 112, 116] [108, 97, 115, 116] [114, 111, 111, 109] (.lst true .nil) (.cst .non) (.var 1))) (.cons (.set 3 (.lst false .nil)) (.cons (.for_ [4] false (.seq (.var 0)) (.cons (.set 3 (.bin .Add (.var 3) (.call "_law_given" spL_given (.cons (.var 2) (.cons (.var 4) .nil))))) .nil)) (.cons (.set 5 (.lst true .nil)) (.cons (.set 6 (.lst true .nil)) (.cons (.for_ [7] false (.seq (.bin .Add (.var 3) (.call "_law_finished" spL_finished (.cons (.var 2) .nil)))) (.cons (.ite (.cmp .Eq (.var 7) (.tup (.cons (.cst (.str [101, 110, 100])) .nil))) (.cons (.exp (.meth "append" (.var 5) (.cons (.frz (.var 6)) .nil))) (.cons (.set 6 (.lst true .nil)) .nil)) (.cons (.exp (.meth "append" (.var 6) (.cons (.idx (.var 7) (.cst (.int 1))) .nil))) .nil)) .nil)) (.cons (.ret (.frz (.var 5))) .nil)))))))
noncomputable def nL_great : List Str := ["box", "step"]
noncomputable def iL_great : Ss := (.cons (.ite (.cmp .Eq (.call "_law_take" spL_take (.cons (.var 0) (.cons (.cst (.int 6)) .nil))) (.cst (.int 5))) (.cons (.set 1 (.bin .Add (.cst (.int 5)) (.bin .Mult (.cst (.int 2)) (.call "_law_take" spL_take (.cons (.var 0) (.cons (.cst (.int 300)) .nil)))))) (.cons (.ret (.comp false 1 false [1] (.tup (.cons (.bin .Mod (.bin .Add (.bin .Mult (.var 0) (.var 1)) (.bin .Mult (.var 0) (.var 0))) (.cst (.int 307))) (.cons (.cst (.str [])) .nil))) (.rng (.cons (.call "_law_take" spL_take (.cons (.var 0) (.cons (.cst (.int 201)) .nil))) .nil)) .nil)) .nil)) .nil) (.cons (.ret (.call "_law_row" spL_row (.cons (.var 0) (.cons (.cst (.int 24)) .nil)))) .nil))
noncomputable def nL_by_chooser : List Str := ["row", "room", "chooser", "told", "item", "runs", "thing"]
noncomputable def iL_by_chooser : Ss := (.cons (.set 2 (.mk "Chooser" sp_Chooser_init (.cons (.var 1) .nil))) (.cons (.set 3 (.lst false .nil)) (.cons (.for_ [4] false (.seq (.var 0)) (.cons (.set 3 (.cat false (.var 3) (.mth "Chooser" "give" sp_Chooser_give (.var 2) (.cons (.var 4) .nil)))) .nil)) (.cons (.set 5 (.lst true (.cons (.lst true .nil) .nil))) (.cons (.for_ [6] false (.seq (.cat false (.var 3) (.mth "Chooser" "finish" sp_Chooser_finish (.var 2) .nil))) (.cons (.ite (.cmp .Eq (.var 6) (.tup (.cons (.cst (.str [101, 110, 100])) .nil))) (.cons (.exp (.meth "append" (.var 5) (.cons (.lst true .nil) .nil))) .nil) (.cons (.exp (.meth "append" (.idx (.var 5) (.neg (.cst (.int 1)))) (.cons (.idx (.var 6) (.cst (.int 1))) .nil))) .nil)) .nil)) (.cons (.ret (.slc false (.var 5) .nil (.cons (.neg (.cst (.int 1))) .nil))) .nil))))))
noncomputable def tlL : Ss := (.cons (.set 4 (.call "_law_room" spL_room (.cons (.var 2) .nil))) (.cons (.set 5 (.call "_law_chosen" spL_chosen (.cons (.var 3) (.cons (.var 4) .nil)))) (.cons (.set 6 (.blt "list" (.cons (.var 3) .nil))) (.cons (.set 7 (.call "chosen" sp_chosen (.cons (.var 6) (.cons (.var 4) .nil)))) (.cons (.ite (.or (.not (.call "_law_are_lists" spL_are_lists (.cons (.var 7) (.cons (.var 5) .nil)))) (.cmp .NotEq (.var 6) (.var 3))) (.cons (.ret (.cst (.bl false))) .nil) .nil) (.cons (.for_ [8] false (.seq (.var 7)) (.cons (.exp (.meth "clear" (.var 8) .nil)) .nil)) (.cons (.exp (.meth "append" (.var 7) (.cons (.lst false .nil) .nil))) (.cons (.ite (.or (.not (.call "_law_are_lists" spL_are_lists (.cons (.call "chosen" sp_chosen (.cons (.var 6) (.cons (.var 4) .nil))) (.cons (.var 5) .nil)))) (.cmpT true (.call "_law_by_chooser" spL_by_chooser (.cons (.var 3) (.cons (.var 4) .nil))) (.var 5))) (.cons (.ret (.cst (.bl false))) .nil) .nil) .nil))))))))
noncomputable def n_law : List Str := ["script", "k", "box", "row", "room", "due", "handed", "found", "run"]
noncomputable def i_law : Ss := (.cons (.for_ [1] false (.rng (.cons (.blt "max" (.cons (.cst (.int 1)) (.cons (.blt "min" (.cons (.blt "len" (.cons (.var 0) .nil)) (.cons (.cst (.int 4)) .nil))) .nil))) .nil)) (.cons (.set 2 (.call "_law_box" spL_box (.cons (.var 0) (.cons (.var 1) .nil)))) (.cons (.set 3 (.ife (.cmp .Eq (.var 1) (.cst (.int 0))) (.call "_law_great" spL_great (.cons (.var 2) .nil)) (.call "_law_row" spL_row (.cons (.var 2) (.cons (.cst (.int 24)) .nil))))) tlL))) (.cons (.ret (.cst (.bl true))) .nil))
theorem tok_end (μ : Mem) (y : Tk) (hy : ∀ x, y = some x → ItOk x) (Q : Bool → Mem → Prop) (h : Q y.isNone μ) : wCmp .Eq (tkD y) (.tup [.str [101, 110, 100]]) μ fun r μ3 => wBl r μ3 Q := by
  cases y with
  | none => simpa [tkD, wCmp, flat, flats, eqD, eqDs, wBl] using h
  | some x =>
    have hf := flat_item (hy x rfl)
    simp only [itD, flat, flats, Bool.and_true, Bool.true_and] at hf
    simp [tkD, wCmp, flat, flats, eqD, eqDs, wBl, itD]
    exact ⟨by simpa using hf, by simpa using h⟩
theorem kL_chosen : Keeps nL_chosen iL_chosen spL_chosen := by
  rintro ds μ Q ⟨row, m, rfl, hl, m1, m2, hok, h⟩
  simp only [iL_chosen, nL_chosen, startD, topZ, wSs, wS, wE, wEs, wI, newL, lim, wSeq, List.map_cons, List.map_nil, List.length_cons, List.length_nil, List.cons_append, List.nil_append, List.getElem?_cons_zero, List.getElem?_cons_succ, List.replicate, List.set_cons_succ, List.set_cons_zero]
  refine ⟨by omega, by simp, by omega, ?_⟩
  have es : (μ ++ [Cell.dic [] []] ++ [Cell.lst []]).set μ.length (.dic [.inr [107, 101, 112, 116], .inr [108, 97, 115, 116], .inr [114, 111, 111, 109]] [.loc (μ ++ [Cell.dic [] []]).length, .non, .int (m : Int)]) = μ ++ [.dic [kK, kL, kR] [.loc (μ.length + 1), .non, .int (m : Int)], .lst []] := by simp [kK, kL, kR]
  rw [es]
  have p2 : Pre μ (μ ++ [.dic [kK, kL, kR] [.loc (μ.length + 1), .non, .int (m : Int)], .lst []]) := Pre.app _ _
  have c2 : isSt (μ ++ [.dic [kK, kL, kR] [.loc (μ.length + 1), .non, .int (m : Int)], .lst []]) μ.length (newCh m) := ⟨by simp [newCh, lastD], by simp [newCh]⟩
  generalize μ ++ [Cell.dic [kK, kL, kR] [.loc (μ.length + 1), .non, .int (m : Int)], .lst []] = μ2 at p2 c2
  have go := gives_ok row (newCh m) (new_wf m1 m2) hok
  refine wLoop_inv (fun ds ρ μ' => ∃ (rest : List Itm) (c : Ch) (tk : List Tk) (a : Option D), ds = rest.map itD ∧ (∀ x ∈ rest, ItOk x) ∧ tk.length + 2 * rest.length ≤ 600 ∧ Pre μ μ' ∧ isSt μ' μ.length c ∧ Wf c ∧ tk ++ (givesF c rest).1 = (givesF (newCh m) row).1 ∧ (givesF c rest).2 = (givesF (newCh m) row).2 ∧
    ρ = [some (.lst (row.map itD)), some (.int (m : Int)), some (.loc μ.length), some (.lst (tk.map tkD)), a, none, none, none]) ?_ ?_ _ _ _ ⟨row, newCh m, [], none, rfl, hok, by simp; omega, p2, c2, new_wf m1 m2, rfl, rfl, rfl⟩
  · rintro d ds ρ μ1 N hN ⟨rest, c, tk, a, e, ok1, tl, hp, hc, hw, e1, e2, rfl⟩
    cases rest with
    | nil => simp at e
    | cons x rest =>
      simp only [List.map_cons, List.cons.injEq] at e
      obtain ⟨rfl, rfl⟩ := e
      simp only [List.length_cons] at tl
      refine ⟨trivial, ?_⟩
      simp only [bindT, List.set_cons_succ, List.set_cons_zero, List.getElem?_cons_zero, List.getElem?_cons_succ]
      refine ⟨μ.length, x, c, rfl, hc, hw, fun μ3 f3 c3 => ?_⟩
      have gle : (giveF c x).1.length ≤ 2 := by
        unfold giveF
        split
        · simp only [outF]; split <;> simp
        · simp
      simp only [wBin, List.length_map]
      refine ⟨by simp only [lim]; omega, ?_⟩
      refine hN _ _ ⟨rest, (giveF c x).2, tk ++ (giveF c x).1, some (itD x), rfl, fun y hy => ok1 y (by simp [hy]), by simp; omega, hp.fr f3 (Nat.le_refl _), c3, (give_ok hw (ok1 x (by simp))).1, by rw [← e1]; simp [givesF], by rw [← e2]; rfl, by simp⟩
  · rintro ρ μ1 ⟨rest, c, tk, a, e, ok1, tl, hp, hc, hw, e1, e2, rfl⟩
    have : rest = [] := by simpa using e.symm
    subst this
    simp only [givesF, List.append_nil] at e1 e2
    subst e2
    refine ⟨trivial, ?_⟩
    simp only [List.set_cons_succ, List.set_cons_zero, List.getElem?_cons_zero, List.getElem?_cons_succ, wE, wEs]
    refine ⟨by simp, by simp, ?_⟩
    have hml : μ.length + 1 < μ1.length := (List.getElem?_eq_some_iff.mp hc.2).1
    have p3 : Pre μ (μ1 ++ [Cell.lst []] ++ [Cell.lst []]) := hp.trans (by rw [List.append_assoc]; exact Pre.app _ _)
    have c3 := (hc.push (Cell.lst [])).push (Cell.lst [])
    refine ⟨μ.length, _, rfl, c3, hw, fun μ4 f4 c4 => ?_⟩
    have g0 : (μ1 ++ [Cell.lst []] ++ [Cell.lst []])[μ1.length]? = some (.lst (rowsD [])) := by simp [rowsD]
    have g1 : (μ1 ++ [Cell.lst []] ++ [Cell.lst []])[μ1.length + 1]? = some (.lst (([] : List Itm).map itD)) := by simp
    have fle := fin_le hw
    simp only [wBin, List.length_map]
    refine ⟨by simp only [lim]; simp at tl; omega, ?_⟩
    have p4 : Pre μ μ4 := p3.fr f4 (Nat.le_refl _)
    have g04 : μ4[μ1.length]? = some (.lst (rowsD [])) := by rw [f4.2 _ (by simp) (by omega) (by omega)]; exact g0
    have g14 : μ4[μ1.length + 1]? = some (.lst (([] : List Itm).map itD)) := by rw [f4.2 _ (by simp) (by omega) (by omega)]; exact g1
    have el : (μ1 ++ [Cell.lst []]).length = μ1.length + 1 := by simp
    rw [el]
    have ok4 : AllOk (tellF row m) := fun x hx => by
      rcases List.mem_append.mp hx with hx | hx
      · exact go.2.1 x hx
      · exact (fin_ok hw).2 x hx
    have et : tk.map tkD ++ (finF (givesF (newCh m) row).2).1.map tkD = (tellF row m).map tkD := by rw [tellF, ← e1]; simp
    rw [et]
    have tkl : (tellF row m).length ≤ 1000 := by rw [tellF, ← e1]; simp; simp at tl; omega
    have hmu : μ.length ≤ μ1.length := by omega
    clear et e1 c3 f4 c4 g0 g1 p3 fle hml
    refine wLoop_inv (fun ds ρ μ' => ∃ (rest : List Tk) (done : List (List Itm)) (q : Nat) (run : List Itm) (a : Option D), ds = rest.map tkD ∧ AllOk rest ∧ run.length + rest.length ≤ 1000 ∧ done.length + rest.length ≤ 1000 ∧ Pre μ μ' ∧ μ'[μ1.length]? = some (.lst (rowsD done)) ∧ μ1.length < q ∧ μ'[q]? = some (.lst (run.map itD)) ∧ done ++ runsT rest run = runsT (tellF row m) [] ∧
      ρ = [some (.lst (row.map itD)), some (.int (m : Int)), some (.loc μ.length), some (.lst (tk.map tkD)), _, some (.loc μ1.length), some (.loc q), a]) ?_ ?_ _ _ _ ⟨tellF row m, [], μ1.length + 1, [], none, rfl, ok4, by simpa using tkl, by simpa using tkl, p4, g04, by omega, g14, rfl, rfl⟩
    · rintro d ds ρ μ5 N hN ⟨rest, done, q, run, a, e, ok5, h1, h2, hp5, g5, hq, gq, er, rfl⟩
      have ql : q < μ5.length := (List.getElem?_eq_some_iff.mp gq).1
      have nl : μ1.length < μ5.length := (List.getElem?_eq_some_iff.mp g5).1
      cases rest with
      | nil => simp at e
      | cons y rest =>
        simp only [List.map_cons, List.cons.injEq] at e
        obtain ⟨rfl, rfl⟩ := e
        simp only [List.length_cons] at h1 h2
        refine ⟨trivial, ?_⟩
        simp only [bindT, wT, wE, wEs, List.set_cons_succ, List.set_cons_zero, List.getElem?_cons_zero, List.getElem?_cons_succ]
        refine ⟨by simp [lim], ?_⟩
        refine tok_end μ5 y (fun x hx => ok5 x (by rw [hx]; simp)) _ ?_
        have ok6 : AllOk rest := fun x hx => ok5 x (by simp [hx])
        cases y with
        | none =>
          simp only [Option.isNone_none, if_true, wSs, wS, wE, wEs, List.set_cons_succ, List.set_cons_zero, List.getElem?_cons_zero, List.getElem?_cons_succ, isCell, g5, true_and, wFrz, gq, newL]
          have g6 : (μ5.set q Cell.gone)[μ1.length]? = some (.lst (rowsD done)) := by rw [List.getElem?_set_ne (by omega)]; exact g5
          have nl6 : μ1.length < (μ5.set q Cell.gone).length := by simpa using nl
          simp only [wMeth, g6, wMethL]
          refine ⟨by simp only [lim, rowsD, List.length_map]; omega, by simp, ?_⟩
          refine hN _ _ ⟨rest, done ++ [run], _, [], _, rfl, ok6, by simp; omega, by simp; omega, ?_, ?_, ?_, by simp, by rw [← er]; simp [runsT], rfl⟩
          · exact ((hp5.set _ (by omega)).set _ hmu).trans (Pre.app _ _)
          · rw [List.getElem?_append_left (by simpa using nl), List.getElem?_set_self nl6]; simp [rowsD]
          · simpa using nl
        | some x =>
          simp only [Option.isNone_some, Bool.false_eq_true, if_false, wSs, wS, wE, wEs, List.set_cons_succ, List.set_cons_zero, List.getElem?_cons_zero, List.getElem?_cons_succ, isCell, gq, true_and]
          have ei : ∀ Q : QD, Q (itD x) μ5 → wIdx (tkD (some x)) (.int 1) μ5 Q := fun Q q => by simpa [tkD, wIdx, seqOf, ixD] using q
          refine ei _ ?_
          simp only [wMeth, gq, wMethL, List.length_map]
          refine ⟨by simp only [lim]; omega, ?_⟩
          refine hN _ _ ⟨rest, done, q, run ++ [x], _, rfl, ok6, by simp; omega, by omega, hp5.set _ (by omega), by rw [List.getElem?_set_ne (by omega)]; exact g5, hq, by rw [List.getElem?_set_self ql]; simp, by rw [← er]; rfl, rfl⟩
    · rintro ρ μ5 ⟨rest, done, q, run, a, e, ok5, h1, h2, hp5, g5, hq, gq, er, rfl⟩
      have : rest = [] := by simpa using e.symm
      subst this
      refine ⟨trivial, ?_⟩
      simp only [List.getElem?_cons_zero, List.getElem?_cons_succ, wE, wFrz, g5]
      rw [show done = chosenF row m by rw [chosenF, ← er]; simp [runsT]]
      exact h _ (hp5.set _ hmu)
theorem kL_great : Keeps nL_great iL_great spL_great := by
  intro ds μ Q h
  unfold spL_great at h
  split at h
  · obtain ⟨hb, h⟩ := h
    rename_i n
    simp only [iL_great, nL_great, startD, topZ, wSs, wS, wT, wE, wEs, wI, List.map_cons, List.map_nil, List.length_cons, List.length_nil, List.cons_append, List.nil_append, List.getElem?_cons_zero, List.getElem?_cons_succ, List.replicate, List.set_cons_succ, List.set_cons_zero]
    refine ⟨hb, by decide, by decide, fun d b d0 d1 => ?_⟩
    have hb2 := isBox_bx (b := b) hb
    simp only [wCmp, flat, true_and, wBl]
    by_cases c : eqD (.int d) (.int 5) = true
    · simp only [c, if_true, wSs, wS, wE, wEs, wI, List.getElem?_cons_zero, List.getElem?_cons_succ]
      refine ⟨hb2, by decide, by decide, fun s b2 s0 s1 => ?_⟩
      rw [bx_bx]
      have hb3 := isBox_bx (b := b2) hb
      simp only [wBin, List.set_cons_succ, List.set_cons_zero, List.getElem?_cons_zero, List.getElem?_cons_succ, List.map_cons, List.map_nil, Option.join_some]
      refine ⟨.inl (by omega), hb3, by decide, by decide, fun v b3 v0 v1 => ?_⟩
      rw [bx_bx]
      simp only [wRng, esLen]
      refine ⟨by simp only [lim]; omega, by omega, ?_⟩
      have ev : v.toNat ≤ 200 := by omega
      rw [rangeL_eq]
      refine wComp_mapT (fun (k : Nat) => D.int (k : Int)) (fun k => itD (((k : Int) * (5 + 2 * s) + (k : Int) * (k : Int)) % 307, [])) trivial _ _ ?_ ?_
      · intro j hj Y N z
        have hj' := List.mem_range.mp hj
        simp only [bindC, wTs, if_true, wE, wEs, List.getElem?_cons_zero, List.getElem?_cons_succ, wBin]
        exact ⟨.inl (by omega), .inl (by omega), by decide, by simp [lim], z⟩
      · simp only [newL, List.nil_append]
        have := h ((List.range v.toNat).map fun (k : Nat) => (((k : Int) * (5 + 2 * s) + (k : Int) * (k : Int)) % 307, [])) b3 (by simp; omega) (fun x hx => by
          obtain ⟨k, _, rfl⟩ := List.mem_map.mp hx
          refine ⟨?_, by simp [tags]⟩
          unfold keyOk
          simp only
          omega)
        simpa [Function.comp_def] using this
    · simp only [c, Bool.false_eq_true, if_false, wSs, wS, wE, wEs, List.getElem?_cons_zero, List.getElem?_cons_succ]
      refine ⟨hb2, by decide, by decide, fun r b2 rl rok => ?_⟩
      rw [bx_bx]
      exact h r b2 (by omega) rok
  · exact h.elim
theorem cut_last (ls : List Nat) (q : Nat) : cutD ((ls ++ [q]).map D.loc) none (some (-1)) = ls.map D.loc := by
  have h1 : ((-1 : Int) < 0) := by decide
  simp only [cutD, sIxD, h1, if_true, List.drop_zero, Nat.sub_zero]
  have : ((-1 : Int) + (((ls ++ [q]).map D.loc).length : Int)).toNat = (ls.map D.loc).length := by simp; omega
  rw [this, List.map_append, List.take_left]
theorem last_ix (ls : List Nat) (q : Nat) : (ixD ((ls ++ [q]).map D.loc).length (-1)).bind (((ls ++ [q]).map D.loc)[·]?) = some (.loc q) := by
  have e : ixD ((ls ++ [q]).map D.loc).length (-1) = some ls.length := by
    unfold ixD
    rw [if_neg (by decide), if_pos (by simp; omega)]
    congr 1
    simp; omega
  rw [e, Option.bind_some]
  simp
theorem kL_by_chooser : Keeps nL_by_chooser iL_by_chooser spL_by_chooser := by
  rintro ds μ Q ⟨row, m, rfl, hl, m1, m2, hok, h⟩
  simp only [iL_by_chooser, nL_by_chooser, startD, topZ, wSs, wS, wE, wEs, wI, newL, lim, wSeq, List.map_cons, List.map_nil, List.length_cons, List.length_nil, List.cons_append, List.nil_append, List.getElem?_cons_zero, List.getElem?_cons_succ, List.replicate, List.set_cons_succ, List.set_cons_zero]
  refine ⟨μ, m, rfl, rfl, m1, m2, rfl, by omega, ?_⟩
  have p2 : Pre μ (μ ++ [Cell.ins "Chooser" [("room", D.int (m : Int)), ("kept", D.loc (μ.length + 1)), ("last", D.non)], Cell.lst []]) := Pre.app _ _
  have c2 : isCh (μ ++ [Cell.ins "Chooser" [("room", D.int (m : Int)), ("kept", D.loc (μ.length + 1)), ("last", D.non)], Cell.lst []]) μ.length (newCh m) := ⟨by simp [newCh, lastD], by simp [newCh]⟩
  generalize μ ++ [Cell.ins "Chooser" [("room", D.int (m : Int)), ("kept", D.loc (μ.length + 1)), ("last", D.non)], Cell.lst []] = μ2 at p2 c2
  have go := gives_ok row (newCh m) (new_wf m1 m2) hok
  refine wLoop_inv (fun ds ρ μ' => ∃ (rest : List Itm) (c : Ch) (tk : List Tk) (a : Option D), ds = rest.map itD ∧ (∀ x ∈ rest, ItOk x) ∧ tk.length + 2 * rest.length ≤ 600 ∧ Pre μ μ' ∧ isCh μ' μ.length c ∧ Wf c ∧ tk ++ (givesF c rest).1 = (givesF (newCh m) row).1 ∧ (givesF c rest).2 = (givesF (newCh m) row).2 ∧
    ρ = [some (.lst (row.map itD)), some (.int (m : Int)), some (.loc μ.length), some (.lst (tk.map tkD)), a, none, none]) ?_ ?_ _ _ _ ⟨row, newCh m, [], none, rfl, hok, by simp; omega, p2, c2, new_wf m1 m2, rfl, rfl, rfl⟩
  · rintro d ds ρ μ1 N hN ⟨rest, c, tk, a, e, ok1, tl, hp, hc, hw, e1, e2, rfl⟩
    cases rest with
    | nil => simp at e
    | cons x rest =>
      simp only [List.map_cons, List.cons.injEq] at e
      obtain ⟨rfl, rfl⟩ := e
      simp only [List.length_cons] at tl
      refine ⟨trivial, ?_⟩
      simp only [bindT, List.set_cons_succ, List.set_cons_zero, List.getElem?_cons_zero, List.getElem?_cons_succ]
      refine ⟨isIns_ch hc (by decide) (by decide) (by decide), μ.length, x, c, rfl, hc, hw, fun μ3 t f3 c3 ht t3 => ?_⟩
      have gle : (giveF c x).1.length ≤ 2 := by
        unfold giveF
        split
        · simp only [outF]; split <;> simp
        · simp
      simp only [wCat, wlOf, t3, newL, List.length_map]
      refine ⟨by simp only [lim]; omega, ?_⟩
      refine hN _ _ ⟨rest, (giveF c x).2, tk ++ (giveF c x).1, some (itD x), rfl, fun y hy => ok1 y (by simp [hy]), by simp; omega, hp.fr f3 (Nat.le_refl _), c3, (give_ok hw (ok1 x (by simp))).1, by rw [← e1]; simp [givesF], by rw [← e2]; rfl, by simp⟩
  · rintro ρ μ1 ⟨rest, c, tk, a, e, ok1, tl, hp, hc, hw, e1, e2, rfl⟩
    have : rest = [] := by simpa using e.symm
    subst this
    simp only [givesF, List.append_nil] at e1 e2
    subst e2
    refine ⟨trivial, ?_⟩
    simp only [List.set_cons_succ, List.set_cons_zero, List.getElem?_cons_zero, List.getElem?_cons_succ, wE, wEs]
    refine ⟨by simp, by simp, ?_⟩
    have hml : μ.length + 1 < μ1.length := (List.getElem?_eq_some_iff.mp hc.2).1
    have c3 := (hc.push (Cell.lst [])).push (Cell.lst [D.loc μ1.length])
    have p3 : Pre μ (μ1 ++ [Cell.lst []] ++ [Cell.lst [D.loc μ1.length]]) := hp.trans (by rw [List.append_assoc]; exact Pre.app _ _)
    refine ⟨isIns_ch c3 (by decide) (by decide) (by decide), μ.length, _, rfl, c3, hw, fun μ4 t f4 c4 ht t4 => ?_⟩
    have g0 : (μ1 ++ [Cell.lst []] ++ [Cell.lst [D.loc μ1.length]])[μ1.length + 1]? = some (.lst ((([] : List Nat) ++ [μ1.length]).map D.loc)) := by simp
    have g1 : (μ1 ++ [Cell.lst []] ++ [Cell.lst [D.loc μ1.length]])[μ1.length]? = some (.lst (([] : List Itm).map itD)) := by simp
    have el : (μ1 ++ [Cell.lst []]).length = μ1.length + 1 := by simp
    rw [el]
    have fle := fin_le hw
    simp only [wCat, wlOf, t4, newL, List.length_map]
    refine ⟨by simp only [lim]; simp at tl; omega, ?_⟩
    have p4 : Pre μ μ4 := p3.fr f4 (Nat.le_refl _)
    have g04 : μ4[μ1.length + 1]? = some (.lst ((([] : List Nat) ++ [μ1.length]).map D.loc)) := by rw [f4.2 _ (by simp) (by omega) (by omega)]; exact g0
    have g14 : μ4[μ1.length]? = some (.lst (([] : List Itm).map itD)) := by rw [f4.2 _ (by simp) (by omega) (by omega)]; exact g1
    have ok4 : AllOk (tellF row m) := fun x hx => by
      rcases List.mem_append.mp hx with hx | hx
      · exact go.2.1 x hx
      · exact (fin_ok hw).2 x hx
    have et : tk.map tkD ++ (finF (givesF (newCh m) row).2).1.map tkD = (tellF row m).map tkD := by rw [tellF, ← e1]; simp
    rw [et]
    have tkl : (tellF row m).length ≤ 1000 := by rw [tellF, ← e1]; simp; simp at tl; omega
    have hmu : μ.length ≤ μ1.length := by omega
    clear et e1 c3 f4 c4 t4 ht g0 g1 p3 fle hml
    refine wLoop_inv (fun ds ρ μ' => ∃ (rest : List Tk) (ls : List Nat) (done : List (List Itm)) (q : Nat) (run : List Itm) (a : Option D), ds = rest.map tkD ∧ AllOk rest ∧ run.length + rest.length ≤ 1000 ∧ done.length + rest.length ≤ 1000 ∧ Pre μ μ' ∧ μ'[μ1.length + 1]? = some (.lst ((ls ++ [q]).map D.loc)) ∧ ls.length = done.length ∧ (∀ l ∈ ls, l ≠ μ1.length + 1 ∧ l ≠ q) ∧
      (∀ (i l : Nat) (r : List Itm), ls[i]? = some l → done[i]? = some r → μ'[l]? = some (.lst (r.map itD))) ∧ μ1.length ≤ q ∧ q ≠ μ1.length + 1 ∧ μ'[q]? = some (.lst (run.map itD)) ∧ done ++ runsT rest run = runsT (tellF row m) [] ∧
      ρ = [some (.lst (row.map itD)), some (.int (m : Int)), some (.loc μ.length), some (.lst (tk.map tkD)), _, some (.loc (μ1.length + 1)), a]) ?_ ?_ _ _ _ ⟨tellF row m, [], [], μ1.length, [], none, rfl, ok4, by simpa using tkl, by simpa using tkl, p4, g04, rfl, by simp, by simp, Nat.le_refl _, by omega, g14, rfl, rfl⟩
    · rintro d ds ρ μ5 N hN ⟨rest, ls, done, q, run, a, e, ok5, h1, h2, hp5, g5, hll, hls, hrow, hq, hqn, gq, er, rfl⟩
      have ql : q < μ5.length := (List.getElem?_eq_some_iff.mp gq).1
      have nl : μ1.length + 1 < μ5.length := (List.getElem?_eq_some_iff.mp g5).1
      cases rest with
      | nil => simp at e
      | cons y rest =>
        simp only [List.map_cons, List.cons.injEq] at e
        obtain ⟨rfl, rfl⟩ := e
        simp only [List.length_cons] at h1 h2
        refine ⟨trivial, ?_⟩
        simp only [bindT, wT, wE, wEs, List.set_cons_succ, List.set_cons_zero, List.getElem?_cons_zero, List.getElem?_cons_succ]
        refine ⟨by simp [lim], ?_⟩
        refine tok_end μ5 y (fun x hx => ok5 x (by rw [hx]; simp)) _ ?_
        have ok6 : AllOk rest := fun x hx => ok5 x (by simp [hx])
        have hrl : ∀ (l : Nat), l ∈ ls → l < μ5.length := fun l hl' => by
          obtain ⟨i, hi, ei⟩ := List.mem_iff_getElem.mp hl'
          have hir : i < done.length := by rw [← hll]; exact hi
          have := hrow i ls[i] done[i] (List.getElem?_eq_getElem hi) (List.getElem?_eq_getElem hir)
          have := (List.getElem?_eq_some_iff.mp this).1
          omega
        cases y with
        | none =>
          simp only [Option.isNone_none, if_true, wSs, wS, wE, wEs, List.set_cons_succ, List.set_cons_zero, List.getElem?_cons_zero, List.getElem?_cons_succ, isCell, g5, true_and, newL]
          refine ⟨by simp [lim], ?_⟩
          have g6 : (μ5 ++ [Cell.lst []])[μ1.length + 1]? = some (.lst ((ls ++ [q]).map D.loc)) := by rw [List.getElem?_append_left nl]; exact g5
          have nl6 : μ1.length + 1 < (μ5 ++ [Cell.lst []]).length := by simp; omega
          simp only [wMeth, g6, wMethL]
          refine ⟨by simp only [lim, List.length_map, List.length_append, List.length_cons, List.length_nil]; omega, ?_⟩
          refine hN _ _ ⟨rest, ls ++ [q], done ++ [run], μ5.length, [], _, rfl, ok6, by simp; omega, by simp; omega, ?_, ?_, by simp [hll], ?_, ?_, by omega, by omega, ?_, by rw [← er]; simp [runsT], rfl⟩
          · exact (hp5.trans (Pre.app _ _)).set _ (by omega)
          · rw [List.getElem?_set_self nl6]; simp
          · intro l hl'
            rcases List.mem_append.mp hl' with hl' | hl'
            · exact ⟨(hls l hl').1, by have := hrl l hl'; omega⟩
            · have := List.mem_singleton.mp hl'; subst this; exact ⟨hqn, by omega⟩
          · intro i l r i1 i2
            have hne : l ≠ μ1.length + 1 := by
              rcases List.mem_append.mp (List.mem_of_getElem? i1) with z | z
              · exact (hls l z).1
              · have := List.mem_singleton.mp z; rw [this]; exact hqn
            rw [List.getElem?_set_ne (Ne.symm hne)]
            rcases Nat.lt_or_ge i ls.length with z | z
            · rw [List.getElem?_append_left z] at i1
              rw [List.getElem?_append_left (by rw [← hll]; exact z)] at i2
              have := hrow i l r i1 i2
              rw [List.getElem?_append_left (List.getElem?_eq_some_iff.mp this).1]; exact this
            · have hi : i = ls.length := by
                have := (List.getElem?_eq_some_iff.mp i1).1
                simp at this; omega
              subst hi
              rw [List.getElem?_append_right (Nat.le_refl _)] at i1
              rw [hll, List.getElem?_append_right (Nat.le_refl _)] at i2
              simp at i1 i2
              subst i1 i2
              rw [List.getElem?_append_left ql]; exact gq
          · rw [List.getElem?_set_ne (by omega)]; simp
        | some x =>
          simp only [Option.isNone_some, Bool.false_eq_true, if_false, wSs, wS, wE, wEs, List.set_cons_succ, List.set_cons_zero, List.getElem?_cons_zero, List.getElem?_cons_succ]
          have ei : ∀ Q : QD, Q (itD x) μ5 → wIdx (tkD (some x)) (.int 1) μ5 Q := fun Q q => by simpa [tkD, wIdx, seqOf, ixD] using q
          have eo : ∀ Q : QD, Q (.loc q) μ5 → wIdx (.loc (μ1.length + 1)) (.int (-1)) μ5 Q := fun Q z => by
            simp only [wIdx, seqOf, g5, last_ix]
            exact z
          refine eo _ ⟨by simp [isCell, gq], ei _ ?_⟩
          simp only [wMeth, gq, wMethL, List.length_map]
          refine ⟨by simp only [lim]; omega, ?_⟩
          refine hN _ _ ⟨rest, ls, done, q, run ++ [x], _, rfl, ok6, by simp; omega, by omega, hp5.set _ (by omega), by rw [List.getElem?_set_ne hqn]; exact g5, hll, hls, fun i l r i1 i2 => ?_, hq, hqn, by rw [List.getElem?_set_self ql]; simp, by rw [← er]; rfl, rfl⟩
          rw [List.getElem?_set_ne (Ne.symm (hls l (List.mem_of_getElem? i1)).2)]
          exact hrow i l r i1 i2
    · rintro ρ μ5 ⟨rest, ls, done, q, run, a, e, ok5, h1, h2, hp5, g5, hll, hls, hrow, hq, hqn, gq, er, rfl⟩
      have : rest = [] := by simpa using e.symm
      subst this
      refine ⟨trivial, ?_⟩
      simp only [List.getElem?_cons_zero, List.getElem?_cons_succ, wE, wO, wInt, wSlc, g5, newL, cut_last]
      have ed : done = chosenF row m := by rw [chosenF, ← er]; simp [runsT]
      rw [ed] at hll hrow
      exact h μ5 ls hp5 hll hrow
theorem runs_ok : ∀ (tk : List Tk) (run : List Itm), AllOk tk → (∀ x ∈ run, ItOk x) → ∀ r ∈ runsT tk run, ∀ x ∈ r, ItOk x
  | [], run, _, _, r, hr => by simp [runsT] at hr
  | none :: tk, run, h, hr', r, hr => by
    simp only [runsT, List.mem_cons] at hr
    rcases hr with rfl | hr
    · exact hr'
    · exact runs_ok tk [] (fun x hx => h x (by simp [hx])) (by simp) r hr
  | some y :: tk, run, h, hr', r, hr => by
    simp only [runsT] at hr
    refine runs_ok tk (run ++ [y]) (fun x hx => h x (by simp [hx])) (fun x hx => ?_) r hr
    rcases List.mem_append.mp hx with hx | hx
    · exact hr' x hx
    · have := List.mem_singleton.mp hx; subst this; exact h x (by simp)
theorem runs_len : ∀ (tk : List Tk) (run : List Itm), (runsT tk run).length ≤ tk.length
  | [], run => by simp [runsT]
  | none :: tk, run => by have := runs_len tk []; simp only [runsT, List.length_cons]; omega
  | some y :: tk, run => by have := runs_len tk (run ++ [y]); simp only [runsT, List.length_cons]; omega
theorem chosen_ok {row : List Itm} {m : Nat} (m1 : 1 ≤ m) (m2 : m ≤ 50) (hok : ∀ x ∈ row, ItOk x) : ∀ r ∈ chosenF row m, ∀ x ∈ r, ItOk x := by
  have go := gives_ok row (newCh m) (new_wf m1 m2) hok
  refine runs_ok _ _ (fun x hx => ?_) (by simp)
  rcases List.mem_append.mp hx with hx | hx
  · exact go.2.1 x hx
  · exact (fin_ok go.1).2 x hx
theorem row_flat {n : Nat} : ∀ {r : List Itm}, (∀ x ∈ r, ItOk x) → flats (n + 1) (r.map itD) = true
  | [], _ => rfl
  | x :: r, h => by
    have hf := flat_item (h x (by simp))
    have ih := row_flat (n := n) (r := r) fun y hy => h y (by simp [hy])
    simp only [itD, flat, flats, Bool.and_true, Bool.true_and] at hf
    simp only [List.map_cons, flats, itD, flat, Bool.and_true, Bool.true_and, hf, ih]
theorem rows_flat {rs : List (List Itm)} (h : ∀ r ∈ rs, ∀ x ∈ r, ItOk x) : flat 60 (.lst (rowsD rs)) = true := by
  simp only [flat, rowsD]
  induction rs with
  | nil => rfl
  | cons r rs ih =>
    have ih := ih fun q hq => h q (by simp [hq])
    simp only [List.map_cons, flats, flat, row_flat (h r (by simp)), ih, Bool.and_self]
theorem thaw_rows {μ : Mem} {ls : List Nat} {rs : List (List Itm)} (hl : ls.length = rs.length) (h : ∀ (i l : Nat) (r : List Itm), ls[i]? = some l → rs[i]? = some r → μ[l]? = some (.lst (r.map itD))) : thaw μ 8 (.lst (ls.map D.loc)) = .lst (rowsD rs) := by
  rw [thaw_lst]
  congr 1
  apply List.ext_getElem?
  intro i
  by_cases c : i < ls.length
  · have c' : i < rs.length := by omega
    have := h i ls[i] rs[i] (List.getElem?_eq_getElem c) (List.getElem?_eq_getElem c')
    have e := thaw_loc this 6
    rw [thaw_map μ 6 itD (fun x => thaw_it μ 6 x)] at e
    simp only [List.getElem?_map, List.getElem?_eq_getElem c, Option.map_some, rowsD, List.getElem?_eq_getElem c']
    rw [e]
  · simp [rowsD, c, Nat.le_of_not_lt c, hl ▸ c, show rs.length ≤ i by omega]
theorem thaw_rowsD (μ : Mem) (rs : List (List Itm)) : thaw μ 8 (.lst (rowsD rs)) = .lst (rowsD rs) := by
  rw [thaw_lst, rowsD]
  congr 1
  exact thaw_map μ 7 _ (fun r => by rw [thaw_lst, thaw_map μ 6 itD (fun x => thaw_it μ 6 x)]) rs
theorem tl_ok {ns : List Int} {k : D} {nb : Nat} {r : List Itm} {a4 a5 a6 a7 a8 : Option D} {μ : Mem} {Z : DEnds} (hb : isBox μ nb) (hr : r.length ≤ 200) (ok : ∀ x ∈ r, ItOk x)
    (h : ∀ ρ μ, (∃ a b c d e f g i, ρ = [some (.ro (ns.map D.int)), a, b, c, d, e, f, g, i]) → Z.nx ρ μ) :
    wSs tlL Z [some (.ro (ns.map D.int)), some k, some (.loc nb), some (.lst (r.map itD)), a4, a5, a6, a7, a8] μ := by
  simp only [tlL, wSs, wS, wT, wE, wEs, wI, List.set_cons_succ, List.set_cons_zero, List.getElem?_cons_zero, List.getElem?_cons_succ]
  refine ⟨hb, fun m b m1 m2 => ?_⟩
  have em : m = ((m.toNat : Nat) : Int) := by omega
  rw [em]
  have m1' : 1 ≤ m.toNat := by omega
  have m2' : m.toNat ≤ 50 := by omega
  generalize m.toNat = m at m1' m2'
  refine ⟨r, m, rfl, by omega, m1', m2', ok, fun μ4 p4 => ?_⟩
  simp only [wBlt, seqOf, List.set_cons_succ, List.set_cons_zero, List.getElem?_cons_zero, List.getElem?_cons_succ]
  refine ⟨r, m, rfl, by omega, m1', m2', ok, fun μ5 n ls p5 hL => ?_⟩
  have cok := chosen_ok m1' m2' ok
  have hf := flats_items ok
  have he := eqD_self 60 _ hf
  simp only [List.set_cons_succ, List.set_cons_zero, List.getElem?_cons_zero, List.getElem?_cons_succ]
  refine ⟨_, n, ls, _, rfl, hL, cok, ?_⟩
  simp only [wTru, truth, Bool.not_true, Bool.false_eq_true, if_false, wCmp, wBl]
  refine ⟨hf, hf, ?_⟩
  rw [he]
  simp only [Bool.not_true, Bool.false_eq_true, if_false, wSs, wS, wE, wSeq, hL.at_, List.getElem?_cons_zero, List.getElem?_cons_succ]
  refine wLoop_inv (fun ds ρ μ' => ∃ (rest : List Nat) (a : Option D), ds = rest.map D.loc ∧ (∀ l ∈ rest, l ≠ n ∧ ∃ xs, μ'[l]? = some (.lst xs)) ∧ μ'[n]? = some (.lst (ls.map D.loc)) ∧
    ρ = [some (.ro (ns.map D.int)), some k, some (.loc nb), some (.lst (r.map itD)), some (.int (m : Int)), some (.lst (rowsD (chosenF r m))), some (.lst (r.map itD)), some (.loc n), a]) ?_ ?_ _ _ _ ⟨ls, a8, rfl, fun l hl => ⟨(hL.sub l hl).2, ?_⟩, hL.at_, rfl⟩
  · rintro d ds ρ μ6 N hN ⟨rest, a, e, hrs, gn, rfl⟩
    cases rest with
    | nil => simp at e
    | cons l rest =>
      simp only [List.map_cons, List.cons.injEq] at e
      obtain ⟨rfl, rfl⟩ := e
      obtain ⟨hne, xs, gx⟩ := hrs l (by simp)
      refine ⟨gn, ?_⟩
      simp only [bindT, List.set_cons_succ, List.set_cons_zero, List.getElem?_cons_zero, List.getElem?_cons_succ, isCell, gx, true_and, wMeth, wMethL, wEs]
      refine hN _ _ ⟨rest, _, rfl, fun q hq => ⟨(hrs q (by simp [hq])).1, ?_⟩, by rw [List.getElem?_set_ne hne]; exact gn, rfl⟩
      by_cases c : l = q
      · subst c
        exact ⟨[], by rw [List.getElem?_set_self (List.getElem?_eq_some_iff.mp gx).1]⟩
      · obtain ⟨_, ys, gy⟩ := hrs q (by simp [hq])
        exact ⟨ys, by rw [List.getElem?_set_ne c]; exact gy⟩
  · rintro ρ μ6 ⟨rest, a, e, hrs, gn, rfl⟩
    refine ⟨gn, ?_⟩
    have lsl : ls.length ≤ 1000 := by
      have q1 := hL.len
      have q2 := runs_len (tellF r m) []
      have go := gives_ok r (newCh m) (new_wf m1' m2') ok
      have q3 := fin_le go.1
      have q4 := go.2.2
      have q5 : (tellF r m).length ≤ 2 * r.length + 101 := by simp only [tellF, List.length_append]; omega
      have q6 : (chosenF r m).length ≤ (tellF r m).length := q2
      omega
    simp only [List.getElem?_cons_zero, List.getElem?_cons_succ, wE, wEs, isCell, gn, true_and, newL, wMeth, wMethL, List.length_map]
    refine ⟨by simp [lim], by simp only [lim]; omega, ?_⟩
    refine ⟨r, m, rfl, by omega, m1', m2', ok, fun μ7 n7 ls7 p7 hL7 => ?_⟩
    refine ⟨_, n7, ls7, _, rfl, hL7, cok, ?_⟩
    simp only [wTru, truth, Bool.not_true, Bool.false_eq_true, if_false]
    refine ⟨r, m, rfl, by omega, m1', m2', ok, fun μ8 ls8 p8 hl8 hr8 => ?_⟩
    have rf := rows_flat cok
    simp only [wEqT, thaw_rows hl8 hr8, thaw_rowsD]
    refine ⟨rf, rf, ?_⟩
    rw [eqD_self 60 _ rf]
    simp only [bne_self_eq_false, wBl, Bool.false_eq_true, if_false]
    exact h _ _ ⟨_, _, _, _, _, _, _, _, rfl⟩
  · obtain ⟨i, hi, rfl⟩ := List.mem_iff_getElem.mp hl
    have hir : i < (chosenF r m).length := by rw [← hL.len]; exact hi
    exact ⟨_, hL.row i ls[i] (chosenF r m)[i] (List.getElem?_eq_getElem hi) (List.getElem?_eq_getElem hir)⟩
theorem k_law : Keeps n_law i_law spLaw := by
  rintro ds μ Q ⟨ns, rfl, hl, h⟩
  have hlo : (ns.length : Int) ≤ 63 := by omega
  simp only [i_law, n_law, startD, topZ, wSs, wS, wE, wEs, wI, newL, wSeq, wBlt, lenOf, seqOf, wRng, esLen, List.map_cons, List.map_nil, List.length_cons, List.length_nil, List.cons_append, List.nil_append, List.getElem?_cons_zero, List.length_map, Option.map_some]
  refine ⟨?_, ?_, ?_⟩
  · simp only [lim]; split <;> split <;> omega
  · split <;> split <;> omega
  refine wLoop_inv (fun ds ρ μ' => (∀ d ∈ ds, ∃ i : Int, d = .int i ∧ 0 ≤ i) ∧ ∃ a b c d e f g i, ρ = [some (.ro (ns.map D.int)), a, b, c, d, e, f, g, i]) ?_ ?_ _ _ _ ⟨?_, none, none, none, none, none, none, none, none, rfl⟩
  · rintro d ds ρ μ1 N hN ⟨hd, a1, a2, a3, a4, a5, a6, a7, a8, rfl⟩
    obtain ⟨k, rfl, k0⟩ := hd d (by simp)
    have nx : ∀ ρ μ, (∃ a b c d e f g i, ρ = [some (.ro (ns.map D.int)), a, b, c, d, e, f, g, i]) → N ρ μ := fun ρ μ q => hN ρ μ ⟨fun d hd' => hd d (by simp [hd']), q⟩
    refine ⟨trivial, ?_⟩
    simp only [bindT, List.set_cons_succ, List.set_cons_zero, List.getElem?_cons_zero, List.getElem?_cons_succ]
    refine ⟨ns, rfl, by omega, k0, fun b0 => ?_⟩
    simp only [wT, wE, wEs, List.set_cons_succ, List.set_cons_zero, List.getElem?_cons_zero, List.getElem?_cons_succ, wCmp, flat, true_and, wBl]
    by_cases ck : eqD (.int k) (.int 0) = true
    · simp only [ck, if_true]
      refine ⟨isBox_new, fun r b1 rl rok => ?_⟩
      exact tl_ok (isBox_bx isBox_new) rl rok nx
    · simp only [ck, Bool.false_eq_true, if_false]
      refine ⟨isBox_new, by decide, by decide, fun r b1 rl rok => ?_⟩
      exact tl_ok (isBox_bx isBox_new) (by omega) rok nx
  · rintro ρ μ1 ⟨-, a, b, c, d, e, f, g, i, rfl⟩
    exact ⟨trivial, h _⟩
  · intro d hd
    obtain ⟨i, rfl, h0, _⟩ := rangeL_mem hd
    exact ⟨i, rfl, h0⟩
end DW.K24
end

set_option linter.all false
set_option maxRecDepth 100000
namespace DW.K24
open PySem L2 DW DW.K03 DW.K25 DW.CHO
noncomputable def top (i : Nat) : Stmt := PySem.Challenge.pw_pourwright_k24_chosen_runs.main.body.getD i (.Pass ⟨0, 0, 0, 0⟩)
noncomputable def blts : List Str := ["isinstance", "int", "bool", "len", "min", "abs", "range", "divmod", "tuple", "str", "list", "zip", "all", "max"]
noncomputable abbrev s_is_whole : Stmt := top 4
noncomputable def p_is_whole : List Str := ["thing"]
theorem sc_is_whole : FnScope n_is_whole p_is_whole (defScope s_is_whole) := ⟨rfl, rfl, rfl, by decide +kernel, rfl, by decide +kernel, by decide +kernel⟩
theorem m_is_whole : mSs (Ctx.of n_is_whole (defScope s_is_whole).names blts) i_is_whole (defBody s_is_whole) = true := by decide +kernel
theorem ar_is_whole : ∀ ds μ Q, sp_is_whole ds μ Q → ds.length = p_is_whole.length := by
  intro ds μ Q h
  unfold sp_is_whole at h
  first
  | (obtain ⟨_, rfl, _⟩ := h; rfl)
  | (obtain ⟨_, _, rfl, _⟩ := h; rfl)
  | (obtain ⟨_, _, _, rfl, _⟩ := h; rfl)
  | (obtain ⟨_, _, _, _, rfl, _⟩ := h; rfl)
  | (obtain ⟨_, _, _, _, _, rfl, _⟩ := h; rfl)
  | (obtain ⟨_, _, _, _, _, _, rfl, _⟩ := h; rfl)
  | (obtain ⟨_, _, _, _, _, _, _, rfl, _⟩ := h; rfl)
  | (obtain ⟨_, _, _, _, _, _, _, _, rfl, _⟩ := h; rfl)
  | (obtain ⟨_, _, _, _, _, _, _, _, _, rfl, _⟩ := h; rfl)
  | (obtain ⟨_, _, _, _, _, _, _, _, _, _, rfl, _⟩ := h; rfl)
  | (split at h <;> first | rfl | exact h.elim)
noncomputable abbrev s_less : Stmt := top 5
noncomputable def p_less : List Str := ["one", "other"]
theorem sc_less : FnScope n_less p_less (defScope s_less) := ⟨rfl, rfl, rfl, by decide +kernel, rfl, by decide +kernel, by decide +kernel⟩
theorem m_less : mSs (Ctx.of n_less (defScope s_less).names blts) i_less (defBody s_less) = true := by decide +kernel
theorem ar_less : ∀ ds μ Q, sp_less ds μ Q → ds.length = p_less.length := by
  intro ds μ Q h
  unfold sp_less at h
  first
  | (obtain ⟨_, rfl, _⟩ := h; rfl)
  | (obtain ⟨_, _, rfl, _⟩ := h; rfl)
  | (obtain ⟨_, _, _, rfl, _⟩ := h; rfl)
  | (obtain ⟨_, _, _, _, rfl, _⟩ := h; rfl)
  | (obtain ⟨_, _, _, _, _, rfl, _⟩ := h; rfl)
  | (obtain ⟨_, _, _, _, _, _, rfl, _⟩ := h; rfl)
  | (obtain ⟨_, _, _, _, _, _, _, rfl, _⟩ := h; rfl)
  | (obtain ⟨_, _, _, _, _, _, _, _, rfl, _⟩ := h; rfl)
  | (obtain ⟨_, _, _, _, _, _, _, _, _, rfl, _⟩ := h; rfl)
  | (obtain ⟨_, _, _, _, _, _, _, _, _, _, rfl, _⟩ := h; rfl)
  | (split at h <;> first | rfl | exact h.elim)
noncomputable abbrev s_runs_told : Stmt := top 12
noncomputable def p_runs_told : List Str := ["told"]
theorem sc_runs_told : FnScope n_runs_told p_runs_told (defScope s_runs_told) := ⟨rfl, rfl, rfl, by decide +kernel, rfl, by decide +kernel, by decide +kernel⟩
theorem m_runs_told : mSs (Ctx.of n_runs_told (defScope s_runs_told).names blts) i_runs_told (defBody s_runs_told) = true := by decide +kernel
theorem ar_runs_told : ∀ ds μ Q, sp_runs_told ds μ Q → ds.length = p_runs_told.length := by
  intro ds μ Q h
  unfold sp_runs_told at h
  first
  | (obtain ⟨_, rfl, _⟩ := h; rfl)
  | (obtain ⟨_, _, rfl, _⟩ := h; rfl)
  | (obtain ⟨_, _, _, rfl, _⟩ := h; rfl)
  | (obtain ⟨_, _, _, _, rfl, _⟩ := h; rfl)
  | (obtain ⟨_, _, _, _, _, rfl, _⟩ := h; rfl)
  | (obtain ⟨_, _, _, _, _, _, rfl, _⟩ := h; rfl)
  | (obtain ⟨_, _, _, _, _, _, _, rfl, _⟩ := h; rfl)
  | (obtain ⟨_, _, _, _, _, _, _, _, rfl, _⟩ := h; rfl)
  | (obtain ⟨_, _, _, _, _, _, _, _, _, rfl, _⟩ := h; rfl)
  | (obtain ⟨_, _, _, _, _, _, _, _, _, _, rfl, _⟩ := h; rfl)
  | (split at h <;> first | rfl | exact h.elim)
noncomputable abbrev sL_cell : Stmt := top 14
noncomputable def pL_cell : List Str := ["script", "k"]
theorem scL_cell : FnScope nL_cell pL_cell (defScope sL_cell) := ⟨rfl, rfl, rfl, by decide +kernel, rfl, by decide +kernel, by decide +kernel⟩
theorem mL_cell : mSs (Ctx.of nL_cell (defScope sL_cell).names blts) iL_cell (defBody sL_cell) = true := by decide +kernel
theorem arL_cell : ∀ ds μ Q, spL_cell ds μ Q → ds.length = pL_cell.length := by
  intro ds μ Q h
  unfold spL_cell at h
  first
  | (obtain ⟨_, rfl, _⟩ := h; rfl)
  | (obtain ⟨_, _, rfl, _⟩ := h; rfl)
  | (obtain ⟨_, _, _, rfl, _⟩ := h; rfl)
  | (obtain ⟨_, _, _, _, rfl, _⟩ := h; rfl)
  | (obtain ⟨_, _, _, _, _, rfl, _⟩ := h; rfl)
  | (obtain ⟨_, _, _, _, _, _, rfl, _⟩ := h; rfl)
  | (obtain ⟨_, _, _, _, _, _, _, rfl, _⟩ := h; rfl)
  | (obtain ⟨_, _, _, _, _, _, _, _, rfl, _⟩ := h; rfl)
  | (obtain ⟨_, _, _, _, _, _, _, _, _, rfl, _⟩ := h; rfl)
  | (obtain ⟨_, _, _, _, _, _, _, _, _, _, rfl, _⟩ := h; rfl)
  | (split at h <;> first | rfl | exact h.elim)
noncomputable abbrev sL_mix : Stmt := top 15
noncomputable def pL_mix : List Str := ["cell", "k"]
theorem scL_mix : FnScope nL_mix pL_mix (defScope sL_mix) := ⟨rfl, rfl, rfl, by decide +kernel, rfl, by decide +kernel, by decide +kernel⟩
theorem mL_mix : mSs (Ctx.of nL_mix (defScope sL_mix).names blts) iL_mix (defBody sL_mix) = true := by decide +kernel
theorem arL_mix : ∀ ds μ Q, spL_mix ds μ Q → ds.length = pL_mix.length := by
  intro ds μ Q h
  unfold spL_mix at h
  first
  | (obtain ⟨_, rfl, _⟩ := h; rfl)
  | (obtain ⟨_, _, rfl, _⟩ := h; rfl)
  | (obtain ⟨_, _, _, rfl, _⟩ := h; rfl)
  | (obtain ⟨_, _, _, _, rfl, _⟩ := h; rfl)
  | (obtain ⟨_, _, _, _, _, rfl, _⟩ := h; rfl)
  | (obtain ⟨_, _, _, _, _, _, rfl, _⟩ := h; rfl)
  | (obtain ⟨_, _, _, _, _, _, _, rfl, _⟩ := h; rfl)
  | (obtain ⟨_, _, _, _, _, _, _, _, rfl, _⟩ := h; rfl)
  | (obtain ⟨_, _, _, _, _, _, _, _, _, rfl, _⟩ := h; rfl)
  | (obtain ⟨_, _, _, _, _, _, _, _, _, _, rfl, _⟩ := h; rfl)
  | (split at h <;> first | rfl | exact h.elim)
noncomputable abbrev sL_take : Stmt := top 17
noncomputable def pL_take : List Str := ["box", "many"]
theorem scL_take : FnScope nL_take pL_take (defScope sL_take) := ⟨rfl, rfl, rfl, by decide +kernel, rfl, by decide +kernel, by decide +kernel⟩
theorem mL_take : mSs (Ctx.of nL_take (defScope sL_take).names blts) iL_take (defBody sL_take) = true := by decide +kernel
theorem arL_take : ∀ ds μ Q, spL_take ds μ Q → ds.length = pL_take.length := by
  intro ds μ Q h
  unfold spL_take at h
  first
  | (obtain ⟨_, rfl, _⟩ := h; rfl)
  | (obtain ⟨_, _, rfl, _⟩ := h; rfl)
  | (obtain ⟨_, _, _, rfl, _⟩ := h; rfl)
  | (obtain ⟨_, _, _, _, rfl, _⟩ := h; rfl)
  | (obtain ⟨_, _, _, _, _, rfl, _⟩ := h; rfl)
  | (obtain ⟨_, _, _, _, _, _, rfl, _⟩ := h; rfl)
  | (obtain ⟨_, _, _, _, _, _, _, rfl, _⟩ := h; rfl)
  | (obtain ⟨_, _, _, _, _, _, _, _, rfl, _⟩ := h; rfl)
  | (obtain ⟨_, _, _, _, _, _, _, _, _, rfl, _⟩ := h; rfl)
  | (obtain ⟨_, _, _, _, _, _, _, _, _, _, rfl, _⟩ := h; rfl)
  | (split at h <;> first | rfl | exact h.elim)
noncomputable abbrev sL_under : Stmt := top 21
noncomputable def pL_under : List Str := ["one", "other"]
theorem scL_under : FnScope nL_under pL_under (defScope sL_under) := ⟨rfl, rfl, rfl, by decide +kernel, rfl, by decide +kernel, by decide +kernel⟩
theorem mL_under : mSs (Ctx.of nL_under (defScope sL_under).names blts) iL_under (defBody sL_under) = true := by decide +kernel
theorem arL_under : ∀ ds μ Q, spL_under ds μ Q → ds.length = pL_under.length := by
  intro ds μ Q h
  unfold spL_under at h
  first
  | (obtain ⟨_, rfl, _⟩ := h; rfl)
  | (obtain ⟨_, _, rfl, _⟩ := h; rfl)
  | (obtain ⟨_, _, _, rfl, _⟩ := h; rfl)
  | (obtain ⟨_, _, _, _, rfl, _⟩ := h; rfl)
  | (obtain ⟨_, _, _, _, _, rfl, _⟩ := h; rfl)
  | (obtain ⟨_, _, _, _, _, _, rfl, _⟩ := h; rfl)
  | (obtain ⟨_, _, _, _, _, _, _, rfl, _⟩ := h; rfl)
  | (obtain ⟨_, _, _, _, _, _, _, _, rfl, _⟩ := h; rfl)
  | (obtain ⟨_, _, _, _, _, _, _, _, _, rfl, _⟩ := h; rfl)
  | (obtain ⟨_, _, _, _, _, _, _, _, _, _, rfl, _⟩ := h; rfl)
  | (split at h <;> first | rfl | exact h.elim)
noncomputable abbrev sL_whole : Stmt := top 22
noncomputable def pL_whole : List Str := ["thing"]
theorem scL_whole : FnScope nL_whole pL_whole (defScope sL_whole) := ⟨rfl, rfl, rfl, by decide +kernel, rfl, by decide +kernel, by decide +kernel⟩
theorem mL_whole : mSs (Ctx.of nL_whole (defScope sL_whole).names blts) iL_whole (defBody sL_whole) = true := by decide +kernel
theorem arL_whole : ∀ ds μ Q, spL_whole ds μ Q → ds.length = pL_whole.length := by
  intro ds μ Q h
  unfold spL_whole at h
  first
  | (obtain ⟨_, rfl, _⟩ := h; rfl)
  | (obtain ⟨_, _, rfl, _⟩ := h; rfl)
  | (obtain ⟨_, _, _, rfl, _⟩ := h; rfl)
  | (obtain ⟨_, _, _, _, rfl, _⟩ := h; rfl)
  | (obtain ⟨_, _, _, _, _, rfl, _⟩ := h; rfl)
  | (obtain ⟨_, _, _, _, _, _, rfl, _⟩ := h; rfl)
  | (obtain ⟨_, _, _, _, _, _, _, rfl, _⟩ := h; rfl)
  | (obtain ⟨_, _, _, _, _, _, _, _, rfl, _⟩ := h; rfl)
  | (obtain ⟨_, _, _, _, _, _, _, _, _, rfl, _⟩ := h; rfl)
  | (obtain ⟨_, _, _, _, _, _, _, _, _, _, rfl, _⟩ := h; rfl)
  | (split at h <;> first | rfl | exact h.elim)
noncomputable abbrev s_check_room : Stmt := top 8
noncomputable def p_check_room : List Str := ["thing"]
theorem sc_check_room : FnScope n_check_room p_check_room (defScope s_check_room) := ⟨rfl, rfl, rfl, by decide +kernel, rfl, by decide +kernel, by decide +kernel⟩
theorem m_check_room : mSs (Ctx.of n_check_room (defScope s_check_room).names blts) i_check_room (defBody s_check_room) = true := by decide +kernel
theorem ar_check_room : ∀ ds μ Q, sp_check_room ds μ Q → ds.length = p_check_room.length := by
  intro ds μ Q h
  unfold sp_check_room at h
  first
  | (obtain ⟨_, rfl, _⟩ := h; rfl)
  | (obtain ⟨_, _, rfl, _⟩ := h; rfl)
  | (obtain ⟨_, _, _, rfl, _⟩ := h; rfl)
  | (obtain ⟨_, _, _, _, rfl, _⟩ := h; rfl)
  | (obtain ⟨_, _, _, _, _, rfl, _⟩ := h; rfl)
  | (obtain ⟨_, _, _, _, _, _, rfl, _⟩ := h; rfl)
  | (obtain ⟨_, _, _, _, _, _, _, rfl, _⟩ := h; rfl)
  | (obtain ⟨_, _, _, _, _, _, _, _, rfl, _⟩ := h; rfl)
  | (obtain ⟨_, _, _, _, _, _, _, _, _, rfl, _⟩ := h; rfl)
  | (obtain ⟨_, _, _, _, _, _, _, _, _, _, rfl, _⟩ := h; rfl)
  | (split at h <;> first | rfl | exact h.elim)
noncomputable abbrev s_Chooser_may_go : Stmt := inClass (top 10) 4
noncomputable def p_Chooser_may_go : List Str := ["self", "item"]
theorem sc_Chooser_may_go : FnScope n_Chooser_may_go p_Chooser_may_go (defScope s_Chooser_may_go) := ⟨rfl, rfl, rfl, by decide +kernel, rfl, by decide +kernel, by decide +kernel⟩
theorem m_Chooser_may_go : mSs (Ctx.of n_Chooser_may_go (defScope s_Chooser_may_go).names blts) i_Chooser_may_go (defBody s_Chooser_may_go) = true := by decide +kernel
theorem ar_Chooser_may_go : ∀ ds μ Q, sp_Chooser_may_go ds μ Q → ds.length = p_Chooser_may_go.length := by
  intro ds μ Q h
  unfold sp_Chooser_may_go at h
  first
  | (obtain ⟨_, rfl, _⟩ := h; rfl)
  | (obtain ⟨_, _, rfl, _⟩ := h; rfl)
  | (obtain ⟨_, _, _, rfl, _⟩ := h; rfl)
  | (obtain ⟨_, _, _, _, rfl, _⟩ := h; rfl)
  | (obtain ⟨_, _, _, _, _, rfl, _⟩ := h; rfl)
  | (obtain ⟨_, _, _, _, _, _, rfl, _⟩ := h; rfl)
  | (obtain ⟨_, _, _, _, _, _, _, rfl, _⟩ := h; rfl)
  | (obtain ⟨_, _, _, _, _, _, _, _, rfl, _⟩ := h; rfl)
  | (obtain ⟨_, _, _, _, _, _, _, _, _, rfl, _⟩ := h; rfl)
  | (obtain ⟨_, _, _, _, _, _, _, _, _, _, rfl, _⟩ := h; rfl)
  | (split at h <;> first | rfl | exact h.elim)
noncomputable abbrev sL_box : Stmt := top 16
noncomputable def pL_box : List Str := ["script", "k"]
theorem scL_box : FnScope nL_box pL_box (defScope sL_box) := ⟨rfl, rfl, rfl, by decide +kernel, rfl, by decide +kernel, by decide +kernel⟩
theorem mL_box : mSs (Ctx.of nL_box (defScope sL_box).names blts) iL_box (defBody sL_box) = true := by decide +kernel
theorem arL_box : ∀ ds μ Q, spL_box ds μ Q → ds.length = pL_box.length := by
  intro ds μ Q h
  unfold spL_box at h
  first
  | (obtain ⟨_, rfl, _⟩ := h; rfl)
  | (obtain ⟨_, _, rfl, _⟩ := h; rfl)
  | (obtain ⟨_, _, _, rfl, _⟩ := h; rfl)
  | (obtain ⟨_, _, _, _, rfl, _⟩ := h; rfl)
  | (obtain ⟨_, _, _, _, _, rfl, _⟩ := h; rfl)
  | (obtain ⟨_, _, _, _, _, _, rfl, _⟩ := h; rfl)
  | (obtain ⟨_, _, _, _, _, _, _, rfl, _⟩ := h; rfl)
  | (obtain ⟨_, _, _, _, _, _, _, _, rfl, _⟩ := h; rfl)
  | (obtain ⟨_, _, _, _, _, _, _, _, _, rfl, _⟩ := h; rfl)
  | (obtain ⟨_, _, _, _, _, _, _, _, _, _, rfl, _⟩ := h; rfl)
  | (split at h <;> first | rfl | exact h.elim)
noncomputable abbrev sL_tag : Stmt := top 18
noncomputable def pL_tag : List Str := ["box"]
theorem scL_tag : FnScope nL_tag pL_tag (defScope sL_tag) := ⟨rfl, rfl, rfl, by decide +kernel, rfl, by decide +kernel, by decide +kernel⟩
theorem mL_tag : mSs (Ctx.of nL_tag (defScope sL_tag).names blts) iL_tag (defBody sL_tag) = true := by decide +kernel
theorem arL_tag : ∀ ds μ Q, spL_tag ds μ Q → ds.length = pL_tag.length := by
  intro ds μ Q h
  unfold spL_tag at h
  first
  | (obtain ⟨_, rfl, _⟩ := h; rfl)
  | (obtain ⟨_, _, rfl, _⟩ := h; rfl)
  | (obtain ⟨_, _, _, rfl, _⟩ := h; rfl)
  | (obtain ⟨_, _, _, _, rfl, _⟩ := h; rfl)
  | (obtain ⟨_, _, _, _, _, rfl, _⟩ := h; rfl)
  | (obtain ⟨_, _, _, _, _, _, rfl, _⟩ := h; rfl)
  | (obtain ⟨_, _, _, _, _, _, _, rfl, _⟩ := h; rfl)
  | (obtain ⟨_, _, _, _, _, _, _, _, rfl, _⟩ := h; rfl)
  | (obtain ⟨_, _, _, _, _, _, _, _, _, rfl, _⟩ := h; rfl)
  | (obtain ⟨_, _, _, _, _, _, _, _, _, _, rfl, _⟩ := h; rfl)
  | (split at h <;> first | rfl | exact h.elim)
noncomputable abbrev sL_key : Stmt := top 19
noncomputable def pL_key : List Str := ["box"]
theorem scL_key : FnScope nL_key pL_key (defScope sL_key) := ⟨rfl, rfl, rfl, by decide +kernel, rfl, by decide +kernel, by decide +kernel⟩
theorem mL_key : mSs (Ctx.of nL_key (defScope sL_key).names blts) iL_key (defBody sL_key) = true := by decide +kernel
theorem arL_key : ∀ ds μ Q, spL_key ds μ Q → ds.length = pL_key.length := by
  intro ds μ Q h
  unfold spL_key at h
  first
  | (obtain ⟨_, rfl, _⟩ := h; rfl)
  | (obtain ⟨_, _, rfl, _⟩ := h; rfl)
  | (obtain ⟨_, _, _, rfl, _⟩ := h; rfl)
  | (obtain ⟨_, _, _, _, rfl, _⟩ := h; rfl)
  | (obtain ⟨_, _, _, _, _, rfl, _⟩ := h; rfl)
  | (obtain ⟨_, _, _, _, _, _, rfl, _⟩ := h; rfl)
  | (obtain ⟨_, _, _, _, _, _, _, rfl, _⟩ := h; rfl)
  | (obtain ⟨_, _, _, _, _, _, _, _, rfl, _⟩ := h; rfl)
  | (obtain ⟨_, _, _, _, _, _, _, _, _, rfl, _⟩ := h; rfl)
  | (obtain ⟨_, _, _, _, _, _, _, _, _, _, rfl, _⟩ := h; rfl)
  | (split at h <;> first | rfl | exact h.elim)
noncomputable abbrev sL_is_item : Stmt := top 23
noncomputable def pL_is_item : List Str := ["thing"]
theorem scL_is_item : FnScope nL_is_item pL_is_item (defScope sL_is_item) := ⟨rfl, rfl, rfl, by decide +kernel, rfl, by decide +kernel, by decide +kernel⟩
theorem mL_is_item : mSs (Ctx.of nL_is_item (defScope sL_is_item).names blts) iL_is_item (defBody sL_is_item) = true := by decide +kernel
theorem arL_is_item : ∀ ds μ Q, spL_is_item ds μ Q → ds.length = pL_is_item.length := by
  intro ds μ Q h
  unfold spL_is_item at h
  first
  | (obtain ⟨_, rfl, _⟩ := h; rfl)
  | (obtain ⟨_, _, rfl, _⟩ := h; rfl)
  | (obtain ⟨_, _, _, rfl, _⟩ := h; rfl)
  | (obtain ⟨_, _, _, _, rfl, _⟩ := h; rfl)
  | (obtain ⟨_, _, _, _, _, rfl, _⟩ := h; rfl)
  | (obtain ⟨_, _, _, _, _, _, rfl, _⟩ := h; rfl)
  | (obtain ⟨_, _, _, _, _, _, _, rfl, _⟩ := h; rfl)
  | (obtain ⟨_, _, _, _, _, _, _, _, rfl, _⟩ := h; rfl)
  | (obtain ⟨_, _, _, _, _, _, _, _, _, rfl, _⟩ := h; rfl)
  | (obtain ⟨_, _, _, _, _, _, _, _, _, _, rfl, _⟩ := h; rfl)
  | (split at h <;> first | rfl | exact h.elim)
noncomputable abbrev sL_room : Stmt := top 26
noncomputable def pL_room : List Str := ["box"]
theorem scL_room : FnScope nL_room pL_room (defScope sL_room) := ⟨rfl, rfl, rfl, by decide +kernel, rfl, by decide +kernel, by decide +kernel⟩
theorem mL_room : mSs (Ctx.of nL_room (defScope sL_room).names blts) iL_room (defBody sL_room) = true := by decide +kernel
theorem arL_room : ∀ ds μ Q, spL_room ds μ Q → ds.length = pL_room.length := by
  intro ds μ Q h
  unfold spL_room at h
  first
  | (obtain ⟨_, rfl, _⟩ := h; rfl)
  | (obtain ⟨_, _, rfl, _⟩ := h; rfl)
  | (obtain ⟨_, _, _, rfl, _⟩ := h; rfl)
  | (obtain ⟨_, _, _, _, rfl, _⟩ := h; rfl)
  | (obtain ⟨_, _, _, _, _, rfl, _⟩ := h; rfl)
  | (obtain ⟨_, _, _, _, _, _, rfl, _⟩ := h; rfl)
  | (obtain ⟨_, _, _, _, _, _, _, rfl, _⟩ := h; rfl)
  | (obtain ⟨_, _, _, _, _, _, _, _, rfl, _⟩ := h; rfl)
  | (obtain ⟨_, _, _, _, _, _, _, _, _, rfl, _⟩ := h; rfl)
  | (obtain ⟨_, _, _, _, _, _, _, _, _, _, rfl, _⟩ := h; rfl)
  | (split at h <;> first | rfl | exact h.elim)
noncomputable abbrev sL_least : Stmt := top 27
noncomputable def pL_least : List Str := ["some"]
theorem scL_least : FnScope nL_least pL_least (defScope sL_least) := ⟨rfl, rfl, rfl, by decide +kernel, rfl, by decide +kernel, by decide +kernel⟩
theorem mL_least : mSs (Ctx.of nL_least (defScope sL_least).names blts) iL_least (defBody sL_least) = true := by decide +kernel
theorem arL_least : ∀ ds μ Q, spL_least ds μ Q → ds.length = pL_least.length := by
  intro ds μ Q h
  unfold spL_least at h
  first
  | (obtain ⟨_, rfl, _⟩ := h; rfl)
  | (obtain ⟨_, _, rfl, _⟩ := h; rfl)
  | (obtain ⟨_, _, _, rfl, _⟩ := h; rfl)
  | (obtain ⟨_, _, _, _, rfl, _⟩ := h; rfl)
  | (obtain ⟨_, _, _, _, _, rfl, _⟩ := h; rfl)
  | (obtain ⟨_, _, _, _, _, _, rfl, _⟩ := h; rfl)
  | (obtain ⟨_, _, _, _, _, _, _, rfl, _⟩ := h; rfl)
  | (obtain ⟨_, _, _, _, _, _, _, _, rfl, _⟩ := h; rfl)
  | (obtain ⟨_, _, _, _, _, _, _, _, _, rfl, _⟩ := h; rfl)
  | (obtain ⟨_, _, _, _, _, _, _, _, _, _, rfl, _⟩ := h; rfl)
  | (split at h <;> first | rfl | exact h.elim)
noncomputable abbrev s_Chooser_let_out : Stmt := inClass (top 10) 3
noncomputable def p_Chooser_let_out : List Str := ["self"]
theorem sc_Chooser_let_out : FnScope n_Chooser_let_out p_Chooser_let_out (defScope s_Chooser_let_out) := ⟨rfl, rfl, rfl, by decide +kernel, rfl, by decide +kernel, by decide +kernel⟩
theorem m_Chooser_let_out : mSs (Ctx.of n_Chooser_let_out (defScope s_Chooser_let_out).names blts) i_Chooser_let_out (defBody s_Chooser_let_out) = true := by decide +kernel
theorem ar_Chooser_let_out : ∀ ds μ Q, sp_Chooser_let_out ds μ Q → ds.length = p_Chooser_let_out.length := by
  intro ds μ Q h
  unfold sp_Chooser_let_out at h
  first
  | (obtain ⟨_, rfl, _⟩ := h; rfl)
  | (obtain ⟨_, _, rfl, _⟩ := h; rfl)
  | (obtain ⟨_, _, _, rfl, _⟩ := h; rfl)
  | (obtain ⟨_, _, _, _, rfl, _⟩ := h; rfl)
  | (obtain ⟨_, _, _, _, _, rfl, _⟩ := h; rfl)
  | (obtain ⟨_, _, _, _, _, _, rfl, _⟩ := h; rfl)
  | (obtain ⟨_, _, _, _, _, _, _, rfl, _⟩ := h; rfl)
  | (obtain ⟨_, _, _, _, _, _, _, _, rfl, _⟩ := h; rfl)
  | (obtain ⟨_, _, _, _, _, _, _, _, _, rfl, _⟩ := h; rfl)
  | (obtain ⟨_, _, _, _, _, _, _, _, _, _, rfl, _⟩ := h; rfl)
  | (split at h <;> first | rfl | exact h.elim)
noncomputable abbrev sL_row : Stmt := top 20
noncomputable def pL_row : List Str := ["box", "most"]
theorem scL_row : FnScope nL_row pL_row (defScope sL_row) := ⟨rfl, rfl, rfl, by decide +kernel, rfl, by decide +kernel, by decide +kernel⟩
theorem mL_row : mSs (Ctx.of nL_row (defScope sL_row).names blts) iL_row (defBody sL_row) = true := by decide +kernel
theorem arL_row : ∀ ds μ Q, spL_row ds μ Q → ds.length = pL_row.length := by
  intro ds μ Q h
  unfold spL_row at h
  first
  | (obtain ⟨_, rfl, _⟩ := h; rfl)
  | (obtain ⟨_, _, rfl, _⟩ := h; rfl)
  | (obtain ⟨_, _, _, rfl, _⟩ := h; rfl)
  | (obtain ⟨_, _, _, _, rfl, _⟩ := h; rfl)
  | (obtain ⟨_, _, _, _, _, rfl, _⟩ := h; rfl)
  | (obtain ⟨_, _, _, _, _, _, rfl, _⟩ := h; rfl)
  | (obtain ⟨_, _, _, _, _, _, _, rfl, _⟩ := h; rfl)
  | (obtain ⟨_, _, _, _, _, _, _, _, rfl, _⟩ := h; rfl)
  | (obtain ⟨_, _, _, _, _, _, _, _, _, rfl, _⟩ := h; rfl)
  | (obtain ⟨_, _, _, _, _, _, _, _, _, _, rfl, _⟩ := h; rfl)
  | (split at h <;> first | rfl | exact h.elim)
noncomputable abbrev sL_is_list : Stmt := top 24
noncomputable def pL_is_list : List Str := ["found", "due"]
theorem scL_is_list : FnScope nL_is_list pL_is_list (defScope sL_is_list) := ⟨rfl, rfl, rfl, by decide +kernel, rfl, by decide +kernel, by decide +kernel⟩
theorem mL_is_list : mSs (Ctx.of nL_is_list (defScope sL_is_list).names blts) iL_is_list (defBody sL_is_list) = true := by decide +kernel
theorem arL_is_list : ∀ ds μ Q, spL_is_list ds μ Q → ds.length = pL_is_list.length := by
  intro ds μ Q h
  unfold spL_is_list at h
  first
  | (obtain ⟨_, rfl, _⟩ := h; rfl)
  | (obtain ⟨_, _, rfl, _⟩ := h; rfl)
  | (obtain ⟨_, _, _, rfl, _⟩ := h; rfl)
  | (obtain ⟨_, _, _, _, rfl, _⟩ := h; rfl)
  | (obtain ⟨_, _, _, _, _, rfl, _⟩ := h; rfl)
  | (obtain ⟨_, _, _, _, _, _, rfl, _⟩ := h; rfl)
  | (obtain ⟨_, _, _, _, _, _, _, rfl, _⟩ := h; rfl)
  | (obtain ⟨_, _, _, _, _, _, _, _, rfl, _⟩ := h; rfl)
  | (obtain ⟨_, _, _, _, _, _, _, _, _, rfl, _⟩ := h; rfl)
  | (obtain ⟨_, _, _, _, _, _, _, _, _, _, rfl, _⟩ := h; rfl)
  | (split at h <;> first | rfl | exact h.elim)
noncomputable abbrev sL_out : Stmt := top 28
noncomputable def pL_out : List Str := ["state"]
theorem scL_out : FnScope nL_out pL_out (defScope sL_out) := ⟨rfl, rfl, rfl, by decide +kernel, rfl, by decide +kernel, by decide +kernel⟩
theorem mL_out : mSs (Ctx.of nL_out (defScope sL_out).names blts) iL_out (defBody sL_out) = true := by decide +kernel
theorem arL_out : ∀ ds μ Q, spL_out ds μ Q → ds.length = pL_out.length := by
  intro ds μ Q h
  unfold spL_out at h
  first
  | (obtain ⟨_, rfl, _⟩ := h; rfl)
  | (obtain ⟨_, _, rfl, _⟩ := h; rfl)
  | (obtain ⟨_, _, _, rfl, _⟩ := h; rfl)
  | (obtain ⟨_, _, _, _, rfl, _⟩ := h; rfl)
  | (obtain ⟨_, _, _, _, _, rfl, _⟩ := h; rfl)
  | (obtain ⟨_, _, _, _, _, _, rfl, _⟩ := h; rfl)
  | (obtain ⟨_, _, _, _, _, _, _, rfl, _⟩ := h; rfl)
  | (obtain ⟨_, _, _, _, _, _, _, _, rfl, _⟩ := h; rfl)
  | (obtain ⟨_, _, _, _, _, _, _, _, _, rfl, _⟩ := h; rfl)
  | (obtain ⟨_, _, _, _, _, _, _, _, _, _, rfl, _⟩ := h; rfl)
  | (split at h <;> first | rfl | exact h.elim)
noncomputable abbrev s_Chooser_init : Stmt := inClass (top 10) 0
noncomputable def p_Chooser_init : List Str := ["self", "room"]
theorem sc_Chooser_init : FnScope n_Chooser_init p_Chooser_init (defScope s_Chooser_init) := ⟨rfl, rfl, rfl, by decide +kernel, rfl, by decide +kernel, by decide +kernel⟩
theorem m_Chooser_init : mSs (Ctx.of n_Chooser_init (defScope s_Chooser_init).names blts) i_Chooser_init (defBody s_Chooser_init) = true := by decide +kernel
theorem ar_Chooser_init : ∀ ds μ Q, sp_Chooser_init ds μ Q → ds.length = p_Chooser_init.length := by
  intro ds μ Q h
  unfold sp_Chooser_init at h
  first
  | (obtain ⟨_, rfl, _⟩ := h; rfl)
  | (obtain ⟨_, _, rfl, _⟩ := h; rfl)
  | (obtain ⟨_, _, _, rfl, _⟩ := h; rfl)
  | (obtain ⟨_, _, _, _, rfl, _⟩ := h; rfl)
  | (obtain ⟨_, _, _, _, _, rfl, _⟩ := h; rfl)
  | (obtain ⟨_, _, _, _, _, _, rfl, _⟩ := h; rfl)
  | (obtain ⟨_, _, _, _, _, _, _, rfl, _⟩ := h; rfl)
  | (obtain ⟨_, _, _, _, _, _, _, _, rfl, _⟩ := h; rfl)
  | (obtain ⟨_, _, _, _, _, _, _, _, _, rfl, _⟩ := h; rfl)
  | (obtain ⟨_, _, _, _, _, _, _, _, _, _, rfl, _⟩ := h; rfl)
  | (split at h <;> first | rfl | exact h.elim)
noncomputable abbrev s_Chooser_give : Stmt := inClass (top 10) 1
noncomputable def p_Chooser_give : List Str := ["self", "item"]
theorem sc_Chooser_give : FnScope n_Chooser_give p_Chooser_give (defScope s_Chooser_give) := ⟨rfl, rfl, rfl, by decide +kernel, rfl, by decide +kernel, by decide +kernel⟩
theorem m_Chooser_give : mSs (Ctx.of n_Chooser_give (defScope s_Chooser_give).names blts) i_Chooser_give (defBody s_Chooser_give) = true := by decide +kernel
theorem ar_Chooser_give : ∀ ds μ Q, sp_Chooser_give ds μ Q → ds.length = p_Chooser_give.length := by
  intro ds μ Q h
  unfold sp_Chooser_give at h
  first
  | (obtain ⟨_, rfl, _⟩ := h; rfl)
  | (obtain ⟨_, _, rfl, _⟩ := h; rfl)
  | (obtain ⟨_, _, _, rfl, _⟩ := h; rfl)
  | (obtain ⟨_, _, _, _, rfl, _⟩ := h; rfl)
  | (obtain ⟨_, _, _, _, _, rfl, _⟩ := h; rfl)
  | (obtain ⟨_, _, _, _, _, _, rfl, _⟩ := h; rfl)
  | (obtain ⟨_, _, _, _, _, _, _, rfl, _⟩ := h; rfl)
  | (obtain ⟨_, _, _, _, _, _, _, _, rfl, _⟩ := h; rfl)
  | (obtain ⟨_, _, _, _, _, _, _, _, _, rfl, _⟩ := h; rfl)
  | (obtain ⟨_, _, _, _, _, _, _, _, _, _, rfl, _⟩ := h; rfl)
  | (split at h <;> first | rfl | exact h.elim)
noncomputable abbrev s_Chooser_finish : Stmt := inClass (top 10) 2
noncomputable def p_Chooser_finish : List Str := ["self"]
theorem sc_Chooser_finish : FnScope n_Chooser_finish p_Chooser_finish (defScope s_Chooser_finish) := ⟨rfl, rfl, rfl, by decide +kernel, rfl, by decide +kernel, by decide +kernel⟩
theorem m_Chooser_finish : mSs (Ctx.of n_Chooser_finish (defScope s_Chooser_finish).names blts) i_Chooser_finish (defBody s_Chooser_finish) = true := by decide +kernel
theorem ar_Chooser_finish : ∀ ds μ Q, sp_Chooser_finish ds μ Q → ds.length = p_Chooser_finish.length := by
  intro ds μ Q h
  unfold sp_Chooser_finish at h
  first
  | (obtain ⟨_, rfl, _⟩ := h; rfl)
  | (obtain ⟨_, _, rfl, _⟩ := h; rfl)
  | (obtain ⟨_, _, _, rfl, _⟩ := h; rfl)
  | (obtain ⟨_, _, _, _, rfl, _⟩ := h; rfl)
  | (obtain ⟨_, _, _, _, _, rfl, _⟩ := h; rfl)
  | (obtain ⟨_, _, _, _, _, _, rfl, _⟩ := h; rfl)
  | (obtain ⟨_, _, _, _, _, _, _, rfl, _⟩ := h; rfl)
  | (obtain ⟨_, _, _, _, _, _, _, _, rfl, _⟩ := h; rfl)
  | (obtain ⟨_, _, _, _, _, _, _, _, _, rfl, _⟩ := h; rfl)
  | (obtain ⟨_, _, _, _, _, _, _, _, _, _, rfl, _⟩ := h; rfl)
  | (split at h <;> first | rfl | exact h.elim)
noncomputable abbrev sL_are_lists : Stmt := top 25
noncomputable def pL_are_lists : List Str := ["found", "due"]
theorem scL_are_lists : FnScope nL_are_lists pL_are_lists (defScope sL_are_lists) := ⟨rfl, rfl, rfl, by decide +kernel, rfl, by decide +kernel, by decide +kernel⟩
theorem mL_are_lists : mSs (Ctx.of nL_are_lists (defScope sL_are_lists).names blts) iL_are_lists (defBody sL_are_lists) = true := by decide +kernel
theorem arL_are_lists : ∀ ds μ Q, spL_are_lists ds μ Q → ds.length = pL_are_lists.length := by
  intro ds μ Q h
  unfold spL_are_lists at h
  first
  | (obtain ⟨_, rfl, _⟩ := h; rfl)
  | (obtain ⟨_, _, rfl, _⟩ := h; rfl)
  | (obtain ⟨_, _, _, rfl, _⟩ := h; rfl)
  | (obtain ⟨_, _, _, _, rfl, _⟩ := h; rfl)
  | (obtain ⟨_, _, _, _, _, rfl, _⟩ := h; rfl)
  | (obtain ⟨_, _, _, _, _, _, rfl, _⟩ := h; rfl)
  | (obtain ⟨_, _, _, _, _, _, _, rfl, _⟩ := h; rfl)
  | (obtain ⟨_, _, _, _, _, _, _, _, rfl, _⟩ := h; rfl)
  | (obtain ⟨_, _, _, _, _, _, _, _, _, rfl, _⟩ := h; rfl)
  | (obtain ⟨_, _, _, _, _, _, _, _, _, _, rfl, _⟩ := h; rfl)
  | (split at h <;> first | rfl | exact h.elim)
noncomputable abbrev sL_given : Stmt := top 29
noncomputable def pL_given : List Str := ["state", "item"]
theorem scL_given : FnScope nL_given pL_given (defScope sL_given) := ⟨rfl, rfl, rfl, by decide +kernel, rfl, by decide +kernel, by decide +kernel⟩
theorem mL_given : mSs (Ctx.of nL_given (defScope sL_given).names blts) iL_given (defBody sL_given) = true := by decide +kernel
theorem arL_given : ∀ ds μ Q, spL_given ds μ Q → ds.length = pL_given.length := by
  intro ds μ Q h
  unfold spL_given at h
  first
  | (obtain ⟨_, rfl, _⟩ := h; rfl)
  | (obtain ⟨_, _, rfl, _⟩ := h; rfl)
  | (obtain ⟨_, _, _, rfl, _⟩ := h; rfl)
  | (obtain ⟨_, _, _, _, rfl, _⟩ := h; rfl)
  | (obtain ⟨_, _, _, _, _, rfl, _⟩ := h; rfl)
  | (obtain ⟨_, _, _, _, _, _, rfl, _⟩ := h; rfl)
  | (obtain ⟨_, _, _, _, _, _, _, rfl, _⟩ := h; rfl)
  | (obtain ⟨_, _, _, _, _, _, _, _, rfl, _⟩ := h; rfl)
  | (obtain ⟨_, _, _, _, _, _, _, _, _, rfl, _⟩ := h; rfl)
  | (obtain ⟨_, _, _, _, _, _, _, _, _, _, rfl, _⟩ := h; rfl)
  | (split at h <;> first | rfl | exact h.elim)
noncomputable abbrev sL_finished : Stmt := top 30
noncomputable def pL_finished : List Str := ["state"]
theorem scL_finished : FnScope nL_finished pL_finished (defScope sL_finished) := ⟨rfl, rfl, rfl, by decide +kernel, rfl, by decide +kernel, by decide +kernel⟩
theorem mL_finished : mSs (Ctx.of nL_finished (defScope sL_finished).names blts) iL_finished (defBody sL_finished) = true := by decide +kernel
theorem arL_finished : ∀ ds μ Q, spL_finished ds μ Q → ds.length = pL_finished.length := by
  intro ds μ Q h
  unfold spL_finished at h
  first
  | (obtain ⟨_, rfl, _⟩ := h; rfl)
  | (obtain ⟨_, _, rfl, _⟩ := h; rfl)
  | (obtain ⟨_, _, _, rfl, _⟩ := h; rfl)
  | (obtain ⟨_, _, _, _, rfl, _⟩ := h; rfl)
  | (obtain ⟨_, _, _, _, _, rfl, _⟩ := h; rfl)
  | (obtain ⟨_, _, _, _, _, _, rfl, _⟩ := h; rfl)
  | (obtain ⟨_, _, _, _, _, _, _, rfl, _⟩ := h; rfl)
  | (obtain ⟨_, _, _, _, _, _, _, _, rfl, _⟩ := h; rfl)
  | (obtain ⟨_, _, _, _, _, _, _, _, _, rfl, _⟩ := h; rfl)
  | (obtain ⟨_, _, _, _, _, _, _, _, _, _, rfl, _⟩ := h; rfl)
  | (split at h <;> first | rfl | exact h.elim)
noncomputable abbrev sL_great : Stmt := top 32
noncomputable def pL_great : List Str := ["box"]
theorem scL_great : FnScope nL_great pL_great (defScope sL_great) := ⟨rfl, rfl, rfl, by decide +kernel, rfl, by decide +kernel, by decide +kernel⟩
theorem mL_great : mSs (Ctx.of nL_great (defScope sL_great).names blts) iL_great (defBody sL_great) = true := by decide +kernel
theorem arL_great : ∀ ds μ Q, spL_great ds μ Q → ds.length = pL_great.length := by
  intro ds μ Q h
  unfold spL_great at h
  first
  | (obtain ⟨_, rfl, _⟩ := h; rfl)
  | (obtain ⟨_, _, rfl, _⟩ := h; rfl)
  | (obtain ⟨_, _, _, rfl, _⟩ := h; rfl)
  | (obtain ⟨_, _, _, _, rfl, _⟩ := h; rfl)
  | (obtain ⟨_, _, _, _, _, rfl, _⟩ := h; rfl)
  | (obtain ⟨_, _, _, _, _, _, rfl, _⟩ := h; rfl)
  | (obtain ⟨_, _, _, _, _, _, _, rfl, _⟩ := h; rfl)
  | (obtain ⟨_, _, _, _, _, _, _, _, rfl, _⟩ := h; rfl)
  | (obtain ⟨_, _, _, _, _, _, _, _, _, rfl, _⟩ := h; rfl)
  | (obtain ⟨_, _, _, _, _, _, _, _, _, _, rfl, _⟩ := h; rfl)
  | (split at h <;> first | rfl | exact h.elim)
noncomputable abbrev s_chosen : Stmt := top 11
noncomputable def p_chosen : List Str := ["row", "room"]
theorem sc_chosen : FnScope n_chosen p_chosen (defScope s_chosen) := ⟨rfl, rfl, rfl, by decide +kernel, rfl, by decide +kernel, by decide +kernel⟩
theorem m_chosen : mSs (Ctx.of n_chosen (defScope s_chosen).names blts) i_chosen (defBody s_chosen) = true := by decide +kernel
theorem ar_chosen : ∀ ds μ Q, sp_chosen ds μ Q → ds.length = p_chosen.length := by
  intro ds μ Q h
  unfold sp_chosen at h
  first
  | (obtain ⟨_, rfl, _⟩ := h; rfl)
  | (obtain ⟨_, _, rfl, _⟩ := h; rfl)
  | (obtain ⟨_, _, _, rfl, _⟩ := h; rfl)
  | (obtain ⟨_, _, _, _, rfl, _⟩ := h; rfl)
  | (obtain ⟨_, _, _, _, _, rfl, _⟩ := h; rfl)
  | (obtain ⟨_, _, _, _, _, _, rfl, _⟩ := h; rfl)
  | (obtain ⟨_, _, _, _, _, _, _, rfl, _⟩ := h; rfl)
  | (obtain ⟨_, _, _, _, _, _, _, _, rfl, _⟩ := h; rfl)
  | (obtain ⟨_, _, _, _, _, _, _, _, _, rfl, _⟩ := h; rfl)
  | (obtain ⟨_, _, _, _, _, _, _, _, _, _, rfl, _⟩ := h; rfl)
  | (split at h <;> first | rfl | exact h.elim)
noncomputable abbrev sL_chosen : Stmt := top 31
noncomputable def pL_chosen : List Str := ["row", "room"]
theorem scL_chosen : FnScope nL_chosen pL_chosen (defScope sL_chosen) := ⟨rfl, rfl, rfl, by decide +kernel, rfl, by decide +kernel, by decide +kernel⟩
theorem mL_chosen : mSs (Ctx.of nL_chosen (defScope sL_chosen).names blts) iL_chosen (defBody sL_chosen) = true := by decide +kernel
theorem arL_chosen : ∀ ds μ Q, spL_chosen ds μ Q → ds.length = pL_chosen.length := by
  intro ds μ Q h
  unfold spL_chosen at h
  first
  | (obtain ⟨_, rfl, _⟩ := h; rfl)
  | (obtain ⟨_, _, rfl, _⟩ := h; rfl)
  | (obtain ⟨_, _, _, rfl, _⟩ := h; rfl)
  | (obtain ⟨_, _, _, _, rfl, _⟩ := h; rfl)
  | (obtain ⟨_, _, _, _, _, rfl, _⟩ := h; rfl)
  | (obtain ⟨_, _, _, _, _, _, rfl, _⟩ := h; rfl)
  | (obtain ⟨_, _, _, _, _, _, _, rfl, _⟩ := h; rfl)
  | (obtain ⟨_, _, _, _, _, _, _, _, rfl, _⟩ := h; rfl)
  | (obtain ⟨_, _, _, _, _, _, _, _, _, rfl, _⟩ := h; rfl)
  | (obtain ⟨_, _, _, _, _, _, _, _, _, _, rfl, _⟩ := h; rfl)
  | (split at h <;> first | rfl | exact h.elim)
noncomputable abbrev sL_by_chooser : Stmt := top 33
noncomputable def pL_by_chooser : List Str := ["row", "room"]
theorem scL_by_chooser : FnScope nL_by_chooser pL_by_chooser (defScope sL_by_chooser) := ⟨rfl, rfl, rfl, by decide +kernel, rfl, by decide +kernel, by decide +kernel⟩
theorem mL_by_chooser : mSs (Ctx.of nL_by_chooser (defScope sL_by_chooser).names blts) iL_by_chooser (defBody sL_by_chooser) = true := by decide +kernel
theorem arL_by_chooser : ∀ ds μ Q, spL_by_chooser ds μ Q → ds.length = pL_by_chooser.length := by
  intro ds μ Q h
  unfold spL_by_chooser at h
  first
  | (obtain ⟨_, rfl, _⟩ := h; rfl)
  | (obtain ⟨_, _, rfl, _⟩ := h; rfl)
  | (obtain ⟨_, _, _, rfl, _⟩ := h; rfl)
  | (obtain ⟨_, _, _, _, rfl, _⟩ := h; rfl)
  | (obtain ⟨_, _, _, _, _, rfl, _⟩ := h; rfl)
  | (obtain ⟨_, _, _, _, _, _, rfl, _⟩ := h; rfl)
  | (obtain ⟨_, _, _, _, _, _, _, rfl, _⟩ := h; rfl)
  | (obtain ⟨_, _, _, _, _, _, _, _, rfl, _⟩ := h; rfl)
  | (obtain ⟨_, _, _, _, _, _, _, _, _, rfl, _⟩ := h; rfl)
  | (obtain ⟨_, _, _, _, _, _, _, _, _, _, rfl, _⟩ := h; rfl)
  | (split at h <;> first | rfl | exact h.elim)
noncomputable abbrev s_law : Stmt := top 34
noncomputable def p_law : List Str := ["script"]
theorem sc_law : FnScope n_law p_law (defScope s_law) := ⟨rfl, rfl, rfl, by decide +kernel, rfl, by decide +kernel, by decide +kernel⟩
theorem m_law : mSs (Ctx.of n_law (defScope s_law).names blts) i_law (defBody s_law) = true := by decide +kernel
theorem ar_law : ∀ ds μ Q, spLaw ds μ Q → ds.length = p_law.length := by
  intro ds μ Q h
  unfold spLaw at h
  first
  | (obtain ⟨_, rfl, _⟩ := h; rfl)
  | (obtain ⟨_, _, rfl, _⟩ := h; rfl)
  | (obtain ⟨_, _, _, rfl, _⟩ := h; rfl)
  | (obtain ⟨_, _, _, _, rfl, _⟩ := h; rfl)
  | (obtain ⟨_, _, _, _, _, rfl, _⟩ := h; rfl)
  | (obtain ⟨_, _, _, _, _, _, rfl, _⟩ := h; rfl)
  | (obtain ⟨_, _, _, _, _, _, _, rfl, _⟩ := h; rfl)
  | (obtain ⟨_, _, _, _, _, _, _, _, rfl, _⟩ := h; rfl)
  | (obtain ⟨_, _, _, _, _, _, _, _, _, rfl, _⟩ := h; rfl)
  | (obtain ⟨_, _, _, _, _, _, _, _, _, _, rfl, _⟩ := h; rfl)
  | (split at h <;> first | rfl | exact h.elim)
set_option maxHeartbeats 0 in
theorem law_fn {T : Top} {h : Heap} {f : Addr} {fd : FuncData} {t_MOST_ROOM : Tok} (X : T.K.In h) (G : h.Ns mainGlobals T.mg) (fr : FreeAt T.K blts) (c_MOST_ROOM : PySem.W.nsIn T.K mainGlobals "MOST_ROOM" = some (some (.int 50 t_MOST_ROOM))) (e_Chooser : ClsAt T.K "Chooser") (f_Chooser_room : NoAt T.K "Chooser" "room") (f_Chooser_kept : NoAt T.K "Chooser" "kept") (f_Chooser_last : NoAt T.K "Chooser" "last")  (d_is_whole : DefAt T.K "is_whole" s_is_whole) (d_less : DefAt T.K "less" s_less) (d_runs_told : DefAt T.K "runs_told" s_runs_told) (dL_cell : DefAt T.K "_law_cell" sL_cell) (dL_mix : DefAt T.K "_law_mix" sL_mix) (dL_take : DefAt T.K "_law_take" sL_take) (dL_under : DefAt T.K "_law_under" sL_under) (dL_whole : DefAt T.K "_law_whole" sL_whole) (d_check_room : DefAt T.K "check_room" s_check_room) (d_Chooser_may_go : MthAt T.K "Chooser" "may_go" "Chooser.may_go" s_Chooser_may_go) (dL_box : DefAt T.K "_law_box" sL_box) (dL_tag : DefAt T.K "_law_tag" sL_tag) (dL_key : DefAt T.K "_law_key" sL_key) (dL_is_item : DefAt T.K "_law_is_item" sL_is_item) (dL_room : DefAt T.K "_law_room" sL_room) (dL_least : DefAt T.K "_law_least" sL_least) (d_Chooser_let_out : MthAt T.K "Chooser" "let_out" "Chooser.let_out" s_Chooser_let_out) (dL_row : DefAt T.K "_law_row" sL_row) (dL_is_list : DefAt T.K "_law_is_list" sL_is_list) (dL_out : DefAt T.K "_law_out" sL_out) (d_Chooser_init : MthAt T.K "Chooser" "__init__" "Chooser.__init__" s_Chooser_init) (d_Chooser_give : MthAt T.K "Chooser" "give" "Chooser.give" s_Chooser_give) (d_Chooser_finish : MthAt T.K "Chooser" "finish" "Chooser.finish" s_Chooser_finish) (dL_are_lists : DefAt T.K "_law_are_lists" sL_are_lists) (dL_given : DefAt T.K "_law_given" sL_given) (dL_finished : DefAt T.K "_law_finished" sL_finished) (dL_great : DefAt T.K "_law_great" sL_great) (d_chosen : DefAt T.K "chosen" s_chosen) (dL_chosen : DefAt T.K "_law_chosen" sL_chosen) (dL_by_chooser : DefAt T.K "_law_by_chooser" sL_by_chooser) (F : Fun T.K "law" "law" s_law f fd) : FnOk T.P T.w T.K T.mg T.base (CXE T.P T.w) 6 f fd p_law (low T.K spLaw) := by
  have hb := free_of X G fr
  have g_MOST_ROOM : GblTop T "MOST_ROOM" (.int 50) := gbl_int (PySem.W.mg_of X G c_MOST_ROOM)
  have o_is_whole : okSs (FnTop T 0) (GblTop T) i_is_whole := by
    repeat' first | exact trivial | refine And.intro ?_ ?_ | assumption | exact rfl
  have u_is_whole := fn_at d_is_whole X G sc_is_whole m_is_whole hb (fun _ _ _ _ _ _ => len1 fun _ => rfl) ar_is_whole k_is_whole o_is_whole
  have o_less : okSs (FnTop T 0) (GblTop T) i_less := by
    repeat' first | exact trivial | refine And.intro ?_ ?_ | assumption | exact rfl
  have u_less := fn_at d_less X G sc_less m_less hb (fun _ _ _ _ _ _ => len2 fun _ _ => rfl) ar_less k_less o_less
  have o_runs_told : okSs (FnTop T 0) (GblTop T) i_runs_told := by
    repeat' first | exact trivial | refine And.intro ?_ ?_ | assumption | exact rfl
  have u_runs_told := fn_at d_runs_told X G sc_runs_told m_runs_told hb (fun _ _ _ _ _ _ => len1 fun _ => rfl) ar_runs_told k_runs_told o_runs_told
  have oL_cell : okSs (FnTop T 0) (GblTop T) iL_cell := by
    repeat' first | exact trivial | refine And.intro ?_ ?_ | assumption | exact rfl
  have uL_cell := fn_at dL_cell X G scL_cell mL_cell hb (fun _ _ _ _ _ _ => len2 fun _ _ => rfl) arL_cell kL_cell oL_cell
  have oL_mix : okSs (FnTop T 0) (GblTop T) iL_mix := by
    repeat' first | exact trivial | refine And.intro ?_ ?_ | assumption | exact rfl
  have uL_mix := fn_at dL_mix X G scL_mix mL_mix hb (fun _ _ _ _ _ _ => len2 fun _ _ => rfl) arL_mix kL_mix oL_mix
  have oL_take : okSs (FnTop T 0) (GblTop T) iL_take := by
    repeat' first | exact trivial | refine And.intro ?_ ?_ | assumption | exact rfl
  have uL_take := fn_at dL_take X G scL_take mL_take hb (fun _ _ _ _ _ _ => len2 fun _ _ => rfl) arL_take kL_take oL_take
  have oL_under : okSs (FnTop T 0) (GblTop T) iL_under := by
    repeat' first | exact trivial | refine And.intro ?_ ?_ | assumption | exact rfl
  have uL_under := fn_at dL_under X G scL_under mL_under hb (fun _ _ _ _ _ _ => len2 fun _ _ => rfl) arL_under kL_under oL_under
  have oL_whole : okSs (FnTop T 0) (GblTop T) iL_whole := by
    repeat' first | exact trivial | refine And.intro ?_ ?_ | assumption | exact rfl
  have uL_whole := fn_at dL_whole X G scL_whole mL_whole hb (fun _ _ _ _ _ _ => len1 fun _ => rfl) arL_whole kL_whole oL_whole
  have u_is_whole_check_room := u_is_whole.up (show 1 ≤ 1 by decide)
  have o_check_room : okSs (FnTop T 1) (GblTop T) i_check_room := by
    repeat' first | exact trivial | refine And.intro ?_ ?_ | assumption | exact rfl
  have u_check_room := fn_at d_check_room X G sc_check_room m_check_room hb (fun _ _ _ _ _ _ => len1 fun _ => rfl) ar_check_room k_check_room o_check_room
  have u_less_Chooser_may_go := u_less.up (show 1 ≤ 1 by decide)
  have q_Chooser_last_Chooser_may_go := fld_at (k := 1) e_Chooser f_Chooser_last
  have o_Chooser_may_go : okSs (FnTop T 1) (GblTop T) i_Chooser_may_go := by
    repeat' first | exact trivial | refine And.intro ?_ ?_ | assumption | exact rfl
  have u_Chooser_may_go := mth_at d_Chooser_may_go e_Chooser sc_Chooser_may_go m_Chooser_may_go hb (fun _ _ _ _ _ _ => len2 fun _ _ => rfl) ar_Chooser_may_go k_Chooser_may_go o_Chooser_may_go
  have uL_cellL_box := uL_cell.up (show 1 ≤ 1 by decide)
  have uL_mixL_box := uL_mix.up (show 1 ≤ 1 by decide)
  have oL_box : okSs (FnTop T 1) (GblTop T) iL_box := by
    repeat' first | exact trivial | refine And.intro ?_ ?_ | assumption | exact rfl
  have uL_box := fn_at dL_box X G scL_box mL_box hb (fun _ _ _ _ _ _ => len2 fun _ _ => rfl) arL_box kL_box oL_box
  have uL_takeL_tag := uL_take.up (show 1 ≤ 1 by decide)
  have oL_tag : okSs (FnTop T 1) (GblTop T) iL_tag := by
    repeat' first | exact trivial | refine And.intro ?_ ?_ | assumption | exact rfl
  have uL_tag := fn_at dL_tag X G scL_tag mL_tag hb (fun _ _ _ _ _ _ => len1 fun _ => rfl) arL_tag kL_tag oL_tag
  have uL_takeL_key := uL_take.up (show 1 ≤ 1 by decide)
  have oL_key : okSs (FnTop T 1) (GblTop T) iL_key := by
    repeat' first | exact trivial | refine And.intro ?_ ?_ | assumption | exact rfl
  have uL_key := fn_at dL_key X G scL_key mL_key hb (fun _ _ _ _ _ _ => len1 fun _ => rfl) arL_key kL_key oL_key
  have uL_wholeL_is_item := uL_whole.up (show 1 ≤ 1 by decide)
  have oL_is_item : okSs (FnTop T 1) (GblTop T) iL_is_item := by
    repeat' first | exact trivial | refine And.intro ?_ ?_ | assumption | exact rfl
  have uL_is_item := fn_at dL_is_item X G scL_is_item mL_is_item hb (fun _ _ _ _ _ _ => len1 fun _ => rfl) arL_is_item kL_is_item oL_is_item
  have uL_takeL_room := uL_take.up (show 1 ≤ 1 by decide)
  have oL_room : okSs (FnTop T 1) (GblTop T) iL_room := by
    repeat' first | exact trivial | refine And.intro ?_ ?_ | assumption | exact rfl
  have uL_room := fn_at dL_room X G scL_room mL_room hb (fun _ _ _ _ _ _ => len1 fun _ => rfl) arL_room kL_room oL_room
  have uL_underL_least := uL_under.up (show 1 ≤ 1 by decide)
  have oL_least : okSs (FnTop T 1) (GblTop T) iL_least := by
    repeat' first | exact trivial | refine And.intro ?_ ?_ | assumption | exact rfl
  have uL_least := fn_at dL_least X G scL_least mL_least hb (fun _ _ _ _ _ _ => len1 fun _ => rfl) arL_least kL_least oL_least
  have u_Chooser_may_go_Chooser_let_out := u_Chooser_may_go.up (show 2 ≤ 2 by decide)
  have q_Chooser_kept_Chooser_let_out := fld_at (k := 2) e_Chooser f_Chooser_kept
  have q_Chooser_last_Chooser_let_out := fld_at (k := 2) e_Chooser f_Chooser_last
  have o_Chooser_let_out : okSs (FnTop T 2) (GblTop T) i_Chooser_let_out := by
    repeat' first | exact trivial | refine And.intro ?_ ?_ | assumption | exact rfl
  have u_Chooser_let_out := mth_at d_Chooser_let_out e_Chooser sc_Chooser_let_out m_Chooser_let_out hb (fun _ _ _ _ _ _ => len1 fun _ => rfl) ar_Chooser_let_out k_Chooser_let_out o_Chooser_let_out
  have uL_keyL_row := uL_key.up (show 2 ≤ 2 by decide)
  have uL_tagL_row := uL_tag.up (show 2 ≤ 2 by decide)
  have uL_takeL_row := uL_take.up (show 1 ≤ 2 by decide)
  have oL_row : okSs (FnTop T 2) (GblTop T) iL_row := by
    repeat' first | exact trivial | refine And.intro ?_ ?_ | assumption | exact rfl
  have uL_row := fn_at dL_row X G scL_row mL_row hb (fun _ _ _ _ _ _ => len2 fun _ _ => rfl) arL_row kL_row oL_row
  have uL_is_itemL_is_list := uL_is_item.up (show 2 ≤ 2 by decide)
  have oL_is_list : okSs (FnTop T 2) (GblTop T) iL_is_list := by
    repeat' first | exact trivial | refine And.intro ?_ ?_ | assumption | exact rfl
  have uL_is_list := fn_at dL_is_list X G scL_is_list mL_is_list hb (fun _ _ _ _ _ _ => len2 fun _ _ => rfl) arL_is_list kL_is_list oL_is_list
  have uL_underL_out := uL_under.up (show 1 ≤ 2 by decide)
  have uL_leastL_out := uL_least.up (show 2 ≤ 2 by decide)
  have oL_out : okSs (FnTop T 2) (GblTop T) iL_out := by
    repeat' first | exact trivial | refine And.intro ?_ ?_ | assumption | exact rfl
  have uL_out := fn_at dL_out X G scL_out mL_out hb (fun _ _ _ _ _ _ => len1 fun _ => rfl) arL_out kL_out oL_out
  have u_check_room_Chooser_init := u_check_room.up (show 2 ≤ 2 by decide)
  have q_Chooser_room_Chooser_init := fld_at (k := 2) e_Chooser f_Chooser_room
  have q_Chooser_kept_Chooser_init := fld_at (k := 2) e_Chooser f_Chooser_kept
  have q_Chooser_last_Chooser_init := fld_at (k := 2) e_Chooser f_Chooser_last
  have o_Chooser_init : okSs (FnTop T 2) (GblTop T) i_Chooser_init := by
    repeat' first | exact trivial | refine And.intro ?_ ?_ | assumption | exact rfl
  have u_Chooser_init := mk_at X G d_Chooser_init e_Chooser sc_Chooser_init m_Chooser_init hb (fun _ _ _ _ _ _ => len2 fun _ _ => rfl) ar_Chooser_init k_Chooser_init o_Chooser_init
  have u_Chooser_let_out_Chooser_give := u_Chooser_let_out.up (show 3 ≤ 3 by decide)
  have q_Chooser_kept_Chooser_give := fld_at (k := 3) e_Chooser f_Chooser_kept
  have q_Chooser_room_Chooser_give := fld_at (k := 3) e_Chooser f_Chooser_room
  have o_Chooser_give : okSs (FnTop T 3) (GblTop T) i_Chooser_give := by
    repeat' first | exact trivial | refine And.intro ?_ ?_ | assumption | exact rfl
  have u_Chooser_give := mth_at d_Chooser_give e_Chooser sc_Chooser_give m_Chooser_give hb (fun _ _ _ _ _ _ => len2 fun _ _ => rfl) ar_Chooser_give k_Chooser_give o_Chooser_give
  have u_Chooser_let_out_Chooser_finish := u_Chooser_let_out.up (show 3 ≤ 3 by decide)
  have q_Chooser_kept_Chooser_finish := fld_at (k := 3) e_Chooser f_Chooser_kept
  have q_Chooser_last_Chooser_finish := fld_at (k := 3) e_Chooser f_Chooser_last
  have o_Chooser_finish : okSs (FnTop T 3) (GblTop T) i_Chooser_finish := by
    repeat' first | exact trivial | refine And.intro ?_ ?_ | assumption | exact rfl
  have u_Chooser_finish := mth_at d_Chooser_finish e_Chooser sc_Chooser_finish m_Chooser_finish hb (fun _ _ _ _ _ _ => len1 fun _ => rfl) ar_Chooser_finish k_Chooser_finish o_Chooser_finish
  have uL_is_listL_are_lists := uL_is_list.up (show 3 ≤ 3 by decide)
  have oL_are_lists : okSs (FnTop T 3) (GblTop T) iL_are_lists := by
    repeat' first | exact trivial | refine And.intro ?_ ?_ | assumption | exact rfl
  have uL_are_lists := fn_at dL_are_lists X G scL_are_lists mL_are_lists hb (fun _ _ _ _ _ _ => len2 fun _ _ => rfl) arL_are_lists kL_are_lists oL_are_lists
  have uL_outL_given := uL_out.up (show 3 ≤ 3 by decide)
  have oL_given : okSs (FnTop T 3) (GblTop T) iL_given := by
    repeat' first | exact trivial | refine And.intro ?_ ?_ | assumption | exact rfl
  have uL_given := fn_at dL_given X G scL_given mL_given hb (fun _ _ _ _ _ _ => len2 fun _ _ => rfl) arL_given kL_given oL_given
  have uL_outL_finished := uL_out.up (show 3 ≤ 3 by decide)
  have oL_finished : okSs (FnTop T 3) (GblTop T) iL_finished := by
    repeat' first | exact trivial | refine And.intro ?_ ?_ | assumption | exact rfl
  have uL_finished := fn_at dL_finished X G scL_finished mL_finished hb (fun _ _ _ _ _ _ => len1 fun _ => rfl) arL_finished kL_finished oL_finished
  have uL_takeL_great := uL_take.up (show 1 ≤ 3 by decide)
  have uL_rowL_great := uL_row.up (show 3 ≤ 3 by decide)
  have oL_great : okSs (FnTop T 3) (GblTop T) iL_great := by
    repeat' first | exact trivial | refine And.intro ?_ ?_ | assumption | exact rfl
  have uL_great := fn_at dL_great X G scL_great mL_great hb (fun _ _ _ _ _ _ => len1 fun _ => rfl) arL_great kL_great oL_great
  have u_Chooser_init_chosen := u_Chooser_init.up (show 4 ≤ 4 by decide)
  have u_Chooser_give_chosen := u_Chooser_give.up (show 4 ≤ 4 by decide)
  have u_Chooser_finish_chosen := u_Chooser_finish.up (show 4 ≤ 4 by decide)
  have u_runs_told_chosen := u_runs_told.up (show 1 ≤ 4 by decide)
  have o_chosen : okSs (FnTop T 4) (GblTop T) i_chosen := by
    repeat' first | exact trivial | refine And.intro ?_ ?_ | assumption | exact rfl
  have u_chosen := fn_at d_chosen X G sc_chosen m_chosen hb (fun _ _ _ _ _ _ => len2 fun _ _ => rfl) ar_chosen k_chosen o_chosen
  have uL_givenL_chosen := uL_given.up (show 4 ≤ 4 by decide)
  have uL_finishedL_chosen := uL_finished.up (show 4 ≤ 4 by decide)
  have oL_chosen : okSs (FnTop T 4) (GblTop T) iL_chosen := by
    repeat' first | exact trivial | refine And.intro ?_ ?_ | assumption | exact rfl
  have uL_chosen := fn_at dL_chosen X G scL_chosen mL_chosen hb (fun _ _ _ _ _ _ => len2 fun _ _ => rfl) arL_chosen kL_chosen oL_chosen
  have u_Chooser_initL_by_chooser := u_Chooser_init.up (show 4 ≤ 4 by decide)
  have u_Chooser_giveL_by_chooser := u_Chooser_give.up (show 4 ≤ 4 by decide)
  have u_Chooser_finishL_by_chooser := u_Chooser_finish.up (show 4 ≤ 4 by decide)
  have oL_by_chooser : okSs (FnTop T 4) (GblTop T) iL_by_chooser := by
    repeat' first | exact trivial | refine And.intro ?_ ?_ | assumption | exact rfl
  have uL_by_chooser := fn_at dL_by_chooser X G scL_by_chooser mL_by_chooser hb (fun _ _ _ _ _ _ => len2 fun _ _ => rfl) arL_by_chooser kL_by_chooser oL_by_chooser
  have uL_box_law := uL_box.up (show 2 ≤ 5 by decide)
  have uL_great_law := uL_great.up (show 4 ≤ 5 by decide)
  have uL_row_law := uL_row.up (show 3 ≤ 5 by decide)
  have uL_room_law := uL_room.up (show 2 ≤ 5 by decide)
  have uL_chosen_law := uL_chosen.up (show 5 ≤ 5 by decide)
  have u_chosen_law := u_chosen.up (show 5 ≤ 5 by decide)
  have uL_are_lists_law := uL_are_lists.up (show 4 ≤ 5 by decide)
  have uL_by_chooser_law := uL_by_chooser.up (show 5 ≤ 5 by decide)
  have o_law : okSs (FnTop T 5) (GblTop T) i_law := by
    repeat' first | exact trivial | refine And.intro ?_ ?_ | assumption | exact rfl
  exact fn_okF F sc_law m_law hb o_law ar_law k_law
end DW.K24
open PySem PySem.W PyProof.Rows
set_option maxRecDepth 100000 in
set_option maxHeartbeats 0 in
theorem PySem.Challenge.cw_pourwright_k24_chosen_runs_holds : PySem.Challenge.rw_pourwright_k24_chosen_runs.Holds := by
  w_on; o_law; k_head; (case hw => w_witness2)
  k_fill
  refine DW.law_walk (l := PySem.Challenge.rw_pourwright_k24_chosen_runs) (k := 6) rfl (by decide) rfl (fun w h Y => PySem.W.kIn_of Y) ?F
  case F =>
    intro w mg fa h KX G hmg
    have d_is_whole : DW.DefAt (L2.KOf KX) "is_whole" DW.K24.s_is_whole := by
      dsimp only [L2.KOf]
      refine' DW.defAt_mk ?a ?l ?c ?k
      (case a => k_is); (case l => k_is); (case c => k_is); (case k => k_is)
    have d_less : DW.DefAt (L2.KOf KX) "less" DW.K24.s_less := by
      dsimp only [L2.KOf]
      refine' DW.defAt_mk ?a ?l ?c ?k
      (case a => k_is); (case l => k_is); (case c => k_is); (case k => k_is)
    have d_runs_told : DW.DefAt (L2.KOf KX) "runs_told" DW.K24.s_runs_told := by
      dsimp only [L2.KOf]
      refine' DW.defAt_mk ?a ?l ?c ?k
      (case a => k_is); (case l => k_is); (case c => k_is); (case k => k_is)
    have dL_cell : DW.DefAt (L2.KOf KX) "_law_cell" DW.K24.sL_cell := by
      dsimp only [L2.KOf]
      refine' DW.defAt_mk ?a ?l ?c ?k
      (case a => k_is); (case l => k_is); (case c => k_is); (case k => k_is)
    have dL_mix : DW.DefAt (L2.KOf KX) "_law_mix" DW.K24.sL_mix := by
      dsimp only [L2.KOf]
      refine' DW.defAt_mk ?a ?l ?c ?k
      (case a => k_is); (case l => k_is); (case c => k_is); (case k => k_is)
    have dL_take : DW.DefAt (L2.KOf KX) "_law_take" DW.K24.sL_take := by
      dsimp only [L2.KOf]
      refine' DW.defAt_mk ?a ?l ?c ?k
      (case a => k_is); (case l => k_is); (case c => k_is); (case k => k_is)
    have dL_under : DW.DefAt (L2.KOf KX) "_law_under" DW.K24.sL_under := by
      dsimp only [L2.KOf]
      refine' DW.defAt_mk ?a ?l ?c ?k
      (case a => k_is); (case l => k_is); (case c => k_is); (case k => k_is)
    have dL_whole : DW.DefAt (L2.KOf KX) "_law_whole" DW.K24.sL_whole := by
      dsimp only [L2.KOf]
      refine' DW.defAt_mk ?a ?l ?c ?k
      (case a => k_is); (case l => k_is); (case c => k_is); (case k => k_is)
    have d_check_room : DW.DefAt (L2.KOf KX) "check_room" DW.K24.s_check_room := by
      dsimp only [L2.KOf]
      refine' DW.defAt_mk ?a ?l ?c ?k
      (case a => k_is); (case l => k_is); (case c => k_is); (case k => k_is)
    have d_Chooser_may_go : DW.MthAt (L2.KOf KX) "Chooser" "may_go" "Chooser.may_go" DW.K24.s_Chooser_may_go := by
      dsimp only [L2.KOf]
      refine' DW.mthAt_mk ?a ?b ?i ?l ?c ?k
      (case a => k_is); (case b => k_is); (case i => k_is); (case l => k_is); (case c => k_is); (case k => k_is)
    have dL_box : DW.DefAt (L2.KOf KX) "_law_box" DW.K24.sL_box := by
      dsimp only [L2.KOf]
      refine' DW.defAt_mk ?a ?l ?c ?k
      (case a => k_is); (case l => k_is); (case c => k_is); (case k => k_is)
    have dL_tag : DW.DefAt (L2.KOf KX) "_law_tag" DW.K24.sL_tag := by
      dsimp only [L2.KOf]
      refine' DW.defAt_mk ?a ?l ?c ?k
      (case a => k_is); (case l => k_is); (case c => k_is); (case k => k_is)
    have dL_key : DW.DefAt (L2.KOf KX) "_law_key" DW.K24.sL_key := by
      dsimp only [L2.KOf]
      refine' DW.defAt_mk ?a ?l ?c ?k
      (case a => k_is); (case l => k_is); (case c => k_is); (case k => k_is)
    have dL_is_item : DW.DefAt (L2.KOf KX) "_law_is_item" DW.K24.sL_is_item := by
      dsimp only [L2.KOf]
      refine' DW.defAt_mk ?a ?l ?c ?k
      (case a => k_is); (case l => k_is); (case c => k_is); (case k => k_is)
    have dL_room : DW.DefAt (L2.KOf KX) "_law_room" DW.K24.sL_room := by
      dsimp only [L2.KOf]
      refine' DW.defAt_mk ?a ?l ?c ?k
      (case a => k_is); (case l => k_is); (case c => k_is); (case k => k_is)
    have dL_least : DW.DefAt (L2.KOf KX) "_law_least" DW.K24.sL_least := by
      dsimp only [L2.KOf]
      refine' DW.defAt_mk ?a ?l ?c ?k
      (case a => k_is); (case l => k_is); (case c => k_is); (case k => k_is)
    have d_Chooser_let_out : DW.MthAt (L2.KOf KX) "Chooser" "let_out" "Chooser.let_out" DW.K24.s_Chooser_let_out := by
      dsimp only [L2.KOf]
      refine' DW.mthAt_mk ?a ?b ?i ?l ?c ?k
      (case a => k_is); (case b => k_is); (case i => k_is); (case l => k_is); (case c => k_is); (case k => k_is)
    have dL_row : DW.DefAt (L2.KOf KX) "_law_row" DW.K24.sL_row := by
      dsimp only [L2.KOf]
      refine' DW.defAt_mk ?a ?l ?c ?k
      (case a => k_is); (case l => k_is); (case c => k_is); (case k => k_is)
    have dL_is_list : DW.DefAt (L2.KOf KX) "_law_is_list" DW.K24.sL_is_list := by
      dsimp only [L2.KOf]
      refine' DW.defAt_mk ?a ?l ?c ?k
      (case a => k_is); (case l => k_is); (case c => k_is); (case k => k_is)
    have dL_out : DW.DefAt (L2.KOf KX) "_law_out" DW.K24.sL_out := by
      dsimp only [L2.KOf]
      refine' DW.defAt_mk ?a ?l ?c ?k
      (case a => k_is); (case l => k_is); (case c => k_is); (case k => k_is)
    have d_Chooser_init : DW.MthAt (L2.KOf KX) "Chooser" "__init__" "Chooser.__init__" DW.K24.s_Chooser_init := by
      dsimp only [L2.KOf]
      refine' DW.mthAt_mk ?a ?b ?i ?l ?c ?k
      (case a => k_is); (case b => k_is); (case i => k_is); (case l => k_is); (case c => k_is); (case k => k_is)
    have d_Chooser_give : DW.MthAt (L2.KOf KX) "Chooser" "give" "Chooser.give" DW.K24.s_Chooser_give := by
      dsimp only [L2.KOf]
      refine' DW.mthAt_mk ?a ?b ?i ?l ?c ?k
      (case a => k_is); (case b => k_is); (case i => k_is); (case l => k_is); (case c => k_is); (case k => k_is)
    have d_Chooser_finish : DW.MthAt (L2.KOf KX) "Chooser" "finish" "Chooser.finish" DW.K24.s_Chooser_finish := by
      dsimp only [L2.KOf]
      refine' DW.mthAt_mk ?a ?b ?i ?l ?c ?k
      (case a => k_is); (case b => k_is); (case i => k_is); (case l => k_is); (case c => k_is); (case k => k_is)
    have dL_are_lists : DW.DefAt (L2.KOf KX) "_law_are_lists" DW.K24.sL_are_lists := by
      dsimp only [L2.KOf]
      refine' DW.defAt_mk ?a ?l ?c ?k
      (case a => k_is); (case l => k_is); (case c => k_is); (case k => k_is)
    have dL_given : DW.DefAt (L2.KOf KX) "_law_given" DW.K24.sL_given := by
      dsimp only [L2.KOf]
      refine' DW.defAt_mk ?a ?l ?c ?k
      (case a => k_is); (case l => k_is); (case c => k_is); (case k => k_is)
    have dL_finished : DW.DefAt (L2.KOf KX) "_law_finished" DW.K24.sL_finished := by
      dsimp only [L2.KOf]
      refine' DW.defAt_mk ?a ?l ?c ?k
      (case a => k_is); (case l => k_is); (case c => k_is); (case k => k_is)
    have dL_great : DW.DefAt (L2.KOf KX) "_law_great" DW.K24.sL_great := by
      dsimp only [L2.KOf]
      refine' DW.defAt_mk ?a ?l ?c ?k
      (case a => k_is); (case l => k_is); (case c => k_is); (case k => k_is)
    have d_chosen : DW.DefAt (L2.KOf KX) "chosen" DW.K24.s_chosen := by
      dsimp only [L2.KOf]
      refine' DW.defAt_mk ?a ?l ?c ?k
      (case a => k_is); (case l => k_is); (case c => k_is); (case k => k_is)
    have dL_chosen : DW.DefAt (L2.KOf KX) "_law_chosen" DW.K24.sL_chosen := by
      dsimp only [L2.KOf]
      refine' DW.defAt_mk ?a ?l ?c ?k
      (case a => k_is); (case l => k_is); (case c => k_is); (case k => k_is)
    have dL_by_chooser : DW.DefAt (L2.KOf KX) "_law_by_chooser" DW.K24.sL_by_chooser := by
      dsimp only [L2.KOf]
      refine' DW.defAt_mk ?a ?l ?c ?k
      (case a => k_is); (case l => k_is); (case c => k_is); (case k => k_is)
    have d_law : DW.DefAt (L2.KOf KX) "law" DW.K24.s_law := by
      dsimp only [L2.KOf]
      refine' DW.defAt_mk ?a ?l ?c ?k
      (case a => k_is); (case l => k_is); (case c => k_is); (case k => k_is)
    have e_Chooser : DW.ClsAt (L2.KOf KX) "Chooser" := by
      dsimp only [L2.KOf]
      refine' DW.clsAt_mk ?a ?b ?c ?d ?e ?f ?g
      (case a => k_is); (case b => k_is); (case c => k_is); (case d => k_is); (case e => k_is); (case f => k_is); (case g => k_is)
    have f_Chooser_room : DW.NoAt (L2.KOf KX) "Chooser" "room" := by
      dsimp only [L2.KOf]
      refine' DW.noAt_mk ?a ?b
      (case a => k_is); (case b => k_is)
    have f_Chooser_kept : DW.NoAt (L2.KOf KX) "Chooser" "kept" := by
      dsimp only [L2.KOf]
      refine' DW.noAt_mk ?a ?b
      (case a => k_is); (case b => k_is)
    have f_Chooser_last : DW.NoAt (L2.KOf KX) "Chooser" "last" := by
      dsimp only [L2.KOf]
      refine' DW.noAt_mk ?a ?b
      (case a => k_is); (case b => k_is)
    have fr : DW.FreeAt (L2.KOf KX) DW.K24.blts := by
      dsimp only [L2.KOf, DW.K24.blts, DW.FreeAt]
      refine' ⟨?z0, ?z1, ?z2, ?z3, ?z4, ?z5, ?z6, ?z7, ?z8, ?z9, ?z10, ?z11, ?z12, ?z13, trivial⟩
      (case z0 => k_is)
      (case z1 => k_is)
      (case z2 => k_is)
      (case z3 => k_is)
      (case z4 => k_is)
      (case z5 => k_is)
      (case z6 => k_is)
      (case z7 => k_is)
      (case z8 => k_is)
      (case z9 => k_is)
      (case z10 => k_is)
      (case z11 => k_is)
      (case z12 => k_is)
      (case z13 => k_is)
    have c_MOST_ROOM : ∃ t, PySem.W.nsIn (L2.KOf KX) mainGlobals "MOST_ROOM" = some (some (.int 50 t)) := by
      dsimp only [L2.KOf]
      refine' DW.intAt_mk ?z
      (case z => k_is)
    obtain ⟨t_MOST_ROOM, c_MOST_ROOM⟩ := c_MOST_ROOM
    obtain ⟨f, fd, e1, F⟩ := d_law
    have e2 := hmg.symm.trans (PySem.W.mg_of KX G e1)
    cases e2
    refine ⟨fd, ?_, fun base _ _ => DW.K24.law_fn (T := ⟨_, w, _, mg, base⟩) KX G fr c_MOST_ROOM e_Chooser f_Chooser_room f_Chooser_kept f_Chooser_last d_is_whole d_less d_runs_told dL_cell dL_mix dL_take dL_under dL_whole d_check_room d_Chooser_may_go dL_box dL_tag dL_key dL_is_item dL_room dL_least d_Chooser_let_out dL_row dL_is_list dL_out d_Chooser_init d_Chooser_give d_Chooser_finish dL_are_lists dL_given dL_finished dL_great d_chosen dL_chosen dL_by_chooser F⟩
    obtain ⟨oc, od, kV, doc, pm, an, cdv, ct, osl, rfl, lk, hcd⟩ := F.ex
    exact fun s u => .of_eq rfl
#print axioms PySem.Challenge.cw_pourwright_k24_chosen_runs_holds
