import PyProof.Rows.All
import Wide.All
import OpenK.AllK
import Wide.FinOn
import Lean
import PyProof.EqAt
import PyProof.EqKinds
import PyProof.TupleCall
import PyProof.ReprRoads
import PyProof.IsInstance
import PyProof.IsInstanceH
import PyProof.FitsBits
import PyProof.CompFree
import PyProof.Rows.SumAny
import PyProof.Rows.SortShell
import PyProof.Rows.TupAdd
import PyProof.NeKinds
import PyProof.ConsumeWalk
import PyProof.ZipIter
import PyProof.TupleIter
import PyProof.LayNew
import PyProof.Draws
import PyProof.EnumFor
import PyProof.EnumMake
import PyProof.ListRange
import PyProof.CollectIter
import KE.KRevIter
import PyProof.ListMulRoad
import PyProof.TupleOps
import PyProof.TupleOfStr
import PyProof.WalksMore
import PyProof.FactsAll.range_iterator
import PyProof.IsRules
import PyProof.CompUse
import PyProof.P3In
import PyProof.EqLayable
import KE.KIsAll
import PyProof.Rows.FactsN_isinstance
import PyProof.CallStr
import PyProof.Rows.StrWeight2
import PyProof.Rows.FStr
import PyProof.StrLawsRepr
import PyProof.Rows.SetFrom
import KE.KIntText
import PySem.Challenge.RW_askedpairs_k78_ties_left_out
set_option Elab.async false
set_option linter.all false
set_option maxRecDepth 100000
/-! THE HAND LAYER, for ints, bools, texts, own classes, LISTS and tuples (index, slices, in, append, pop ..), calls, loops. Paste it whole ahead of your own text; what your proof does not reach may be deleted. -/
namespace L2
open PySem PySem.Spec PyProof.Rows

/-- a key: an int or a str -/
abbrev Key := Sum Int Str
def keyIs : Key → Value → Bool
  | .inl k, v => Value.isInt k v
  | .inr x, v => Value.isStrOf x v
def keyH (w : World) : Key → Int
  | .inl k => hashInt k
  | .inr x => hashStr w x
theorem keyIs_shape : ∀ {k : Key} {v : Value}, keyIs k v = true → (∃ i t, k = Sum.inl i ∧ v = Value.int i t) ∨ (∃ x t, k = Sum.inr x ∧ v = Value.str x t)
  | .inl i, v, h => by
    obtain ⟨t, e⟩ := Value.isInt_shape (k := i) (v := v) h
    exact .inl ⟨i, t, rfl, e⟩
  | .inr x, v, h => by
    obtain ⟨t, e⟩ := Value.isStrOf_shape (x := x) (v := v) h
    exact .inr ⟨x, t, rfl, e⟩
theorem key_ll (a b : Int) : decide ((Sum.inl a : Key) = Sum.inl b) = (a == b) := by
  by_cases e : a = b
  · subst e; simp
  · have h : ¬ (Sum.inl a : Key) = Sum.inl b := fun q => e (Sum.inl.inj q)
    rw [decide_eq_false h]
    exact (beq_eq_false_iff_ne.mpr e).symm
theorem key_rr (a b : Str) : decide ((Sum.inr a : Key) = Sum.inr b) = decide (a = b) := by
  by_cases e : a = b
  · subst e; simp
  · have h : ¬ (Sum.inr a : Key) = Sum.inr b := fun q => e (Sum.inr.inj q)
    rw [decide_eq_false h, decide_eq_false e]
theorem key_lr (a : Int) (b : Str) : decide ((Sum.inl a : Key) = Sum.inr b) = false := decide_eq_false (fun q => nomatch q)
theorem key_rl (a : Str) (b : Int) : decide ((Sum.inr a : Key) = Sum.inl b) = false := decide_eq_false (fun q => nomatch q)

def mixKind (prog : Program) (w : World) : PySem.KeyKind prog w Key where
  is := keyIs
  hash := keyH w
  inj := fun v a b ha hb => by
    rcases keyIs_shape ha with ⟨i, t, rfl, rfl⟩ | ⟨x, t, rfl, rfl⟩
    · rcases keyIs_shape hb with ⟨j, u, rfl, e⟩ | ⟨y, u, rfl, e⟩
      · injection e with e1 _; rw [e1]
      · exact nomatch e
    · rcases keyIs_shape hb with ⟨j, u, rfl, e⟩ | ⟨y, u, rfl, e⟩
      · exact nomatch e
      · injection e with e1 _; rw [e1]
  byValue := fun k v h => by
    rcases keyIs_shape h with ⟨i, t, rfl, rfl⟩ | ⟨x, t, rfl, rfl⟩ <;> rfl
  pyHash := fun hv h => by
    rcases keyIs_shape hv with ⟨i, t, rfl, rfl⟩ | ⟨x, t, rfl, rfl⟩
    · exact wpAny_pyHash_int h
    · exact wpAny_pyHash_str h
  eqBool := fun hu hv h => by
    rcases keyIs_shape hu with ⟨i, t, rfl, rfl⟩ | ⟨x, t, rfl, rfl⟩
    · rcases keyIs_shape hv with ⟨j, u, rfl, rfl⟩ | ⟨y, u, rfl, rfl⟩
      · rw [key_ll] at h; exact wpAny_eqBool_int h
      · rw [key_lr] at h; exact SeqAt.EqAt.int_str i t y u _ _ _ _ h
    · rcases keyIs_shape hv with ⟨j, u, rfl, rfl⟩ | ⟨y, u, rfl, rfl⟩
      · rw [key_rl] at h; exact SeqAt.EqAt.str_int x t j u _ _ _ _ h
      · rw [key_rr] at h; exact wpAny_eqBool_str h
  «strs» := fun k x t v h => by
    rcases keyIs_shape h with ⟨i, u, rfl, e⟩ | ⟨y, u, rfl, e⟩
    · exact nomatch e
    · injection e with e1 _
      subst e1
      cases v <;> rfl

end L2

namespace L2
open PySem PySem.Spec PyProof.Rows

/-- a value, without the heap -/
inductive V where
  | non | bl (b : Bool) | int (i : Int) | str (x : Str) | byt (b : Array UInt8) | flt (b : UInt64) | ref (a : Addr) | ty (n : String)
  deriving DecidableEq

def RelV : V → Value → Prop
  | .non, u => u = Value.none
  | .bl b, u => u = Value.bool b
  | .int i, u => ∃ t, u = Value.int i t
  | .str x, u => ∃ t, u = Value.str x t
  | .byt b, u => ∃ t, u = Value.bytes b t
  | .flt b, u => ∃ t, u = Value.float b t
  | .ref a, u => u = Value.ref a
  | .ty n, u => u = Value.type n

abbrev Vals : List V → List Value → Prop := Paired RelV
theorem Vals.length {xs : List V} {us : List Value} (r : Vals xs us) : xs.length = us.length := Paired.length r
theorem Vals.get : ∀ {xs : List V} {us : List Value} {i : Nat} {x : V}, Vals xs us → xs[i]? = some x → ∃ u, us[i]? = some u ∧ RelV x u
  | _, _, _, _, .nil, e => by simp at e
  | _, _, 0, _, .cons r _, e => by simp at e; subst e; exact ⟨_, rfl, r⟩
  | _, _, i + 1, x, .cons _ t, e => by
    obtain ⟨u, h1, h2⟩ := Vals.get (i := i) (x := x) t (by simpa using e)
    exact ⟨u, by simpa using h1, h2⟩
theorem Vals.set {x : V} {u : Value} (r : RelV x u) : ∀ {xs : List V} {us : List Value} (i : Nat), Vals xs us → Vals (xs.set i x) (us.set i u)
  | _, _, _, .nil => .nil
  | _, _, 0, .cons _ t => .cons r t
  | _, _, i + 1, .cons q t => .cons q (Vals.set r i t)
theorem Vals.append : ∀ {xs ys : List V} {us ws : List Value}, Vals xs us → Vals ys ws → Vals (xs ++ ys) (us ++ ws)
  | _, _, _, _, .nil, s => s
  | _, _, _, _, .cons r t, s => .cons r (Vals.append t s)
theorem Vals.take : ∀ {xs : List V} {us : List Value} (n : Nat), Vals xs us → Vals (xs.take n) (us.take n)
  | _, _, 0, _ => .nil
  | _, _, _ + 1, .nil => .nil
  | _, _, n + 1, .cons r t => .cons r (Vals.take n t)
theorem Vals.drop : ∀ {xs : List V} {us : List Value} (n : Nat), Vals xs us → Vals (xs.drop n) (us.drop n)
  | _, _, 0, r => r
  | _, _, _ + 1, .nil => .nil
  | _, _, n + 1, .cons _ t => Vals.drop n t
def RelO : Option V → Option Value → Prop
  | some v, some u => RelV v u
  | none, none => True
  | _, _ => False
def KV {κ : Type} : List (κ × V) → List (κ × Value) → Prop := Paired fun (p : κ × V) (q : κ × Value) => p.1 = q.1 ∧ RelV p.2 q.2

/-- a key of a dict (00_mix): an int or a text -/
def kV : Key → V
  | .inl i => .int i
  | .inr x => .str x

/-- what stands at a tracked address -/
inductive HO where
  /-- a list -/
  | lst (xs : List V)
  /-- a tuple (never changes) -/
  | tup (xs : List V)
  /-- a dict whose keys are ints and texts; one whose keys are tuples of ints and texts (the empty one is both) -/
  | dK (kvs : List (Key × V)) | dT (kvs : List (List Key × V))
  /-- a set of ints: its members, its size -/
  | set (S : Int → Bool) (n : Nat)
  /-- an instance of the class at C, its dict at dx, its attributes -/
  | ins (C dx : Addr) (fs : List (Str × V))
  /-- the dict of the instance at x -/
  | own (x : Addr)
  /-- the dict of an exception -/
  | xd (fs : List (Str × V))
  /-- a bound method, f of x -/
  | met (f x : Addr)
  /-- a range object lo, lo + 1, .. below hi -/
  | rng (lo hi : Int)
  /-- a thing that is known to the object (the script; a dict while a loop walks it): read, never written while it is so -/
  | frz (o : Obj) (u : HO)
  /-- a code object's table -/
  | tbl (ps : Array Value)
  /-- any other thing, by what is true of its one object (a def of one's own: SetO a S n := HO.ext fun h => ..) -/
  | ext (φ : Heap → Prop)

abbrev Hp := Addr → Option HO
def upd (H : Hp) (a : Addr) (o : HO) : Hp := fun b => if b = a then some o else H b
theorem upd_same {H : Hp} {a : Addr} {o : HO} : upd H a o a = some o := by unfold upd; rw [if_pos rfl]
theorem upd_ne {H : Hp} {a b : Addr} {o : HO} (h : b ≠ a) : upd H a o b = H b := by unfold upd; rw [if_neg h]
theorem ne_of_none {H : Hp} {a b : Addr} {o : HO} (h : H a = some o) (h' : H b = none) : a ≠ b := by
  intro e; subst e; rw [h] at h'; cases h'

section
variable (P : Program) (w : World)
def ObjOk (H : Hp) (h : Heap) (a : Addr) : HO → Prop
  | .lst xs => xs.length ≤ sizeLine ∧ ∃ (its : List Value) (n : Nat), Vals xs its ∧ h.get? a = some { cls := .type "list", data := .seq its.toArray n }
  | .tup xs => xs.length ≤ sizeLine ∧ ∃ its : List Value, Vals xs its ∧ IsTup h a its.toArray
  | .dK kvs => kvs.length ≤ sizeLine ∧ (a == sysModules) = false ∧ ∃ vs, KV kvs vs ∧ h.DictOf (mixKind P w) a vs
  | .dT kvs => kvs.length ≤ sizeLine ∧ (a == sysModules) = false ∧ ∃ xs : List (List Key × Addr × Value),
      Paired (fun (p : List Key × V) (q : List Key × Addr × Value) => p.1 = q.1 ∧ H q.2.1 = some (.tup (p.1.map kV)) ∧ RelV p.2 q.2.2) kvs xs ∧
      ∃ o es ep, h.get? a = some o ∧ o.ExactDict ∧ o.data = .dict es ep ∧ es.toList = xs.map (entryOfKey (tupleKind (mixKind P w))) ∧ (xs.map (·.1)).Nodup
  | .set S n => h.SetOf (intKind P w) a S n
  | .ins C dx fs => H dx = some (.own a) ∧ fs.length ≤ 1000 ∧ dx ≠ a ∧ h.get? a = some (PySem.W.instObj C dx) ∧
      ∃ mA, h.Ns1 dx mA ∧ (∀ f, RelO (fs.lookup f) (mA f)) ∧ PySem.Within mA (fs.map (·.1))
  | .own _ => ∃ o, h.get? a = some o
  | .xd fs => ∃ mA, h.Ns1 a mA ∧ ∀ f, RelO (fs.lookup f) (mA f)
  | .rng lo hi => ∃ t u v, h.get? a = some { cls := .type "range", data := .fields #[.int lo t, .int hi u, .int 1 v] }
  | .frz o u => h.get? a = some o ∧ ObjOk H h a u
  | .tbl ps => h.get? a = some { cls := .none, data := .fields ps }
  | .met f x => h.get? a = some (PySem.W.methodObj (.ref f) (.ref x))
  | .ext φ => φ h ∧ (∃ o, h.get? a = some o) ∧ ∀ h1 h2 : Heap, φ h1 → (∀ o, h1.get? a = some o → h2.get? a = some o) → φ h2
/-- the abstract heap is held -/
def HOk (H : Hp) (h : Heap) : Prop := ∀ a o, H a = some o → ObjOk P w H h a o
end

section
variable {P : Program} {w : World} {H H' : Hp} {h h' : Heap} {a : Addr} {o : HO}
theorem ObjOk.lt (x : ObjOk P w H h a o) : a < h.objs.size := by
  cases o with
  | lst xs => obtain ⟨_, _, _, _, e⟩ := x; exact Heap.lt_size e
  | tup xs => obtain ⟨_, _, _, p⟩ := x; exact p.lt
  | dK kvs => obtain ⟨_, _, _, _, o, _, _, e, _⟩ := x; exact Heap.lt_size e
  | dT kvs => obtain ⟨_, _, _, _, o, _, _, e, _⟩ := x; exact Heap.lt_size e
  | set S n => obtain ⟨o, _, _, _, e, _⟩ := x; exact Heap.lt_size e
  | ins C dx fs => obtain ⟨_, _, _, e, _⟩ := x; exact Heap.lt_size e
  | own y => obtain ⟨_, e⟩ := x; exact Heap.lt_size e
  | xd fs => obtain ⟨_, ⟨_, _, _, e, _⟩, _⟩ := x; exact Heap.lt_size e
  | rng lo hi => obtain ⟨_, _, _, e⟩ := x; exact Heap.lt_size e
  | frz ob u => obtain ⟨e, _⟩ := x; exact Heap.lt_size e
  | tbl ps => exact Heap.lt_size (show h.get? a = some _ from x)
  | met f y => exact Heap.lt_size (show h.get? a = some _ from x)
  | ext φ => obtain ⟨_, ⟨_, e⟩, _⟩ := x; exact Heap.lt_size e
theorem Paired.mapP {α β : Type} {F G : α → β → Prop} : ∀ {l₁ : List α} {l₂ : List β}, Paired F l₁ l₂ → (∀ a b, F a b → G a b) → Paired G l₁ l₂
  | _, _, .nil, _ => .nil
  | _, _, .cons r t, f => .cons (f _ _ r) (Paired.mapP t f)
/-- what an object's description leans on: its own object, its own dict, the tuples -/
theorem ObjOk.stay (x : ObjOk P w H h a o) (k : ∀ b u, (b = a ∨ H b = some (.own a)) → h.get? b = some u → h'.get? b = some u)
    (ho : ∀ b, H b = some (.own a) → H' b = some (.own a)) (ht : ∀ b xs, H b = some (.tup xs) → H' b = some (.tup xs)) : ObjOk P w H' h' a o := by
  induction o with
  | lst xs => obtain ⟨z, its, n, r, e⟩ := x; exact ⟨z, its, n, r, k _ _ (.inl rfl) e⟩
  | tup xs => obtain ⟨z, its, r, ob, e, c⟩ := x; exact ⟨z, its, r, ob, k _ _ (.inl rfl) e, c⟩
  | dK kvs => obtain ⟨z, y, vs, r, ob, es, ep, e, c⟩ := x; exact ⟨z, y, vs, r, ob, es, ep, k _ _ (.inl rfl) e, c⟩
  | dT kvs =>
    obtain ⟨z, y, xs, r, ob, es, ep, e, c⟩ := x
    exact ⟨z, y, xs, Paired.mapP r fun p q z => ⟨z.1, ht _ _ z.2.1, z.2.2⟩, ob, es, ep, k _ _ (.inl rfl) e, c⟩
  | set S n => obtain ⟨ob, es, ep, t, e, c⟩ := x; exact ⟨ob, es, ep, t, k _ _ (.inl rfl) e, c⟩
  | ins C dx fs =>
    obtain ⟨d, z, ne, e, mA, ⟨od, es, ep, e2, c⟩, r⟩ := x
    exact ⟨ho _ d, z, ne, k _ _ (.inl rfl) e, mA, ⟨od, es, ep, k _ _ (.inr d) e2, c⟩, r⟩
  | own y => obtain ⟨ob, e⟩ := x; exact ⟨ob, k _ _ (.inl rfl) e⟩
  | xd fs => obtain ⟨mA, ⟨od, es, ep, e, c⟩, r⟩ := x; exact ⟨mA, ⟨od, es, ep, k _ _ (.inl rfl) e, c⟩, r⟩
  | rng lo hi => obtain ⟨t, u, v, e⟩ := x; exact ⟨t, u, v, k _ _ (.inl rfl) e⟩
  | frz ob u ih => obtain ⟨e, q⟩ := x; exact ⟨k _ _ (.inl rfl) e, ih q⟩
  | tbl ps =>
    have e : h.get? a = some { cls := .none, data := .fields ps } := x
    show h'.get? a = some { cls := .none, data := .fields ps }
    exact k a _ (.inl rfl) e
  | met f y =>
    have e : h.get? a = some (PySem.W.methodObj (.ref f) (.ref y)) := x
    show h'.get? a = some (PySem.W.methodObj (.ref f) (.ref y))
    exact k a _ (.inl rfl) e
  | ext φ => obtain ⟨p, ⟨o, e⟩, st⟩ := x; exact ⟨st _ _ p fun o q => k _ _ (.inl rfl) q, ⟨o, k _ _ (.inl rfl) e⟩, st⟩
theorem HOk.lt (x : HOk P w H h) (e : H a = some o) : a < h.objs.size := (x a o e).lt
theorem HOk.fresh (x : HOk P w H h) (e : h.objs.size ≤ a) : H a = none := by
  cases q : H a with
  | none => rfl
  | some u => exact absurd (Nat.lt_of_lt_of_le (x.lt q) e) (Nat.lt_irrefl _)
/-- every object of the heap is kept -/
theorem HOk.kept (x : HOk P w H h) (k : ∀ b u, h.get? b = some u → h'.get? b = some u) : HOk P w H h' := fun a o e =>
  (x a o e).stay (fun b u _ q => k b u q) (fun _ q => q) fun _ _ q => q
/-- a new object is laid and tracked -/
theorem HOk.laid (x : HOk P w H h) (k : ∀ b u, h.get? b = some u → h'.get? b = some u) (hp : h.objs.size ≤ a) (new : ObjOk P w (upd H a o) h' a o) : HOk P w (upd H a o) h' := fun b u e => by
  have hn := x.fresh hp
  by_cases hb : b = a
  · subst hb; rw [upd_same] at e; cases e; exact new
  · rw [upd_ne hb] at e
    exact (x b u e).stay (fun c v _ q => k c v q) (fun c q => by rw [upd_ne (ne_of_none q hn)]; exact q) fun c xs q => by rw [upd_ne (ne_of_none q hn)]; exact q
end

/-- what may be read as u: it is u, or a known u -/
def Rd (H : Hp) (a : Addr) (u : HO) : Prop := H a = some u ∨ ∃ o, H a = some (.frz o u)
theorem Rd.of {H : Hp} {a : Addr} {u : HO} (h : H a = some u) : Rd H a u := .inl h
theorem Rd.ok {P : Program} {w : World} {H : Hp} {h : Heap} {a : Addr} {u : HO} (r : Rd H a u) (x : HOk P w H h) : ObjOk P w H h a u := by
  rcases r with r | ⟨o, r⟩
  · exact x a u r
  · obtain ⟨_, q⟩ := x a _ r
    exact q
/-- what may be written -/
def Mut : Option HO → Prop
  | some (.lst _) => True
  | some (.dK _) => True
  | some (.dT _) => True
  | some (.set _ _) => True
  | some (.ins _ _ _) => True
  | some (.ext _) => True
  | _ => False
section
variable {P : Program} {w : World} {H : Hp} {h h' : Heap} {x e : Addr} {o' : HO}
/-- the object at e is changed: x itself, or the dict of the instance x -/
theorem HOk.write (ok : HOk P w H h) (mu : Mut (H x)) (he : e = x ∨ H e = some (.own x)) (k : ∀ b u, b ≠ e → h.get? b = some u → h'.get? b = some u) (heo : ∃ u, h'.get? e = some u)
    (new : ObjOk P w (upd H x o') h' x o') : HOk P w (upd H x o') h' := fun b u q => by
  have nown : ∀ c y, H c = some (.own y) → c ≠ x := fun c y r z => by subst z; rw [r] at mu; exact mu
  have ntup : ∀ c xs, H c = some (.tup xs) → c ≠ x := fun c xs r z => by subst z; rw [r] at mu; exact mu
  by_cases hb : b = x
  · subst hb; rw [upd_same] at q; cases q; exact new
  · rw [upd_ne hb] at q
    by_cases hbe : b = e
    · have q' : H b = some (.own x) := by
        rcases he with z | z
        · exact absurd (hbe.trans z) hb
        · rw [hbe]; exact z
      rw [q] at q'; cases q'
      obtain ⟨v, hv⟩ := heo
      exact ⟨v, by rw [hbe]; exact hv⟩
    · refine (ok b u q).stay (fun c v hc r => k c v ?_ r) (fun c r => by rw [upd_ne (nown c b r)]; exact r) fun c xs r => by rw [upd_ne (ntup c xs r)]; exact r
      rcases hc with rfl | hc
      · exact hbe
      · rintro rfl
        rcases he with z | z
        · exact nown c b hc z
        · rw [hc] at z; cases z; exact hb rfl
end

/-! ### kept unless tracked; of the frames at fs (the callers') the slots may change (an exception that passes writes there); of the records at ex (iterators) nothing is said -/
structure Un (fs ex : List Addr) (H H' : Hp) (h h' : Heap) : Prop where
  keep : ∀ b o, h.get? b = some o → H b = none → b ∉ fs → b ∉ ex → h'.get? b = some o
  slot : ∀ b o, h.get? b = some o → H b = none → b ∈ fs → b ∉ ex → ∃ sl, h'.get? b = some { o with slots := sl }
  free : ∀ b o, h.get? b = some o → H b = none → b ∉ ex → H' b = none
  there : ∀ b o, h.get? b = some o → b ∉ ex → ∃ o', h'.get? b = some o'
  tups : ∀ b xs, H b = some (.tup xs) → H' b = some (.tup xs)
  frzs : ∀ b o u, H b = some (.frz o u) → H' b = some (.frz o u)
  tbls : ∀ b ps, H b = some (.tbl ps) → ∃ more, H' b = some (.tbl (ps ++ more))
section
variable {fs fs' ex ex' : List Addr} {H H1 H2 : Hp} {h h1 h2 h' : Heap} {a x e : Addr} {o : HO}
theorem Un.any (u : Un fs ex H H1 h h1) {b : Addr} {ob : Obj} (q : h.get? b = some ob) (n : H b = none) (hx : b ∉ ex) : ∃ sl, h1.get? b = some { ob with slots := sl } := by
  by_cases hb : b ∈ fs
  · exact u.slot b ob q n hb hx
  · exact ⟨ob.slots, u.keep b ob q n hb hx⟩
theorem Un.trans (a : Un fs ex H H1 h h1) (b : Un fs ex H1 H2 h1 h2) : Un fs ex H H2 h h2 where
  keep := fun c ob q n hc hx => b.keep c ob (a.keep c ob q n hc hx) (a.free c ob q n hx) hc hx
  slot := fun c ob q n hc hx => by
    obtain ⟨sl, e1⟩ := a.slot c ob q n hc hx
    obtain ⟨sl', e2⟩ := b.slot c _ e1 (a.free c ob q n hx) hc hx
    exact ⟨sl', e2⟩
  free := fun c ob q n hx => by
    obtain ⟨o', e1⟩ := a.there c ob q hx
    exact b.free c o' e1 (a.free c ob q n hx) hx
  there := fun c ob q hx => by
    obtain ⟨o', e1⟩ := a.there c ob q hx
    exact b.there c o' e1 hx
  tups := fun c xs q => b.tups c xs (a.tups c xs q)
  frzs := fun c ob xs q => b.frzs c ob xs (a.frzs c ob xs q)
  tbls := fun c ps q => by
    obtain ⟨m1, e1⟩ := a.tbls c ps q
    obtain ⟨m2, e2⟩ := b.tbls c _ e1
    exact ⟨m1 ++ m2, by rw [e2, Array.append_assoc]⟩
theorem Un.kept (k : ∀ b u, h.get? b = some u → h'.get? b = some u) : Un fs ex H H h h' :=
  ⟨fun b ob q _ _ _ => k b ob q, fun b ob q _ _ _ => ⟨ob.slots, k b ob q⟩, fun _ _ _ n _ => n, fun b ob q _ => ⟨ob, k b ob q⟩, fun _ _ q => q, fun _ _ _ q => q, fun _ ps q => ⟨#[], by rw [q]; simp⟩⟩
theorem Un.refl : Un fs ex H H h h := Un.kept fun _ _ q => q
theorem Un.laid (k : ∀ b u, h.get? b = some u → h'.get? b = some u) (hp : h.objs.size ≤ a) (hn : H a = none) : Un fs ex H (upd H a o) h h' where
  keep := fun b u q _ _ _ => k b u q
  slot := fun b u q _ _ _ => ⟨u.slots, k b u q⟩
  free := fun b u q n _ => by rw [upd_ne (Nat.ne_of_lt (Nat.lt_of_lt_of_le (Heap.lt_size q) hp))]; exact n
  there := fun b u q _ => ⟨u, k b u q⟩
  tups := fun b xs q => by rw [upd_ne (ne_of_none q hn)]; exact q
  frzs := fun b u xs q => by rw [upd_ne (ne_of_none q hn)]; exact q
  tbls := fun b ps q => ⟨#[], by rw [upd_ne (ne_of_none q hn), q]; simp⟩
theorem Un.write (mu : Mut (H x)) (he : e = x ∨ H e = some (.own x)) (k : ∀ b u, b ≠ e → h.get? b = some u → h'.get? b = some u) (heo : ∃ u, h'.get? e = some u) : Un fs ex H (upd H x o) h h' := by
  have hx : ∀ b, H b = none → b ≠ x := fun b n z => by subst z; rw [n] at mu; exact mu
  have hb : ∀ b, H b = none → b ≠ e := fun b n z => by
    subst z
    rcases he with r | r
    · exact hx b n r
    · rw [n] at r; cases r
  have hm : ∀ b u, H b = some u → ¬ Mut (some u) → b ≠ x := fun b u q nm z => by subst z; rw [q] at mu; exact nm mu
  refine ⟨fun b u q n _ _ => k b u (hb b n) q, fun b u q n _ _ => ⟨u.slots, k b u (hb b n) q⟩, fun b u q n _ => by rw [upd_ne (hx b n)]; exact n, fun b u q _ => ?_,
    fun b xs q => by rw [upd_ne (hm b _ q fun z => z)]; exact q, fun b u xs q => by rw [upd_ne (hm b _ q fun z => z)]; exact q, fun b ps q => ⟨#[], by rw [upd_ne (hm b _ q fun z => z), q]; simp⟩⟩
  by_cases hbe : b = e
  · subst hbe; exact heo
  · exact ⟨u, k b u hbe q⟩
theorem Un.mono (u : Un fs ex H H1 h h1) (hs : ∀ b ∈ fs, b ∈ fs') (hx : ∀ b ∈ ex, b ∈ ex') : Un fs' ex' H H1 h h1 :=
  ⟨fun b ob q n hb he => u.keep b ob q n (fun z => hb (hs b z)) fun z => he (hx b z), fun _ _ q n _ he => u.any q n fun z => he (hx _ z), fun b ob q n he => u.free b ob q n fun z => he (hx b z), fun b ob q he => u.there b ob q fun z => he (hx b z), u.tups, u.frzs, u.tbls⟩
end

/-! ### the heap without what is tracked -/
def trk (h : Heap) (H : Hp) : List Addr := (List.range h.objs.size).filter fun a => (H a).isSome
def hidT (h : Heap) (H : Hp) : Heap := PySem.W.hideAll h (trk h H)
theorem hidT_size (h : Heap) (H : Hp) : (hidT h H).objs.size = h.objs.size := PySem.W.hideAll_size _ _
theorem hidT_get {h : Heap} {H : Hp} {b : Addr} {o : Obj} (e : h.get? b = some o) (n : H b = none) : (hidT h H).get? b = some o :=
  PySem.W.hideAll_get _ e fun hm => by
    have q : (H b).isSome = true := (List.mem_filter.mp hm).2
    rw [n] at q; simp at q
theorem of_hidT {h : Heap} {H : Hp} {b : Addr} {o : Obj} (e : (hidT h H).get? b = some o) : h.get? b = some o ∧ H b = none := by
  have e' : h.get? b = some o := PySem.W.of_hideAll (trk h H) e
  refine ⟨e', ?_⟩
  cases q : H b with
  | none => rfl
  | some x =>
    have hm : b ∈ trk h H := List.mem_filter.mpr ⟨List.mem_range.mpr (Heap.lt_size e'), by simp [q]⟩
    have z : (hidT h H).get? b = none := PySem.W.hideAll_none (trk h H) hm
    rw [z] at e; cases e

/-! ### OpenK's ledger, filled with every new object but one -/
def allNews (g h : Heap) (L : Addr) : List (Addr × Obj) := (List.range h.objs.size).filterMap fun a => if a = L ∨ (g.get? a).isSome = true then none else (h.get? a).map fun o => (a, o)
theorem of_mem_allNews {g h : Heap} {L : Addr} {p : Addr × Obj} (hp : p ∈ allNews g h L) : p.1 ≠ L ∧ g.get? p.1 = none ∧ h.get? p.1 = some p.2 := by
  obtain ⟨b, _, e⟩ := List.mem_filterMap.mp hp
  split at e
  · cases e
  · rename_i hn
    cases q : h.get? b with
    | none => rw [q] at e; simp at e
    | some u =>
      rw [q] at e
      simp only [Option.map_some, Option.some.injEq] at e
      subst e
      refine ⟨fun z => hn (.inl z), ?_, q⟩
      show g.get? b = none
      cases r : g.get? b with
      | none => rfl
      | some v => exact (hn (.inr (by simp [r]))).elim
def rest (g h : Heap) (L d : Addr) : List (Addr × Obj) := (allNews g h L).filter fun p => decide (p.1 ≠ d)
theorem news_all {g h : Heap} {L : Addr} : News g L h (allNews g h L) := fun p hp => let ⟨a, b, c⟩ := of_mem_allNews hp; ⟨c, a, b⟩
end L2

namespace L2
open PySem PySem.Spec PyProof.Rows

/-- the module's facts, over the base: the heap at the law's entry without what is tracked there -/
structure Mod (K : PySem.W.Frag) (mg : Str → Option Value) (base : Heap) : Prop where
  kin : K.In base
  glob : base.Ns mainGlobals mg
  blt : ∃ mb, base.Ns builtinsNs mb ∧ ∀ x : Str, x ≠ "__name__" → mb x = bootBuiltins x
  nolimit : base.NoLimit

/-- the context: a def's body (or a comprehension's block) running. base: fixed through the whole law; s₀, H₀: the entry; outer: the frames whose slots others may change (a def's callers); stack: all frames that run;
   ex: iterators that were made ahead of the entry and are walked here (a comprehension's); fn: the names whose cells were made at the entry (a def: all; a comprehension's block: its own); calm: not within an except suite; pn: pins that every state bears; xe: what is wanted of an exception that leaves the code -/
structure Cx where
  prog : Program
  w : World
  K : PySem.W.Frag
  mg : Str → Option Value
  base : Heap
  A : Around
  N : List Str
  s₀ : Shared
  H₀ : Hp
  env : Env
  outer : List Env
  stack : List Env
  ex : List Addr
  fn : Str → Bool
  calm : Bool
  pn : List (Addr × Obj)
  xe : Value → Shared → Prop
/-- the callers' frames -/
def frs (l : List Env) : List Addr := l.filterMap (·.frame)
abbrev Cx.fs (X : Cx) : List Addr := frs X.outer

def Vis (sc : Scope) (x : Str) : Prop := sc.names.lookup x = some .local ∨ sc.names.lookup x = some .cell ∨ sc.names.lookup x = some .free
def Loc (sc : Scope) (x : Str) : Prop := sc.names.lookup x = some .local ∨ sc.names.lookup x = some .cell
def Look (env : Env) (h : Heap) (m : Str → Option Value) (x : Str) (u : Value) : Prop :=
  (env.kindOf x = some .local ∧ m x = some u) ∨ ((env.kindOf x = some .cell ∨ env.kindOf x = some .free) ∧ ∃ c, env.cells.lookup x = some c ∧ h.IsCell c (some u))

structure Cx.Ok (X : Cx) : Prop where
  mod : Mod X.K X.mg X.base
  kind : X.env.scope.kind = .function
  glob : X.env.globals = mainGlobals
  blt : X.env.builtins = builtinsNs
  above : X.s₀.heap.objs.size ≤ X.env.locals
  inj : ∀ x y c, X.env.cells.lookup x = some c → X.env.cells.lookup y = some c → x = y
  has : ∀ x, (X.env.kindOf x = some .cell ∨ X.env.kindOf x = some .free) → ∃ c, X.env.cells.lookup x = some c
  cab : ∀ x c, X.fn x = true → X.env.cells.lookup x = some c → X.s₀.heap.objs.size ≤ c
  hd : X.calm = true → X.A.handled = none
  frames : X.A.frames = some X.stack
  stk : X.stack = X.outer ∨ (X.stack = X.env :: X.outer ∧ X.env.frame = some X.env.locals)
  exf : ∀ b ∈ X.ex, b ≠ X.env.locals ∧ ∀ x c, X.env.cells.lookup x = some c → c ≠ b
  bs : ∀ b o, X.base.get? b = some o → X.s₀.heap.get? b = some o ∧ X.H₀ b = none
  bsz : X.base.objs.size ≤ X.s₀.heap.objs.size
  noex : ∀ b o, X.base.get? b = some o → b ∉ X.ex
  exfs : ∀ b ∈ X.ex, b ∉ X.fs
  funs : X.s₀.heap.FunFrames X.base X.outer
  frf : ∀ b ∈ X.fs, X.H₀ b = none

structure Inv (X : Cx) (pins : List (Addr × Obj)) (σ : List (Option V)) (H : Hp) (s : Shared) : Prop where
  ok : X.Ok
  os : s.os = X.s₀.os
  bare : AllBare s.gens
  base : Un X.fs X.ex X.H₀ H X.s₀.heap s.heap
  loc : ∃ m, s.heap.Ns X.env.locals m ∧ ∀ (i : Nat) (x : Str) (v : V), X.N[i]? = some x → σ[i]? = some (some v) → Vis X.env.scope x → ∃ u, RelV v u ∧ Look X.env s.heap m x u
  cell : ∀ x c, X.env.cells.lookup x = some c → ∃ v, s.heap.IsCell c v
  free : H X.env.locals = none
  freeC : ∀ x c, X.env.cells.lookup x = some c → H c = none
  pin : ∀ p ∈ X.pn ++ pins, s.heap.get? p.1 = some p.2 ∧ H p.1 = none ∧ p.1 ≠ X.env.locals ∧ p.1 ∉ X.fs ∧ ∀ v, p.2.data ≠ .cell v
  hok : HOk X.prog X.w H s.heap
  len : σ.length = X.N.length

section
variable {X : Cx} {pins : List (Addr × Obj)} {σ : List (Option V)} {H H' : Hp} {s : Shared} {h' : Heap}

theorem Cx.Ok.nofr (ok : X.Ok) {b : Addr} {o : Obj} (e : X.base.get? b = some o) : b ∉ X.fs := fun hb => by
  have := (ok.funs.mem hb).1
  rw [e] at this; cases this
theorem Inv.bs (I : Inv X pins σ H s) : ∀ b o, X.base.get? b = some o → s.heap.get? b = some o ∧ H b = none := fun b o e =>
  ⟨I.base.keep b o (I.ok.bs b o e).1 (I.ok.bs b o e).2 (I.ok.nofr e) (I.ok.noex b o e), I.base.free b o (I.ok.bs b o e).1 (I.ok.bs b o e).2 (I.ok.noex b o e)⟩
theorem Inv.bk (I : Inv X pins σ H s) : ∀ b o, X.base.get? b = some o → s.heap.get? b = some o := fun b o e => (I.bs b o e).1
theorem Inv.mod (I : Inv X pins σ H s) : Mod X.K X.mg X.base := I.ok.mod
theorem Inv.kIn (I : Inv X pins σ H s) : X.K.In s.heap := I.ok.mod.kin.keeps I.bk
theorem Inv.nolimit (I : Inv X pins σ H s) : s.heap.NoLimit := I.ok.mod.nolimit.keeps I.bk
/-- the frame over the base: for OpenK's rules (K.In X.base is I.mod.kin) -/
theorem Inv.fr (I : Inv X pins σ H s) : ∃ m, Fr X.base X.env.locals s.heap m :=
  let ⟨m, hn, _⟩ := I.loc
  ⟨m, hn, I.bk, Nat.le_trans I.ok.bsz I.ok.above⟩
theorem Inv.lt (I : Inv X pins σ H s) : X.env.locals < s.heap.objs.size := let ⟨_, hn, _⟩ := I.loc; hn.lt
theorem Inv.sz (I : Inv X pins σ H s) : X.s₀.heap.objs.size ≤ s.heap.objs.size := Nat.le_trans I.ok.above (Nat.le_of_lt I.lt)
theorem Inv.nofs (I : Inv X pins σ H s) {a : Addr} (h : s.heap.objs.size ≤ a) : a ∉ X.fs := fun hb => by
  obtain ⟨_, o, ho, _⟩ := I.ok.funs.mem hb
  exact absurd (Nat.lt_of_lt_of_le (Heap.lt_size ho) (Nat.le_trans I.sz h)) (Nat.lt_irrefl _)
theorem Inv.cne (I : Inv X pins σ H s) : ∀ x c, X.env.cells.lookup x = some c → c ≠ X.env.locals := fun x c e z => by
  obtain ⟨v, o, ho, hd⟩ := I.cell x c e
  obtain ⟨m, ⟨o', es, ep, ho', hd', _⟩, _⟩ := I.loc
  rw [z, ho'] at ho; cases ho; rw [hd'] at hd; cases hd
theorem Inv.funs (I : Inv X pins σ H s) : s.heap.FunFrames X.base X.outer := by
  have all : ∀ (l : List Env), (∀ b ∈ frs l, b ∈ X.fs) → X.s₀.heap.FunFrames X.base l → s.heap.FunFrames X.base l := by
    intro l
    induction l with
    | nil => intro _ _; trivial
    | cons env r ih =>
      intro hs hl
      obtain ⟨hk, ⟨L, o, hf, hn, ho, hd⟩, hr⟩ := hl
      have hL : L ∈ X.fs := hs L (by unfold frs; rw [List.filterMap_cons, hf]; exact List.mem_cons_self)
      obtain ⟨sl, e⟩ := I.base.slot L o ho (I.ok.frf L hL) hL fun z => I.ok.exfs L z hL
      exact ⟨hk, ⟨L, _, hf, hn, e, hd⟩, ih (fun b hb => hs b (by unfold frs; rw [List.filterMap_cons, hf]; exact List.mem_cons_of_mem _ hb)) hr⟩
  exact all X.outer (fun _ hb => hb) I.ok.funs

/-- the frames that run, for a call -/
theorem Inv.stack (I : Inv X pins σ H s) : s.heap.FunFrames X.base X.stack := by
  rcases I.ok.stk with e | ⟨e, hf⟩
  · rw [e]; exact I.funs
  · rw [e]
    obtain ⟨m, hn, _⟩ := I.loc
    refine .cons (by rw [I.ok.kind]; decide) hf hn ?_ I.funs
    exact Heap.get?_none_of_le (Nat.le_trans I.ok.bsz I.ok.above)
theorem Inv.stkSub (I : Inv X pins σ H s) : ∀ b ∈ frs X.stack, b ∈ X.env.locals :: X.fs := fun b hb => by
  rcases I.ok.stk with e | ⟨e, hf⟩
  · rw [e] at hb; exact List.mem_cons_of_mem _ hb
  · rw [e] at hb
    unfold frs at hb
    rw [List.filterMap_cons, hf] at hb
    exact hb
theorem Inv.stkFree (I : Inv X pins σ H s) : ∀ b ∈ frs X.stack, H b = none := fun b hb => by
  rcases List.mem_cons.mp (I.stkSub b hb) with e | hb
  · rw [e]; exact I.free
  · obtain ⟨_, o, ho, _⟩ := I.ok.funs.mem hb
    exact I.base.free b o ho (I.ok.frf b hb) fun z => I.ok.exfs b z hb

/-- THE STEP: the untracked objects but the frame and the records at ch are kept (the callers' frames up to slots), the frame's map is kept, the new abstract heap is held -/
theorem Inv.step {g' : Array GenState} {t' : Nat} {d' : Drawn} {ch : List Addr} (I : Inv X pins σ H s)
    (hch : ∀ b ∈ ch, (b ∈ X.ex ∨ X.s₀.heap.objs.size ≤ b) ∧ b ≠ X.env.locals ∧ (∀ x c, X.env.cells.lookup x = some c → c ≠ b) ∧ ∀ p ∈ X.pn ++ pins, p.1 ≠ b)
    (keep : ∀ b o, b ≠ X.env.locals → b ∉ X.fs → b ∉ ch → s.heap.get? b = some o → H b = none → h'.get? b = some o)
    (slot : ∀ b o, b ≠ X.env.locals → b ∈ X.fs → b ∉ ch → s.heap.get? b = some o → H b = none → ∃ sl, h'.get? b = some { o with slots := sl }) (free : ∀ b o, b ∉ ch → s.heap.get? b = some o → H b = none → H' b = none)
    (there : ∀ b o, b ∉ ch → s.heap.get? b = some o → ∃ o', h'.get? b = some o')
    (tups : ∀ b xs, H b = some (.tup xs) → H' b = some (.tup xs)) (frzs : ∀ b o u, H b = some (.frz o u) → H' b = some (.frz o u)) (tbls : ∀ b ps, H b = some (.tbl ps) → ∃ more, H' b = some (.tbl (ps ++ more)))
    (ns : ∀ m, s.heap.Ns X.env.locals m → h'.Ns X.env.locals m) (hok : HOk X.prog X.w H' h') (hg : AllBare g') :
    Inv X pins σ H' { s with heap := h', gens := g', drawn := d', toks := t' } := by
  have neL : ∀ b o, X.s₀.heap.get? b = some o → b ≠ X.env.locals := fun b o e => Nat.ne_of_lt (Nat.lt_of_lt_of_le (Heap.lt_size e) I.ok.above)
  have neC : ∀ b o, X.s₀.heap.get? b = some o → b ∉ X.ex → b ∉ ch := fun b o e hx hb => by
    rcases (hch b hb).1 with z | z
    · exact hx z
    · exact absurd (Nat.lt_of_lt_of_le (Heap.lt_size e) z) (Nat.lt_irrefl _)
  have cellK : ∀ x c, X.env.cells.lookup x = some c → ∀ v, s.heap.IsCell c v → h'.IsCell c v := fun x c e v ⟨o, ho, hd⟩ => by
    have nch : c ∉ ch := fun z => (hch c z).2.2.1 x c e rfl
    by_cases hc : c ∈ X.fs
    · obtain ⟨sl, q⟩ := slot c o (I.cne x c e) hc nch ho (I.freeC x c e)
      exact ⟨_, q, hd⟩
    · exact ⟨o, keep c o (I.cne x c e) hc nch ho (I.freeC x c e), hd⟩
  refine ⟨I.ok, I.os, hg, ⟨fun b o e n hb hx => ?_, fun b o e n hb hx => ?_, fun b o e n hx => ?_, fun b o e hx => ?_, fun b xs e => tups b xs (I.base.tups b xs e), fun b o xs e => frzs b o xs (I.base.frzs b o xs e), fun b ps e => ?_⟩, ?_, fun x c e => ?_, ?_, fun x c e => ?_, fun p hp => ?_, hok, I.len⟩
  · exact keep b o (neL b o e) hb (neC b o e hx) (I.base.keep b o e n hb hx) (I.base.free b o e n hx)
  · obtain ⟨sl, e1⟩ := I.base.slot b o e n hb hx
    obtain ⟨sl', e2⟩ := slot b _ (neL b o e) hb (neC b o e hx) e1 (I.base.free b o e n hx)
    exact ⟨sl', e2⟩
  · obtain ⟨o', e1⟩ := I.base.there b o e hx
    exact free b o' (neC b o e hx) e1 (I.base.free b o e n hx)
  · obtain ⟨o', e1⟩ := I.base.there b o e hx
    exact there b o' (neC b o e hx) e1
  · obtain ⟨m1, e1⟩ := I.base.tbls b ps e
    obtain ⟨m2, e2⟩ := tbls b _ e1
    exact ⟨m1 ++ m2, by rw [e2, Array.append_assoc]⟩
  · obtain ⟨m, hn, hl⟩ := I.loc
    refine ⟨m, ns m hn, fun i x v e1 e2 e3 => ?_⟩
    obtain ⟨u, r, l⟩ := hl i x v e1 e2 e3
    refine ⟨u, r, ?_⟩
    rcases l with l | ⟨k, c, e, z⟩
    · exact .inl l
    · exact .inr ⟨k, c, e, cellK x c e _ z⟩
  · obtain ⟨v, z⟩ := I.cell x c e
    exact ⟨v, cellK x c e v z⟩
  · obtain ⟨m, ⟨o, _, _, ho, _⟩, _⟩ := I.loc
    exact free _ o (fun z => (hch _ z).2.1 rfl) ho I.free
  · obtain ⟨v, o, ho, hd⟩ := I.cell x c e
    exact free c o (fun z => (hch c z).2.2.1 x c e rfl) ho (I.freeC x c e)
  · obtain ⟨e, n, ne, nf, d⟩ := I.pin p hp
    have nch : p.1 ∉ ch := fun z => (hch p.1 z).2.2.2 p hp rfl
    exact ⟨keep p.1 p.2 ne nf nch e n, free p.1 p.2 nch e n, ne, nf, d⟩
/-- .. where the frame's own object is kept too -/
theorem Inv.un {t' : Nat} (I : Inv X pins σ H s) (u : Un X.fs [] H H' s.heap h') (hok : HOk X.prog X.w H' h') : Inv X pins σ H' { s with heap := h', toks := t' } := by
  obtain ⟨m, ⟨o, es, ep, ho, r⟩, _⟩ := id I.loc
  obtain ⟨sl, hL⟩ := u.any ho I.free (by simp)
  exact I.step (g' := s.gens) (d' := s.drawn) (ch := []) (fun _ z => nomatch z) (fun b o _ hb _ e n => u.keep b o e n hb (by simp)) (fun b o _ hb _ e n => u.slot b o e n hb (by simp)) (fun b o _ e n => u.free b o e n (by simp)) (fun b o _ e => u.there b o e (by simp)) u.tups u.frzs u.tbls (fun m' hm => by
    obtain ⟨o', es', ep', ho', r'⟩ := hm
    rw [ho] at ho'; cases ho'
    exact ⟨_, es', ep', hL, r'⟩) hok I.bare
/-- behind a call (or a comprehension's block): the slots of this frame may have changed too, the records at ch may have turned -/
theorem Inv.call {g' : Array GenState} {t' : Nat} {d' : Drawn} {ch : List Addr} (I : Inv X pins σ H s) (u : Un (frs X.stack) ch H H' s.heap h') (hok : HOk X.prog X.w H' h') (hg : AllBare g')
    (hch : ∀ b ∈ ch, (b ∈ X.ex ∨ X.s₀.heap.objs.size ≤ b) ∧ b ≠ X.env.locals ∧ (∀ x c, X.env.cells.lookup x = some c → c ≠ b) ∧ ∀ p ∈ X.pn ++ pins, p.1 ≠ b) :
    Inv X pins σ H' { s with heap := h', gens := g', drawn := d', toks := t' } := by
  obtain ⟨m, ⟨o, es, ep, ho, r⟩, _⟩ := id I.loc
  obtain ⟨sl, hL⟩ := u.any ho I.free fun z => (hch _ z).2.1 rfl
  exact I.step (ch := ch) hch (fun b o hL hb hc e n => u.keep b o e n (fun z => (List.mem_cons.mp (I.stkSub b z)).elim hL hb) hc) (fun b o _ _ hc e n => u.any e n hc) (fun b o hc e n => u.free b o e n hc) (fun b o hc e => u.there b o e hc) u.tups u.frzs u.tbls (fun m' hm => by
    obtain ⟨o', es', ep', ho', r'⟩ := hm
    rw [ho] at ho'; cases ho'
    exact ⟨_, es', ep', hL, r'⟩) hok hg
/-- an untracked record of ours (an iterator) has turned -/
theorem Inv.turned {t' : Nat} {it : Addr} (I : Inv X pins σ H s) (k : ∀ b o, b ≠ it → s.heap.get? b = some o → h'.get? b = some o) (hn : H it = none) (hL : it ≠ X.env.locals)
    (h1 : it ∈ X.ex ∨ X.s₀.heap.objs.size ≤ it) (h2 : ∀ x c, X.env.cells.lookup x = some c → c ≠ it) (h3 : ∀ p ∈ X.pn ++ pins, p.1 ≠ it) : Inv X pins σ H { s with heap := h', toks := t' } := by
  have nit : ∀ b u, H b = some u → b ≠ it := fun b u e z => by rw [z, hn] at e; cases e
  refine I.step (g' := s.gens) (d' := s.drawn) (ch := [it]) (fun b hb => ?_) (fun b o _ _ hc e _ => k b o (fun z => hc (by simp [z])) e) (fun b o _ _ hc e _ => ⟨o.slots, k b o (fun z => hc (by simp [z])) e⟩) (fun _ _ _ _ n => n)
    (fun b o hc e => ⟨o, k b o (fun z => hc (by simp [z])) e⟩) (fun _ _ e => e) (fun _ _ _ e => e) (fun b ps e => ⟨#[], by rw [e]; simp⟩) (fun m hm => ?_) (fun b u e => ?_) I.bare
  · have e : b = it := by simpa using hb
    subst e
    exact ⟨h1, hL, h2, h3⟩
  · obtain ⟨o, es, ep, ho, r⟩ := hm
    exact ⟨o, es, ep, k _ o (Ne.symm hL) ho, r⟩
  · refine (I.hok b u e).stay (fun c v hc q => k c v ?_ q) (fun _ q => q) fun _ _ q => q
    rcases hc with z | z
    · rw [z]; exact nit b u e
    · exact nit c _ z
theorem Inv.tok (I : Inv X pins σ H s) (t : Nat) : Inv X pins σ H { s with toks := t } := I.un (h' := s.heap) (t' := t) Un.refl I.hok
/-- all objects kept -/
theorem Inv.kept {t' : Nat} (I : Inv X pins σ H s) (k : ∀ b u, s.heap.get? b = some u → h'.get? b = some u) : Inv X pins σ H { s with heap := h', toks := t' } := I.un (Un.kept k) (I.hok.kept k)
/-- a new object laid and tracked -/
theorem Inv.laid {a : Addr} {o : HO} {t' : Nat} (I : Inv X pins σ H s) (k : ∀ b u, s.heap.get? b = some u → h'.get? b = some u) (hp : s.heap.objs.size ≤ a) (new : ObjOk X.prog X.w (upd H a o) h' a o) :
    Inv X pins σ (upd H a o) { s with heap := h', toks := t' } := I.un (Un.laid k hp (I.hok.fresh hp)) (I.hok.laid k hp new)
/-- an object written -/
theorem Inv.write {x e : Addr} {o : HO} {t' : Nat} (I : Inv X pins σ H s) (mu : Mut (H x)) (he : e = x ∨ H e = some (.own x)) (k : ∀ b u, b ≠ e → s.heap.get? b = some u → h'.get? b = some u) (heo : ∃ u, h'.get? e = some u)
    (new : ObjOk X.prog X.w (upd H x o) h' x o) : Inv X pins σ (upd H x o) { s with heap := h', toks := t' } := I.un (Un.write mu he k heo) (I.hok.write mu he k heo new)
/-- forgetting slots, pins -/
theorem Inv.weak {σ' : List (Option V)} (I : Inv X pins σ H s) (hl : σ'.length = σ.length) (w : ∀ (i : Nat) v, σ'[i]? = some (some v) → σ[i]? = some (some v)) : Inv X pins σ' H s :=
  ⟨I.ok, I.os, I.bare, I.base, let ⟨m, hn, hl'⟩ := I.loc; ⟨m, hn, fun i x v e1 e2 e3 => hl' i x v e1 (w i v e2) e3⟩, I.cell, I.free, I.freeC, I.pin, I.hok, hl.trans I.len⟩
theorem Inv.pins_of {pins' : List (Addr × Obj)} (I : Inv X pins σ H s) (h : ∀ p ∈ pins', s.heap.get? p.1 = some p.2 ∧ H p.1 = none ∧ p.1 ≠ X.env.locals ∧ p.1 ∉ X.fs ∧ ∀ v, p.2.data ≠ .cell v) : Inv X pins' σ H s :=
  ⟨I.ok, I.os, I.bare, I.base, I.loc, I.cell, I.free, I.freeC, fun p hp => (List.mem_append.mp hp).elim (fun z => I.pin p (List.mem_append_left _ z)) (h p), I.hok, I.len⟩

theorem nodup_ix {N : List Str} (hN : N.Nodup) {i j : Nat} {x : Str} (a : N[i]? = some x) (b : N[j]? = some x) : i = j := by
  obtain ⟨h1, e1⟩ := List.getElem?_eq_some_iff.mp a
  obtain ⟨h2, e2⟩ := List.getElem?_eq_some_iff.mp b
  exact (List.getElem_inj hN).mp (e1.trans e2.symm)

/-- a name is stored; what changed -/
theorem store_ok2 {M : Model} {A : Around} {E : Value → Shared → Prop} {i : Nat} {x : Str} {v : V} {u : Value} {Q : Unit → Shared → Prop} (I : Inv X pins σ H s) (hN : X.N.Nodup) (hi : X.N[i]? = some x) (hx : Loc X.env.scope x) (r : RelV v u)
    (h : ∀ s', Inv X pins (σ.set i (some v)) H s' → (∃ a, Heap.SameBut a s.heap s'.heap ∧ (a = X.env.locals ∨ X.env.cells.lookup x = some a)) → Q () s') (hf : X.fn x = true ∨ X.env.scope.names.lookup x = some .local := by first | exact .inl rfl | exact .inr rfl | assumption) : wpAny M A (storeName X.env x u) Q E s := by
  obtain ⟨m, hn, hl⟩ := id I.loc
  have hcls : (X.env.scope.kind == .class || (X.env.scope.kind == .module && X.env.locals != X.env.globals)) = false := by rw [I.ok.kind]; rfl
  have hiσ : i < σ.length := by rw [I.len]; exact (List.getElem?_eq_some_iff.mp hi).1
  have cne := I.cne
  have tracked : ∀ {a : Addr} {h' : Heap}, (∃ o, s.heap.get? a = some o ∧ H a = none) → Heap.SameBut a s.heap h' → HOk X.prog X.w H h' := fun {a h'} ha hs b ob e => by
    obtain ⟨_, _, hfree⟩ := ha
    refine (I.hok b ob e).stay (fun c w' hc q => (hs.2 c ?_).trans q) (fun _ q => q) fun _ _ q => q
    rintro rfl
    rcases hc with rfl | hc
    · rw [hfree] at e; cases e
    · rw [hfree] at hc; cases hc
  rcases hx with hk | hk
  · refine wpAny_storeName_local hk hn (fun h' hn' hs => ?_) hcls
    obtain ⟨oL, _, _, hoL, _⟩ := id hn
    refine h _ ⟨I.ok, I.os, I.bare, ⟨fun b o e n hb hx => ?_, fun b o e n hb hx => ?_, I.base.free, fun b o e hx => ?_, I.base.tups, I.base.frzs, I.base.tbls⟩, ⟨_, hn', fun j y v' e1 e2 e3 => ?_⟩, fun y c e => ?_, I.free, I.freeC, fun p hp => ?_, tracked ⟨oL, hoL, I.free⟩ hs, by simpa using I.len⟩ ⟨_, hs, .inl rfl⟩
    · exact (hs.2 b (Nat.ne_of_lt (Nat.lt_of_lt_of_le (Heap.lt_size e) I.ok.above))).trans (I.base.keep b o e n hb hx)
    · obtain ⟨sl, e1⟩ := I.base.slot b o e n hb hx
      exact ⟨sl, (hs.2 b (Nat.ne_of_lt (Nat.lt_of_lt_of_le (Heap.lt_size e) I.ok.above))).trans e1⟩
    · obtain ⟨o', e1⟩ := I.base.there b o e hx
      exact ⟨o', (hs.2 b (Nat.ne_of_lt (Nat.lt_of_lt_of_le (Heap.lt_size e) I.ok.above))).trans e1⟩
    · by_cases hj : j = i
      · subst hj
        rw [hi] at e1; cases e1
        rw [List.getElem?_set_self hiσ] at e2
        cases e2
        exact ⟨u, r, .inl ⟨hk, by simp⟩⟩
      · rw [List.getElem?_set_ne (Ne.symm hj)] at e2
        obtain ⟨u', r', q⟩ := hl j y v' e1 e2 e3
        refine ⟨u', r', ?_⟩
        rcases q with ⟨k, e⟩ | ⟨k, c, e, z⟩
        · refine .inl ⟨k, ?_⟩
          have : y ≠ x := fun e => hj (nodup_ix hN e1 (e ▸ hi))
          simp [this, e]
        · exact .inr ⟨k, c, e, z.sameBut hs (cne y c e)⟩
    · obtain ⟨w', z⟩ := I.cell y c e
      exact ⟨w', z.sameBut hs (cne y c e)⟩
    · obtain ⟨e, n, ne, nf, d⟩ := I.pin p hp
      exact ⟨(hs.2 p.1 ne).trans e, n, ne, nf, d⟩
  · have hfn : X.fn x = true := by
      rcases hf with z | z
      · exact z
      · rw [z] at hk; cases hk
    obtain ⟨c, hc⟩ := I.ok.has x (.inl hk)
    obtain ⟨w', z⟩ := I.cell x c hc
    refine wpAny_storeName_cell I.ok.kind hk hc z (fun h' hc' hs => ?_)
    obtain ⟨oc, hoc, hocd⟩ := id z
    refine h { s with heap := h' } ⟨I.ok, I.os, I.bare, ⟨fun b o e n hb hx => ?_, fun b o e n hb hx => ?_, I.base.free, fun b o e hx => ?_, I.base.tups, I.base.frzs, I.base.tbls⟩, ⟨m, hn.sameBut hs (Ne.symm (cne x c hc)), fun j y v' e1 e2 e3 => ?_⟩, fun y c' e => ?_, I.free, I.freeC, fun p hp => ?_, tracked ⟨oc, hoc, I.freeC x c hc⟩ hs, by simpa using I.len⟩ ⟨c, hs, .inr hc⟩
    · exact (hs.2 b (Nat.ne_of_lt (Nat.lt_of_lt_of_le (Heap.lt_size e) (I.ok.cab x c hfn hc)))).trans (I.base.keep b o e n hb hx)
    · obtain ⟨sl, e1⟩ := I.base.slot b o e n hb hx
      exact ⟨sl, (hs.2 b (Nat.ne_of_lt (Nat.lt_of_lt_of_le (Heap.lt_size e) (I.ok.cab x c hfn hc)))).trans e1⟩
    · obtain ⟨o', e1⟩ := I.base.there b o e hx
      exact ⟨o', (hs.2 b (Nat.ne_of_lt (Nat.lt_of_lt_of_le (Heap.lt_size e) (I.ok.cab x c hfn hc)))).trans e1⟩
    · by_cases hj : j = i
      · subst hj
        rw [hi] at e1; cases e1
        rw [List.getElem?_set_self hiσ] at e2
        cases e2
        exact ⟨u, r, .inr ⟨.inl hk, c, hc, hc'⟩⟩
      · rw [List.getElem?_set_ne (Ne.symm hj)] at e2
        obtain ⟨u', r', q⟩ := hl j y v' e1 e2 e3
        refine ⟨u', r', ?_⟩
        rcases q with q | ⟨k, c', e, z'⟩
        · exact .inl q
        · refine .inr ⟨k, c', e, z'.sameBut hs ?_⟩
          rintro rfl
          exact hj (nodup_ix hN e1 (I.ok.inj _ _ _ e hc ▸ hi))
    · by_cases hcc : c' = c
      · subst hcc; exact ⟨_, hc'⟩
      · obtain ⟨w2, z2⟩ := I.cell y c' e
        exact ⟨w2, z2.sameBut hs hcc⟩
    · obtain ⟨e, n, ne, nf, d⟩ := I.pin p hp
      refine ⟨(hs.2 p.1 ?_).trans e, n, ne, nf, d⟩
      intro q
      rw [q, hoc] at e
      have q' : oc = p.2 := Option.some.inj e
      exact d w' (by rw [← q']; exact hocd)
theorem store_ok {M : Model} {A : Around} {E : Value → Shared → Prop} {i : Nat} {x : Str} {v : V} {u : Value} {Q : Unit → Shared → Prop} (I : Inv X pins σ H s) (hN : X.N.Nodup) (hi : X.N[i]? = some x) (hx : Loc X.env.scope x) (r : RelV v u)
    (h : ∀ s', Inv X pins (σ.set i (some v)) H s' → Q () s') (hf : X.fn x = true ∨ X.env.scope.names.lookup x = some .local := by first | exact .inl rfl | exact .inr rfl | assumption) : wpAny M A (storeName X.env x u) Q E s :=
  store_ok2 I hN hi hx r (fun s' I' _ => h s' I') hf
/-- behind a call or a block, the state as it is -/
theorem Inv.call' {s' : Shared} {ch : List Addr} (I : Inv X pins σ H s) (ho : s'.os = s.os) (u : Un (frs X.stack) ch H H' s.heap s'.heap) (hok : HOk X.prog X.w H' s'.heap) (hg : AllBare s'.gens)
    (hch : ∀ b ∈ ch, (b ∈ X.ex ∨ X.s₀.heap.objs.size ≤ b) ∧ b ≠ X.env.locals ∧ (∀ x c, X.env.cells.lookup x = some c → c ≠ b) ∧ ∀ p ∈ X.pn ++ pins, p.1 ≠ b) : Inv X pins σ H' s' := by
  obtain ⟨h', g', d', t', o'⟩ := s'
  have e : o' = s.os := ho
  subst e
  exact I.call (g' := g') (t' := t') (d' := d') u hok hg hch
end

/-! ### the judgements -/
/-- an exception: its class, its own dict's address (where it has one), the abstract heap behind it -/
abbrev XK := Value → Option Addr → Hp → Prop
abbrev St := List (Option V)
abbrev VK := V → Hp → Prop
/-- an expression's reading; a test's; an argument list's -/
abbrev TE := St → Hp → VK → Prop
abbrev TT := St → Hp → (Bool → Hp → Prop) → Prop
abbrev TA := St → Hp → (List V → Hp → Prop) → Prop
/-- what is wanted behind a statement -/
structure Ends where
  nx : St → Hp → Prop
  rt : VK
  bk : St → Hp → Prop := fun _ _ => False
  ct : St → Hp → Prop := fun _ _ => False
abbrev TS := Ends → St → Hp → Prop

def EP (X : Cx) (pins : List (Addr × Obj)) (σ : St) (Q : VK) (u : Value) (s' : Shared) : Prop := ∃ v H', Inv X pins σ H' s' ∧ RelV v u ∧ Q v H'
def TP (X : Cx) (pins : List (Addr × Obj)) (σ : St) (Q : Bool → Hp → Prop) (b : Bool) (s' : Shared) : Prop := ∃ H', Inv X pins σ H' s' ∧ Q b H'
def AP (X : Cx) (pins : List (Addr × Obj)) (σ : St) (Q : List V → Hp → Prop) (us : List Value) (s' : Shared) : Prop := ∃ vs H', Inv X pins σ H' s' ∧ Vals vs us ∧ Q vs H'
def SP (X : Cx) (pins : List (Addr × Obj)) (D : Ends) (f : Flow) (s' : Shared) : Prop :=
  match f with
  | .next => ∃ σ' H', Inv X pins σ' H' s' ∧ D.nx σ' H'
  | .brk => ∃ σ' H', Inv X pins σ' H' s' ∧ D.bk σ' H'
  | .cont => ∃ σ' H', Inv X pins σ' H' s' ∧ D.ct σ' H'
  | .ret u => ∃ v σ' H', Inv X pins σ' H' s' ∧ RelV v u ∧ D.rt v H'

def PE (X : Cx) (e : Expr) (t : TE) : Prop :=
  ∀ (pins : List (Addr × Obj)) (s : Shared) (σ : St) (H : Hp) (Q : VK), Inv X pins σ H s → t σ H Q → wpAny (model X.prog X.w) X.A (eval e X.env) (EP X pins σ Q) X.xe s
def PT (X : Cx) (e : Expr) (t : TT) : Prop :=
  ∀ (pins : List (Addr × Obj)) (s : Shared) (σ : St) (H : Hp) (Q : Bool → Hp → Prop), Inv X pins σ H s → t σ H Q → wpAny (model X.prog X.w) X.A (isTrue e X.env (eval e X.env)) (TP X pins σ Q) X.xe s
/-- a test whatever its 'whole' is (and, or) -/
def PW (X : Cx) (e : Expr) (t : TT) : Prop :=
  ∀ (whole : Sem Value) (pins : List (Addr × Obj)) (s : Shared) (σ : St) (H : Hp) (Q : Bool → Hp → Prop), Inv X pins σ H s → t σ H Q → wpAny (model X.prog X.w) X.A (isTrue e X.env whole) (TP X pins σ Q) X.xe s
theorem PW.pt {X : Cx} {e : Expr} {t : TT} (h : PW X e t) : PT X e t := h _
/-- an argument list (no star), from the left -/
def PA (X : Cx) (es : List Expr) (t : TA) : Prop :=
  ∀ (pos : Pos) (pins : List (Addr × Obj)) (s : Shared) (σ : St) (H : Hp) (Q : List V → Hp → Prop), Inv X pins σ H s → t σ H Q → wpAny (model X.prog X.w) X.A (spliced (backTo pos (starEach es X.env))) (AP X pins σ Q) X.xe s
def PS (X : Cx) (st : Stmt) (t : TS) : Prop :=
  ∀ (pins : List (Addr × Obj)) (s : Shared) (σ : St) (H : Hp) (D : Ends), Inv X pins σ H s → t D σ H → wpAny (model X.prog X.w) X.A (exec st X.env) (SP X pins D) X.xe s
def PSs (X : Cx) (st : List Stmt) (t : TS) : Prop :=
  ∀ (pins : List (Addr × Obj)) (s : Shared) (σ : St) (H : Hp) (D : Ends), Inv X pins σ H s → t D σ H → wpAny (model X.prog X.w) X.A (execs st X.env) (SP X pins D) X.xe s
/-- weaken the end -/
theorem thn {α : Type} {t : Sem α} {Q Q' : α → Shared → Prop} {M : Model} {A : Around} {E : Value → Shared → Prop} {s : Shared} (h : wpAny M A t Q E s) (hQ : ∀ a s, Q a s → Q' a s) : wpAny M A t Q' E s := wpAny_mono h hQ fun _ _ x => x
end L2

namespace L2
open PySem PySem.Spec PyProof.Rows
section
variable {X : Cx}

/-! ### names and constants -/
def tVar (i : Nat) : TE := fun σ H Q => ∃ v, σ[i]? = some (some v) ∧ Q v H
def tC (v : V) : TE := fun _ H Q => Q v H
theorem pe_var {i : Nat} {x : Str} {pos : Pos} (hN : X.N[i]? = some x) (hv : Vis X.env.scope x) (hd : (x == ("__debug__" : Str)) = false := by decide) (hcd : (x == ("__classdict__" : Str)) = false := by decide) : PE X (.Name x pos) (tVar i) := by
  intro pins s σ H Q I h
  obtain ⟨v, e, h⟩ := h
  obtain ⟨m, hn, hl⟩ := I.loc
  obtain ⟨u, r, l⟩ := hl i x v hN e hv
  have fin : EP X pins σ Q u s := ⟨v, H, I, r, h⟩
  rcases l with ⟨hk, hm⟩ | ⟨hk, c, hc, hcell⟩
  · exact wpAny_Name (wpAny_loadName_local I.ok.kind hk hn hm fin) hd
  · rcases hk with hk | hk
    · exact wpAny_Name (wpAny_loadName_cell I.ok.kind hk hc hcell fin) hd
    · exact wpAny_Name (wpAny_loadName_free I.ok.kind hk hc hcell fin hcd) hd
theorem pe_int {i j pos} : PE X (.Constant (.int i) j pos) (tC (.int i)) := fun _ _ _ H _ I h => wpAny_Constant_int ⟨.int i, H, I.tok _, ⟨_, rfl⟩, h⟩
theorem pe_bl {b j pos} : PE X (.Constant (.bool b) j pos) (tC (.bl b)) := fun _ _ _ H _ I h => Constant_bool ⟨.bl b, H, I, rfl, h⟩
/-- a global name of the def -/
def Gl (X : Cx) (x : Str) : Prop := X.env.kindOf x = some .globalImplicit
theorem ld_glob {E : Value → Shared → Prop} {pins : List (Addr × Obj)} {s : Shared} {σ : St} {H : Hp} {x : Str} {u : Value} {pos : Pos} {Q : Value → Shared → Prop} (I : Inv X pins σ H s) (hg : Gl X x) (hm : X.mg x = some u) (h : Q u s)
    (hd : (x == ("__debug__" : Str)) = false := by decide) : wpAny (model X.prog X.w) X.A (eval (.Name x pos) X.env) Q E s :=
  Calls.Name_function_global I.ok.kind hg (Calls.loadGlobal_global (by rw [I.ok.glob]; exact I.mod.glob.keeps I.bk) hm h) hd
theorem ld_blt {E : Value → Shared → Prop} {pins : List (Addr × Obj)} {s : Shared} {σ : St} {H : Hp} {x : Str} {u : Value} {pos : Pos} {Q : Value → Shared → Prop} (I : Inv X pins σ H s) (hg : Gl X x) (hm : X.mg x = none) (hv : bootBuiltins x = some u) (h : Q u s)
    (hn : x ≠ "__name__" := by decide) (hd : (x == ("__debug__" : Str)) = false := by decide) : wpAny (model X.prog X.w) X.A (eval (.Name x pos) X.env) Q E s := by
  obtain ⟨mb, h1, h2⟩ := I.mod.blt
  exact Calls.Name_function_global I.ok.kind hg (Calls.loadGlobal_builtin (by rw [I.ok.glob]; exact I.mod.glob.keeps I.bk) hm (by rw [I.ok.blt]; exact h1.keeps I.bk) ((h2 x hn).trans hv) h) hd
/-- a module's constant, a class, a function, as a value -/
theorem pe_glob {x : Str} {v : V} {u : Value} {pos : Pos} (hg : Gl X x) (hm : X.mg x = some u) (r : RelV v u) (hd : (x == ("__debug__" : Str)) = false := by decide) : PE X (.Name x pos) (tC v) :=
  fun _ _ _ H _ I h => ld_glob I hg hm ⟨v, H, I, r, h⟩ hd
/-! ### arithmetic -/
variable {a b : Expr} {ta tb : TE} {pos : Pos}
/-! ### comparisons -/
/-- a comparison as a value, as a test -/
def tB (t : TE) : TT := fun σ H Q => t σ H fun x H1 => ∃ c, x = .bl c ∧ Q c H1
/-- an expression whose value is a bool, as a test -/
theorem pt_val {e : Expr} {t : TE} (h : PE X e t) (he : ∀ whole, isTrue e X.env whole = (do let v ← whole; standAt e.pos; holding [v] (truthy v)) := by intro _; rfl) : PT X e (tB t) := by
  intro pins s σ H Q I hw
  refine isTrue_plain (thn (h pins s σ H _ I hw) fun v s1 ⟨x, H1, I1, r1, q1⟩ => ?_) (he _)
  obtain ⟨d, rfl, q⟩ := q1
  cases r1
  exact wpAny_truthy_bool ⟨H1, I1, q⟩

/-! ### and, or, not -/
variable {tA tB' : TT} {rest : List Expr}
def tAnd (t u : TT) : TT := fun σ H Q => t σ H fun c H1 => if c = true then u σ H1 Q else Q false H1
def tOr (t u : TT) : TT := fun σ H Q => t σ H fun c H1 => if c = true then Q true H1 else u σ H1 Q
def tNot (t : TT) : TT := fun σ H Q => t σ H fun c H1 => Q (!c) H1
theorem pw_and1 (ha : PT X a tA) : PW X (.BoolOp .And [a] pos) tA := by
  intro wh pins s σ H Q I h
  refine isTrue_and (thn (ha pins s σ H Q I h) fun c s1 e => ?_)
  cases c with
  | true => exact isTrue_and_nil e
  | false => exact e
theorem pw_or1 (ha : PT X a tA) : PW X (.BoolOp .Or [a] pos) tA := by
  intro wh pins s σ H Q I h
  refine isTrue_or (thn (ha pins s σ H Q I h) fun c s1 e => ?_)
  cases c with
  | false => exact isTrue_or_nil e
  | true => exact e
theorem pw_and (ha : PT X a tA) (hb : PW X (.BoolOp .And (b :: rest) pos) tB') : PW X (.BoolOp .And (a :: b :: rest) pos) (tAnd tA tB') := by
  intro wh pins s σ H Q I h
  refine isTrue_and (thn (ha pins s σ H _ I h) fun c s1 ⟨H1, I1, q1⟩ => ?_)
  cases c with
  | true => exact hb wh pins s1 σ H1 Q I1 q1
  | false => exact ⟨H1, I1, q1⟩
theorem pw_or (ha : PT X a tA) (hb : PW X (.BoolOp .Or (b :: rest) pos) tB') : PW X (.BoolOp .Or (a :: b :: rest) pos) (tOr tA tB') := by
  intro wh pins s σ H Q I h
  refine isTrue_or (thn (ha pins s σ H _ I h) fun c s1 ⟨H1, I1, q1⟩ => ?_)
  cases c with
  | true => exact ⟨H1, I1, q1⟩
  | false => exact hb wh pins s1 σ H1 Q I1 q1
theorem pt_not (ha : PT X a tA) : PT X (.UnaryOp .Not a pos) (tNot tA) := by
  intro pins s σ H Q I h
  exact isTrue_not (ha pins s σ H (fun c H1 => Q (!c) H1) I h)
/-- .. as values (bools) -/
def tAndV (ta tb : TE) : TE := fun σ H Q => ta σ H fun x H1 => ∃ c, x = .bl c ∧ if c = true then tb σ H1 Q else Q (.bl false) H1
def tNotV (ta : TE) : TE := fun σ H Q => ta σ H fun x H1 => ∃ c, x = .bl c ∧ Q (.bl (!c)) H1
theorem pe_one {op} {t : TE} (h : PE X a t) : PE X (.BoolOp op [a] pos) t := fun pins s σ H Q I hw => BoolOp_one (h pins s σ H Q I hw)
theorem pe_and (ha : PE X a ta) (hb : PE X (.BoolOp .And (b :: rest) pos) tb) : PE X (.BoolOp .And (a :: b :: rest) pos) (tAndV ta tb) := by
  intro pins s σ H Q I h
  refine BoolOp_and (thn (ha pins s σ H _ I h) fun v s1 ⟨x, H1, I1, r1, q1⟩ => ?_)
  obtain ⟨c, rfl, q1⟩ := q1
  cases r1
  refine wpAny_truthy_bool ?_
  cases c with
  | true => exact hb pins s1 σ H1 Q I1 q1
  | false => exact ⟨.bl false, H1, I1, rfl, q1⟩
theorem pe_not (ha : PE X a ta) : PE X (.UnaryOp .Not a pos) (tNotV ta) := by
  intro pins s σ H Q I h
  refine UnaryOp_ (thn (ha pins s σ H _ I h) fun v s1 ⟨x, H1, I1, r1, q1⟩ => ?_)
  obtain ⟨c, rfl, q1⟩ := q1
  cases r1
  exact not_of (wpAny_truthy_bool ⟨.bl (!c), H1, I1, rfl, q1⟩)
end
end L2

namespace L2
open PySem PySem.Spec PyProof.Rows

/-! ### a list, a tuple that is read: tracked, frozen, or an object of the module -/
def SqL (K : PySem.W.Frag) (H : Hp) (a : Addr) (xs : List V) : Prop :=
  Rd H a (.lst xs) ∨
    ∃ (o : Obj) (its : Array Value) (n : Nat), K.lookup a = some o ∧ o.cls = .type "list" ∧ o.dict = none ∧ o.data = .seq its n ∧ its.size ≤ sizeLine ∧ Vals xs its.toList
def SqT (K : PySem.W.Frag) (H : Hp) (a : Addr) (xs : List V) : Prop :=
  Rd H a (.tup xs) ∨
    ∃ (o : Obj) (its : Array Value) (n : Nat), K.lookup a = some o ∧ o.cls = .type "tuple" ∧ o.data = .seq its n ∧ its.size ≤ sizeLine ∧ Vals xs its.toList
def absV : Value → Option V
  | .none => some .non
  | .bool b => some (.bl b)
  | .int i _ => some (.int i)
  | .str x _ => some (.str x)
  | .bytes b _ => some (.byt b)
  | .float b _ => some (.flt b)
  | .ref a => some (.ref a)
  | .type n => some (.ty n)
  | _ => none
theorem RelV.abs {x : V} {u : Value} (r : RelV x u) : absV u = some x := by
  cases x with
  | non => cases r; rfl
  | bl _ => cases r; rfl
  | int _ => obtain ⟨t, rfl⟩ := r; rfl
  | str _ => obtain ⟨t, rfl⟩ := r; rfl
  | byt _ => obtain ⟨t, rfl⟩ := r; rfl
  | flt _ => obtain ⟨t, rfl⟩ := r; rfl
  | ref _ => cases r; rfl
  | ty _ => cases r; rfl
theorem RelV.inj {x y : V} {u : Value} (r : RelV x u) (q : RelV y u) : x = y := Option.some.inj (r.abs.symm.trans q.abs)
theorem Vals.inj : ∀ {xs ys : List V} {us : List Value}, Vals xs us → Vals ys us → xs = ys
  | _, _, _, .nil, .nil => rfl
  | _, _, _, .cons r t, .cons r' t' => by rw [r.inj r', Vals.inj t t']
section
variable {X : Cx} {pins : List (Addr × Obj)} {σ : St} {H : Hp} {s : Shared} {a : Addr} {xs ys : List V}
theorem SqL.of {K : PySem.W.Frag} (h : H a = some (.lst xs)) : SqL K H a xs := .inl (.inl h)
theorem SqT.of {K : PySem.W.Frag} (h : H a = some (.tup xs)) : SqT K H a xs := .inl (.inl h)
theorem Inv.list (I : Inv X pins σ H s) (h : SqL X.K H a xs) : ∃ its : List Value, Vals xs its ∧ PlainL s.heap a its.toArray ∧ xs.length ≤ sizeLine := by
  rcases h with h | ⟨o, its, n, hk, hc, hd, hs, hz, r⟩
  · obtain ⟨z, its, n, r, e⟩ := h.ok I.hok
    exact ⟨its, r, ⟨_, n, e, rfl, rfl, rfl⟩, z⟩
  · refine ⟨its.toList, r, ⟨o, n, I.kIn a o hk, hc, hd, by simpa using hs⟩, ?_⟩
    have e := r.length
    simp only [Array.length_toList] at e
    omega
theorem Inv.tuple (I : Inv X pins σ H s) (h : SqT X.K H a xs) : ∃ its : List Value, Vals xs its ∧ IsTup s.heap a its.toArray ∧ xs.length ≤ sizeLine := by
  rcases h with h | ⟨o, its, n, hk, hc, hs, hz, r⟩
  · obtain ⟨z, its, r, p⟩ := h.ok I.hok
    exact ⟨its, r, p, z⟩
  · refine ⟨its.toList, r, ⟨o, I.kIn a o hk, hc, n, by simpa using hs⟩, ?_⟩
    have e := r.length
    simp only [Array.length_toList] at e
    omega
theorem Inv.list_inj (I : Inv X pins σ H s) (h : SqL X.K H a xs) (h' : SqL X.K H a ys) : xs = ys := by
  obtain ⟨its, r, ⟨o, n, e, _, _, d⟩, _⟩ := I.list h
  obtain ⟨its', r', ⟨o', n', e', _, _, d'⟩, _⟩ := I.list h'
  rw [e] at e'; cases e'
  rw [d] at d'
  injection d' with d1 _
  have : its = its' := by simpa using congrArg Array.toList d1
  subst this
  exact r.inj r'
theorem Inv.tuple_inj (I : Inv X pins σ H s) (h : SqT X.K H a xs) (h' : SqT X.K H a ys) : xs = ys := by
  obtain ⟨its, r, ⟨o, e, _, n, d⟩, _⟩ := I.tuple h
  obtain ⟨its', r', ⟨o', e', _, n', d'⟩, _⟩ := I.tuple h'
  rw [e] at e'; cases e'
  rw [d] at d'
  injection d' with d1 _
  have : its = its' := by simpa using congrArg Array.toList d1
  subst this
  exact r.inj r'
end

/-! ### another wish about exceptions -/
abbrev Cx.wish (X : Cx) (E : Value → Shared → Prop) : Cx := { X with xe := E }
/-- no exception leaves -/
abbrev Cx.nox (X : Cx) : Cx := X.wish fun _ _ => False
theorem Cx.Ok.wish {X : Cx} (ok : X.Ok) (E : Value → Shared → Prop) : (X.wish E).Ok :=
  ⟨ok.mod, ok.kind, ok.glob, ok.blt, ok.above, ok.inj, ok.has, ok.cab, ok.hd, ok.frames, ok.stk, ok.exf, ok.bs, ok.bsz, ok.noex, ok.exfs, ok.funs, ok.frf⟩
theorem Cx.Ok.unwish {X : Cx} {E : Value → Shared → Prop} (ok : (X.wish E).Ok) : X.Ok :=
  ⟨ok.mod, ok.kind, ok.glob, ok.blt, ok.above, ok.inj, ok.has, ok.cab, ok.hd, ok.frames, ok.stk, ok.exf, ok.bs, ok.bsz, ok.noex, ok.exfs, ok.funs, ok.frf⟩
section
variable {X : Cx} {pins : List (Addr × Obj)} {σ : St} {H : Hp} {s : Shared} {E : Value → Shared → Prop}
theorem Inv.wish (I : Inv X pins σ H s) (E : Value → Shared → Prop) : Inv (X.wish E) pins σ H s := ⟨I.ok.wish E, I.os, I.bare, I.base, I.loc, I.cell, I.free, I.freeC, I.pin, I.hok, I.len⟩
theorem Inv.unwish (I : Inv (X.wish E) pins σ H s) : Inv X pins σ H s := ⟨I.ok.unwish, I.os, I.bare, I.base, I.loc, I.cell, I.free, I.freeC, I.pin, I.hok, I.len⟩
theorem SP.unwish {D : Ends} {f : Flow} {s' : Shared} (h : SP (X.wish E) pins D f s') : SP X pins D f s' := by
  cases f with
  | next => obtain ⟨σ', H', I, q⟩ := h; exact ⟨σ', H', I.unwish, q⟩
  | brk => obtain ⟨σ', H', I, q⟩ := h; exact ⟨σ', H', I.unwish, q⟩
  | cont => obtain ⟨σ', H', I, q⟩ := h; exact ⟨σ', H', I.unwish, q⟩
  | ret u => obtain ⟨v, σ', H', I, r, q⟩ := h; exact ⟨v, σ', H', I.unwish, r, q⟩
theorem PE.nox {e : Expr} {t : TE} (h : PE X.nox e t) : PE X e t := fun pins s σ H Q I hw =>
  wpAny_mono (h pins s σ H Q (I.wish _) hw) (fun _ _ ⟨v, H', I', r, q⟩ => ⟨v, H', I'.unwish, r, q⟩) fun _ _ z => False.elim z
theorem PT.nox {e : Expr} {t : TT} (h : PT X.nox e t) : PT X e t := fun pins s σ H Q I hw =>
  wpAny_mono (h pins s σ H Q (I.wish _) hw) (fun _ _ ⟨H', I', q⟩ => ⟨H', I'.unwish, q⟩) fun _ _ z => False.elim z
theorem PSs.nox {st : List Stmt} {t : TS} (h : PSs X.nox st t) : PSs X st t := fun pins s σ H D I hw =>
  wpAny_mono (h pins s σ H D (I.wish _) hw) (fun _ _ q => q.unwish) fun _ _ z => False.elim z
end

/-! ### blocks and small statements -/
section
variable {X : Cx} {st : Stmt} {rest : List Stmt} {t u : TS} {e : Expr} {te : TE} {pos : Pos}
def tNext : TS := fun D σ H => D.nx σ H
def tSeq (t u : TS) : TS := fun D σ H => t { D with nx := u D } σ H
theorem pss_nil : PSs X [] tNext := fun _ _ σ H _ I h => wpAny_execs_nil ⟨σ, H, I, h⟩
theorem pss_cons (h1 : PS X st t) (h2 : PSs X rest u) : PSs X (st :: rest) (tSeq t u) := by
  intro pins s σ H D I h
  refine wpAny_execs_cons (thn (h1 pins s σ H { D with nx := u D } I h) fun f s1 q => ?_)
  cases f with
  | next =>
    obtain ⟨σ', H', I', q⟩ := q
    exact h2 pins s1 σ' H' D I' q
  | ret v => exact q
  | brk => exact q
  | cont => exact q
theorem pss_one (h1 : PS X st t) : PSs X [st] t := by
  intro pins s σ H D I h
  refine wpAny_execs_cons (thn (h1 pins s σ H D I h) fun f s1 q => ?_)
  cases f with
  | next => exact wpAny_execs_nil q
  | ret v => exact q
  | brk => exact q
  | cont => exact q
/-- in a def's body nothing is shown -/
theorem Inv.quiet {pins : List (Addr × Obj)} {σ : St} {H : Hp} {s : Shared} (I : Inv X pins σ H s) : interactive X.env = false := by simp [interactive, I.ok.kind]
/-- an expression whose value is dropped -/
def tDrop (te : TE) : TS := fun D σ H => te σ H fun _ H1 => D.nx σ H1
theorem ps_expr (he : PE X e te) (hs : swapsWith e none pos.line X.env = pure false := by rfl) : PS X (.Expr e pos) (tDrop te) := by
  intro pins s σ H D I h
  exact wpAny_Expr_any (thn (he pins s σ H _ I h) fun v s1 ⟨x, H1, I1, r1, q1⟩ => ⟨σ, H1, I1, q1⟩) I.quiet hs
def tRet (te : TE) : TS := fun D σ H => te σ H D.rt
theorem ps_ret (he : PE X e te) : PS X (.Return (some e) pos) (tRet te) := by
  intro pins s σ H D I h
  exact wpAny_Return_some (thn (he pins s σ H _ I h) fun v s1 ⟨x, H1, I1, r1, q1⟩ => ⟨x, σ, H1, I1, r1, q1⟩)
def tIfS (c : TT) (t u : TS) : TS := fun D σ H => c σ H fun b H1 => if b = true then t D σ H1 else u D σ H1
theorem ps_if {c : Expr} {a b : List Stmt} {tc : TT} (hc : PT X c tc) (ha : PSs X a t) (hb : PSs X b u) : PS X (.If c a b pos) (tIfS tc t u) := by
  intro pins s σ H D I h
  refine wpAny_If (thn (hc pins s σ H _ I h) fun d s1 ⟨H1, I1, q1⟩ => ?_)
  cases d with
  | true => exact ha pins s1 σ H1 D I1 q1
  | false => exact hb pins s1 σ H1 D I1 q1
end

/-! ### targets -/
abbrev TG := V → St → Hp → (St → Hp → Prop) → Prop
abbrev TGs := List V → St → Hp → (St → Hp → Prop) → Prop
def PG (X : Cx) (target : Expr) (t : TG) : Prop :=
  ∀ (pins : List (Addr × Obj)) (s : Shared) (σ : St) (H : Hp) (v : V) (u : Value) (Q : St → Hp → Prop), Inv X pins σ H s → RelV v u → t v σ H Q →
    wpAny (model X.prog X.w) X.A (assign target X.env u) (fun _ s' => ∃ σ' H', Inv X pins σ' H' s' ∧ Q σ' H') X.xe s
/-- several targets, one after another -/
def PGs (X : Cx) (ts : List Expr) (t : TGs) : Prop :=
  ∀ (pins : List (Addr × Obj)) (s : Shared) (σ : St) (H : Hp) (vs : List V) (us : List Value) (Q : St → Hp → Prop), Inv X pins σ H s → Vals vs us → t vs σ H Q →
    wpAny (model X.prog X.w) X.A (assignInOrder ((assignEach ts X.env).map (·.2)) us) (fun _ s' => ∃ σ' H', Inv X pins σ' H' s' ∧ Q σ' H') X.xe s
section
variable {X : Cx} {pos : Pos}
def gName (i : Nat) : TG := fun v σ H Q => Q (σ.set i (some v)) H
theorem pg_name {i : Nat} {x : Str} (hN : X.N.Nodup) (hi : X.N[i]? = some x) (hx : Loc X.env.scope x) (hf : X.fn x = true ∨ X.env.scope.names.lookup x = some .local := by first | exact .inl rfl | exact .inr rfl | assumption) : PG X (.Name x pos) (gName i) := by
  intro pins s σ H v u Q I r h
  exact wpAny_assign_Name (store_ok I hN hi hx r (fun s' I' => ⟨_, H, I', h⟩) hf)
def gNil : TGs := fun vs σ H Q => vs = [] ∧ Q σ H
def gCons (t : TG) (u : TGs) : TGs := fun vs σ H Q => ∃ v r, vs = v :: r ∧ t v σ H fun σ' H' => u r σ' H' Q
theorem pgs_nil : PGs X [] gNil := by
  intro pins s σ H vs us Q I r h
  obtain ⟨e, h⟩ := h
  subst e
  cases r
  exact assignInOrder_nil ⟨σ, H, I, h⟩
theorem pgs_cons {e : Expr} {es : List Expr} {t : TG} {u : TGs} (h1 : PG X e t) (h2 : PGs X es u)
    (hs : (assignEach (e :: es) X.env).map (·.2) = assign e X.env :: (assignEach es X.env).map (·.2) := by rfl) : PGs X (e :: es) (gCons t u) := by
  intro pins s σ H vs us Q I r h
  obtain ⟨v, vr, e1, h⟩ := h
  subst e1
  cases r with
  | cons r rr =>
    rw [hs]
    refine assignInOrder_cons (thn (h1 pins s σ H _ _ _ I r h) fun _ s1 ⟨σ1, H1, I1, q1⟩ => ?_)
    exact h2 pins s1 σ1 H1 _ _ Q I1 rr q1
/-- (a, b, ..) = a tuple of that length -/
def gTup (K : PySem.W.Frag) (n : Nat) (t : TGs) : TG := fun v σ H Q => ∃ a xs, v = .ref a ∧ SqT K H a xs ∧ xs.length = n ∧ t xs σ H Q
theorem pg_tup {es : List Expr} {k : Nat} {t : TGs} {n : Nat} (hc : X.calm = true) (h : PGs X es t)
    (hn : (assignEach es X.env).length = n := by rfl) (hst : (assignEach es X.env).findIdx? (·.1) = none := by rfl) : PG X (.Tuple es k pos) (gTup X.K n t) := by
  intro pins s σ H v u Q I r hw
  obtain ⟨a, xs, e1, hq, hl, hw⟩ := hw
  subst e1
  cases r
  obtain ⟨its, rv, ht, hz⟩ := I.tuple hq
  refine assign_Tuple_tuple (I.ok.hd hc) ht (by simp [hn, ← hl, rv.length]) hst fun h' hx => ?_
  have I1 : Inv X pins σ H { s with heap := h' } := I.kept (t' := s.toks) fun b o e => hx b o (Nat.ne_of_lt (Heap.lt_size e)) e
  exact h pins _ σ H xs _ Q I1 (by simpa using rv) hw
/-- target = value -/
def tAsg (te : TE) (g : TG) : TS := fun D σ H => te σ H fun x H1 => g x σ H1 D.nx
theorem ps_asg {tg e : Expr} {te : TE} {g : TG} (he : PE X e te) (hg : PG X tg g) (hs : swapsWithSole [tg] e pos.line X.env = pure false := by rfl) (hw : swappedStores [tg] e X.env = pure none := by rfl)
    (h1 : (assignEach [tg] X.env).map (·.2) = [assign tg X.env] := by rfl) : PS X (.Assign [tg] e pos) (tAsg te g) := by
  intro pins s σ H D I h
  refine wpAny_Assign_stores (thn (he pins s σ H _ I h) fun v s1 ⟨x, H1, I1, r1, q1⟩ => ?_) hs hw
  rw [h1]
  exact thn (hg pins s1 σ H1 x v _ I1 r1 q1) fun _ s2 q => q
/-- name = value -/
theorem ps_set {i : Nat} {x : Str} {e : Expr} {te : TE} {pos' : Pos} (hN : X.N.Nodup) (hi : X.N[i]? = some x) (hx : Loc X.env.scope x) (he : PE X e te) (hs : swapsWith e (some (.Name x pos')) pos.line X.env = pure false := by rfl) (hf : X.fn x = true ∨ X.env.scope.names.lookup x = some .local := by first | exact .inl rfl | exact .inr rfl | assumption) :
    PS X (.Assign [.Name x pos'] e pos) (tAsg te (gName i)) := by
  intro pins s σ H D I h
  refine wpAny_Assign_Name (thn (he pins s σ H _ I h) fun v s1 ⟨y, H1, I1, r1, q1⟩ => ?_) hs
  exact store_ok I1 hN hi hx r1 (fun s2 I2 => ⟨_, H1, I2, q1⟩) hf
/-- a, b = x, y with plain local names: stored from the right; the pair itself is not tracked (the opening rows as in PyProof/Rows/TupAssign.lean:23) -/
def tPar (i j : Nat) (ta : TA) : TS := fun D σ H => ta σ H fun vs H1 => ∃ v w, vs = [v, w] ∧ D.nx ((σ.set i (some v)).set j (some w)) H1
theorem ps_par {i j : Nat} {x y : Str} {a b : Expr} {ta : TA} {px py pt : Pos} {kt k2 pt2} (hc : X.calm = true) (hN : X.N.Nodup) (hi : X.N[i]? = some x) (hj : X.N[j]? = some y) (hij : i ≠ j)
    (hx : X.env.scope.names.lookup x = some .local) (hy : X.env.scope.names.lookup y = some .local) (ha : PA X [a, b] ta)
    (hw : swappedStores [.Tuple [.Name x px, .Name y py] kt pt] (.Tuple [a, b] k2 pt2) X.env = pure (some [x, y]))
    (hs : swapsWithSole [.Tuple [.Name x px, .Name y py] kt pt] (.Tuple [a, b] k2 pt2) pos.line X.env = pure false := by rfl) :
    PS X (.Assign [.Tuple [.Name x px, .Name y py] kt pt] (.Tuple [a, b] k2 pt2) pos) (tPar i j ta) := by
  intro pins s σ H D I h
  rw [exec_Assign_arm]
  refine wpAny_bind (wpAny_standAt ?_)
  rw [hs]
  refine wpAny_bind (wpAny_pure ?_)
  rw [if_neg (by decide)]
  refine wpAny_bind (Tuple_ (thn (ha _ pins s σ H _ I h) fun us s1 ⟨vs, H1, I1, r1, q1⟩ => ?_))
  obtain ⟨v, w, e1, q1⟩ := q1
  subst e1
  obtain ⟨u1, u2, rfl, rv, rw'⟩ : ∃ u1 u2, us = [u1, u2] ∧ RelV v u1 ∧ RelV w u2 := by
    cases r1 with
    | cons p q =>
      cases q with
      | cons p' q' =>
        cases q'
        exact ⟨_, _, rfl, p, p'⟩
  refine wpAny_newObj_type ?_ (by show 2 ≤ sizeLine; decide)
  have I2 : Inv X pins σ H1 { s1 with heap := s1.heap.push { cls := .type "tuple", data := .seq [u1, u2].toArray } } := I1.kept (t' := s1.toks) fun b o e => Heap.get?_push_of_some _ e
  rw [hw]
  refine wpAny_bind (wpAny_pure ?_)
  show wpAny (model X.prog X.w) X.A (do rule "assign.swapped-stores"; let items ← unpackItems (.ref s1.heap.objs.size) 2 none; assignInOrder [fun v => bindName X.env y v, fun v => bindName X.env x v] items.reverse; pure Flow.next) _ _ _
  refine wpAny_bind (wpAny_rule (wpAny_bind (unpackItems_tuple (items := #[u1, u2]) (I.ok.hd hc) (IsTup.new s1.heap _) fun h' hx' => ?_)))
  have I3 := I2.kept (h' := h') (t' := s1.toks) fun b o e => hx' b o (Nat.ne_of_lt (Heap.lt_size e)) e
  show wpAny _ _ (assignInOrder [fun v => bindName X.env y v, fun v => bindName X.env x v] [u2, u1] >>= fun _ => pure Flow.next) _ _ _
  refine wpAny_bind (assignInOrder_cons (wpAny_bindName (store_ok I3 hN hj (.inl hy) rw' (fun s2 I4 => ?_) (.inr hy))))
  refine assignInOrder_cons (wpAny_bindName (store_ok I4 hN hi (.inl hx) rv (fun s3 I5 => assignInOrder_nil (wpAny_pure ?_)) (.inr hx)))
  rw [List.set_comm _ _ (Ne.symm hij)] at I5
  exact ⟨_, H1, I5, q1⟩
end

/-! ### while -/
section
variable {X : Cx} {pos : Pos}
/-- the invariant W with its measure -/
def tWhile (c : TT) (tb : TS) : TS := fun D σ H => ∃ W : Nat → St → Hp → Prop, (∃ m, W m σ H) ∧ ∀ m σ H, W m σ H →
  c σ H fun b H1 => if b = true then ∃ N : St → Hp → Prop, (∀ σ' H', N σ' H' → ∃ m', m' < m ∧ W m' σ' H') ∧ tb { D with nx := N, ct := N, bk := D.nx } σ H1 else D.nx σ H1
theorem ps_while {c : Expr} {body : List Stmt} {tc : TT} {tb : TS} (hp : PassesOwn (model X.prog X.w) X.A X.env X.xe) (hc : PT X c tc) (hb : PSs X body tb) : PS X (.While c body [] pos) (tWhile tc tb) := by
  intro pins s σ H D I h
  obtain ⟨W, ⟨m0, w0⟩, turn⟩ := h
  refine wpAny_While (codeAny_whileLoop (fun n s' => ∃ σ' H', Inv X pins σ' H' s' ∧ W n σ' H') ?_ m0 ⟨σ, H, I, w0⟩)
  rintro n s1 ⟨σ1, H1, I1, w1⟩
  refine wpAny_passesOwn hp (thn (hc pins s1 σ1 H1 _ I1 (turn n σ1 H1 w1)) fun b s2 ⟨H2, I2, q2⟩ => ?_)
  cases b with
  | true =>
    obtain ⟨N, hN, q2⟩ := q2
    rw [if_pos rfl]
    refine wpAny_passesOwn hp (thn (hb pins s2 σ1 H2 _ I2 q2) fun f s3 q3 => ?_)
    cases f with
    | next =>
      obtain ⟨σ3, H3, I3, n3⟩ := q3
      obtain ⟨m', hm, w3⟩ := hN σ3 H3 n3
      exact ⟨m', hm, σ3, H3, I3, w3⟩
    | cont =>
      obtain ⟨σ3, H3, I3, n3⟩ := q3
      obtain ⟨m', hm, w3⟩ := hN σ3 H3 n3
      exact ⟨m', hm, σ3, H3, I3, w3⟩
    | brk => exact q3
    | ret v => exact q3
  | false =>
    rw [if_neg Bool.false_ne_true]
    exact wpAny_execs_nil ⟨σ1, H2, I2, q2⟩
end

/-! ### what a loop or a comprehension walks -/
/-- at turn i: it yields x (the heap may grow), or it stops -/
structure It where
  go : Nat → Hp → Prop
  yld : Nat → Hp → V → Hp → Prop
  stop : Nat → Hp → Prop
/-- the iterator's own objects may turn: they are not the frame's, not pinned, younger than the entry (or a comprehension's own) -/
def FpOk (X : Cx) (pins : List (Addr × Obj)) (H : Hp) (b : Addr) : Prop :=
  H b = none ∧ b ≠ X.env.locals ∧ b ∉ X.fs ∧ (b ∈ X.ex ∨ X.s₀.heap.objs.size ≤ b) ∧ (∀ x c, X.env.cells.lookup x = some c → c ≠ b) ∧ ∀ p ∈ X.pn ++ pins, p.1 ≠ b
theorem Inv.fpOk {X : Cx} {pins : List (Addr × Obj)} {σ : St} {H H' : Hp} {s : Shared} {b : Addr} (I : Inv X pins σ H s) (hb : s.heap.objs.size ≤ b) (hn : H' b = none) : FpOk X pins H' b := by
  refine ⟨hn, Nat.ne_of_gt (Nat.lt_of_lt_of_le I.lt hb), I.nofs hb, .inr (Nat.le_trans I.sz hb), fun x c e z => ?_, fun p hp z => ?_⟩
  · obtain ⟨v, q⟩ := I.cell x c e
    exact absurd (Nat.lt_of_lt_of_le q.lt (by rw [z]; exact hb)) (Nat.lt_irrefl _)
  · exact absurd (Nat.lt_of_lt_of_le (Heap.lt_size (I.pin p hp).1) (by rw [z]; exact hb)) (Nat.lt_irrefl _)
structure Turn (P : Program) (w : World) (K : PySem.W.Frag) (tg : Expr) (J : It) (fp : List Addr) (it : Addr) (tn : Nat → Heap → Prop) : Prop where
  mem : it ∈ fp
  obj : ∀ i h, tn i h → ∀ b ∈ fp, ∃ o, h.get? b = some o ∧ ∀ v, o.data ≠ .cell v
  keep : ∀ i h h', tn i h → (∀ b ∈ fp, ∀ o, h.get? b = some o → h'.get? b = some o) → tn i h'
  item : ∀ (X : Cx), X.prog = P → X.w = w → X.K = K → X.calm = true → ∀ (i : Nat) (pins : List (Addr × Obj)) (s : Shared) (σ : St) (H : Hp) (E : Value → Shared → Prop), Inv X pins σ H s → (∀ b ∈ fp, FpOk X pins H b) → tn i s.heap → J.go i H →
    wpAny (model P w) X.A (pyNext (.ref it)) (fun r s1 => ∃ u, r = some u ∧
      wpAny (model P w) X.A (letOwnedTupleGo tg (.ref it) u) (fun _ s2 => ∃ x H', Inv X pins σ H' s2 ∧ RelV x u ∧ J.yld i H x H' ∧ tn (i + 1) s2.heap ∧ ∀ b ∈ fp, H' b = none) E s1) E s
  done : ∀ (X : Cx), X.prog = P → X.w = w → X.K = K → X.calm = true → ∀ (i : Nat) (pins : List (Addr × Obj)) (s : Shared) (σ : St) (H : Hp) (E : Value → Shared → Prop), Inv X pins σ H s → (∀ b ∈ fp, FpOk X pins H b) → tn i s.heap → J.stop i H →
    wpAny (model P w) X.A (pyNext (.ref it)) (fun r s1 => r = none ∧ Inv X pins σ H s1) E s
  self : ∀ (A : Around) (i : Nat) (s : Shared) (Q : Value → Shared → Prop) (E : Value → Shared → Prop), tn i s.heap → Q (.ref it) s → wpAny (model P w) A (pyIter (.ref it)) Q E s
abbrev TI := St → Hp → (It → Hp → Prop) → Prop
/-- an iterator has come -/
def PIE (X : Cx) (pins : List (Addr × Obj)) (σ : St) (tg : Expr) (R : It → Hp → Prop) (itv : Value) (s2 : Shared) : Prop :=
  ∃ (it : Addr) (fp : List Addr) (tn : Nat → Heap → Prop) (J : It) (H' : Hp), itv = .ref it ∧ Inv X pins σ H' s2 ∧ Turn X.prog X.w X.K tg J fp it tn ∧ tn 0 s2.heap ∧ (∀ b ∈ fp, FpOk X pins H' b) ∧ R J H'
def PI (X : Cx) (tg iter : Expr) (wi : TI) : Prop :=
  ∀ (pins : List (Addr × Obj)) (s : Shared) (σ : St) (H : Hp) (R : It → Hp → Prop), Inv X pins σ H s → wi σ H R →
    wpAny (model X.prog X.w) X.A (eval iter X.env) (fun v s1 => wpAny (model X.prog X.w) X.A (pyIter v) (PIE X pins σ tg R) X.xe s1) X.xe s

/-- the step ahead of the store is nothing for an iterator that keeps no tuple -/
theorem go_of {M : Model} {A : Around} {E : Value → Shared → Prop} {s : Shared} {tg : Expr} {it : Addr} {u : Value} {o : Obj} {n : String} {vs : Array Value} {Q : Unit → Shared → Prop} (ho : s.heap.get? it = some o) (hc : o.cls = .type n) (hd : o.data = .fields vs)
    (hn : ["enumerate", "zip", "dict_itemiterator", "dict_reverseitemiterator", "odict_iterator", "itertools.zip_longest", "itertools.pairwise"].contains n = false) (hQ : Q () s) : wpAny M A (letOwnedTupleGo tg (.ref it) u) Q E s := by
  unfold letOwnedTupleGo
  cases tg <;> first
    | exact wpAny_pure hQ
    | (cases u <;> first
        | exact wpAny_pure hQ
        | (refine wpAny_bind (wpAny_load ho ?_)
           rw [hc, hd]
           show wpAny M A (if (["enumerate", "zip", "dict_itemiterator", "dict_reverseitemiterator", "odict_iterator", "itertools.zip_longest", "itertools.pairwise"].contains n && vs[0]? == some (rawInt _)) = true then _ else _) Q E s
           rw [if_neg (by intro h; rw [hn, Bool.false_and] at h; cases h)]
           exact wpAny_pure hQ))

/-- the list at a, as it stands at each turn (a loop may append to it) -/
def Itl (K : PySem.W.Frag) (a : Addr) : It :=
  ⟨fun i H => ∃ xs x, SqL K H a xs ∧ xs[i]? = some x, fun i H x H' => H' = H ∧ ∀ xs, SqL K H a xs → xs[i]? = some x, fun i H => ∃ xs, SqL K H a xs ∧ xs.length ≤ i⟩
def Itt (K : PySem.W.Frag) (a : Addr) : It :=
  ⟨fun i H => ∃ xs x, SqT K H a xs ∧ xs[i]? = some x, fun i H x H' => H' = H ∧ ∀ xs, SqT K H a xs → xs[i]? = some x, fun i H => ∃ xs, SqT K H a xs ∧ xs.length ≤ i⟩
/-- lo, lo + 1, .. (n of them) -/
def Itr (lo : Int) (n : Nat) : It := ⟨fun i _ => i < n, fun i H x H' => H' = H ∧ x = .int (lo + i), fun i _ => n ≤ i⟩
theorem turn_list {P : Program} {w : World} {K : PySem.W.Frag} {tg : Expr} (a it : Addr) : Turn P w K tg (Itl K a) [it] it (fun i h => h.IsListIter it a i) where
  mem := by simp
  obj := fun i h st b hb => by
    have e : b = it := by simpa using hb
    subst e
    obtain ⟨o, e, c, d⟩ := st
    exact ⟨o, e, fun v z => by rw [d] at z; cases z⟩
  keep := fun i h h' st k => st.at fun o e => k it (by simp) o e
  item := by
    intro X hP hw hK hc i pins s σ H E I hf st hg
    subst hP hw hK
    obtain ⟨xs, x, hq, hx⟩ := hg
    obtain ⟨its, rv, p, hz⟩ := I.list hq
    obtain ⟨u, hu, ru⟩ := rv.get hx
    obtain ⟨f0, f1, f2, f3, f4, f5⟩ := hf it (by simp)
    refine wpAny_pyNext_list_item st p.isList (x := u) (by simpa using hu) fun h' st' sb => ?_
    have I1 : Inv X pins σ H { s with heap := h' } := I.turned (t' := s.toks) (fun b o hb e => (sb.2 b hb).trans e) f0 f1 f3 f4 f5
    obtain ⟨o, e, c, d⟩ := id st'
    exact ⟨u, rfl, go_of (s := { s with heap := h' }) e c d (by decide) ⟨x, H, I1, ru, ⟨rfl, fun ys hy => by rw [I.list_inj hy hq]; exact hx⟩, st', fun b hb => (hf b hb).1⟩⟩
  done := by
    intro X hP hw hK hc i pins s σ H E I hf st hg
    subst hP hw hK
    obtain ⟨xs, hq, hx⟩ := hg
    obtain ⟨its, rv, p, hz⟩ := I.list hq
    obtain ⟨f0, f1, f2, f3, f4, f5⟩ := hf it (by simp)
    have hl := rv.length
    exact wpAny_pyNext_list_end (I.ok.hd hc) st p.isList (by simp; omega) fun h' eb => ⟨rfl, I.turned (t' := s.toks) (fun b o hb e => eb b o hb e) f0 f1 f3 f4 f5⟩
  self := fun _ _ _ _ _ st h => wpAny_pyIter_listiter st h
theorem turn_tuple {P : Program} {w : World} {K : PySem.W.Frag} {tg : Expr} (a it : Addr) : Turn P w K tg (Itt K a) [it] it (fun i h => h.IsTupleIter it a i) where
  mem := by simp
  obj := fun i h st b hb => by
    have e : b = it := by simpa using hb
    subst e
    obtain ⟨o, e, c, d⟩ := st
    exact ⟨o, e, fun v z => by rw [d] at z; cases z⟩
  keep := fun i h h' st k => st.at fun o e => k it (by simp) o e
  item := by
    intro X hP hw hK hc i pins s σ H E I hf st hg
    subst hP hw hK
    obtain ⟨xs, x, hq, hx⟩ := hg
    obtain ⟨its, rv, p, hz⟩ := I.tuple hq
    obtain ⟨u, hu, ru⟩ := rv.get hx
    obtain ⟨f0, f1, f2, f3, f4, f5⟩ := hf it (by simp)
    refine wpAny_pyNext_tuple_item st (show s.heap.IsTuple a its.toArray from p) (x := u) (by simpa using hu) fun h' st' sb => ?_
    have I1 : Inv X pins σ H { s with heap := h' } := I.turned (t' := s.toks) (fun b o hb e => (sb.2 b hb).trans e) f0 f1 f3 f4 f5
    obtain ⟨o, e, c, d⟩ := id st'
    exact ⟨u, rfl, go_of (s := { s with heap := h' }) e c d (by decide) ⟨x, H, I1, ru, ⟨rfl, fun ys hy => by rw [I.tuple_inj hy hq]; exact hx⟩, st', fun b hb => (hf b hb).1⟩⟩
  done := by
    intro X hP hw hK hc i pins s σ H E I hf st hg
    subst hP hw hK
    obtain ⟨xs, hq, hx⟩ := hg
    obtain ⟨its, rv, p, hz⟩ := I.tuple hq
    obtain ⟨f0, f1, f2, f3, f4, f5⟩ := hf it (by simp)
    have hl := rv.length
    exact wpAny_pyNext_tuple_end (I.ok.hd hc) st (show s.heap.IsTuple a its.toArray from p) (by simp; omega) fun h' eb => ⟨rfl, I.turned (t' := s.toks) (fun b o hb e => eb b o hb e) f0 f1 f3 f4 f5⟩
  self := fun _ _ _ _ _ st h => wpAny_pyIter_tupleiter st h
theorem turn_range {P : Program} {w : World} {K : PySem.W.Frag} {tg : Expr} (it : Addr) (lo : Int) (n : Nat) : Turn P w K tg (Itr lo n) [it] it (fun i h => IsRangeIter h it (lo + (i : Nat) * 1) ((n : Int) - (i : Nat)) 1) where
  mem := by simp
  obj := fun i h st b hb => by
    have e : b = it := by simpa using hb
    subst e
    exact ⟨_, st, fun v z => by
      have z' : Data.fields _ = Data.cell v := z
      cases z'⟩
  keep := fun i h h' st k => k it (by simp) _ st
  item := by
    intro X hP hw hK hc i pins s σ H E I hf st hg
    subst hP hw hK
    obtain ⟨f0, f1, f2, f3, f4, f5⟩ := hf it (by simp)
    have W := Walks.range (prog := X.prog) (w := X.w) (I.ok.hd hc) it lo 1 n
    refine W.item i s _ _ hg st fun v h' tk hv st' kk => ?_
    obtain ⟨t, rfl⟩ := hv
    have I1 : Inv X pins σ H { s with heap := h', toks := tk } := I.turned (fun b o hb e => kk b o (by simpa using hb) e) f0 f1 f3 f4 f5
    refine ⟨_, rfl, go_of (s := { s with heap := h', toks := tk }) (n := "range_iterator") st' rfl rfl (by decide) ⟨.int (lo + i), H, I1, ⟨t, ?_⟩, ⟨rfl, rfl⟩, st', fun b hb => (hf b hb).1⟩⟩
    rw [Int.mul_one]
  done := by
    intro X hP hw hK hc i pins s σ H E I hf st hg
    subst hP hw hK
    obtain ⟨f0, f1, f2, f3, f4, f5⟩ := hf it (by simp)
    exact wpAny_pyNext_range_end (I.ok.hd hc) st (by have : n ≤ i := hg; omega) fun h' eb => ⟨rfl, I.turned (t' := s.toks) (fun b o hb e => eb b o hb e) f0 f1 f3 f4 f5⟩
  self := fun _ _ _ _ _ st h => wpAny_pyIter_rangeiter st h
end L2

namespace L2
open PySem PySem.Spec PyProof.Rows
section
variable {X : Cx} {tg : Expr}
def iList (K : PySem.W.Frag) (tl : TE) : TI := fun σ H R => tl σ H fun x H1 => ∃ a, x = .ref a ∧ (∃ xs, SqL K H1 a xs) ∧ R (Itl K a) H1
def iTup (K : PySem.W.Frag) (tl : TE) : TI := fun σ H R => tl σ H fun x H1 => ∃ a, x = .ref a ∧ (∃ xs, SqT K H1 a xs) ∧ R (Itt K a) H1
theorem pi_list {l : Expr} {tl : TE} (hl : PE X l tl) : PI X tg l (iList X.K tl) := by
  intro pins s σ H R I h
  refine thn (hl pins s σ H _ I h) fun v s1 ⟨x, H1, I1, r1, q1⟩ => ?_
  obtain ⟨a, e, ⟨xs, hq⟩, q⟩ := q1
  subst e
  cases r1
  obtain ⟨its, rv, p, hz⟩ := I1.list hq
  refine wpAny_pyIter_list p.isList ?_
  refine ⟨s1.heap.objs.size, [s1.heap.objs.size], _, _, H1, rfl, I1.kept (t' := s1.toks) fun b o e => Heap.get?_push_of_some _ e, turn_list a _, ⟨_, Heap.get?_push_size _ rfl, rfl, rfl⟩, fun b hb => ?_, q⟩
  have e : b = s1.heap.objs.size := by simpa using hb
  subst e
  exact I1.fpOk (Nat.le_refl _) (I1.hok.fresh (Nat.le_refl _))
theorem pi_tup {l : Expr} {tl : TE} (hl : PE X l tl) : PI X tg l (iTup X.K tl) := by
  intro pins s σ H R I h
  refine thn (hl pins s σ H _ I h) fun v s1 ⟨x, H1, I1, r1, q1⟩ => ?_
  obtain ⟨a, e, ⟨xs, hq⟩, q⟩ := q1
  subst e
  cases r1
  obtain ⟨its, rv, p, hz⟩ := I1.tuple hq
  refine wpAny_pyIter_tuple (show s1.heap.IsTuple a its.toArray from p) ?_
  refine ⟨s1.heap.objs.size, [s1.heap.objs.size], _, _, H1, rfl, I1.kept (t' := s1.toks) fun b o e => Heap.get?_push_of_some _ e, turn_tuple a _, ⟨_, Heap.get?_push_size _ rfl, rfl, rfl⟩, fun b hb => ?_, q⟩
  have e : b = s1.heap.objs.size := by simpa using hb
  subst e
  exact I1.fpOk (Nat.le_refl _) (I1.hok.fresh (Nat.le_refl _))
/-- a range object just made, walked -/
theorem range_it {pins : List (Addr × Obj)} {σ : St} {H : Hp} {s : Shared} {R : It → Hp → Prop} {E : Value → Shared → Prop} {lo hi : Int} {t u v : Tok} {tk : Nat} (I : Inv X pins σ H s) (h1 : -(2 ^ 62) ≤ lo) (h2 : lo < 2 ^ 62) (h3 : -(2 ^ 62) ≤ hi) (h4 : hi < 2 ^ 62)
    (q : R (Itr lo (hi - lo).toNat) H) : wpAny (model X.prog X.w) X.A (pyIter (.ref s.heap.objs.size)) (PIE X pins σ tg R) E { s with heap := s.heap.push { cls := .type "range", data := .fields #[.int lo t, .int hi u, .int 1 v] }, toks := tk } := by
  refine wpAny_pyIter_range (IsRange.new ..) (small_one h1 h2 h3 h4) ?_
  have I1 : Inv X pins σ H { s with heap := s.heap.push { cls := .type "range", data := .fields #[.int lo t, .int hi u, .int 1 v] }, toks := tk } := I.kept fun b o e => Heap.get?_push_of_some _ e
  refine ⟨(s.heap.push { cls := .type "range", data := .fields #[.int lo t, .int hi u, .int 1 v] }).objs.size, [(s.heap.push { cls := .type "range", data := .fields #[.int lo t, .int hi u, .int 1 v] }).objs.size], _, _, H, rfl,
    I1.kept (t' := tk) fun b o e => Heap.get?_push_of_some _ e, turn_range _ lo (hi - lo).toNat, ?_, fun b hb => ?_, q⟩
  · have e1 : lo + ((0 : Nat) : Int) * 1 = lo := by simp
    have e2 : (((hi - lo).toNat : Nat) : Int) - ((0 : Nat) : Int) = Builtin.Range.rangeSize lo hi 1 := by rw [rangeSize_one]; split <;> omega
    show IsRangeIter _ _ (lo + ((0 : Nat) : Int) * 1) ((((hi - lo).toNat : Nat) : Int) - ((0 : Nat) : Int)) 1
    rw [e1, e2]
    exact Heap.get?_push_size _ rfl
  · have e : b = (s.heap.push { cls := .type "range", data := .fields #[.int lo t, .int hi u, .int 1 v] }).objs.size := by simpa using hb
    subst e
    exact I1.fpOk (Nat.le_refl _) (I1.hok.fresh (Nat.le_refl _))
def iRng1 (ta : TA) : TI := fun σ H R => ta σ H fun vs H1 => ∃ j : Int, vs = [.int j] ∧ -(2 ^ 62) ≤ j ∧ j < 2 ^ 62 ∧ R (Itr 0 j.toNat) H1
theorem pi_range1 {a : Expr} {ta : TA} {p pos : Pos} (hg : Gl X "range") (hm : X.mg "range" = none) (ha : PA X [a] ta) (hs : starEach [a] X.env = [(false, eval a X.env)] := by rfl) : PI X tg (.Call (.Name "range" p) [a] [] pos) (iRng1 ta) := by
  intro pins s σ H R I h
  refine Call_ (ld_blt I hg hm boot_range (PyProof.Rows.callWith_type1 (thn (ha pos pins s σ H _ I h) fun us s1 ⟨vs, H1, I1, r1, q1⟩ => ?_) hs rfl))
  obtain ⟨j, e, q1, q2, q⟩ := q1
  subst e
  cases r1 with
  | cons r rr =>
    cases rr
    obtain ⟨t, rfl⟩ := r
    exact call_range_1 (range_it I1 (by omega) (by omega) q1 q2 (by simpa using q))
/-! ### for -/
/-- W: the invariant by the turn and a measure; N: what the body is to reach -/
def tFor (wi : TI) (g : TG) (tb : TS) : TS := fun D σ H => wi σ H fun J H1 => ∃ W : Nat → Nat → St → Hp → Prop, (∃ m, W 0 m σ H1) ∧ ∀ i m σ H, W i m σ H →
  (J.stop i H ∧ D.nx σ H) ∨ (J.go i H ∧ ∃ N : St → Hp → Prop, (∀ σ' H', N σ' H' → ∃ m', m' < m ∧ W (i + 1) m' σ' H') ∧ ∀ x H', J.yld i H x H' → g x σ H' fun σ2 H2 => tb { D with nx := N, ct := N, bk := D.nx } σ2 H2)
/-- the records at fp as they stand -/
def pinsAt (fp : List Addr) (h : Heap) : List (Addr × Obj) := fp.filterMap fun b => (h.get? b).map fun o => (b, o)
theorem mem_pinsAt {fp : List Addr} {h : Heap} {b : Addr} {o : Obj} (hb : b ∈ fp) (e : h.get? b = some o) : (b, o) ∈ pinsAt fp h := List.mem_filterMap.mpr ⟨b, hb, by rw [e]; rfl⟩
theorem of_pinsAt {fp : List Addr} {h : Heap} {p : Addr × Obj} (hp : p ∈ pinsAt fp h) : p.1 ∈ fp ∧ h.get? p.1 = some p.2 := by
  obtain ⟨b, hb, e⟩ := List.mem_filterMap.mp hp
  cases q : h.get? b with
  | none => rw [q] at e; cases e
  | some o =>
    rw [q] at e
    have e' : (b, o) = p := Option.some.inj e
    subst e'
    exact ⟨hb, q⟩
theorem Inv.pinned {pins : List (Addr × Obj)} {σ : St} {H : Hp} {s : Shared} {fp : List Addr} (I : Inv X pins σ H s) (hf : ∀ b ∈ fp, FpOk X pins H b) (ho : ∀ b ∈ fp, ∃ o, s.heap.get? b = some o ∧ ∀ v, o.data ≠ .cell v) : Inv X (pins ++ pinsAt fp s.heap) σ H s :=
  I.pins_of fun p hp => (List.mem_append.mp hp).elim (fun z => I.pin p (List.mem_append_right _ z)) fun z => by
    obtain ⟨hb, e⟩ := of_pinsAt z
    obtain ⟨f0, f1, f2, _⟩ := hf p.1 hb
    obtain ⟨o, e', d⟩ := ho p.1 hb
    rw [e] at e'; cases e'
    exact ⟨e, f0, f1, f2, d⟩
theorem Inv.unpinned {pins pl : List (Addr × Obj)} {σ : St} {H : Hp} {s : Shared} (I : Inv X (pins ++ pl) σ H s) : Inv X pins σ H s := I.pins_of fun p hp => I.pin p (List.mem_append_right _ (List.mem_append_left _ hp))
theorem ps_for {iter : Expr} {body : List Stmt} {wi : TI} {g : TG} {tb : TS} {pos : Pos} (hp : PassesOwn (model X.prog X.w) X.A X.env X.xe) (hc : X.calm = true) (hi : PI X tg iter wi) (hg : PG X tg g) (hb : PSs X body tb)
    (hs : ∀ x, foldedSetIterable iter X.env x = pure x := by intro _; rfl) : PS X (.For tg iter body [] pos) (tFor wi g tb) := by
  intro pins s σ H D I h
  refine wpAny_For (thn (hi pins s σ H _ I h) fun v s1 h1 => thn h1 fun itv s2 h2 => ?_) hs
  obtain ⟨it, fp, tn, J, H2, e, I2, T, st2, f2, W, ⟨m0, w0⟩, turn⟩ := h2
  subst e
  -- what stays true of the iterator's objects through the loop
  have stat : ∀ {H' : Hp}, (∀ b ∈ fp, H' b = none) → ∀ b ∈ fp, FpOk X pins H' b := fun hn b hb => ⟨hn b hb, (f2 b hb).2⟩
  refine codeAny_forLoop_any (fun n s' => ∃ i σ' H', Inv X pins σ' H' s' ∧ tn i s'.heap ∧ (∀ b ∈ fp, H' b = none) ∧ W i n σ' H') ?_ m0 ⟨0, σ, H2, I2, st2, fun b hb => (f2 b hb).1, w0⟩
  rintro n s3 ⟨i, σ3, H3, I3, st3, fr3, w3⟩
  rcases turn i n σ3 H3 w3 with ⟨stop, qn⟩ | ⟨go, N, hN, step⟩
  · refine wpAny_passesOwn hp (thn (T.done X rfl rfl rfl hc i pins s3 σ3 H3 X.xe I3 (stat fr3) st3 stop) fun r s4 ⟨hr, I4⟩ => ?_)
    subst hr
    exact wpAny_execs_nil ⟨σ3, H3, I4, qn⟩
  · refine wpAny_passesOwn hp (thn (T.item X rfl rfl rfl hc i pins s3 σ3 H3 X.xe I3 (stat fr3) st3 go) fun r s4 ⟨u, hr, h4⟩ => ?_)
    subst hr
    refine wpAny_passesOwn hp (thn h4 fun _ s5 ⟨x, H5, I5, r5, y5, st5, fr5⟩ => ?_)
    have I5' := I5.pinned (stat fr5) (T.obj _ _ st5)
    refine wpAny_passesOwn hp (thn (hg _ s5 σ3 H5 x u _ I5' r5 (step x H5 y5)) fun _ s6 ⟨σ6, H6, I6, q6⟩ => ?_)
    refine wpAny_passesOwn hp (thn (hb _ s6 σ6 H6 _ I6 q6) fun f s7 q7 => ?_)
    have again : ∀ {σ7 : St} {H7 : Hp}, Inv X (pins ++ pinsAt fp s5.heap) σ7 H7 s7 → N σ7 H7 → ∃ m, m < n ∧ ∃ i σ' H', Inv X pins σ' H' s7 ∧ tn i s7.heap ∧ (∀ b ∈ fp, H' b = none) ∧ W i m σ' H' := fun {σ7 H7} I7 n7 => by
      obtain ⟨m', hm, w7⟩ := hN σ7 H7 n7
      refine ⟨m', hm, i + 1, σ7, H7, I7.unpinned, T.keep _ _ _ st5 fun b hb o e => (I7.pin (b, o) (List.mem_append_right _ (List.mem_append_right _ (mem_pinsAt hb e)))).1, fun b hb => ?_, w7⟩
      obtain ⟨o, e, d⟩ := T.obj _ _ st5 b hb
      exact (I7.pin (b, o) (List.mem_append_right _ (List.mem_append_right _ (mem_pinsAt hb e)))).2.1
    cases f with
    | next => obtain ⟨σ7, H7, I7, n7⟩ := q7; exact again I7 n7
    | cont => obtain ⟨σ7, H7, I7, n7⟩ := q7; exact again I7 n7
    | brk => obtain ⟨σ7, H7, I7, q7⟩ := q7; exact ⟨σ7, H7, I7.unpinned, q7⟩
    | ret v => obtain ⟨x7, σ7, H7, I7, r7, q7⟩ := q7; exact ⟨x7, σ7, H7, I7.unpinned, r7, q7⟩
end

/-! ### the forms one uses -/
end L2

namespace L2
open PySem PySem.Spec PyProof.Rows

abbrev R2 := V → V → Hp → VK → Prop
/-- a two-place operation on values: f is binaryOp op, inplaceOp op or compareOp op -/
def OpR (X : Cx) (f : Value → Value → Sem Value) (r : R2) : Prop :=
  ∀ (pins : List (Addr × Obj)) (s : Shared) (σ : St) (H : Hp) (x y : V) (v u : Value) (Q : VK), Inv X pins σ H s → RelV x v → RelV y u → r x y H Q →
    wpAny (model X.prog X.w) X.A (f v u) (EP X pins σ Q) X.xe s
/-- a one-place operation -/
def UnR (X : Cx) (f : Value → Sem Value) (r : V → Hp → VK → Prop) : Prop :=
  ∀ (pins : List (Addr × Obj)) (s : Shared) (σ : St) (H : Hp) (x : V) (v : Value) (Q : VK), Inv X pins σ H s → RelV x v → r x H Q →
    wpAny (model X.prog X.w) X.A (f v) (EP X pins σ Q) X.xe s
/-- a call of a value that is known (a builtin, a type) with values -/
def CallR (X : Cx) (f : Value) (r : List V → Hp → VK → Prop) : Prop :=
  ∀ (pins : List (Addr × Obj)) (s : Shared) (σ : St) (H : Hp) (xs : List V) (us : List Value) (Q : VK), Inv X pins σ H s → Vals xs us → r xs H Q →
    wpAny (model X.prog X.w) X.A (call f us) (EP X pins σ Q) X.xe s
def tOp (r : R2) (ta tb : TE) : TE := fun σ H Q => ta σ H fun x H1 => tb σ H1 fun y H2 => r x y H2 Q
def tUn (r : V → Hp → VK → Prop) (ta : TE) : TE := fun σ H Q => ta σ H fun x H1 => r x H1 Q
/-- ints in, under C, and a value out -/
def rI (C : Int → Int → Prop) (g : Int → Int → V) : R2 := fun x y H Q => ∃ i j, x = .int i ∧ y = .int j ∧ C i j ∧ Q (g i j) H
def rI0 (g : Int → Int → V) : R2 := fun x y H Q => ∃ i j, x = .int i ∧ y = .int j ∧ Q (g i j) H
def rU (g : Int → V) : V → Hp → VK → Prop := fun x H Q => ∃ i, x = .int i ∧ Q (g i) H

section
variable {X : Cx} {a b c : Expr} {ta tb tc : TE} {pos : Pos}

theorem binT (ha : PE X a ta) (hb : PE X b tb) {pins : List (Addr × Obj)} {s : Shared} {σ : St} {H : Hp} {R : V → V → Hp → Prop} (I : Inv X pins σ H s)
    (h : ta σ H fun x H1 => tb σ H1 fun y H2 => R x y H2) {Q : Value → Shared → Prop} {f : Value → Value → Sem Value}
    (hf : ∀ v u s2 x y H2, Inv X pins σ H2 s2 → RelV x v → RelV y u → R x y H2 → wpAny (model X.prog X.w) X.A (f v u) Q X.xe s2) :
    wpAny (model X.prog X.w) X.A (eval a X.env) (fun v s₁ => wpAny (model X.prog X.w) X.A (eval b X.env) (fun u s₂ => wpAny (model X.prog X.w) X.A (f v u) Q X.xe s₂) X.xe s₁) X.xe s := by
  refine thn (ha pins s σ H _ I h) fun v s1 ⟨x, H1, I1, r1, q1⟩ => ?_
  refine thn (hb pins s1 σ H1 _ I1 q1) fun u s2 ⟨y, H2, I2, r2, q2⟩ => ?_
  exact hf v u s2 x y H2 I2 r1 r2 q2

theorem pe_op {op : Operator} {r : R2} (ho : OpR X (binaryOp op) r) (ha : PE X a ta) (hb : PE X b tb) : PE X (.BinOp a op b pos) (tOp r ta tb) := by
  intro pins s σ H Q I h
  exact wpAny_BinOp (binT ha hb I h fun v u s2 x y H2 I2 rx ry q => ho pins s2 σ H2 x y v u Q I2 rx ry q)
theorem pe_un {op : UnaryOp} {r : V → Hp → VK → Prop} (ho : UnR X (unaryOp op) r) (ha : PE X a ta) : PE X (.UnaryOp op a pos) (tUn r ta) := by
  intro pins s σ H Q I h
  exact UnaryOp_ (thn (ha pins s σ H _ I h) fun v s1 ⟨x, H1, I1, r1, q1⟩ => ho pins s1 σ H1 x v Q I1 r1 q1)
/-! ### ints -/
theorem opI {f : Value → Value → Sem Value} {C : Int → Int → Prop} {g : Int → Int → Int}
    (rule : ∀ (i j : Int) (t u : Tok) (s : Shared) (Q : Value → Shared → Prop) (E : Value → Shared → Prop), C i j → Q (.int (g i j) s.toks) { s with toks := s.toks + 1 } → wpAny (model X.prog X.w) X.A (f (.int i t) (.int j u)) Q E s) :
    OpR X f (rI C fun i j => .int (g i j)) := by
  intro pins s σ H x y v u Q I rx ry h
  obtain ⟨i, j, rfl, rfl, hc, q⟩ := h
  obtain ⟨t, rfl⟩ := rx
  obtain ⟨t', rfl⟩ := ry
  exact rule i j t t' s _ _ hc ⟨.int (g i j), H, I.tok _, ⟨_, rfl⟩, q⟩
theorem opI0 {f : Value → Value → Sem Value} {g : Int → Int → Int}
    (rule : ∀ (i j : Int) (t u : Tok) (s : Shared) (Q : Value → Shared → Prop) (E : Value → Shared → Prop), Q (.int (g i j) s.toks) { s with toks := s.toks + 1 } → wpAny (model X.prog X.w) X.A (f (.int i t) (.int j u)) Q E s) :
    OpR X f (rI0 fun i j => .int (g i j)) := by
  intro pins s σ H x y v u Q I rx ry h
  obtain ⟨i, j, rfl, rfl, q⟩ := h
  obtain ⟨t, rfl⟩ := rx
  obtain ⟨t', rfl⟩ := ry
  exact rule i j t t' s _ _ ⟨.int (g i j), H, I.tok _, ⟨_, rfl⟩, q⟩
theorem opB0 {f : Value → Value → Sem Value} {g : Int → Int → Bool}
    (rule : ∀ (i j : Int) (t u : Tok) (s : Shared) (Q : Value → Shared → Prop) (E : Value → Shared → Prop), Q (.bool (g i j)) s → wpAny (model X.prog X.w) X.A (f (.int i t) (.int j u)) Q E s) :
    OpR X f (rI0 fun i j => .bl (g i j)) := by
  intro pins s σ H x y v u Q I rx ry h
  obtain ⟨i, j, rfl, rfl, q⟩ := h
  obtain ⟨t, rfl⟩ := rx
  obtain ⟨t', rfl⟩ := ry
  exact rule i j t t' s _ _ ⟨.bl (g i j), H, I, rfl, q⟩

def CPow (i j : Int) : Prop := 0 ≤ j ∧ j ≤ 1000000 ∧ i.natAbs < 2 ^ 64
def CMul (i j : Int) : Prop := (-(2 ^ 64) < i ∧ i < 2 ^ 64) ∨ (-(2 ^ 64) < j ∧ j < 2 ^ 64)
theorem CMul.ok {i j : Int} (h : CMul i j) : IntMulOk i j := by
  rcases h with ⟨h1, h2⟩ | ⟨h1, h2⟩
  · exact .of_left (intBits_le_64 h1 h2)
  · exact .of_right (intBits_le_64 h1 h2)
theorem two_pow_nn (k : Nat) : (0 : Int) ≤ 2 ^ k := by
  rw [two_pow_cast]
  exact Int.natCast_nonneg _

theorem op_add : OpR X (binaryOp .Add) (rI0 fun i j => .int (i + j)) := opI0 fun _ _ _ _ _ _ _ q => add_int q
theorem op_sub : OpR X (binaryOp .Sub) (rI0 fun i j => .int (i - j)) := opI0 fun _ _ _ _ _ _ _ q => sub_int q
theorem op_mul : OpR X (binaryOp .Mult) (rI CMul fun i j => .int (i * j)) := opI fun _ _ _ _ _ _ _ hc q => mul_int q hc.ok
theorem op_modN : OpR X (binaryOp .Mod) (rI (fun _ j => j ≠ 0) fun i j => .int (i.fmod j)) := opI fun _ _ _ _ _ _ _ hc q => mod_int' hc q
theorem op_pow : OpR X (binaryOp .Pow) (rI CPow fun i j => .int (i ^ j.toNat)) := opI fun _ _ _ _ _ _ _ hc q => pow_int_small hc.1 hc.2.1 hc.2.2 q
theorem op_shr : OpR X (binaryOp .RShift) (rI (fun _ j => 0 ≤ j) fun i j => .int (i / 2 ^ j.toNat)) := opI fun i j _ _ _ _ _ hc q =>
  rshift_int hc (by rw [Int.fdiv_eq_ediv_of_nonneg i (two_pow_nn _)]; exact q)
theorem unI {f : Value → Sem Value} {g : Int → Int}
    (rule : ∀ (i : Int) (t : Tok) (s : Shared) (Q : Value → Shared → Prop) (E : Value → Shared → Prop), Q (.int (g i) s.toks) { s with toks := s.toks + 1 } → wpAny (model X.prog X.w) X.A (f (.int i t)) Q E s) :
    UnR X f (rU fun i => .int (g i)) := by
  intro pins s σ H x v Q I rx h
  obtain ⟨i, rfl, q⟩ := h
  obtain ⟨t, rfl⟩ := rx
  exact rule i t s _ _ ⟨.int (g i), H, I.tok _, ⟨_, rfl⟩, q⟩
theorem un_neg : UnR X (unaryOp .USub) (rU fun i => .int (-i)) := unI fun _ _ _ _ _ q => neg_int q
/-! ### bools among ints: n += (a < b) -/
end

/-! ### comparisons -/
section
variable {X : Cx} {a b c : Expr} {ta tb tc : TE} {pos : Pos}
theorem fin_bl {pins : List (Addr × Obj)} {σ : St} {H : Hp} {s : Shared} {Q : VK} {k k' : Bool} (I : Inv X pins σ H s) (q : Q (.bl k) H) (e : k = k') : EP X pins σ Q (.bool k') s := by
  subst e
  exact ⟨.bl k, H, I, rfl, q⟩
theorem op_lt : OpR X (compareOp .Lt) (rI0 fun i j => .bl (decide (i < j))) := opB0 fun _ _ _ _ _ _ _ q => lt_int q
theorem op_le : OpR X (compareOp .LtE) (rI0 fun i j => .bl (decide (i ≤ j))) := opB0 fun _ _ _ _ _ _ _ q => le_int q
theorem op_gt : OpR X (compareOp .Gt) (rI0 fun i j => .bl (decide (j < i))) := opB0 fun _ _ _ _ _ _ _ q => gt_int q
theorem op_ge : OpR X (compareOp .GtE) (rI0 fun i j => .bl (decide (j ≤ i))) := opB0 fun _ _ _ _ _ _ _ q => ge_int q
theorem op_notN : OpR X (compareOp .IsNot) (fun x y H Q => y = .non ∧ Q (.bl (!decide (x = .non))) H) := by
  intro pins s σ H x y v u Q I rx ry h
  obtain ⟨rfl, q⟩ := h
  cases ry
  refine isnot_none_gen (fin_bl I q ?_)
  cases x <;> first
    | (cases rx; rfl)
    | (obtain ⟨t, rfl⟩ := rx; rfl)

/-- two rules for one operation: by cases -/
theorem OpR.or {f : Value → Value → Sem Value} {r r' : R2} (h : OpR X f r) (h' : OpR X f r') : OpR X f (fun x y H Q => r x y H Q ∨ r' x y H Q) := by
  intro pins s σ H x y v u Q I rx ry q
  rcases q with q | q
  · exact h pins s σ H x y v u Q I rx ry q
  · exact h' pins s σ H x y v u Q I rx ry q

theorem nomark (b : Expr) {op : CmpOp} (h : op ≠ .In := by decide) (h2 : op ≠ .NotIn := by decide) : behindInMarks op b = false := by
  have e1 : (op == CmpOp.In) = false := by cases op <;> first | rfl | exact absurd rfl h
  have e2 : (op == CmpOp.NotIn) = false := by cases op <;> first | rfl | exact absurd rfl h2
  cases b <;> simp [behindInMarks, e1, e2]
/-- a comparison as a value; hm: nomark b, or (for in, not in) by with_unfolding_all rfl -/
theorem pe_cmpR {op : CmpOp} {r : R2} (ho : OpR X (compareOp op) r) (ha : PE X a ta) (hb : PE X b tb) (hm : behindInMarks op b = false) : PE X (.Compare a [op] [b] pos) (tOp r ta tb) := by
  intro pins s σ H Q I h
  exact wpAny_Compare1 (binT ha hb I h fun v u s2 x y H2 I2 rx ry q => ho pins s2 σ H2 x y v u Q I2 rx ry q) hm
/-- a reading of a value as a test -/
def tTest (t : TE) : TT := fun σ H Q => t σ H fun x H' => ∃ k, x = .bl k ∧ Q k H'
theorem pt_cmpR {op : CmpOp} {r : R2} (ho : OpR X (compareOp op) r) (ha : PE X a ta) (hb : PE X b tb) (hm : behindInMarks op b = false) : PT X (.Compare a [op] [b] pos) (tTest (tOp r ta tb)) := by
  intro pins s σ H Q I h
  refine wpAny_isTrue_Compare1 (thn (ha pins s σ H _ I h) fun v s1 ⟨x, H1, I1, r1, q1⟩ => thn (hb pins s1 σ H1 _ I1 q1) fun u s2 ⟨y, H2, I2, r2, q2⟩ =>
    thn (ho pins s2 σ H2 x y v u _ I2 r1 r2 q2) fun c s3 ⟨z, H3, I3, r3, k, e, q3⟩ => ?_) hm
  subst e
  cases r3
  exact wpAny_truthy_bool ⟨H3, I3, q3⟩
/-- a op1 b op2 c -/
def tChain (r r' : R2) (ta tb tc : TE) : TE := fun σ H Q => ta σ H fun x H1 => tb σ H1 fun y H2 => r x y H2 fun z H3 => ∃ k, z = .bl k ∧
  (if k = true then tc σ H3 fun w' H4 => r' y w' H4 Q else Q (.bl false) H3)
theorem pe_chain {op op' : CmpOp} {r r' : R2} (ho : OpR X (compareOp op) r) (ho' : OpR X (compareOp op') r') (ha : PE X a ta) (hb : PE X b tb) (hc : PE X c tc)
    (hm : lastMarks [op, op'] [b, c] = false := by with_unfolding_all rfl) : PE X (.Compare a [op, op'] [b, c] pos) (tChain r r' ta tb tc) := by
  intro pins s σ H Q I h
  refine Compare_chain (thn (ha pins s σ H _ I h) fun v s1 ⟨x, H1, I1, r1, q1⟩ => chain_link (thn (hb pins s1 σ H1 _ I1 q1) fun u s2 ⟨y, H2, I2, r2, q2⟩ =>
    thn (ho pins s2 σ H2 x y v u _ I2 r1 r2 q2) fun d s3 ⟨z, H3, I3, r3, k, e, q3⟩ => ?_)) hm
  subst e
  cases r3
  refine wpAny_truthy_bool ?_
  cases k with
  | false => exact ite_ff ⟨.bl false, H3, I3, rfl, q3⟩
  | true => exact ite_tt (chain_last (thn (hc pins s3 σ H3 _ I3 q3) fun w' s4 ⟨z', H4, I4, r4, q4⟩ => ho' pins s4 σ H4 y z' u w' Q I4 r2 r4 q4))
/-! ### truth -/
theorem line63 : (sizeLine : Nat) < 2 ^ 63 := by rw [sizeLine_eq]; decide
/-! ### strs and bytes -/
/-! ### scalar builtins, by CallR -/
theorem vals1 {x : V} {us : List Value} (r : Vals [x] us) : ∃ u, us = [u] ∧ RelV x u := by
  cases r with
  | cons r1 r2 => cases r2; exact ⟨_, rfl, r1⟩
theorem vals2 {x y : V} {us : List Value} (r : Vals [x, y] us) : ∃ u w', us = [u, w'] ∧ RelV x u ∧ RelV y w' := by
  cases r with
  | cons r1 r2 =>
    cases r2 with
    | cons r3 r4 => cases r4; exact ⟨_, _, rfl, r1, r3⟩
theorem call_abs : CallR X (.builtin "abs") (fun xs H Q => ∃ i, xs = [.int i] ∧ Q (.int (if i < 0 then -i else i)) H) := by
  intro pins s σ H xs us Q I r h
  obtain ⟨i, rfl, q⟩ := h
  obtain ⟨u, rfl, t, rfl⟩ := vals1 r
  exact call_abs_int fun u tk => ⟨.int (if i < 0 then -i else i), H, I.tok _, ⟨_, rfl⟩, q⟩
theorem call_max2 (hc : X.calm = true) : CallR X (.builtin "max") (fun xs H Q => ∃ i j, xs = [.int i, .int j] ∧ Q (.int (if j > i then j else i)) H) := by
  intro pins s σ H xs us Q I r h
  obtain ⟨i, j, rfl, q⟩ := h
  obtain ⟨u, w', rfl, ⟨t, rfl⟩, ⟨t', rfl⟩⟩ := vals2 r
  refine max_two_ints (I.ok.hd hc) fun h' tk k => ⟨_, H, I.kept k, ?_, q⟩
  by_cases hj : j > i
  · rw [if_pos hj, if_pos hj]; exact ⟨_, rfl⟩
  · rw [if_neg hj, if_neg hj]; exact ⟨_, rfl⟩
theorem call_min2 (hc : X.calm = true) : CallR X (.builtin "min") (fun xs H Q => ∃ i j, xs = [.int i, .int j] ∧ Q (.int (if j < i then j else i)) H) := by
  intro pins s σ H xs us Q I r h
  obtain ⟨i, j, rfl, q⟩ := h
  obtain ⟨u, w', rfl, ⟨t, rfl⟩, ⟨t', rfl⟩⟩ := vals2 r
  refine min_two_ints (I.ok.hd hc) fun h' tk k => ⟨_, H, I.kept k, ?_, q⟩
  by_cases hj : j < i
  · rw [if_pos hj, if_pos hj]; exact ⟨_, rfl⟩
  · rw [if_neg hj, if_neg hj]; exact ⟨_, rfl⟩
theorem call_int1 : CallR X (.type "int") (fun xs H Q => (∃ i, xs = [.int i] ∧ Q (.int i) H) ∨ ∃ k, xs = [.bl k] ∧ Q (.int (if k then 1 else 0)) H) := by
  intro pins s σ H xs us Q I r h
  rcases h with ⟨i, rfl, q⟩ | ⟨k, rfl, q⟩
  · obtain ⟨u, rfl, t, rfl⟩ := vals1 r
    exact call_int_int ⟨.int i, H, I, ⟨_, rfl⟩, q⟩
  · obtain ⟨u, rfl, r1⟩ := vals1 r
    cases r1
    exact call_int_bool ⟨.int (if k then 1 else 0), H, I.tok _, ⟨_, rfl⟩, q⟩
end
end L2

namespace L2
open PySem PySem.Spec PyProof.Rows

/-! ### an instance, its attributes a map -/
structure ObjM (h : Heap) (x dx C : Addr) (mA : Str → Option Value) : Prop where
  obj : h.get? x = some (PySem.W.instObj C dx)
  ns : h.Ns1 dx mA
  ne : dx ≠ x

section
variable {prog : Program} {w : World} {A : Around} {E : Value → Shared → Prop} {s : Shared} {K : PySem.W.Frag} {x dx C f : Addr} {mA : Str → Option Value} {name : Str} {v : Value}

end

/-! ### the attributes as a list of pairs -/
section
variable {P : Program} {w : World} {H H' : Hp} {h h' : Heap} {a C dx : Addr} {fs fs' : List (Str × V)}
end

/-! ### what of the text a class must have -/
structure Cls (K : PySem.W.Frag) (C : Addr) : Prop where
  pg : PySem.W.plainGet K C Str.empty = true
  hd : PySem.W.hasDictIn K C = true
  po : PySem.W.plainOver K C = true
  sa : PySem.W.findIn K (.ref C) "__setattr__" = some (some (.builtin "object.__setattr__"))
theorem Cls.get {K : PySem.W.Frag} {C : Addr} (c : Cls K C) (f : Str) : PySem.W.plainGet K C f = true := c.pg
/-- a constant of the class -/
structure Con (K : PySem.W.Frag) (C : Addr) (f : Str) (v : V) (u : Value) : Prop where
  at_ : PySem.W.findIn K (.ref C) f = some (some u)
  rel : RelV v u
  get : PySem.W.specialIn K u "__get__" = some none
  cp : PySem.W.copiedNames.contains f = false
/-- a method: a plain def of the class or of one above it -/
structure Meth (K : PySem.W.Frag) (C : Addr) (m : Str) (f : Addr) : Prop where
  at_ : PySem.W.findIn K (.ref C) m = some (some (.ref f))
  fn : PySem.W.isFn K (.ref f) = true
  kp : PySem.W.keepIn K (.ref f) = true

section
variable {X : Cx} {pins : List (Addr × Obj)} {σ : St} {H : Hp} {s : Shared} {a C dx : Addr} {fs : List (Str × V)} {f : Str} {v : V} {A : Around} {E : Value → Shared → Prop}

end

/-! ### readings and rules -/
section
variable {X : Cx} {o e value : Expr} {f : Str} {pos pos' tpos : Pos} {ta tv : TE}
end

/-! ### isinstance -/
section
variable {X : Cx} {pins : List (Addr × Obj)} {σ : St} {H : Hp} {s : Shared} {A : Around} {E : Value → Shared → Prop} {Q : Value → Shared → Prop} {c : Value} {b : Bool}
/-- the type of a value, as the fragment's deciders take it; for an instance its class -/
inductive TyOf (K : PySem.W.Frag) (H : Hp) : V → Value → Prop where
  | non : TyOf K H .non (.type "NoneType")
  | bl (x : Bool) : TyOf K H (.bl x) (.type "bool")
  | int (i : Int) : TyOf K H (.int i) (.type "int")
  | str (x : Str) : TyOf K H (.str x) (.type "str")
  | flt (x : UInt64) : TyOf K H (.flt x) (.type "float")
  | lst {a : Addr} {xs : List V} (e : H a = some (.lst xs)) : TyOf K H (.ref a) (.type "list")
  | frz {a : Addr} {o : Obj} {xs : List V} (e : H a = some (.frz o (.lst xs))) : TyOf K H (.ref a) (.type "list")
  | tup {a : Addr} {xs : List V} (e : H a = some (.tup xs)) : TyOf K H (.ref a) (.type "tuple")
  | dK {a : Addr} {kvs : List (Key × V)} (e : H a = some (.dK kvs)) : TyOf K H (.ref a) (.type "dict")
  | dT {a : Addr} {kvs : List (List Key × V)} (e : H a = some (.dT kvs)) : TyOf K H (.ref a) (.type "dict")
  | ins {a C dx : Addr} {fs : List (Str × V)} (e : H a = some (.ins C dx fs)) (cl : Cls K C) (ha : PySem.W.findIn K (.ref C) "__class__" = some (some (.builtin "object.__class__")))
      (hn : PySem.W.specialIn K (.builtin "object.__class__") "__get__" = some (some (.builtin "getset_descriptor.__get__"))) (htk : PySem.W.takesIn K (.builtin "object.__class__") = some true)
      (hm : PySem.W.mroIn K C (.type "object") = some true) : TyOf K H (.ref a) (.ref C)
end
end L2

namespace L2
open PySem PySem.Spec PyProof.Rows

/-! ### room -/
structure Room (k : Nat) (A : Around) : Prop where
  hd : A.handled = none
  dp : A.depth + 3 * k + 5 < recursionLimit
  un : A.units + 16 * k + 200 < cLine
  gd : A.guards = some []
theorem Room.mono {j k : Nat} {A : Around} (r : Room k A) (h : j ≤ k) : Room j A := ⟨r.hd, by have := r.dp; omega, by have := r.un; omega, r.gd⟩
theorem Room.deeper {k : Nat} {A : Around} (r : Room (k + 1) A) (env : Env) : Room k (A.deeper env) :=
  ⟨r.hd, by have := r.dp; show A.depth + 1 + 3 * k + 5 < _; omega, by have := r.un; show A.units + 3 + 16 * k + 200 < _; omega, r.gd⟩
theorem Room.in1 {k : Nat} {A : Around} (r : Room (k + 1) A) : Room k A.in1 :=
  ⟨r.hd, by have := r.dp; show A.depth + 3 * k + 5 < _; omega, by have := r.un; show A.units + 1 + 16 * k + 200 < _; omega, r.gd⟩
theorem Room.depth {k : Nat} {A : Around} (r : Room k A) : A.depth < recursionLimit := by have := r.dp; omega
theorem Room.units {k : Nat} {A : Around} (r : Room k A) : A.units + 64 < cLine := by have := r.un; omega
/-! ### argument lists and displays -/
def tNil : TA := fun _ H Q => Q [] H
def tCons (ta : TE) (tr : TA) : TA := fun σ H Q => ta σ H fun x H1 => tr σ H1 fun xs H2 => Q (x :: xs) H2
section
variable {X : Cx} {e : Expr} {es : List Expr} {te : TE} {t : TA} {pos : Pos}
theorem pa_nil : PA X [] tNil := fun _ _ _ _ H Q I h => Calls.spliced_nil ⟨[], H, I, .nil, h⟩
theorem pa_cons (ha : PE X e te) (hr : PA X es t) (hs : starEach (e :: es) X.env = (false, eval e X.env) :: starEach es X.env := by rfl) : PA X (e :: es) (tCons te t) := by
  intro pos pins s σ H Q I h
  rw [hs]
  show wpAny _ _ (spliced ((false, eval e X.env) :: backTo pos (starEach es X.env))) _ _ s
  refine Calls.spliced_cons (thn (ha pins s σ H _ I h) fun u s1 ⟨x, H1, I1, r1, q1⟩ => ?_)
  exact thn (hr pos pins s1 σ H1 _ I1 q1) fun us s2 ⟨xs, H2, I2, r2, q2⟩ => ⟨x :: xs, H2, I2, .cons r1 r2, q2⟩

/-- a tuple, a list of written items -/
def tTup (t : TA) : TE := fun σ H Q => t σ H fun xs H1 => xs.length ≤ sizeLine ∧ ∀ p, H1 p = none → Q (.ref p) (upd H1 p (.tup xs))
def tLst (t : TA) : TE := fun σ H Q => t σ H fun xs H1 => xs.length ≤ sizeLine ∧ ∀ p, H1 p = none → Q (.ref p) (upd H1 p (.lst xs))
theorem pe_tup {x1} (h : PA X es t) : PE X (.Tuple es x1 pos) (tTup t) := by
  intro pins s σ H Q I hq
  refine wpAny_Tuple_spliced (thn (h pos pins s σ H _ I hq) fun us s1 ⟨xs, H1, I1, r, z, q⟩ => ⟨by rw [← r.length]; exact z, ?_⟩)
  have hf : H1 s1.heap.objs.size = none := I1.hok.fresh (Nat.le_refl _)
  refine ⟨.ref s1.heap.objs.size, upd H1 s1.heap.objs.size (.tup xs), I1.laid (t' := s1.toks) (fun b u e => Heap.get?_push_of_some _ e) (Nat.le_refl _) ?_, rfl, q _ hf⟩
  exact ⟨z, us, r, ⟨_, Heap.get?_push_size _ rfl, rfl, _, rfl⟩⟩
theorem pe_lst (h : PA X es t) : PE X (.List es pos) (tLst t) := by
  intro pins s σ H Q I hq
  refine wpAny_List_spliced (thn (h pos pins s σ H _ I hq) fun us s1 ⟨xs, H1, I1, r, z, q⟩ => ⟨by rw [← r.length]; exact z, ?_⟩)
  have hf : H1 s1.heap.objs.size = none := I1.hok.fresh (Nat.le_refl _)
  refine ⟨.ref s1.heap.objs.size, upd H1 s1.heap.objs.size (.lst xs), I1.laid (t' := s1.toks) (fun b u e => Heap.get?_push_of_some _ e) (Nat.le_refl _) ?_, rfl, q _ hf⟩
  exact ⟨z, us, 0, r, Heap.get?_push_size _ rfl⟩
end

/-! ### what a def promises -/
/-- a def's promise: the bound arguments in the parameters' order, the heap, the wanted end, the wanted exception -/
abbrev Sp := List V → Hp → VK → XK → Prop
/-- how an exception lies behind a call (file 08 gives it): the callers' frames, abstract heap and state ahead of the call, the wish, the exception, the state -/
abbrev CXT := List Env → Hp → Shared → XK → Value → Shared → Prop

/-- the state at a call -/
structure Env0 (P : Program) (w : World) (K : PySem.W.Frag) (mg : Str → Option Value) (base : Heap) (A : Around) (outer : List Env) (s : Shared) (H : Hp) : Prop where
  frames : A.frames = some outer
  mod : Mod K mg base
  bs : ∀ b o, base.get? b = some o → s.heap.get? b = some o ∧ H b = none
  bsz : base.objs.size ≤ s.heap.objs.size
  funs : s.heap.FunFrames base outer
  frf : ∀ b ∈ frs outer, H b = none
  hok : HOk P w H s.heap
  bare : AllBare s.gens
/-- a call's end -/
def CE (outer : List Env) (P : Program) (w : World) (H : Hp) (s : Shared) (Q : VK) (u : Value) (s' : Shared) : Prop :=
  ∃ v H', s'.os = s.os ∧ AllBare s'.gens ∧ Un (frs outer) [] H H' s.heap s'.heap ∧ HOk P w H' s'.heap ∧ RelV v u ∧ Q v H'
def CR (CX : CXT) (outer : List Env) (P : Program) (w : World) (H : Hp) (s : Shared) (Q : VK) (E : XK) (r : Result) (s' : Shared) : Prop :=
  match r with
  | .ok (.ret u) => CE outer P w H s Q u s'
  | .ok _ => False
  | .error e => CX outer H s E e s'
structure FnOk (P : Program) (w : World) (K : PySem.W.Frag) (mg : Str → Option Value) (base : Heap) (CX : CXT) (k : Nat) (f : Addr) (fd : FuncData) (ps : List Str) (sp : Sp) : Prop where
  len : ∀ vs H Q E, sp vs H Q E → vs.length = ps.length
  run : ∀ (A : Around) (outer : List Env) (s : Shared) (H : Hp) (args : Args) (us : List Value) (vs : List V) (Q : VK) (E : XK), Room k A → Env0 P w K mg base A outer s H → BindsTo s fd args (ps.zip us) → Vals vs us → sp vs H Q E →
    codeAny (model P w) A (.call (.ref f) args) (CR CX outer P w H s Q E) s
theorem FnOk.mono {P : Program} {w : World} {K : PySem.W.Frag} {mg : Str → Option Value} {base : Heap} {CX : CXT} {j k : Nat} {f : Addr} {fd : FuncData} {ps : List Str} {sp : Sp} (F : FnOk P w K mg base CX j f fd ps sp) (h : j ≤ k) :
    FnOk P w K mg base CX k f fd ps sp := ⟨F.len, fun A outer s H args us vs Q E hr => F.run A outer s H args us vs Q E (hr.mono h)⟩
/-- a weaker promise -/
theorem FnOk.imp {P : Program} {w : World} {K : PySem.W.Frag} {mg : Str → Option Value} {base : Heap} {CX : CXT} {k : Nat} {f : Addr} {fd : FuncData} {ps : List Str} {sp sp' : Sp} (F : FnOk P w K mg base CX k f fd ps sp)
    (h : ∀ vs H Q E, sp' vs H Q E → sp vs H Q E) : FnOk P w K mg base CX k f fd ps sp' :=
  ⟨fun vs H Q E q => F.len vs H Q E (h _ _ _ _ q), fun A outer s H args us vs Q E hr he hb hv hs => F.run A outer s H args us vs Q E hr he hb hv (h _ _ _ _ hs)⟩

theorem Env0.in1 {P : Program} {w : World} {K : PySem.W.Frag} {mg : Str → Option Value} {base : Heap} {A : Around} {outer : List Env} {s : Shared} {H : Hp} (e : Env0 P w K mg base A outer s H) :
    Env0 P w K mg base A.in1 outer s H := ⟨e.frames, e.mod, e.bs, e.bsz, e.funs, e.frf, e.hok, e.bare⟩

section
variable {X : Cx} {pins : List (Addr × Obj)} {σ : St} {H : Hp} {s s' : Shared}
/-- from a body: what a callee wants -/
theorem Inv.env0 (I : Inv X pins σ H s) : Env0 X.prog X.w X.K X.mg X.base X.A X.stack s H :=
  ⟨I.ok.frames, I.ok.mod, I.bs, Nat.le_trans I.ok.bsz I.sz, I.stack, I.stkFree, I.hok, I.bare⟩
/-- behind a call -/
theorem Inv.after {Q : VK} {u : Value} (I : Inv X pins σ H s) (h : CE X.stack X.prog X.w H s Q u s') : EP X pins σ Q u s' := by
  obtain ⟨v, H', os, bare, un, hok, r, q⟩ := h
  obtain ⟨hh, g, d, t, os'⟩ := s'
  obtain rfl : os' = s.os := os
  exact ⟨v, H', I.call (h' := hh) (g' := g) (d' := d) (t' := t) (ch := []) un hok bare (fun b z => absurd z (by simp)), r, q⟩
end

/-! ### calls -/
/-- f(..): the written arguments, then the defaults dvs; E: what is wanted of an exception -/
def tCall (sp : Sp) (dvs : List V) (E : XK) (t : TA) : TE := fun σ H Q => t σ H fun vs H1 => sp (vs ++ dvs) H1 Q E
/-- how the parameters are bound: us the positional arguments, kw the keywords' values by name, ds the defaults that fill up -/
def Binds (K : PySem.W.Frag) (fd : FuncData) (ps : List Str) (ds : List Value) : Prop :=
  ∀ (s : Shared) (us : List Value), K.In s.heap → (us ++ ds).length = ps.length → BindsTo s fd ⟨us, []⟩ (ps.zip (us ++ ds))
/-- every parameter is given -/
theorem Binds.all {K : PySem.W.Frag} {fd : FuncData} {ps : List Str} (h : ∀ us : List Value, us.length = ps.length → bindArgs fd ⟨us, []⟩ = pure (ps.zip us)) : Binds K fd ps [] := fun s us _ hl => by
  rw [List.append_nil] at hl ⊢
  exact .of_eq (h us hl)

/-- an exception of a callee reaches what this body wants of exceptions -/
def Passes (CX : CXT) (X : Cx) (E : XK) : Prop := ∀ (pins : List (Addr × Obj)) (σ : St) (H : Hp) (s : Shared) (e : Value) (s' : Shared), Inv X pins σ H s → CX X.stack H s E e s' → X.xe e s'

section
variable {X : Cx} {CX : CXT} {k : Nat} {f C : Addr} {fd : FuncData} {ps : List Str} {sp : Sp} {dvs : List V} {ds : List Value} {E : XK} {x m : Str} {p pos apos : Pos} {e o : Expr} {es : List Expr} {ta : TE} {t : TA}

/-- the callee runs -/
theorem run_fn {pins : List (Addr × Obj)} {σ : St} {H : Hp} {s : Shared} {Q : VK} {us : List Value} {vs : List V} (F : FnOk X.prog X.w X.K X.mg X.base CX k f fd ps sp) (hr : Room k X.A) (hb : Binds X.K fd ps ds) (hd : Vals dvs ds) (hx : Passes CX X E)
    (I : Inv X pins σ H s) (r : Vals vs us) (h : sp (vs ++ dvs) H Q E) : wpAny (model X.prog X.w) X.A (call (.ref f) us) (EP X pins σ Q) X.xe s := by
  have r2 : Vals (vs ++ dvs) (us ++ ds) := r.append hd
  have hl : (us ++ ds).length = ps.length := by rw [← r2.length]; exact F.len _ _ _ _ h
  refine wpAny_call (codeAny_mono (F.run X.A X.stack s H ⟨us, []⟩ (us ++ ds) (vs ++ dvs) Q E hr I.env0 (hb s us I.kIn hl) r2 h) fun r s' hq => ?_)
  cases r with
  | error e => exact hx pins σ H s e s' I hq
  | ok fl =>
    cases fl with
    | ret u => exact I.after hq
    | next => exact False.elim hq
    | brk => exact False.elim hq
    | cont => exact False.elim hq

theorem pe_call (F : FnOk X.prog X.w X.K X.mg X.base CX k f fd ps sp) (hr : Room k X.A) (hg : Gl X x) (hm : X.mg x = some (.ref f)) (hk : PySem.W.keepIn X.K (.ref f) = true) (hb : Binds X.K fd ps ds) (hd : Vals dvs ds) (hx : Passes CX X E)
    (ha : PA X (e :: es) t) (hdb : (x == ("__debug__" : Str)) = false := by decide) (he : starEach (e :: es) X.env = (false, eval e X.env) :: starEach es X.env := by rfl) (hpl : (backTo pos (starEach es X.env)).any (·.1) = false := by rfl) :
    PE X (.Call (.Name x p) (e :: es) [] pos) (tCall sp dvs E t) := by
  intro pins s σ H Q I h
  refine wpAny_Call_Name_kw (ld_glob I hg hm ?_ hdb)
  refine PySem.W.callWith_K (h₀ := X.base) I.ok.mod.kin hk (thn (ha pos pins s σ H _ I h) fun us s1 ⟨vs, H1, I1, r, q⟩ => ⟨I1.kIn, ?_⟩) he hpl
  exact run_fn F hr hb hd hx I1 r q
/-- what a class must have to be made -/
structure Mk (K : PySem.W.Frag) (C f : Addr) : Prop where
  makes : PySem.W.makesIn K C = true
  init : PySem.W.findIn K (.ref C) "__init__" = some (some (.ref f))
  fn : PySem.W.isFn K (.ref f) = true
  kp : PySem.W.keepIn K (.ref C) = true

end

/-! ### keywords -/
section
variable {X : Cx} {CX : CXT} {k : Nat} {f C : Addr} {fd : FuncData} {ps ks : List Str} {sp : Sp} {E : XK} {x m : Str} {p pos apos kpos : Pos} {e o : Expr} {es : List Expr} {kws : List Keyword} {te ta : TE} {t tk : TA} {nm : Option Str}
/-- how a call with keywords binds: g puts the positional values us and the keywords' values ws (names ks) in the parameters' order, defaults among them -/
structure KBinds (K : PySem.W.Frag) (fd : FuncData) (ps ks : List Str) (g : List Value → List Value → List Value) (gV : List V → List V → List V) : Prop where
  to : ∀ (s : Shared) (us ws : List Value), K.In s.heap → (g us ws).length = ps.length → BindsTo s fd ⟨us, ks.zip ws⟩ (ps.zip (g us ws))
  rel : ∀ {vs : List V} {us : List Value} {zs : List V} {ws : List Value}, Vals vs us → Vals zs ws → Vals (gV vs zs) (g us ws)
variable {g : List Value → List Value → List Value} {gV : List V → List V → List V}
end

/-! ### a def's body keeps its promise -/
/-- names: the parameters first -/
structure FnScope (N P : List Str) (sc : Scope) : Prop where
  kind : sc.kind = .function
  co : sc.isCoroutine = false
  gen : sc.isGenerator = false
  nd : N.Nodup
  pre : N.take P.length = P
  par : ∀ x ∈ P, sc.names.lookup x = some .local ∨ sc.names.lookup x = some .cell
  nofree : ∀ y ∈ sc.names, y.2 ≠ .free

theorem bindL_out {kindOf : Str → Option NameKind} {x : Str} : ∀ {binds : List (Str × Value)} {m : Str → Option Value}, (∀ v, (x, v) ∉ binds) → bindL kindOf binds m x = m x
  | [], _, _ => rfl
  | (n, v) :: r, m, h => by
    unfold bindL
    rw [bindL_out fun w hw => h w (List.mem_cons_of_mem _ hw)]
    split
    · have : x ≠ n := by rintro rfl; exact h v List.mem_cons_self
      simp [this]
    · rfl
theorem bindC_out {kindOf : Str → Option NameKind} {x : Str} : ∀ {binds : List (Str × Value)} {m : Str → Option Value}, (∀ v, (x, v) ∉ binds) → bindC kindOf binds m x = m x
  | [], _, _ => rfl
  | (n, v) :: r, m, h => by
    unfold bindC
    rw [bindC_out fun w hw => h w (List.mem_cons_of_mem _ hw)]
    split
    · rfl
    · have : x ≠ n := by rintro rfl; exact h v List.mem_cons_self
      simp [this]
theorem bindL_get {kindOf : Str → Option NameKind} {x : Str} {v : Value} : ∀ {P : List Str} {vs : List Value} {i : Nat} {m : Str → Option Value}, P.Nodup → P[i]? = some x → vs[i]? = some v → kindOf x = some .local →
    bindL kindOf (P.zip vs) m x = some v
  | [], _, _, _, _, h, _, _ => by simp at h
  | _ :: _, [], _, _, _, _, h, _ => by simp at h
  | p :: P, w :: vs, 0, m, nd, h1, h2, hk => by
    simp at h1 h2; subst h1; subst h2
    show bindL kindOf ((p, w) :: P.zip vs) m p = _
    unfold bindL
    rw [bindL_out fun v hv => (List.nodup_cons.mp nd).1 (List.of_mem_zip hv).1, if_pos hk]
    simp
  | p :: P, w :: vs, i + 1, m, nd, h1, h2, hk => by
    show bindL kindOf ((p, w) :: P.zip vs) m x = _
    unfold bindL
    exact bindL_get (i := i) (List.nodup_cons.mp nd).2 (by simpa using h1) (by simpa using h2) hk
theorem bindC_get {kindOf : Str → Option NameKind} {x : Str} {v : Value} : ∀ {P : List Str} {vs : List Value} {i : Nat} {m : Str → Option Value}, P.Nodup → P[i]? = some x → vs[i]? = some v → kindOf x ≠ some .local →
    bindC kindOf (P.zip vs) m x = some v
  | [], _, _, _, _, h, _, _ => by simp at h
  | _ :: _, [], _, _, _, _, h, _ => by simp at h
  | p :: P, w :: vs, 0, m, nd, h1, h2, hk => by
    simp at h1 h2; subst h1; subst h2
    show bindC kindOf ((p, w) :: P.zip vs) m p = _
    unfold bindC
    rw [bindC_out fun v hv => (List.nodup_cons.mp nd).1 (List.of_mem_zip hv).1, if_neg hk]
    simp
  | p :: P, w :: vs, i + 1, m, nd, h1, h2, hk => by
    show bindC kindOf ((p, w) :: P.zip vs) m x = _
    unfold bindC
    exact bindC_get (i := i) (List.nodup_cons.mp nd).2 (by simpa using h1) (by simpa using h2) hk

/-- the names' values at the entry -/
def start (N : List Str) (vs : List V) : St := vs.map some ++ List.replicate (N.length - vs.length) none

/-- the context of a def's body, at its entry; an exception leaves the frame, then lies as CX says -/
def cxOf (CX : CXT) (P : Program) (w : World) (K : PySem.W.Frag) (mg : Str → Option Value) (base : Heap) (N : List Str) (qual : Str) (scope : Scope) (f : Addr) (cd : Value) (A : Around) (outer : List Env) (s : Shared) (H : Hp) (E : XK) : Cx where
  prog := P
  w := w
  K := K
  mg := mg
  base := base
  A := A.deeper (envOfC qual scope s.heap.objs.size f cd)
  N := N
  s₀ := s
  H₀ := H
  env := envOfC qual scope s.heap.objs.size f cd
  outer := outer
  stack := envOfC qual scope s.heap.objs.size f cd :: outer
  ex := []
  calm := true
  fn := fun _ => true
  pn := []
  xe := fun e s' => wpAny (model P w) (A.deeper (envOfC qual scope s.heap.objs.size f cd)) (leaving (envOfC qual scope s.heap.objs.size f cd) e) (fun _ s'' => CX outer H s E e s'') (fun e' s'' => CX outer H s E e' s'') s'

theorem cell_has {sc : Scope} {n : Nat} {x : Str} (h : sc.names.lookup x = some .cell) : ∃ c, (cellsFrom n sc.names []).lookup x = some c := by
  have q := PySem.W.cellsFrom_some sc.names n [] (.inl h)
  exact Option.isSome_iff_exists.mp q

theorem inv_start {CX : CXT} {P : Program} {w : World} {K : PySem.W.Frag} {mg : Str → Option Value} {base : Heap} {N ps : List Str} {qual : Str} {scope : Scope} {f : Addr} {cd : Value} {A : Around} {outer : List Env} {s s1 : Shared} {H : Hp} {E : XK} {us : List Value} {vs : List V}
    (S : FnScope N ps scope) (hd : A.handled = none) (e0 : Env0 P w K mg base A outer s H) (hl : vs.length = ps.length) (r : Vals vs us)
    (x : InCallC s s.heap.objs.size (bindL (envOfC qual scope s.heap.objs.size f cd).kindOf (ps.zip us) fun _ => none) (cellsFrom (s.heap.objs.size + 1) scope.names []) (bindC (envOfC qual scope s.heap.objs.size f cd).kindOf (ps.zip us) fun _ => none) s1) :
    Inv (cxOf CX P w K mg base N qual scope f cd A outer s H E) [] (start N vs) H s1 := by
  have hpl : ps.length ≤ N.length := by have := congrArg List.length S.pre; rw [List.length_take] at this; omega
  obtain ⟨h1, tk, rfl, hk⟩ := x.done
  have noA : ∀ b : Addr, b ∉ (cxOf CX P w K mg base N qual scope f cd A outer s H E).ex := fun b z => absurd (show b ∈ ([] : List Addr) from z) (by simp)
  refine ⟨⟨e0.mod, S.kind, rfl, rfl, Nat.le_refl _, fun y z c h1 h2 => ?_, fun y hy => ?_, fun y c _ h => ?_, fun _ => hd, Around.frames_deeper e0.frames, .inr ⟨rfl, rfl⟩, fun b z => absurd z (noA b), e0.bs, e0.bsz, fun b _ _ => noA b, fun b z => absurd z (noA b), e0.funs, e0.frf⟩,
    rfl, e0.bare, Un.kept hk, ⟨_, x.toInCall.ns, fun i y v h1 h2 h3 => ?_⟩, fun y c h => ⟨_, x.cell y c h⟩, e0.hok.fresh (Nat.le_refl _), fun y c h => ?_, fun p hp => absurd (show p ∈ ([] : List (Addr × Obj)) from hp) (by simp), e0.hok.kept hk, ?_⟩
  · exact name_of_addr x.apart (PySem.mem_of_lookup h1) (PySem.mem_of_lookup h2)
  · have hy : scope.names.lookup y = some .cell ∨ scope.names.lookup y = some .free := hy
    rcases hy with hy | hy
    · exact cell_has hy
    · exact absurd rfl (S.nofree _ (PySem.mem_of_lookup hy))
  · exact Nat.le_of_lt (x.above y c (PySem.mem_of_lookup h))
  · have hi : i < vs.length := by
      unfold start at h2
      by_cases hi : i < vs.length
      · exact hi
      · rw [List.getElem?_append_right (by simpa using hi)] at h2
        rw [List.getElem?_replicate] at h2
        split at h2 <;> cases h2
    have ha : vs[i]? = some v := by
      unfold start at h2
      rw [List.getElem?_append_left (by simpa using hi), List.getElem?_map] at h2
      cases e : vs[i]? with
      | none => rw [e] at h2; cases h2
      | some a => rw [e] at h2; cases h2; rfl
    obtain ⟨u, hu, rv⟩ := r.get ha
    have hp : ps[i]? = some y := by
      rw [← S.pre, List.getElem?_take_of_lt (by omega)]; exact h1
    have ndP : ps.Nodup := by rw [← S.pre]; exact S.nd.sublist (List.take_sublist _ _)
    refine ⟨u, rv, ?_⟩
    rcases S.par y (List.mem_of_getElem? hp) with k | k
    · exact .inl ⟨k, bindL_get ndP hp hu k⟩
    · obtain ⟨c, e⟩ := cell_has (n := s.heap.objs.size + 1) k
      refine .inr ⟨.inl k, c, e, ?_⟩
      have q := x.cell y c e
      rw [bindC_get ndP hp hu (by show scope.names.lookup y ≠ _; rw [k]; decide)] at q
      exact q
  · exact e0.hok.fresh (Nat.le_of_lt (x.above y c (PySem.mem_of_lookup h)))
  · unfold start
    show _ = N.length
    rw [List.length_append, List.length_map, List.length_replicate]
    omega

/-- THE RULE: a def (or a method) of the text, by its body. The body's reading t is chosen for each entry; it is run at the parameters' values -/
theorem fn_of {CX : CXT} {P : Program} {w : World} {K : PySem.W.Frag} {mg : Str → Option Value} {base : Heap} {k : Nat} {f : Addr} {name qual : Str} {params : Arguments} {body : List Stmt} {scope : Scope} {dV kV doc pm cdv ct oc : Value} {an od : Option Addr}
    {osl : Array (Option Value)} {N ps : List Str} {sp : Sp} (lk : K.lookup f = some ⟨oc, od, .func (PySem.W.fnOf name qual params body scope dV kV doc pm an cdv ct), osl⟩) (hcd : PySem.W.codeIn K cdv qual = true) (S : FnScope N ps scope)
    (len : ∀ vs H Q E, sp vs H Q E → vs.length = ps.length)
    (hbody : ∀ (A : Around) (outer : List Env) (s : Shared) (H : Hp) (vs : List V) (Q : VK) (E : XK), Room k (A.deeper (envOfC qual scope s.heap.objs.size f cdv)) → sp vs H Q E →
      ∃ t, PSs (cxOf CX P w K mg base N qual scope f cdv A outer s H E) body t ∧ t { nx := fun _ H' => Q .non H', rt := Q } (start N vs) H) :
    FnOk P w K mg base CX (k + 1) f (PySem.W.fnOf name qual params body scope dV kV doc pm an cdv ct) ps sp := by
  refine ⟨len, fun A outer s H args us vs Q E hr e0 hb r hsp => ?_⟩
  have hl := len _ _ _ _ hsp
  have KX : K.In s.heap := e0.mod.kin.keeps fun b o e => (e0.bs b o e).1
  have lim : s.heap.NoLimit := e0.mod.nolimit.keeps fun b o e => (e0.bs b o e).1
  have hkind : ∀ y ∈ ps.zip us, scope.names.lookup y.1 = some .local ∨ (scope.names.lookup y.1 = some .cell ∧ ((cellsFrom (s.heap.objs.size + 1) scope.names []).lookup y.1).isSome = true) := fun ⟨n, v⟩ hy => by
    rcases S.par n (List.of_mem_zip hy).1 with q | q
    · exact .inl q
    · exact .inr ⟨q, PySem.W.cellsFrom_some _ _ _ (.inl q)⟩
  refine codeAny_call_function hr.depth (KX _ _ lk) rfl S.co S.gen rfl (PySem.W.codeRec_of KX hcd) (hb _ _ _ _ ?_)
  refine wpAny_newFunctionEnv_cells S.kind hkind fun env he s1 x => ?_
  subst he
  refine ⟨lim.keeps x.toInCall.keep, codeAny_func ?_⟩
  obtain ⟨t, ht, hq⟩ := hbody A outer s H vs Q E (hr.deeper _) hsp
  have I : Inv (cxOf CX P w K mg base N qual scope f cdv A outer s H E) [] (start N vs) H s1 := inv_start S hr.hd e0 hl r x
  refine wpAny_mono (ht [] s1 (start N vs) H _ I hq) (fun fl s' hs => ?_) fun e s' hs => hs
  have fin : ∀ {σ' : St} {H' : Hp} {v : V} {u : Value}, Inv (cxOf CX P w K mg base N qual scope f cdv A outer s H E) [] σ' H' s' → RelV v u → Q v H' → CE outer P w H s Q u s' :=
    fun {σ' H' v u} J rv q => ⟨v, H', J.os, J.bare, J.base, J.hok, rv, q⟩
  cases fl with
  | ret u =>
    obtain ⟨v, σ', H', J, rv, q⟩ := hs
    exact fin J rv q
  | next =>
    obtain ⟨σ', H', J, q⟩ := hs
    exact fin (v := V.non) (u := Value.none) J rfl q
  | brk =>
    obtain ⟨_, _, _, q⟩ := hs
    exact False.elim q
  | cont =>
    obtain ⟨_, _, _, q⟩ := hs
    exact False.elim q
end L2

namespace L2
open PySem PySem.Spec PyProof.Rows
section
variable {X : Cx} {x : Str} {p pos : Pos} {e : Expr} {es : List Expr} {t : TA} {id T : String} {r : List V → Hp → VK → Prop}

def tCB (r : List V → Hp → VK → Prop) (t : TA) : TE := fun σ H Q => t σ H fun vs H1 => r vs H1 Q
/-- f(e, ..), f a built-in function -/
theorem pe_callB (hc : CallR X (.builtin id) r) (hg : Gl X x) (hm : X.mg x = none) (hv : bootBuiltins x = some (.builtin id)) (ha : PA X (e :: es) t) (hn : x ≠ "__name__" := by decide) (hdb : (x == ("__debug__" : Str)) = false := by decide)
    (he : starEach (e :: es) X.env = (false, eval e X.env) :: starEach es X.env := by rfl) (hpl : (backTo pos (starEach es X.env)).any (·.1) = false := by rfl) : PE X (.Call (.Name x p) (e :: es) [] pos) (tCB r t) := by
  intro pins s σ H Q I h
  refine wpAny_Call_Name_kw (ld_blt I hg hm hv ?_ hn hdb)
  exact PyProof.Rows.callWith_builtin1 (thn (ha pos pins s σ H _ I h) fun us s1 ⟨vs, H1, I1, r1, q1⟩ => hc pins s1 σ H1 vs us Q I1 r1 q1) he hpl
/-- T(e, ..), T a built-in type -/
theorem pe_callTy (hc : CallR X (.type T) r) (hg : Gl X x) (hm : X.mg x = none) (hv : bootBuiltins x = some (.type T)) (ha : PA X (e :: es) t) (hn : x ≠ "__name__" := by decide) (hdb : (x == ("__debug__" : Str)) = false := by decide)
    (he : starEach (e :: es) X.env = (false, eval e X.env) :: starEach es X.env := by rfl) (hpl : (backTo pos (starEach es X.env)).any (·.1) = false := by rfl) : PE X (.Call (.Name x p) (e :: es) [] pos) (tCB r t) := by
  intro pins s σ H Q I h
  refine wpAny_Call_Name_kw (ld_blt I hg hm hv ?_ hn hdb)
  exact PyProof.Rows.callWith_type1 (thn (ha pos pins s σ H _ I h) fun us s1 ⟨vs, H1, I1, r1, q1⟩ => hc pins s1 σ H1 vs us Q I1 r1 q1) he hpl
end
end L2

namespace HT
open PySem PyProof.Rows

section
open PySem.SeqAt
open PySem.AutoSeq1 (wpAny_loadPart')
open PySem.MeetsSeq PySem.MeetsSeq2 PySem.MeetsSeq3

end

section
variable {prog : Program} {w : World} {A : Around} {E : Value → Shared → Prop} {s : Shared}

/-- t + u, t not empty -/
theorem cat_tup {t b : Addr} {vs ws : List Value} {Q : Value → Shared → Prop} (ht : IsTup s.heap t vs.toArray) (hb : IsTup s.heap b ws.toArray) (hv : vs ≠ [])
    (h1 : ws = [] → Q (.ref t) s) (h2 : ws ≠ [] → Q (.ref s.heap.objs.size) { s with heap := s.heap.push { cls := .type "tuple", data := .seq (vs ++ ws).toArray } })
    (hsz : vs.length + ws.length ≤ sizeLine) : wpAny (model prog w) A (binaryOp .Add (.ref t) (.ref b)) Q E s := by
  obtain ⟨⟨cls, dd, data, sl⟩, ho, hc, n, hd⟩ := id ht
  obtain ⟨⟨cls2, dd2, data2, sl2⟩, ho2, hc2, n2, hd2⟩ := id hb
  simp only at hc hd hc2 hd2
  subst hc hd hc2 hd2
  have e : vs.toArray ++ ws.toArray = (vs ++ ws).toArray := by simp
  by_cases hw : ws = []
  · exact concat_meets ⟨_, ho, rfl⟩ ⟨_, ho2, rfl⟩ noFill_tuple_add seq_tuple_add PySem.F.slot_tuple_add PySem.F.entry_tuple_add (PySem.F.args_tuple_add_2 _ _)
      (tuple_addW1 t b vs.toArray ws.toArray n n2 dd dd2 sl sl2 (by simpa using hv) (by simp [hw])) ⟨ho, ho2, h1 hw⟩
  · refine concat_meets ⟨_, ho, rfl⟩ ⟨_, ho2, rfl⟩ noFill_tuple_add seq_tuple_add PySem.F.slot_tuple_add PySem.F.entry_tuple_add (PySem.F.args_tuple_add_2 _ _)
      (tuple_addW2 t b vs.toArray ws.toArray n n2 dd dd2 sl sl2 (by simpa using hv) (by simpa using hw) (by rw [List.size_toArray, List.size_toArray]; exact hsz)) ⟨ho, ho2, ?_⟩
    rw [e]
    exact h2 hw

/-! ### t[a:b], not the whole -/
/-- a slice's bound as a place among n (d where it is left out) -/
def sIx (n d : Nat) : Option Int → Nat
  | none => d
  | some v => if v < 0 then (v + (n : Int)).toNat else min v.toNat n
theorem sIx_le (n d : Nat) (hd : d ≤ n) (o : Option Int) : sIx n d o ≤ n := by
  cases o with
  | none => exact hd
  | some v =>
    show (if v < 0 then (v + (n : Int)).toNat else min v.toNat n) ≤ n
    by_cases hv : v < 0
    · rw [if_pos hv]; omega
    · rw [if_neg hv]; exact Nat.min_le_right _ _
theorem clip_eq (v : Int) (n d : Nat) : (if v < 0 then max (v + (n : Int)) 0 else min v (n : Int)) = ((sIx n d (some v) : Nat) : Int) := by
  show (if v < 0 then max (v + (n : Int)) 0 else min v (n : Int)) = (((if v < 0 then (v + (n : Int)).toNat else min v.toNat n) : Nat) : Int)
  by_cases hv : v < 0
  · simp only [if_pos hv]; omega
  · simp only [if_neg hv]; omega
theorem adjust_gen (lo hi : Option Int) (n : Nat) : Builtin.Slice.sliceAdjust lo hi 1 (n : Int) = (((sIx n 0 lo : Nat) : Int), ((sIx n n hi : Nat) : Int)) := by
  have h1 : ¬ ((1 : Int) < 0) := by omega
  unfold Builtin.Slice.sliceAdjust
  simp only [h1, if_false]
  refine Prod.ext ?_ ?_
  · cases lo with
    | none => rfl
    | some v => exact clip_eq v n 0
  · cases hi with
    | none => rfl
    | some v => exact clip_eq v n n
theorem places_gen (i j : Nat) : Builtin.Slice.slicePlaces (i : Int) (j : Int) 1 = j - i := by
  unfold Builtin.Slice.slicePlaces
  have h1 : (1 : Int) > 0 := by omega
  simp only [h1, if_true, Int.ediv_one]
  split <;> omega
theorem slicePart_ {v : Value} {o : Option Int} {Q : Option Int → Shared → Prop} (p : IsPart v o) (h : Q o s) : wpAny (model prog w) A (Builtin.Slice.slicePartIndex v) Q E s := by
  cases p with
  | none => exact slicePart_none h
  | int i t => exact slicePart_int h
theorem sliceApplied_gen {sl : Addr} {vl vu : Value} {lo hi : Option Int} {n : Nat} {Q : Int × Int × Nat → Shared → Prop} (hs : s.heap.IsSliceOf sl vl vu .none) (pl : IsPart vl lo) (pu : IsPart vu hi)
    (h : Q (((sIx n 0 lo : Nat) : Int), 1, sIx n n hi - sIx n 0 lo) s) : wpAny (model prog w) A (Builtin.Slice.sliceApplied (.ref sl) (pure (n : Int))) Q E s := by
  obtain ⟨os, hos, hcs, hds⟩ := id hs
  unfold Builtin.Slice.sliceApplied Builtin.Slice.sliceFields
  refine wpAny_bind (wpAny_bind (wpAny_field hos hds (x := vl) rfl (wpAny_bind (wpAny_field hos hds (x := vu) rfl (wpAny_bind (wpAny_field hos hds (x := .none) rfl (wpAny_pure ?_)))))))
  refine wpAny_bind (slicePart_none ?_)
  show wpAny _ _ (if ((1 : Int) == 0) = true then _ else _) _ _ s
  rw [if_neg (by decide)]
  refine wpAny_bind (slicePart_ pl (wpAny_bind (slicePart_ pu (wpAny_bind (wpAny_pure ?_)))))
  show wpAny _ _ (match Builtin.Slice.sliceAdjust lo hi 1 (n : Int) with | (lo, hi) => pure (lo, (1 : Int), Builtin.Slice.slicePlaces lo hi 1)) _ _ s
  rw [adjust_gen lo hi n]
  show wpAny _ _ (pure (((sIx n 0 lo : Nat) : Int), (1 : Int), Builtin.Slice.slicePlaces ((sIx n 0 lo : Nat) : Int) ((sIx n n hi : Nat) : Int) 1)) _ _ s
  rw [places_gen]
  exact wpAny_pure h
theorem pick_gen (xs : Array Value) (i k : Nat) : ((List.range k).filterMap fun (m : Nat) => xs[((i : Int) + (m : Int) * 1).toNat]?).toArray = ((xs.toList.drop i).take k).toArray := by
  have e : (fun (m : Nat) => xs[((i : Int) + (m : Int) * 1).toNat]?) = fun m => xs[i + m]? := by
    funext m
    have : ((i : Int) + (m : Int) * 1).toNat = i + m := by omega
    rw [this]
  rw [e]
  have := pick_run xs i k
  rw [List.filterMap_map] at this
  have e2 : ((fun x => xs[x]?) ∘ fun x => i + x) = fun m => xs[i + m]? := rfl
  rw [e2] at this
  rw [this]

theorem getItem_tuple_cut {t sl : Addr} {items : Array Value} {vl vu : Value} {lo hi : Option Int} {Q : Value → Shared → Prop} (ht : IsTup s.heap t items) (hs : s.heap.IsSliceOf sl vl vu .none) (pl : IsPart vl lo) (pu : IsPart vu hi)
    (hw : ¬ (sIx items.size 0 lo = 0 ∧ sIx items.size items.size hi = items.size))
    (h : Q (.ref s.heap.objs.size) { s with heap := s.heap.push { cls := .type "tuple", data := .seq ((items.toList.drop (sIx items.size 0 lo)).take (sIx items.size items.size hi - sIx items.size 0 lo)).toArray } })
    (hsz : items.size ≤ sizeLine) : wpAny (model prog w) A (getItem (.ref t) (.ref sl)) Q E s := by
  have htake : sizeOk (.seq ((items.toList.drop (sIx items.size 0 lo)).take (sIx items.size items.size hi - sIx items.size 0 lo)).toArray) := by
    show ((items.toList.drop (sIx items.size 0 lo)).take (sIx items.size items.size hi - sIx items.size 0 lo)).toArray.size ≤ sizeLine
    rw [List.size_toArray, List.length_take, List.length_drop, Array.length_toList]
    omega
  have hj : sIx items.size items.size hi ≤ items.size := sIx_le _ _ (Nat.le_refl _) hi
  obtain ⟨os, hos, hcs, hds⟩ := id hs
  have hTs : s.TypeIs (.ref sl) "slice" := ⟨os, hos, hcs⟩
  unfold getItem
  try with_reducible refine wpAny_holding ?_
  first | refine wpAny_bind (wpAny_pure ?_) | skip
  refine wpAny_bind (wpAny_sequenceKey ht.typeIs (by decide) ?_)
  refine wpAny_bind (wpAny_callSpecial?_slot (name := Str.ofString "__getitem__") ht.typeIs PyProof.Rows.slot_tuple_getitem
    (wpAny_call_entry PyProof.Rows.slot_tuple_getitem ht.typeIs entry_tuple_getitem ?_ (args_tuple_getitem _ _)))
  show wpAny _ _ (Builtin.Tuple.tupleItemsOf (.ref t) >>= _) _ _ s
  refine wpAny_bind (tupleItemsOf_ ht ?_)
  refine wpAny_bind (wpAny_typeOf hTs ?_)
  rw [if_pos (by decide)]
  refine wpAny_bind (sliceApplied_gen hs pl pu ?_)
  have hno : ¬ ((((sIx items.size 0 lo : Nat) : Int) == 0 && (1 : Int) == 1 && (sIx items.size items.size hi - sIx items.size 0 lo) == items.size) = true) := by
    intro q
    rw [Bool.and_eq_true, Bool.and_eq_true] at q
    have q1 : ((sIx items.size 0 lo : Nat) : Int) = 0 := eq_of_beq q.1.1
    have q2 : sIx items.size items.size hi - sIx items.size 0 lo = items.size := eq_of_beq q.2
    exact hw ⟨by omega, by omega⟩
  show wpAny _ _ (if (((sIx items.size 0 lo : Nat) : Int) == 0 && (1 : Int) == 1 && (sIx items.size items.size hi - sIx items.size 0 lo) == items.size) = true then _ else _) _ _ s
  rw [if_neg hno, pick_gen]
  first
    | exact wpAny_bind (m := Builtin.Tuple.tupleExact _) (wpAny_newObj_type (wpAny_pure ⟨_, rfl, wpAny_pure h⟩) htake)
    | exact wpAny_bind (m := Builtin.Tuple.tupleExact _) (wpAny_newObj_type (wpAny_bind (wpAny_pure (wpAny_pure ⟨_, rfl, wpAny_pure h⟩))) htake)
    | exact wpAny_bind (wpAny_bind (m := Builtin.Tuple.tupleExact _) (wpAny_newObj_type (wpAny_pure (wpAny_pure ⟨_, rfl, wpAny_pure h⟩)) htake))
    | exact wpAny_bind (wpAny_bind (m := Builtin.Tuple.tupleExact _) (wpAny_newObj_type (wpAny_pure ⟨_, rfl, wpAny_pure h⟩) htake))
end
end HT

namespace L2
open PySem PySem.Spec PyProof.Rows

/-! ### the parts of a slice -/
abbrev TO := St → Hp → (Option Int → Hp → Prop) → Prop
/-- a slice's part (left out, or an int) -/
def PO (X : Cx) (e : Option Expr) (t : TO) : Prop :=
  ∀ (pins : List (Addr × Obj)) (s : Shared) (σ : St) (H : Hp) (Q : Option Int → Hp → Prop), Inv X pins σ H s → t σ H Q →
    wpAny (model X.prog X.w) X.A (evalPart e X.env) (fun u s' => ∃ o H', Inv X pins σ H' s' ∧ IsPart u o ∧ Q o H') X.xe s
def tNoPart : TO := fun _ H Q => Q none H
def tPart (t : TE) : TO := fun σ H Q => t σ H fun x H1 => ∃ i, x = .int i ∧ Q (some i) H1

section
variable {X : Cx} {e : Expr} {te : TE} {lo hi : Option Expr} {tl th : TO} {pos p2 : Pos}

theorem po_none : PO X none tNoPart := by
  intro pins s σ H Q I h
  rw [evalPart_none]
  exact wpAny_pure ⟨none, H, I, .none, h⟩
theorem po_some (h : PE X e te) : PO X (some e) (tPart te) := by
  intro pins s σ H Q I hw
  rw [evalPart_some]
  refine thn (h pins s σ H _ I hw) fun u s1 ⟨x, H1, I1, r1, q1⟩ => ?_
  obtain ⟨i, rfl, q⟩ := q1
  obtain ⟨t, rfl⟩ := r1
  exact ⟨some i, H1, I1, .int i t, q⟩

/-- what a slice of a value is, by values: the slice object stands at sl -/
def SlR (X : Cx) (r : V → Option Int → Option Int → Hp → VK → Prop) : Prop :=
  ∀ (pins : List (Addr × Obj)) (s : Shared) (σ : St) (H : Hp) (x : V) (v vl vu : Value) (lo hi : Option Int) (sl : Addr) (Q : VK), Inv X pins σ H s → RelV x v → s.heap.IsSliceOf sl vl vu .none → IsPart vl lo → IsPart vu hi → r x lo hi H Q →
    ∃ T id, typeLookup (.type T) "__getitem__" = pure (some (.builtin id)) ∧ s.TypeIs v T ∧ wpAny (model X.prog X.w) X.A (getItem v (.ref sl)) (EP X pins σ Q) X.xe s
theorem SlR.or {r r' : V → Option Int → Option Int → Hp → VK → Prop} (h : SlR X r) (h' : SlR X r') : SlR X (fun x lo hi H Q => r x lo hi H Q ∨ r' x lo hi H Q) := by
  intro pins s σ H x v vl vu lo hi sl Q I rx hs pl pu q
  rcases q with q | q
  · exact h pins s σ H x v vl vu lo hi sl Q I rx hs pl pu q
  · exact h' pins s σ H x v vl vu lo hi sl Q I rx hs pl pu q
def tSl (r : V → Option Int → Option Int → Hp → VK → Prop) (te : TE) (tl th : TO) : TE := fun σ H Q => te σ H fun x H1 => tl σ H1 fun l H2 => th σ H2 fun u H3 => r x l u H3 Q
/-- a[lo:hi], any a -/
theorem pe_slice {r : V → Option Int → Option Int → Hp → VK → Prop} (hr : SlR X r) (he : PE X e te) (hl : PO X lo tl) (hu : PO X hi th) : PE X (.Subscript e (.Slice lo hi none p2) pos) (tSl r te tl th) := by
  intro pins s σ H Q I h
  refine Subscript_ (thn (he pins s σ H _ I h) fun v s1 ⟨x, H1, I1, r1, q1⟩ => ?_)
  refine wpAny_Slice (thn (hl pins s1 σ H1 _ I1 q1) fun vl s2 ⟨l, H2, I2, pl, q2⟩ => thn (hu pins s2 σ H2 _ I2 q2) fun vu s3 ⟨u, H3, I3, pu, q3⟩ => ?_)
  rw [evalPart_none]
  refine wpAny_pure ?_
  have I4 : Inv X pins σ H3 { s3 with heap := s3.heap.push { cls := .type "slice", data := .fields #[vl, vu, .none] } } := I3.kept (t' := s3.toks) fun b ob q => Heap.get?_push_of_some _ q
  obtain ⟨T, id, hT, ht, hg⟩ := hr pins { s3 with heap := s3.heap.push { cls := .type "slice", data := .fields #[vl, vu, .none] } } σ H3 x v vl vu l u s3.heap.objs.size Q I4 r1 (Heap.IsSliceOf.new ..) pl pu q3
  show wpAny (model X.prog X.w) X.A (subscriptTail e (.Slice lo hi none p2) v (.ref s3.heap.objs.size)) (EP X pins σ Q) X.xe { s3 with heap := s3.heap.push { cls := .type "slice", data := .fields #[vl, vu, .none] } }
  exact tail_any (ops := [.ref s3.heap.objs.size, v]) ht hT hg (by with_unfolding_all rfl)

/-- the items of xs[lo:hi] -/
def cutV (xs : List V) (lo hi : Option Int) : List V := (xs.drop (HT.sIx xs.length 0 lo)).take (HT.sIx xs.length xs.length hi - HT.sIx xs.length 0 lo)
theorem cutV_length (xs : List V) (lo hi : Option Int) : (cutV xs lo hi).length ≤ xs.length := by
  unfold cutV
  rw [List.length_take, List.length_drop]
  omega
/-- t[lo:hi], not the whole of it (the whole would be t itself) -/
def rSlT (K : PySem.W.Frag) : V → Option Int → Option Int → Hp → VK → Prop := fun x lo hi H Q => ∃ a xs, x = .ref a ∧ SqT K H a xs ∧
  ¬ (HT.sIx xs.length 0 lo = 0 ∧ HT.sIx xs.length xs.length hi = xs.length) ∧ ∀ p, H p = none → Q (.ref p) (upd H p (.tup (cutV xs lo hi)))
theorem sl_tup : SlR X (rSlT X.K) := by
  intro pins s σ H x v vl vu lo hi sl Q I rx hs pl pu h
  obtain ⟨a, xs, rfl, hx, hw, q⟩ := h
  cases rx
  obtain ⟨its, r, ht, hz⟩ := I.tuple hx
  have hlen : its.toArray.size = xs.length := by rw [List.size_toArray]; exact r.length.symm
  refine ⟨"tuple", _, PyProof.Rows.slot_tuple_getitem.lookup, ht.typeIs, ?_⟩
  refine HT.getItem_tuple_cut ht hs pl pu (by rw [hlen]; exact hw) ?_ (by rw [hlen]; exact hz)
  rw [hlen]
  refine ⟨.ref s.heap.objs.size, _, I.laid (t' := s.toks) (o := .tup (cutV xs lo hi)) (fun b ob q => Heap.get?_push_of_some _ q) (Nat.le_refl _) ?_, rfl, q _ (I.hok.fresh (Nat.le_refl _))⟩
  exact ⟨Nat.le_trans (cutV_length xs lo hi) hz, _, (r.drop (HT.sIx xs.length 0 lo)).take (HT.sIx xs.length xs.length hi - HT.sIx xs.length 0 lo), IsTup.new _ _⟩

/-! ### t < u, t + u -/
/-- t + u, t not empty: u empty gives t itself -/
def rCatT (K : PySem.W.Frag) : R2 := fun x y H Q => ∃ a b xs ys, x = .ref a ∧ y = .ref b ∧ SqT K H a xs ∧ SqT K H b ys ∧ xs ≠ [] ∧ xs.length + ys.length ≤ sizeLine ∧
  (ys = [] → Q (.ref a) H) ∧ (ys ≠ [] → ∀ p, H p = none → Q (.ref p) (upd H p (.tup (xs ++ ys))))
theorem Vals.nil_iff {xs : List V} {us : List Value} (r : Vals xs us) : us = [] ↔ xs = [] := by
  cases r with
  | nil => simp
  | cons _ _ => simp
theorem op_catT : OpR X (binaryOp .Add) (rCatT X.K) := by
  intro pins s σ H x y v u Q I rx ry h
  obtain ⟨a, b, xs, ys, rfl, rfl, ha, hb, hx, hz, q1, q2⟩ := h
  cases rx
  cases ry
  obtain ⟨its, r1, p1, _⟩ := I.tuple ha
  obtain ⟨its2, r2, p2, _⟩ := I.tuple hb
  refine HT.cat_tup p1 p2 (fun z => hx (r1.nil_iff.mp z)) (fun z => ⟨.ref a, H, I, rfl, q1 (r2.nil_iff.mp z)⟩) (fun z => ?_) (by rw [← r1.length, ← r2.length]; exact hz)
  refine ⟨.ref s.heap.objs.size, _, I.laid (t' := s.toks) (o := .tup (xs ++ ys)) (fun b ob q => Heap.get?_push_of_some _ q) (Nat.le_refl _) ?_, rfl, q2 (fun w => z (r2.nil_iff.mpr w)) _ (I.hok.fresh (Nat.le_refl _))⟩
  exact ⟨by rw [List.length_append]; exact hz, _, r1.append r2, IsTup.new _ _⟩
end
end L2

namespace L2
open PySem PySem.Spec PyProof.Rows

/-! ### places -/
/-- the place that an index of any sign means -/
def ixN (n : Nat) (i : Int) : Option Nat := if 0 ≤ i then (if i < n then some i.toNat else none) else if -(n : Int) ≤ i then some (i + n).toNat else none
def atI {α : Type} (xs : List α) (i : Int) : Option α := (ixN xs.length i).bind fun j => xs[j]?
theorem ixN_seq {n : Nat} {i : Int} {j : Nat} (h : ixN n i = some j) : seqIndex? i n = some j ∧ j < n ∧ -(n : Int) ≤ i ∧ i < n := by
  unfold ixN at h
  by_cases h0 : 0 ≤ i
  · rw [if_pos h0] at h
    by_cases h1 : i < n
    · rw [if_pos h1] at h
      have e : i.toNat = j := Option.some.inj h
      exact ⟨by rw [seqIndex_of h0 h1, e], by omega, by omega, h1⟩
    · rw [if_neg h1] at h; cases h
  · rw [if_neg h0] at h
    by_cases h1 : -(n : Int) ≤ i
    · rw [if_pos h1] at h
      have e : (i + n).toNat = j := Option.some.inj h
      exact ⟨by rw [seqIndex_neg (by omega) h1, e], by omega, h1, by omega⟩
    · rw [if_neg h1] at h; cases h
theorem atI_get {α : Type} {xs : List α} {i : Int} {v : α} (h : atI xs i = some v) : ∃ j, seqIndex? i xs.length = some j ∧ xs[j]? = some v ∧ j < xs.length ∧ -(xs.length : Int) ≤ i ∧ i < xs.length := by
  unfold atI at h
  cases e : ixN xs.length i with
  | none => rw [e] at h; cases h
  | some j =>
    rw [e] at h
    obtain ⟨h1, h2, h3, h4⟩ := ixN_seq e
    exact ⟨j, h1, h, h2, h3, h4⟩
/-! ### what may be subscripted -/
/-- what stands as an index of a plain subscript -/
def PlainIx (b : Expr) : Prop := ∀ o i, subscripted b false o i = operate [o, i] (getItem o i)
/-- a subscript by values -/
def IxR (X : Cx) (r : R2) : Prop :=
  ∀ (value slice : Expr) (pins : List (Addr × Obj)) (s : Shared) (σ : St) (H : Hp) (x y : V) (v u : Value) (Q : VK), Inv X pins σ H s → RelV x v → RelV y u → r x y H Q →
    subscripted slice false v u = operate [v, u] (getItem v u) → wpAny (model X.prog X.w) X.A (subscriptTail value slice v u) (EP X pins σ Q) X.xe s
/-- a call of a builtin's method by values: the receiver, the arguments -/
def MtR (X : Cx) (id : String) (r : V → List V → Hp → VK → Prop) : Prop :=
  ∀ (pins : List (Addr × Obj)) (s : Shared) (σ : St) (H : Hp) (x : V) (xs : List V) (v : Value) (us : List Value) (Q : VK), Inv X pins σ H s → RelV x v → Vals xs us → r x xs H Q →
    wpAny (model X.prog X.w) X.A (call (.builtin id) (v :: us)) (EP X pins σ Q) X.xe s
section
variable {X : Cx} {a b : Expr} {ta tb : TE} {pos : Pos}
theorem IxR.or {r r' : R2} (h : IxR X r) (h' : IxR X r') : IxR X (fun x y H Q => r x y H Q ∨ r' x y H Q) := by
  intro value slice pins s σ H x y v u Q I rx ry q hs
  rcases q with q | q
  · exact h value slice pins s σ H x y v u Q I rx ry q hs
  · exact h' value slice pins s σ H x y v u Q I rx ry q hs
theorem MtR.or {id : String} {r r' : V → List V → Hp → VK → Prop} (h : MtR X id r) (h' : MtR X id r') : MtR X id (fun x xs H Q => r x xs H Q ∨ r' x xs H Q) := by
  intro pins s σ H x xs v us Q I rx rs q
  rcases q with q | q
  · exact h pins s σ H x xs v us Q I rx rs q
  · exact h' pins s σ H x xs v us Q I rx rs q
/-- a[b] -/
theorem pe_ix {r : R2} (hr : IxR X r) (ha : PE X a ta) (hb : PE X b tb) (hs : PlainIx b) : PE X (.Subscript a b pos) (tOp r ta tb) := by
  intro pins s σ H Q I h
  exact Subscript_ (binT ha hb I h fun v u s2 x y H2 I2 rx ry q => hr a b pins s2 σ H2 x y v u Q I2 rx ry q (hs _ _))

def rIxL (K : PySem.W.Frag) : R2 := fun x y H Q => ∃ p xs i v, x = .ref p ∧ y = .int i ∧ SqL K H p xs ∧ atI xs i = some v ∧ Q v H
def rIxT (K : PySem.W.Frag) : R2 := fun x y H Q => ∃ p xs i v, x = .ref p ∧ y = .int i ∧ SqT K H p xs ∧ atI xs i = some v ∧ Q v H
theorem ix_list : IxR X (rIxL X.K) := by
  intro value slice pins s σ H x y v u Q I rx ry h hs
  obtain ⟨p, xs, i, z, rfl, rfl, hq, he, q⟩ := h
  cases rx
  obtain ⟨t, rfl⟩ := ry
  obtain ⟨its, r, pl, hz⟩ := I.list hq
  obtain ⟨j, h1, h2, h3, h4, h5⟩ := atI_get he
  obtain ⟨w, ew, rw'⟩ := r.get h2
  have hl := r.length
  have hn := line63
  have fin : EP X pins σ Q w s := ⟨z, H, I, rw', q⟩
  by_cases h0 : 0 ≤ i
  · have hj : i.toNat = j := by
      rw [seqIndex_of h0 h5] at h1
      exact Option.some.inj h1
    exact item_listR pl.isList h0 (by omega) (by rw [hj]; simpa using ew) fin hs
  · have hj : (i + (its.toArray.size : Int)).toNat = j := by
      rw [seqIndex_neg (by omega) h4] at h1
      rw [List.size_toArray, ← hl]
      exact Option.some.inj h1
    exact subscriptTail_builtinR (x := w) pl.isList.typeIs slot_list_getitem.lookup
      (wpAny_getItem_list_neg (Q := fun r s' => r = w ∧ EP X pins σ Q r s') pl.isList (by omega) (by rw [List.size_toArray] <;> omega) (by omega) (by rw [hj]; simpa using ew) ⟨rfl, fin⟩) hs
theorem ix_tup : IxR X (rIxT X.K) := by
  intro value slice pins s σ H x y v u Q I rx ry h hs
  obtain ⟨p, xs, i, z, rfl, rfl, hq, he, q⟩ := h
  cases rx
  obtain ⟨t, rfl⟩ := ry
  obtain ⟨its, r, pl, hz⟩ := I.tuple hq
  obtain ⟨j, h1, h2, h3, h4, h5⟩ := atI_get he
  obtain ⟨w, ew, rw'⟩ := r.get h2
  have hl := r.length
  have hn := line63
  have fin : EP X pins σ Q w s := ⟨z, H, I, rw', q⟩
  exact subscriptTail_builtinR (x := w) pl.typeIs slot_tuple_getitem.lookup
    (getItem_tuple (j := j) (Q := fun r s' => r = w ∧ EP X pins σ Q r s') pl (by omega) (by omega) (by rw [List.size_toArray, ← hl]; exact h1) (by simpa using ew) ⟨rfl, fin⟩) hs
/-! ### xs[i] = v, any sign -/
theorem Inv.lst {pins : List (Addr × Obj)} {σ : St} {H : Hp} {s : Shared} {p : Addr} {xs : List V} (I : Inv X pins σ H s) (h : H p = some (.lst xs)) :
    ∃ (its : List Value) (n : Nat), Vals xs its ∧ s.heap.get? p = some { cls := .type "list", data := .seq its.toArray n } ∧ xs.length ≤ sizeLine := by
  obtain ⟨z, its, n, r, e⟩ := I.hok p _ h
  exact ⟨its, n, r, e, z⟩
/-! ### slices -/
theorem slice_bounds (lo hi : Option Int) (n : Nat) : (sliceBounds lo hi none n).1 = ((HT.sIx n 0 lo : Nat) : Int) ∧ (sliceBounds lo hi none n).2.1 = ((HT.sIx n n hi : Nat) : Int) ∧ (sliceBounds lo hi none n).2.2 = 1 := by
  refine ⟨?_, ?_, rfl⟩
  · cases lo with
    | none => simp [sliceBounds, HT.sIx]
    | some i =>
      simp only [sliceBounds, HT.sIx, Option.getD_none, show (1 : Int) > 0 by decide, if_true]
      by_cases h : i < 0
      · simp only [h, if_true] <;> omega
      · simp only [h, if_false] <;> omega
  · cases hi with
    | none => simp [sliceBounds, HT.sIx]
    | some i =>
      simp only [sliceBounds, HT.sIx, Option.getD_none, show (1 : Int) > 0 by decide, if_true]
      by_cases h : i < 0
      · simp only [h, if_true] <;> omega
      · simp only [h, if_false] <;> omega
theorem slicePick_cut (its : List Value) (lo hi : Option Int) : slicePick its.toArray lo hi none = ((its.drop (HT.sIx its.length 0 lo)).take (HT.sIx its.length its.length hi - HT.sIx its.length 0 lo)).toArray := by
  obtain ⟨h1, h2, h3⟩ := slice_bounds lo hi its.toArray.size
  unfold slicePick
  rw [h1, h2, h3]
  simp only [sliceRange_one, pick_run, List.size_toArray] <;> rfl
/-- xs[lo:hi] of a list: a new list -/
def rSlL (K : PySem.W.Frag) : V → Option Int → Option Int → Hp → VK → Prop := fun x lo hi H Q => ∃ a xs, x = .ref a ∧ SqL K H a xs ∧ ∀ p, H p = none → Q (.ref p) (upd H p (.lst (cutV xs lo hi)))
theorem sl_list : SlR X (rSlL X.K) := by
  intro pins s σ H x v vl vu lo hi sl Q I rx hs pl pu h
  obtain ⟨a, xs, rfl, hx, q⟩ := h
  cases rx
  obtain ⟨its, r, ht, hz⟩ := I.list hx
  have hlen := r.length
  refine ⟨"list", _, slot_list_getitem.lookup, ht.isList.typeIs, ?_⟩
  refine wpAny_getItem_list_slice ht.isList hs pl pu .none (by simp) ?_ (by rw [List.size_toArray] <;> omega)
  rw [slicePick_cut, ← hlen]
  refine ⟨.ref s.heap.objs.size, _, I.laid (t' := s.toks) (o := .lst (cutV xs lo hi)) (fun b ob q => Heap.get?_push_of_some _ q) (Nat.le_refl _) ?_, rfl, q _ (I.hok.fresh (Nat.le_refl _))⟩
  exact ⟨Nat.le_trans (cutV_length xs lo hi) hz, _, 0, (r.drop (HT.sIx xs.length 0 lo)).take (HT.sIx xs.length xs.length hi - HT.sIx xs.length 0 lo), Heap.get?_push_size _ rfl⟩

/-! ### in, not in: flat items -/
/-! ### len, list(x), tuple(x) of any list or tuple that is read -/
theorem call_len_seq : CallR X (.builtin "len") (fun xs H Q => ∃ p ys, xs = [.ref p] ∧ (SqL X.K H p ys ∨ SqT X.K H p ys) ∧ Q (.int ys.length) H) := by
  intro pins s σ H xs us Q I r h
  obtain ⟨p, ys, rfl, hq, q⟩ := h
  obtain ⟨u, rfl, rx⟩ := vals1 r
  cases rx
  have hn := line63
  rcases hq with hq | hq
  · obtain ⟨its, r', pl, hz⟩ := I.list hq
    have hlen := r'.length
    exact Calls.call_len_list pl.isList (by simp only [List.size_toArray] <;> omega) ⟨.int ys.length, H, I.tok _, ⟨s.toks + 1, by rw [List.size_toArray, hlen]⟩, q⟩
  · obtain ⟨its, r', pl, hz⟩ := I.tuple hq
    have hlen := r'.length
    exact len_tuple pl (by simp only [List.size_toArray] <;> omega) ⟨.int ys.length, H, I.tok _, ⟨s.toks + 1, by rw [List.size_toArray, hlen]⟩, q⟩
theorem CallR.or {f : Value} {r r' : List V → Hp → VK → Prop} (h : CallR X f r) (h' : CallR X f r') : CallR X f (fun xs H Q => r xs H Q ∨ r' xs H Q) := by
  intro pins s σ H xs us Q I rs q
  rcases q with q | q
  · exact h pins s σ H xs us Q I rs q
  · exact h' pins s σ H xs us Q I rs q
theorem call_tuple_of : CallR X (.type "tuple") (fun xs H Q => ∃ p ys, xs = [.ref p] ∧ ((SqL X.K H p ys ∧ ∀ l, H l = none → Q (.ref l) (upd H l (.tup ys))) ∨ (SqT X.K H p ys ∧ Q (.ref p) H))) := by
  intro pins s σ H xs us Q I r h
  obtain ⟨p, ys, rfl, h⟩ := h
  obtain ⟨u, rfl, rx⟩ := vals1 r
  cases rx
  rcases h with ⟨hq, q⟩ | ⟨hq, q⟩
  · obtain ⟨its, r', pl, hz⟩ := I.list hq
    have hlen := r'.length
    refine call_tuple_list pl.isList (fun h' kp => ?_) (by simp only [List.size_toArray] <;> omega)
    have I1 : Inv X pins σ H { s with heap := h' } := I.kept (t' := s.toks) kp
    have I2 : Inv X pins σ (upd H h'.objs.size (.tup ys)) { s with heap := h'.push { cls := .type "tuple", data := .seq its.toArray } } :=
      I1.laid (t' := s.toks) (fun b o e => Heap.get?_push_of_some _ e) (Nat.le_refl _) (show ObjOk X.prog X.w _ _ _ (.tup ys) from ⟨hz, its, r', IsTup.new _ _⟩)
    exact ⟨.ref h'.objs.size, _, I2, rfl, q _ (I1.hok.fresh (Nat.le_refl _))⟩
  · obtain ⟨its, r', pl, hz⟩ := I.tuple hq
    exact call_tuple_same pl ⟨.ref p, H, I, rfl, q⟩

/-! ### the call of a builtin's method: o.m(..) -/
/-- the value is of that builtin type -/
def tyV (K : PySem.W.Frag) (T : String) (x : V) (H : Hp) : Prop := match x with
  | .str _ => T = "str"
  | .int _ => T = "int"
  | .ref p => (T = "list" ∧ ∃ xs, SqL K H p xs) ∨ (T = "tuple" ∧ ∃ o, K.lookup p = some o ∧ o.cls = .type "tuple" ∧ o.dict = none) ∨
      (T = "dict" ∧ ((∃ kvs, H p = some (.dK kvs)) ∨ ∃ kvs, H p = some (.dT kvs))) ∨ (T = "set" ∧ ∃ S n, H p = some (.set S n))
  | _ => False
theorem tyV_is {pins : List (Addr × Obj)} {σ : St} {H : Hp} {s : Shared} {T : String} {x : V} {v : Value} (I : Inv X pins σ H s) (r : RelV x v) (ty : tyV X.K T x H) :
    s.TypeIs v T ∧ ∀ a, v = .ref a → ∃ ob, s.heap.get? a = some ob ∧ ob.dict = none := by
  cases x with
  | str z =>
    obtain ⟨t, rfl⟩ := r
    cases (show T = "str" from ty)
    exact ⟨typeIs_str s z t, fun _ e => nomatch e⟩
  | int i =>
    obtain ⟨t, rfl⟩ := r
    cases (show T = "int" from ty)
    exact ⟨typeIs_int s i t, fun _ e => nomatch e⟩
  | ref p =>
    cases r
    rcases ty with ⟨rfl, xs, hq⟩ | ⟨rfl, o, hk, hc, hd⟩ | ⟨rfl, hk⟩ | ⟨rfl, S, n, hk⟩
    · obtain ⟨its, _, pl, _⟩ := I.list hq
      refine ⟨pl.isList.typeIs, fun a e => ?_⟩
      cases e
      obtain ⟨o, n, e, c, hd, _⟩ := pl
      exact ⟨o, e, hd⟩
    · refine ⟨⟨o, I.kIn p o hk, hc⟩, fun a e => ?_⟩
      cases e
      exact ⟨o, I.kIn _ o hk, hd⟩
    · have z : ∃ o, s.heap.get? p = some o ∧ o.ExactDict := by
        rcases hk with ⟨kvs, hk⟩ | ⟨kvs, hk⟩
        · obtain ⟨_, _, _, _, o, _, _, e, ex, _⟩ := I.hok p _ hk
          exact ⟨o, e, ex⟩
        · obtain ⟨_, _, _, _, o, _, _, e, ex, _⟩ := I.hok p _ hk
          exact ⟨o, e, ex⟩
      obtain ⟨o, e, ex⟩ := z
      refine ⟨⟨o, e, ex.1⟩, fun a e2 => ?_⟩
      cases e2
      exact ⟨o, e, ex.2.1⟩
    · obtain ⟨o, _, _, _, e, ex, _⟩ := I.hok p _ hk
      refine ⟨⟨o, e, ex.1⟩, fun a e2 => ?_⟩
      cases e2
      exact ⟨o, e, ex.2.1⟩
  | _ => exact False.elim ty
def tBM (K : PySem.W.Frag) (T : String) (r : V → List V → Hp → VK → Prop) (to : TE) (t : TA) : TE := fun σ H Q => to σ H fun x H1 => tyV K T x H1 ∧ t σ H1 fun xs H2 => r x xs H2 Q
variable {o e : Expr} {es : List Expr} {to : TE} {t : TA} {name : Str} {apos cpos : Pos} {T id : String} {r : V → List V → Hp → VK → Prop}
theorem pe_bm (pa : PlainAttrs T) (slot : Slot T name id) (hty : typeOf (.builtin id) = pure (.type "method_descriptor")) (hm : MtR X id r) (ho : PE X o to) (ha : PA X (e :: es) t)
    (hbase : attributeBase o name X.env (eval o X.env) = eval o X.env := by rfl)
    (hfew : ((backTo cpos (starEach (e :: es) X.env)).all (fun x => !x.1) && (backToKw cpos (keywordEach [] X.env)).all (fun x => x.1.isSome)
      && decide ((e :: es).length + ([] : List Keyword).length + (if ([] : List Keyword).isEmpty then 0 else 1) < 30)) = true := by rfl)
    (hline : (apos.endLine == cpos.line) = true := by rfl) (hs : starEach (e :: es) X.env = (false, eval e X.env) :: starEach es X.env := by rfl) (hplain : (backTo cpos (starEach es X.env)).any (·.1) = false := by rfl) :
    PE X (.Call (.Attribute o name apos) (e :: es) [] cpos) (tBM X.K T r to t) := by
  intro pins s σ H Q I h
  refine wpAny_Call_method_late hbase hfew hline rfl (thn (ho pins s σ H _ I h) fun v s1 ⟨x, H1, I1, r1, ty, q1⟩ => ?_)
  obtain ⟨h1, h2⟩ := tyV_is I1 r1 ty
  refine ⟨T, id, pa, slot, hty, h1, h2, ?_⟩
  have hA := ha cpos pins s1 σ H1 _ I1 q1
  rw [hs] at hA ⊢
  refine Calls.callWith_builtin (by show (false || (backTo cpos (starEach es X.env)).any (·.1)) = false; rw [hplain] <;> rfl) (Calls.evalArgs_plain ?_)
  exact thn hA fun us s2 ⟨vs, H2, I2, r2, q2⟩ => hm pins s2 σ H2 x vs v us Q I2 r1 r2 q2
/- xs.append(e), list.index on a module's tuple .. are MtR facts of 06m -/
end
end L2

namespace L2
open PySem PySem.Spec PyProof.Rows

def MtM (X : Cx) (id : String) (r : V → List V → Hp → VK → Prop) : Prop :=
  ∀ (pins : List (Addr × Obj)) (s : Shared) (σ : St) (H : Hp) (x : V) (xs : List V) (v : Value) (us : List Value) (Q : VK), Inv X pins σ H s → RelV x v → Vals xs us → r x xs H Q →
    wpAny (model X.prog X.w) X.A (call (.builtin id) (v :: us)) (EP X pins σ Q) X.xe s

/-! ### lists of values -/
theorem Vals.one : ∀ {x : V} {us : List Value}, Vals [x] us → ∃ u, us = [u] ∧ RelV x u
  | _, _, .cons r .nil => ⟨_, rfl, r⟩
theorem Vals.zero : ∀ {us : List Value}, Vals [] us → us = []
  | _, .nil => rfl
theorem Vals.dropLast {xs : List V} {us : List Value} (h : Vals xs us) : Vals xs.dropLast us.dropLast := by
  induction h with
  | nil => exact .nil
  | cons r t ih =>
    cases t with
    | nil => exact .nil
    | cons q t' => exact .cons r ih
theorem Vals.eraseIdx : ∀ {xs : List V} {us : List Value} (i : Nat), Vals xs us → Vals (xs.eraseIdx i) (us.eraseIdx i)
  | _, _, _, .nil => .nil
  | _, _, 0, .cons _ t => t
  | _, _, i + 1, .cons r t => .cons r (Vals.eraseIdx i t)
theorem Vals.reverse {xs : List V} {us : List Value} (h : Vals xs us) : Vals xs.reverse us.reverse := by
  induction h with
  | nil => exact .nil
  | cons r t ih => rw [List.reverse_cons, List.reverse_cons]; exact Vals.append ih (.cons r .nil)
theorem Vals.rep {xs : List V} {us : List Value} (h : Vals xs us) : ∀ k : Nat, Vals (List.replicate k xs).flatten (List.replicate k us).flatten
  | 0 => .nil
  | k + 1 => by
    rw [List.replicate_succ, List.replicate_succ, List.flatten_cons, List.flatten_cons]
    exact Vals.append h (Vals.rep h k)
theorem len_erase {α : Type} : ∀ (l : List α) (i : Nat), (l.eraseIdx i).length ≤ l.length
  | [], _ => Nat.le_refl _
  | _ :: _, 0 => Nat.le_succ _
  | _ :: r, i + 1 => Nat.succ_le_succ (len_erase r i)
theorem foldl_rep (its : List Value) : ∀ (k : Nat) (acc : List Value),
    List.foldl (fun x1 x2 => x1 ++ x2) acc.toArray (List.replicate k its.toArray) = (acc ++ (List.replicate k its).flatten).toArray
  | 0, acc => by simp
  | k + 1, acc => by
    have e : acc.toArray ++ its.toArray = (acc ++ its).toArray := by simp
    have e2 : (acc ++ its) ++ (List.replicate k its).flatten = acc ++ (List.replicate (k + 1) its).flatten := by
      rw [List.replicate_succ, List.flatten_cons, List.append_assoc]
    rw [← e2, ← foldl_rep its k (acc ++ its), ← e, List.replicate_succ, List.foldl_cons]

section
variable {X : Cx} {pins : List (Addr × Obj)} {σ : St} {H : Hp} {s : Shared} {l b : Addr} {xs ys zs : List V}

/-! ### the two steps: a tracked list is rewritten, a new list is laid -/
theorem Inv.lset {its its' : List Value} {n : Nat} {f : Array Value → Array Value} {t' : Nat} (I : Inv X pins σ H s) (hH : H l = some (.lst xs))
    (e : s.heap.get? l = some { cls := .type "list", data := .seq its.toArray n }) (hf : f its.toArray = its'.toArray) (hv : Vals ys its') (hz : ys.length ≤ sizeLine) :
    Inv X pins σ (upd H l (.lst ys)) { s with heap := s.heap.update l (Obj.mapSeq f), toks := t' } := by
  have q := PySem.IsL.update e f
  rw [hf] at q
  refine I.write (x := l) (e := l) (by rw [hH]; exact trivial) (.inl rfl) (fun b' u hb hu => (Heap.get?_update_other s.heap (Obj.mapSeq f) (Ne.symm hb)).trans hu) ⟨_, q⟩ ?_
  exact ⟨hz, its', _, hv, q⟩
theorem Inv.lnew {its : List Value} {t' : Nat} (I : Inv X pins σ H s) (hv : Vals ys its) (hz : ys.length ≤ sizeLine) :
    Inv X pins σ (upd H s.heap.objs.size (.lst ys)) { s with heap := s.heap.push { cls := .type "list", data := .seq its.toArray }, toks := t' } :=
  I.laid (fun _ _ q => Heap.get?_push_of_some _ q) (Nat.le_refl _) ⟨hz, its, 0, hv, Heap.get?_push_size _ rfl⟩
theorem Inv.fresh (I : Inv X pins σ H s) : H s.heap.objs.size = none := I.hok.fresh (Nat.le_refl _)
theorem Inv.lstM (I : Inv X pins σ H s) (hH : H l = some (.lst xs)) : xs.length ≤ sizeLine ∧ ∃ (its : List Value) (n : Nat), Vals xs its ∧ xs.length = its.length ∧ s.heap.get? l = some { cls := .type "list", data := .seq its.toArray n } := by
  obtain ⟨z, its, n, r, e⟩ := I.hok l _ hH
  exact ⟨z, its, n, r, r.length, e⟩

theorem notLongL {n : Nat} (h : n ≤ sizeLine) : Builtin.List.listTooLong n = false := by
  unfold Builtin.List.listTooLong
  exact decide_eq_false (by omega)
end

section
variable {X : Cx}

/-! ### methods -/
def rAppend : V → List V → Hp → VK → Prop := fun x vs H Q => ∃ l xs y, x = .ref l ∧ vs = [y] ∧ H l = some (.lst xs) ∧ xs.length < sizeLine ∧ Q .non (upd H l (.lst (xs ++ [y])))
theorem mt_append : MtM X "list.append" rAppend := by
  intro pins s σ H x vs v us Q I rx rv h
  obtain ⟨l, xs, y, rfl, rfl, hH, hz, q⟩ := h
  cases rx
  obtain ⟨u, rfl, ru⟩ := rv.one
  obtain ⟨z, its, n, r, hl, e⟩ := I.lstM hH
  refine call_meets F.slot_list_append ⟨_, e, rfl⟩ F.entry_list_append (F.args_list_append_2 _ _) (PySem.list_append l its.toArray n u (by rw [List.size_toArray]; omega)) ⟨e, ?_⟩
  refine ⟨.non, _, I.lset (its' := its ++ [u]) hH e (by simp) (r.append (.cons ru .nil)) ?_, rfl, q⟩
  rw [List.length_append, List.length_singleton]
  omega

def rPopAt : V → List V → Hp → VK → Prop := fun x vs H Q => ∃ l xs i k y, x = .ref l ∧ vs = [.int i] ∧ H l = some (.lst xs) ∧ -(2 ^ 63) ≤ i ∧ i < 2 ^ 63 ∧ seqIndex? i xs.length = some k ∧ xs[k]? = some y ∧ Q y (upd H l (.lst (xs.eraseIdx k)))
theorem mt_popAt : MtM X "list.pop" rPopAt := by
  intro pins s σ H x vs v us Q I rx rv h
  obtain ⟨l, xs, i, k, y, rfl, rfl, hH, h1, h2, hk, hy, q⟩ := h
  cases rx
  obtain ⟨u, rfl, ru⟩ := rv.one
  obtain ⟨t, rfl⟩ := ru
  obtain ⟨z, its, n, r, hl, e⟩ := I.lstM hH
  obtain ⟨w, hw, rw'⟩ := r.get hy
  refine call_meets F.slot_list_pop ⟨_, e, rfl⟩ F.entry_list_pop (F.args_list_pop_2 _ _)
    (MeetsSeq.list_pop_at l its.toArray n i t k w (fitsIndex_both h1 h2) (by rw [List.size_toArray, ← hl]; exact hk) (by rw [← Array.getElem?_toList]; exact hw) (by rw [List.size_toArray]; omega)) ⟨e, ?_⟩
  refine ⟨y, _, I.lset (its' := its.eraseIdx k) hH e ?_ (r.eraseIdx k) ?_, rw', q⟩
  · show its.toArray.eraseIdxIfInBounds k = (its.eraseIdx k).toArray
    rw [List.eraseIdxIfInBounds_toArray]
  · have := len_erase xs k
    omega

/-! ### list + list, list += list, list * int -/
def rCat : R2 := fun x y H Q => ∃ l b xs zs, x = .ref l ∧ y = .ref b ∧ H l = some (.lst xs) ∧ H b = some (.lst zs) ∧ xs.length + zs.length ≤ sizeLine ∧ ∀ p, H p = none → Q (.ref p) (upd H p (.lst (xs ++ zs)))
theorem op_cat : OpR X (binaryOp .Add) rCat := by
  intro pins s σ H x y v u Q I rx ry h
  obtain ⟨l, b, xs, zs, rfl, rfl, hH, hB, hz, q⟩ := h
  cases rx
  cases ry
  obtain ⟨z, its, n, r, hl, e⟩ := I.lstM hH
  obtain ⟨z2, its2, n2, r2, hl2, e2⟩ := I.lstM hB
  refine PySem.P.add_list e e2 ?_ (by rw [List.size_toArray, List.size_toArray]; omega)
  have ea : its.toArray ++ its2.toArray = (its ++ its2).toArray := by simp
  rw [ea]
  exact ⟨.ref _, _, I.lnew (t' := s.toks) (r.append r2) (by rw [List.length_append]; omega), rfl, q _ I.fresh⟩
/-- a list times an int (a negative one is nothing) -/
def rRep : R2 := fun x y H Q => ∃ l k xs, x = .ref l ∧ y = .int k ∧ H l = some (.lst xs) ∧ -(2 ^ 63) ≤ k ∧ k < 2 ^ 63 ∧ xs.length * k.toNat ≤ sizeLine ∧
  ∀ p, H p = none → Q (.ref p) (upd H p (.lst (List.replicate k.toNat xs).flatten))
theorem len_rep {α : Type} (xs : List α) (k : Nat) : (List.replicate k xs).flatten.length = k * xs.length := by
  induction k with
  | zero => simp
  | succ k ih => rw [List.replicate_succ, List.flatten_cons, List.length_append, ih, Nat.succ_mul, Nat.add_comm]
theorem op_rep : OpR X (binaryOp .Mult) rRep := by
  intro pins s σ H x y v u Q I rx ry h
  obtain ⟨l, k, xs, rfl, rfl, hH, h1, h2, hz, q⟩ := h
  cases rx
  obtain ⟨t, rfl⟩ := ry
  obtain ⟨z, its, n, r, hl, e⟩ := I.lstM hH
  have hlen : its.toArray.size * k.toNat ≤ sizeLine := by rw [List.size_toArray, ← hl]; exact hz
  have hcap : ¬ its.toArray.size * k.toNat > (2 ^ 63 - 1) / 8 := by
    have : (sizeLine : Nat) ≤ (2 ^ 63 - 1) / 8 := by decide
    omega
  have hfit : ¬ (!Builtin.List.listFitsIndex k) = true := by
    rw [fitsIndex_both h1 h2]
    exact Bool.false_ne_true
  have hlong : ¬ Builtin.List.listTooLong (its.toArray.size * k.toNat) = true := by
    rw [notLongL hlen]
    exact Bool.false_ne_true
  have hnew : List.foldl (fun x1 x2 => x1 ++ x2) #[] (List.replicate (if its.toArray.isEmpty = true then 0 else k.toNat) its.toArray) = (List.replicate k.toNat its).flatten.toArray := by
    have f0 : ∀ m : Nat, List.foldl (fun x1 x2 => x1 ++ x2) #[] (List.replicate m its.toArray) = (List.replicate m its).flatten.toArray := fun m => by
      have := foldl_rep its m []
      rw [List.nil_append] at this
      exact this
    rw [f0]
    cases its with
    | nil => simp
    | cons a r' => rw [if_neg (by simp)]
  refine wpAny_binaryOp_repeat_ref (T := "list") (U := "int") (by decide) ⟨_, e, rfl⟩ (fun s' => typeIs_int s' k t) noFill_list_mul F.fills_int_mul F.slot_int_rmul repeat_list F.slot_int_index.lookup
    (call_meets F.slot_int_rmul (typeIs_int s k t) F.entry_int_rmul (F.args_int_rmul_2 _ _) (int___rmul___int_list k t l its.toArray n)
      ⟨e, rfl, ⟨_, e, rfl⟩, call_meets F.slot_list_mul ⟨_, e, rfl⟩ F.entry_list_mul (F.args_list_mul_2 _ _) (AutoListH.list___mul___list_int_3 l its.toArray n k t hfit hcap hlong) ⟨e, ?_⟩⟩)
  rw [hnew]
  exact ⟨.ref _, _, I.lnew (t' := s.toks) (r.rep k.toNat) (by rw [len_rep, Nat.mul_comm]; exact hz), rfl, q _ I.fresh⟩

/-! ### del xs[i] -/
end

/-! ### xs[a:b] = ys -/
section
variable {prog : Program} {w : World} {A : Around} {E : Value → Shared → Prop} {s : Shared}
end

section
variable {X : Cx}
end
end L2

namespace Att
open PySem PySem.W PySem.Calls PyProof.Rows

/-! ### the script -/
theorem ints_of_wellAll {P : Params} {h : Heap} : ∀ (ns : List Int) (vs : List Value), WellAll P h vs (ns.map WData.int) → IntsAre vs ns := by
  intro ns
  induction ns with
  | nil =>
    intro vs w
    rw [List.map_nil] at w
    cases w
    exact .nil
  | cons n ns ih =>
    intro vs w
    rw [List.map_cons] at w
    cases w with
    | cons a b =>
      cases a
      exact .cons _ _ (ih _ b)

theorem script_of {l : OpenLaw} {n : Nat} (hn : l.most = some n) {P : Params} {h : Heap} {args : List WData} {vals : List Value}
    (hpre : l.row.toRowW.claim.pre args = true) (hwl : WellAll P h vals args) :
    ∃ a vs ns, vals = [Value.ref a] ∧ args = [WData.list (ns.map WData.int)] ∧ h.get? a = some { cls := .type "list", data := .seq vs.toArray } ∧ IntsAre vs ns ∧ ns.length ≤ n := by
  have hsh : WShape.hasAll [] args [.list .int] = true := (pre_splitW hpre).1
  have hc : l.pre.holds [] { args := args } = true := (pre_splitW hpre).2
  obtain ⟨d, r, rfl, h1, h2⟩ := hasAllW_cons hsh
  obtain rfl := hasAllW_nil h2
  obtain ⟨xs, rfl, h3⟩ := hasW_list h1
  obtain ⟨ns, rfl⟩ := items_int h3
  have hlen : ns.length ≤ n := by
    unfold OpenLaw.pre at hc
    have h4 : (WTm.not (.lt (.lit (.int (n : Int))) (.len (.arg 0)))).holds [] { args := [.list (ns.map .int)] } = true := by
      have h4 := (holds_andW hc).1
      rw [hn] at h4
      exact h4
    have h5 := condW_of h4 (w_not (w_lt w_lit (w_len_list (w_arg rfl))))
    rw [List.length_map] at h5
    refine Nat.le_of_not_lt fun q => ?_
    have q' : (n : Int) < ((ns.length : Nat) : Int) := by omega
    first
      | (rw [decide_eq_true q'] at h5; exact absurd h5 (by decide))
      | (simp at h5; omega)
  cases hwl with
  | cons w1 w2 =>
    cases w2
    cases w1 with
    | list ho hall => exact ⟨_, _, ns, rfl, rfl, ho, ints_of_wellAll ns _ hall, hlen⟩

theorem post_true (l : OpenLaw) (args : List WData) : l.row.toRowW.claim.post args (.bool true) args = true :=
  postW_of (r := l.row.toRowW) (X := (true == true))
    (show WShape.has [] (.bool true) .bool = true by first | rfl | decide | simp [WShape.has, WShape.arms, WShape.armsAll])
    (show (WTm.eq .res (.lit (.bool true))).value [] { args := args, res := some (.bool true), after := args } = some (.bool (true == true)) from w_eq_bool (w_res rfl) w_lit) rfl

/-! ### the attachment: holds_open's last premise (the goal 'hc' behind k_head) from a wpAny of the law's body -/
/-- the same from a codeAny of the CALL (for a layer whose function contracts speak of calls) -/
theorem attach_call {l : OpenLaw} {n : Nat} {q : Program} {loose : List Str} {XP : (Str → Option Value) → Heap → Prop} {YP : World → Heap → Prop} {d : DefRec}
    (hn : l.most = some n) (hdf : d.params.defaults = [])
    (call : ∀ (w : World) (s₀ s₁ : Shared) (mg mb : Str → Option Value) (fa : Addr) (o : Obj) (pm cd doc : Value) (a : Addr) (vs : List Value) (ns : List Int),
      Ground q loose [] XP w s₀ mg mb s₁.heap → YP w s₁.heap →
      s₁.heap.get? fa = some o → o.data = .func (docDef d.name d.params d.body d.scope pm cd doc) → s₁.heap.CodeRec cd d.name → mg d.name = some (.ref fa) →
      s₁.heap.get? a = some { cls := .type "list", data := .seq vs.toArray } → IntsAre vs ns → ns.length ≤ n → s₁.gens = #[] →
      codeAny (model l.prog w) callerA (.call (.ref fa) ⟨[.ref a], []⟩) (fun r s' => r = .ok (.ret (.bool true)) ∧ OldK s₁.heap s'.heap ∧ s'.os = s₁.os ∧ AllBare s'.gens) s₁) :
    WalkO q loose XP YP l.row.toRowW d [] (fun f vs => PySem.call f vs) := by
  intro w s₀ s₁ mg mb G Y fa o pm cd doc dV kV ho hd hcd hD hmg hg args vals as hpre hlay hrd hwl hlo
  obtain rfl : dV = .none := Dflts.none hD hdf
  obtain rfl : kV = .none := Dflts.noKw hD
  obtain ⟨a, vs, ns, rfl, rfl, hobj, hints, hlen⟩ := script_of hn hpre hwl
  refine enter_call (codeAny_mono (call w s₀ s₁ mg mb fa o pm cd doc a vs ns G Y ho (fd_plain hd) hcd hmg hobj hints hlen hg) fun r s' hq => ?_)
  obtain ⟨rfl, h2, h3, h4⟩ := hq
  exact ⟨.inl ⟨.bool true, .bool true, [], rfl, fun _ => rfl, .bool true, post_true l _, fun _ => ⟨List.Pairwise.nil, fun _ hm => (nomatch hm)⟩⟩, h2, h3, h4⟩

/-! ### rules over ANY heap (no ledger) from facts about the written part K: the library's own take a ledger (News) for what they write -/
section
variable {prog : Program} {w : World} {A : Around} {E : Value → Shared → Prop} {s : Shared} {K : Frag}

/-! the whole heap as the ledger: makes every rule that writes through a ledger a rule over any heap -/
end
end Att

namespace L2
open PySem PySem.Spec PyProof.Rows

theorem vals_ints : ∀ {vs : List Value} {ns : List Int}, IntsAre vs ns → Vals (ns.map V.int) vs
  | _, _, .nil => .nil
  | _, _, .cons n t h => .cons ⟨t, rfl⟩ (vals_ints h)

/-- nothing is tracked but the script, known to the object (or it is an object of the module) -/
def Only (H : Hp) : Prop := ∀ b, H b = none ∨ ∃ o xs, H b = some (.frz o (.lst xs))

/-- THE HEAD: the law's promise, at the heap behind the top. F, the promise of the law's def, may use that base is part of the heap (so K.In base, base.Ns mainGlobals mg stand in Mod) -/
theorem law_call {P : Program} {w : World} {K : PySem.W.Frag} {mg mb : Str → Option Value} {CX : CXT} {k : Nat} {fa a : Addr} {fd : FuncData} {x : Str} {sp : Sp} {s₁ : Shared} {vs : List Value} {ns : List Int}
    (KX : K.In s₁.heap) (hns : s₁.heap.Ns mainGlobals mg) (hb : s₁.heap.Ns builtinsNs mb) (hbb : ∀ x : Str, x ≠ "__name__" → mb x = bootBuiltins x) (hlim : s₁.heap.NoLimit) (hg : s₁.gens = #[])
    (ha : s₁.heap.get? a = some { cls := .type "list", data := .seq vs.toArray }) (hi : IntsAre vs ns) (hl : ns.length ≤ sizeLine) (hr : Room k callerA)
    (F : ∀ base : Heap, K.In base → base.Ns mainGlobals mg → FnOk P w K mg base CX k fa fd [x] sp) (hbind : ∀ (s : Shared) (u : Value), BindsTo s fd ⟨[u], []⟩ [(x, u)])
    (hsp : ∀ H : Hp, Only H → SqL K H a (ns.map V.int) → sp [.ref a] H (fun v _ => v = .bl true) fun _ _ _ => False)
    (hCX : ∀ H e s', CX [] H s₁ (fun _ _ _ => False) e s' → False) :
    codeAny (model P w) callerA (.call (.ref fa) ⟨[.ref a], []⟩) (fun r s' => r = .ok (.ret (.bool true)) ∧ OldK s₁.heap s'.heap ∧ s'.os = s₁.os ∧ AllBare s'.gens) s₁ := by
  have rv := vals_ints hi
  have lenV := hi.length
  -- from an abstract heap in which nothing but the script may be tracked
  have core : ∀ H : Hp, Only H → SqL K H a (ns.map V.int) → HOk P w H s₁.heap → (∀ b, H b ≠ none → b = a) → (H a ≠ none → K.lookup a = none) →
      codeAny (model P w) callerA (.call (.ref fa) ⟨[.ref a], []⟩) (fun r s' => r = .ok (.ret (.bool true)) ∧ OldK s₁.heap s'.heap ∧ s'.os = s₁.os ∧ AllBare s'.gens) s₁ := by
    intro H hO hS hok hA hK
    have base_of : ∀ {b : Addr} {o : Obj}, s₁.heap.get? b = some o → H b = none → (hidT s₁.heap H).get? b = some o := fun e n => hidT_get e n
    have noA : ∀ {b : Addr} {o : Obj} {es : Array DictEntry} {ep : Nat}, s₁.heap.get? b = some o → o.data = .dict es ep → H b = none := fun {b o es ep} e d => by
      cases q : H b with
      | none => rfl
      | some u =>
        have e' : b = a := hA b (by rw [q]; simp)
        subst e'
        rw [ha] at e; cases e
        have d' : Data.seq vs.toArray _ = Data.dict es ep := d
        cases d'
    have nsK : ∀ {b : Addr} {m : Str → Option Value}, s₁.heap.Ns b m → (hidT s₁.heap H).Ns b m := fun {b m} ⟨o, es, ep, e, d, r⟩ => ⟨o, es, ep, base_of e (noA e d), d, r⟩
    have hKb : K.In (hidT s₁.heap H) := fun b o e => base_of (KX b o e) (by
      cases q : H b with
      | none => rfl
      | some u =>
        have e' : b = a := hA b (by rw [q]; simp)
        subst e'
        rw [hK (by rw [q]; simp)] at e; cases e)
    have hM : Mod K mg (hidT s₁.heap H) := ⟨hKb, nsK hns, ⟨mb, nsK hb, hbb⟩, let ⟨mc, h1, h2⟩ := hlim; ⟨mc, nsK h1, h2⟩⟩
    have e0 : Env0 P w K mg (hidT s₁.heap H) callerA [] s₁ H := ⟨rfl, hM, fun b o e => of_hidT e, Nat.le_of_eq (hidT_size _ _), trivial, fun b hb => absurd (show b ∈ ([] : List Addr) from hb) (by simp), hok, .of_eq hg⟩
    refine codeAny_mono ((F _ hKb (nsK hns)).run callerA [] s₁ H ⟨[.ref a], []⟩ [.ref a] [.ref a] _ _ hr e0 (hbind s₁ (.ref a)) (.cons rfl .nil) (hsp H hO hS)) fun r s' h => ?_
    cases r with
    | error e => exact (hCX H e s' h).elim
    | ok fl =>
      cases fl with
      | next => exact False.elim h
      | brk => exact False.elim h
      | cont => exact False.elim h
      | ret u =>
        obtain ⟨v, H', os, bare, un, hok', r', q⟩ := h
        have q' : v = .bl true := q
        subst q'
        obtain rfl : u = Value.bool true := r'
        refine ⟨rfl, OldK.of_keep fun b o e => ?_, os, bare⟩
        cases q : H b with
        | none => exact un.keep b o e q (by intro z; exact absurd (show b ∈ ([] : List Addr) from z) (by simp)) (by simp)
        | some u =>
          rcases hO b with z | ⟨ob, xs, z⟩
          · rw [q] at z; cases z
          · have z2 := un.frzs b ob _ z
            obtain ⟨e1, _⟩ := hok b _ z
            obtain ⟨e2, _⟩ := hok' b _ z2
            rw [e] at e1; cases e1
            exact e2
  cases hk : K.lookup a with
  | some o =>
    -- the script is one of the module's own objects
    have e := KX a o hk
    rw [ha] at e
    cases e
    refine core (fun _ => none) (fun _ => .inl rfl) (.inr ⟨_, vs.toArray, _, hk, rfl, rfl, rfl, by rw [List.size_toArray, lenV]; exact hl, by simpa using rv⟩) (fun b u z => by have z' : (none : Option HO) = some u := z; cases z') (fun b z => absurd rfl z) fun z => absurd rfl z
  | none =>
    refine core (fun b => if b = a then some (.frz { cls := .type "list", data := .seq vs.toArray } (.lst (ns.map V.int))) else none) (fun b => ?_) (.inl (.inr ⟨{ cls := .type "list", data := .seq vs.toArray }, if_pos rfl⟩)) (fun b u z => ?_) (fun b z => ?_) fun _ => hk
    · by_cases hb : b = a
      · exact .inr ⟨_, _, if_pos hb⟩
      · exact .inl (if_neg hb)
    · by_cases hb : b = a
      · have z' := (if_pos hb).symm.trans z
        cases z'
        subst hb
        exact ⟨ha, by rw [List.length_map]; exact hl, vs, _, rv, ha⟩
      · have z' := (if_neg hb).symm.trans z
        cases z'
    · by_cases hb : b = a
      · exact hb
      · exact absurd (if_neg hb) z
end L2

namespace L2
open PySem PySem.Spec PyProof.Rows

/-- the goal that k_head leaves (case hc), from the law's promise. F gives the function object fd (K's own) once, then the promise over every base -/
theorem walk_of {l : PySem.W.OpenLaw} {n k : Nat} {q : Program} {loose : List Str} {XP : (Str → Option Value) → Heap → Prop} {YP : World → Heap → Prop} {d : DefRec} {K : Params → PySem.W.Frag} {CX : World → CXT} {sp : World → Sp} {x : Str}
    (hn : l.most = some n) (hn2 : n ≤ sizeLine) (hdf : d.params.defaults = []) (hr : Room k callerA)
    (hY : ∀ (w : World) (h : Heap), YP w h → (K w.params).In h)
    (F : ∀ (w : World) (mg : Str → Option Value) (fa : Addr) (h : Heap), (K w.params).In h → h.Ns mainGlobals mg → mg d.name = some (.ref fa) →
      ∃ fd : FuncData, (∀ (s : Shared) (u : Value), BindsTo s fd ⟨[u], []⟩ [(x, u)]) ∧
        ∀ base : Heap, (K w.params).In base → base.Ns mainGlobals mg → FnOk l.prog w (K w.params) mg base (CX w) k fa fd [x] (sp w))
    (hsp : ∀ (w : World) (H : Hp) (a : Addr) (ns : List Int), ns.length ≤ n → Only H → SqL (K w.params) H a (ns.map V.int) → sp w [.ref a] H (fun v _ => v = .bl true) fun _ _ _ => False)
    (hCX : ∀ (w : World) (H : Hp) (s : Shared) (e : Value) (s' : Shared), CX w [] H s (fun _ _ _ => False) e s' → False) :
    PySem.W.WalkO q loose XP YP l.row.toRowW d [] (fun f vs => PySem.call f vs) := by
  refine Att.attach_call hn hdf fun w s₀ s₁ mg mb fa o pm cd doc a vs ns G Y ho hd hcd hmg hobj hints hlen hg => ?_
  have KX := hY w _ Y
  obtain ⟨fd, hb, hF⟩ := F w mg fa _ KX G.T.g hmg
  exact law_call KX G.T.g G.T.b G.T.builtins G.T.nolimit hg hobj hints (Nat.le_trans hlen hn2) hr hF hb (fun H hO hS => hsp w H a ns hlen hO hS) fun H e s' => hCX w H s₁ e s'
end L2

/- THE LAST THEOREM (shape; LID, My.* are yours):
   My.Adr: a structure of the addresses that your layer names (classes, functions); My.Txt K t: a structure (Prop) of the equations over K;
   My.txt_mk : {K} {implicit addresses ..} (e1 : nsIn K mainGlobals "law" = some (some (.ref f))) (e2 : K.lookup f = some ⟨oc, od, .func (fnOf "law" "law" params body scope dV kV doc pm an cdv ct), sl⟩) (e3 : codeIn K cdv "law" = true) .. : ∃ t, My.Txt K t

set_option maxRecDepth 100000 in
set_option maxHeartbeats 0 in
theorem PySem.Challenge.cw_LID_holds : PySem.Challenge.rw_LID.Holds := by
  w_on; o_law; k_head; (case hw => w_witness2)
  k_fill
  refine L2.walk_of (l := PySem.Challenge.rw_LID) (n := 63) (k := 40) (x := "script") (CX := fun w => ..) (sp := fun _ => My.sp_law) rfl (by decide) rfl ⟨rfl, by decide, by decide⟩ (fun w h Y => PySem.W.kIn_of Y) ?F ?S ?C
  case F =>
    intro w mg fa h KX G hmg
    have T : ∃ t, My.Txt (L2.KOf KX) t := by
      dsimp only [L2.KOf]                          -- K must stand as «<heap const> w.params» for k_is
      refine' My.txt_mk ?e1 ?e2 ?e3 ..
      (case e1 => PySem.W.k_is)                    -- in the order: a name -> its address -> its object -> its parts
      (case e2 => PySem.W.k_is)
      ..
    obtain ⟨t, T⟩ := T
    have e0 := hmg.symm.trans (PySem.W.mg_of KX G T.law)
    cases e0                                       -- fa is the law's own address
    exact ⟨_, fun s u => .of_eq rfl, fun base kb nb => My.law_fn T kb nb⟩     -- if «.of_eq rfl» comes too early: refine' ⟨_, ?b, fun base kb nb => My.law_fn T kb nb⟩; exact fun s u => .of_eq rfl
  case S => exact fun w H a ns hl hO hS => ..
  case C => exact ..
(the tactic k_is has no namespace: write k_is) -/

/-! SHORT WORDS over the layer: a def of the text, its body, what a loop and a test want. -/
namespace L2
open PySem PySem.Spec PyProof.Rows

/-! ### the text by places -/
def defArgs (s : Stmt) : Arguments := match s with
  | .FunctionDef _ a _ _ _ _ _ _ _ _ => a
  | _ => { posonlyargs := [], args := [], vararg := none, kwonlyargs := [], kw_defaults := [], kwarg := none, defaults := [] }
def defBody (s : Stmt) : List Stmt := match s with
  | .FunctionDef _ _ b _ _ _ _ _ _ _ => b
  | _ => []
def defScope (s : Stmt) : Scope := match s with
  | .FunctionDef _ _ _ _ _ _ sc _ _ _ => sc
  | _ => { kind := .function, names := [], isGenerator := false, isCoroutine := false }

/-! ### no exception leaves a def -/
abbrev CX0 : CXT := fun _ _ _ _ _ _ => False
abbrev E0 : XK := fun _ _ _ => False
theorem pass0 {X : Cx} : Passes CX0 X E0 := fun _ _ _ _ _ _ _ h => h.elim

/-! ### a def (or method) of the text as it stands behind the top -/
structure Fun (K : PySem.W.Frag) (x qual : Str) (st : Stmt) (f : Addr) (fd : FuncData) : Prop where
  ex : ∃ (oc : Value) (od : Option Addr) (kV doc pm : Value) (an : Option Addr) (cdv ct : Value) (osl : Array (Option Value)),
    fd = PySem.W.fnOf x qual (defArgs st) (defBody st) (defScope st) .none kV doc pm an cdv ct ∧ K.lookup f = some ⟨oc, od, .func fd, osl⟩ ∧ PySem.W.codeIn K cdv qual = true
  kp : PySem.W.keepIn K (.ref f) = true
section
variable {P : Program} {w : World} {K : PySem.W.Frag} {mg : Str → Option Value} {base : Heap}
/-- THE RULE for a def: its body as a term of rules, and the reading of that term -/
theorem Fun.ok {x qual : Str} {st : Stmt} {f : Addr} {fd : FuncData} {N ps : List Str} {k : Nat} {sp : Sp} (F : Fun K x qual st f fd) (S : FnScope N ps (defScope st)) (len : ∀ vs H Q E, sp vs H Q E → vs.length = ps.length)
    (hbody : ∀ (cdv : Value) (A : Around) (outer : List Env) (s : Shared) (H : Hp) (vs : List V) (Q : VK) (E : XK), Room k (A.deeper (envOfC qual (defScope st) s.heap.objs.size f cdv)) → sp vs H Q E →
      ∃ t, PSs (cxOf CX0 P w K mg base N qual (defScope st) f cdv A outer s H E).nox (defBody st) t ∧ t { nx := fun _ H' => Q .non H', rt := Q } (start N vs) H) : FnOk P w K mg base CX0 (k + 1) f fd ps sp := by
  obtain ⟨oc, od, kV, doc, pm, an, cdv, ct, osl, rfl, lk, hcd⟩ := F.ex
  refine fn_of lk hcd S len fun A outer s H vs Q E hr hsp => ?_
  obtain ⟨t, h, q⟩ := hbody cdv A outer s H vs Q E hr hsp
  exact ⟨t, h.nox, q⟩
/-- how its arguments bind (no defaults): h is «fun _ _ _ _ _ _ us hl => match us, hl with | [_, _], _ => rfl», one _ a parameter -/
theorem Fun.binds {x qual : Str} {st : Stmt} {f : Addr} {fd : FuncData} {ps : List Str} (F : Fun K x qual st f fd)
    (h : ∀ (kV doc pm : Value) (an : Option Addr) (cdv ct : Value) (us : List Value), us.length = ps.length → bindArgs (PySem.W.fnOf x qual (defArgs st) (defBody st) (defScope st) .none kV doc pm an cdv ct) ⟨us, []⟩ = pure (ps.zip us)) : Binds K fd ps [] := by
  obtain ⟨oc, od, kV, doc, pm, an, cdv, ct, osl, rfl, lk, hcd⟩ := F.ex
  exact .all (h kV doc pm an cdv ct)
theorem fun_mk {x qual : Str} {st : Stmt} {f : Addr} {oc : Value} {od an : Option Addr} {osl : Array (Option Value)} {kV doc pm cdv ct : Value} (l : K.lookup f = some ⟨oc, od, .func (PySem.W.fnOf x qual (defArgs st) (defBody st) (defScope st) .none kV doc pm an cdv ct), osl⟩)
    (c : PySem.W.codeIn K cdv qual = true) (k : PySem.W.keepIn K (.ref f) = true) : Fun K x qual st f (PySem.W.fnOf x qual (defArgs st) (defBody st) (defScope st) .none kV doc pm an cdv ct) := ⟨⟨oc, od, kV, doc, pm, an, cdv, ct, osl, rfl, l, c⟩, k⟩
end
theorem small1000 {n : Nat} (h : n ≤ 1000) : n < sizeLine := Nat.lt_of_le_of_lt h (by decide)

/-! ### expressions in short: the name that stands in the i-th slot -/
section
variable {X : Cx}
end

/-! ### tests -/
theorem iteF {A B : Prop} (h : B) : if false = true then A else B := by
  rw [if_neg Bool.false_ne_true]
  exact h
theorem iteT {A B : Prop} (h : A) : if true = true then A else B := by
  rw [if_pos rfl]
  exact h
/-! ### heaps -/
/-- all that was tracked is as it was -/
def Same (H H' : Hp) : Prop := ∀ b o, H b = some o → H' b = some o
theorem Same.refl (H : Hp) : Same H H := fun _ _ h => h
theorem Same.trans {H H1 H2 : Hp} (a : Same H H1) (b : Same H1 H2) : Same H H2 := fun c o h => b c o (a c o h)
theorem Same.free {H H' : Hp} (e : Same H H') {l : Addr} (h : H' l = Option.none) : H l = Option.none := by
  cases q : H l with
  | none => rfl
  | some o =>
    rw [e l o q] at h
    cases h
theorem Same.seq {K : PySem.W.Frag} {H H' : Hp} {a : Addr} {xs : List V} (e : Same H H') (h : SqL K H a xs) : SqL K H' a xs := by
  rcases h with (h | ⟨o, h⟩) | h
  · exact .inl (.inl (e _ _ h))
  · exact .inl (.inr ⟨o, e _ _ h⟩)
  · exact .inr h

end L2

set_option Elab.async false
set_option linter.all false
set_option maxRecDepth 100000
set_option maxHeartbeats 4000000
namespace L2
open PySem PySem.Spec PyProof.Rows

/-! ### sizes of ints -/
def Bt (n : Nat) (i : Int) : Prop := i.natAbs < 2 ^ n
theorem Bt.mono {m n : Nat} {i : Int} (h : Bt m i) (hm : m ≤ n) : Bt n i := Nat.lt_of_lt_of_le h (Nat.pow_le_pow_right (by decide) hm)
theorem Bt.mul {m n : Nat} {i j : Int} (h : Bt m i) (h' : Bt n j) : Bt (m + n) (i * j) := by
  unfold Bt at *
  rw [Int.natAbs_mul, Nat.pow_add]
  exact Nat.mul_lt_mul'' h h'
theorem Bt.neg {m : Nat} {i : Int} (h : Bt m i) : Bt m (-i) := by
  unfold Bt at *
  rw [Int.natAbs_neg]; exact h
theorem Bt.log {m : Nat} {i : Int} (h : Bt m i) (hm : 0 < m) : i.natAbs.log2 < m := by
  unfold Bt at h
  rcases Nat.eq_zero_or_pos i.natAbs with h0 | hp
  · rw [h0]; exact hm
  · exact (Nat.log2_lt (by omega)).mpr h
theorem Bt.bits {m : Nat} {i : Int} (h : Bt m i) (hm : 0 < m) : Builtin.Int.intBits i ≤ m := by
  unfold Builtin.Int.intBits
  split
  · exact Nat.zero_le _
  · exact h.log hm
theorem Bt.of_le {m : Nat} {i : Int} {j : Int} (h : Bt m j) (e : i.natAbs ≤ j.natAbs) : Bt m i := Nat.lt_of_le_of_lt e h

section
variable {X : Cx}
def CMulB (i j : Int) : Prop := Bt 4000 i ∧ Bt 4000 j
theorem op_mulB : OpR X (binaryOp .Mult) (rI CMulB fun i j => .int (i * j)) := opI fun _ _ _ _ _ _ _ hc q =>
  mul_int q (.of_bits (Nat.le_trans (hc.1.bits (by decide)) (by decide)) (Nat.le_trans (hc.2.bits (by decide)) (by decide)))
def CDivB (i j : Int) : Prop := j ≠ 0 ∧ Bt 8000 j
theorem op_fdivB : OpR X (binaryOp .FloorDiv) (rI CDivB fun i j => .int (i.fdiv j)) := opI fun _ _ _ _ _ _ _ hc q =>
  floordiv_int hc.1 q (.inl (PyProof.noPylong_of_log2 (Nat.lt_trans (hc.2.log (by decide)) (by decide))))
/-! ### a list against the empty one -/
/-! ### is, of bools -/
/-! ### isinstance -/
end

/-! ### deep data: ints, truths, texts, tuples -/
mutual
def At (K : PySem.W.Frag) (H : Hp) : PyData → V → Prop
  | .none, v => v = .non
  | .bool b, v => v = .bl b
  | .int i, v => v = .int i
  | .str x, v => v = .str x
  | .tuple ds, v => ∃ a xs, v = .ref a ∧ SqT K H a xs ∧ AtAll K H ds xs
  | .list _, _ => False
  | .dict _, _ => False
def AtAll (K : PySem.W.Frag) (H : Hp) : List PyData → List V → Prop
  | [], xs => xs = []
  | d :: ds, xs => ∃ x r, xs = x :: r ∧ At K H d x ∧ AtAll K H ds r
end
/-- all but lists stand as they stood -/
def TSame (H H' : Hp) : Prop := ∀ a o, H a = some o → (∀ xs, o ≠ .lst xs) → (∀ ob xs, o ≠ .frz ob (.lst xs)) → H' a = some o
theorem TSame.refl (H : Hp) : TSame H H := fun _ _ h _ _ => h
theorem TSame.trans {H H1 H2 : Hp} (a : TSame H H1) (b : TSame H1 H2) : TSame H H2 := fun c o h n m => b c o (a c o h n m) n m
theorem Same.ts {H H' : Hp} (h : Same H H') : TSame H H' := fun a o e _ _ => h a o e
theorem TSame.tup {K : PySem.W.Frag} {H H' : Hp} (h : TSame H H') {a : Addr} {xs : List V} (q : SqT K H a xs) : SqT K H' a xs := by
  rcases q with (q | ⟨o, q⟩) | q
  · exact .inl (.inl (h _ _ q (fun _ e => nomatch e) (fun _ _ e => nomatch e)))
  · exact .inl (.inr ⟨o, h _ _ q (fun _ e => nomatch e) (fun _ _ e => nomatch e)⟩)
  · exact .inr q
mutual
theorem TSame.at {K : PySem.W.Frag} {H H' : Hp} (h : TSame H H') : ∀ {d : PyData} {v : V}, At K H d v → At K H' d v
  | .none, _, q => by simp only [At] at q ⊢; exact q
  | .bool b, _, q => by simp only [At] at q ⊢; exact q
  | .int i, _, q => by simp only [At] at q ⊢; exact q
  | .str x, _, q => by simp only [At] at q ⊢; exact q
  | .tuple ds, _, q => by
    simp only [At] at q ⊢
    obtain ⟨a, xs, e, s, r⟩ := q
    exact ⟨a, xs, e, h.tup s, TSame.atAll h r⟩
  | .list _, _, q => by simp only [At] at q
  | .dict _, _, q => by simp only [At] at q
theorem TSame.atAll {K : PySem.W.Frag} {H H' : Hp} (h : TSame H H') : ∀ {ds : List PyData} {xs : List V}, AtAll K H ds xs → AtAll K H' ds xs
  | [], _, q => by simp only [AtAll] at q ⊢; exact q
  | d :: ds, _, q => by
    simp only [AtAll] at q ⊢
    obtain ⟨x, r, e, a, b⟩ := q
    exact ⟨x, r, e, TSame.at h a, TSame.atAll h b⟩
end
mutual
theorem At.reads {X : Cx} {pins : List (Addr × Obj)} {σ : St} {H : Hp} {s : Shared} (I : Inv X pins σ H s) : ∀ {d : PyData} {v : V} {u : Value}, At X.K H d v → RelV v u → Reads s.heap u d []
  | .none, _, _, q, r => by
    simp only [At] at q; subst q; cases r; exact .none
  | .bool b, _, _, q, r => by
    simp only [At] at q; subst q; cases r; exact .bool b
  | .int i, _, _, q, r => by
    simp only [At] at q; subst q; obtain ⟨t, rfl⟩ := r; exact .int i t
  | .str x, _, _, q, r => by
    simp only [At] at q; subst q; obtain ⟨t, rfl⟩ := r; exact .str x t
  | .tuple ds, _, _, q, r => by
    simp only [At] at q
    obtain ⟨a, xs, e, hs, rr⟩ := q
    subst e; cases r
    obtain ⟨its, rv, ⟨o, ho, hc, n, hd⟩, hz⟩ := I.tuple hs
    exact .tuple ho hc hd (AtAll.reads I rr rv)
  | .list _, _, _, q, _ => by simp only [At] at q
  | .dict _, _, _, q, _ => by simp only [At] at q
theorem AtAll.reads {X : Cx} {pins : List (Addr × Obj)} {σ : St} {H : Hp} {s : Shared} (I : Inv X pins σ H s) : ∀ {ds : List PyData} {xs : List V} {us : List Value}, AtAll X.K H ds xs → Vals xs us → ReadsAll s.heap us ds []
  | [], _, _, q, r => by
    simp only [AtAll] at q; subst q; cases r; exact .nil
  | d :: ds, _, _, q, r => by
    simp only [AtAll] at q
    obtain ⟨x, rr, e, a, b⟩ := q
    subst e
    cases r with
    | cons p p' => exact .cons (as := []) (bs := []) (At.reads I a p) (AtAll.reads I b p')
end
/-! no dict within -/
section
variable {X : Cx}
end
end L2

namespace L2
open PySem PySem.Spec PyProof.Rows
/-! ### a def of the text, by its name -/
structure Has (K : PySem.W.Frag) (mg : Str → Option Value) (x : Str) (st : Stmt) (f : Addr) (fd : FuncData) (ps : List Str) : Prop where
  F : Fun K x x st f fd
  m : mg x = some (.ref f)
  b : Binds K fd ps []
theorem has_mk {K : PySem.W.Frag} {mg : Str → Option Value} {h : Heap} {x : Str} {st : Stmt} {f : Addr} {ps : List Str} {oc : Value} {od an : Option Addr} {osl : Array (Option Value)} {kV doc pm cdv ct : Value} (X : K.In h) (G : h.Ns mainGlobals mg) (a : PySem.W.nsIn K mainGlobals x = some (some (.ref f)))
    (l : K.lookup f = some ⟨oc, od, .func (PySem.W.fnOf x x (defArgs st) (defBody st) (defScope st) .none kV doc pm an cdv ct), osl⟩) (c : PySem.W.codeIn K cdv x = true) (k : PySem.W.keepIn K (.ref f) = true)
    (hb : ∀ (kV doc pm : Value) (an : Option Addr) (cdv ct : Value) (us : List Value), us.length = ps.length → bindArgs (PySem.W.fnOf x x (defArgs st) (defBody st) (defScope st) .none kV doc pm an cdv ct) ⟨us, []⟩ = pure (ps.zip us)) :
    Has K mg x st f (PySem.W.fnOf x x (defArgs st) (defBody st) (defScope st) .none kV doc pm an cdv ct) ps := ⟨fun_mk l c k, PySem.W.mg_of X G a, (fun_mk l c k).binds hb⟩
theorem pe_c {X : Cx} {x : Str} {st : Stmt} {f : Addr} {fd : FuncData} {ps : List Str} {k : Nat} {sp : Sp} {e : Expr} {es : List Expr} {t : TA} {p pos : Pos} (h : Has X.K X.mg x st f fd ps) (G : FnOk X.prog X.w X.K X.mg X.base CX0 k f fd ps sp) (hr : Room k X.A) (ha : PA X (e :: es) t)
    (hg : Gl X x := by rfl) (hdb : (x == ("__debug__" : Str)) = false := by decide) (he : starEach (e :: es) X.env = (false, eval e X.env) :: starEach es X.env := by rfl) (hpl : (backTo pos (starEach es X.env)).any (·.1) = false := by rfl) :
    PE X (.Call (.Name x p) (e :: es) [] pos) (tCall sp [] E0 t) := pe_call G hr hg h.m h.F.kp h.b .nil pass0 ha hdb he hpl
theorem Same.new {H : Hp} {p : Addr} {o : HO} (h : H p = none) : Same H (upd H p o) := fun b u e => by
  rw [upd_ne (ne_of_none e h)]; exact e
theorem Same.tup {K : PySem.W.Frag} {H H' : Hp} {a : Addr} {xs : List V} (e : Same H H') (h : SqT K H a xs) : SqT K H' a xs := e.ts.tup h
end L2

set_option Elab.async false
set_option linter.all false
set_option maxRecDepth 100000
set_option maxHeartbeats 4000000
namespace L2
open PySem PySem.Spec PyProof.Rows
/-! the arithmetic of fractions -/
def lowM (t b : Int) : Int × Int := if b < 0 then (t.fdiv (-(Int.gcd t b : Int)), b.fdiv (-(Int.gcd t b : Int))) else (t.fdiv (Int.gcd t b : Int), b.fdiv (Int.gcd t b : Int))
theorem gcd_fmod (x y : Int) : Int.gcd y (x.fmod y) = Int.gcd x y := by
  rw [Int.fmod_def, Int.gcd_sub_mul_left_right, Int.gcd_comm]
theorem fmod_abs_lt (x : Int) {y : Int} (h : y ≠ 0) : (x.fmod y).natAbs < y.natAbs := by
  rcases Int.lt_or_gt_of_ne h with h | h
  · have h1 : x.fmod y = -((-x).fmod (-y)) := by
      have := Int.neg_fmod_neg x y
      omega
    have h2 := Int.fmod_nonneg_of_pos (-x) (b := -y) (by omega)
    have h3 := Int.fmod_lt_of_pos (-x) (b := -y) (by omega)
    omega
  · have h2 := Int.fmod_nonneg_of_pos x h
    have h3 := Int.fmod_lt_of_pos x h
    omega
theorem gcd_pos {t b : Int} (h : b ≠ 0) : (0 : Int) < Int.gcd t b := by
  have := Int.gcd_pos_of_ne_zero_right t h
  omega
theorem lowM_spec {t b : Int} (h : b ≠ 0) : ∃ d : Int, d.natAbs = Int.gcd t b ∧ d ≠ 0 ∧ (lowM t b).1 * d = t ∧ (lowM t b).2 * d = b ∧ 0 < (lowM t b).2 := by
  have hg := gcd_pos (t := t) h
  have d1 : (Int.gcd t b : Int) ∣ t := Int.gcd_dvd_left ..
  have d2 : (Int.gcd t b : Int) ∣ b := Int.gcd_dvd_right ..
  unfold lowM
  split
  · rename_i hb
    have e1 : t.fdiv (-(Int.gcd t b : Int)) * (-(Int.gcd t b : Int)) = t := Int.fdiv_mul_cancel (Int.neg_dvd.mpr d1)
    have e2 : b.fdiv (-(Int.gcd t b : Int)) * (-(Int.gcd t b : Int)) = b := Int.fdiv_mul_cancel (Int.neg_dvd.mpr d2)
    refine ⟨-(Int.gcd t b : Int), by omega, by omega, e1, e2, ?_⟩
    show 0 < b.fdiv (-(Int.gcd t b : Int))
    have h3 : b.fdiv (-(Int.gcd t b : Int)) * (Int.gcd t b : Int) = -b := by rw [Int.mul_neg] at e2; omega
    exact Int.pos_of_mul_pos_left (by omega) (by omega) (b := (Int.gcd t b : Int))
  · rename_i hb
    have e1 : t.fdiv (Int.gcd t b : Int) * (Int.gcd t b : Int) = t := Int.fdiv_mul_cancel d1
    have e2 : b.fdiv (Int.gcd t b : Int) * (Int.gcd t b : Int) = b := Int.fdiv_mul_cancel d2
    refine ⟨(Int.gcd t b : Int), by omega, by omega, e1, e2, ?_⟩
    show 0 < b.fdiv (Int.gcd t b : Int)
    exact Int.pos_of_mul_pos_left (by omega) (by omega) (b := (Int.gcd t b : Int))
theorem lowM_gcd {t b : Int} (h : b ≠ 0) : Int.gcd (lowM t b).1 (lowM t b).2 = 1 := by
  obtain ⟨d, h1, h2, h3, h4, h5⟩ := lowM_spec (t := t) h
  have e : Int.gcd ((lowM t b).1 * d) ((lowM t b).2 * d) = Int.gcd (lowM t b).1 (lowM t b).2 * d.natAbs := Int.gcd_mul_right ..
  rw [h3, h4, ← h1] at e
  have hd : 0 < d.natAbs := by omega
  exact (Nat.eq_of_mul_eq_mul_right hd (by rw [Nat.one_mul]; exact e)).symm
theorem lowM_cross {t b : Int} (h : b ≠ 0) : (lowM t b).1 * b = (lowM t b).2 * t := by
  obtain ⟨d, h1, h2, h3, h4, h5⟩ := lowM_spec (t := t) h
  generalize (lowM t b).1 = x at *
  generalize (lowM t b).2 = y at *
  subst h3 h4
  rw [← Int.mul_assoc, ← Int.mul_assoc, Int.mul_comm x]
theorem gcd_bt {t b : Int} (h : b ≠ 0) {n : Nat} (hb : Bt n b) : Bt n (Int.gcd t b : Int) := by
  refine hb.of_le ?_
  have h1 := Nat.le_of_dvd (show 0 < b.natAbs by omega) (Int.ofNat_dvd.mp (by rw [Int.dvd_natAbs]; exact Int.gcd_dvd_right t b))
  omega
/-! the length of what is shown -/
mutual
def cnt : PyData → Nat
  | .tuple ds => 1 + cntAll ds
  | .str _ => 0
  | _ => 1
def cntAll : List PyData → Nat
  | [] => 0
  | d :: ds => cnt d + cntAll ds
end
mutual
def noStr : PyData → Bool
  | .tuple ds => noStrAll ds
  | .str _ => false
  | .list _ => false
  | .dict _ => false
  | _ => true
def noStrAll : List PyData → Bool
  | [] => true
  | d :: ds => noStr d && noStrAll ds
end
theorem int_shown_len {a : Int} (h : a.natAbs.log2 < 1920) : (Str.ofString (toString a)).length ≤ 1921 := by
  have e := int_text_length_le (k := 1920) (by decide) h
  rw [PySem.ofString_length]; omega
theorem piled_cons (x : Str) (r : List Str) : piled (x :: r) = x.length + 2 + piled r := by
  simp [piled]
theorem tuple_len (ts : List Str) : (tupleText ts).length ≤ piled ts + 3 := by
  unfold tupleText
  rw [strLen_append, strLen_append]
  have h1 : (("(" : Str)).length = 1 := by decide
  have h2 : (Str.ofString (if (ts.length == 1) = true then ",)" else ")")).length ≤ 2 := by split <;> decide
  have h3 : (Str.join ", " ts).length ≤ piled ts := by
    cases ts with
    | nil => show (Str.join ", " []).length ≤ 0; decide
    | cons x r => have := join_length_add (x :: r) (by simp); omega
  omega
mutual
theorem shown_len : ∀ {d : PyData}, noStr d = true → d.showable = true → d.shown.length + 2 ≤ 2000 * cnt d
  | .none, _, _ => by show (Str.ofString "None").length + 2 ≤ 2000 * 1; decide
  | .bool b, _, _ => by
    cases b
    · show (Str.ofString "False").length + 2 ≤ 2000 * 1; decide
    · show (Str.ofString "True").length + 2 ≤ 2000 * 1; decide
  | .int i, _, hs => by
    simp only [PyData.showable, decide_eq_true_eq] at hs
    have := int_shown_len hs
    show (Str.ofString (toString i)).length + 2 ≤ 2000 * 1
    omega
  | .tuple ds, hn, hs => by
    simp only [PyData.showable] at hs
    simp only [noStr] at hn
    have h1 := shown_lenAll hn hs
    have h2 := tuple_len (PyData.shownAll ds)
    simp only [PyData.shown, cnt]
    omega
  | .str _, hn, _ => by simp [noStr] at hn
  | .list _, hn, _ => by simp [noStr] at hn
  | .dict _, hn, _ => by simp [noStr] at hn
theorem shown_lenAll : ∀ {ds : List PyData}, noStrAll ds = true → PyData.showableAll ds = true → piled (PyData.shownAll ds) ≤ 2000 * cntAll ds
  | [], _, _ => by simp [PyData.shownAll, piled]
  | d :: ds, hn, hs => by
    simp only [noStrAll, Bool.and_eq_true] at hn
    simp only [PyData.showableAll, Bool.and_eq_true] at hs
    have h1 := shown_len hn.1 hs.1
    have h2 := shown_lenAll hn.2 hs.2
    simp only [PyData.shownAll, cntAll, piled_cons]
    omega
end
end L2

set_option Elab.async false
set_option linter.all false
set_option maxRecDepth 100000
set_option maxHeartbeats 4000000
namespace L2
open PySem PySem.Spec PyProof.Rows

/-! ### the cells that a comprehension's block is given -/
def clOf (env : Env) : List (Str × NameKind) → List (Str × Addr) → List (Str × Addr)
  | [], cs => cs
  | (n, k) :: r, cs => clOf env r (if k == .free then (n, (env.cells.lookup n).getD 0) :: cs else cs)
theorem closure_loop {env : Env} : ∀ (names : List (Str × NameKind)) (cs : List (Str × Addr)), (∀ y ∈ names, y.2 = .free → ∃ c, env.cells.lookup y.1 = some c) →
    (forIn names cs (fun (x : Str × NameKind) (r : List (Str × Addr)) => (if (x.2 == NameKind.free) = true then do let a ← cellOf env x.1; pure (ForInStep.yield ((x.1, a) :: r)) else pure (ForInStep.yield r) : Sem (ForInStep (List (Str × Addr))))) : Sem (List (Str × Addr))) = pure (clOf env names cs)
  | [], cs, _ => rfl
  | (n, k) :: r, cs, h => by
    rw [List.forIn_cons]
    have ih := fun cs' => closure_loop (env := env) r cs' (fun y hy => h y (List.mem_cons_of_mem _ hy))
    by_cases hk : (k == NameKind.free) = true
    · have hk' : k = .free := by simpa using hk
      obtain ⟨c, hc⟩ := h (n, k) List.mem_cons_self hk'
      have e : cellOf env n = pure c := by unfold cellOf; rw [hc]
      simp only [hk, if_true, e, pure_bind, clOf, hc, Option.getD_some]
      exact ih _
    · have hk' : (k == NameKind.free) = false := by simpa using hk
      simp only [hk', Bool.false_eq_true, if_false, pure_bind, clOf]
      exact ih _
theorem closure_is {scope : Scope} {env : Env} (h : ∀ y ∈ scope.names, y.2 = .free → ∃ c, env.cells.lookup y.1 = some c) : closureFor scope env = pure (clOf env scope.names []) := by
  have e := closure_loop (env := env) scope.names [] h
  unfold closureFor
  simp only [pure_bind, bind_pure] at e ⊢
  exact e
theorem clOf_sound {env : Env} : ∀ (names : List (Str × NameKind)) (cs : List (Str × Addr)) (x : Str) (c : Addr), (∀ y ∈ names, y.2 = .free → ∃ c, env.cells.lookup y.1 = some c) → (∀ x c, cs.lookup x = some c → env.cells.lookup x = some c) → (clOf env names cs).lookup x = some c → env.cells.lookup x = some c
  | [], cs, x, c, _, hs, h => hs x c h
  | (n, k) :: r, cs, x, c, hn, hs, h => by
    refine clOf_sound r _ x c (fun y hy => hn y (List.mem_cons_of_mem _ hy)) (fun x' c' e => ?_) h
    by_cases hk : (k == NameKind.free) = true
    · rw [if_pos hk] at e
      obtain ⟨c0, hc⟩ := hn (n, k) List.mem_cons_self (by simpa using hk)
      rw [List.lookup_cons] at e
      cases hx : x' == n with
      | true =>
        rw [hx] at e
        have e1 : x' = n := by simpa using hx
        subst e1
        simp only [hc, Option.getD_some, Option.some.injEq] at e
        rw [← e]; exact hc
      | false => rw [hx] at e; exact hs x' c' e
    · rw [if_neg hk] at e
      exact hs x' c' e
theorem clOf_has {env : Env} : ∀ (names : List (Str × NameKind)) (cs : List (Str × Addr)) (x : Str), ((∃ y ∈ names, y.1 = x ∧ y.2 = .free) ∨ ∃ c, cs.lookup x = some c) → ∃ c, (clOf env names cs).lookup x = some c
  | [], cs, x, h => by
    rcases h with ⟨y, hy, _⟩ | h
    · cases hy
    · exact h
  | (n, k) :: r, cs, x, h => by
    refine clOf_has r _ x ?_
    by_cases hk : (k == NameKind.free) = true
    · rw [if_pos hk, List.lookup_cons]
      cases hx : x == n with
      | true => exact .inr ⟨_, rfl⟩
      | false =>
        rcases h with ⟨y, hy, e1, e2⟩ | h
        · rcases List.mem_cons.mp hy with z | z
          · subst z; subst e1; simp at hx
          · exact .inl ⟨y, z, e1, e2⟩
        · exact .inr h
    · rw [if_neg hk]
      rcases h with ⟨y, hy, e1, e2⟩ | h
      · rcases List.mem_cons.mp hy with z | z
        · subst z; exact absurd (by simpa using e2) hk
        · exact .inl ⟨y, z, e1, e2⟩
      · exact .inr h
theorem relabel_free {env : Env} : ∀ {names : List (Str × NameKind)} {x : Str}, (∀ y ∈ names, y.2 ≠ .cell) → (names.map fun (n, k) => if (k == NameKind.free && env.scope.kind == .function && env.kindOf n == some .cell) then (n, NameKind.cell) else (n, k)).lookup x = some .cell ∨
    (names.map fun (n, k) => if (k == NameKind.free && env.scope.kind == .function && env.kindOf n == some .cell) then (n, NameKind.cell) else (n, k)).lookup x = some .free → ∃ y ∈ names, y.1 = x ∧ y.2 = .free
  | [], x, _, h => by simp at h
  | (n, k) :: r, x, hc, h => by
    have ih := @relabel_free env r x (fun y hy => hc y (List.mem_cons_of_mem _ hy))
    have nc : k ≠ .cell := hc (n, k) List.mem_cons_self
    rw [List.map_cons] at h
    cases hx : x == n with
    | true =>
      have e1 : x = n := by simpa using hx
      subst e1
      refine ⟨(x, k), List.mem_cons_self, rfl, ?_⟩
      by_cases q : (k == NameKind.free && env.scope.kind == .function && env.kindOf x == some .cell) = true
      · simp only [Bool.and_eq_true, beq_iff_eq] at q; exact q.1.1
      · simp only [q, Bool.false_eq_true, if_false, List.lookup_cons, beq_self_eq_true, Option.some.injEq] at h
        rcases h with h | h
        · exact absurd h nc
        · exact h
    | false =>
      have e2 : ∀ (l : List (Str × NameKind)), ((if (k == NameKind.free && env.scope.kind == .function && env.kindOf n == some .cell) = true then (n, NameKind.cell) else (n, k)) :: l).lookup x = l.lookup x := fun l => by
        split <;> simp [List.lookup_cons, hx]
      simp only [e2] at h
      obtain ⟨y, hy, z⟩ := ih h
      exact ⟨y, List.mem_cons_of_mem _ hy, z⟩

theorem relabel_of_free {env : Env} : ∀ {names : List (Str × NameKind)} {x : Str}, names.lookup x = some .free →
    (names.map fun (n, k) => if (k == NameKind.free && env.scope.kind == .function && env.kindOf n == some .cell) then (n, NameKind.cell) else (n, k)).lookup x ≠ some .local
  | [], x, h => by simp at h
  | (n, k) :: r, x, h => by
    rw [List.map_cons]
    cases hx : x == n with
    | true =>
      simp only [hx, List.lookup_cons] at h
      cases h
      show List.lookup x ((if (NameKind.free == NameKind.free && env.scope.kind == .function && env.kindOf n == some .cell) = true then (n, NameKind.cell) else (n, NameKind.free)) :: _) ≠ _
      split <;> simp [List.lookup_cons, hx]
    | false =>
      simp only [hx, List.lookup_cons] at h
      have ih := @relabel_of_free env r x h
      have e2 : ∀ (l : List (Str × NameKind)), ((if (k == NameKind.free && env.scope.kind == .function && env.kindOf n == some .cell) = true then (n, NameKind.cell) else (n, k)) :: l).lookup x = l.lookup x := fun l => by
        split <;> simp [List.lookup_cons, hx]
      simp only [e2]
      exact ih
/-! ### a comprehension's block -/
def compCx (X : Cx) (scope : Scope) (cp : List (Nat × Str)) (tgN : List Str) (C : Addr) (s0 : Shared) (H0 : Hp) (fp : List Addr) : Cx where
  prog := X.prog
  w := X.w
  K := X.K
  mg := X.mg
  base := X.base
  A := X.A
  N := cp.map (·.2) ++ tgN
  s₀ := s0
  H₀ := H0
  env := compEnvC scope (clOf X.env scope.names []) C X.env
  outer := X.stack
  stack := X.stack
  ex := fp
  fn := fun x => scope.names.lookup x == some .local
  calm := X.calm
  pn := []
  xe := fun _ _ => False
def PTs (X : Cx) (ifs : List Expr) (t : TT) : Prop :=
  ∀ (pins : List (Addr × Obj)) (s : Shared) (σ : L2.St) (H : Hp) (Q : Bool → Hp → Prop), Inv X pins σ H s → t σ H Q →
    wpAny (model X.prog X.w) X.A (forIn ifs true fun c r => if r = true then do let ok ← isTrue c X.env (eval c X.env); pure (ForInStep.yield ok) else pure (ForInStep.yield r)) (TP X pins σ Q) X.xe s
theorem pts_nil {X : Cx} : PTs X [] (fun _ H Q => Q true H) := fun _ _ _ H _ I h => wpAny_tests_nil ⟨H, I, h⟩
theorem pts_one {X : Cx} {c : Expr} {t : TT} (h : PT X c t) : PTs X [c] t := fun pins s σ H Q I q => wpAny_tests_one (h pins s σ H Q I q)

abbrev noX : Value → Shared → Prop := fun _ _ => False
/-- one turn behind its item v, till the block may go on -/
def compGo (prog : Program) (w : World) (A : Around) (elt tg : Expr) (ifs : List Expr) (env : Env) (it acc : Value) (onward : Shared → Prop) (v : Value) (u : Shared) : Prop :=
  wpAny (model prog w) A (letOwnedTupleGo tg it v) (fun _ u1 => wpAny (model prog w) A (assign tg env v) (fun _ u2 => wpAny (model prog w) A
    (forIn ifs true fun c r => if r = true then do let ok ← isTrue c env (eval c env); pure (ForInStep.yield ok) else pure (ForInStep.yield r)) (fun ok u3 => if ok = true then wpAny (model prog w) A (eval elt env) (fun x u4 => wpAny (model prog w) A (call (.builtin "list.append") [acc, x]) (fun _ u5 => onward u5) noX u4) noX u3 else onward u3) noX u2) noX u1) noX u
theorem compLoop_gen {prog : Program} {w : World} {A : Around} {R : Result → Shared → Prop} {elt tg iter : Expr} {ifs : List Expr} {scope : Scope} {pos : Pos} {it acc : Value} {env : Env} (J : Nat → Shared → Prop)
    (turn : ∀ n u, J n u → wpAny (model prog w) A (pyNext it) (fun r u1 => (r = none → R (.ok .next) u1) ∧ ∀ v, r = some v → compGo prog w A elt tg ifs env it acc (fun u2 => ∃ m, m < n ∧ J m u2) v u1) noX u) {n0 : Nat} {u0 : Shared} (start : J n0 u0) :
    codeAny (model prog w) A (.compLoop (.ListComp elt [⟨tg, iter, ifs, 0⟩] scope pos) 0 it acc env) R u0 := by
  refine codeAny_loop rfl J (fun n u ju => ?_) n0 start
  show wpAny _ A ((compTurn (.ListComp elt [⟨tg, iter, ifs, 0⟩] scope pos) 0 it acc env).onRaise _) _ _ u; refine wpAny_noted ?_; rw [compTurn_list]
  refine wpAny_bind (wpAny_standAt (wpAny_bind (wpAny_mono (turn n u ju) (fun r u1 k1 => ?_) fun _ _ z => z.elim)))
  cases r with
  | none => exact wpAny_pure (k1.1 rfl)
  | some v =>
    refine wpAny_bind (wpAny_mono (k1.2 v rfl) (fun _ u2 k2 => wpAny_bind (wpAny_mono k2 (fun _ u3 k3 => wpAny_bind (wpAny_mono k3 (fun ok u4 k4 => ?_) fun _ _ z => z.elim)) fun _ _ z => z.elim)) fun _ _ z => z.elim)
    cases ok with
    | false => rw [if_neg Bool.false_ne_true] at k4; exact wpAny_pure ⟨rfl, k4⟩
    | true =>
      rw [if_pos rfl] at k4
      refine wpAny_bind (wpAny_bind (wpAny_mono k4 (fun x u5 k5 => wpAny_bind (wpAny_mono k5 (fun _ u6 k6 => ?_) fun _ _ z => z.elim)) fun _ _ z => z.elim)); exact wpAny_pure (wpAny_pure ⟨rfl, k6⟩)

def sig0 (cp : List (Nat × Str)) (nT : Nat) (σ : L2.St) : L2.St := cp.map (fun p => (σ[p.1]?).join) ++ List.replicate nT none
structure tComp (cp : List (Nat × Str)) (nT : Nat) (wi : TI) (g : TG) (tc : TT) (te : TE) (σ : L2.St) (H : Hp) (Q : VK) : Prop where
  go : wi σ H fun J H1 => ∀ l, H1 l = none →
  ∃ W : Nat → Nat → L2.St → Hp → Prop, (∃ m, W 0 m (sig0 cp nT σ) (upd H1 l (.lst []))) ∧ ∀ i m σ' H', W i m σ' H' →
    (J.stop i H' ∧ Q (.ref l) H') ∨ (J.go i H' ∧ ∃ N : L2.St → Hp → Prop, (∀ σ2 H2, N σ2 H2 → ∃ m', m' < m ∧ W (i + 1) m' σ2 H2) ∧
      ∀ x H2, J.yld i H' x H2 → g x σ' H2 fun σ2 H3 => tc σ2 H3 fun b H4 => if b = true then te σ2 H4 fun v H5 => ∃ ys, H5 l = some (.lst ys) ∧ ys.length < sizeLine ∧ N σ2 (upd H5 l (.lst (ys ++ [v]))) else N σ2 H4)

theorem pe_comp {X : Cx} {elt iter tg : Expr} {ifs : List Expr} {scope : Scope} {pos : Pos} {wi : TI} {g : TG} {tc : TT} {te : TE} (sc0 : Scope) (N0 : List Str) (cp : List (Nat × Str)) (tgN : List Str)
    (hc : X.calm = true) (hsc : X.env.scope = sc0) (hN0 : X.N = N0) (hi : PI X tg iter wi)
    (hg : ∀ C s0 H0 fp, PG (compCx X scope cp tgN C s0 H0 fp) tg g)
    (ht : ∀ C s0 H0 fp, PTs (compCx X scope cp tgN C s0 H0 fp) ifs tc)
    (he : ∀ C s0 H0 fp, PE (compCx X scope cp tgN C s0 H0 fp) elt te)
    (hk : scope.kind = .function) (hcell : ∀ y ∈ scope.names, y.2 ≠ .cell) (hnames : ∀ y ∈ scope.names, y.2 = .local → scope.names.lookup y.1 = some .local)
    (hfr : ∀ y ∈ scope.names, y.2 = .free → scope.names.lookup y.1 = some .free ∧ sc0.names.lookup y.1 = some .cell)
    (hcp : ∀ p ∈ cp, N0[p.1]? = some p.2) (hcq : ∀ p ∈ cp, sc0.names.lookup p.2 = some .cell ∧ scope.names.lookup p.2 = some .free)
    (hs : ∀ x, foldedSetIterable iter X.env x = pure x := by intro _; rfl) :
    PE X (.ListComp elt [⟨tg, iter, ifs, 0⟩] scope pos) (tComp cp tgN.length wi g tc te) := by
  intro pins s σ H Q I h
  have hkind : ∀ x, X.env.kindOf x = sc0.names.lookup x := fun x => by unfold Env.kindOf; rw [hsc]
  have hfree : ∀ y ∈ scope.names, y.2 = .free → ∃ c, X.env.cells.lookup y.1 = some c := fun y hy e => I.ok.has y.1 (.inl (by rw [hkind]; exact (hfr y hy e).2))
  rw [eval_ListComp]
  refine wpAny_comprehension_free (use := none) rfl hs (closure_is hfree) hk hnames (wpAny_mono (hi pins s σ H _ I h.go) (fun xv s₁ h₁ => wpAny_mono h₁ (fun itv s₂ h₂ => ?_) fun _ _ e => e) fun _ _ e => e)
  obtain ⟨it, fp, tn, J, H2, rfl, I2, T, st2, f2, hq⟩ := h₂
  -- the accumulator
  refine wpAny_newObj_type ?_
  have hlF : H2 s₂.heap.objs.size = none := I2.hok.fresh (Nat.le_refl _)
  have I3 : Inv X pins σ (upd H2 s₂.heap.objs.size (.lst [])) { s₂ with heap := s₂.heap.push { cls := .type "list", data := .seq ([] : List Value).toArray } } := I2.lnew (t' := s₂.toks) .nil (Nat.zero_le _)
  obtain ⟨W, ⟨m0, w0⟩, turn⟩ := hq _ hlF
  have f3 : ∀ b ∈ fp, FpOk X pins (upd H2 s₂.heap.objs.size (.lst [])) b := fun b hb => by
    obtain ⟨f0, fr⟩ := f2 b hb
    obtain ⟨o, ho, _⟩ := T.obj _ _ st2 b hb
    exact ⟨by rw [upd_ne (Nat.ne_of_lt (Heap.lt_size ho))]; exact f0, fr⟩
  have st3 : tn 0 (s₂.heap.push { cls := .type "list", data := .seq ([] : List Value).toArray }) := T.keep _ _ _ st2 fun b _ o e => Heap.get?_push_of_some _ e
  generalize hD : s₂.heap.objs.size = D at *
  generalize hs3 : ({ s₂ with heap := s₂.heap.push { cls := .type "list", data := .seq ([] : List Value).toArray } } : Shared) = s₃ at *
  have hst3 : tn 0 s₃.heap := by rw [← hs3]; exact st3
  refine wpAny_newFunctionEnv hcell (by intro y hy; simp at hy) (fun h₁ hns₁ hsb₁ => ?_) hk
  generalize hC : s₃.heap.objs.size = C at *
  have old : ∀ b o, s₃.heap.get? b = some o → h₁.get? b = some o := fun b o e => hsb₁.extBut b o (by rw [← hC]; exact Nat.ne_of_lt (Heap.lt_size e)) (Heap.get?_push_of_some _ e)
  have nC : ∀ b o, s₃.heap.get? b = some o → b ≠ C := fun b o e => by rw [← hC]; exact Nat.ne_of_lt (Heap.lt_size e)
  have hHC : (upd H2 D (.lst [])) C = none := I3.hok.fresh (by rw [hC]; exact Nat.le_refl _)
  have clS : ∀ x c, (clOf X.env scope.names []).lookup x = some c → X.env.cells.lookup x = some c := fun x c e => clOf_sound _ _ x c hfree (fun _ _ z => by simp at z) e
  have clH : ∀ x, (∃ y ∈ scope.names, y.1 = x ∧ y.2 = .free) → ∃ c, (clOf X.env scope.names []).lookup x = some c := fun x e => clOf_has _ _ x (.inl e)
  -- the block's context holds
  have ok' : (compCx X scope cp tgN C s₃ (upd H2 D (.lst [])) fp).Ok := by
    refine ⟨I.ok.mod, hk, I.ok.glob, I.ok.blt, by rw [← hC]; exact Nat.le_refl _, fun x y c e1 e2 => I.ok.inj x y c (clS _ _ e1) (clS _ _ e2), fun x e => clH x (relabel_free hcell e), fun x c e1 e2 => ?_, I.ok.hd, I.ok.frames, .inl rfl, fun b hb => ?_, fun b o e => I3.bs b o e, ?_, fun b o e hb => ?_, fun b hb z => ?_, I3.stack, fun b hb => I3.stkFree b hb⟩
    · exfalso
      have e1' : scope.names.lookup x = some .local := by simpa [compCx] using e1
      have e2' := clS x c e2
      obtain ⟨c', hc'⟩ : ∃ y ∈ scope.names, y.1 = x ∧ y.2 = .free := by
        by_cases q : ∃ y ∈ scope.names, y.1 = x ∧ y.2 = .free
        · exact q
        · exfalso
          have : ∀ (names : List (Str × NameKind)) (cs : List (Str × Addr)), (¬ ∃ y ∈ names, y.1 = x ∧ y.2 = .free) → cs.lookup x = none → (clOf X.env names cs).lookup x = none := by
            intro names
            induction names with
            | nil => intro cs _ h; exact h
            | cons y r ih =>
              intro cs hn hcs
              obtain ⟨n, k⟩ := y
              refine ih _ (fun ⟨y, hy, z⟩ => hn ⟨y, List.mem_cons_of_mem _ hy, z⟩) ?_
              by_cases hk : (k == NameKind.free) = true
              · rw [if_pos hk, List.lookup_cons]
                cases hx : x == n with
                | true => exact absurd ⟨(n, k), List.mem_cons_self, (by simpa using hx : x = n).symm, by simpa using hk⟩ hn
                | false => exact hcs
              · rw [if_neg hk]; exact hcs
          have z := this scope.names [] q rfl
          have e2'' : (clOf X.env scope.names []).lookup x = some c := e2
          rw [z] at e2''; cases e2''
      have z := (hfr c' hc'.1 hc'.2.2).1
      rw [hc'.2.1, e1'] at z; cases z
    · obtain ⟨f0, f1, f4, f5, f6, f7⟩ := f3 b hb
      obtain ⟨o, ho, _⟩ := T.obj _ _ hst3 b hb
      exact ⟨nC b o ho, fun x c e => f6 x c (clS x c e)⟩
    · exact Nat.le_trans I.ok.bsz I3.sz
    · obtain ⟨f0, f1, f4, f5, f6, f7⟩ := f3 b hb
      rcases f5 with z | z
      · exact I.ok.noex b o e z
      · have := (I.ok.bs b o e).1
        exact absurd (Nat.lt_of_lt_of_le (Heap.lt_size this) z) (Nat.lt_irrefl _)
    · obtain ⟨f0, f1, f4, f5, f6, f7⟩ := f3 b hb
      rcases List.mem_cons.mp (I3.stkSub b z) with z | z
      · exact f1 z
      · exact f4 z
  have I4 : Inv (compCx X scope cp tgN C s₃ (upd H2 D (.lst [])) fp) [] (sig0 cp tgN.length σ) (upd H2 D (.lst [])) { s₃ with heap := h₁, toks := s₃.toks + ([] : List (Str × Value)).length } := by
    refine ⟨ok', rfl, I3.bare, Un.kept old, ⟨_, hns₁, fun i x v e1 e2 e3 => ?_⟩, fun x c e => ?_, hHC, fun x c e => I3.freeC x c (clS x c e), fun p hp => by simp [compCx] at hp, I3.hok.kept old, by simp [sig0, compCx]⟩
    · have hlt : i < cp.length := by
        by_cases q : i < cp.length
        · exact q
        · exfalso
          unfold sig0 at e2
          rw [List.getElem?_append_right (by simp; omega)] at e2
          rw [List.getElem?_replicate] at e2
          split at e2 <;> cases e2
      have e1' : (cp.map (·.2))[i]? = some x := by
        have e1'' : (cp.map (·.2) ++ tgN)[i]? = some x := e1
        rwa [List.getElem?_append_left (by simp; exact hlt)] at e1''
      have e2' : (cp.map (fun p => (σ[p.1]?).join))[i]? = some (some v) := by
        unfold sig0 at e2
        rwa [List.getElem?_append_left (by simp; exact hlt)] at e2
      rw [List.getElem?_map, List.getElem?_eq_getElem hlt] at e1' e2'
      have ex : (cp[i]).2 = x := by simpa using e1'
      have ev : (σ[(cp[i]).1]?).join = some v := by simpa using e2'
      have ev' : σ[(cp[i]).1]? = some (some v) := by
        cases q : σ[(cp[i]).1]? with
        | none => rw [q] at ev; cases ev
        | some z => rw [q] at ev; simp only [Option.join_some] at ev; rw [ev]
      have hN := hcp cp[i] (List.getElem_mem hlt)
      rw [← hN0] at hN
      obtain ⟨hcl, hcf⟩ := hcq cp[i] (List.getElem_mem hlt)
      rw [ex] at hN hcl hcf
      obtain ⟨m, hn, hl⟩ := I3.loc
      obtain ⟨u, r, l⟩ := hl _ x v hN ev' (.inr (.inl (by rw [hsc]; exact hcl)))
      refine ⟨u, r, .inr ?_⟩
      rcases l with ⟨k1, _⟩ | ⟨k1, c, hcc, o, ho, hd⟩
      · rw [hkind, hcl] at k1; cases k1
      · have e3' : (relabel scope X.env).names.lookup x = some .local ∨ (relabel scope X.env).names.lookup x = some .cell ∨ (relabel scope X.env).names.lookup x = some .free := e3
        have nl : (relabel scope X.env).names.lookup x = some .cell ∨ (relabel scope X.env).names.lookup x = some .free := by
          rcases e3' with z | z | z
          · exact absurd z (relabel_of_free hcf)
          · exact .inl z
          · exact .inr z
        obtain ⟨c', hc'⟩ := clH x (relabel_free hcell nl)
        have := clS x c' hc'
        rw [hcc] at this; cases this
        exact ⟨nl, c, hc', o, old c o ho, hd⟩
    · obtain ⟨v, o, ho, hd⟩ := I3.cell x c (clS x c e)
      exact ⟨v, o, old c o ho, hd⟩
  have hst4 : tn 0 h₁ := T.keep _ _ _ hst3 fun b _ o e => old b o e
  have loop : codeAny (model X.prog X.w) X.A (.compLoop (.ListComp elt [⟨tg, iter, ifs, 0⟩] scope pos) 0 (.ref it) (.ref D) (compEnvC scope (clOf X.env scope.names []) C X.env))
      (compPost (model X.prog X.w) X.A X.xe none (EP X pins σ Q) (.ref D) C) { s₃ with heap := h₁, toks := s₃.toks + ([] : List (Str × Value)).length } := by
    refine compLoop_gen (fun n s' => ∃ i σ' H', Inv (compCx X scope cp tgN C s₃ (upd H2 D (.lst [])) fp) [] σ' H' s' ∧ tn i s'.heap ∧ (∀ b ∈ fp, H' b = none) ∧ W i n σ' H') ?_ (n0 := m0) ⟨0, _, _, I4, hst4, fun b hb => (f3 b hb).1, w0⟩
    rintro n s5 ⟨i, σ5, H5, I5, st5, fr5, w5⟩
    have stat : ∀ {H' : Hp}, (∀ b ∈ fp, H' b = none) → ∀ b ∈ fp, FpOk (compCx X scope cp tgN C s₃ (upd H2 D (.lst [])) fp) [] H' b := fun hn b hb =>
      ⟨hn b hb, (ok'.exf b hb).1, ok'.exfs b hb, .inl hb, (ok'.exf b hb).2, fun p hp => by simp [compCx] at hp⟩
    rcases turn i n σ5 H5 w5 with ⟨stop, qn⟩ | ⟨go, N, hN, step⟩
    · refine thn (T.done (compCx X scope cp tgN C s₃ (upd H2 D (.lst [])) fp) rfl rfl rfl hc i [] s5 σ5 H5 (fun _ _ => False) I5 (stat fr5) st5 stop) fun r s6 ⟨hr, I6⟩ => ?_
      subst hr
      refine ⟨fun _ => ?_, fun v z => by cases z⟩
      obtain ⟨m, hn, _⟩ := I6.loc
      refine ⟨m, hn, fun h' sb => ⟨.ref D, H5, ?_, rfl, qn⟩⟩
      have ub := I6.base
      have kp : ∀ b u, b ≠ C → s6.heap.get? b = some u → h'.get? b = some u := fun b u ne e => sb.extBut b u ne e
      have nit : ∀ b u, H5 b = some u → b ≠ C := fun b u e z => by
        have := I6.free
        rw [z] at e
        rw [show H5 C = none from this] at e; cases e
      refine I3.call' (s' := { s6 with heap := h' }) (ch := fp) I6.os ⟨fun b o e n hb hx => kp b o (nC b o e) (ub.keep b o e n hb hx), fun b o e n hb hx => ?_, ub.free, fun b o e hx => ?_, ub.tups, ub.frzs, ub.tbls⟩ (fun b u e => ?_) I6.bare (fun b hb => ?_)
      · obtain ⟨sl, q⟩ := ub.slot b o e n hb hx
        exact ⟨sl, kp b _ (nC b o e) q⟩
      · obtain ⟨o', q⟩ := ub.there b o e hx
        exact ⟨o', kp b _ (nC b o e) q⟩
      · refine (I6.hok b u e).stay (fun c v hc q => kp c v ?_ q) (fun _ q => q) fun _ _ q => q
        rcases hc with z | z
        · rw [z]; exact nit b u e
        · exact nit c _ z
      · obtain ⟨f0, f1, f4, f5, f6, f7⟩ := f3 b hb
        exact ⟨f5, f1, f6, f7⟩
    · refine thn (T.item (compCx X scope cp tgN C s₃ (upd H2 D (.lst [])) fp) rfl rfl rfl hc i [] s5 σ5 H5 (fun _ _ => False) I5 (stat fr5) st5 go) fun r s6 ⟨u, hr, h6⟩ => ?_
      subst hr
      refine ⟨fun z => (by cases z), fun v z => ?_⟩
      cases z
      refine thn h6 fun _ s7 ⟨x, H7, I7, r7, y7, st7, fr7⟩ => ?_
      have I7' := I7.pinned (stat fr7) (T.obj _ _ st7)
      have again : ∀ {σ8 : L2.St} {H8 : Hp} {s8 : Shared}, Inv (compCx X scope cp tgN C s₃ (upd H2 D (.lst [])) fp) ([] ++ pinsAt fp s7.heap) σ8 H8 s8 → N σ8 H8 → ∃ m, m < n ∧ ∃ i σ' H', Inv (compCx X scope cp tgN C s₃ (upd H2 D (.lst [])) fp) [] σ' H' s8 ∧ tn i s8.heap ∧ (∀ b ∈ fp, H' b = none) ∧ W i m σ' H' := fun {σ8 H8 s8} I8 n8 => by
        obtain ⟨m', hm, w8⟩ := hN σ8 H8 n8
        refine ⟨m', hm, i + 1, σ8, H8, I8.unpinned, T.keep _ _ _ st7 fun b hb o e => (I8.pin (b, o) (List.mem_append_right _ (List.mem_append_right _ (mem_pinsAt hb e)))).1, fun b hb => ?_, w8⟩
        obtain ⟨o, e, d⟩ := T.obj _ _ st7 b hb
        exact (I8.pin (b, o) (List.mem_append_right _ (List.mem_append_right _ (mem_pinsAt hb e)))).2.1
      refine thn (hg C s₃ (upd H2 D (.lst [])) fp _ s7 σ5 H7 x u _ I7' r7 (step x H7 y7)) fun _ s8 ⟨σ8, H8, I8, q8⟩ => ?_
      refine thn (ht C s₃ (upd H2 D (.lst [])) fp _ s8 σ8 H8 _ I8 q8) fun ok s9 ⟨H9, I9, q9⟩ => ?_
      cases ok with
      | false =>
        rw [if_neg Bool.false_ne_true] at q9 ⊢
        exact again I9 q9
      | true =>
        rw [if_pos rfl] at q9 ⊢
        refine thn (he C s₃ (upd H2 D (.lst [])) fp _ s9 σ8 H9 _ I9 q9) fun v s10 ⟨xv, H10, I10, r10, ys, hl, hz, n10⟩ => ?_
        refine thn (mt_append _ s10 σ8 H10 (.ref D) [xv] (.ref D) [v] (fun _ H => N σ8 H) I10 rfl (.cons r10 .nil) ⟨D, ys, xv, rfl, rfl, hl, hz, n10⟩) fun _ s11 ⟨_, H11, I11, _, q11⟩ => ?_
        exact again I11 q11
  exact codeAny_compStart_list loop (T.self X.A 0 _ _ _ hst4 loop)
end L2

set_option Elab.async false
set_option linter.all false
set_option maxRecDepth 100000
set_option maxHeartbeats 4000000
namespace L2
open PySem PySem.Spec PyProof.Rows
section
variable {X : Cx}
/-! tuple + tuple, whichever of both is empty -/
def rCatA (K : PySem.W.Frag) : R2 := fun x y H Q => ∃ a b xs ys, x = .ref a ∧ y = .ref b ∧ SqT K H a xs ∧ SqT K H b ys ∧ xs.length + ys.length ≤ sizeLine ∧ ∀ p H', Same H H' → SqT K H' p (xs ++ ys) → Q (.ref p) H'
theorem op_catA : OpR X (binaryOp .Add) (rCatA X.K) := by
  intro pins s σ H x y v u Q I rx ry h
  obtain ⟨a, b, xs, ys, rfl, rfl, ha, hb, hz, q⟩ := h
  cases rx; cases ry
  by_cases hx : xs = []
  · obtain ⟨i1, r1, p1, _⟩ := I.tuple ha
    obtain ⟨i2, r2, p2, _⟩ := I.tuple hb
    obtain ⟨m, F⟩ := I.fr
    have e1 : i1 = [] := by subst hx; cases r1; rfl
    refine add_tuples F (news_all (g := X.base)) p1 p2 (fun _ => ?_) (fun z1 _ => absurd e1 z1) (fun z1 _ _ _ _ => absurd e1 z1) (by rw [← r1.length, ← r2.length]; exact hz)
    exact ⟨.ref b, H, I, rfl, q b H (Same.refl H) (by rw [hx]; exact hb)⟩
  · exact op_catT pins s σ H (.ref a) (.ref b) _ _ Q I rfl rfl ⟨a, b, xs, ys, rfl, rfl, ha, hb, hx, hz, fun z => q a H (Same.refl H) (by rw [z, List.append_nil]; exact ha), fun _ p hp => q p _ (Same.new hp) (SqT.of upd_same)⟩
/-! sum of a list of ints -/
theorem one_of {x : V} {us : List Value} (r : Vals [x] us) : ∃ u, us = [u] ∧ RelV x u := by
  cases r with
  | cons p p' => cases p'; exact ⟨_, rfl, p⟩
/-! sorted of a tuple of ints -/
end
end L2

set_option Elab.async false
set_option linter.all false
set_option maxRecDepth 100000
set_option maxHeartbeats 4000000
namespace L2
open PySem PySem.Spec PyProof.Rows
section
variable {X : Cx}
end
/-! ### arguments, one after another, by a look at the star alone -/
theorem star_cons {e : Expr} {es : List Expr} {env : Env} (h : PySem.W.isStarred e = false) : starEach (e :: es) env = (false, eval e env) :: starEach es env := by
  cases e <;> first | rfl | cases h
theorem pa_k {X : Cx} {e : Expr} {es : List Expr} {te : TE} {t : TA} (ha : PE X e te) (hr : PA X es t) (h : PySem.W.isStarred e = false := by rfl) : PA X (e :: es) (tCons te t) := pa_cons ha hr (star_cons h)
/-! ### a row of written pairs of ints -/
def tPairs0 : List (Int × Int) → TA
  | [] => tNil
  | p :: r => tCons (tTup (tCons (tC (.int p.1)) (tCons (tC (.int p.2)) tNil))) (tPairs0 r)
@[irreducible] def tPairs (ps : List (Int × Int)) : TA := tPairs0 ps
/-! ### the web, as data -/
structure Tie where
  one : Int
  other : Int
  top : Int
  bot : Int
  worth : Int
structure Web where
  things : Int
  ties : List Tie
  pat : List Int
  asks : Int
structure Tie.Ok (n : Int) (t : Tie) : Prop where
  o0 : 0 ≤ t.one
  o1 : t.one < t.other
  o2 : t.other < n
  c0 : 0 ≤ t.top
  c1 : t.top ≤ t.bot
  b0 : 1 ≤ t.bot
  b1 : t.bot ≤ 100
  w0 : 0 ≤ t.worth
  w1 : t.worth ≤ 1000
  cop : Int.gcd t.top t.bot = 1
structure Web.Ok (w : Web) : Prop where
  t0 : 0 ≤ w.things
  t1 : w.things ≤ 12
  ties : ∀ t ∈ w.ties, t.Ok w.things
  len : w.ties.length ≤ 16
  pl : (w.pat.length : Int) = w.things
  pat : ∀ p ∈ w.pat, 0 ≤ p ∧ p ≤ 20
  a0 : 0 ≤ w.asks
  a1 : w.asks ≤ 40
def TieAt (K : PySem.W.Frag) (H : Hp) (v : V) (t : Tie) : Prop := ∃ p q, v = .ref p ∧ SqT K H p [.int t.one, .int t.other, .ref q, .int t.worth] ∧ SqT K H q [.int t.top, .int t.bot]
inductive TiesAt (K : PySem.W.Frag) (H : Hp) : List V → List Tie → Prop
  | nil : TiesAt K H [] []
  | cons {v vs t ts} : TieAt K H v t → TiesAt K H vs ts → TiesAt K H (v :: vs) (t :: ts)
structure WebAt (K : PySem.W.Frag) (H : Hp) (v : V) (w : Web) : Prop where
  ex : ∃ a b c ts, v = .ref a ∧ SqT K H a [.int w.things, .ref b, .ref c, .int w.asks] ∧ SqT K H b ts ∧ TiesAt K H ts w.ties ∧ SqT K H c (w.pat.map V.int)
section
variable {K : PySem.W.Frag} {H H' : Hp}
theorem TieAt.ts (s : TSame H H') {v : V} {t : Tie} (h : TieAt K H v t) : TieAt K H' v t := by
  obtain ⟨p, q, e, h1, h2⟩ := h
  exact ⟨p, q, e, s.tup h1, s.tup h2⟩
theorem TiesAt.ts (s : TSame H H') : ∀ {vs : List V} {ts : List Tie}, TiesAt K H vs ts → TiesAt K H' vs ts
  | _, _, .nil => .nil
  | _, _, .cons a b => .cons (a.ts s) (TiesAt.ts s b)
theorem WebAt.ts (s : TSame H H') {v : V} {w : Web} (h : WebAt K H v w) : WebAt K H' v w := by
  obtain ⟨a, b, c, ts, e, h1, h2, h3, h4⟩ := h.ex
  exact ⟨a, b, c, ts, e, s.tup h1, s.tup h2, h3.ts s, s.tup h4⟩
theorem TiesAt.len : ∀ {vs : List V} {ts : List Tie}, TiesAt K H vs ts → vs.length = ts.length
  | _, _, .nil => rfl
  | _, _, .cons _ b => by simp [TiesAt.len b]
theorem TiesAt.get : ∀ {vs : List V} {ts : List Tie} {i : Nat} {t : Tie}, TiesAt K H vs ts → ts[i]? = some t → ∃ v, vs[i]? = some v ∧ TieAt K H v t
  | _, _, _, _, .nil, e => by simp at e
  | _, _, 0, _, .cons a _, e => by simp at e; subst e; exact ⟨_, rfl, a⟩
  | _, _, i + 1, t, .cons _ b, e => by
    obtain ⟨v, h1, h2⟩ := TiesAt.get (i := i) (t := t) b (by simpa using e)
    exact ⟨v, by simpa using h1, h2⟩
end
/-! the remainder where it is plain -/
theorem lowM_range {t b : Int} (hb : 0 < b) (h0 : 0 ≤ t) (h1 : t ≤ b) (h2 : b ≤ 100) : 0 ≤ (lowM t b).1 ∧ (lowM t b).1 ≤ (lowM t b).2 ∧ 1 ≤ (lowM t b).2 ∧ (lowM t b).2 ≤ 100 := by
  obtain ⟨d, e1, e2, e3, e4, e5⟩ := lowM_spec (t := t) (b := b) (by omega)
  generalize (lowM t b).1 = x at *
  generalize (lowM t b).2 = y at *
  have dp : 0 < d := by
    rcases Int.lt_or_gt_of_ne e2 with z | z
    · exfalso
      have : y * d < 0 := Int.mul_neg_of_pos_of_neg e5 z
      omega
    · exact z
  have x0 : 0 ≤ x := by
    rcases Int.lt_or_le x 0 with z | z
    · have : x * d < 0 := Int.mul_neg_of_neg_of_pos z dp
      omega
    · exact z
  have xy : x ≤ y := by
    rcases Int.lt_or_le y x with z | z
    · have : y * d < x * d := Int.mul_lt_mul_of_pos_right z dp
      omega
    · exact z
  have yb : y ≤ y * d := by
    have := Int.mul_le_mul_of_nonneg_left (show (1 : Int) ≤ d by omega) (show 0 ≤ y by omega)
    omega
  exact ⟨x0, xy, by omega, by omega⟩
end L2

set_option Elab.async false
set_option linter.all false
set_option maxRecDepth 100000
set_option maxHeartbeats 4000000
namespace L2
open PySem PySem.Spec PyProof.Rows
/-! ### rows that stand for rows -/
inductive All2 {α β : Type} (R : α → β → Prop) : List α → List β → Prop
  | nil : All2 R [] []
  | cons {a b as bs} : R a b → All2 R as bs → All2 R (a :: as) (b :: bs)
namespace All2
variable {α β : Type} {R S : α → β → Prop}
theorem mono (h : ∀ a b, R a b → S a b) : ∀ {as : List α} {bs : List β}, All2 R as bs → All2 S as bs
  | _, _, .nil => .nil
  | _, _, .cons x r => .cons (h _ _ x) (mono h r)
theorem len : ∀ {as : List α} {bs : List β}, All2 R as bs → as.length = bs.length
  | _, _, .nil => rfl
  | _, _, .cons _ r => by simp [len r]
theorem get : ∀ {as : List α} {bs : List β} {i : Nat} {b : β}, All2 R as bs → bs[i]? = some b → ∃ a, as[i]? = some a ∧ R a b
  | _, _, _, _, .nil, e => by simp at e
  | _, _, 0, _, .cons x _, e => by simp at e; subst e; exact ⟨_, rfl, x⟩
  | _, _, i + 1, b, .cons _ r, e => by
    obtain ⟨v, h1, h2⟩ := get (i := i) (b := b) r (by simpa using e)
    exact ⟨v, by simpa using h1, h2⟩
end All2
/-! ### a comprehension whose turns leave what stands -/
section
variable {K : PySem.W.Frag} {a l : Addr} {xs : List V} {g : TG} {tc : TT} {te : TE} {Q : VK} {σ : L2.St} {H : Hp} {α β : Type} {us : List α} {cp : List (Nat × Str)} {nT : Nat}
/-- what stands ahead of the i-th turn -/
def RowsInv (Rel : Hp → V → β → Prop) (SI : L2.St → Prop) (us : List α) (f : α → Option β) (H : Hp) (l : Addr) (i : Nat) (σ : L2.St) (H' : Hp) : Prop := SI σ ∧ Same H H' ∧ ∃ vs, H' l = some (.lst vs) ∧ vs.length ≤ i ∧ All2 (Rel H') vs ((us.take i).filterMap f)
end
/-! ### one sorted row of ints -/
def sortI (ns : List Int) : List Int := ns.mergeSort
theorem sortI_perm (ns : List Int) : (sortI ns).Perm ns := List.mergeSort_perm ns _
theorem sortI_mem {ns : List Int} {x : Int} : x ∈ sortI ns ↔ x ∈ ns := (sortI_perm ns).mem_iff
theorem sortI_len (ns : List Int) : (sortI ns).length = ns.length := (sortI_perm ns).length_eq
/-! ### the rules of a comprehension's block: K named -/
section
variable {X : Cx} {K : PySem.W.Frag} {pos : Pos}
theorem pg_tupK {es : List Expr} {k : Nat} {t : TGs} {n : Nat} (hK : X.K = K) (hc : X.calm = true) (h : PGs X es t) (hn : (assignEach es X.env).length = n := by rfl) (hst : (assignEach es X.env).findIdx? (·.1) = none := by rfl) : PG X (.Tuple es k pos) (gTup K n t) := hK ▸ pg_tup hc h hn hst
theorem pi_tupK {tg l : Expr} {tl : TE} (h : X.K = K) (hl : PE X l tl) : PI X tg l (iTup K tl) := h ▸ pi_tup hl
theorem pi_listK {tg l : Expr} {tl : TE} (h : X.K = K) (hl : PE X l tl) : PI X tg l (iList K tl) := h ▸ pi_list hl
end
/-! ### the model: ties that may be asked, stands behind -/
instance : Inhabited Tie := ⟨⟨0, 1, 1, 1, 0⟩⟩
def Web.tie (W : Web) (k : Int) : Tie := W.ties.getD k.toNat default
def Web.has (W : Web) (k thing : Int) : Bool := (W.tie k).one == thing || (W.tie k).other == thing
def Web.many (W : Web) (asked : List Int) (thing : Int) : Int := ((asked.filter fun k => W.has k thing).length : Nat)
def Web.bears (W : Web) (asked taken : List Int) (thing : Int) : Bool := !taken.contains thing && decide (W.many asked thing < W.pat.getD thing.toNat 0)
def Web.may (W : Web) (asked taken : List Int) (k : Int) : Bool := !(asked.contains k || decide (W.asks ≤ (asked.length : Int))) && (W.bears asked taken (W.tie k).one && W.bears asked taken (W.tie k).other)
def Web.askd (asked : List Int) (k : Int) : List Int := sortI (asked ++ [k])
def Web.took (W : Web) (taken : List Int) (k : Int) (truth : Bool) : List Int := if truth then sortI (taken ++ [(W.tie k).one, (W.tie k).other]) else taken
def Web.rng (W : Web) : List Int := (List.range W.ties.length).map Int.ofNat
def InW (W : Web) (k : Int) : Prop := 0 ≤ k ∧ k < (W.ties.length : Int)
theorem InW.get {W : Web} {k : Int} (h : InW W k) : W.ties[k.toNat]? = some (W.tie k) := by
  have hk : k.toNat < W.ties.length := by have := h.1; have := h.2; omega
  unfold Web.tie
  rw [List.getD_eq_getElem?_getD, List.getElem?_eq_getElem hk]; rfl
theorem InW.ok {W : Web} {k : Int} (h : InW W k) (o : W.Ok) : (W.tie k).Ok W.things := o.ties _ (List.mem_of_getElem? h.get)
theorem mem_rng {W : Web} {k : Int} : k ∈ W.rng ↔ InW W k := by
  unfold Web.rng InW
  rw [List.mem_map]
  constructor
  · rintro ⟨n, hn, rfl⟩
    have := List.mem_range.mp hn
    exact ⟨Int.natCast_nonneg n, by simp; omega⟩
  · rintro ⟨h0, h1⟩
    exact ⟨k.toNat, List.mem_range.mpr (by omega), by simp; omega⟩
/-- a stand: two rows of numbers -/
def StAt (K : PySem.W.Frag) (H : Hp) (v : V) (asked taken : List Int) : Prop := ∃ a b c, v = .ref a ∧ SqT K H a [.ref b, .ref c] ∧ SqT K H b (asked.map V.int) ∧ SqT K H c (taken.map V.int)
theorem StAt.ts {K : PySem.W.Frag} {H H' : Hp} (s : TSame H H') {v : V} {asked taken : List Int} (h : StAt K H v asked taken) : StAt K H' v asked taken := by
  obtain ⟨a, b, c, e, h1, h2, h3⟩ := h
  exact ⟨a, b, c, e, s.tup h1, s.tup h2, s.tup h3⟩
/-! ### readings -/
section
variable {K : PySem.W.Frag} {σ : L2.St} {H : Hp} {Q : VK} {i j : Nat} {vW : V} {W : Web} {k : Int}
end
/-! ### data that can be shown -/
def small (k : Int) : Prop := -1000000 ≤ k ∧ k ≤ 1000000
def Dk (n dep : Nat) (d : PyData) : Prop := d.showable = true ∧ noStr d = true ∧ L2.cnt d ≤ n ∧ d.depth ≤ dep
theorem Dk.mono {n m dep e : Nat} {d : PyData} (h : Dk n dep d) (h1 : n ≤ m) (h2 : dep ≤ e) : Dk m e d := ⟨h.1, h.2.1, Nat.le_trans h.2.2.1 h1, Nat.le_trans h.2.2.2 h2⟩
theorem Dk.int {k : Int} (h : small k) : Dk 1 2 (.int k) := by
  refine ⟨?_, rfl, Nat.le_refl _, by simp [PyData.depth]⟩
  show decide (k.natAbs.log2 < 1920) = true
  rw [decide_eq_true_eq]
  exact Nat.lt_trans ((show Bt 64 k by have := h.1; have := h.2; unfold Bt; omega).log (by decide)) (by decide)
theorem Dk.bool (b : Bool) : Dk 1 2 (.bool b) := ⟨rfl, rfl, Nat.le_refl _, by simp [PyData.depth]⟩
theorem Dk.none : Dk 1 2 .none := ⟨rfl, rfl, Nat.le_refl _, by simp [PyData.depth]⟩
theorem Dk.all {n dep : Nat} : ∀ {ds : List PyData}, (∀ d ∈ ds, Dk n dep d) → PyData.showableAll ds = true ∧ noStrAll ds = true ∧ cntAll ds ≤ ds.length * n ∧ PyData.depthAll ds ≤ dep
  | [], _ => ⟨rfl, rfl, by simp [cntAll], by simp [PyData.depthAll]⟩
  | d :: r, h => by
    obtain ⟨a1, a2, a3, a4⟩ := h d (by simp)
    obtain ⟨b1, b2, b3, b4⟩ := Dk.all (ds := r) fun x hx => h x (by simp [hx])
    refine ⟨?_, ?_, ?_, ?_⟩
    · simp only [PyData.showableAll, a1, b1, Bool.and_self]
    · simp only [noStrAll, a2, b2, Bool.and_self]
    · simp only [cntAll, List.length_cons, Nat.succ_mul]
      omega
    · simp only [PyData.depthAll]; omega
theorem Dk.tup {n dep m : Nat} {ds : List PyData} (h : ∀ d ∈ ds, Dk n dep d) (hl : ds.length ≤ m) : Dk (1 + m * n) (dep + 2) (.tuple ds) := by
  obtain ⟨b1, b2, b3, b4⟩ := Dk.all h
  refine ⟨b1, b2, ?_, ?_⟩
  · simp only [L2.cnt]
    have := Nat.mul_le_mul_right n hl
    omega
  · simp only [PyData.depth]; omega
theorem Dk.ok {n dep : Nat} {d : PyData} (h : Dk n dep d) (h1 : n ≤ 8000) (h2 : dep ≤ 60) : d.showable = true ∧ d.depth ≤ 60 ∧ d.shown.length ≤ sizeLine := by
  have := shown_len h.2.1 h.1
  have sl : sizeLine = 16777216 := sizeLine_eq
  have := h.2.2.1
  exact ⟨h.1, Nat.le_trans h.2.2.2 h2, by omega⟩
theorem Dk.ints {ns : List Int} {m : Nat} (hl : ns.length ≤ m) (h : ∀ r ∈ ns, small r) : Dk (1 + m) 4 (.tuple (ns.map .int)) := by
  have := Dk.tup (n := 1) (dep := 2) (m := m) (ds := ns.map PyData.int) (fun d hd => by
    obtain ⟨x, hx, rfl⟩ := List.mem_map.mp hd
    exact Dk.int (h x hx)) (by rw [List.length_map]; exact hl)
  simpa using this
section
variable {K : PySem.W.Frag} {H : Hp}
theorem Dk.bools {ns : List Bool} {m : Nat} (hl : ns.length ≤ m) : Dk (1 + m) 4 (.tuple (ns.map .bool)) := by
  have := Dk.tup (n := 1) (dep := 2) (m := m) (ds := ns.map PyData.bool) (fun d hd => by
    obtain ⟨x, hx, rfl⟩ := List.mem_map.mp hd
    exact Dk.bool x) (by rw [List.length_map]; exact hl)
  simpa using this
def dTie (t : Tie) : PyData := .tuple [.int t.one, .int t.other, .tuple [.int t.top, .int t.bot], .int t.worth]
def dWeb (W : Web) : PyData := .tuple [.int W.things, .tuple (W.ties.map dTie), .tuple (W.pat.map .int), .int W.asks]
def dSt (asked taken : List Int) : PyData := .tuple [.tuple (asked.map .int), .tuple (taken.map .int)]
end
end L2

set_option Elab.async false
set_option linter.all false
set_option maxRecDepth 100000
set_option maxHeartbeats 4000000
namespace L2
open PySem PySem.Spec PyProof.Rows
/-! ### all and any of a list of truths -/
theorem bl_get : ∀ {bs : List Bool} {us : List Value} {i : Nat} {v : Value}, Vals (bs.map V.bl) us → us[i]? = some v → ∃ b, bs[i]? = some b ∧ v = .bool b
  | [], us, i, v, r, e => by cases r; simp at e
  | b :: bs, us, i, v, r, e => by
    cases r with
    | cons p q =>
      cases i with
      | zero => simp at e; subst e; cases p; exact ⟨b, rfl, rfl⟩
      | succ i =>
        obtain ⟨c, h1, h2⟩ := bl_get (bs := bs) (i := i) (v := v) q (by simpa using e)
        exact ⟨c, by simpa using h1, h2⟩
theorem rng_all (bs : List Bool) : ((List.range bs.length).all fun i => (bs[i]?).getD true) = bs.all id := by
  rw [Bool.eq_iff_iff, List.all_eq_true, List.all_eq_true]
  constructor
  · intro h b hb
    obtain ⟨i, hi, rfl⟩ := List.getElem_of_mem hb
    have := h i (List.mem_range.mpr hi)
    rw [List.getElem?_eq_getElem hi] at this
    exact this
  · intro h i hi
    have hi' := List.mem_range.mp hi
    rw [List.getElem?_eq_getElem hi']
    exact h _ (List.getElem_mem hi')
section
variable {X : Cx}
theorem call_all {k : Nat} {K : PySem.W.Frag} (hr : Room k X.A) (hK : X.K = K) : CallR X (.builtin "all") (fun xs H Q => ∃ (l : Addr) (bs : List Bool), xs = [.ref l] ∧ SqL K H l (bs.map V.bl) ∧ Q (.bl (bs.all id)) H) := by
  intro pins s σ H xs us Q I r h
  subst hK
  obtain ⟨l, bs, rfl, hs, q⟩ := h
  obtain ⟨u, rfl, ru⟩ := one_of r
  cases ru
  obtain ⟨its, rv, p, hz⟩ := I.list hs
  have hl := p.isList
  have lt : l < s.heap.objs.size := by obtain ⟨_, e, _⟩ := hl; exact Heap.lt_size e
  refine PySem.call_all_walk (wpAny_pyIter_list hl ?_)
  refine ⟨s.heap.objs.size, [s.heap.objs.size, l], [s.heap.objs.size], its.toArray.size, _, _, fun i => (bs[i]?).getD true, rfl, Walks.list (A := X.A.in1) hr.hd _ l (Nat.ne_of_lt lt) its.toArray, ⟨⟨_, Heap.get?_push_size _ rfl, rfl, rfl⟩, hl.push _⟩, fun i v s' Q' E' hP hQ => ?_, fun h' tk hk => ?_⟩
  · obtain ⟨b, e, rfl⟩ := bl_get rv (by simpa using hP)
    simp only [e, Option.getD_some] at hQ
    exact wpAny_truthy_bool hQ
  · have e : its.toArray.size = bs.length := by have := rv.length; rw [List.length_map] at this; simpa using this.symm
    rw [e, rng_all]
    refine ⟨.bl (bs.all id), H, I.kept fun b x e => hk b x (fun hm => ?_) (Heap.get?_push_of_some _ e), rfl, q⟩
    rw [List.mem_singleton.mp hm] at e
    exact Nat.lt_irrefl _ (Heap.lt_size e)
end
end L2
namespace L2
theorem boot_all : PySem.bootBuiltins "all" = some (.builtin "all") := by decide +kernel
end L2

set_option Elab.async false
set_option linter.all false
set_option maxRecDepth 100000
set_option maxHeartbeats 4000000
namespace L2
open PySem PySem.Spec PyProof.Rows
/-! ### the next of a tuple's iterator -/
section
variable {prog : Program} {w : World} {A : Around} {E : Value → Shared → Prop} {s : Shared}
theorem tup_next {it t : Addr} {i : Nat} {ys} {x : Value} {Q : Value → Shared → Prop} (hi : s.heap.IsTupleIter it t i) (ht : s.heap.IsTuple t ys) (hx : ys[i]? = some x)
    (q : ∀ g, g.IsTupleIter it t (i + 1) → Heap.SameBut it s.heap g → Q x { s with heap := g }) : wpAny (model prog w) A (Builtin.SmallTypes.nextOf (.ref it)) Q E s := by
  obtain ⟨o, ho, hc, hd⟩ := id hi; obtain ⟨p, hp, _, n, hpd⟩ := ht; unfold Builtin.SmallTypes.nextOf
  refine wpAny_bind (wpAny_callSpecial?_slot (name := Str.ofString "__next__") hi.typeIs F.slot_tuple_iterator_next (wpAny_call_entry F.slot_tuple_iterator_next hi.typeIs F.entry_tuple_iterator_next ?_ (F.args_tuple_iterator_next_1 _)))
  show wpAny _ _ (field (.ref it) 0 >>= _) _ _ s; refine wpAny_bind (wpAny_field ho hd (x := .ref t) rfl ?_)
  show wpAny _ _ (if (Value.ref t == Value.none) = true then _ else _) _ _ s; rw [if_neg (show ¬ ((Value.ref t == Value.none) = true) from Bool.false_ne_true)]
  show wpAny _ _ (field (.ref it) 1 >>= _) _ _ s; refine wpAny_bind (wpAny_field ho hd (x := .int i 0) rfl ?_)
  show wpAny _ _ (seqItems? (.ref t) >>= _) _ _ s; refine wpAny_bind (wpAny_seqItems hp hpd ?_)
  simp only [Int.toNat_natCast, hx]; refine wpAny_bind (wpAny_setField ho hd (by simp) (wpAny_pure ⟨x, rfl, wpAny_pure (q _ ?_ (Heap.SameBut.update ..))⟩))
  refine ⟨_, Heap.get?_update_self _ ho (Obj.isFreed_of_fields (Obj.data_mapFields hd _)), (Obj.cls_mapFields ..).trans hc, ?_⟩; rw [Obj.data_mapFields hd]; simp [rawInt]
theorem tup_last {it t : Addr} {i : Nat} {ys} {Q : Value → Shared → Prop} (hh : A.handled = none) (hi : s.heap.IsTupleIter it t i) (ht : s.heap.IsTuple t ys) (hx : ys[i]? = none)
    (q : ∀ g e, Heap.ExtBut it s.heap g → (∃ o, g.get? e = some o ∧ o.cls = .type "StopIteration") → E (.ref e) { s with heap := g }) : wpAny (model prog w) A (Builtin.SmallTypes.nextOf (.ref it)) Q E s := by
  obtain ⟨o, ho, hc, hd⟩ := id hi; obtain ⟨p, hp, _, n, hpd⟩ := ht; unfold Builtin.SmallTypes.nextOf
  refine wpAny_bind (wpAny_callSpecial?_slot (name := Str.ofString "__next__") hi.typeIs F.slot_tuple_iterator_next (wpAny_call_entry F.slot_tuple_iterator_next hi.typeIs F.entry_tuple_iterator_next ?_ (F.args_tuple_iterator_next_1 _)))
  show wpAny _ _ (field (.ref it) 0 >>= _) _ _ s; refine wpAny_bind (wpAny_field ho hd (x := .ref t) rfl ?_)
  show wpAny _ _ (if (Value.ref t == Value.none) = true then _ else _) _ _ s; rw [if_neg (show ¬ ((Value.ref t == Value.none) = true) from Bool.false_ne_true)]
  show wpAny _ _ (field (.ref it) 1 >>= _) _ _ s; refine wpAny_bind (wpAny_field ho hd (x := .int i 0) rfl ?_)
  show wpAny _ _ (seqItems? (.ref t) >>= _) _ _ s; refine wpAny_bind (wpAny_seqItems hp hpd ?_)
  simp only [Int.toNat_natCast, hx]; refine wpAny_bind (wpAny_rule (wpAny_bind (wpAny_setField ho hd (by simp) ?_)))
  show wpAny _ _ (newExc (.type "StopIteration") [] >>= _) _ _ _; refine wpAny_bind ?_; simp only [newExc, newTuple]
  refine wpAny_bind (wpAny_newObj_type ?_ (by size_fits)); refine wpAny_bind (m := firstArgMember _ _) (wpAny_of_eq (a := Value.none) (by first | rfl | (simp only [firstArgMember]; rfl)) ?_)
  refine wpAny_newObj_type ?_ (by size_fits); simp only [raiseNew]; refine wpAny_bind (wpAny_handled ?_); first | rw [show A.in1.handled = none from hh] | rw [hh]
  refine wpAny_bind (wpAny_pure (wpAny_throw ?_)); exact q _ _ (((Heap.SameBut.update ..).extBut.push _).push _) ⟨_, Heap.get?_push_size _ rfl, rfl⟩
end
/-! ### a source: an iterator over a row that stands -/
structure Sc (prog : Program) (w : World) (it l : Addr) (St : Nat → Heap → Prop) (Sq : Heap → Array Value → Prop) : Prop where
  stay : ∀ {k h h'}, St k h → (∀ o, h.get? it = some o → h'.get? it = some o) → St k h'
  live : ∀ {k h}, St k h → ∃ o, h.get? it = some o ∧ ∀ v, o.data ≠ .cell v
  row : ∀ {h h' xs}, Sq h xs → (∀ o, h.get? l = some o → h'.get? l = some o) → Sq h' xs
  next : ∀ {A : Around} {s : Shared} {E : Value → Shared → Prop} {Q : Value → Shared → Prop} {k : Nat} {xs : Array Value} {x : Value}, St k s.heap → Sq s.heap xs → xs[k]? = some x → (∀ g, St (k + 1) g → Heap.SameBut it s.heap g → Q x { s with heap := g }) → wpAny (model prog w) A (Builtin.SmallTypes.nextOf (.ref it)) Q E s
  last : ∀ {A : Around} {s : Shared} {E : Value → Shared → Prop} {Q : Value → Shared → Prop} {k : Nat} {xs : Array Value}, A.handled = none → St k s.heap → Sq s.heap xs → xs[k]? = none → (∀ g e, Heap.ExtBut it s.heap g → (∃ o, g.get? e = some o ∧ o.cls = .type "StopIteration") → E (.ref e) { s with heap := g }) → wpAny (model prog w) A (Builtin.SmallTypes.nextOf (.ref it)) Q E s
theorem sc_tup {prog : Program} {w : World} (it l : Addr) : Sc prog w it l (fun k h => h.IsTupleIter it l k) (fun h xs => h.IsTuple l xs) where
  stay := fun st k => st.at fun o e => k o e
  live := fun st => by
    obtain ⟨o, e, c, d⟩ := st
    exact ⟨o, e, fun v z => by rw [d] at z; cases z⟩
  row := fun q k => by
    obtain ⟨o, e, r⟩ := q
    exact ⟨o, k o e, r⟩
  next := fun st sq hx q => tup_next st sq hx q
  last := fun hh st sq hx q => tup_last hh st sq hx q
theorem sc_list {prog : Program} {w : World} (it l : Addr) : Sc prog w it l (fun k h => h.IsListIter it l k) (fun h xs => h.IsList l xs) where
  stay := fun st k => st.at fun o e => k o e
  live := fun st => by
    obtain ⟨o, e, c, d⟩ := st
    exact ⟨o, e, fun v z => by rw [d] at z; cases z⟩
  row := fun q k => by
    obtain ⟨o, e, r⟩ := q
    exact ⟨o, k o e, r⟩
  next := fun st sq hx q => wpAny_nextOf_list_item st sq hx q
  last := fun hh st sq hx q => wpAny_nextOf_list_end hh st sq hx q
/-- the seven places of a zip, apart -/
structure Apart (z TI TO i1 i2 l1 l2 : Addr) : Prop where
  a1 : TO ≠ z
  a2 : i1 ≠ z
  a3 : i2 ≠ z
  a4 : TO ≠ i1
  a5 : TO ≠ i2
  a6 : i1 ≠ i2
  b1 : l1 ≠ z
  b2 : l1 ≠ TO
  b3 : l1 ≠ i1
  b4 : l1 ≠ i2
  c1 : l2 ≠ z
  c2 : l2 ≠ TO
  c3 : l2 ≠ i1
  c4 : l2 ≠ i2
section
variable {prog : Program} {w : World} {A : Around} {E : Value → Shared → Prop} {s : Shared} {z TI TO i1 i2 l1 l2 : Addr} {k : Nat} {xs ys : Array Value} {a b : Value} {S1 S2 : Nat → Heap → Prop} {R1 R2 : Heap → Array Value → Prop}
end
end L2

set_option Elab.async false
set_option linter.all false
set_option maxRecDepth 100000
set_option maxHeartbeats 4000000
namespace L2
open PySem PySem.Spec PyProof.Rows
section
variable {X : Cx} {pins : List (Addr × Obj)} {σ : L2.St} {H : Hp} {s : Shared} {h' : Heap}
/-- several untracked records of ours have turned -/
theorem Inv.turnedL {t' : Nat} {fp : List Addr} (I : Inv X pins σ H s) (hf : ∀ b ∈ fp, FpOk X pins H b) (k : ∀ b o, b ∉ fp → s.heap.get? b = some o → h'.get? b = some o) : Inv X pins σ H { s with heap := h', toks := t' } := by
  have hL : X.env.locals ∉ fp := fun z => (hf _ z).2.1 rfl
  have nit : ∀ b u, H b = some u → b ∉ fp := fun b u e z => by have := (hf b z).1; rw [this] at e; cases e
  refine I.step (g' := s.gens) (d' := s.drawn) (ch := fp) (fun b hb => ?_) (fun b o _ _ hc e _ => k b o hc e) (fun b o _ _ hc e _ => ⟨o.slots, k b o hc e⟩) (fun _ _ _ _ n => n) (fun b o hc e => ⟨o, k b o hc e⟩) (fun _ _ e => e) (fun _ _ _ e => e) (fun b ps e => ⟨#[], by rw [e]; simp⟩) (fun m hm => ?_) (fun b u e => ?_) I.bare
  · obtain ⟨f0, f1, f2, f3, f4, f5⟩ := hf b hb
    exact ⟨f3, f1, f4, f5⟩
  · obtain ⟨o, es, ep, ho, r⟩ := hm
    exact ⟨o, es, ep, k _ o hL ho, r⟩
  · refine (I.hok b u e).stay (fun c v hc q => k c v ?_ q) (fun _ q => q) fun _ _ q => q
    rcases hc with z | z
    · rw [z]; exact nit b u e
    · exact nit c _ z
theorem apart_of (I : Inv X pins σ H s) {b l : Addr} {xs : List V} (f : FpOk X pins H b) (q : SqT X.K H l xs) : l ≠ b := by
  intro z
  subst z
  rcases q with (q | ⟨o, q⟩) | ⟨o, its, n, hk, _⟩
  · rw [f.1] at q; cases q
  · rw [f.1] at q; cases q
  · have hb : X.base.get? l = some o := I.ok.mod.kin l o hk
    rcases f.2.2.2.1 with z | z
    · exact I.ok.noex l o hb z
    · exact absurd (Nat.lt_of_lt_of_le (Heap.lt_size (I.ok.bs l o hb).1) z) (Nat.lt_irrefl _)
end
/-! ### zip of two tuples -/
/-! zip(a, b) is made -/
section
variable {prog : Program} {w : World} {A : Around} {E : Value → Shared → Prop} {s : Shared}
end
/-! a comprehension over zip -/
theorem RowsInv.same {α β : Type} {us : List α} {f : α → Option β} {H H1 H2 : Hp} {l : Addr} {i : Nat} {σ : L2.St} {Rel : Hp → V → β → Prop} {SI : L2.St → Prop} (hm : ∀ {H H' v y}, TSame H H' → Rel H v y → Rel H' v y) (h : RowsInv Rel SI us f H l i σ H1) (s : Same H1 H2) : RowsInv Rel SI us f H l i σ H2 := by
  obtain ⟨a, b, vs, c, d, e⟩ := h
  exact ⟨a, b.trans s, vs, s _ _ c, d, e.mono fun _ _ q => hm s.ts q⟩
/-! isinstance of a truth -/
end L2

set_option Elab.async false
set_option linter.all false
set_option maxRecDepth 100000
set_option maxHeartbeats 4000000
namespace L2
open PySem PySem.Spec PyProof.Rows
/-! ### enumerate, over any source -/
section
variable {prog : Program} {w : World} {A : Around} {E : Value → Shared → Prop} {s : Shared} {e it l : Addr} {k : Nat} {xs : Array Value} {S : Nat → Heap → Prop} {R : Heap → Array Value → Prop}
theorem sc_draws (P1 : Sc prog w it l S R) (hh : A.handled = none) (hne : l ≠ it) (xs : Array Value) : Draws prog w A it [it, l] xs.size (fun i v => xs[i]? = some v) (fun i h => S i h ∧ R h xs) where
  live := fun _ _ st => let ⟨o, ho, _⟩ := P1.live st.1; ⟨o, ho⟩
  frame := fun _ _ _ st hk => ⟨P1.stay st.1 fun o e => hk it (by simp) o e, P1.row st.2 fun o e => hk l (by simp) o e⟩
  item := fun i s Q E hi st hQ => P1.next st.1 st.2 (x := xs[i]) (by simp [hi]) fun g h1 h2 => hQ _ g s.toks (by simp [hi]) ⟨h1, P1.row st.2 fun o e => h2.extBut _ _ hne e⟩ h2
  done := fun s Q E st hE => P1.last hh st.1 st.2 (by simp) hE
theorem enum_stop {i : Int} {old : Value} {Q : Option Value → Shared → Prop} (P1 : Sc prog w it l S R) (hh : A.handled = none) (he : IsEnum s.heap e it i old) (st : S k s.heap) (sq : R s.heap xs) (hx : xs[k]? = none) (q : ∀ g, Heap.ExtBut it s.heap g → Q none { s with heap := g }) : wpAny (model prog w) A (pyNext (.ref e)) Q E s := by
  have hT : s.TypeIs (.ref e) "enumerate" := ⟨_, he, rfl⟩; unfold pyNext
  refine wpAny_bind (wpAny_attempt (wpAny_callSpecial?_slot (name := Str.ofString "__next__") hT F.slot_enumerate_next (wpAny_call_entry F.slot_enumerate_next hT F.entry_enumerate_next ?_ (F.args_enumerate_next_1 _))))
  show wpAny _ _ (field (.ref e) 2 >>= _) _ _ _; refine wpAny_bind (wpAny_field he rfl (x := .ref it) rfl ?_)
  refine wpAny_bind (P1.last hh st sq hx fun g x hk hx' => ?_); obtain ⟨o, ho, hc⟩ := hx'
  refine wpAny_bind (wpAny_isInstance (T := "StopIteration") (b := true) ⟨o, ho, hc⟩ isSubtype_stop ?_); exact wpAny_pure (q _ hk)
theorem enum_self {i : Int} {old : Value} {Q : Value → Shared → Prop} (he : IsEnum s.heap e it i old) (h : Q (.ref e) s) : wpAny (model prog w) A (pyIter (.ref e)) Q E s := by
  have hT : s.TypeIs (.ref e) "enumerate" := ⟨_, he, rfl⟩
  refine wpAny_pyIter_slot hT F.slot_enumerate_iter (wpAny_call_entry F.slot_enumerate_iter hT F.entry_enumerate_iter ?_ (F.args_enumerate_iter_1 _))
  show wpAny _ _ (ret (.ref e)) _ _ s; exact wpAny_pure ⟨_, rfl, "enumerate", _, hT, F.slot_enumerate_next.lookup, h⟩
end
section
variable {X : Cx} {pins : List (Addr × Obj)} {σ : L2.St} {H : Hp} {s : Shared}
theorem apart_ofL (I : Inv X pins σ H s) {b l : Addr} {xs : List V} (f : FpOk X pins H b) (q : SqL X.K H l xs) : l ≠ b := by
  intro z
  subst z
  rcases q with (q | ⟨o, q⟩) | ⟨o, its, n, hk, _⟩
  · rw [f.1] at q; cases q
  · rw [f.1] at q; cases q
  · have hb : X.base.get? l = some o := I.ok.mod.kin l o hk
    rcases f.2.2.2.1 with z | z
    · exact I.ok.noex l o hb z
    · exact absurd (Nat.lt_of_lt_of_le (Heap.lt_size (I.ok.bs l o hb).1) z) (Nat.lt_irrefl _)
end

def IteT (K : PySem.W.Frag) (l : Addr) : It :=
  ⟨fun i H => ∃ xs x, SqT K H l xs ∧ xs[i]? = some x, fun i H v H' => ∃ p x, v = .ref p ∧ H p = none ∧ H' = upd H p (.tup [.int i, x]) ∧ ∀ xs, SqT K H l xs → xs[i]? = some x, fun i H => ∃ xs, SqT K H l xs ∧ xs.length ≤ i⟩
def enumTSt (e it l : Addr) (i : Nat) (h : Heap) : Prop := (∃ old, IsEnum h e it i old) ∧ h.IsTupleIter it l i
theorem turn_enumT {P : Program} {w : World} {K : PySem.W.Frag} {es : List Expr} {k0 : Nat} {pos : Pos} {e it : Addr} (l : Addr) (ne : e ≠ it) : Turn P w K (.Tuple es k0 pos) (IteT K l) [e, it] e (enumTSt e it l) where
  mem := by simp
  obj := fun i h st b hb => by
    obtain ⟨⟨old, he⟩, u⟩ := st
    simp only [List.mem_cons, List.not_mem_nil, or_false] at hb
    rcases hb with rfl | rfl
    · exact ⟨_, he, fun v z => by cases z⟩
    · obtain ⟨o, e, c, d⟩ := u
      exact ⟨o, e, fun v z => by rw [d] at z; cases z⟩
  keep := fun i h h' st k => by
    obtain ⟨⟨old, he⟩, u⟩ := st
    exact ⟨⟨old, k _ (by simp) _ he⟩, u.at fun o e => k _ (by simp) o e⟩
  item := by
    intro X hP hw hK hc i pins s σ H E I hf st hg
    subst hP hw hK
    obtain ⟨xs, x, q1, hx⟩ := hg
    obtain ⟨⟨old, he⟩, u⟩ := id st
    obtain ⟨its, rv, p, hz⟩ := I.tuple q1
    obtain ⟨ux, hux, rux⟩ := rv.get hx
    have fe := hf e (by simp); have ft := hf it (by simp)
    have n1 : l ≠ e := apart_of I fe q1
    have n2 : l ≠ it := apart_of I ft q1
    have hi : i < its.toArray.size := by have := (List.getElem?_eq_some_iff.mp hux).1; simpa using this
    refine wpAny_pyNext_enum_itemD (sc_draws (A := X.A.in1) (sc_tup it l) (show X.A.in1.handled = none from I.ok.hd hc) n2 its.toArray) he ⟨u, p⟩ hi ne (by simpa using ⟨ne, fun z => n1 z.symm⟩) fun x' g tk hP ho hs hT hsz hk => ?_
    have ex : x' = ux := by
      have : its[i]? = some x' := by simpa using hP
      rw [hux] at this; exact (Option.some.inj this).symm
    subst ex
    refine ⟨_, rfl, wpAny_letOwnedTupleGo_enum ho fun g' he' ge => ?_⟩
    have lt : ∀ b ∈ [e, it], b < s.heap.objs.size := fun b hb => by
      simp only [List.mem_cons, List.not_mem_nil, or_false] at hb
      rcases hb with rfl | rfl
      · exact Heap.lt_size he
      · obtain ⟨o, e, _⟩ := u; exact Heap.lt_size e
    have hTn : H s.heap.objs.size = none := I.hok.fresh (Nat.le_refl _)
    have vv : Vals [.int i, x] [.int i tk, x'] := .cons ⟨tk, rfl⟩ (.cons rux .nil)
    have I1 : Inv X pins σ (upd H s.heap.objs.size (.tup [.int i, x])) { s with heap := s.heap.push { cls := .type "tuple", data := .seq #[.int i tk, x'] }, toks := s.toks } :=
      I.laid (t' := s.toks) (fun b u e => Heap.get?_push_of_some _ e) (Nat.le_refl _) ⟨(by show 2 ≤ sizeLine; decide), [.int i tk, x'], vv, ⟨_, Heap.get?_push_size _ rfl, rfl, _, rfl⟩⟩
    have hf1 : ∀ b ∈ [e, it], FpOk X pins (upd H s.heap.objs.size (.tup [.int i, x])) b := fun b hb => by
      obtain ⟨f0, fr⟩ := hf b hb
      exact ⟨by rw [upd_ne (Nat.ne_of_lt (lt b hb))]; exact f0, fr⟩
    have I2 : Inv X pins σ (upd H s.heap.objs.size (.tup [.int i, x])) { s with heap := g', toks := tk + 1 } := by
      refine I1.turnedL (t' := tk + 1) hf1 fun b o nb eb => ?_
      have nb' : b ≠ e ∧ b ≠ it := by simpa using nb
      refine ge.extBut _ _ nb'.1 ?_
      rcases Heap.get?_push_cases eb with ⟨rfl, rfl⟩ | eb
      · exact hT
      · exact hk b o nb'.1 nb'.2 eb
    refine ⟨.ref s.heap.objs.size, _, I2, rfl, ⟨_, x, rfl, hTn, rfl, fun xs' w1 => by rw [I.tuple_inj w1 q1]; exact hx⟩, ⟨⟨_, by simpa using he'⟩, hs.1.at fun o e => ge.extBut _ _ (fun z => ne z.symm) e⟩, fun b hb => (hf1 b hb).1⟩
  done := by
    intro X hP hw hK hc i pins s σ H E I hf st hg
    subst hP hw hK
    obtain ⟨xs, q1, hn⟩ := hg
    obtain ⟨⟨old, he⟩, u⟩ := id st
    obtain ⟨its, rv, p, hz⟩ := I.tuple q1
    have e1 := rv.length
    refine enum_stop (xs := its.toArray) (sc_tup it l) (I.ok.hd hc) he u p (by simp; omega) fun g gk => ⟨rfl, I.turnedL (t' := s.toks) hf fun b o nb eb => ?_⟩
    have nb' : b ≠ e ∧ b ≠ it := by simpa using nb
    exact gk b o nb'.2 eb
  self := fun A i s Q E st h => by
    obtain ⟨⟨old, he⟩, u⟩ := st
    exact enum_self he h

def IteL (K : PySem.W.Frag) (l : Addr) : It :=
  ⟨fun i H => ∃ xs x, SqL K H l xs ∧ xs[i]? = some x, fun i H v H' => ∃ p x, v = .ref p ∧ H p = none ∧ H' = upd H p (.tup [.int i, x]) ∧ ∀ xs, SqL K H l xs → xs[i]? = some x, fun i H => ∃ xs, SqL K H l xs ∧ xs.length ≤ i⟩
def enumLSt (e it l : Addr) (i : Nat) (h : Heap) : Prop := (∃ old, IsEnum h e it i old) ∧ h.IsListIter it l i
theorem turn_enumL {P : Program} {w : World} {K : PySem.W.Frag} {es : List Expr} {k0 : Nat} {pos : Pos} {e it : Addr} (l : Addr) (ne : e ≠ it) : Turn P w K (.Tuple es k0 pos) (IteL K l) [e, it] e (enumLSt e it l) where
  mem := by simp
  obj := fun i h st b hb => by
    obtain ⟨⟨old, he⟩, u⟩ := st
    simp only [List.mem_cons, List.not_mem_nil, or_false] at hb
    rcases hb with rfl | rfl
    · exact ⟨_, he, fun v z => by cases z⟩
    · obtain ⟨o, e, c, d⟩ := u
      exact ⟨o, e, fun v z => by rw [d] at z; cases z⟩
  keep := fun i h h' st k => by
    obtain ⟨⟨old, he⟩, u⟩ := st
    exact ⟨⟨old, k _ (by simp) _ he⟩, u.at fun o e => k _ (by simp) o e⟩
  item := by
    intro X hP hw hK hc i pins s σ H E I hf st hg
    subst hP hw hK
    obtain ⟨xs, x, q1, hx⟩ := hg
    obtain ⟨⟨old, he⟩, u⟩ := id st
    obtain ⟨its, rv, p, hz⟩ := I.list q1
    obtain ⟨ux, hux, rux⟩ := rv.get hx
    have fe := hf e (by simp); have ft := hf it (by simp)
    have n1 : l ≠ e := apart_ofL I fe q1
    have n2 : l ≠ it := apart_ofL I ft q1
    have hi : i < its.toArray.size := by have := (List.getElem?_eq_some_iff.mp hux).1; simpa using this
    refine wpAny_pyNext_enum_itemD (sc_draws (A := X.A.in1) (sc_list it l) (show X.A.in1.handled = none from I.ok.hd hc) n2 its.toArray) he ⟨u, p.isList⟩ hi ne (by simpa using ⟨ne, fun z => n1 z.symm⟩) fun x' g tk hP ho hs hT hsz hk => ?_
    have ex : x' = ux := by
      have : its[i]? = some x' := by simpa using hP
      rw [hux] at this; exact (Option.some.inj this).symm
    subst ex
    refine ⟨_, rfl, wpAny_letOwnedTupleGo_enum ho fun g' he' ge => ?_⟩
    have lt : ∀ b ∈ [e, it], b < s.heap.objs.size := fun b hb => by
      simp only [List.mem_cons, List.not_mem_nil, or_false] at hb
      rcases hb with rfl | rfl
      · exact Heap.lt_size he
      · obtain ⟨o, e, _⟩ := u; exact Heap.lt_size e
    have hTn : H s.heap.objs.size = none := I.hok.fresh (Nat.le_refl _)
    have vv : Vals [.int i, x] [.int i tk, x'] := .cons ⟨tk, rfl⟩ (.cons rux .nil)
    have I1 : Inv X pins σ (upd H s.heap.objs.size (.tup [.int i, x])) { s with heap := s.heap.push { cls := .type "tuple", data := .seq #[.int i tk, x'] }, toks := s.toks } :=
      I.laid (t' := s.toks) (fun b u e => Heap.get?_push_of_some _ e) (Nat.le_refl _) ⟨(by show 2 ≤ sizeLine; decide), [.int i tk, x'], vv, ⟨_, Heap.get?_push_size _ rfl, rfl, _, rfl⟩⟩
    have hf1 : ∀ b ∈ [e, it], FpOk X pins (upd H s.heap.objs.size (.tup [.int i, x])) b := fun b hb => by
      obtain ⟨f0, fr⟩ := hf b hb
      exact ⟨by rw [upd_ne (Nat.ne_of_lt (lt b hb))]; exact f0, fr⟩
    have I2 : Inv X pins σ (upd H s.heap.objs.size (.tup [.int i, x])) { s with heap := g', toks := tk + 1 } := by
      refine I1.turnedL (t' := tk + 1) hf1 fun b o nb eb => ?_
      have nb' : b ≠ e ∧ b ≠ it := by simpa using nb
      refine ge.extBut _ _ nb'.1 ?_
      rcases Heap.get?_push_cases eb with ⟨rfl, rfl⟩ | eb
      · exact hT
      · exact hk b o nb'.1 nb'.2 eb
    refine ⟨.ref s.heap.objs.size, _, I2, rfl, ⟨_, x, rfl, hTn, rfl, fun xs' w1 => by rw [I.list_inj w1 q1]; exact hx⟩, ⟨⟨_, by simpa using he'⟩, hs.1.at fun o e => ge.extBut _ _ (fun z => ne z.symm) e⟩, fun b hb => (hf1 b hb).1⟩
  done := by
    intro X hP hw hK hc i pins s σ H E I hf st hg
    subst hP hw hK
    obtain ⟨xs, q1, hn⟩ := hg
    obtain ⟨⟨old, he⟩, u⟩ := id st
    obtain ⟨its, rv, p, hz⟩ := I.list q1
    have e1 := rv.length
    refine enum_stop (xs := its.toArray) (sc_list it l) (I.ok.hd hc) he u p.isList (by simp; omega) fun g gk => ⟨rfl, I.turnedL (t' := s.toks) hf fun b o nb eb => ?_⟩
    have nb' : b ≠ e ∧ b ≠ it := by simpa using nb
    exact gk b o nb'.2 eb
  self := fun A i s Q E st h => by
    obtain ⟨⟨old, he⟩, u⟩ := st
    exact enum_self he h
end L2

set_option Elab.async false
set_option linter.all false
set_option maxRecDepth 100000
set_option maxHeartbeats 4000000
namespace L2
open PySem PySem.Spec PyProof.Rows
theorem vals_fn : ∀ (us : List Value) (f : Nat → Int), (∀ (j : Nat) (v : Value), us[j]? = some v → ∃ t, v = Value.int (f j) t) → Vals ((List.range us.length).map fun j => V.int (f j)) us
  | [], _, _ => .nil
  | u :: us, f, h => by
    rw [List.length_cons, List.range_succ_eq_map, List.map_cons, List.map_map]
    refine .cons (h 0 u rfl) (vals_fn us (fun j => f (j + 1)) fun j v e => h (j + 1) v (by simpa using e))
def rngI (n : Nat) : List Int := (List.range n).map Int.ofNat
theorem rngI_len (n : Nat) : (rngI n).length = n := by simp [rngI]
section
variable {X : Cx} {a : Expr} {ta : TA} {p p2 pos pos2 : Pos}
theorem ev_range (hg : Gl X "range") (hm : X.mg "range" = none) (ha : PA X [a] ta) (hs : starEach [a] X.env = [(false, eval a X.env)]) {pins : List (Addr × Obj)} {s : Shared} {σ : L2.St} {H : Hp} {R : Int → Hp → Prop} (I : Inv X pins σ H s) (h : ta σ H fun vs H1 => ∃ j : Int, vs = [.int j] ∧ R j H1) :
    wpAny (model X.prog X.w) X.A (eval (.Call (.Name "range" p) [a] [] pos) X.env) (fun v s1 => ∃ (r : Addr) (j : Int) (H1 : Hp) (t u w : Tok), v = .ref r ∧ IsRange s1.heap r 0 j 1 t u w ∧ r < s1.heap.objs.size ∧ Inv X pins σ H1 s1 ∧ R j H1) X.xe s := by
  refine Call_ (ld_blt I hg hm boot_range (PyProof.Rows.callWith_type1 (thn (ha pos pins s σ H _ I h) fun us s1 ⟨vs, H1, I1, r1, q1⟩ => ?_) hs rfl))
  obtain ⟨j, e, q⟩ := q1
  subst e
  cases r1 with
  | cons r rr =>
    cases rr
    obtain ⟨t, rfl⟩ := r
    exact call_range_1 ⟨_, j, H1, _, _, _, rfl, IsRange.new .., by simp [Heap.size_push], I1.kept fun b o e => Heap.get?_push_of_some _ e, q⟩
/-! tuples with the same parts (refs) are not unequal -/
end
end L2

set_option Elab.async false
set_option linter.all false
set_option maxRecDepth 100000
set_option maxHeartbeats 4000000
namespace L2
open PySem PySem.Spec PyProof.Rows
/-! ### a tuple times an int -/
theorem nofill_tm : fillsNumberSlot (.type "tuple") "mul" = pure false :=
  PySem.fillsNumberSlot_seq (id := "tuple.__mul__") (r := some (.builtin "tuple.__rmul__")) F.slot_tuple_mul.lookup (by decide +kernel) F.slot_tuple_rmul.lookup (by decide +kernel)
theorem rep_tm : seqRepeat? (.type "tuple") = pure (some (.builtin "tuple.__mul__")) := by
  unfold seqRepeat?; rw [PySem.seqSlot_of (T := "tuple") (name := "__mul__") (id := "tuple.__mul__") F.slot_tuple_mul.lookup (by decide +kernel), PySem.seqSlot_of (T := "tuple") (name := "__rmul__") (id := "tuple.__rmul__") F.slot_tuple_rmul.lookup (by decide +kernel)]; rfl
theorem rmul_tm (a : Int) (t : Tok) (l : Addr) (items : Array Value) (n : Nat) (dd : Option Addr) (sl : Array (Option Value)) :
    Meets (Builtin.«int.__rmul__» ⟨[.int a t, .ref l], []⟩) (fun _ R s => s.heap.get? l = some { cls := .type "tuple", dict := dd, data := .seq items n, slots := sl } ∧ R (.ok (.ret Value.notImplemented)) s) :=
  .of_wp fun prog w A R s h => by obtain ⟨hp, g, d, tk, os⟩ := s; obtain ⟨hl, h⟩ := h; wp_walk; exact ⟨_, rfl, h⟩
theorem mul_tm (l : Addr) (x : Value) (n : Nat) (k : Int) (u : Tok) (dd : Option Addr) (sl : Array (Option Value)) (h0 : 2 ≤ k) (h1 : k ≤ 100000) :
    Meets (Builtin.«tuple.__mul__» ⟨[.ref l, .int k u], []⟩) (fun _ R s => s.heap.get? l = some { cls := .type "tuple", dict := dd, data := .seq #[x] n, slots := sl } ∧
      R (.ok (.ret (.ref s.heap.objs.size))) { s with heap := s.heap.push { cls := .type "tuple", data := .seq (List.replicate k.toNat x).toArray } }) :=
  .of_wp fun prog w A R s h => by
    obtain ⟨hp, g, d, tk, os⟩ := s; obtain ⟨hl, h⟩ := h
    have f1 := AutoSeq1.idx_int
    have c1 : ¬ (decide (k < -(2 ^ 63)) || decide (k ≥ 2 ^ 63)) = true := by simp; omega
    have c2 : ¬ ((#[x] : Array Value).isEmpty || k == 1) = true := by simp; omega
    have c3 : ¬ (decide (k ≤ 0) || (#[x] : Array Value).isEmpty) = true := by simp; omega
    have c4 : ¬ (((#[x] : Array Value).size : Int) * k > (2 ^ 63 - 1) / 8) := by simp; omega
    have c5 : ¬ Builtin.Tuple.tupleTooMany (((#[x] : Array Value).size : Int) * k) = true := by
      unfold Builtin.Tuple.tupleTooMany; rw [sizeLine_eq]; simp; omega
    wp_walk using wpAny_loadPart' hl
    rw [if_neg c1]
    wp_walk using wpAny_loadPart' hl
    rw [if_neg c2]
    wp_walk using wpAny_loadPart' hl
    rw [if_neg c3]
    wp_walk using wpAny_loadPart' hl
    rw [if_neg c4]
    show wpAny _ _ (if Builtin.Tuple.tupleTooMany (((#[x] : Array Value).size : Int) * k) = true then _ else _) _ _ _
    rw [if_neg c5]
    have f0 : ∀ (m : Nat) (acc : Array Value), List.foldl (fun x1 x2 => x1 ++ x2) acc (List.replicate m #[x]) = acc ++ (List.replicate m x).toArray := by
      intro m
      induction m with
      | zero => intro acc; simp
      | succ m ih => intro acc; rw [List.replicate_succ, List.foldl_cons, ih, List.replicate_succ]; apply Array.toList_inj.mp; simp
    have e : List.foldl (fun x1 x2 => x1 ++ x2) #[] (List.replicate k.toNat #[x]) = (List.replicate k.toNat x).toArray := by rw [f0]; simp
    show wpAny _ _ (Builtin.Tuple.tupleExact (List.foldl (fun x1 x2 => x1 ++ x2) #[] (List.replicate k.toNat #[x])) >>= fun v => ret v) _ _ _
    rw [e]
    unfold Builtin.Tuple.tupleExact
    refine wpAny_bind (wpAny_newObj_type ?_ (by show (List.replicate k.toNat x).toArray.size ≤ sizeLine; rw [List.size_toArray, List.length_replicate, sizeLine_eq]; omega))
    exact wpAny_pure ⟨_, rfl, h⟩
theorem mul_tm0 (l : Addr) (x : Value) (n : Nat) (u : Tok) (dd : Option Addr) (sl : Array (Option Value)) :
    Meets (Builtin.«tuple.__mul__» ⟨[.ref l, .int 0 u], []⟩) (fun _ R s => s.heap.get? l = some { cls := .type "tuple", dict := dd, data := .seq #[x] n, slots := sl } ∧ R (.ok (.ret (.ref s.heap.objs.size))) { s with heap := s.heap.push { cls := .type "tuple", data := .seq #[] } }) :=
  .of_wp fun prog w A R s h => by
    obtain ⟨hp, g, d, tk, os⟩ := s; obtain ⟨hl, h⟩ := h; have f1 := AutoSeq1.idx_int
    have c2 : ¬ ((#[x] : Array Value).isEmpty || (0 : Int) == 1) = true := by simp
    wp_walk using wpAny_loadPart' hl
    first | rw [if_neg c2] | skip
    wp_walk using wpAny_loadPart' hl
    exact ⟨_, rfl, h⟩
theorem mul_tm1 (l : Addr) (x : Value) (n : Nat) (u : Tok) (dd : Option Addr) (sl : Array (Option Value)) :
    Meets (Builtin.«tuple.__mul__» ⟨[.ref l, .int 1 u], []⟩) (fun _ R s => s.heap.get? l = some { cls := .type "tuple", dict := dd, data := .seq #[x] n, slots := sl } ∧ R (.ok (.ret (.ref l))) s) :=
  .of_wp fun prog w A R s h => by
    obtain ⟨hp, g, d, tk, os⟩ := s; obtain ⟨hl, h⟩ := h; have f1 := AutoSeq1.idx_int
    wp_walk using wpAny_loadPart' hl
    exact ⟨_, rfl, h⟩
section
variable {X : Cx}
def rRepT (K : PySem.W.Frag) : R2 := fun x y H Q => ∃ a k v, x = .ref a ∧ y = .int k ∧ SqT K H a [v] ∧ 0 ≤ k ∧ k ≤ 100000 ∧ ∀ p H', Same H H' → SqT K H' p (List.replicate k.toNat v) → Q (.ref p) H'
theorem op_repT : OpR X (binaryOp .Mult) (rRepT X.K) := by
  intro pins s σ H x y v u Q I rx ry h
  obtain ⟨a, k, z, rfl, rfl, ha, k0, k1, q⟩ := h
  cases rx
  obtain ⟨t, rfl⟩ := ry
  obtain ⟨its, r, p, hz⟩ := I.tuple ha
  obtain ⟨uz, rfl, rz⟩ := one_of r
  obtain ⟨⟨cls, dd, data, sl⟩, ho, hc, n, hd⟩ := id p
  simp only at hc hd
  subst hc hd
  refine wpAny_binaryOp_repeat_ref (T := "tuple") (U := "int") (by decide) ⟨_, ho, rfl⟩ (fun s' => PySem.typeIs_int s' k t) nofill_tm F.fills_int_mul F.slot_int_rmul rep_tm F.slot_int_index.lookup (call_meets F.slot_int_rmul (PySem.typeIs_int s k t) F.entry_int_rmul (F.args_int_rmul_2 _ _) (rmul_tm k t a #[uz] n dd sl) ⟨ho, rfl, ⟨_, ho, rfl⟩, ?_⟩)
  have new : ∀ m : Nat, m = k.toNat → EP X pins σ Q (.ref s.heap.objs.size) { s with heap := s.heap.push { cls := .type "tuple", data := .seq (List.replicate m uz).toArray }, toks := s.toks } := fun m hm => by
    have hf : H s.heap.objs.size = none := I.hok.fresh (Nat.le_refl _)
    have vv : ∀ j : Nat, Vals (List.replicate j z) (List.replicate j uz) := fun j => by
      induction j with
      | zero => exact .nil
      | succ j ih => exact .cons rz ih
    refine ⟨.ref s.heap.objs.size, _, I.laid (t' := s.toks) (o := .tup (List.replicate m z)) (fun b ob q => Heap.get?_push_of_some _ q) (Nat.le_refl _) ⟨by rw [List.length_replicate, sizeLine_eq]; omega, _, vv m, IsTup.new _ _⟩, rfl, q _ _ (Same.new hf) (SqT.of (by rw [upd_same, hm]))⟩
  rcases (by omega : k = 0 ∨ k = 1 ∨ 2 ≤ k) with e | e | e
  · subst e
    exact call_meets F.slot_tuple_mul ⟨_, ho, rfl⟩ F.entry_tuple_mul (F.args_tuple_mul_2 _ _) (mul_tm0 a uz n t dd sl) ⟨ho, new 0 rfl⟩
  · subst e
    exact call_meets F.slot_tuple_mul ⟨_, ho, rfl⟩ F.entry_tuple_mul (F.args_tuple_mul_2 _ _) (mul_tm1 a uz n t dd sl) ⟨ho, ⟨.ref a, H, I, rfl, q a H (Same.refl H) ha⟩⟩
  · exact call_meets F.slot_tuple_mul ⟨_, ho, rfl⟩ F.entry_tuple_mul (F.args_tuple_mul_2 _ _) (mul_tm a uz n k t dd sl e k1) ⟨ho, new _ rfl⟩
end
end L2

set_option Elab.async false
set_option linter.all false
set_option maxRecDepth 100000
set_option maxHeartbeats 4000000
namespace L2
open PySem PySem.Spec PyProof.Rows
/-! ### tuple(reversed(range(n))) -/
section
variable {prog : Program} {w : World} {A : Around} {E : Value → Shared → Prop} {s : Shared}
end
section
variable {X : Cx} {a : Expr} {ta : TA} {p p2 p3 pos pos2 pos3 : Pos}
theorem boot_reversed : PySem.bootBuiltins "reversed" = some (.type "reversed") := by decide +kernel
end
end L2

set_option Elab.async false
set_option linter.all false
set_option maxRecDepth 100000
set_option maxHeartbeats 4000000
namespace L2
open PySem PySem.Spec PyProof.Rows
/-! ### enumerate is made, of a tuple -/
theorem enum_newT (l : Addr) (xs : Array Value) :
    Meets (Builtin.«enumerate.__new__» ⟨[.type "enumerate", .ref l], []⟩) (fun _ R s => s.heap.IsTuple l xs ∧ R (.ok (.ret (.ref (s.heap.objs.size + 1)))) { s with heap := (s.heap.push { cls := .type "tuple_iterator", data := .fields #[.ref l, .int 0 0] }).push { cls := .type "enumerate", data := .fields #[.none, .bool false, .ref s.heap.objs.size, rawInt 0, .none, .none] } }) :=
  .of_wp fun prog w A R s h => by
    obtain ⟨hp, g, d, tk, os⟩ := s; obtain ⟨ht, h⟩ := h; have a1 := sub_enumerate
    have T1 : Heap.IsTuple (Shared.heap ⟨hp, g, d, tk, os⟩) l xs := ht
    obtain ⟨⟨cls, dd, data, sl⟩, ho, hc, n, hd⟩ := id ht
    simp only at hc hd
    subst hc hd
    wp_walk using wpAny_loadPart' ho
    refine wpAny_stack_any fun st => wpAny_pure ?_
    split
    · rename_i c _ _ _ _ _
      cases (c == Value.type "enumerate")
      · wp_walk using wpAny_loadPart' ho, wpAny_pyIter_tuple T1
        refine ⟨_, rfl, ?_⟩
        simp only [Heap.size_push]
        exact h
      · wp_walk using wpAny_loadPart' ho, wpAny_pyIter_tuple T1
        refine ⟨_, rfl, ?_⟩
        simp only [Heap.size_push]
        exact h
    · wp_walk using wpAny_loadPart' ho, wpAny_pyIter_tuple T1
      refine ⟨_, rfl, ?_⟩
      simp only [Heap.size_push]
      exact h
section
variable {prog : Program} {w : World} {A : Around} {E : Value → Shared → Prop} {s : Shared}
theorem enum_callT {l : Addr} {xs : Array Value} {Q : Value → Shared → Prop} (t1 : s.heap.IsTuple l xs) (h : ∀ g, enumTSt (s.heap.objs.size + 1) s.heap.objs.size l 0 g → (∀ c o, s.heap.get? c = some o → g.get? c = some o) → Q (.ref (s.heap.objs.size + 1)) { s with heap := g }) : wpAny (model prog w) A (call (.type "enumerate") [.ref l]) Q E s := by
  refine callType_new F.called_enumerate (by decide) (F.typeCall_enumerate_1 _) (F.newCall_enumerate_1 _) (fun obj => F.args_object_init_2 obj _) F.entry_enumerate_new (enum_newT l xs) ⟨t1, ?_⟩
  have g2 : ((s.heap.push { cls := .type "tuple_iterator", data := .fields #[.ref l, .int 0 0] }).push { cls := .type "enumerate", data := .fields #[.none, .bool false, .ref s.heap.objs.size, rawInt 0, .none, .none] }).get? (s.heap.objs.size + 1) = some { cls := .type "enumerate", data := .fields #[.none, .bool false, .ref s.heap.objs.size, rawInt 0, .none, .none] } := by
    have e : s.heap.objs.size + 1 = (s.heap.push { cls := .type "tuple_iterator", data := .fields #[.ref l, .int 0 0] }).objs.size := by simp only [Heap.size_push]
    rw [e]; exact Heap.get?_push_size _ rfl
  exact ⟨⟨_, g2, rfl⟩, h _ ⟨⟨.none, g2⟩, ⟨_, Heap.get?_push_of_some _ (Heap.get?_push_size _ rfl), rfl, rfl⟩⟩ fun c o x => Heap.get?_push_of_some _ (Heap.get?_push_of_some _ x)⟩
end
theorem boot_enumerate : PySem.bootBuiltins "enumerate" = some (.type "enumerate") := by decide +kernel
def iEnT (K : PySem.W.Frag) (ta : TA) : TI := fun σ H R => ta σ H fun vs H1 => ∃ a, vs = [.ref a] ∧ (∃ xs, SqT K H1 a xs) ∧ R (IteT K a) H1
def iEnL (K : PySem.W.Frag) (ta : TA) : TI := fun σ H R => ta σ H fun vs H1 => ∃ a, vs = [.ref a] ∧ (∃ xs, SqL K H1 a xs) ∧ R (IteL K a) H1
section
variable {X : Cx} {K : PySem.W.Frag} {es : List Expr} {k0 : Nat} {tp : Pos} {a : Expr} {ta : TA} {p pos : Pos}
theorem pi_enumT (hK : X.K = K) (hg : Gl X "enumerate") (hm : X.mg "enumerate" = none) (ha : PA X [a] ta) (hs : starEach [a] X.env = [(false, eval a X.env)] := by rfl) : PI X (.Tuple es k0 tp) (.Call (.Name "enumerate" p) [a] [] pos) (iEnT K ta) := by
  intro pins s σ H R I h
  subst hK
  refine Call_ (ld_blt I hg hm boot_enumerate (PyProof.Rows.callWith_type1 (thn (ha pos pins s σ H _ I h) fun us s1 ⟨vs, H1, I1, r1, q1⟩ => ?_) hs rfl))
  obtain ⟨a, e, ⟨xs, qx⟩, q⟩ := q1
  subst e
  obtain ⟨u, rfl, ru⟩ := one_of r1
  cases ru
  obtain ⟨i1, v1, p1, _⟩ := I1.tuple qx
  refine enum_callT p1 fun g st hk => ?_
  obtain ⟨⟨old, he⟩, hit⟩ := id st
  refine enum_self he ?_
  have I2 : Inv X pins σ H1 { s1 with heap := g, toks := s1.toks } := I1.kept (t' := s1.toks) fun b o e => hk b o e
  refine ⟨s1.heap.objs.size + 1, [s1.heap.objs.size + 1, s1.heap.objs.size], _, _, H1, rfl, I2, turn_enumT a (show ((s1.heap.objs.size + 1 : Nat) ≠ s1.heap.objs.size) by omega), st, fun c hc => ?_, q⟩
  have le : s1.heap.objs.size ≤ c := by
    simp only [List.mem_cons, List.not_mem_nil, or_false] at hc
    rcases hc with rfl | rfl
    · exact Nat.le_add_right _ 1
    · exact Nat.le_refl _
  exact I1.fpOk (H' := H1) le (I1.hok.fresh le)
theorem pi_enumL (hK : X.K = K) (hg : Gl X "enumerate") (hm : X.mg "enumerate" = none) (ha : PA X [a] ta) (hs : starEach [a] X.env = [(false, eval a X.env)] := by rfl) : PI X (.Tuple es k0 tp) (.Call (.Name "enumerate" p) [a] [] pos) (iEnL K ta) := by
  intro pins s σ H R I h
  subst hK
  refine Call_ (ld_blt I hg hm boot_enumerate (PyProof.Rows.callWith_type1 (thn (ha pos pins s σ H _ I h) fun us s1 ⟨vs, H1, I1, r1, q1⟩ => ?_) hs rfl))
  obtain ⟨a, e, ⟨xs, qx⟩, q⟩ := q1
  subst e
  obtain ⟨u, rfl, ru⟩ := one_of r1
  cases ru
  obtain ⟨i1, v1, p1, _⟩ := I1.list qx
  refine call_enumerate_list p1.isList fun g he hit hsz hk => ?_
  refine enum_self he ?_
  have I2 : Inv X pins σ H1 { s1 with heap := g, toks := s1.toks } := I1.kept (t' := s1.toks) fun b o e => hk b o e
  refine ⟨s1.heap.objs.size + 1, [s1.heap.objs.size + 1, s1.heap.objs.size], _, _, H1, rfl, I2, turn_enumL a (show ((s1.heap.objs.size + 1 : Nat) ≠ s1.heap.objs.size) by omega), ⟨⟨_, he⟩, hit⟩, fun c hc => ?_, q⟩
  have le : s1.heap.objs.size ≤ c := by
    simp only [List.mem_cons, List.not_mem_nil, or_false] at hc
    rcases hc with rfl | rfl
    · exact Nat.le_add_right _ 1
    · exact Nat.le_refl _
  exact I1.fpOk (H' := H1) le (I1.hok.fresh le)
end
/-! ### loops and comprehensions over it -/
end L2

set_option Elab.async false
set_option linter.all false
set_option maxRecDepth 100000
set_option maxHeartbeats 4000000
namespace L2
open PySem PySem.Spec PyProof.Rows
/-! ### is not, of truths -/
theorem op_isNotB {X : Cx} : OpR X (compareOp .IsNot) (fun x y H Q => ∃ b c, x = .bl b ∧ y = .bl c ∧ Q (.bl (!(b == c))) H) := by
  intro pins s σ H x y v u Q I rx ry h
  obtain ⟨b, c, rfl, rfl, q⟩ := h
  cases rx; cases ry
  refine wpAny_isNot_plain (by cases b <;> cases c <;> rfl) ⟨.bl (!(b == c)), H, I, ?_, q⟩
  show Value.bool _ = Value.bool _
  cases b <;> cases c <;> rfl
/-! ### zip of two tuples -/
/-! zip(a, b) is made -/
section
variable {prog : Program} {w : World} {A : Around} {E : Value → Shared → Prop} {s : Shared}
end
/-! ### zip of two tuples -/
/-! zip(a, b) is made -/
section
variable {prog : Program} {w : World} {A : Around} {E : Value → Shared → Prop} {s : Shared}
end
/-! ### zip of two tuples -/
/-! zip(a, b) is made -/
section
variable {prog : Program} {w : World} {A : Around} {E : Value → Shared → Prop} {s : Shared}
end
end L2

set_option Elab.async false
set_option linter.all false
set_option maxRecDepth 100000
set_option maxHeartbeats 4000000
namespace L2
open PySem PySem.Spec PyProof.Rows
/-! ### x = [..]: the store stands ahead of the block's end -/
end L2

set_option Elab.async false
set_option linter.all false
set_option maxRecDepth 100000
set_option maxHeartbeats 4000000
namespace L2
open PySem PySem.Spec PyProof.Rows
/-! ### data on a heap: ints, truths, texts, tuples, lists that nobody writes -/
mutual
def DA (K : PySem.W.Frag) (F : Hp) : PyData → V → Prop
  | .none, v => v = .non
  | .bool b, v => v = .bl b
  | .int i, v => v = .int i
  | .str x, v => v = .str x
  | .tuple ds, v => ∃ a xs, v = .ref a ∧ SqT K F a xs ∧ DAs K F ds xs
  | .list ds, v => ∃ a xs, v = .ref a ∧ SqL K F a xs ∧ DAs K F ds xs
  | .dict kvs, v => ∃ (a : Addr) (m : List (Int × Int)), v = .ref a ∧ F a = some (.dK (m.map fun p => (Sum.inl p.1, V.int p.2))) ∧ kvs = m.map fun p => (PyData.int p.1, PyData.int p.2)
def DAs (K : PySem.W.Frag) (F : Hp) : List PyData → List V → Prop
  | [], xs => xs = []
  | d :: ds, xs => ∃ x r, xs = x :: r ∧ DA K F d x ∧ DAs K F ds r
end
mutual
theorem DA.mono {K : PySem.W.Frag} {F F' : Hp} (h : Same F F') : ∀ {d : PyData} {v : V}, DA K F d v → DA K F' d v
  | .none, _, q => by simp only [DA] at q ⊢; exact q
  | .bool b, _, q => by simp only [DA] at q ⊢; exact q
  | .int i, _, q => by simp only [DA] at q ⊢; exact q
  | .str x, _, q => by simp only [DA] at q ⊢; exact q
  | .tuple ds, _, q => by
    simp only [DA] at q ⊢
    obtain ⟨a, xs, e, s, r⟩ := q
    exact ⟨a, xs, e, h.tup s, DAs.mono h r⟩
  | .list ds, _, q => by
    simp only [DA] at q ⊢
    obtain ⟨a, xs, e, s, r⟩ := q
    exact ⟨a, xs, e, h.seq s, DAs.mono h r⟩
  | .dict _, _, q => by
    simp only [DA] at q ⊢
    obtain ⟨a, m, e, s, k⟩ := q
    exact ⟨a, m, e, h _ _ s, k⟩
theorem DAs.mono {K : PySem.W.Frag} {F F' : Hp} (h : Same F F') : ∀ {ds : List PyData} {xs : List V}, DAs K F ds xs → DAs K F' ds xs
  | [], _, q => by simp only [DAs] at q ⊢; exact q
  | d :: ds, _, q => by
    simp only [DAs] at q ⊢
    obtain ⟨x, r, e, a, b⟩ := q
    exact ⟨x, r, e, DA.mono h a, DAs.mono h b⟩
end
section
variable {K : PySem.W.Frag} {F : Hp}
theorem DAs.len : ∀ {ds : List PyData} {xs : List V}, DAs K F ds xs → ds.length = xs.length
  | [], _, q => by simp only [DAs] at q; subst q; rfl
  | d :: ds, _, q => by
    simp only [DAs] at q
    obtain ⟨x, r, e, a, b⟩ := q
    subst e
    simp [DAs.len b]
theorem DAs.get : ∀ {ds : List PyData} {xs : List V} {i : Nat} {d : PyData}, DAs K F ds xs → ds[i]? = some d → ∃ v, xs[i]? = some v ∧ DA K F d v
  | [], _, _, _, _, h => by simp at h
  | d :: ds, _, i, d', q, h => by
    simp only [DAs] at q
    obtain ⟨x, r, e, a, b⟩ := q
    subst e
    cases i with
    | zero => simp at h; subst h; exact ⟨x, rfl, a⟩
    | succ i =>
      obtain ⟨v, h1, h2⟩ := DAs.get (i := i) b (by simpa using h)
      exact ⟨v, by simpa using h1, h2⟩
theorem DAs.append : ∀ {ds es : List PyData} {xs ys : List V}, DAs K F ds xs → DAs K F es ys → DAs K F (ds ++ es) (xs ++ ys)
  | [], _, _, _, q, s => by simp only [DAs] at q; subst q; simpa using s
  | d :: ds, es, _, ys, q, s => by
    simp only [DAs] at q
    obtain ⟨x, r, e, a, b⟩ := q
    subst e
    simp only [List.cons_append, DAs]
    exact ⟨x, _, rfl, a, DAs.append b s⟩
theorem DAs.one {d : PyData} {v : V} (h : DA K F d v) : DAs K F [d] [v] := by simp only [DAs]; exact ⟨_, _, rfl, h, rfl⟩
theorem DAs.nil : DAs K F [] [] := by simp only [DAs]
theorem DAs.cons {d : PyData} {v : V} {ds : List PyData} {vs : List V} (h : DA K F d v) (r : DAs K F ds vs) : DAs K F (d :: ds) (v :: vs) := by simp only [DAs]; exact ⟨_, _, rfl, h, r⟩
theorem DAs.drop : ∀ {ds : List PyData} {xs : List V} (n : Nat), DAs K F ds xs → DAs K F (ds.drop n) (xs.drop n)
  | _, _, 0, q => q
  | [], _, n + 1, q => by simp only [DAs] at q; subst q; exact DAs.nil
  | d :: ds, _, n + 1, q => by
    simp only [DAs] at q
    obtain ⟨x, r, e, a, b⟩ := q
    subst e
    simpa using DAs.drop n b
theorem DAs.take : ∀ {ds : List PyData} {xs : List V} (n : Nat), DAs K F ds xs → DAs K F (ds.take n) (xs.take n)
  | _, _, 0, q => by simpa using DAs.nil
  | [], _, n + 1, q => by simp only [DAs] at q; subst q; exact DAs.nil
  | d :: ds, _, n + 1, q => by
    simp only [DAs] at q
    obtain ⟨x, r, e, a, b⟩ := q
    subst e
    simpa using DAs.cons a (DAs.take n b)
theorem DAs.set {d : PyData} {v : V} (h : DA K F d v) : ∀ {ds : List PyData} {xs : List V} (n : Nat), DAs K F ds xs → DAs K F (ds.set n d) (xs.set n v)
  | [], _, _, q => by simp only [DAs] at q; subst q; exact DAs.nil
  | e :: ds, _, n, q => by
    simp only [DAs] at q
    obtain ⟨x, r, e, a, b⟩ := q
    subst e
    cases n with
    | zero => exact DAs.cons h b
    | succ n => exact DAs.cons a (DAs.set h n b)
theorem DAs.erase : ∀ {ds : List PyData} {xs : List V} (n : Nat), DAs K F ds xs → DAs K F (ds.eraseIdx n) (xs.eraseIdx n)
  | [], _, _, q => by simp only [DAs] at q; subst q; exact DAs.nil
  | e :: ds, _, n, q => by
    simp only [DAs] at q
    obtain ⟨x, r, e, a, b⟩ := q
    subst e
    cases n with
    | zero => exact b
    | succ n => exact DAs.cons a (DAs.erase n b)
theorem DAs.ints : ∀ {ns : List Int} {xs : List V}, DAs K F (ns.map .int) xs ↔ xs = ns.map V.int
  | [], xs => by simp [DAs]
  | n :: ns, xs => by
    simp only [List.map_cons, DAs, DA]
    constructor
    · rintro ⟨x, r, e, rfl, q⟩; rw [e, DAs.ints.mp q]
    · rintro rfl; exact ⟨_, _, rfl, rfl, DAs.ints.mpr rfl⟩
theorem DAs.bools : ∀ {ns : List Bool} {xs : List V}, DAs K F (ns.map .bool) xs ↔ xs = ns.map V.bl
  | [], xs => by simp [DAs]
  | n :: ns, xs => by
    simp only [List.map_cons, DAs, DA]
    constructor
    · rintro ⟨x, r, e, rfl, q⟩; rw [e, DAs.bools.mp q]
    · rintro rfl; exact ⟨_, _, rfl, rfl, DAs.bools.mpr rfl⟩
theorem da_int {i : Int} {v : V} : DA K F (.int i) v ↔ v = .int i := by simp only [DA]
theorem da_bool {b : Bool} {v : V} : DA K F (.bool b) v ↔ v = .bl b := by simp only [DA]
theorem da_none {v : V} : DA K F .none v ↔ v = .non := by simp only [DA]
theorem da_str {x : Str} {v : V} : DA K F (.str x) v ↔ v = .str x := by simp only [DA]
theorem da_tup {ds : List PyData} {v : V} : DA K F (.tuple ds) v ↔ ∃ a xs, v = .ref a ∧ SqT K F a xs ∧ DAs K F ds xs := by simp only [DA]
theorem da_lst {ds : List PyData} {v : V} : DA K F (.list ds) v ↔ ∃ a xs, v = .ref a ∧ SqL K F a xs ∧ DAs K F ds xs := by simp only [DA]
end
/-! ### slots and results -/
inductive Sv where
  | d (x : PyData)
  | l (xs : List PyData)
  /-- a list of lists that nobody else holds -/
  | n (xss : List (List PyData))
abbrev En := List (Option Sv)
inductive Rv where
  | d (x : PyData)
  | l (xs : List PyData)
  | s (i : Nat)
/-- the places that belong to slot i -/
def Fp (σ : L2.St) (e : En) (H : Hp) (i : Nat) (a : Addr) : Prop := (∃ xs : List PyData, e[i]? = some (some (Sv.l xs)) ∧ σ[i]? = some (some (.ref a))) ∨
  ∃ (xss : List (List PyData)) (l : Addr) (bs : List Addr), e[i]? = some (some (Sv.n xss)) ∧ σ[i]? = some (some (.ref l)) ∧ H l = some (.lst (bs.map V.ref)) ∧ (a = l ∨ a ∈ bs)
def Own (σ : L2.St) (e : En) (H : Hp) (a : Addr) : Prop := ∃ i, Fp σ e H i a
structure Rel (K : PySem.W.Frag) (F H : Hp) (σ : L2.St) (e : En) : Prop where
  sm : Same F H
  len : σ.length = e.length
  dat : ∀ (i : Nat) (x : PyData), e[i]? = some (some (.d x)) → ∃ v, σ[i]? = some (some v) ∧ DA K F x v
  own : ∀ (i : Nat) (xs : List PyData), e[i]? = some (some (.l xs)) → ∃ l vs, σ[i]? = some (some (.ref l)) ∧ F l = none ∧ H l = some (.lst vs) ∧ DAs K F xs vs
  nst : ∀ (i : Nat) (xss : List (List PyData)), e[i]? = some (some (.n xss)) → ∃ (l : Addr) (bs : List Addr), σ[i]? = some (some (.ref l)) ∧ F l = none ∧ H l = some (.lst (bs.map V.ref)) ∧ bs.length = xss.length ∧ bs.Nodup ∧ l ∉ bs ∧
    ∀ (k : Nat) (b : Addr) (ys : List PyData), bs[k]? = some b → xss[k]? = some ys → F b = none ∧ ∃ us, H b = some (.lst us) ∧ DAs K F ys us
  fp : ∀ (i j : Nat) (a : Addr), Fp σ e H i a → Fp σ e H j a → i = j
theorem Rel.inj {K : PySem.W.Frag} {F H : Hp} {σ : L2.St} {e : En} (R : Rel K F H σ e) (i j : Nat) (xs ys : List PyData) (l : Addr) (h1 : e[i]? = some (some (.l xs))) (h2 : e[j]? = some (some (.l ys))) (h3 : σ[i]? = some (some (.ref l))) (h4 : σ[j]? = some (some (.ref l))) : i = j := R.fp i j l (.inl ⟨xs, h1, h3⟩) (.inl ⟨ys, h2, h4⟩)
/-- what belongs to a slot is a list that nobody reads as data -/
theorem Rel.fpAt {K : PySem.W.Frag} {F H : Hp} {σ : L2.St} {e : En} (R : Rel K F H σ e) {i : Nat} {a : Addr} (h : Fp σ e H i a) : F a = none ∧ ∃ vs, H a = some (.lst vs) := by
  rcases h with ⟨xs, h1, h2⟩ | ⟨xss, l, bs, h1, h2, h3, h4⟩
  · obtain ⟨l, vs, g1, g2, g3, _⟩ := R.own i xs h1
    rw [h2] at g1; cases g1
    exact ⟨g2, vs, g3⟩
  · obtain ⟨l', bs', g1, g2, g3, g4, g5, g6, g7⟩ := R.nst i xss h1
    rw [h2] at g1; cases g1
    rw [h3] at g3
    have e1 : bs = bs' := by
      have := HO.lst.inj (Option.some.inj g3)
      exact List.map_inj_right (fun _ _ z => V.ref.inj z) |>.mp this
    subst e1
    rcases h4 with rfl | h4
    · exact ⟨g2, _, h3⟩
    · obtain ⟨k, hk⟩ := List.getElem?_of_mem h4
      have hk2 : k < xss.length := by rw [← g4]; exact (List.getElem?_eq_some_iff.mp hk).1
      obtain ⟨c1, us, c2, _⟩ := g7 k a xss[k] hk (List.getElem?_eq_getElem hk2)
      exact ⟨c1, us, c2⟩
/-- what an expression leaves -/
structure Ext (σ : L2.St) (F H : Hp) (e : En) (F' H' : Hp) (e' : En) : Prop where
  sf : Same F F'
  dom : ∀ a, H' a = none → H a = none
  fr : ∀ a vs, F a = none → H a = some (.lst vs) → ¬ Own σ e H a → F' a = none
  lst : ∀ a vs, H a = some (.lst vs) → ∃ vs', H' a = some (.lst vs')
  tmp : ∀ a o, H a = some o → ¬ Own σ e H a → H' a = some o
  shp : ∀ i : Nat, (∃ xs, e'[i]? = some (some (.l xs))) ↔ (∃ xs, e[i]? = some (some (.l xs)))
  ow : ∀ a, Own σ e' H' a → Own σ e H a ∨ H a = none
theorem Ext.refl (σ : L2.St) (F H : Hp) (e : En) : Ext σ F H e F H e := ⟨Same.refl _, fun _ h => h, fun _ _ h _ _ => h, fun _ vs h => ⟨vs, h⟩, fun _ _ h _ => h, fun _ => Iff.rfl, fun _ h => .inl h⟩
theorem Ext.trans {σ : L2.St} {F H F1 H1 F2 H2 : Hp} {e e1 e2 : En} (x : Ext σ F H e F1 H1 e1) (y : Ext σ F1 H1 e1 F2 H2 e2) : Ext σ F H e F2 H2 e2 :=
  ⟨x.sf.trans y.sf, fun a h => x.dom a (y.dom a h), fun a vs h n no => let ⟨vs', q⟩ := x.lst a vs n; y.fr a vs' (x.fr a vs h n no) q (fun z => (x.ow a z).elim no fun z => by rw [n] at z; cases z), fun a vs h => let ⟨vs', q⟩ := x.lst a vs h; y.lst a vs' q,
    fun a o h n => y.tmp a o (x.tmp a o h n) (fun z => (x.ow a z).elim n fun z => by rw [h] at z; cases z), fun i => (y.shp i).trans (x.shp i), fun a h => (y.ow a h).elim (x.ow a) fun z => .inr (x.dom a z)⟩
def RvAt (K : PySem.W.Frag) (σ : L2.St) (H0 F H : Hp) (e : En) : Rv → V → Prop
  | .d x, v => DA K F x v
  | .l xs, v => ∃ l vs, v = .ref l ∧ H0 l = none ∧ F l = none ∧ H l = some (.lst vs) ∧ DAs K F xs vs ∧ ¬ Own σ e H l
  | .s i, v => σ[i]? = some (some v) ∧ ∃ xs, e[i]? = some (some (.l xs))
section
variable {K : PySem.W.Frag} {σ : L2.St} {H0 F H F' H' : Hp} {e e' : En} {r : Rv} {v : V}
theorem RvAt.ext (h : RvAt K σ H0 F H e r v) (x : Ext σ F H e F' H' e') : RvAt K σ H0 F' H' e' r v := by
  cases r with
  | d y => exact DA.mono x.sf h
  | l xs =>
    obtain ⟨l, vs, e1, h1, h2, h3, h4, h5⟩ := h
    exact ⟨l, vs, e1, h1, x.fr l _ h2 h3 h5, x.tmp l _ h3 h5, DAs.mono x.sf h4, fun z => (x.ow l z).elim h5 fun z => by rw [h3] at z; cases z⟩
  | s i => exact ⟨h.1, (x.shp i).mpr h.2⟩
theorem RvAt.weak {H1 : Hp} (h : RvAt K σ H1 F H e r v) (d : ∀ a, H1 a = none → H0 a = none) : RvAt K σ H0 F H e r v := by
  cases r with
  | d y => exact h
  | l xs =>
    obtain ⟨l, vs, e1, h1, r⟩ := h
    exact ⟨l, vs, e1, d l h1, r⟩
  | s i => exact h
theorem Rel.ownH (R : Rel K F H σ e) (a : Addr) (h : Own σ e H a) : H a ≠ none := by
  obtain ⟨i, h⟩ := h
  obtain ⟨_, vs, h2⟩ := R.fpAt h
  rw [h2]; simp
theorem Rel.freeF (R : Rel K F H σ e) {p : Addr} (hp : H p = none) : F p = none := R.sm.free hp
/-- where the lists of lists stand as they stood, so does what belongs to the slots -/
theorem fp_same (R : Rel K F H σ e) (h : ∀ l bs, H l = some (.lst bs) → Own σ e H l → H' l = some (.lst bs)) {i : Nat} {a : Addr} : Fp σ e H' i a ↔ Fp σ e H i a := by
  have key : ∀ xss l, e[i]? = some (some (.n xss)) → σ[i]? = some (some (.ref l)) → H' l = H l := fun xss l h1 h2 => by
    obtain ⟨l', bs, g1, g2, g3, _⟩ := R.nst i xss h1
    rw [h2] at g1; cases g1
    rw [g3]
    exact h l _ g3 ⟨i, .inr ⟨xss, l, bs, h1, h2, g3, .inl rfl⟩⟩
  constructor
  · rintro (h1 | ⟨xss, l, bs, h1, h2, h3, h4⟩)
    · exact .inl h1
    · exact .inr ⟨xss, l, bs, h1, h2, by rw [← key xss l h1 h2]; exact h3, h4⟩
  · rintro (h1 | ⟨xss, l, bs, h1, h2, h3, h4⟩)
    · exact .inl h1
    · exact .inr ⟨xss, l, bs, h1, h2, by rw [key xss l h1 h2]; exact h3, h4⟩
/-- all that belongs to slots stands as it stood -/
theorem Rel.keep (R : Rel K F H σ e) (sF : Same F F') (sm : Same F' H') (hf : ∀ a, Own σ e H a → F' a = none) (hh : ∀ a o, Own σ e H a → H a = some o → H' a = some o) : Rel K F' H' σ e ∧ ∀ a, Own σ e H' a ↔ Own σ e H a := by
  have fs : ∀ {i a}, Fp σ e H' i a ↔ Fp σ e H i a := fun {i a} => fp_same R fun l bs h1 h2 => hh l _ h2 h1
  refine ⟨⟨sm, R.len, fun i x h => let ⟨v, h1, h2⟩ := R.dat i x h; ⟨v, h1, DA.mono sF h2⟩, fun i xs h => ?_, fun i xss h => ?_, fun i j a h1 h2 => R.fp i j a (fs.mp h1) (fs.mp h2)⟩, fun a => ⟨fun ⟨i, h⟩ => ⟨i, fs.mp h⟩, fun ⟨i, h⟩ => ⟨i, fs.mpr h⟩⟩⟩
  · obtain ⟨l, vs, h1, h2, h3, h4⟩ := R.own i xs h
    have o : Own σ e H l := ⟨i, .inl ⟨xs, h, h1⟩⟩
    exact ⟨l, vs, h1, hf l o, hh l _ o h3, h4.mono sF⟩
  · obtain ⟨l, bs, h1, h2, h3, h4, h5, h6, h7⟩ := R.nst i xss h
    have o : Own σ e H l := ⟨i, .inr ⟨xss, l, bs, h, h1, h3, .inl rfl⟩⟩
    refine ⟨l, bs, h1, hf l o, hh l _ o h3, h4, h5, h6, fun k b ys g1 g2 => ?_⟩
    obtain ⟨c1, us, c2, c3⟩ := h7 k b ys g1 g2
    have ob : Own σ e H b := ⟨i, .inr ⟨xss, l, bs, h, h1, h3, .inr (List.mem_of_getElem? g1)⟩⟩
    exact ⟨hf b ob, us, hh b _ ob c2, c3.mono sF⟩
theorem Rel.same (R : Rel K F H σ e) (s : Same H H') : Rel K F H' σ e ∧ Ext σ F H e F H' e := by
  obtain ⟨R', o'⟩ := R.keep (Same.refl F) (R.sm.trans s) (fun a ⟨i, h⟩ => (R.fpAt h).1) fun a o _ h => s a o h
  exact ⟨R', ⟨Same.refl _, fun a h => s.free h, fun _ _ h _ _ => h, fun a vs h => ⟨vs, s _ _ h⟩, fun a o h _ => s a o h, fun _ => Iff.rfl, fun a h => .inl ((o' a).mp h)⟩⟩
/-- a thing that nobody writes is put to the frozen ones -/
theorem Rel.freeze (R : Rel K F H σ e) {p : Addr} {o : HO} (hF : F p = none) (hp : H p = some o) (hn : ¬ Own σ e H p) : Rel K (upd F p o) H σ e ∧ Same F (upd F p o) := by
  have sF : Same F (upd F p o) := Same.new hF
  refine ⟨(R.keep sF (fun b u q => ?_) (fun a ha => ?_) fun _ _ _ h => h).1, sF⟩
  · by_cases z : b = p
    · subst z; rw [upd_same] at q; cases q; exact hp
    · rw [upd_ne z] at q; exact R.sm _ _ q
  · obtain ⟨i, hi⟩ := ha
    have z : a ≠ p := fun z => hn ⟨i, by rw [← z]; exact hi⟩
    rw [upd_ne z]; exact (R.fpAt hi).1
theorem Rel.notOwn (R : Rel K F H σ e) {p : Addr} {o : HO} (hp : H p = some o) (hl : ∀ vs, o ≠ .lst vs) : ¬ Own σ e H p := fun ⟨i, h⟩ => by
  obtain ⟨_, vs, g⟩ := R.fpAt h
  rw [hp] at g; cases g
  exact hl _ rfl
theorem Rel.newT (R : Rel K F H σ e) {p : Addr} {vs : List V} (hp : H p = none) : Rel K (upd F p (.tup vs)) (upd H p (.tup vs)) σ e ∧ Ext σ F H e (upd F p (.tup vs)) (upd H p (.tup vs)) e := by
  have hF := R.freeF hp
  obtain ⟨R1, X1⟩ := R.same (Same.new hp (o := .tup vs))
  obtain ⟨R2, s2⟩ := R1.freeze (p := p) hF upd_same (R1.notOwn upd_same (fun _ z => nomatch z))
  refine ⟨R2, ⟨s2, X1.dom, fun a ws h n _ => ?_, X1.lst, X1.tmp, X1.shp, X1.ow⟩⟩
  have z : a ≠ p := fun z => by rw [z, hp] at n; cases n
  rw [upd_ne z]; exact h
theorem Rel.sameOwn (R : Rel K F H σ e) (s : Same H H') (a : Addr) : Own σ e H' a ↔ Own σ e H a := (R.keep (Same.refl F) (R.sm.trans s) (fun a ⟨i, h⟩ => (R.fpAt h).1) fun a o _ h => s a o h).2 a
theorem Rel.newL (R : Rel K F H σ e) {p : Addr} {vs : List V} (hp : H p = none) : Rel K F (upd H p (.lst vs)) σ e ∧ Ext σ F H e F (upd H p (.lst vs)) e ∧ F p = none ∧ ¬ Own σ e (upd H p (.lst vs)) p :=
  ⟨(R.same (Same.new hp)).1, (R.same (Same.new hp)).2, R.freeF hp, fun z => R.ownH p ((R.sameOwn (Same.new hp) p).mp z) hp⟩
/-- a heap that grew, with a tuple there -/
theorem Rel.growT (R : Rel K F H σ e) {p : Addr} {xs : List V} (s : Same H H') (hp : SqT K H' p xs) : ∃ F', Rel K F' H' σ e ∧ Ext σ F H e F' H' e ∧ SqT K F' p xs := by
  obtain ⟨R1, X1⟩ := R.same s
  rcases hp with hp | hp
  · have key : ∀ o, H' p = some o → (∀ vs, o ≠ .lst vs) → (∀ G : Hp, G p = some o → Rd G p (.tup xs)) → ∃ F', Rel K F' H' σ e ∧ Ext σ F H e F' H' e ∧ SqT K F' p xs := by
      intro o ho hl hr
      cases q : F p with
      | some u =>
        have := R1.sm _ _ q
        rw [ho] at this; cases this
        exact ⟨F, R1, X1, .inl (hr F q)⟩
      | none =>
        obtain ⟨R2, s2⟩ := R1.freeze q ho (R1.notOwn ho hl)
        refine ⟨_, R2, ⟨s2, X1.dom, fun a ws h n _ => ?_, X1.lst, X1.tmp, X1.shp, X1.ow⟩, .inl (hr _ upd_same)⟩
        have z : a ≠ p := fun z => by rw [z] at n; rw [s _ _ n] at ho; cases ho; exact hl _ rfl
        rw [upd_ne z]; exact h
    rcases hp with hp | ⟨ob, hp⟩
    · exact key _ hp (fun _ z => nomatch z) fun G g => .inl g
    · exact key _ hp (fun _ z => nomatch z) fun G g => .inr ⟨ob, g⟩
  · exact ⟨F, R1, X1, .inr hp⟩
/-- a temporary list is let be: nobody writes it from here on -/
theorem RvAt.frozen (R : Rel K F H σ e) {xs : List PyData} (h : RvAt K σ H0 F H e (.l xs) v) : ∃ F', Rel K F' H σ e ∧ Same F F' ∧ DA K F' (.list xs) v ∧ (∀ a, F a = none → H0 a ≠ none → F' a = none) := by
  obtain ⟨l, vs, rfl, h1, h2, h3, h4, h5⟩ := h
  obtain ⟨R2, s2⟩ := R.freeze h2 h3 h5
  refine ⟨_, R2, s2, ?_, fun a ha hn => ?_⟩
  · rw [da_lst]
    exact ⟨l, vs, rfl, .inl (.inl upd_same), DAs.mono s2 h4⟩
  · have z : a ≠ l := fun z => hn (by rw [z]; exact h1)
    rw [upd_ne z]; exact ha
/-! ### the sequence behind a result -/
def seqR (e : En) : Rv → Option (Bool × List PyData)
  | .d (.tuple xs) => some (false, xs)
  | .d (.list xs) => some (true, xs)
  | .l xs => some (true, xs)
  | .s i => match e[i]? with
    | some (some (.l xs)) => some (true, xs)
    | _ => none
  | _ => none
theorem seqR_at (R : Rel K F H σ e) (h : RvAt K σ H0 F H e r v) {b : Bool} {xs : List PyData} (q : seqR e r = some (b, xs)) :
    ∃ p vs, v = .ref p ∧ DAs K F xs vs ∧ (if b = true then SqL K H p vs else SqT K H p vs) := by
  cases r with
  | d x =>
    cases x with
    | tuple ds =>
      cases q
      obtain ⟨a, ys, e1, e2, e3⟩ := da_tup.mp h
      exact ⟨a, ys, e1, e3, R.sm.tup e2⟩
    | list ds =>
      cases q
      obtain ⟨a, ys, e1, e2, e3⟩ := da_lst.mp h
      exact ⟨a, ys, e1, e3, R.sm.seq e2⟩
    | _ => cases q
  | l ys =>
    cases q
    obtain ⟨l, vs, e1, h1, h2, h3, h4, _⟩ := h
    exact ⟨l, vs, e1, h4, .inl (.inl h3)⟩
  | s i =>
    obtain ⟨h1, ys, h2⟩ := h
    simp only [seqR, h2] at q
    cases q
    obtain ⟨l, vs, e1, e2, e3, e4⟩ := R.own i _ h2
    rw [h1] at e1; cases e1
    exact ⟨l, vs, rfl, e4, .inl (.inl e3)⟩
end
end L2

set_option Elab.async false
set_option linter.all false
set_option maxRecDepth 100000
set_option maxHeartbeats 4000000
namespace L2
open PySem PySem.Spec PyProof.Rows
abbrev FE := En → Option (Rv × En)
abbrev FT := En → Option (Bool × En)
abbrev FA := En → Option (List Rv × En)
def RvsAt (K : PySem.W.Frag) (σ : L2.St) (H0 F H : Hp) (e : En) : List Rv → List V → Prop
  | [], vs => vs = []
  | r :: rs, vs => ∃ v ws, vs = v :: ws ∧ RvAt K σ H0 F H e r v ∧ RvsAt K σ H0 F H e rs ws
def fE (K : PySem.W.Frag) (f : FE) : TE := fun σ H Q => ∃ F e r e', Rel K F H σ e ∧ f e = some (r, e') ∧ ∀ F' H' v, Ext σ F H e F' H' e' → Rel K F' H' σ e' → RvAt K σ H F' H' e' r v → Q v H'
def fT (K : PySem.W.Frag) (f : FT) : TT := fun σ H Q => ∃ F e b e', Rel K F H σ e ∧ f e = some (b, e') ∧ ∀ F' H', Ext σ F H e F' H' e' → Rel K F' H' σ e' → Q b H'
def fA (K : PySem.W.Frag) (f : FA) : TA := fun σ H Q => ∃ F e rs e', Rel K F H σ e ∧ f e = some (rs, e') ∧ ∀ F' H' vs, Ext σ F H e F' H' e' → Rel K F' H' σ e' → RvsAt K σ H F' H' e' rs vs → Q vs H'
theorem PE.mono {X : Cx} {e : Expr} {t t' : TE} (h : PE X e t) (m : ∀ σ H Q, t' σ H Q → t σ H Q) : PE X e t' := fun pins s σ H Q I q => h pins s σ H Q I (m σ H Q q)
theorem PT.mono {X : Cx} {e : Expr} {t t' : TT} (h : PT X e t) (m : ∀ σ H Q, t' σ H Q → t σ H Q) : PT X e t' := fun pins s σ H Q I q => h pins s σ H Q I (m σ H Q q)
theorem PW.mono {X : Cx} {e : Expr} {t t' : TT} (h : PW X e t) (m : ∀ σ H Q, t' σ H Q → t σ H Q) : PW X e t' := fun wh pins s σ H Q I q => h wh pins s σ H Q I (m σ H Q q)
theorem PA.mono {X : Cx} {es : List Expr} {t t' : TA} (h : PA X es t) (m : ∀ σ H Q, t' σ H Q → t σ H Q) : PA X es t' := fun pos pins s σ H Q I q => h pos pins s σ H Q I (m σ H Q q)
section
variable {K : PySem.W.Frag} {σ : L2.St} {H0 F H F' H' : Hp} {e e' : En}
theorem RvsAt.ext : ∀ {rs : List Rv} {vs : List V}, RvsAt K σ H0 F H e rs vs → Ext σ F H e F' H' e' → RvsAt K σ H0 F' H' e' rs vs
  | [], _, h, _ => h
  | r :: rs, _, h, x => by
    obtain ⟨v, ws, rfl, h1, h2⟩ := h
    exact ⟨v, ws, rfl, h1.ext x, RvsAt.ext h2 x⟩
theorem RvsAt.weak {H1 : Hp} (d : ∀ a, H1 a = none → H0 a = none) : ∀ {rs : List Rv} {vs : List V}, RvsAt K σ H1 F H e rs vs → RvsAt K σ H0 F H e rs vs
  | [], _, h => h
  | r :: rs, _, h => by
    obtain ⟨v, ws, rfl, h1, h2⟩ := h
    exact ⟨v, ws, rfl, h1.weak d, RvsAt.weak d h2⟩
theorem Ext.frz {F'' : Hp} (x : Ext σ F H e F' H' e') (s : Same F' F'') (h : ∀ a, F' a = none → H a ≠ none → F'' a = none) : Ext σ F H e F'' H' e' :=
  ⟨x.sf.trans s, x.dom, fun a vs h1 h2 h3 => h a (x.fr a vs h1 h2 h3) (by rw [h2]; simp), x.lst, x.tmp, x.shp, x.ow⟩
/-- results as data: temporary lists are let be -/
def datas : List Rv → Option (List PyData)
  | [] => some []
  | .d x :: rs => (datas rs).map (x :: ·)
  | .l xs :: rs => (datas rs).map (.list xs :: ·)
  | .s _ :: _ => none
theorem RvsAt.frozen : ∀ {rs : List Rv} {vs : List V} {ds : List PyData} {F : Hp}, Rel K F H σ e → RvsAt K σ H0 F H e rs vs → datas rs = some ds →
    ∃ F', Rel K F' H σ e ∧ Same F F' ∧ DAs K F' ds vs ∧ (∀ a, F a = none → H0 a ≠ none → F' a = none)
  | [], _, _, F, R, h, q => by
    cases q
    have h' : _ = [] := h
    subst h'
    exact ⟨F, R, Same.refl _, DAs.nil, fun _ h _ => h⟩
  | .d x :: rs, _, ds, F, R, h, q => by
    obtain ⟨v, ws, rfl, h1, h2⟩ := h
    obtain ⟨ds', q1, rfl⟩ := Option.map_eq_some_iff.mp q
    obtain ⟨F', R', s', d', f'⟩ := RvsAt.frozen R h2 q1
    exact ⟨F', R', s', .cons (DA.mono s' h1) d', f'⟩
  | .l xs :: rs, _, ds, F, R, h, q => by
    obtain ⟨v, ws, rfl, h1, h2⟩ := h
    obtain ⟨ds', q1, rfl⟩ := Option.map_eq_some_iff.mp q
    obtain ⟨F', R', s', d', f'⟩ := RvsAt.frozen R h2 q1
    obtain ⟨l, us, rfl, g1, g2, g3, g4, g5⟩ := h1
    cases hl : F' l with
    | none =>
      have h1' : RvAt K σ H0 F' H e (.l xs) (.ref l) := ⟨l, us, rfl, g1, hl, g3, DAs.mono s' g4, g5⟩
      obtain ⟨F2, R2, s2, d2, f2⟩ := h1'.frozen R'
      exact ⟨F2, R2, s'.trans s2, .cons d2 (DAs.mono s2 d'), fun a ha hn => f2 a (f' a ha hn) hn⟩
    | some o =>
      have := R'.sm _ _ hl
      rw [g3] at this; cases this
      exact ⟨F', R', s', .cons (da_lst.mpr ⟨l, us, rfl, .inl (.inl hl), DAs.mono s' g4⟩) d', f'⟩
end
section
variable {X : Cx} {K : PySem.W.Frag} {a b c : Expr} {fa fb : FE} {ft fu : FT} {pos : Pos} {es : List Expr} {fs : FA}
/-! ### names, constants -/
def vVar (i : Nat) : FE := fun e => match e[i]? with
  | some (some (.d x)) => some (.d x, e)
  | some (some (.l _)) => some (.s i, e)
  | _ => none
def vC (x : PyData) : FE := fun e => some (.d x, e)
theorem vVar_go {i : Nat} {σ : L2.St} {H : Hp} {Q : VK} (h : fE K (vVar i) σ H Q) : tVar i σ H Q := by
  obtain ⟨F, e, r, e', R, hf, q⟩ := h
  unfold vVar at hf
  match h1 : e[i]?, hf with
  | some (some (.d x)), hf =>
    cases hf
    obtain ⟨v, h2, h3⟩ := R.dat i x h1
    exact ⟨v, h2, q F H v (Ext.refl _ _ _ _) R h3⟩
  | some (some (.n _)), hf => cases hf
  | some (some (.l xs)), hf =>
    cases hf
    obtain ⟨l, vs, h2, h3⟩ := R.own i xs h1
    exact ⟨_, h2, q F H _ (Ext.refl _ _ _ _) R ⟨h2, xs, h1⟩⟩
  | some none, hf => cases hf
  | none, hf => cases hf
theorem qv (i : Nat) {x : Str} {pos : Pos} (hN : X.N[i]? = some x) (hv : Vis X.env.scope x) (hd : (x == ("__debug__" : Str)) = false) (hcd : (x == ("__classdict__" : Str)) = false) : PE X (.Name x pos) (fE K (vVar i)) := (pe_var hN hv hd hcd).mono fun _ _ _ h => vVar_go h
theorem vC_go {x : PyData} {v : V} {σ : L2.St} {H : Hp} {Q : VK} (hx : ∀ F, DA K F x v) (h : fE K (vC x) σ H Q) : tC v σ H Q := by
  obtain ⟨F, e, r, e', R, hf, q⟩ := h
  cases hf
  exact q F H v (Ext.refl _ _ _ _) R (hx F)
theorem qe_int {i j pos} : PE X (.Constant (.int i) j pos) (fE K (vC (.int i))) := pe_int.mono fun _ _ _ h => vC_go (fun _ => da_int.mpr rfl) h
theorem qe_bl {b j pos} : PE X (.Constant (.bool b) j pos) (fE K (vC (.bool b))) := pe_bl.mono fun _ _ _ h => vC_go (fun _ => da_bool.mpr rfl) h
/-- a module's constant -/
theorem qe_glob {x : Str} {v : V} {u : Value} {pos : Pos} {y : PyData} (hg : Gl X x) (hm : X.mg x = some u) (r : RelV v u) (hy : ∀ F, DA K F y v) (hd : (x == ("__debug__" : Str)) = false) : PE X (.Name x pos) (fE K (vC y)) := (pe_glob hg hm r hd).mono fun _ _ _ h => vC_go hy h
/-! ### two results and an operation -/
def OpF (K : PySem.W.Frag) (r : R2) (g : En → Rv → Rv → Option Rv) : Prop :=
  ∀ (σ : L2.St) (H0 F H : Hp) (e : En) (x y z : Rv) (v u : V) (Q : VK), Rel K F H σ e → RvAt K σ H0 F H e x v → RvAt K σ H0 F H e y u → g e x y = some z →
    (∀ F' H' w, Ext σ F H e F' H' e → Rel K F' H' σ e → RvAt K σ H F' H' e z w → Q w H') → r v u H Q
def vOp (g : En → Rv → Rv → Option Rv) (fa fb : FE) : FE := fun e => (fa e).bind fun p => (fb p.2).bind fun q => (g q.2 p.1 q.1).map fun z => (z, q.2)
theorem vOp_go {r : R2} {g : En → Rv → Rv → Option Rv} (ho : OpF K r g) {σ : L2.St} {H : Hp} {Q : VK} (h : fE K (vOp g fa fb) σ H Q) : tOp r (fE K fa) (fE K fb) σ H Q := by
  obtain ⟨F, e, z, e2, R, hf, q⟩ := h
  unfold vOp at hf
  obtain ⟨⟨x, e1⟩, h1, hf⟩ := Option.bind_eq_some_iff.mp hf
  obtain ⟨⟨y, e2'⟩, h2, hf⟩ := Option.bind_eq_some_iff.mp hf
  obtain ⟨z', h3, hf⟩ := Option.map_eq_some_iff.mp hf
  cases hf
  refine ⟨F, e, x, e1, R, h1, fun F1 H1 v X1 R1 A1 => ⟨F1, e1, y, _, R1, h2, fun F2 H2 u X2 R2 A2 => ?_⟩⟩
  have X12 := X1.trans X2
  refine ho σ H F2 H2 _ x y _ v u Q R2 (A1.ext X2) (A2.weak X1.dom) h3 fun F3 H3 w X3 R3 A3 => ?_
  exact q F3 H3 w (X12.trans X3) R3 (A3.weak X12.dom)
theorem qe_op {op : Operator} {r : R2} {g : En → Rv → Rv → Option Rv} (hr : OpR X (binaryOp op) r) (ho : OpF K r g) (ha : PE X a (fE K fa)) (hb : PE X b (fE K fb)) : PE X (.BinOp a op b pos) (fE K (vOp g fa fb)) := (pe_op hr ha hb).mono fun _ _ _ h => vOp_go ho h
theorem qe_cmp {op : CmpOp} {r : R2} {g : En → Rv → Rv → Option Rv} (hr : OpR X (compareOp op) r) (ho : OpF K r g) (ha : PE X a (fE K fa)) (hb : PE X b (fE K fb)) (hm : behindInMarks op b = false) : PE X (.Compare a [op] [b] pos) (fE K (vOp g fa fb)) := (pe_cmpR hr ha hb hm).mono fun _ _ _ h => vOp_go ho h
theorem qe_ix {r : R2} {g : En → Rv → Rv → Option Rv} (hr : IxR X r) (ho : OpF K r g) (ha : PE X a (fE K fa)) (hb : PE X b (fE K fb)) (hs : PlainIx b) : PE X (.Subscript a b pos) (fE K (vOp g fa fb)) := (pe_ix hr ha hb hs).mono fun _ _ _ h => vOp_go ho h
/-- one result -/
def vUn (g : En → Rv → Option Rv) (fa : FE) : FE := fun e => (fa e).bind fun p => (g p.2 p.1).map fun z => (z, p.2)
def UnF (K : PySem.W.Frag) (r : V → Hp → VK → Prop) (g : En → Rv → Option Rv) : Prop :=
  ∀ (σ : L2.St) (H0 F H : Hp) (e : En) (x z : Rv) (v : V) (Q : VK), Rel K F H σ e → RvAt K σ H0 F H e x v → g e x = some z →
    (∀ F' H' w, Ext σ F H e F' H' e → Rel K F' H' σ e → RvAt K σ H F' H' e z w → Q w H') → r v H Q
theorem vUn_go {r : V → Hp → VK → Prop} {g : En → Rv → Option Rv} (ho : UnF K r g) {σ : L2.St} {H : Hp} {Q : VK} (h : fE K (vUn g fa) σ H Q) : tUn r (fE K fa) σ H Q := by
  obtain ⟨F, e, z, e2, R, hf, q⟩ := h
  unfold vUn at hf
  obtain ⟨⟨x, e1⟩, h1, hf⟩ := Option.bind_eq_some_iff.mp hf
  obtain ⟨z', h3, hf⟩ := Option.map_eq_some_iff.mp hf
  cases hf
  refine ⟨F, e, x, _, R, h1, fun F1 H1 v X1 R1 A1 => ?_⟩
  refine ho σ H F1 H1 _ x _ v Q R1 A1 h3 fun F3 H3 w X3 R3 A3 => ?_
  exact q F3 H3 w (X1.trans X3) R3 (A3.weak X1.dom)
theorem qe_un {op : UnaryOp} {r : V → Hp → VK → Prop} {g : En → Rv → Option Rv} (hr : UnR X (unaryOp op) r) (ho : UnF K r g) (ha : PE X a (fE K fa)) : PE X (.UnaryOp op a pos) (fE K (vUn g fa)) := (pe_un hr ha).mono fun _ _ _ h => vUn_go ho h
/-! ### truths -/
def boolOf : Rv → Option Bool
  | .d (.bool b) => some b
  | _ => none
theorem boolOf_at {σ : L2.St} {H0 F H : Hp} {e : En} {r : Rv} {v : V} {b : Bool} (h : RvAt K σ H0 F H e r v) (q : boolOf r = some b) : v = .bl b := by
  unfold boolOf at q
  split at q
  · cases q; exact da_bool.mp (show DA K F (.bool _) v from h)
  · cases q
theorem rv_bool {σ : L2.St} {H0 F H : Hp} {e : En} {b : Bool} : RvAt K σ H0 F H e (.d (.bool b)) (.bl b) := (da_bool (K := K) (F := F)).mpr rfl
def vTest (f : FE) : FT := fun e => (f e).bind fun p => (boolOf p.1).map fun b => (b, p.2)
theorem vTest_go {σ : L2.St} {H : Hp} {Q : Bool → Hp → Prop} (h : fT K (vTest fa) σ H Q) : fE K fa σ H fun x H' => ∃ k, x = .bl k ∧ Q k H' := by
  obtain ⟨F, e, b, e1, R, hf, q⟩ := h
  unfold vTest at hf
  obtain ⟨⟨x, e1'⟩, h1, hf⟩ := Option.bind_eq_some_iff.mp hf
  obtain ⟨b', h3, hf⟩ := Option.map_eq_some_iff.mp hf
  cases hf
  exact ⟨F, e, x, _, R, h1, fun F1 H1 v X1 R1 A1 => ⟨_, boolOf_at A1 h3, q F1 H1 X1 R1⟩⟩
theorem qt_cmp {op : CmpOp} {r : R2} {g : En → Rv → Rv → Option Rv} (hr : OpR X (compareOp op) r) (ho : OpF K r g) (ha : PE X a (fE K fa)) (hb : PE X b (fE K fb)) (hm : behindInMarks op b = false) : PT X (.Compare a [op] [b] pos) (fT K (vTest (vOp g fa fb))) :=
  (pt_cmpR hr ha hb hm).mono fun σ H Q h => by
    obtain ⟨F, e, z, e2, R, hf, q⟩ := vTest_go h
    exact vOp_go ho ⟨F, e, z, e2, R, hf, q⟩
theorem qt_val {e : Expr} (h : PE X e (fE K fa)) (he : ∀ whole, isTrue e X.env whole = (do let v ← whole; standAt e.pos; holding [v] (truthy v))) : PT X e (fT K (vTest fa)) := (pt_val h he).mono fun _ _ _ h => vTest_go h
def vAnd (f g : FT) : FT := fun e => (f e).bind fun p => if p.1 = true then g p.2 else some (false, p.2)
def vOr (f g : FT) : FT := fun e => (f e).bind fun p => if p.1 = true then some (true, p.2) else g p.2
def vNot (f : FT) : FT := fun e => (f e).map fun p => (!p.1, p.2)
theorem vAnd_go {σ : L2.St} {H : Hp} {Q : Bool → Hp → Prop} (h : fT K (vAnd ft fu) σ H Q) : tAnd (fT K ft) (fT K fu) σ H Q := by
  obtain ⟨F, e, b, e1, R, hf, q⟩ := h
  unfold vAnd at hf
  obtain ⟨⟨x, e1'⟩, h1, hf⟩ := Option.bind_eq_some_iff.mp hf
  refine ⟨F, e, x, e1', R, h1, fun F1 H1 X1 R1 => ?_⟩
  cases x with
  | true => exact ⟨F1, e1', b, e1, R1, hf, fun F2 H2 X2 R2 => q F2 H2 (X1.trans X2) R2⟩
  | false => cases hf; exact q F1 H1 X1 R1
theorem vOr_go {σ : L2.St} {H : Hp} {Q : Bool → Hp → Prop} (h : fT K (vOr ft fu) σ H Q) : tOr (fT K ft) (fT K fu) σ H Q := by
  obtain ⟨F, e, b, e1, R, hf, q⟩ := h
  unfold vOr at hf
  obtain ⟨⟨x, e1'⟩, h1, hf⟩ := Option.bind_eq_some_iff.mp hf
  refine ⟨F, e, x, e1', R, h1, fun F1 H1 X1 R1 => ?_⟩
  cases x with
  | false => exact ⟨F1, e1', b, e1, R1, hf, fun F2 H2 X2 R2 => q F2 H2 (X1.trans X2) R2⟩
  | true => cases hf; exact q F1 H1 X1 R1
theorem vNot_go {σ : L2.St} {H : Hp} {Q : Bool → Hp → Prop} (h : fT K (vNot ft) σ H Q) : tNot (fT K ft) σ H Q := by
  obtain ⟨F, e, b, e1, R, hf, q⟩ := h
  unfold vNot at hf
  obtain ⟨⟨x, e1'⟩, h1, hf⟩ := Option.map_eq_some_iff.mp hf
  cases hf
  exact ⟨F, e, x, _, R, h1, fun F1 H1 X1 R1 => q F1 H1 X1 R1⟩
variable {rest : List Expr}
theorem qw_and1 (ha : PT X a (fT K ft)) : PW X (.BoolOp .And [a] pos) (fT K ft) := pw_and1 ha
theorem qw_or1 (ha : PT X a (fT K ft)) : PW X (.BoolOp .Or [a] pos) (fT K ft) := pw_or1 ha
theorem qw_and (ha : PT X a (fT K ft)) (hb : PW X (.BoolOp .And (b :: rest) pos) (fT K fu)) : PW X (.BoolOp .And (a :: b :: rest) pos) (fT K (vAnd ft fu)) := (pw_and ha hb).mono fun _ _ _ h => vAnd_go h
theorem qw_or (ha : PT X a (fT K ft)) (hb : PW X (.BoolOp .Or (b :: rest) pos) (fT K fu)) : PW X (.BoolOp .Or (a :: b :: rest) pos) (fT K (vOr ft fu)) := (pw_or ha hb).mono fun _ _ _ h => vOr_go h
theorem qt_not (ha : PT X a (fT K ft)) : PT X (.UnaryOp .Not a pos) (fT K (vNot ft)) := (pt_not ha).mono fun _ _ _ h => vNot_go h
theorem qt_w {e : Expr} (h : PW X e (fT K ft)) : PT X e (fT K ft) := h.pt
/-- as values -/
def vAndV (f g : FE) : FE := fun e => (f e).bind fun p => (boolOf p.1).bind fun b => if b = true then g p.2 else some (.d (.bool false), p.2)
def vOrV (f g : FE) : FE := fun e => (f e).bind fun p => (boolOf p.1).bind fun b => if b = true then some (.d (.bool true), p.2) else g p.2
def vNotV (f : FE) : FE := fun e => (f e).bind fun p => (boolOf p.1).map fun b => (.d (.bool (!b)), p.2)
theorem qe_and (ha : PE X a (fE K fa)) (hb : PE X (.BoolOp .And (b :: rest) pos) (fE K fb)) : PE X (.BoolOp .And (a :: b :: rest) pos) (fE K (vAndV fa fb)) := (pe_and ha hb).mono fun σ H Q h => by
  obtain ⟨F, e, z, e2, R, hf, q⟩ := h
  unfold vAndV at hf
  obtain ⟨⟨x, e1⟩, h1, hf⟩ := Option.bind_eq_some_iff.mp hf
  obtain ⟨b, h2, hf⟩ := Option.bind_eq_some_iff.mp hf
  refine ⟨F, e, x, e1, R, h1, fun F1 H1 v X1 R1 A1 => ⟨b, boolOf_at A1 h2, ?_⟩⟩
  cases b with
  | true => exact ⟨F1, e1, z, e2, R1, hf, fun F2 H2 w X2 R2 A2 => q F2 H2 w (X1.trans X2) R2 (A2.weak X1.dom)⟩
  | false => cases hf; exact q F1 H1 _ X1 R1 rv_bool
theorem qe_one {op} (h : PE X a (fE K fa)) : PE X (.BoolOp op [a] pos) (fE K fa) := pe_one h
theorem qe_not (ha : PE X a (fE K fa)) : PE X (.UnaryOp .Not a pos) (fE K (vNotV fa)) := (pe_not ha).mono fun σ H Q h => by
  obtain ⟨F, e, z, e2, R, hf, q⟩ := h
  unfold vNotV at hf
  obtain ⟨⟨x, e1⟩, h1, hf⟩ := Option.bind_eq_some_iff.mp hf
  obtain ⟨b, h2, hf⟩ := Option.map_eq_some_iff.mp hf
  cases hf
  exact ⟨F, e, x, _, R, h1, fun F1 H1 v X1 R1 A1 => ⟨b, boolOf_at A1 h2, q F1 H1 _ X1 R1 rv_bool⟩⟩
def vIf (t : FT) (f g : FE) : FE := fun e => (t e).bind fun p => if p.1 = true then f p.2 else g p.2
/-- a op1 b op2 c -/
def vChain (g g' : En → Rv → Rv → Option Rv) (fa fb fc : FE) : FE := fun e => (fa e).bind fun p => (fb p.2).bind fun q => (g q.2 p.1 q.1).bind fun z => (boolOf z).bind fun k => if k = true then (fc q.2).bind fun w => (g' w.2 q.1 w.1).map fun z' => (z', w.2) else some (.d (.bool false), q.2)
theorem vChain_go {r r' : R2} {g g' : En → Rv → Rv → Option Rv} {fc : FE} (ho : OpF K r g) (ho' : OpF K r' g') {σ : L2.St} {H : Hp} {Q : VK} (h : fE K (vChain g g' fa fb fc) σ H Q) : tChain r r' (fE K fa) (fE K fb) (fE K fc) σ H Q := by
  obtain ⟨F, e, z, e4, R, hf, q⟩ := h
  unfold vChain at hf
  obtain ⟨⟨x, e1⟩, h1, hf⟩ := Option.bind_eq_some_iff.mp hf
  obtain ⟨⟨y, e2⟩, h2, hf⟩ := Option.bind_eq_some_iff.mp hf
  obtain ⟨z', h3, hf⟩ := Option.bind_eq_some_iff.mp hf
  obtain ⟨k, h4, hf⟩ := Option.bind_eq_some_iff.mp hf
  refine ⟨F, e, x, e1, R, h1, fun F1 H1 v X1 R1 A1 => ⟨F1, e1, y, e2, R1, h2, fun F2 H2 u X2 R2 A2 => ?_⟩⟩
  have X12 := X1.trans X2
  refine ho σ H F2 H2 e2 x y z' v u _ R2 (A1.ext X2) (A2.weak X1.dom) h3 fun F3 H3 w X3 R3 A3 => ⟨k, boolOf_at A3 h4, ?_⟩
  have X13 := X12.trans X3
  cases k with
  | false =>
    cases hf
    exact q F3 H3 _ X13 R3 rv_bool
  | true =>
    obtain ⟨⟨w', e3⟩, h5, hf⟩ := Option.bind_eq_some_iff.mp hf
    obtain ⟨z2, h6, hf⟩ := Option.map_eq_some_iff.mp hf
    cases hf
    refine ⟨F3, _, w', _, R3, h5, fun F4 H4 u4 X4 R4 A4 => ?_⟩
    have X14 := X13.trans X4
    refine ho' σ H F4 H4 _ y w' _ u u4 Q R4 (((A2.weak X1.dom).ext X3).ext X4) (A4.weak X13.dom) h6 fun F5 H5 w5 X5 R5 A5 => ?_
    exact q F5 H5 w5 (X14.trans X5) R5 (A5.weak X14.dom)
theorem qe_chain {op op' : CmpOp} {r r' : R2} {g g' : En → Rv → Rv → Option Rv} {fc : FE} (hr : OpR X (compareOp op) r) (ho : OpF K r g) (hr' : OpR X (compareOp op') r') (ho' : OpF K r' g') (ha : PE X a (fE K fa)) (hb : PE X b (fE K fb)) (hc : PE X c (fE K fc))
    (hm : lastMarks [op, op'] [b, c] = false) : PE X (.Compare a [op, op'] [b, c] pos) (fE K (vChain g g' fa fb fc)) := (pe_chain hr hr' ha hb hc hm).mono fun _ _ _ h => vChain_go ho ho' h
/-! ### rows of results -/
def vNil : FA := fun e => some ([], e)
def vCons (fa : FE) (fs : FA) : FA := fun e => (fa e).bind fun p => (fs p.2).map fun q => (p.1 :: q.1, q.2)
theorem qa_nil : PA X [] (fA K vNil) := pa_nil.mono fun σ H Q h => by
  obtain ⟨F, e, r, e', R, hf, q⟩ := h
  cases hf
  exact q F H [] (Ext.refl _ _ _ _) R rfl
theorem qa_k (ha : PE X a (fE K fa)) (hr : PA X es (fA K fs)) (h : PySem.W.isStarred a = false) : PA X (a :: es) (fA K (vCons fa fs)) := (pa_k ha hr h).mono fun σ H Q h => by
  obtain ⟨F, e, z, e2, R, hf, q⟩ := h
  unfold vCons at hf
  obtain ⟨⟨x, e1⟩, h1, hf⟩ := Option.bind_eq_some_iff.mp hf
  obtain ⟨⟨xs, e2'⟩, h2, hf⟩ := Option.map_eq_some_iff.mp hf
  cases hf
  refine ⟨F, e, x, e1, R, h1, fun F1 H1 v X1 R1 A1 => ⟨F1, e1, xs, _, R1, h2, fun F2 H2 vs X2 R2 A2 => ?_⟩⟩
  exact q F2 H2 (v :: vs) (X1.trans X2) R2 ⟨v, vs, rfl, A1.ext X2, A2.weak X1.dom⟩
/-- displays -/
def vTup (fs : FA) : FE := fun e => (fs e).bind fun p => (datas p.1).bind fun ds => if ds.length ≤ 1000 then some (.d (.tuple ds), p.2) else none
def vLst (fs : FA) : FE := fun e => (fs e).bind fun p => (datas p.1).bind fun ds => if ds.length ≤ 1000 then some (.l ds, p.2) else none
theorem qe_tup {x1} (h : PA X es (fA K fs)) : PE X (.Tuple es x1 pos) (fE K (vTup fs)) := (pe_tup h).mono fun σ H Q h => by
  obtain ⟨F, e, z, e2, R, hf, q⟩ := h
  unfold vTup at hf
  obtain ⟨⟨rs, e1⟩, h1, hf⟩ := Option.bind_eq_some_iff.mp hf
  obtain ⟨ds, h2, hf⟩ := Option.bind_eq_some_iff.mp hf
  split at hf
  case isFalse => cases hf
  case isTrue hl =>
  cases hf
  refine ⟨F, e, rs, _, R, h1, fun F1 H1 vs X1 R1 A1 => ?_⟩
  obtain ⟨F2, R2, s2, d2, f2⟩ := RvsAt.frozen R1 A1 h2
  have hlen := d2.len
  refine ⟨Nat.le_of_lt (small1000 (by omega)), fun p hp => ?_⟩
  obtain ⟨R3, X3⟩ := R2.newT (vs := vs) hp
  exact q _ _ _ ((X1.frz s2 f2).trans X3) R3 (da_tup.mpr ⟨p, vs, rfl, .inl (.inl upd_same), DAs.mono X3.sf d2⟩)
theorem qe_lst (h : PA X es (fA K fs)) : PE X (.List es pos) (fE K (vLst fs)) := (pe_lst h).mono fun σ H Q h => by
  obtain ⟨F, e, z, e2, R, hf, q⟩ := h
  unfold vLst at hf
  obtain ⟨⟨rs, e1⟩, h1, hf⟩ := Option.bind_eq_some_iff.mp hf
  obtain ⟨ds, h2, hf⟩ := Option.bind_eq_some_iff.mp hf
  split at hf
  case isFalse => cases hf
  case isTrue hl =>
  cases hf
  refine ⟨F, e, rs, _, R, h1, fun F1 H1 vs X1 R1 A1 => ?_⟩
  obtain ⟨F2, R2, s2, d2, f2⟩ := RvsAt.frozen R1 A1 h2
  have hlen := d2.len
  refine ⟨Nat.le_of_lt (small1000 (by omega)), fun p hp => ?_⟩
  obtain ⟨R3, X3, hF, no⟩ := R2.newL (vs := vs) hp
  exact q _ _ _ ((X1.frz s2 f2).trans X3) R3 ⟨p, vs, rfl, X1.dom p hp, hF, upd_same, d2, no⟩
/-- a builtin, a type called -/
def CallF (K : PySem.W.Frag) (r : List V → Hp → VK → Prop) (g : En → List Rv → Option Rv) : Prop :=
  ∀ (σ : L2.St) (H0 F H : Hp) (e : En) (xs : List Rv) (z : Rv) (vs : List V) (Q : VK), Rel K F H σ e → RvsAt K σ H0 F H e xs vs → g e xs = some z →
    (∀ F' H' w, Ext σ F H e F' H' e → Rel K F' H' σ e → RvAt K σ H F' H' e z w → Q w H') → r vs H Q
def vCall (g : En → List Rv → Option Rv) (fs : FA) : FE := fun e => (fs e).bind fun p => (g p.2 p.1).map fun z => (z, p.2)
theorem vCall_go {r : List V → Hp → VK → Prop} {g : En → List Rv → Option Rv} (ho : CallF K r g) {σ : L2.St} {H : Hp} {Q : VK} (h : fE K (vCall g fs) σ H Q) : tCB r (fA K fs) σ H Q := by
  obtain ⟨F, e, z, e2, R, hf, q⟩ := h
  unfold vCall at hf
  obtain ⟨⟨x, e1⟩, h1, hf⟩ := Option.bind_eq_some_iff.mp hf
  obtain ⟨z', h3, hf⟩ := Option.map_eq_some_iff.mp hf
  cases hf
  refine ⟨F, e, x, _, R, h1, fun F1 H1 vs X1 R1 A1 => ?_⟩
  refine ho σ H F1 H1 _ x _ vs Q R1 A1 h3 fun F3 H3 w X3 R3 A3 => ?_
  exact q F3 H3 w (X1.trans X3) R3 (A3.weak X1.dom)
theorem qe_callB {x : Str} {p pos : Pos} {id : String} {r : List V → Hp → VK → Prop} {g : En → List Rv → Option Rv} (hc : CallR X (.builtin id) r) (ho : CallF K r g) (hg : Gl X x) (hm : X.mg x = none) (hv : bootBuiltins x = some (.builtin id)) (ha : PA X (a :: es) (fA K fs)) (hn : x ≠ "__name__") (hdb : (x == ("__debug__" : Str)) = false)
    (he : starEach (a :: es) X.env = (false, eval a X.env) :: starEach es X.env) (hpl : (backTo pos (starEach es X.env)).any (·.1) = false) : PE X (.Call (.Name x p) (a :: es) [] pos) (fE K (vCall g fs)) := (pe_callB hc hg hm hv ha hn hdb he hpl).mono fun _ _ _ h => vCall_go ho h
theorem qe_callTy {x : Str} {p pos : Pos} {T : String} {r : List V → Hp → VK → Prop} {g : En → List Rv → Option Rv} (hc : CallR X (.type T) r) (ho : CallF K r g) (hg : Gl X x) (hm : X.mg x = none) (hv : bootBuiltins x = some (.type T)) (ha : PA X (a :: es) (fA K fs)) (hn : x ≠ "__name__") (hdb : (x == ("__debug__" : Str)) = false)
    (he : starEach (a :: es) X.env = (false, eval a X.env) :: starEach es X.env) (hpl : (backTo pos (starEach es X.env)).any (·.1) = false) : PE X (.Call (.Name x p) (a :: es) [] pos) (fE K (vCall g fs)) := (pe_callTy hc hg hm hv ha hn hdb he hpl).mono fun _ _ _ h => vCall_go ho h
end
end L2

set_option Elab.async false
set_option linter.all false
set_option maxRecDepth 100000
set_option maxHeartbeats 4000000
namespace L2
open PySem PySem.Spec PyProof.Rows
mutual
theorem DA.reads {X : Cx} {pins : List (Addr × Obj)} {σ : L2.St} {H : Hp} {s : Shared} (I : Inv X pins σ H s) : ∀ {d : PyData} {v : V} {u : Value}, d.canLay0 = true → DA X.K H d v → RelV v u → ∃ as, Reads s.heap u d as
  | .none, _, _, _, q, r => by
    simp only [DA] at q; subst q; cases r; exact ⟨_, .none⟩
  | .bool b, _, _, _, q, r => by
    simp only [DA] at q; subst q; cases r; exact ⟨_, .bool b⟩
  | .int i, _, _, _, q, r => by
    simp only [DA] at q; subst q; obtain ⟨t, rfl⟩ := r; exact ⟨_, .int i t⟩
  | .str x, _, _, _, q, r => by
    simp only [DA] at q; subst q; obtain ⟨t, rfl⟩ := r; exact ⟨_, .str x t⟩
  | .tuple ds, _, _, c, q, r => by
    simp only [DA] at q
    obtain ⟨a, xs, e, hs, rr⟩ := q
    subst e; cases r
    obtain ⟨its, rv, ⟨o, ho, hc, n, hd⟩, hz⟩ := I.tuple hs
    obtain ⟨as, q⟩ := DAs.reads I (by simpa [PyData.canLay0] using c) rr rv
    exact ⟨_, .tuple ho hc hd q⟩
  | .list ds, _, _, c, q, r => by
    simp only [DA] at q
    obtain ⟨a, xs, e, hs, rr⟩ := q
    subst e; cases r
    obtain ⟨its, rv, ht, hz⟩ := I.list hs
    obtain ⟨o, ho, hc, n, hd⟩ := ht.isList
    obtain ⟨as, q⟩ := DAs.reads I (by simpa [PyData.canLay0] using c) rr rv
    exact ⟨_, .list ho hc hd q⟩
  | .dict _, _, _, c, _, _ => by simp [PyData.canLay0] at c
theorem DAs.reads {X : Cx} {pins : List (Addr × Obj)} {σ : L2.St} {H : Hp} {s : Shared} (I : Inv X pins σ H s) : ∀ {ds : List PyData} {xs : List V} {us : List Value}, PyData.canLayAll0 ds = true → DAs X.K H ds xs → Vals xs us → ∃ as, ReadsAll s.heap us ds as
  | [], _, _, _, q, r => by
    simp only [DAs] at q; subst q; cases r; exact ⟨_, .nil⟩
  | d :: ds, _, _, c, q, r => by
    simp only [DAs] at q
    simp only [PyData.canLayAll0, Bool.and_eq_true] at c
    obtain ⟨x, rr, e, a, b⟩ := q
    subst e
    cases r with
    | cons p p' =>
      obtain ⟨as, q1⟩ := DA.reads I c.1 a p
      obtain ⟨bs, q2⟩ := DAs.reads I c.2 b p'
      exact ⟨_, .cons q1 q2⟩
end
/-- a result as data, whatever holds it -/
def dataR (e : En) : Rv → Option PyData
  | .d x => some x
  | .l xs => some (.list xs)
  | .s i => match e[i]? with
    | some (some (.l xs)) => some (.list xs)
    | _ => none
theorem dataR_at {K : PySem.W.Frag} {σ : L2.St} {H0 F H : Hp} {e : En} {r : Rv} {v : V} {d : PyData} (R : Rel K F H σ e) (h : RvAt K σ H0 F H e r v) (q : dataR e r = some d) : DA K H d v := by
  cases r with
  | d x => cases q; exact DA.mono R.sm h
  | l xs =>
    cases q
    obtain ⟨l, vs, rfl, h1, h2, h3, h4, _⟩ := h
    exact da_lst.mpr ⟨l, vs, rfl, .inl (.inl h3), DAs.mono R.sm h4⟩
  | s i =>
    obtain ⟨h1, ys, h2⟩ := h
    simp only [dataR, h2] at q
    cases q
    obtain ⟨l, vs, e1, e2, e3, e4⟩ := R.own i _ h2
    rw [h1] at e1; cases e1
    exact da_lst.mpr ⟨l, vs, rfl, .inl (.inl e3), DAs.mono R.sm e4⟩
section
variable {X : Cx} {K : PySem.W.Frag}
/-! ### ints -/
def intOf : Rv → Option Int
  | .d (.int i) => some i
  | _ => none
theorem intOf_at {σ : L2.St} {H0 F H : Hp} {e : En} {r : Rv} {v : V} {i : Int} (h : RvAt K σ H0 F H e r v) (q : intOf r = some i) : v = .int i := by
  unfold intOf at q
  split at q
  · cases q; exact da_int.mp (show DA K F (.int _) v from h)
  · cases q
theorem rv_int {σ : L2.St} {H0 F H : Hp} {e : En} {i : Int} : RvAt K σ H0 F H e (.d (.int i)) (.int i) := (da_int (K := K) (F := F)).mpr rfl
/-- an operation of two ints, under a condition -/
def gI (C : Int → Int → Bool) (f : Int → Int → PyData) : En → Rv → Rv → Option Rv := fun _ x y => (intOf x).bind fun i => (intOf y).bind fun j => if C i j = true then some (.d (f i j)) else none
theorem opI_f {C : Int → Int → Prop} {c : Int → Int → Bool} {g : Int → Int → V} {f : Int → Int → PyData} (hc : ∀ i j, c i j = true → C i j) (hf : ∀ F i j, DA K F (f i j) (g i j)) : OpF K (rI C g) (gI c f) := by
  intro σ H0 F H e x y z v u Q R A B hg q
  unfold gI at hg
  obtain ⟨i, h1, hg⟩ := Option.bind_eq_some_iff.mp hg
  obtain ⟨j, h2, hg⟩ := Option.bind_eq_some_iff.mp hg
  split at hg
  case isFalse => cases hg
  case isTrue hh =>
  cases hg
  exact ⟨i, j, intOf_at A h1, intOf_at B h2, hc i j hh, q F H _ (Ext.refl _ _ _ _) R (hf F i j)⟩
theorem opI0_f {g : Int → Int → V} {f : Int → Int → PyData} (hf : ∀ F i j, DA K F (f i j) (g i j)) : OpF K (rI0 g) (gI (fun _ _ => true) f) := by
  intro σ H0 F H e x y z v u Q R A B hg q
  obtain ⟨i, j, h1, h2, h3, h4⟩ := opI_f (K := K) (C := fun _ _ => True) (c := fun _ _ => true) (g := g) (f := f) (fun _ _ _ => trivial) hf σ H0 F H e x y z v u Q R A B hg q
  exact ⟨i, j, h1, h2, h4⟩
def gOr (g g' : En → Rv → Rv → Option Rv) : En → Rv → Rv → Option Rv := fun e x y => (g e x y).or (g' e x y)
theorem OpF.or {r r' : R2} {g g' : En → Rv → Rv → Option Rv} (h : OpF K r g) (h' : OpF K r' g') : OpF K (fun x y H Q => r x y H Q ∨ r' x y H Q) (gOr g g') := by
  intro σ H0 F H e x y z v u Q R A B hg q
  unfold gOr at hg
  cases e1 : g e x y with
  | some w =>
    rw [e1] at hg
    cases hg
    exact .inl (h σ H0 F H e x y _ v u Q R A B e1 q)
  | none =>
    rw [e1] at hg
    exact .inr (h' σ H0 F H e x y _ v u Q R A B hg q)
def gAddI := gI (fun _ _ => true) fun i j => .int (i + j)
def gMinus := gI (fun _ _ => true) fun i j => .int (i - j)
def smallB (i : Int) : Bool := decide (-(2 ^ 64) < i) && decide (i < 2 ^ 64)
def btB (n : Nat) (i : Int) : Bool := decide (i.natAbs < 2 ^ n)
theorem btB_iff {n : Nat} {i : Int} : btB n i = true ↔ Bt n i := by unfold btB Bt; exact decide_eq_true_iff
def mulB (i j : Int) : Bool := smallB i || smallB j || (btB 4000 i && btB 4000 j)
def gMulI := gI mulB fun i j => .int (i * j)
def gFdiv := gI (fun _ j => j != 0 && btB 8000 j) fun i j => .int (i.fdiv j)
def gMod := gI (fun _ j => j != 0) fun i j => .int (i.fmod j)
def powB (i j : Int) : Bool := decide (0 ≤ j) && decide (j ≤ 1000000) && smallB i
def gPow := gI powB fun i j => .int (i ^ j.toNat)
theorem smallB_iff {i : Int} (h : smallB i = true) : -(2 ^ 64) < i ∧ i < 2 ^ 64 := by
  unfold smallB at h
  rw [Bool.and_eq_true, decide_eq_true_iff, decide_eq_true_iff] at h
  exact h
theorem powB_ok {i j : Int} (h : powB i j = true) : CPow i j := by
  unfold powB at h
  rw [Bool.and_eq_true, Bool.and_eq_true, decide_eq_true_iff, decide_eq_true_iff] at h
  have := smallB_iff h.2
  exact ⟨h.1.1, h.1.2, by omega⟩
def CMulA (i j : Int) : Prop := CMul i j ∨ CMulB i j
theorem op_mulA : OpR X (binaryOp .Mult) (rI CMulA fun i j => .int (i * j)) := by
  intro pins s σ H x y v u Q I rx ry h
  obtain ⟨i, j, e1, e2, h1, q⟩ := h
  rcases h1 with h1 | h1
  · exact op_mul pins s σ H x y v u Q I rx ry ⟨i, j, e1, e2, h1, q⟩
  · exact op_mulB pins s σ H x y v u Q I rx ry ⟨i, j, e1, e2, h1, q⟩
theorem of_mulB {i j : Int} (h : mulB i j = true) : CMulA i j := by
  unfold mulB at h
  rw [Bool.or_eq_true, Bool.or_eq_true, Bool.and_eq_true] at h
  rcases h with (h | h) | h
  · exact .inl (.inl (smallB_iff h))
  · exact .inl (.inr (smallB_iff h))
  · exact .inr ⟨btB_iff.mp h.1, btB_iff.mp h.2⟩
theorem mulI_f : OpF K (rI CMulA fun i j => .int (i * j)) gMulI := opI_f (fun _ _ h => of_mulB h) fun _ _ _ => da_int.mpr rfl
theorem sub_f : OpF K (rI0 fun i j => .int (i - j)) gMinus := opI0_f fun _ _ _ => da_int.mpr rfl
theorem fdiv_f : OpF K (rI CDivB fun i j => .int (i.fdiv j)) gFdiv := opI_f (fun i j h => by
  rw [Bool.and_eq_true] at h
  exact ⟨by simpa using h.1, btB_iff.mp h.2⟩) fun _ _ _ => da_int.mpr rfl
theorem mod_f : OpF K (rI (fun _ j => j ≠ 0) fun i j => .int (i.fmod j)) gMod := opI_f (fun i j h => by simpa using h) fun _ _ _ => da_int.mpr rfl
theorem pow_f : OpF K (rI CPow fun i j => .int (i ^ j.toNat)) gPow := opI_f (fun _ _ h => powB_ok h) fun _ _ _ => da_int.mpr rfl
/-! ### + of tuples, lists -/
def gCatT : En → Rv → Rv → Option Rv := fun e x y => match seqR e x, seqR e y with
  | some (false, xs), some (false, ys) => if xs.length + ys.length ≤ 1000000 then some (.d (.tuple (xs ++ ys))) else none
  | _, _ => none
theorem catT_f : OpF K (rCatA K) gCatT := by
  intro σ H0 F H e x y z v u Q R A B hg q
  unfold gCatT at hg
  match h1 : seqR e x, h2 : seqR e y, hg with
  | some (false, xs), some (false, ys), hg =>
    obtain ⟨p, vs, rfl, d1, s1⟩ := seqR_at R A h1
    obtain ⟨p', us, rfl, d2, s2⟩ := seqR_at R B h2
    dsimp only at hg
    split at hg
    case isFalse => cases hg
    case isTrue hl =>
    cases hg
    have l1 := d1.len
    have l2 := d2.len
    have sl : sizeLine = 16777216 := sizeLine_eq
    refine ⟨p, p', vs, us, rfl, rfl, s1, s2, by omega, fun t H' sm hT => ?_⟩
    obtain ⟨F', R', X', hF⟩ := R.growT sm hT
    exact q F' H' _ X' R' (da_tup.mpr ⟨t, _, rfl, hF, (d1.append d2).mono X'.sf⟩)
/-- a list that a slot or nobody else holds -/
def lstR (e : En) : Rv → Option (List PyData)
  | .l xs => some xs
  | .s i => match e[i]? with
    | some (some (.l xs)) => some xs
    | _ => none
  | _ => none
theorem lstR_at {σ : L2.St} {H0 F H : Hp} {e : En} {r : Rv} {v : V} (R : Rel K F H σ e) (h : RvAt K σ H0 F H e r v) {xs : List PyData} (q : lstR e r = some xs) : ∃ p vs, v = .ref p ∧ F p = none ∧ H p = some (.lst vs) ∧ DAs K F xs vs := by
  cases r with
  | d x => cases q
  | l ys =>
    cases q
    obtain ⟨l, vs, e1, h1, h2, h3, h4, _⟩ := h
    exact ⟨l, vs, e1, h2, h3, h4⟩
  | s i =>
    obtain ⟨h1, ys, h2⟩ := h
    simp only [lstR, h2] at q
    cases q
    obtain ⟨l, vs, e1, e2, e3, e4⟩ := R.own i _ h2
    rw [h1] at e1; cases e1
    exact ⟨l, vs, rfl, e2, e3, e4⟩
def gCatL : En → Rv → Rv → Option Rv := fun e x y => (lstR e x).bind fun xs => (lstR e y).bind fun ys => if xs.length + ys.length ≤ 1000000 then some (.l (xs ++ ys)) else none
theorem catL_f : OpF K rCat gCatL := by
  intro σ H0 F H e x y z v u Q R A B hg q
  unfold gCatL at hg
  obtain ⟨xs, h1, hg⟩ := Option.bind_eq_some_iff.mp hg
  obtain ⟨ys, h2, hg⟩ := Option.bind_eq_some_iff.mp hg
  split at hg
  case isFalse => cases hg
  case isTrue hl =>
  cases hg
  obtain ⟨p, vs, rfl, f1, s1, d1⟩ := lstR_at R A h1
  obtain ⟨p', us, rfl, f2, s2, d2⟩ := lstR_at R B h2
  have l1 := d1.len
  have l2 := d2.len
  have sl : sizeLine = 16777216 := sizeLine_eq
  refine ⟨p, p', vs, us, rfl, rfl, s1, s2, by omega, fun t ht => ?_⟩
  obtain ⟨R3, X3, hF, no⟩ := R.newL (vs := vs ++ us) ht
  exact q _ _ _ X3 R3 ⟨t, _, rfl, ht, hF, upd_same, d1.append d2, no⟩
def gAdd : En → Rv → Rv → Option Rv := gOr gAddI (gOr gCatT gCatL)
def rAdd3 (K : PySem.W.Frag) : R2 := fun x y H Q => rI0 (fun i j => .int (i + j)) x y H Q ∨ (rCatA K x y H Q ∨ rCat x y H Q)
theorem op_add3 : OpR X (binaryOp .Add) (rAdd3 X.K) := op_add.or (op_catA.or op_cat)
theorem add_f : OpF K (rAdd3 K) gAdd := OpF.or (opI0_f fun _ _ _ => da_int.mpr rfl) (OpF.or catT_f catL_f)
/-! ### times: a tuple of one part, a list -/
def gRepT : En → Rv → Rv → Option Rv := fun e x y => match seqR e x, intOf y with
  | some (false, [d]), some k => if 0 ≤ k ∧ k ≤ 100000 then some (.d (.tuple (List.replicate k.toNat d))) else none
  | _, _ => none
theorem DAs.rep {F : Hp} {d : PyData} {v : V} (h : DA K F d v) : ∀ n, DAs K F (List.replicate n d) (List.replicate n v)
  | 0 => DAs.nil
  | n + 1 => DAs.cons h (DAs.rep h n)
theorem repT_f : OpF K (rRepT K) gRepT := by
  intro σ H0 F H e x y z v u Q R A B hg q
  unfold gRepT at hg
  match h1 : seqR e x, h2 : intOf y, hg with
  | some (false, [d]), some k, hg =>
    obtain ⟨p, vs, rfl, d1, s1⟩ := seqR_at R A h1
    dsimp only at hg
    split at hg
    case isFalse => cases hg
    case isTrue hl =>
    cases hg
    have hd := d1
    simp only [DAs] at hd
    obtain ⟨w, r, e1, hw, e2⟩ := hd
    subst e2 e1
    refine ⟨p, k, w, rfl, intOf_at B h2, s1, hl.1, hl.2, fun t H' sm hT => ?_⟩
    obtain ⟨F', R', X', hF⟩ := R.growT sm hT
    exact q F' H' _ X' R' (da_tup.mpr ⟨t, _, rfl, hF, (DAs.rep hw _).mono X'.sf⟩)
def gRepL : En → Rv → Rv → Option Rv := fun e x y => (lstR e x).bind fun xs => (intOf y).bind fun k => if -100000 ≤ k ∧ k ≤ 100000 ∧ xs.length * k.toNat ≤ 1000000 then some (.l (List.replicate k.toNat xs).flatten) else none
theorem DAs.reps {F : Hp} {ds : List PyData} {vs : List V} (h : DAs K F ds vs) : ∀ n, DAs K F (List.replicate n ds).flatten (List.replicate n vs).flatten
  | 0 => DAs.nil
  | n + 1 => by simpa [List.replicate_succ] using DAs.append h (DAs.reps h n)
theorem repL_f : OpF K rRep gRepL := by
  intro σ H0 F H e x y z v u Q R A B hg q
  unfold gRepL at hg
  obtain ⟨xs, h1, hg⟩ := Option.bind_eq_some_iff.mp hg
  obtain ⟨k, h2, hg⟩ := Option.bind_eq_some_iff.mp hg
  split at hg
  case isFalse => cases hg
  case isTrue hl =>
  cases hg
  obtain ⟨p, vs, rfl, f1, s1, d1⟩ := lstR_at R A h1
  have l1 := d1.len
  have sl : sizeLine = 16777216 := sizeLine_eq
  refine ⟨p, k, vs, rfl, intOf_at B h2, s1, by omega, by omega, by rw [← l1]; omega, fun t ht => ?_⟩
  obtain ⟨R3, X3, hF, no⟩ := R.newL (vs := (List.replicate k.toNat vs).flatten) ht
  exact q _ _ _ X3 R3 ⟨t, _, rfl, ht, hF, upd_same, DAs.reps d1 _, no⟩
def gMul : En → Rv → Rv → Option Rv := gOr gMulI (gOr gRepT gRepL)
def rMul3 (K : PySem.W.Frag) : R2 := fun x y H Q => rI CMulA (fun i j => .int (i * j)) x y H Q ∨ (rRepT K x y H Q ∨ rRep x y H Q)
theorem op_mul3 : OpR X (binaryOp .Mult) (rMul3 X.K) := op_mulA.or (op_repT.or op_rep)
theorem mul_f : OpF K (rMul3 K) gMul := OpF.or mulI_f (OpF.or repT_f repL_f)
/-! ### comparisons -/
def gLt := gI (fun _ _ => true) fun i j => .bool (decide (i < j))
def gLe := gI (fun _ _ => true) fun i j => .bool (decide (i ≤ j))
def gGt := gI (fun _ _ => true) fun i j => .bool (decide (j < i))
def gGe := gI (fun _ _ => true) fun i j => .bool (decide (j ≤ i))
theorem lt_f : OpF K (rI0 fun i j => .bl (decide (i < j))) gLt := opI0_f fun _ _ _ => da_bool.mpr rfl
theorem le_f : OpF K (rI0 fun i j => .bl (decide (i ≤ j))) gLe := opI0_f fun _ _ _ => da_bool.mpr rfl
theorem gt_f : OpF K (rI0 fun i j => .bl (decide (j < i))) gGt := opI0_f fun _ _ _ => da_bool.mpr rfl
theorem ge_f : OpF K (rI0 fun i j => .bl (decide (j ≤ i))) gGe := opI0_f fun _ _ _ => da_bool.mpr rfl
/-- == of data -/
def rEqD (K : PySem.W.Frag) (neg : Bool) : R2 := fun x y H Q => ∃ a b, DA K H a x ∧ DA K H b y ∧ SeqAt.shaped a = true ∧ SeqAt.shaped b = true ∧ Q (.bl (if neg then !PyData.eqv a b else PyData.eqv a b)) H
theorem op_eqD {k : Nat} (hr : Room k X.A) : OpR X (compareOp .Eq) (rEqD X.K false) := by
  intro pins s σ H x y v u Q I rx ry h
  obtain ⟨a, b, ha, hb, s1, s2, q⟩ := h
  obtain ⟨as, ra⟩ := DA.reads I (SeqAt.canLay_of_shaped s1) ha rx
  obtain ⟨bs, rb⟩ := DA.reads I (SeqAt.canLay_of_shaped s2) hb ry
  exact SeqAt.compareEq_shaped ra rb s1 s2 hr.units ⟨.bl _, H, I, rfl, q⟩
theorem op_neD {k : Nat} (hr : Room k X.A) : OpR X (compareOp .NotEq) (rEqD X.K true) := by
  intro pins s σ H x y v u Q I rx ry h
  obtain ⟨a, b, ha, hb, s1, s2, q⟩ := h
  obtain ⟨as, ra⟩ := DA.reads I (SeqAt.canLay_of_shaped s1) ha rx
  obtain ⟨bs, rb⟩ := DA.reads I (SeqAt.canLay_of_shaped s2) hb ry
  exact SeqAt.compareNe_shaped ra rb s1 s2 hr.units ⟨.bl _, H, I, rfl, q⟩
def gEqD (neg : Bool) : En → Rv → Rv → Option Rv := fun e x y => (dataR e x).bind fun a => (dataR e y).bind fun b => if (SeqAt.shaped a && SeqAt.shaped b) = true then some (.d (.bool (if neg then !PyData.eqv a b else PyData.eqv a b))) else none
theorem eqD_f {neg : Bool} : OpF K (rEqD K neg) (gEqD neg) := by
  intro σ H0 F H e x y z v u Q R A B hg q
  unfold gEqD at hg
  obtain ⟨a, h1, hg⟩ := Option.bind_eq_some_iff.mp hg
  obtain ⟨b, h2, hg⟩ := Option.bind_eq_some_iff.mp hg
  split at hg
  case isFalse => cases hg
  case isTrue hl =>
  cases hg
  rw [Bool.and_eq_true] at hl
  exact ⟨a, b, dataR_at R A h1, dataR_at R B h2, hl.1, hl.2, q F H _ (Ext.refl _ _ _ _) R rv_bool⟩
/-- in, not in -/
def rInD (K : PySem.W.Frag) (neg : Bool) : R2 := fun x y H Q => ∃ a xs, DA K H a x ∧ (DA K H (.list xs) y ∨ DA K H (.tuple xs) y) ∧ a.canLay0 = true ∧ a.depth ≤ 60 ∧ PyData.canLayAll0 xs = true ∧ Q (.bl (if neg then !(xs.any fun y => PyData.eqv y a) else xs.any fun y => PyData.eqv y a)) H
theorem op_notInD {k : Nat} (hr : Room k X.A) : OpR X (compareOp .NotIn) (rInD X.K true) := by
  intro pins s σ H x y v u Q I rx ry h
  obtain ⟨a, xs, ha, hb, s1, s2, s3, q⟩ := h
  obtain ⟨as, ra⟩ := DA.reads I s1 ha rx
  have hu := hr.units
  rcases hb with hb | hb
  · obtain ⟨bs, rb⟩ := DA.reads I (by simpa [PyData.canLay0] using s3) hb ry
    exact PySem.SeqAt.notIn_list_reads rb ra s3 s1 (by omega) ⟨.bl _, H, I, rfl, q⟩
  · obtain ⟨bs, rb⟩ := DA.reads I (by simpa [PyData.canLay0] using s3) hb ry
    exact PySem.SeqAt.notIn_tuple_reads rb ra s3 s1 (by omega) ⟨.bl _, H, I, rfl, q⟩
def gIn (neg : Bool) : En → Rv → Rv → Option Rv := fun e x y => (dataR e x).bind fun a => (seqR e y).bind fun p => if (a.canLay0 && decide (a.depth ≤ 60) && PyData.canLayAll0 p.2) = true then some (.d (.bool (if neg then !(p.2.any fun y => PyData.eqv y a) else p.2.any fun y => PyData.eqv y a))) else none
theorem in_f {neg : Bool} : OpF K (rInD K neg) (gIn neg) := by
  intro σ H0 F H e x y z v u Q R A B hg q
  unfold gIn at hg
  obtain ⟨a, h1, hg⟩ := Option.bind_eq_some_iff.mp hg
  obtain ⟨⟨b, xs⟩, h2, hg⟩ := Option.bind_eq_some_iff.mp hg
  split at hg
  case isFalse => cases hg
  case isTrue hl =>
  cases hg
  rw [Bool.and_eq_true, Bool.and_eq_true, decide_eq_true_iff] at hl
  obtain ⟨p, vs, rfl, d1, s1⟩ := seqR_at R B h2
  refine ⟨a, xs, dataR_at R A h1, ?_, hl.1.1, hl.1.2, hl.2, q F H _ (Ext.refl _ _ _ _) R rv_bool⟩
  cases b with
  | true => exact .inl (da_lst.mpr ⟨p, vs, rfl, s1, d1.mono R.sm⟩)
  | false => exact .inr (da_tup.mpr ⟨p, vs, rfl, s1, d1.mono R.sm⟩)
/-- is None, is True, is False, and not -/
def isNoneD : PyData → Bool
  | .none => true
  | _ => false
theorem da_isNone {F : Hp} {d : PyData} {v : V} (h : DA K F d v) : decide (v = .non) = isNoneD d := by
  cases d with
  | none => rw [da_none.mp h]; rfl
  | bool b => rw [da_bool.mp h]; rfl
  | int b => rw [da_int.mp h]; rfl
  | str b => rw [da_str.mp h]; rfl
  | tuple b => obtain ⟨a, _, e, _⟩ := da_tup.mp h; rw [e]; rfl
  | list b => obtain ⟨a, _, e, _⟩ := da_lst.mp h; rw [e]; rfl
  | dict b => simp only [DA] at h; obtain ⟨a, m, rfl, _⟩ := h; rfl
def gIsN (neg : Bool) : En → Rv → Rv → Option Rv := fun e x y => (dataR e x).bind fun a => match y with
  | .d .none => some (.d (.bool (if neg then !isNoneD a else isNoneD a)))
  | _ => none
def gIsB (neg : Bool) : En → Rv → Rv → Option Rv := fun e x y => (boolOf x).bind fun a => (boolOf y).bind fun b => some (.d (.bool (if neg then !(a == b) else a == b)))
theorem notN_f : OpF K (fun x y H Q => y = .non ∧ Q (.bl (!decide (x = .non))) H) (gIsN true) := by
  intro σ H0 F H e x y z v u Q R A B hg q
  unfold gIsN at hg
  obtain ⟨a, h1, hg⟩ := Option.bind_eq_some_iff.mp hg
  split at hg
  · cases hg
    refine ⟨da_none.mp (show DA K F .none u from B), ?_⟩
    rw [da_isNone (dataR_at R A h1)]
    exact q F H _ (Ext.refl _ _ _ _) R rv_bool
  · cases hg
theorem isNotB_f : OpF K (fun x y H Q => ∃ b c, x = .bl b ∧ y = .bl c ∧ Q (.bl (!(b == c))) H) (gIsB true) := by
  intro σ H0 F H e x y z v u Q R A B hg q
  unfold gIsB at hg
  obtain ⟨a, h1, hg⟩ := Option.bind_eq_some_iff.mp hg
  obtain ⟨b, h2, hg⟩ := Option.bind_eq_some_iff.mp hg
  cases hg
  exact ⟨a, b, boolOf_at A h1, boolOf_at B h2, q F H _ (Ext.refl _ _ _ _) R rv_bool⟩
def gIsNot : En → Rv → Rv → Option Rv := gOr (gIsN true) (gIsB true)
def rIsNot2 : R2 := fun x y H Q => (y = .non ∧ Q (.bl (!decide (x = .non))) H) ∨ ∃ b c, x = .bl b ∧ y = .bl c ∧ Q (.bl (!(b == c))) H
theorem op_isNot2 : OpR X (compareOp .IsNot) rIsNot2 := op_notN.or op_isNotB
theorem isNot_f : OpF K rIsNot2 gIsNot := OpF.or notN_f isNotB_f
/-! ### an index -/
def gIx : En → Rv → Rv → Option Rv := fun e x y => (seqR e x).bind fun p => (intOf y).bind fun i => (atI p.2 i).map .d
def rIx2 (K : PySem.W.Frag) : R2 := fun x y H Q => rIxL K x y H Q ∨ rIxT K x y H Q
theorem ix_2 : IxR X (rIx2 X.K) := ix_list.or ix_tup
theorem DAs.atI {F : Hp} {ds : List PyData} {vs : List V} (h : DAs K F ds vs) {i : Int} {d : PyData} (q : atI ds i = some d) : ∃ v, L2.atI vs i = some v ∧ DA K F d v := by
  unfold L2.atI at q ⊢
  obtain ⟨j, h1, h2⟩ := Option.bind_eq_some_iff.mp q
  obtain ⟨v, h3, h4⟩ := h.get h2
  exact ⟨v, by rw [← h.len, h1]; exact h3, h4⟩
theorem ix_f : OpF K (rIx2 K) gIx := by
  intro σ H0 F H e x y z v u Q R A B hg q
  unfold gIx at hg
  obtain ⟨⟨b, xs⟩, h1, hg⟩ := Option.bind_eq_some_iff.mp hg
  obtain ⟨i, h2, hg⟩ := Option.bind_eq_some_iff.mp hg
  obtain ⟨d, h3, hg⟩ := Option.map_eq_some_iff.mp hg
  cases hg
  obtain ⟨p, vs, rfl, d1, s1⟩ := seqR_at R A h1
  obtain ⟨w, h4, h5⟩ := d1.atI h3
  have fin := q F H w (Ext.refl _ _ _ _) R h5
  cases b with
  | true => exact .inl ⟨p, vs, i, w, rfl, intOf_at B h2, s1, h4, fin⟩
  | false => exact .inr ⟨p, vs, i, w, rfl, intOf_at B h2, s1, h4, fin⟩
end
end L2

set_option Elab.async false
set_option linter.all false
set_option maxRecDepth 100000
set_option maxHeartbeats 4000000
namespace HT
open PySem PySem.Spec PyProof.Rows
section
variable {prog : Program} {w : World} {A : Around} {E : Value → Shared → Prop} {s : Shared}
theorem getItem_tuple_all {t sl : Addr} {items : Array Value} {vl vu : Value} {lo hi : Option Int} {Q : Value → Shared → Prop} (ht : IsTup s.heap t items) (hs : s.heap.IsSliceOf sl vl vu .none) (pl : IsPart vl lo) (pu : IsPart vu hi)
    (hw : sIx items.size 0 lo = 0 ∧ sIx items.size items.size hi = items.size)
    (h : Q (.ref t) s) : wpAny (model prog w) A (getItem (.ref t) (.ref sl)) Q E s := by
  obtain ⟨os, hos, hcs, hds⟩ := id hs
  have hTs : s.TypeIs (.ref sl) "slice" := ⟨os, hos, hcs⟩
  unfold getItem
  try with_reducible refine wpAny_holding ?_
  first | refine wpAny_bind (wpAny_pure ?_) | skip
  refine wpAny_bind (wpAny_sequenceKey ht.typeIs (by decide) ?_)
  refine wpAny_bind (wpAny_callSpecial?_slot (name := Str.ofString "__getitem__") ht.typeIs PyProof.Rows.slot_tuple_getitem
    (wpAny_call_entry PyProof.Rows.slot_tuple_getitem ht.typeIs entry_tuple_getitem ?_ (args_tuple_getitem _ _)))
  show wpAny _ _ (Builtin.Tuple.tupleItemsOf (.ref t) >>= _) _ _ s
  refine wpAny_bind (tupleItemsOf_ ht ?_)
  refine wpAny_bind (wpAny_typeOf hTs ?_)
  rw [if_pos (by decide)]
  refine wpAny_bind (sliceApplied_gen hs pl pu ?_)
  have hno : (((sIx items.size 0 lo : Nat) : Int) == 0 && (1 : Int) == 1 && (sIx items.size items.size hi - sIx items.size 0 lo) == items.size) = true := by
    rw [hw.1, hw.2]; simp
  show wpAny _ _ (if (((sIx items.size 0 lo : Nat) : Int) == 0 && (1 : Int) == 1 && (sIx items.size items.size hi - sIx items.size 0 lo) == items.size) = true then _ else _) _ _ s
  rw [if_pos hno]
  unfold Builtin.Tuple.tupleIsExact
  refine wpAny_bind (wpAny_bind (wpAny_typeOf ht.typeIs (wpAny_pure ?_)))
  rw [if_pos (by decide)]
  exact wpAny_bind (wpAny_rule (wpAny_pure ⟨_, rfl, wpAny_pure h⟩))
end
end HT
namespace L2
open PySem PySem.Spec PyProof.Rows
section
variable {X : Cx} {K : PySem.W.Frag} {a : Expr} {fa : FE} {lo hi : Option Expr} {pos p2 : Pos}
/-! ### slices -/
def cutD (xs : List PyData) (lo hi : Option Int) : List PyData := (xs.drop (HT.sIx xs.length 0 lo)).take (HT.sIx xs.length xs.length hi - HT.sIx xs.length 0 lo)
def rSlW (K : PySem.W.Frag) : V → Option Int → Option Int → Hp → VK → Prop := fun x lo hi H Q => ∃ a xs, x = .ref a ∧ SqT K H a xs ∧
  (HT.sIx xs.length 0 lo = 0 ∧ HT.sIx xs.length xs.length hi = xs.length) ∧ Q (.ref a) H
theorem sl_tupW : SlR X (rSlW X.K) := by
  intro pins s σ H x v vl vu lo hi sl Q I rx hs pl pu h
  obtain ⟨a, xs, rfl, hx, hw, q⟩ := h
  cases rx
  obtain ⟨its, r, ht, hz⟩ := I.tuple hx
  have hlen : its.toArray.size = xs.length := by rw [List.size_toArray]; exact r.length.symm
  refine ⟨"tuple", _, PyProof.Rows.slot_tuple_getitem.lookup, ht.typeIs, ?_⟩
  exact HT.getItem_tuple_all ht hs pl pu (by rw [hlen]; exact hw) ⟨.ref a, H, I, rfl, q⟩
def rSl3 (K : PySem.W.Frag) : V → Option Int → Option Int → Hp → VK → Prop := fun x lo hi H Q => rSlT K x lo hi H Q ∨ (rSlW K x lo hi H Q ∨ rSlL K x lo hi H Q)
theorem sl_3 : SlR X (rSl3 X.K) := sl_tup.or (sl_tupW.or sl_list)
abbrev FO := En → Option (Option Int × En)
def fO (K : PySem.W.Frag) (f : FO) : TO := fun σ H Q => ∃ F e o e', Rel K F H σ e ∧ f e = some (o, e') ∧ ∀ F' H', Ext σ F H e F' H' e' → Rel K F' H' σ e' → Q o H'
theorem PO.mono {e : Option Expr} {t t' : TO} (h : PO X e t) (m : ∀ σ H Q, t' σ H Q → t σ H Q) : PO X e t' := fun pins s σ H Q I q => h pins s σ H Q I (m σ H Q q)
def oNone : FO := fun e => some (none, e)
def oSome (f : FE) : FO := fun e => (f e).bind fun p => (intOf p.1).map fun i => (some i, p.2)
theorem qo_none : PO X none (fO K oNone) := po_none.mono fun σ H Q h => by
  obtain ⟨F, e, o, e', R, hf, q⟩ := h
  cases hf
  exact q F H (Ext.refl _ _ _ _) R
theorem qo_some (h : PE X a (fE K fa)) : PO X (some a) (fO K (oSome fa)) := (po_some h).mono fun σ H Q h => by
  obtain ⟨F, e, o, e', R, hf, q⟩ := h
  unfold oSome at hf
  obtain ⟨⟨x, e1⟩, h1, hf⟩ := Option.bind_eq_some_iff.mp hf
  obtain ⟨i, h2, hf⟩ := Option.map_eq_some_iff.mp hf
  cases hf
  exact ⟨F, e, x, _, R, h1, fun F1 H1 v X1 R1 A1 => ⟨i, intOf_at A1 h2, q F1 H1 X1 R1⟩⟩
def gSl (e : En) (x : Rv) (lo hi : Option Int) : Option Rv := (seqR e x).map fun p => if p.1 = true then .l (cutD p.2 lo hi) else .d (.tuple (cutD p.2 lo hi))
def vSl (fa : FE) (fl fh : FO) : FE := fun e => (fa e).bind fun p => (fl p.2).bind fun l => (fh l.2).bind fun h => (gSl h.2 p.1 l.1 h.1).map fun z => (z, h.2)
theorem cut_at {F : Hp} {ds : List PyData} {vs : List V} (h : DAs K F ds vs) (lo hi : Option Int) : DAs K F (cutD ds lo hi) (cutV vs lo hi) := by
  unfold cutD cutV
  rw [h.len]
  exact (h.drop _).take _
theorem cut_all {α : Type} {xs : List α} {lo hi : Option Int} (h : HT.sIx xs.length 0 lo = 0 ∧ HT.sIx xs.length xs.length hi = xs.length) : (xs.drop (HT.sIx xs.length 0 lo)).take (HT.sIx xs.length xs.length hi - HT.sIx xs.length 0 lo) = xs := by
  rw [h.1, h.2]; simp
theorem qe_slice {fl fh : FO} (he : PE X a (fE X.K fa)) (hl : PO X lo (fO X.K fl)) (hh : PO X hi (fO X.K fh)) : PE X (.Subscript a (.Slice lo hi none p2) pos) (fE X.K (vSl fa fl fh)) := (pe_slice sl_3 he hl hh).mono fun σ H Q h => by
  obtain ⟨F, e, z, e', R, hf, q⟩ := h
  unfold vSl at hf
  obtain ⟨⟨x, e1⟩, h1, hf⟩ := Option.bind_eq_some_iff.mp hf
  obtain ⟨⟨l, e2⟩, h2, hf⟩ := Option.bind_eq_some_iff.mp hf
  obtain ⟨⟨u, e3⟩, h3, hf⟩ := Option.bind_eq_some_iff.mp hf
  obtain ⟨z', h4, hf⟩ := Option.map_eq_some_iff.mp hf
  cases hf
  refine ⟨F, e, x, e1, R, h1, fun F1 H1 v X1 R1 A1 => ⟨F1, e1, l, e2, R1, h2, fun F2 H2 X2 R2 => ⟨F2, e2, u, _, R2, h3, fun F3 H3 X3 R3 => ?_⟩⟩⟩
  have X12 := X1.trans X2
  have X13 := X12.trans X3
  have A3 := (A1.ext X2).ext X3
  unfold gSl at h4
  obtain ⟨⟨b, xs⟩, h5, h4⟩ := Option.map_eq_some_iff.mp h4
  obtain ⟨p, vs, rfl, d1, s1⟩ := seqR_at R3 A3 h5
  cases b with
  | true =>
    rw [if_pos rfl] at h4; cases h4
    refine .inr (.inr ⟨p, vs, rfl, s1, fun t ht => ?_⟩)
    obtain ⟨R4, X4, hF, no⟩ := R3.newL (vs := cutV vs l u) ht
    exact q _ _ _ (X13.trans X4) R4 ⟨t, _, rfl, X13.dom _ ht, hF, upd_same, cut_at d1 l u, no⟩
  | false =>
    rw [if_neg (by simp)] at h4; cases h4
    by_cases hw : HT.sIx vs.length 0 l = 0 ∧ HT.sIx vs.length vs.length u = vs.length
    · refine .inr (.inl ⟨p, vs, rfl, s1, hw, ?_⟩)
      have e5 : cutD xs l u = xs := by unfold cutD; exact cut_all (by rw [d1.len]; exact hw)
      rw [e5] at q
      obtain ⟨F4, R4, X4, hF⟩ := R3.growT (Same.refl _) s1
      exact q _ _ _ (X13.trans X4) R4 (da_tup.mpr ⟨p, vs, rfl, hF, d1.mono X4.sf⟩)
    · refine .inl ⟨p, vs, rfl, s1, hw, fun t ht => ?_⟩
      obtain ⟨R4, X4⟩ := R3.newT (vs := cutV vs l u) ht
      exact q _ _ _ (X13.trans X4) R4 (da_tup.mpr ⟨t, _, rfl, .inl (.inl upd_same), (cut_at d1 l u).mono X4.sf⟩)
end
/-! ### builtins -/
section
variable {X : Cx} {K : PySem.W.Frag}
theorem rvs_one {σ : L2.St} {H0 F H : Hp} {e : En} {x : Rv} {vs : List V} (h : RvsAt K σ H0 F H e [x] vs) : ∃ v, vs = [v] ∧ RvAt K σ H0 F H e x v := by
  obtain ⟨v, ws, rfl, h1, h2⟩ := h
  have h2' : ws = [] := h2
  subst h2'
  exact ⟨v, rfl, h1⟩
theorem rvs_two {σ : L2.St} {H0 F H : Hp} {e : En} {x y : Rv} {vs : List V} (h : RvsAt K σ H0 F H e [x, y] vs) : ∃ v u, vs = [v, u] ∧ RvAt K σ H0 F H e x v ∧ RvAt K σ H0 F H e y u := by
  obtain ⟨v, ws, rfl, h1, h2⟩ := h
  obtain ⟨u, rfl, h3⟩ := rvs_one h2
  exact ⟨v, u, rfl, h1, h3⟩
def g1 (g : En → Rv → Option Rv) : En → List Rv → Option Rv := fun e xs => match xs with
  | [x] => g e x
  | _ => none
def g2 (g : En → Rv → Rv → Option Rv) : En → List Rv → Option Rv := fun e xs => match xs with
  | [x, y] => g e x y
  | _ => none
theorem call1_f {r : List V → Hp → VK → Prop} {g : En → Rv → Option Rv} (h : UnF K (fun v H Q => r [v] H Q) g) : CallF K r (g1 g) := by
  intro σ H0 F H e xs z vs Q R A hg q
  unfold g1 at hg
  match xs, hg with
  | [x], hg =>
    obtain ⟨v, rfl, h1⟩ := rvs_one A
    exact h σ H0 F H e x z v Q R h1 hg q
theorem call2_f {r : List V → Hp → VK → Prop} {g : En → Rv → Rv → Option Rv} (h : OpF K (fun v u H Q => r [v, u] H Q) g) : CallF K r (g2 g) := by
  intro σ H0 F H e xs z vs Q R A hg q
  unfold g2 at hg
  match xs, hg with
  | [x, y], hg =>
    obtain ⟨v, u, rfl, h1, h2⟩ := rvs_two A
    exact h σ H0 F H e x y z v u Q R h1 h2 hg q
def gLen : En → Rv → Option Rv := fun e x => (seqR e x).map fun p => .d (.int p.2.length)
theorem len_f : CallF K (fun xs H Q => ∃ p ys, xs = [.ref p] ∧ (SqL K H p ys ∨ SqT K H p ys) ∧ Q (.int ys.length) H) (g1 gLen) := call1_f fun σ H0 F H e x z v Q R A hg q => by
  obtain ⟨⟨b, xs⟩, h5, h4⟩ := Option.map_eq_some_iff.mp hg
  obtain ⟨p, vs, rfl, d1, s1⟩ := seqR_at R A h5
  cases h4
  refine ⟨p, vs, rfl, ?_, ?_⟩
  · cases b with
    | true => exact .inl s1
    | false => exact .inr s1
  · rw [← d1.len]
    exact q F H _ (Ext.refl _ _ _ _) R rv_int
def gAbs : En → Rv → Option Rv := fun _ x => (intOf x).map fun i => .d (.int (if i < 0 then -i else i))
theorem abs_f : CallF K (fun xs H Q => ∃ i, xs = [.int i] ∧ Q (.int (if i < 0 then -i else i)) H) (g1 gAbs) := call1_f fun σ H0 F H e x z v Q R A hg q => by
  obtain ⟨i, h5, h4⟩ := Option.map_eq_some_iff.mp hg
  cases h4
  exact ⟨i, by rw [intOf_at A h5], q F H _ (Ext.refl _ _ _ _) R rv_int⟩
def gInt : En → Rv → Option Rv := fun _ x => match x with
  | .d (.int i) => some (.d (.int i))
  | .d (.bool k) => some (.d (.int (if k then 1 else 0)))
  | _ => none
theorem int_f : CallF K (fun xs H Q => (∃ i, xs = [.int i] ∧ Q (.int i) H) ∨ ∃ k, xs = [.bl k] ∧ Q (.int (if k then 1 else 0)) H) (g1 gInt) := call1_f fun σ H0 F H e x z v Q R A hg q => by
  unfold gInt at hg
  split at hg
  · cases hg
    exact .inl ⟨_, by rw [da_int.mp (show DA K F (.int _) v from A)], q F H _ (Ext.refl _ _ _ _) R rv_int⟩
  · cases hg
    exact .inr ⟨_, by rw [da_bool.mp (show DA K F (.bool _) v from A)], q F H _ (Ext.refl _ _ _ _) R rv_int⟩
  · cases hg
def gMin := gI (fun _ _ => true) fun i j => .int (if j < i then j else i)
def gMax := gI (fun _ _ => true) fun i j => .int (if j > i then j else i)
theorem min_f : CallF K (fun xs H Q => ∃ i j, xs = [.int i, .int j] ∧ Q (.int (if j < i then j else i)) H) (g2 gMin) := call2_f fun σ H0 F H e x y z v u Q R A B hg q => by
  obtain ⟨i, j, h1, h2, h3⟩ := opI0_f (K := K) (g := fun i j => .int (if j < i then j else i)) (fun _ _ _ => da_int.mpr rfl) σ H0 F H e x y z v u Q R A B hg q
  exact ⟨i, j, by rw [h1, h2], h3⟩
theorem max_f : CallF K (fun xs H Q => ∃ i j, xs = [.int i, .int j] ∧ Q (.int (if j > i then j else i)) H) (g2 gMax) := call2_f fun σ H0 F H e x y z v u Q R A B hg q => by
  obtain ⟨i, j, h1, h2, h3⟩ := opI0_f (K := K) (g := fun i j => .int (if j > i then j else i)) (fun _ _ _ => da_int.mpr rfl) σ H0 F H e x y z v u Q R A B hg q
  exact ⟨i, j, by rw [h1, h2], h3⟩
def gTuple : En → Rv → Option Rv := fun e x => (seqR e x).map fun p => .d (.tuple p.2)
theorem tuple_f : CallF K (fun xs H Q => ∃ p ys, xs = [.ref p] ∧ ((SqL K H p ys ∧ ∀ l, H l = none → Q (.ref l) (upd H l (.tup ys))) ∨ (SqT K H p ys ∧ Q (.ref p) H))) (g1 gTuple) := call1_f fun σ H0 F H e x z v Q R A hg q => by
  obtain ⟨⟨b, xs⟩, h5, h4⟩ := Option.map_eq_some_iff.mp hg
  obtain ⟨p, vs, rfl, d1, s1⟩ := seqR_at R A h5
  cases h4
  refine ⟨p, vs, rfl, ?_⟩
  cases b with
  | true =>
    refine .inl ⟨s1, fun t ht => ?_⟩
    obtain ⟨R4, X4⟩ := R.newT (vs := vs) ht
    exact q _ _ _ X4 R4 (da_tup.mpr ⟨t, _, rfl, .inl (.inl upd_same), d1.mono X4.sf⟩)
  | false =>
    obtain ⟨F4, R4, X4, hF⟩ := R.growT (Same.refl _) s1
    exact .inr ⟨s1, q _ _ _ X4 R4 (da_tup.mpr ⟨p, vs, rfl, hF, d1.mono X4.sf⟩)⟩
def boolsD : List PyData → Option (List Bool)
  | [] => some []
  | .bool i :: r => (boolsD r).map (i :: ·)
  | _ => none
theorem boolsD_is : ∀ {ds : List PyData} {ns : List Bool}, boolsD ds = some ns → ds = ns.map .bool
  | [], _, h => by cases h; rfl
  | .bool i :: r, _, h => by
    obtain ⟨ns, h1, rfl⟩ := Option.map_eq_some_iff.mp h
    rw [boolsD_is h1]; rfl
/-- of lists alone -/
def gSeqL (g : List PyData → Option PyData) : En → Rv → Option Rv := fun e x => match seqR e x with
  | some (true, xs) => (g xs).map .d
  | _ => none
theorem seqL_f {r : List V → Hp → VK → Prop} {g : List PyData → Option PyData} (h : ∀ (F H : Hp) (p : Addr) (xs : List PyData) (vs : List V) (d : PyData) (Q : VK), DAs K F xs vs → SqL K H p vs → g xs = some d → (∀ v, (∀ F, DA K F d v) → Q v H) → r [.ref p] H Q) : CallF K r (g1 (gSeqL g)) := call1_f fun σ H0 F H e x z v Q R A hg q => by
  unfold gSeqL at hg
  split at hg
  case h_2 => cases hg
  case h_1 xs h5 =>
  obtain ⟨p, vs, rfl, d1, s1⟩ := seqR_at R A h5
  obtain ⟨d, h6, hg⟩ := Option.map_eq_some_iff.mp hg
  cases hg
  exact h F H p xs vs d Q d1 s1 h6 fun v hv => q F H v (Ext.refl _ _ _ _) R (hv F)
def gAllD : List PyData → Option PyData := fun xs => (boolsD xs).map fun ns => .bool (ns.all id)
theorem all_f : CallF K (fun xs H Q => ∃ (l : Addr) (bs : List Bool), xs = [.ref l] ∧ SqL K H l (bs.map V.bl) ∧ Q (.bl (bs.all id)) H) (g1 (gSeqL gAllD)) := seqL_f fun F H p xs vs d Q d1 s1 hg q => by
  obtain ⟨ns, h1, h2⟩ := Option.map_eq_some_iff.mp hg
  cases h2
  rw [boolsD_is h1] at d1
  rw [DAs.bools.mp d1] at s1
  exact ⟨p, ns, rfl, s1, q _ fun _ => da_bool.mpr rfl⟩
/-! repr of data without lists -/
mutual
def flatD : PyData → Bool
  | .tuple ds => flatAll ds
  | .list _ => false
  | .dict _ => false
  | _ => true
def flatAll : List PyData → Bool
  | [] => true
  | d :: r => flatD d && flatAll r
end
mutual
theorem DA.at {F : Hp} : ∀ {d : PyData} {v : V}, flatD d = true → DA K F d v → At K F d v
  | .none, _, _, q => by simp only [DA, At] at q ⊢; exact q
  | .bool b, _, _, q => by simp only [DA, At] at q ⊢; exact q
  | .int i, _, _, q => by simp only [DA, At] at q ⊢; exact q
  | .str x, _, _, q => by simp only [DA, At] at q ⊢; exact q
  | .tuple ds, _, h, q => by
    simp only [DA, At] at q ⊢
    obtain ⟨a, xs, e, s, r⟩ := q
    exact ⟨a, xs, e, s, DAs.at (by simpa [flatD] using h) r⟩
  | .list ds, _, h, q => by simp [flatD] at h
  | .dict _, _, h, q => by simp [flatD] at h
theorem DAs.at {F : Hp} : ∀ {ds : List PyData} {xs : List V}, flatAll ds = true → DAs K F ds xs → AtAll K F ds xs
  | [], _, _, q => by simp only [DAs, AtAll] at q ⊢; exact q
  | d :: ds, _, h, q => by
    simp only [flatAll, Bool.and_eq_true] at h
    simp only [DAs, AtAll] at q ⊢
    obtain ⟨x, r, e, a, b⟩ := q
    exact ⟨x, r, e, DA.at h.1 a, DAs.at h.2 b⟩
end
mutual
theorem At.da {F : Hp} : ∀ {d : PyData} {v : V}, At K F d v → DA K F d v
  | .none, _, q => by simp only [DA, At] at q ⊢; exact q
  | .bool b, _, q => by simp only [DA, At] at q ⊢; exact q
  | .int i, _, q => by simp only [DA, At] at q ⊢; exact q
  | .str x, _, q => by simp only [DA, At] at q ⊢; exact q
  | .tuple ds, _, q => by
    simp only [DA, At] at q ⊢
    obtain ⟨a, xs, e, s, r⟩ := q
    exact ⟨a, xs, e, s, AtAll.das r⟩
  | .list ds, _, q => by simp only [At] at q
  | .dict _, _, q => by simp only [At] at q
theorem AtAll.das {F : Hp} : ∀ {ds : List PyData} {xs : List V}, AtAll K F ds xs → DAs K F ds xs
  | [], _, q => by simp only [DAs, AtAll] at q ⊢; exact q
  | d :: ds, _, q => by
    simp only [DAs, AtAll] at q ⊢
    obtain ⟨x, r, e, a, b⟩ := q
    exact ⟨x, r, e, At.da a, AtAll.das b⟩
end
/-! repr of other data -/
mutual
def noLst1 : PyData → Bool
  | .list _ => false
  | .tuple ds => noLstAll ds
  | _ => true
def noLstAll : List PyData → Bool
  | [] => true
  | d :: r => noLst1 d && noLstAll r
end
theorem reads_ints {h : Heap} : ∀ {m : List (Int × Int)} {es : List DictEntry} {vs : List (Key × Value)} {P : Program} {w : World}, KV (m.map fun p => ((Sum.inl p.1 : Key), V.int p.2)) vs → Pairs (mixKind P w) es vs →
    ReadsAll h (es.map (·.key)) (m.map fun p => PyData.int p.1) [] ∧ ReadsAll h (es.map (·.val)) (m.map fun p => PyData.int p.2) []
  | [], es, vs, P, w, r, q => by
    cases r
    cases q
    exact ⟨.nil, .nil⟩
  | p :: m, es, vs, P, w, r, q => by
    rw [List.map_cons] at r
    cases r with
    | @cons a b as bs h1 t =>
      cases q with
      | @cons e kv es' kvs' h2 h3 h4 =>
        obtain ⟨z1, z2⟩ := h1
        obtain ⟨c1, c2⟩ := reads_ints t h4
        obtain ⟨tk, z2⟩ := z2
        have k1 : keyIs (Sum.inl p.1) e.key = true := by
          have : b.1 = Sum.inl p.1 := z1.symm
          rw [← this]; exact h2
        rcases keyIs_shape k1 with ⟨i, t', e1, e2⟩ | ⟨x, t', e1, e2⟩
        · cases e1
          refine ⟨?_, ?_⟩
          · simp only [List.map_cons, e2]
            exact ReadsAll.cons (as := []) (bs := []) (.int p.1 t') c1
          · simp only [List.map_cons, h3, z2]
            exact ReadsAll.cons (as := []) (bs := []) (.int p.2 tk) c2
        · cases e1
mutual
theorem DA.readsR {X : Cx} {pins : List (Addr × Obj)} {σ : L2.St} {H : Hp} {s : Shared} (I : Inv X pins σ H s) : ∀ {d : PyData} {v : V} {u : Value}, DA X.K H d v → RelV v u → ∃ as, Reads s.heap u d as ∧ (noLst1 d = true → sysModules ∉ as)
  | .none, _, _, q, r => by
    simp only [DA] at q; subst q; cases r; exact ⟨_, .none, fun _ => by simp⟩
  | .bool b, _, _, q, r => by
    simp only [DA] at q; subst q; cases r; exact ⟨_, .bool b, fun _ => by simp⟩
  | .int i, _, _, q, r => by
    simp only [DA] at q; subst q; obtain ⟨t, rfl⟩ := r; exact ⟨_, .int i t, fun _ => by simp⟩
  | .str x, _, _, q, r => by
    simp only [DA] at q; subst q; obtain ⟨t, rfl⟩ := r; exact ⟨_, .str x t, fun _ => by simp⟩
  | .tuple ds, _, _, q, r => by
    simp only [DA] at q
    obtain ⟨a, xs, e, hs, rr⟩ := q
    subst e; cases r
    obtain ⟨its, rv, ⟨o, ho, hc, n, hd⟩, hz⟩ := I.tuple hs
    obtain ⟨as, q, z⟩ := DAs.readsR I rr rv
    exact ⟨_, .tuple ho hc hd q, fun c => z (by simpa [noLst1] using c)⟩
  | .list ds, _, _, q, r => by
    simp only [DA] at q
    obtain ⟨a, xs, e, hs, rr⟩ := q
    subst e; cases r
    obtain ⟨its, rv, ht, hz⟩ := I.list hs
    obtain ⟨o, ho, hc, n, hd⟩ := ht.isList
    obtain ⟨as, q, z⟩ := DAs.readsR I rr rv
    exact ⟨_, .list ho hc hd q, fun c => by simp [noLst1] at c⟩
  | .dict kvs, _, _, q, r => by
    simp only [DA] at q
    obtain ⟨a, m, e, hs, rfl⟩ := q
    subst e; cases r
    obtain ⟨_, hS, vs, kv, o, es, ep, ho, hx, hd, _, hp, _⟩ := (show ObjOk X.prog X.w H s.heap a (.dK (m.map fun p => (Sum.inl p.1, V.int p.2))) from I.hok a _ hs)
    obtain ⟨c1, c2⟩ := reads_ints (h := s.heap) kv hp
    refine ⟨_, Reads.dict (as := []) (bs := []) ho hx.1 hd ?_ ?_, fun _ => ?_⟩
    · rw [List.map_map]; exact c1
    · rw [List.map_map]; exact c2
    · have : a ≠ sysModules := by simpa using hS
      simpa using this.symm
theorem DAs.readsR {X : Cx} {pins : List (Addr × Obj)} {σ : L2.St} {H : Hp} {s : Shared} (I : Inv X pins σ H s) : ∀ {ds : List PyData} {xs : List V} {us : List Value}, DAs X.K H ds xs → Vals xs us → ∃ as, ReadsAll s.heap us ds as ∧ (noLstAll ds = true → sysModules ∉ as)
  | [], _, _, q, r => by
    simp only [DAs] at q; subst q; cases r; exact ⟨_, .nil, fun _ => by simp⟩
  | d :: ds, _, _, q, r => by
    simp only [DAs] at q
    obtain ⟨x, rr, e, a, b⟩ := q
    subst e
    cases r with
    | cons p p' =>
      obtain ⟨as, q1, z1⟩ := DA.readsR I a p
      obtain ⟨bs, q2, z2⟩ := DAs.readsR I b p'
      refine ⟨_, .cons q1 q2, fun c => ?_⟩
      simp only [noLstAll, Bool.and_eq_true] at c
      intro z
      rcases List.mem_append.mp z with z | z
      · exact z1 c.1 z
      · exact z2 c.2 z
end
/-- short enough to be shown -/
def shownOk (d : PyData) : Bool := (flatD d || (!d.hasDict || noLst1 d)) && d.showable && decide (d.depth ≤ 60) && decide (d.shown.length ≤ sizeLine)
def gRepr : En → Rv → Option Rv := fun _ x => match x with
  | .d d => if shownOk d = true then some (.d (.str d.shown)) else none
  | _ => none
def rRepr2 (K : PySem.W.Frag) : List V → Hp → VK → Prop := fun xs H Q => ∃ x d, xs = [x] ∧ DA K H d x ∧ (d.hasDict = true → noLst1 d = true) ∧ d.showable = true ∧ d.depth ≤ 60 ∧ d.shown.length ≤ sizeLine ∧ Q (.str d.shown) H
mutual
theorem flat_noDict : ∀ (d : PyData), flatD d = true → d.hasDict = false
  | .none, _ => rfl
  | .bool _, _ => rfl
  | .int _, _ => rfl
  | .str _, _ => rfl
  | .tuple ds, h => by simp only [PyData.hasDict]; exact flat_noDicts ds (by simpa [flatD] using h)
  | .list ds, h => by simp [flatD] at h
  | .dict _, h => by simp [flatD] at h
theorem flat_noDicts : ∀ (ds : List PyData), flatAll ds = true → PyData.hasDictAll ds = false
  | [], _ => rfl
  | d :: r, h => by
    simp only [flatAll, Bool.and_eq_true] at h
    simp only [PyData.hasDictAll, flat_noDict d h.1, flat_noDicts r h.2, Bool.or_self]
end
theorem call_repr2 {X : Cx} {k : Nat} (hr : Room k X.A) : CallR X (.builtin "repr") (rRepr2 X.K) := by
  intro pins s σ H xs us Q I r h
  obtain ⟨x, d, rfl, ha, hdl, hsh, hdp, hsz, q⟩ := h
  obtain ⟨u, rfl, ru⟩ : ∃ u, us = [u] ∧ RelV x u := by
    cases r with
    | cons p p' => cases p'; exact ⟨_, rfl, p⟩
  have hun := hr.un
  obtain ⟨as, rd, hm⟩ := DA.readsR I ha ru
  have fin : ∀ a, u = .ref a → wpAny (model X.prog X.w) X.A (call (.builtin "repr") [u]) (EP X pins σ Q) X.xe s := fun a e => by
    subst e
    exact repr_of_reads' rd hsh (fun z => hm (hdl z)) hr.gd (by omega) (fun _ _ e => e) (fun h' u tk hk => ⟨.str _, H, I.kept hk, ⟨_, rfl⟩, q⟩) hsz
  cases d with
  | none => simp only [DA] at ha; subst ha; cases ru; exact P.repr_of_none ⟨.str _, H, I.tok _, ⟨_, rfl⟩, q⟩
  | bool b => simp only [DA] at ha; subst ha; cases ru; exact P.repr_of_bool ⟨.str _, H, I.tok _, ⟨_, rfl⟩, q⟩
  | int i =>
    simp only [DA] at ha; subst ha; obtain ⟨t, rfl⟩ := ru
    simp only [PyData.showable, decide_eq_true_eq] at hsh
    exact P.repr_of_int hsh ⟨.str _, H, I.tok _, ⟨_, rfl⟩, q⟩
  | str y => simp only [DA] at ha; subst ha; obtain ⟨t, rfl⟩ := ru; exact P.repr_of_str ⟨.str _, H, I.tok _, ⟨_, rfl⟩, q⟩ hsz
  | list ds => obtain ⟨a, _, e, _⟩ := da_lst.mp ha; subst e; exact fin a ru
  | dict ds => simp only [DA] at ha; obtain ⟨a, _, e, _⟩ := ha; subst e; exact fin a ru
  | tuple ds => obtain ⟨a, _, e, _⟩ := da_tup.mp ha; subst e; exact fin a ru
theorem repr_f : CallF K (rRepr2 K) (g1 gRepr) := call1_f fun σ H0 F H e x z v Q R A hg q => by
  unfold gRepr at hg
  split at hg
  case h_2 => cases hg
  case h_1 d =>
  split at hg
  case isFalse => cases hg
  case isTrue hl =>
  cases hg
  unfold shownOk at hl
  rw [Bool.and_eq_true, Bool.and_eq_true, Bool.and_eq_true, decide_eq_true_iff, decide_eq_true_iff] at hl
  refine ⟨v, d, rfl, DA.mono R.sm A, fun z => ?_, hl.1.1.2, hl.1.2, hl.2, q F H _ (Ext.refl _ _ _ _) R ((da_str (K := K) (F := F)).mpr rfl)⟩
  have c := hl.1.1.1
  cases hf : flatD d with
  | true => rw [flat_noDict d hf] at z; cases z
  | false => rw [hf, z] at c; simpa using c
end
end L2

set_option Elab.async false
set_option linter.all false
set_option maxRecDepth 100000
set_option maxHeartbeats 4000000
namespace L2
open PySem PySem.Spec PyProof.Rows
section
variable {K : PySem.W.Frag} {σ : L2.St} {H0 F H F' H' : Hp} {e e' : En}
/-- one slot changes -/
theorem Rel.upd1 (R : Rel K F H σ e) {σ' : L2.St} (i : Nat) (hl : σ'.length = e'.length) (hσ : ∀ j, j ≠ i → σ'[j]? = σ[j]?) (he : ∀ j, j ≠ i → e'[j]? = e[j]?) (sF : Same F F') (sm : Same F' H') (hf : ∀ j a, j ≠ i → Fp σ e H j a → F' a = none)
    (hh : ∀ j a o, j ≠ i → Fp σ e H j a → H a = some o → H' a = some o) (hd : ∀ x, e'[i]? = some (some (.d x)) → ∃ v, σ'[i]? = some (some v) ∧ DA K F' x v)
    (ho : ∀ xs, e'[i]? = some (some (.l xs)) → ∃ l vs, σ'[i]? = some (some (.ref l)) ∧ F' l = none ∧ H' l = some (.lst vs) ∧ DAs K F' xs vs)
    (hn : ∀ xss, e'[i]? = some (some (.n xss)) → ∃ (l : Addr) (bs : List Addr), σ'[i]? = some (some (.ref l)) ∧ F' l = none ∧ H' l = some (.lst (bs.map V.ref)) ∧ bs.length = xss.length ∧ bs.Nodup ∧ l ∉ bs ∧
      ∀ (k : Nat) (b : Addr) (ys : List PyData), bs[k]? = some b → xss[k]? = some ys → F' b = none ∧ ∃ us, H' b = some (.lst us) ∧ DAs K F' ys us)
    (hi : ∀ a j, j ≠ i → Fp σ' e' H' i a → ¬ Fp σ e H j a) : Rel K F' H' σ' e' ∧ ∀ j a, j ≠ i → (Fp σ' e' H' j a ↔ Fp σ e H j a) := by
  have fs : ∀ j a, j ≠ i → (Fp σ' e' H' j a ↔ Fp σ e H j a) := by
    intro j a hj
    have key : ∀ xss l, e[j]? = some (some (.n xss)) → σ[j]? = some (some (.ref l)) → H' l = H l := fun xss l h1 h2 => by
      obtain ⟨l', bs, g1, g2, g3, _⟩ := R.nst j xss h1
      rw [h2] at g1; cases g1
      rw [g3]
      exact hh j l _ hj (.inr ⟨xss, l, bs, h1, h2, g3, .inl rfl⟩) g3
    unfold Fp
    rw [he j hj, hσ j hj]
    constructor
    · rintro (h1 | ⟨xss, l, bs, h1, h2, h3, h4⟩)
      · exact .inl h1
      · exact .inr ⟨xss, l, bs, h1, h2, by rw [← key xss l h1 h2]; exact h3, h4⟩
    · rintro (h1 | ⟨xss, l, bs, h1, h2, h3, h4⟩)
      · exact .inl h1
      · exact .inr ⟨xss, l, bs, h1, h2, by rw [key xss l h1 h2]; exact h3, h4⟩
  refine ⟨⟨sm, hl, fun j x q => ?_, fun j xs q => ?_, fun j xss q => ?_, fun j k a q1 q2 => ?_⟩, fs⟩
  · by_cases z : j = i
    · subst z; exact hd x q
    · rw [he j z] at q
      obtain ⟨v, h1, h2⟩ := R.dat j x q
      exact ⟨v, by rw [hσ j z]; exact h1, DA.mono sF h2⟩
  · by_cases z : j = i
    · subst z; exact ho xs q
    · rw [he j z] at q
      obtain ⟨l, vs, h1, h2, h3, h4⟩ := R.own j xs q
      have o : Fp σ e H j l := .inl ⟨xs, q, h1⟩
      exact ⟨l, vs, by rw [hσ j z]; exact h1, hf j l z o, hh j l _ z o h3, h4.mono sF⟩
  · by_cases z : j = i
    · subst z; exact hn xss q
    · rw [he j z] at q
      obtain ⟨l, bs, h1, h2, h3, h4, h5, h6, h7⟩ := R.nst j xss q
      have o : Fp σ e H j l := .inr ⟨xss, l, bs, q, h1, h3, .inl rfl⟩
      refine ⟨l, bs, by rw [hσ j z]; exact h1, hf j l z o, hh j l _ z o h3, h4, h5, h6, fun k b ys g1 g2 => ?_⟩
      obtain ⟨c1, us, c2, c3⟩ := h7 k b ys g1 g2
      have ob : Fp σ e H j b := .inr ⟨xss, l, bs, q, h1, h3, .inr (List.mem_of_getElem? g1)⟩
      exact ⟨hf j b z ob, us, hh j b _ z ob c2, c3.mono sF⟩
  · by_cases zj : j = i
    · subst zj
      by_cases zk : k = j
      · exact zk.symm
      · exact absurd ((fs k a zk).mp q2) (hi a k zk q1)
    · by_cases zk : k = i
      · subst zk
        exact absurd ((fs j a zj).mp q1) (hi a j zj q2)
      · exact R.fp j k a ((fs j a zj).mp q1) ((fs k a zk).mp q2)
/-- an own list is written -/
theorem Rel.putL (R : Rel K F H σ e) {i : Nat} {xs ys : List PyData} {l : Addr} {vs : List V} (hi : e[i]? = some (some (.l xs))) (hl : σ[i]? = some (some (.ref l))) (hd : DAs K F ys vs) :
    Rel K F (upd H l (.lst vs)) σ (e.set i (some (.l ys))) ∧ Ext σ F H e F (upd H l (.lst vs)) (e.set i (some (.l ys))) := by
  obtain ⟨l', vs', h1, h2, h3, h4⟩ := R.own i xs hi
  rw [hl] at h1; cases h1
  have hlt : i < e.length := (List.getElem?_eq_some_iff.mp hi).1
  have fi : Fp σ e H i l := .inl ⟨xs, hi, hl⟩
  have gi : (e.set i (some (Sv.l ys)))[i]? = some (some (.l ys)) := List.getElem?_set_self hlt
  obtain ⟨R', fs⟩ := R.upd1 (F' := F) (H' := upd H l (.lst vs)) (e' := e.set i (some (.l ys))) i (by rw [List.length_set]; exact R.len) (fun _ _ => rfl) (fun j hj => List.getElem?_set_ne (Ne.symm hj)) (Same.refl F)
    (fun b o q => by
      have z : b ≠ l := fun z => by rw [z, h2] at q; cases q
      rw [upd_ne z]; exact R.sm b o q)
    (fun j a _ q => (R.fpAt q).1)
    (fun j a o hj q ha => by
      have z : a ≠ l := fun z => hj (R.fp j i a q (by rw [z]; exact fi))
      rw [upd_ne z]; exact ha)
    (fun x q => by rw [gi] at q; cases q) (fun zs q => by rw [gi] at q; cases q; exact ⟨l, vs, hl, h2, upd_same, hd⟩) (fun xss q => by rw [gi] at q; cases q)
    (fun a j hj q q2 => by
      rcases q with ⟨zs, _, q⟩ | ⟨xss, _, _, q, _⟩
      · rw [hl] at q; cases q
        exact hj (R.fp j i _ q2 fi)
      · rw [gi] at q; cases q)
  refine ⟨R', ⟨Same.refl _, fun a q => ?_, fun _ _ q _ _ => q, fun a ws q => ?_, fun a o q n => ?_, fun j => ?_, fun a ⟨j, q⟩ => ?_⟩⟩
  · by_cases z : a = l
    · rw [z, upd_same] at q; cases q
    · rw [upd_ne z] at q; exact q
  · by_cases z : a = l
    · rw [z]; exact ⟨vs, upd_same⟩
    · rw [upd_ne z]; exact ⟨ws, q⟩
  · have z : a ≠ l := fun z => n ⟨i, by rw [z]; exact fi⟩
    rw [upd_ne z]; exact q
  · by_cases z : j = i
    · subst z; rw [gi]; exact ⟨fun _ => ⟨xs, hi⟩, fun _ => ⟨ys, rfl⟩⟩
    · rw [List.getElem?_set_ne (Ne.symm z)]
  · by_cases z : j = i
    · subst z
      rcases q with ⟨zs, _, q⟩ | ⟨xss, _, _, q, _⟩
      · rw [hl] at q; cases q; exact .inl ⟨j, fi⟩
      · rw [gi] at q; cases q
    · exact .inl ⟨j, (fs j a z).mp q⟩
/-- a name gets data -/
theorem Rel.setD (R : Rel K F H σ e) (i : Nat) {x : PyData} {v : V} (h : DA K F x v) : Rel K F H (σ.set i (some v)) (e.set i (some (.d x))) ∧ ∀ a, Own (σ.set i (some v)) (e.set i (some (.d x))) H a → Own σ e H a := by
  have gi : ∀ s, (e.set i (some (Sv.d x)))[i]? = some (some s) → s = .d x ∧ i < e.length := fun s q => by
    have hlt : i < e.length := by have := (List.getElem?_eq_some_iff.mp q).1; simpa using this
    rw [List.getElem?_set_self hlt] at q
    exact ⟨(Option.some.inj (Option.some.inj q)).symm, hlt⟩
  have nofp : ∀ a, ¬ Fp (σ.set i (some v)) (e.set i (some (.d x))) H i a := fun a q => by
    rcases q with ⟨zs, q, _⟩ | ⟨xss, _, _, q, _⟩
    · cases (gi _ q).1
    · cases (gi _ q).1
  obtain ⟨R', fs⟩ := R.upd1 (F' := F) (H' := H) (σ' := σ.set i (some v)) (e' := e.set i (some (.d x))) i (by rw [List.length_set, List.length_set]; exact R.len) (fun j hj => List.getElem?_set_ne (Ne.symm hj)) (fun j hj => List.getElem?_set_ne (Ne.symm hj)) (Same.refl F) R.sm
    (fun j a _ q => (R.fpAt q).1) (fun j a o _ _ ha => ha)
    (fun y q => by
      obtain ⟨z, hlt⟩ := gi _ q
      cases z
      exact ⟨v, List.getElem?_set_self (by rw [R.len]; exact hlt), h⟩)
    (fun zs q => by cases (gi _ q).1) (fun xss q => by cases (gi _ q).1) (fun a j hj q => absurd q (nofp a))
  refine ⟨R', fun a ⟨j, q⟩ => ?_⟩
  by_cases z : j = i
  · subst z; exact absurd q (nofp a)
  · exact ⟨j, (fs j a z).mp q⟩
/-- a name gets a list that nobody holds -/
theorem Rel.setL (R : Rel K F H σ e) (i : Nat) {xs : List PyData} {l : Addr} {vs : List V} (h1 : F l = none) (h2 : H l = some (.lst vs)) (h3 : DAs K F xs vs) (h4 : ¬ Own σ e H l) : Rel K F H (σ.set i (some (.ref l))) (e.set i (some (.l xs))) ∧ ∀ a, Own (σ.set i (some (.ref l))) (e.set i (some (.l xs))) H a → Own σ e H a ∨ a = l := by
  have gi : ∀ s, (e.set i (some (Sv.l xs)))[i]? = some (some s) → s = .l xs ∧ i < e.length := fun s q => by
    have hlt : i < e.length := by have := (List.getElem?_eq_some_iff.mp q).1; simpa using this
    rw [List.getElem?_set_self hlt] at q
    exact ⟨(Option.some.inj (Option.some.inj q)).symm, hlt⟩
  have onefp : ∀ a, Fp (σ.set i (some (.ref l))) (e.set i (some (.l xs))) H i a → a = l := fun a q => by
    rcases q with ⟨zs, q, q2⟩ | ⟨xss, _, _, q, _⟩
    · obtain ⟨_, hlt⟩ := gi _ q
      rw [List.getElem?_set_self (by rw [R.len]; exact hlt)] at q2
      cases q2; rfl
    · cases (gi _ q).1
  obtain ⟨R', fs⟩ := R.upd1 (F' := F) (H' := H) (σ' := σ.set i (some (.ref l))) (e' := e.set i (some (.l xs))) i (by rw [List.length_set, List.length_set]; exact R.len) (fun j hj => List.getElem?_set_ne (Ne.symm hj)) (fun j hj => List.getElem?_set_ne (Ne.symm hj)) (Same.refl F) R.sm
    (fun j a _ q => (R.fpAt q).1) (fun j a o _ _ ha => ha) (fun y q => by cases (gi _ q).1)
    (fun zs q => by
      obtain ⟨z, hlt⟩ := gi _ q
      cases z
      exact ⟨l, vs, List.getElem?_set_self (by rw [R.len]; exact hlt), h1, h2, h3⟩)
    (fun xss q => by cases (gi _ q).1) (fun a j hj q q2 => h4 ⟨j, by rw [onefp a q] at q2; exact q2⟩)
  refine ⟨R', fun a ⟨j, q⟩ => ?_⟩
  by_cases z : j = i
  · subst z; exact .inr (onefp a q)
  · exact .inl ⟨j, (fs j a z).mp q⟩
end
/-! ### methods of lists -/
section
variable {X : Cx} {K : PySem.W.Frag} {o a : Expr} {es : List Expr} {fo : FE} {fs : FA} {name : Str} {apos cpos : Pos} {id : String}
def MethF (K : PySem.W.Frag) (r : V → List V → Hp → VK → Prop) (g : List PyData → List PyData → Option (PyData × List PyData)) : Prop :=
  ∀ (F H : Hp) (l : Addr) (xs ys ds : List PyData) (z : PyData) (vs us : List V) (Q : VK), F l = none → Same F H → H l = some (.lst vs) → DAs K F xs vs → DAs K F ds us → g xs ds = some (z, ys) →
    (∀ w ws, DA K F z w → DAs K F ys ws → Q w (upd H l (.lst ws))) → r (.ref l) us H Q
def vMeth (g : List PyData → List PyData → Option (PyData × List PyData)) (fo : FE) (fs : FA) : FE := fun e => (fo e).bind fun p => match p.1 with
  | .s i => (fs p.2).bind fun q => (datas q.1).bind fun ds => match q.2[i]? with
    | some (some (.l xs)) => (g xs ds).map fun z => (.d z.1, q.2.set i (some (.l z.2)))
    | _ => none
  | _ => none
theorem vMeth_go {r : V → List V → Hp → VK → Prop} {g : List PyData → List PyData → Option (PyData × List PyData)} (hm : MethF K r g) {σ : L2.St} {H : Hp} {Q : VK} (h : fE K (vMeth g fo fs) σ H Q) : tBM K "list" r (fE K fo) (fA K fs) σ H Q := by
  obtain ⟨F, e, z, e', R, hf, q⟩ := h
  unfold vMeth at hf
  obtain ⟨⟨x, e1⟩, h1, hf⟩ := Option.bind_eq_some_iff.mp hf
  match x, h1, hf with
  | .s i, h1, hf =>
  dsimp only at hf
  obtain ⟨⟨rs, e2⟩, h2, hf⟩ := Option.bind_eq_some_iff.mp hf
  obtain ⟨ds, h3, hf⟩ := Option.bind_eq_some_iff.mp hf
  refine ⟨F, e, _, e1, R, h1, fun F1 H1 v X1 R1 A1 => ?_⟩
  obtain ⟨g1, zs, g2⟩ := A1
  obtain ⟨l, vs, c1, c2, c3, c4⟩ := R1.own i zs g2
  rw [g1] at c1; cases c1
  refine ⟨.inl ⟨rfl, vs, .inl (.inl c3)⟩, F1, e1, rs, e2, R1, h2, fun F2 H2 us X2 R2 A2 => ?_⟩
  match h4 : e2[i]?, hf with
  | some (some (.l xs)), hf =>
  dsimp only at hf
  obtain ⟨⟨zd, ys⟩, h5, hf⟩ := Option.map_eq_some_iff.mp hf
  cases hf
  obtain ⟨F3, R3, s3, d3, f3⟩ := RvsAt.frozen R2 A2 h3
  obtain ⟨l', vs', k1, k2, k3, k4⟩ := R3.own i xs h4
  rw [g1] at k1; cases k1
  refine hm F3 H2 l xs ys ds zd vs' us Q k2 R3.sm k3 k4 d3 h5 fun w ws hw hws => ?_
  obtain ⟨R4, X4⟩ := R3.putL h4 g1 hws
  exact q _ _ _ ((X1.trans (X2.frz s3 f3)).trans X4) R4 hw
theorem qe_bm {r : V → List V → Hp → VK → Prop} {g : List PyData → List PyData → Option (PyData × List PyData)} (slot : Slot "list" name id) (hty : typeOf (.builtin id) = pure (.type "method_descriptor")) (hm : MtR X id r) (hf : MethF X.K r g) (ho : PE X o (fE X.K fo)) (ha : PA X (a :: es) (fA X.K fs))
    (hbase : attributeBase o name X.env (eval o X.env) = eval o X.env)
    (hfew : ((backTo cpos (starEach (a :: es) X.env)).all (fun x => !x.1) && (backToKw cpos (keywordEach [] X.env)).all (fun x => x.1.isSome)
      && decide ((a :: es).length + ([] : List Keyword).length + (if ([] : List Keyword).isEmpty then 0 else 1) < 30)) = true)
    (hline : (apos.endLine == cpos.line) = true) (hs : starEach (a :: es) X.env = (false, eval a X.env) :: starEach es X.env) (hplain : (backTo cpos (starEach es X.env)).any (·.1) = false) :
    PE X (.Call (.Attribute o name apos) (a :: es) [] cpos) (fE X.K (vMeth g fo fs)) := (pe_bm PySem.F.plainAttrs_list slot hty hm ho ha hbase hfew hline hs hplain).mono fun _ _ _ h => vMeth_go hf h
def mAppend : List PyData → List PyData → Option (PyData × List PyData) := fun xs ds => match ds with
  | [d] => if xs.length < 1000000 then some (.none, xs ++ [d]) else none
  | _ => none
theorem append_f : MethF K rAppend mAppend := by
  intro F H l xs ys ds z vs us Q hF sm hl d1 d2 hg q
  unfold mAppend at hg
  match ds, hg, d2 with
  | [d], hg, d2 =>
    simp only [DAs] at d2
    obtain ⟨w, r, rfl, hw, rfl⟩ := d2
    dsimp only at hg
    split at hg
    case isFalse => cases hg
    case isTrue hlt =>
    cases hg
    have := d1.len
    have sl : sizeLine = 16777216 := sizeLine_eq
    exact ⟨l, vs, w, rfl, rfl, hl, by omega, q _ _ (da_none.mpr rfl) (d1.append (DAs.one hw))⟩
def mPop : List PyData → List PyData → Option (PyData × List PyData) := fun xs ds => match ds with
  | [] => (xs[xs.length - 1]?).map fun d => (d, xs.dropLast)
  | _ => none
theorem DAs.dropLast {F : Hp} {ds : List PyData} {vs : List V} (h : DAs K F ds vs) : DAs K F ds.dropLast vs.dropLast := by
  rw [List.dropLast_eq_take, List.dropLast_eq_take, h.len]; exact h.take _
def mPopAt : List PyData → List PyData → Option (PyData × List PyData) := fun xs ds => match ds with
  | [.int i] => if 0 ≤ i ∧ i < 1000000000 then (xs[i.toNat]?).map fun d => (d, xs.eraseIdx i.toNat) else none
  | _ => none
theorem popAt_f : MethF K rPopAt mPopAt := by
  intro F H l xs ys ds z vs us Q hF sm hl d1 d2 hg q
  unfold mPopAt at hg
  match ds, hg, d2 with
  | [.int i], hg, d2 =>
    simp only [DAs, DA] at d2
    obtain ⟨w, r, rfl, rfl, rfl⟩ := d2
    dsimp only at hg
    split at hg
    case isFalse => cases hg
    case isTrue hlt =>
    obtain ⟨d, h1, h2⟩ := Option.map_eq_some_iff.mp hg
    cases h2
    obtain ⟨v, g1, g2⟩ := d1.get h1
    have hlt2 : i.toNat < vs.length := (List.getElem?_eq_some_iff.mp g1).1
    exact ⟨l, vs, i, i.toNat, v, rfl, rfl, hl, by omega, by omega, seqIndex_of hlt.1 (by omega), g1, q _ _ g2 (d1.erase _)⟩
end
end L2

set_option Elab.async false
set_option linter.all false
set_option maxRecDepth 100000
set_option maxHeartbeats 4000000
namespace L2
open PySem PySem.Spec PyProof.Rows
inductive Fl where
  | nx (e : En)
  | bk (e : En)
  | ct (e : En)
  | rt (r : Rv) (e : En)
abbrev FS := En → Option Fl
/-- what a statement leaves; W: the names that it may store -/
structure ExtS (W : List Nat) (σ : L2.St) (F H : Hp) (e : En) (σ' : L2.St) (F' H' : Hp) (e' : En) : Prop where
  sf : Same F F'
  dom : ∀ a, H' a = none → H a = none
  fr : ∀ a vs, F a = none → H a = some (.lst vs) → ¬ Own σ e H a → F' a = none
  lst : ∀ a vs, H a = some (.lst vs) → ∃ vs', H' a = some (.lst vs')
  tmp : ∀ a o, H a = some o → ¬ Own σ e H a → H' a = some o
  own : ∀ a, Own σ' e' H' a → Own σ e H a ∨ H a = none
  wr : ∀ j, j ∉ W → σ'[j]? = σ[j]?
section
variable {K : PySem.W.Frag} {W W1 W2 : List Nat} {σ σ1 σ2 σ' : L2.St} {H0 F H F1 H1 F2 H2 F' H' : Hp} {e e1 e2 e' : En}
theorem ExtS.refl : ExtS W σ F H e σ F H e := ⟨Same.refl _, fun _ h => h, fun _ _ h _ _ => h, fun _ vs h => ⟨vs, h⟩, fun _ _ h _ => h, fun _ h => .inl h, fun _ _ => rfl⟩
theorem Ext.s (x : Ext σ F H e F' H' e') : ExtS W σ F H e σ F' H' e' := ⟨x.sf, x.dom, x.fr, x.lst, x.tmp, x.ow, fun _ _ => rfl⟩
theorem ExtS.trans (x : ExtS W σ F H e σ1 F1 H1 e1) (y : ExtS W σ1 F1 H1 e1 σ2 F2 H2 e2) : ExtS W σ F H e σ2 F2 H2 e2 :=
  ⟨x.sf.trans y.sf, fun a h => x.dom a (y.dom a h), fun a vs h n no => let ⟨vs', q⟩ := x.lst a vs n; y.fr a vs' (x.fr a vs h n no) q (fun z => (x.own a z).elim no fun z => by rw [n] at z; cases z), fun a vs h => let ⟨vs', q⟩ := x.lst a vs h; y.lst a vs' q,
    fun a o h n => y.tmp a o (x.tmp a o h n) (fun z => (x.own a z).elim n fun z => by rw [h] at z; cases z),
    fun a h => (y.own a h).elim (x.own a) (fun z => .inr (x.dom a z)),
    fun j h => (y.wr j h).trans (x.wr j h)⟩
theorem ExtS.mono (x : ExtS W1 σ F H e σ' F' H' e') (h : ∀ j, j ∈ W1 → j ∈ W) : ExtS W σ F H e σ' F' H' e' := ⟨x.sf, x.dom, x.fr, x.lst, x.tmp, x.own, fun j n => x.wr j fun z => n (h j z)⟩
end
def flGo (K : PySem.W.Frag) (W : List Nat) (σ : L2.St) (F H : Hp) (e : En) (D : Ends) : Fl → Prop
  | .nx e' => ∀ F' H' σ', ExtS W σ F H e σ' F' H' e' → Rel K F' H' σ' e' → D.nx σ' H'
  | .bk e' => ∀ F' H' σ', ExtS W σ F H e σ' F' H' e' → Rel K F' H' σ' e' → D.bk σ' H'
  | .ct e' => ∀ F' H' σ', ExtS W σ F H e σ' F' H' e' → Rel K F' H' σ' e' → D.ct σ' H'
  | .rt r e' => ∀ F' H' σ' v, ExtS W σ F H e σ' F' H' e' → Rel K F' H' σ' e' → RvAt K σ' H F' H' e' r v → D.rt v H'
def fS (K : PySem.W.Frag) (f : FS) (W : List Nat) : TS := fun D σ H => ∃ F e fl, Rel K F H σ e ∧ f e = some fl ∧ flGo K W σ F H e D fl
theorem PS.mono {X : Cx} {st : Stmt} {t t' : TS} (h : PS X st t) (m : ∀ D σ H, t' D σ H → t D σ H) : PS X st t' := fun pins s σ H D I q => h pins s σ H D I (m D σ H q)
theorem PSs.mono {X : Cx} {st : List Stmt} {t t' : TS} (h : PSs X st t) (m : ∀ D σ H, t' D σ H → t D σ H) : PSs X st t' := fun pins s σ H D I q => h pins s σ H D I (m D σ H q)
/-- from a later state on -/
theorem flGo.later {K : PySem.W.Frag} {W W1 W2 : List Nat} {σ σ1 : L2.St} {F H F1 H1 : Hp} {e e1 : En} {D : Ends} {fl : Fl} (h : flGo K W σ F H e D fl) (x : ExtS W1 σ F H e σ1 F1 H1 e1) (h1 : ∀ j, j ∈ W1 → j ∈ W) (h2 : ∀ j, j ∈ W2 → j ∈ W) : flGo K W2 σ1 F1 H1 e1 D fl := by
  cases fl with
  | nx e' => exact fun F' H' σ' y R => h F' H' σ' ((x.mono h1).trans (y.mono h2)) R
  | bk e' => exact fun F' H' σ' y R => h F' H' σ' ((x.mono h1).trans (y.mono h2)) R
  | ct e' => exact fun F' H' σ' y R => h F' H' σ' ((x.mono h1).trans (y.mono h2)) R
  | rt r e' => exact fun F' H' σ' v y R A => h F' H' σ' v ((x.mono h1).trans (y.mono h2)) R (A.weak x.dom)
section
variable {X : Cx} {K : PySem.W.Frag} {W W1 W2 : List Nat} {st : Stmt} {rest : List Stmt} {f g : FS} {a b : Expr} {fa : FE} {ft : FT} {pos : Pos}
def sNil : FS := fun e => some (.nx e)
def sSeq (f g : FS) : FS := fun e => (f e).bind fun fl => match fl with
  | .nx e1 => g e1
  | fl => some fl
theorem qss_nil : PSs X [] (fS K sNil []) := pss_nil.mono fun D σ H h => by
  obtain ⟨F, e, fl, R, hf, q⟩ := h
  cases hf
  exact q F H σ ExtS.refl R
theorem qss_cons (h1 : PS X st (fS K f W1)) (h2 : PSs X rest (fS K g W2)) : PSs X (st :: rest) (fS K (sSeq f g) (W1 ++ W2)) := (pss_cons h1 h2).mono fun D σ H h => by
  obtain ⟨F, e, fl, R, hf, q⟩ := h
  unfold sSeq at hf
  obtain ⟨fl1, h1, hf⟩ := Option.bind_eq_some_iff.mp hf
  have s1 : ∀ j, j ∈ W1 → j ∈ W1 ++ W2 := fun j h => List.mem_append.mpr (.inl h)
  have s2 : ∀ j, j ∈ W2 → j ∈ W1 ++ W2 := fun j h => List.mem_append.mpr (.inr h)
  refine ⟨F, e, fl1, R, h1, ?_⟩
  cases fl1 with
  | nx e1 => exact fun F' H' σ' x R' => ⟨F', e1, fl, R', hf, q.later x s1 s2⟩
  | bk e1 => cases hf; exact fun F' H' σ' x R' => q F' H' σ' (x.mono s1) R'
  | ct e1 => cases hf; exact fun F' H' σ' x R' => q F' H' σ' (x.mono s1) R'
  | rt r e1 => cases hf; exact fun F' H' σ' v x R' A => q F' H' σ' v (x.mono s1) R' A
theorem qss_one (h1 : PS X st (fS K f W)) : PSs X [st] (fS K f W) := pss_one h1
def sDrop (fa : FE) : FS := fun e => (fa e).map fun p => .nx p.2
theorem qs_expr (he : PE X a (fE K fa)) (hs : swapsWith a none pos.line X.env = pure false) : PS X (.Expr a pos) (fS K (sDrop fa) []) := (ps_expr he hs).mono fun D σ H h => by
  obtain ⟨F, e, fl, R, hf, q⟩ := h
  obtain ⟨⟨x, e1⟩, h1, hf⟩ := Option.map_eq_some_iff.mp hf
  cases hf
  exact ⟨F, e, x, e1, R, h1, fun F1 H1 v X1 R1 A1 => q F1 H1 σ X1.s R1⟩
def sRet (fa : FE) : FS := fun e => (fa e).map fun p => .rt p.1 p.2
theorem qs_ret (he : PE X a (fE K fa)) : PS X (.Return (some a) pos) (fS K (sRet fa) []) := (ps_ret he).mono fun D σ H h => by
  obtain ⟨F, e, fl, R, hf, q⟩ := h
  obtain ⟨⟨x, e1⟩, h1, hf⟩ := Option.map_eq_some_iff.mp hf
  cases hf
  exact ⟨F, e, x, e1, R, h1, fun F1 H1 v X1 R1 A1 => q F1 H1 σ v X1.s R1 A1⟩
def sIf (ft : FT) (f g : FS) : FS := fun e => (ft e).bind fun p => if p.1 = true then f p.2 else g p.2
theorem qs_if {c : Expr} {bs cs : List Stmt} (hc : PT X c (fT K ft)) (ha : PSs X bs (fS K f W1)) (hb : PSs X cs (fS K g W2)) : PS X (.If c bs cs pos) (fS K (sIf ft f g) (W1 ++ W2)) := (ps_if hc ha hb).mono fun D σ H h => by
  obtain ⟨F, e, fl, R, hf, q⟩ := h
  unfold sIf at hf
  obtain ⟨⟨x, e1⟩, h1, hf⟩ := Option.bind_eq_some_iff.mp hf
  refine ⟨F, e, x, e1, R, h1, fun F1 H1 X1 R1 => ?_⟩
  cases x with
  | true => exact ⟨F1, e1, fl, R1, hf, q.later (W1 := []) X1.s (fun j h => by cases h) fun j h => List.mem_append.mpr (.inl h)⟩
  | false => exact ⟨F1, e1, fl, R1, hf, q.later (W1 := []) X1.s (fun j h => by cases h) fun j h => List.mem_append.mpr (.inr h)⟩
/-! ### stores -/
def putR (i : Nat) (r : Rv) (e : En) : Option En := match r with
  | .d x => some (e.set i (some (.d x)))
  | .l xs => some (e.set i (some (.l xs)))
  | .s _ => none
theorem put_go {σ : L2.St} {H F H1 F1 : Hp} {e e1 e2 : En} {i : Nat} {r : Rv} {v : V} (R : Rel K F H σ e) (X1 : Ext σ F H e F1 H1 e1) (R1 : Rel K F1 H1 σ e1) (A1 : RvAt K σ H F1 H1 e1 r v) (h : putR i r e1 = some e2) :
    ExtS [i] σ F H e (σ.set i (some v)) F1 H1 e2 ∧ Rel K F1 H1 (σ.set i (some v)) e2 := by
  have wr : ∀ j, j ∉ [i] → (σ.set i (some v))[j]? = σ[j]? := fun j n => List.getElem?_set_ne (fun z => n (by simp [z]))
  cases r with
  | d x =>
    cases h
    obtain ⟨R2, o2⟩ := R1.setD i A1
    exact ⟨⟨X1.sf, X1.dom, X1.fr, X1.lst, X1.tmp, fun a h => X1.ow a (o2 a h), wr⟩, R2⟩
  | l xs =>
    cases h
    obtain ⟨l, vs, rfl, h1, h2, h3, h4, h5⟩ := A1
    obtain ⟨R2, o2⟩ := R1.setL i h2 h3 h4 h5
    refine ⟨⟨X1.sf, X1.dom, X1.fr, X1.lst, X1.tmp, fun a h => ?_, wr⟩, R2⟩
    rcases o2 a h with z | z
    · exact X1.ow a z
    · exact .inr (by rw [z]; exact h1)
  | s j => cases h
def sSet (i : Nat) (fa : FE) : FS := fun e => (fa e).bind fun p => (putR i p.1 p.2).map .nx
theorem qs_set {i : Nat} {x : Str} {pos' : Pos} (hN : X.N.Nodup) (hi : X.N[i]? = some x) (hx : Loc X.env.scope x) (he : PE X a (fE K fa)) (hs : swapsWith a (some (.Name x pos')) pos.line X.env = pure false) (hf : X.fn x = true ∨ X.env.scope.names.lookup x = some .local) :
    PS X (.Assign [.Name x pos'] a pos) (fS K (sSet i fa) [i]) := (ps_set hN hi hx he hs hf).mono fun D σ H h => by
  obtain ⟨F, e, fl, R, hf, q⟩ := h
  unfold sSet at hf
  obtain ⟨⟨r, e1⟩, h1, hf⟩ := Option.bind_eq_some_iff.mp hf
  obtain ⟨e2, h2, hf⟩ := Option.map_eq_some_iff.mp hf
  cases hf
  refine ⟨F, e, r, e1, R, h1, fun F1 H1 v X1 R1 A1 => ?_⟩
  obtain ⟨x, R2⟩ := put_go R X1 R1 A1 h2
  exact q F1 H1 _ x R2
/-! ### targets of data -/
abbrev FG := PyData → En → Option En
def fG (K : PySem.W.Frag) (g : FG) (W : List Nat) : TG := fun v σ H Q => ∃ F e x e', Rel K F H σ e ∧ DA K F x v ∧ g x e = some e' ∧ ∀ σ', ExtS W σ F H e σ' F H e' → Rel K F H σ' e' → Q σ' H
abbrev FGs := List PyData → En → Option En
def fGs (K : PySem.W.Frag) (g : FGs) (W : List Nat) : TGs := fun vs σ H Q => ∃ F e xs e', Rel K F H σ e ∧ DAs K F xs vs ∧ g xs e = some e' ∧ ∀ σ', ExtS W σ F H e σ' F H e' → Rel K F H σ' e' → Q σ' H
theorem PG.mono {tg : Expr} {t t' : TG} (h : PG X tg t) (m : ∀ v σ H Q, t' v σ H Q → t v σ H Q) : PG X tg t' := fun pins s σ H v u Q I r q => h pins s σ H v u Q I r (m v σ H Q q)
theorem PGs.mono {tg : List Expr} {t t' : TGs} (h : PGs X tg t) (m : ∀ v σ H Q, t' v σ H Q → t v σ H Q) : PGs X tg t' := fun pins s σ H v u Q I r q => h pins s σ H v u Q I r (m v σ H Q q)
def gtName (i : Nat) : FG := fun x e => some (e.set i (some (.d x)))
def gtNil : FGs := fun xs e => match xs with
  | [] => some e
  | _ => none
def gtCons (g : FG) (gs : FGs) : FGs := fun xs e => match xs with
  | x :: r => (g x e).bind fun e1 => gs r e1
  | _ => none
def gtTup (gs : FGs) : FG := fun x e => match x with
  | .tuple xs => gs xs e
  | _ => none
theorem qg_name {i : Nat} {x : Str} (hN : X.N.Nodup) (hi : X.N[i]? = some x) (hx : Loc X.env.scope x) (hf : X.fn x = true ∨ X.env.scope.names.lookup x = some .local) : PG X (.Name x pos) (fG K (gtName i) [i]) := (pg_name hN hi hx hf).mono fun v σ H Q h => by
  obtain ⟨F, e, x, e', R, hx, hg, q⟩ := h
  cases hg
  obtain ⟨R2, o2⟩ := R.setD i hx
  exact q _ ⟨Same.refl _, fun _ h => h, fun _ _ h _ _ => h, fun _ vs h => ⟨vs, h⟩, fun _ _ h _ => h, fun a h => .inl (o2 a h), fun j n => List.getElem?_set_ne (fun z => n (by simp [z]))⟩ R2
theorem qgs_nil : PGs X [] (fGs K gtNil []) := pgs_nil.mono fun v σ H Q h => by
  obtain ⟨F, e, x, e', R, hx, hg, q⟩ := h
  unfold gtNil at hg
  split at hg
  · cases hg
    simp only [DAs] at hx
    exact ⟨hx, q σ ExtS.refl R⟩
  · cases hg
theorem qgs_cons {es : List Expr} {g1 : FG} {gs : FGs} (h1 : PG X a (fG K g1 W1)) (h2 : PGs X es (fGs K gs W2))
    (hs : (assignEach (a :: es) X.env).map (·.2) = assign a X.env :: (assignEach es X.env).map (·.2)) : PGs X (a :: es) (fGs K (gtCons g1 gs) (W1 ++ W2)) := (pgs_cons h1 h2 hs).mono fun v σ H Q h => by
  obtain ⟨F, e, xs, e', R, hx, hg, q⟩ := h
  unfold gtCons at hg
  match xs, hg, hx with
  | x :: r, hg, hx =>
    simp only [DAs] at hx
    obtain ⟨w, ws, e1, hw, hr⟩ := hx
    dsimp only at hg
    obtain ⟨e1', h3, h4⟩ := Option.bind_eq_some_iff.mp hg
    refine ⟨w, ws, e1, F, e, x, e1', R, hw, h3, fun σ1 x1 R1 => ⟨F, e1', r, e', R1, hr, h4, fun σ2 x2 R2 => ?_⟩⟩
    exact q σ2 ((x1.mono fun j h => List.mem_append.mpr (.inl h)).trans (x2.mono fun j h => List.mem_append.mpr (.inr h))) R2
theorem qg_tup {es : List Expr} {k n : Nat} {gs : FGs} (hK : X.K = K) (hc : X.calm = true) (h : PGs X es (fGs K gs W)) (hl : ∀ xs e e', gs xs e = some e' → xs.length = n) (hn : (assignEach es X.env).length = n) (hst : (assignEach es X.env).findIdx? (·.1) = none) : PG X (.Tuple es k pos) (fG K (gtTup gs) W) := (pg_tupK hK hc h hn hst).mono fun v σ H Q h => by
  obtain ⟨F, e, x, e', R, hx, hg, q⟩ := h
  unfold gtTup at hg
  match x, hg, hx with
  | .tuple xs, hg, hx =>
    obtain ⟨p, vs, e1, e2, e3⟩ := da_tup.mp hx
    exact ⟨p, vs, e1, R.sm.tup e2, by rw [← e3.len]; exact hl xs e e' hg, F, e, xs, e', R, e3, hg, q⟩
theorem gl_nil (xs : List PyData) (e e' : En) (h : gtNil xs e = some e') : xs.length = 0 := by
  unfold gtNil at h
  split at h
  · rfl
  · cases h
theorem gl_cons {g : FG} {gs : FGs} {n : Nat} (hl : ∀ xs e e', gs xs e = some e' → xs.length = n) (xs : List PyData) (e e' : En) (h : gtCons g gs xs e = some e') : xs.length = n + 1 := by
  unfold gtCons at h
  match xs, h with
  | x :: r, h =>
    obtain ⟨e1, h3, h4⟩ := Option.bind_eq_some_iff.mp h
    simp [hl r e1 e' h4]
/-- a tuple's parts to names -/
def sAsg (fa : FE) (g : FG) : FS := fun e => (fa e).bind fun p => match p.1 with
  | .d x => (g x p.2).map .nx
  | _ => none
theorem qs_asg {tg : Expr} {g : FG} (he : PE X a (fE K fa)) (hg : PG X tg (fG K g W)) (hs : swapsWithSole [tg] a pos.line X.env = pure false) (hw : swappedStores [tg] a X.env = pure none)
    (h1 : (assignEach [tg] X.env).map (·.2) = [assign tg X.env]) : PS X (.Assign [tg] a pos) (fS K (sAsg fa g) W) := (ps_asg he hg hs hw h1).mono fun D σ H h => by
  obtain ⟨F, e, fl, R, hf, q⟩ := h
  unfold sAsg at hf
  obtain ⟨⟨r, e1⟩, h1, hf⟩ := Option.bind_eq_some_iff.mp hf
  match r, h1, hf with
  | .d x, h1, hf =>
    obtain ⟨e2, h2, hf⟩ := Option.map_eq_some_iff.mp hf
    cases hf
    exact ⟨F, e, _, e1, R, h1, fun F1 H1 v X1 R1 A1 => ⟨F1, e1, x, e2, R1, A1, h2, fun σ' x2 R2 => q F1 H1 σ' (X1.s.trans x2) R2⟩⟩
/-- a, b = x, y of plain names -/
def sPar (i j : Nat) (fs : FA) : FS := fun e => (fs e).bind fun p => match p.1 with
  | [.d x, .d y] => some (.nx ((p.2.set i (some (.d x))).set j (some (.d y))))
  | _ => none
theorem qs_par {i j : Nat} {x y : Str} {fs : FA} {px py pt : Pos} {kt k2 pt2} (hc : X.calm = true) (hN : X.N.Nodup) (hi : X.N[i]? = some x) (hj : X.N[j]? = some y) (hij : i ≠ j)
    (hx : X.env.scope.names.lookup x = some .local) (hy : X.env.scope.names.lookup y = some .local) (ha : PA X [a, b] (fA K fs))
    (hw : swappedStores [.Tuple [.Name x px, .Name y py] kt pt] (.Tuple [a, b] k2 pt2) X.env = pure (some [x, y]))
    (hs : swapsWithSole [.Tuple [.Name x px, .Name y py] kt pt] (.Tuple [a, b] k2 pt2) pos.line X.env = pure false) :
    PS X (.Assign [.Tuple [.Name x px, .Name y py] kt pt] (.Tuple [a, b] k2 pt2) pos) (fS K (sPar i j fs) [i, j]) := (ps_par hc hN hi hj hij hx hy ha hw hs).mono fun D σ H h => by
  obtain ⟨F, e, fl, R, hf, q⟩ := h
  unfold sPar at hf
  obtain ⟨⟨rs, e1⟩, h1, hf⟩ := Option.bind_eq_some_iff.mp hf
  refine ⟨F, e, rs, e1, R, h1, fun F1 H1 vs X1 R1 A1 => ?_⟩
  match rs, hf, A1 with
  | [.d x, .d y], hf, A1 =>
    cases hf
    obtain ⟨v, u, rfl, a1, a2⟩ := rvs_two A1
    obtain ⟨R2, o2⟩ := R1.setD i a1
    obtain ⟨R3, o3⟩ := R2.setD j a2
    refine ⟨v, u, rfl, q F1 H1 _ ⟨X1.sf, X1.dom, X1.fr, X1.lst, X1.tmp, fun a h => X1.ow a (o2 a (o3 a h)), fun m n => ?_⟩ R3⟩
    rw [List.getElem?_set_ne (fun z => n (by simp [z])), List.getElem?_set_ne (fun z => n (by simp [z]))]
/-- xs[i] = v of an own list -/
def dat1 : Rv → Option PyData
  | .d x => some x
  | .l xs => some (.list xs)
  | .s _ => none
theorem datas_one {r : Rv} {d : PyData} (h : dat1 r = some d) : datas [r] = some [d] := by
  cases r with
  | d x => cases h; rfl
  | l xs => cases h; rfl
  | s i => cases h
/-! ### while -/
def whileF (ft : FT) (f : FS) : Nat → FS
  | 0, _ => none
  | n + 1, e => (ft e).bind fun p => if p.1 = true then (f p.2).bind fun fl => match fl with
      | .nx e1 => whileF ft f n e1
      | .ct e1 => whileF ft f n e1
      | .bk e1 => some (.nx e1)
      | .rt r e1 => some (.rt r e1)
    else some (.nx p.2)
def sWhile (n : Nat) (ft : FT) (f : FS) : FS := whileF ft f n
theorem qs_while {n : Nat} {c : Expr} {body : List Stmt} (hp : PassesOwn (model X.prog X.w) X.A X.env X.xe) (hc : PT X c (fT K ft)) (hb : PSs X body (fS K f W)) : PS X (.While c body [] pos) (fS K (sWhile n ft f) W) := (ps_while hp hc hb).mono fun D σ H h => by
  refine ⟨fun m σ H => ∃ F e fl, Rel K F H σ e ∧ whileF ft f m e = some fl ∧ flGo K W σ F H e D fl, ⟨n, h⟩, ?_⟩
  rintro m σ H ⟨F, e, fl, R, hf, q⟩
  cases m with
  | zero => cases hf
  | succ m =>
    unfold whileF at hf
    obtain ⟨⟨x, e1⟩, h1, hf⟩ := Option.bind_eq_some_iff.mp hf
    refine ⟨F, e, x, e1, R, h1, fun F1 H1 X1 R1 => ?_⟩
    have sub : ∀ j, j ∈ ([] : List Nat) → j ∈ W := fun j h => by cases h
    cases x with
    | false =>
      rw [if_neg (by simp)] at hf
      cases hf
      exact iteF (q F1 H1 σ X1.s R1)
    | true =>
      rw [if_pos rfl] at hf
      refine iteT ?_
      obtain ⟨fl1, h2, hf⟩ := Option.bind_eq_some_iff.mp hf
      have q1 : flGo K W σ F1 H1 e1 D fl := q.later (W1 := []) X1.s sub fun j h => h
      refine ⟨fun σ' H' => ∃ F' e', Rel K F' H' σ' e' ∧ whileF ft f m e' = some fl ∧ flGo K W σ' F' H' e' D fl, fun σ' H' ⟨F', e', r1, r2, r3⟩ => ⟨m, Nat.lt_succ_self m, F', e', fl, r1, r2, r3⟩, F1, e1, fl1, R1, h2, ?_⟩
      cases fl1 with
      | nx e2 => exact fun F2 H2 σ2 x R2 => ⟨F2, e2, R2, hf, q1.later x (fun j h => h) fun j h => h⟩
      | ct e2 => exact fun F2 H2 σ2 x R2 => ⟨F2, e2, R2, hf, q1.later x (fun j h => h) fun j h => h⟩
      | bk e2 => cases hf; exact fun F2 H2 σ2 x R2 => q1 F2 H2 σ2 x R2
      | rt r e2 => cases hf; exact fun F2 H2 σ2 v x R2 A => q1 F2 H2 σ2 v x R2 A
end
end L2

set_option Elab.async false
set_option linter.all false
set_option maxRecDepth 100000
set_option maxHeartbeats 4000000
namespace L2
open PySem PySem.Spec PyProof.Rows
theorem PI.mono {X : Cx} {tg iter : Expr} {t t' : TI} (h : PI X tg iter t) (m : ∀ σ H R, t' σ H R → t σ H R) : PI X tg iter t' := fun pins s σ H R I q => h pins s σ H R I (m σ H R q)
theorem PI.or {X : Cx} {tg iter : Expr} {t t' : TI} (h : PI X tg iter t) (h' : PI X tg iter t') : PI X tg iter (fun σ H R => t σ H R ∨ t' σ H R) := fun pins s σ H R I q => by
  rcases q with q | q
  · exact h pins s σ H R I q
  · exact h' pins s σ H R I q
/-- the own lists that are walked: their slots, what stands in them -/
abbrev OwnW := List (Nat × List PyData)
def Held (K : PySem.W.Frag) (σ : L2.St) (F H : Hp) (own : OwnW) : Prop := ∀ p ∈ own, ∃ l vs, σ[p.1]? = some (some (.ref l)) ∧ H l = some (.lst vs) ∧ DAs K F p.2 vs
/-- what is walked yields these data -/
def ItOk (K : PySem.W.Frag) (σ : L2.St) (J : It) (items : List PyData) (own : OwnW) (F0 : Hp) : Prop := ∀ F H, Same F0 F → Same F H → Held K σ F H own →
  (∀ i, i < items.length → J.go i H) ∧ (∀ i, items.length ≤ i → J.stop i H) ∧ ∀ i d x H', items[i]? = some d → J.yld i H x H' → ∃ F', Same H H' ∧ Same F F' ∧ Same F' H' ∧ (∀ a, F a = none → H a ≠ none → F' a = none) ∧ DA K F' d x
abbrev FI := En → Option (List PyData × OwnW × En)
def keeps (own : OwnW) (e : En) : Prop := ∀ p ∈ own, e[p.1]? = some (some (.l p.2))
def fI (K : PySem.W.Frag) (f : FI) : TI := fun σ H R => ∃ F e items own e', Rel K F H σ e ∧ f e = some (items, own, e') ∧ ∀ J F' H', Ext σ F H e F' H' e' → Rel K F' H' σ e' → keeps own e' → ItOk K σ J items own F' → R J H'
section
variable {K : PySem.W.Frag} {σ : L2.St} {H0 F H F' H' : Hp} {e e' : En}
theorem Rel.held (R : Rel K F H σ e) {own : OwnW} (h : keeps own e) : Held K σ F H own := fun p hp => by
  obtain ⟨l, vs, h1, h2, h3, h4⟩ := R.own p.1 p.2 (h p hp)
  exact ⟨l, vs, h1, h3, h4⟩
theorem Rel.step (R : Rel K F H σ e) (s : Same H H') (sF : Same F F') (sm : Same F' H') (fz : ∀ a, F a = none → H a ≠ none → F' a = none) : Rel K F' H' σ e ∧ Ext σ F H e F' H' e := by
  obtain ⟨R', o'⟩ := R.keep sF sm (fun a ⟨i, h⟩ => by
    obtain ⟨h1, vs, h2⟩ := R.fpAt h
    exact fz a h1 (by rw [h2]; simp)) fun a o _ h => s a o h
  exact ⟨R', ⟨sF, fun a h => s.free h, fun a vs h1 h2 _ => fz a h1 (by rw [h2]; simp), fun a vs h => ⟨vs, s _ _ h⟩, fun a o h _ => s a o h, fun _ => Iff.rfl, fun a h => .inl ((o' a).mp h)⟩⟩
/-- the place that is walked, and how its items stand -/
inductive Src (K : PySem.W.Frag) (σ : L2.St) (F : Hp) (p : Addr) : Bool → List PyData → OwnW → Prop
  | tup {xs vs} : SqT K F p vs → DAs K F xs vs → Src K σ F p false xs []
  | lst {xs vs} : SqL K F p vs → DAs K F xs vs → Src K σ F p true xs []
  | own {i xs} : σ[i]? = some (some (.ref p)) → Src K σ F p true xs [(i, xs)]
theorem Src.at {p : Addr} {b : Bool} {xs : List PyData} {own : OwnW} {F0 : Hp} (h : Src K σ F0 p b xs own) (s0 : Same F0 F) (s1 : Same F H) {own' : OwnW} (hh : Held K σ F H own') (hs : ∀ q ∈ own, q ∈ own') : ∃ vs, DAs K F xs vs ∧ (if b = true then SqL K H p vs else SqT K H p vs) := by
  cases h with
  | tup h1 h2 => exact ⟨_, h2.mono s0, (s0.trans s1).tup h1⟩
  | lst h1 h2 => exact ⟨_, h2.mono s0, (s0.trans s1).seq h1⟩
  | @own i xs h1 =>
    obtain ⟨l, vs, g1, g2, g3⟩ := hh (i, xs) (hs (i, xs) (by simp))
    dsimp only at g1 g3
    rw [h1] at g1; cases g1
    exact ⟨vs, g3, .inl (.inl g2)⟩
/-- the source of a result -/
def srcR (e : En) : Rv → Option (Bool × List PyData × OwnW)
  | .d (.tuple xs) => some (false, xs, [])
  | .d (.list xs) => some (true, xs, [])
  | .l xs => some (true, xs, [])
  | .s i => match e[i]? with
    | some (some (.l xs)) => some (true, xs, [(i, xs)])
    | _ => none
  | _ => none
theorem srcR_at {r : Rv} {v : V} {b : Bool} {xs : List PyData} {own : OwnW} (R : Rel K F H σ e) (A : RvAt K σ H0 F H e r v) (h : srcR e r = some (b, xs, own)) :
    ∃ F' p, Rel K F' H σ e ∧ Same F F' ∧ (∀ a, F a = none → H0 a ≠ none → F' a = none) ∧ v = .ref p ∧ Src K σ F' p b xs own ∧ keeps own e := by
  cases r with
  | d x =>
    cases x with
    | tuple ds =>
      cases h
      obtain ⟨a, ys, e1, e2, e3⟩ := da_tup.mp A
      exact ⟨F, a, R, Same.refl _, fun _ h _ => h, e1, .tup e2 e3, fun p hp => by cases hp⟩
    | list ds =>
      cases h
      obtain ⟨a, ys, e1, e2, e3⟩ := da_lst.mp A
      exact ⟨F, a, R, Same.refl _, fun _ h _ => h, e1, .lst e2 e3, fun p hp => by cases hp⟩
    | _ => cases h
  | l ys =>
    cases h
    obtain ⟨F', R', s', d', f'⟩ := A.frozen R
    obtain ⟨a, ys, e1, e2, e3⟩ := da_lst.mp d'
    exact ⟨F', a, R', s', f', e1, .lst e2 e3, fun p hp => by cases hp⟩
  | s i =>
    obtain ⟨h1, ys, h2⟩ := A
    simp only [srcR, h2] at h
    cases h
    obtain ⟨l, vs, e1, e2, e3, e4⟩ := R.own i _ h2
    rw [h1] at e1; cases e1
    exact ⟨F, l, R, Same.refl _, fun _ h _ => h, rfl, .own h1, fun p hp => by simp only [List.mem_singleton] at hp; subst hp; exact h2⟩
theorem itOk_list {p : Addr} {xs : List PyData} {own : OwnW} {F0 : Hp} (h : Src K σ F0 p true xs own) : ItOk K σ (Itl K p) xs own F0 := by
  intro F H s0 s1 hh
  obtain ⟨vs, d, q⟩ := h.at s0 s1 hh fun _ h => h
  have q : SqL K H p vs := q
  refine ⟨fun i hi => ⟨vs, vs[i]'(by rw [← d.len]; exact hi), q, List.getElem?_eq_getElem _⟩, fun i hi => ⟨vs, q, by rw [← d.len]; exact hi⟩, fun i x v H' hx hy => ?_⟩
  obtain ⟨rfl, hy⟩ := hy
  obtain ⟨w, g1, g2⟩ := d.get hx
  have e := hy vs q
  rw [g1] at e; cases e
  exact ⟨F, Same.refl _, Same.refl _, s1, fun _ h _ => h, g2⟩
theorem itOk_tup {p : Addr} {xs : List PyData} {own : OwnW} {F0 : Hp} (h : Src K σ F0 p false xs own) : ItOk K σ (Itt K p) xs own F0 := by
  intro F H s0 s1 hh
  obtain ⟨vs, d, q⟩ := h.at s0 s1 hh fun _ h => h
  have q : SqT K H p vs := q
  refine ⟨fun i hi => ⟨vs, vs[i]'(by rw [← d.len]; exact hi), q, List.getElem?_eq_getElem _⟩, fun i hi => ⟨vs, q, by rw [← d.len]; exact hi⟩, fun i x v H' hx hy => ?_⟩
  obtain ⟨rfl, hy⟩ := hy
  obtain ⟨w, g1, g2⟩ := d.get hx
  have e := hy vs q
  rw [g1] at e; cases e
  exact ⟨F, Same.refl _, Same.refl _, s1, fun _ h _ => h, g2⟩
/-- a pair made for the turn -/
theorem new_pair {p : Addr} {x y : V} {a b : PyData} (s1 : Same F H) (hp : H p = none) (hx : DA K F a x) (hy : DA K F b y) : ∃ F', Same H (upd H p (.tup [x, y])) ∧ Same F F' ∧ Same F' (upd H p (.tup [x, y])) ∧ (∀ c, F c = none → H c ≠ none → F' c = none) ∧ DA K F' (.tuple [a, b]) (.ref p) := by
  have hF : F p = none := s1.free hp
  have sF : Same F (upd F p (.tup [x, y])) := Same.new hF
  refine ⟨upd F p (.tup [x, y]), Same.new hp, sF, fun b o q => ?_, fun c h n => ?_, da_tup.mpr ⟨p, _, rfl, .inl (.inl upd_same), .cons (DA.mono sF hx) (.one (DA.mono sF hy))⟩⟩
  · by_cases z : b = p
    · subst z; rw [upd_same] at q ⊢; exact q
    · rw [upd_ne z] at q ⊢; exact s1 _ _ q
  · have z : c ≠ p := fun z => n (by rw [z]; exact hp)
    rw [upd_ne z]; exact h
def enumD : Nat → List PyData → List PyData
  | _, [] => []
  | n, x :: r => .tuple [.int n, x] :: enumD (n + 1) r
theorem enumD_get : ∀ {xs : List PyData} {n i : Nat}, (enumD n xs)[i]? = (xs[i]?).map fun x => .tuple [.int ((n + i : Nat) : Int), x]
  | [], n, i => by simp [enumD]
  | x :: r, n, 0 => by simp [enumD]
  | x :: r, n, i + 1 => by
    simp only [enumD, List.getElem?_cons_succ]
    rw [enumD_get (xs := r) (n := n + 1) (i := i)]
    congr 1
    funext y
    rw [show n + 1 + i = n + (i + 1) by omega]
theorem enumD_len : ∀ (xs : List PyData) (n : Nat), (enumD n xs).length = xs.length
  | [], _ => rfl
  | x :: r, n => by simp [enumD, enumD_len r (n + 1)]
theorem itOk_enumL {p : Addr} {xs : List PyData} {own : OwnW} {F0 : Hp} (h : Src K σ F0 p true xs own) : ItOk K σ (IteL K p) (enumD 0 xs) own F0 := by
  intro F H s0 s1 hh
  obtain ⟨vs, d, q⟩ := h.at s0 s1 hh fun _ h => h
  have q : SqL K H p vs := q
  rw [enumD_len]
  refine ⟨fun i hi => ⟨vs, vs[i]'(by rw [← d.len]; exact hi), q, List.getElem?_eq_getElem _⟩, fun i hi => ⟨vs, q, by rw [← d.len]; exact hi⟩, fun i x v H' hx hy => ?_⟩
  obtain ⟨t, y, rfl, ht, rfl, hy⟩ := hy
  rw [enumD_get] at hx
  obtain ⟨x', hx2, rfl⟩ := Option.map_eq_some_iff.mp hx
  obtain ⟨w, g1, g2⟩ := d.get hx2
  have e := hy vs q
  rw [g1] at e; cases e
  exact new_pair s1 ht (da_int.mpr (by simp)) g2
theorem itOk_enumT {p : Addr} {xs : List PyData} {own : OwnW} {F0 : Hp} (h : Src K σ F0 p false xs own) : ItOk K σ (IteT K p) (enumD 0 xs) own F0 := by
  intro F H s0 s1 hh
  obtain ⟨vs, d, q⟩ := h.at s0 s1 hh fun _ h => h
  have q : SqT K H p vs := q
  rw [enumD_len]
  refine ⟨fun i hi => ⟨vs, vs[i]'(by rw [← d.len]; exact hi), q, List.getElem?_eq_getElem _⟩, fun i hi => ⟨vs, q, by rw [← d.len]; exact hi⟩, fun i x v H' hx hy => ?_⟩
  obtain ⟨t, y, rfl, ht, rfl, hy⟩ := hy
  rw [enumD_get] at hx
  obtain ⟨x', hx2, rfl⟩ := Option.map_eq_some_iff.mp hx
  obtain ⟨w, g1, g2⟩ := d.get hx2
  have e := hy vs q
  rw [g1] at e; cases e
  exact new_pair s1 ht (da_int.mpr (by simp)) g2
def rangeD (lo : Int) (n : Nat) : List PyData := (List.range n).map fun (i : Nat) => .int (lo + (i : Int))
theorem itOk_range {lo : Int} {n : Nat} {F0 : Hp} : ItOk K σ (Itr lo n) (rangeD lo n) [] F0 := by
  intro F H s0 s1 hh
  unfold rangeD
  rw [List.length_map, List.length_range]
  refine ⟨fun i hi => hi, fun i hi => hi, fun i x v H' hx hy => ?_⟩
  obtain ⟨rfl, rfl⟩ := hy
  rw [List.getElem?_map] at hx
  obtain ⟨k, h1, rfl⟩ := Option.map_eq_some_iff.mp hx
  have h2 := (List.getElem?_eq_some_iff.mp h1).2
  simp at h2
  subst h2
  exact ⟨F, Same.refl _, Same.refl _, s1, fun _ h _ => h, da_int.mpr rfl⟩
end
section
variable {X : Cx} {K : PySem.W.Frag} {tg a b : Expr} {es : List Expr} {fa : FE} {fs : FA} {pos p tp : Pos} {k0 : Nat}
/-! ### the iterables -/
def iSeq (fa : FE) : FI := fun e => (fa e).bind fun p => (srcR p.2 p.1).map fun s => (s.2.1, s.2.2, p.2)
theorem qi_seq (hK : X.K = K) (h : PE X a (fE K fa)) : PI X tg a (fI K (iSeq fa)) := ((pi_listK (tg := tg) hK h).or (pi_tupK (tg := tg) hK h)).mono fun σ H R hh => by
  obtain ⟨F, e, items, own, e', R0, hf, q⟩ := hh
  unfold iSeq at hf
  obtain ⟨⟨r, e1⟩, h1, hf⟩ := Option.bind_eq_some_iff.mp hf
  obtain ⟨⟨b, xs, ow⟩, h2, hf⟩ := Option.map_eq_some_iff.mp hf
  cases hf
  cases b with
  | true =>
    refine .inl ⟨F, e, r, e1, R0, h1, fun F1 H1 v X1 R1 A1 => ?_⟩
    obtain ⟨F2, p, R2, s2, f2, rfl, sc, kp⟩ := srcR_at R1 A1 h2
    obtain ⟨vs, _, c⟩ := sc.at (Same.refl _) R2.sm (R2.held kp) fun _ h => h
    exact ⟨p, rfl, ⟨vs, c⟩, q _ F2 H1 (X1.frz s2 f2) R2 kp (itOk_list sc)⟩
  | false =>
    refine .inr ⟨F, e, r, e1, R0, h1, fun F1 H1 v X1 R1 A1 => ?_⟩
    obtain ⟨F2, p, R2, s2, f2, rfl, sc, kp⟩ := srcR_at R1 A1 h2
    obtain ⟨vs, _, c⟩ := sc.at (Same.refl _) R2.sm (R2.held kp) fun _ h => h
    exact ⟨p, rfl, ⟨vs, c⟩, q _ F2 H1 (X1.frz s2 f2) R2 kp (itOk_tup sc)⟩
def iEnum (fs : FA) : FI := fun e => (fs e).bind fun p => match p.1 with
  | [r] => (srcR p.2 r).map fun s => (enumD 0 s.2.1, s.2.2, p.2)
  | _ => none
theorem qi_enum (hK : X.K = K) (hg : Gl X "enumerate") (hm : X.mg "enumerate" = none) (ha : PA X [a] (fA K fs)) (hs : starEach [a] X.env = [(false, eval a X.env)]) : PI X (.Tuple es k0 tp) (.Call (.Name "enumerate" p) [a] [] pos) (fI K (iEnum fs)) := ((pi_enumL (es := es) (k0 := k0) (tp := tp) hK hg hm ha hs).or (pi_enumT (es := es) (k0 := k0) (tp := tp) hK hg hm ha hs)).mono fun σ H R hh => by
  obtain ⟨F, e, items, own, e', R0, hf, q⟩ := hh
  unfold iEnum at hf
  obtain ⟨⟨rs, e1⟩, h1, hf⟩ := Option.bind_eq_some_iff.mp hf
  match rs, h1, hf with
  | [r], h1, hf =>
  obtain ⟨⟨b, xs, ow⟩, h2, hf⟩ := Option.map_eq_some_iff.mp hf
  cases hf
  cases b with
  | true =>
    refine .inl ⟨F, e, _, e1, R0, h1, fun F1 H1 vs X1 R1 A1 => ?_⟩
    obtain ⟨v, rfl, A2⟩ := rvs_one A1
    obtain ⟨F2, p, R2, s2, f2, rfl, sc, kp⟩ := srcR_at R1 A2 h2
    obtain ⟨vs, _, c⟩ := sc.at (Same.refl _) R2.sm (R2.held kp) fun _ h => h
    exact ⟨p, rfl, ⟨vs, c⟩, q _ F2 H1 (X1.frz s2 f2) R2 kp (itOk_enumL sc)⟩
  | false =>
    refine .inr ⟨F, e, _, e1, R0, h1, fun F1 H1 vs X1 R1 A1 => ?_⟩
    obtain ⟨v, rfl, A2⟩ := rvs_one A1
    obtain ⟨F2, p, R2, s2, f2, rfl, sc, kp⟩ := srcR_at R1 A2 h2
    obtain ⟨vs, _, c⟩ := sc.at (Same.refl _) R2.sm (R2.held kp) fun _ h => h
    exact ⟨p, rfl, ⟨vs, c⟩, q _ F2 H1 (X1.frz s2 f2) R2 kp (itOk_enumT sc)⟩
theorem Src.mono {σ : L2.St} {F F' : Hp} {p : Addr} {b : Bool} {xs : List PyData} {own : OwnW} (h : Src K σ F p b xs own) (s : Same F F') : Src K σ F' p b xs own := by
  cases h with
  | tup h1 h2 => exact .tup (s.tup h1) (h2.mono s)
  | lst h1 h2 => exact .lst (s.seq h1) (h2.mono s)
  | own h1 => exact .own h1
def rngB (j : Int) : Bool := decide (-1000000 ≤ j) && decide (j ≤ 1000000)
theorem rngB_iff {j : Int} (h : rngB j = true) : -1000000 ≤ j ∧ j ≤ 1000000 := by
  unfold rngB at h
  rw [Bool.and_eq_true, decide_eq_true_iff, decide_eq_true_iff] at h
  exact h
def iRange1 (fs : FA) : FI := fun e => (fs e).bind fun p => match p.1 with
  | [r] => (intOf r).bind fun j => if rngB j = true then some (rangeD 0 j.toNat, [], p.2) else none
  | _ => none
theorem qi_range1 (hg : Gl X "range") (hm : X.mg "range" = none) (ha : PA X [a] (fA K fs)) (hs : starEach [a] X.env = [(false, eval a X.env)]) : PI X tg (.Call (.Name "range" p) [a] [] pos) (fI K (iRange1 fs)) := (pi_range1 hg hm ha hs).mono fun σ H R hh => by
  obtain ⟨F, e, items, own, e', R0, hf, q⟩ := hh
  unfold iRange1 at hf
  obtain ⟨⟨rs, e1⟩, h1, hf⟩ := Option.bind_eq_some_iff.mp hf
  match rs, h1, hf with
  | [r], h1, hf =>
  obtain ⟨j, h2, hf⟩ := Option.bind_eq_some_iff.mp hf
  split at hf
  case isFalse => cases hf
  case isTrue hj =>
  cases hf
  refine ⟨F, e, _, e1, R0, h1, fun F1 H1 vs X1 R1 A1 => ?_⟩
  obtain ⟨v, rfl, A2⟩ := rvs_one A1
  have := rngB_iff hj
  exact ⟨j, by rw [intOf_at A2 h2], by omega, by omega, q _ F1 H1 X1 R1 (fun _ h => by cases h) itOk_range⟩
/-! ### for -/
open Classical in
noncomputable def forF (own : OwnW) (g : FG) (f : FS) : List PyData → FS
  | [], e => some (.nx e)
  | x :: r, e => (g x e).bind fun e1 => (f e1).bind fun fl => match fl with
    | .nx e2 => if keeps own e2 then forF own g f r e2 else none
    | .ct e2 => if keeps own e2 then forF own g f r e2 else none
    | .bk e2 => some (.nx e2)
    | .rt v e2 => some (.rt v e2)
noncomputable def sFor (W : List Nat) (fi : FI) (g : FG) (f : FS) : FS := fun e => (fi e).bind fun p => if (p.2.1.all fun q => !W.contains q.1) = true then forF p.2.1 g f p.1 p.2.2 else none
theorem qs_for {W1 W2 : List Nat} {iter : Expr} {body : List Stmt} {fi : FI} {g : FG} {f : FS} (hp : PassesOwn (model X.prog X.w) X.A X.env X.xe) (hc : X.calm = true) (hi : PI X tg iter (fI K fi)) (hg : PG X tg (fG K g W1)) (hb : PSs X body (fS K f W2)) (hs : ∀ x, foldedSetIterable iter X.env x = pure x) :
    PS X (.For tg iter body [] pos) (fS K (sFor (W1 ++ W2) fi g f) (W1 ++ W2)) := (ps_for hp hc hi hg hb hs).mono fun D σ0 H0 hh => by
  obtain ⟨F0, e0, fl, R0, hf, q0⟩ := hh
  unfold sFor at hf
  obtain ⟨⟨items, own, e1⟩, h1, hf⟩ := Option.bind_eq_some_iff.mp hf
  dsimp only at hf
  split at hf
  case isFalse => cases hf
  case isTrue hW =>
  have hW' : ∀ p ∈ own, p.1 ∉ W1 ++ W2 := fun p hp => by
    have := List.all_eq_true.mp hW p hp
    simpa using this
  refine ⟨F0, e0, items, own, e1, R0, h1, fun J F1 H1 X1 R1 kp ok => ?_⟩
  have s1 : ∀ j, j ∈ W1 → j ∈ W1 ++ W2 := fun j h => List.mem_append.mpr (.inl h)
  have s2 : ∀ j, j ∈ W2 → j ∈ W1 ++ W2 := fun j h => List.mem_append.mpr (.inr h)
  have q1 : flGo K (W1 ++ W2) σ0 F1 H1 e1 D fl := q0.later (W1 := []) X1.s (fun j h => by cases h) fun j h => h
  refine ⟨fun i m σ H => m = items.length - i ∧ i ≤ items.length ∧ ∃ F e, Rel K F H σ e ∧ keeps own e ∧ (∀ p ∈ own, σ[p.1]? = σ0[p.1]?) ∧ Same F1 F ∧ forF own g f (items.drop i) e = some fl ∧ flGo K (W1 ++ W2) σ F H e D fl,
    ⟨items.length, by simp, Nat.zero_le _, F1, e1, R1, kp, fun _ _ => rfl, Same.refl _, hf, q1⟩, ?_⟩
  rintro i m σ H ⟨rfl, hi, F, e, R, kp, hσ, sF, hf, q⟩
  have held : Held K σ0 F H own := fun p hp => by
    obtain ⟨l, vs, g1, g2⟩ := R.held kp p hp
    exact ⟨l, vs, by rw [← hσ p hp]; exact g1, g2⟩
  obtain ⟨go, stop, yld⟩ := ok F H sF R.sm held
  by_cases hlt : i < items.length
  · have hd : items.drop i = items[i] :: items.drop (i + 1) := List.drop_eq_getElem_cons hlt
    rw [hd] at hf
    unfold forF at hf
    obtain ⟨e2, h2, hf⟩ := Option.bind_eq_some_iff.mp hf
    obtain ⟨fl2, h3, hf⟩ := Option.bind_eq_some_iff.mp hf
    refine .inr ⟨go i hlt, fun σ' H' => ∃ F' e', Rel K F' H' σ' e' ∧ keeps own e' ∧ (∀ p ∈ own, σ'[p.1]? = σ0[p.1]?) ∧ Same F1 F' ∧ forF own g f (items.drop (i + 1)) e' = some fl ∧ flGo K (W1 ++ W2) σ' F' H' e' D fl,
      fun σ' H' ⟨F', e', r⟩ => ⟨items.length - (i + 1), by omega, rfl, hlt, F', e', r⟩, fun x H' hy => ?_⟩
    obtain ⟨F', sH, sF', sm', fz, hx⟩ := yld i items[i] x H' (List.getElem?_eq_getElem hlt) hy
    obtain ⟨R', X'⟩ := R.step sH sF' sm' fz
    refine ⟨F', e, items[i], e2, R', hx, h2, fun σ2 x2 R2 => ⟨F', e2, fl2, R2, h3, ?_⟩⟩
    have q2 : flGo K (W1 ++ W2) σ2 F' H' e2 D fl := (q.later (W1 := []) (W2 := W1 ++ W2) X'.s (fun j h => by cases h) fun j h => h).later x2 s1 fun j h => h
    have w2 : ∀ p ∈ own, σ2[p.1]? = σ0[p.1]? := fun p hp => (x2.wr p.1 fun z => hW' p hp (s1 _ z)).trans (hσ p hp)
    cases fl2 with
    | nx e3 =>
      intro F3 H3 σ3 x3 R3
      dsimp only at hf
      split at hf
      case isFalse => cases hf
      case isTrue kp3 =>
      exact ⟨F3, e3, R3, kp3, fun p hp => (x3.wr p.1 fun z => hW' p hp (s2 _ z)).trans (w2 p hp), sF.trans (sF'.trans x3.sf), hf, q2.later x3 s2 fun j h => h⟩
    | ct e3 =>
      intro F3 H3 σ3 x3 R3
      dsimp only at hf
      split at hf
      case isFalse => cases hf
      case isTrue kp3 =>
      exact ⟨F3, e3, R3, kp3, fun p hp => (x3.wr p.1 fun z => hW' p hp (s2 _ z)).trans (w2 p hp), sF.trans (sF'.trans x3.sf), hf, q2.later x3 s2 fun j h => h⟩
    | bk e3 =>
      cases hf
      exact fun F3 H3 σ3 x3 R3 => q2 F3 H3 σ3 (x3.mono s2) R3
    | rt r e3 =>
      cases hf
      exact fun F3 H3 σ3 v x3 R3 A3 => q2 F3 H3 σ3 v (x3.mono s2) R3 A3
  · have hd : items.drop i = [] := List.drop_eq_nil_of_le (by omega)
    rw [hd] at hf
    cases hf
    exact .inl ⟨stop i (by omega), q F H σ ExtS.refl R⟩
end
end L2

set_option Elab.async false
set_option linter.all false
set_option maxRecDepth 100000
set_option maxHeartbeats 4000000
namespace L2
open PySem PySem.Spec PyProof.Rows
/-! ### a part of the slots is lent to a block or a call -/
def isL : Option (Option Sv) → Bool
  | some (some (.l _)) => true
  | _ => false
theorem isL_iff {s : Option (Option Sv)} : isL s = true ↔ ∃ xs, s = some (some (.l xs)) := by
  unfold isL
  split
  · simp
  · rename_i h
    constructor
    · intro z; cases z
    · rintro ⟨xs, rfl⟩; exact absurd rfl (h xs)
def updE (pos : Nat → Option Nat) (ei e : En) : En := e.mapIdx fun i s => match s with
  | some (.l xs) => match pos i with
    | some k => (ei[k]?).join
    | none => some (.l xs)
  | s => s
theorem updE_get {pos : Nat → Option Nat} {ei e : En} {i : Nat} : (updE pos ei e)[i]? = (e[i]?).map fun s => match s with
  | some (.l xs) => match pos i with
    | some k => (ei[k]?).join
    | none => some (.l xs)
  | s => s := by unfold updE; rw [List.getElem?_mapIdx]
structure SubOk (σ : L2.St) (e : En) (σi : L2.St) (ei : En) (pos : Nat → Option Nat) : Prop where
  a : ∀ (i k : Nat) (xs : List PyData), e[i]? = some (some (.l xs)) → pos i = some k → σi[k]? = σ[i]?
  b : ∀ (k : Nat) (ys : List PyData), ei[k]? = some (some (.l ys)) → ∃ (i : Nat) (xs : List PyData), e[i]? = some (some (.l xs)) ∧ pos i = some k ∧ σi[k]? = σ[i]?
section
variable {K : PySem.W.Frag} {σ σi σi' : L2.St} {F H F' H' : Hp} {e ei ei' : En} {pos : Nat → Option Nat}
/-- no list of lists is lent -/
def noN (e : En) : Prop := ∀ (i : Nat) (xss : List (List PyData)), e[i]? ≠ some (some (.n xss))
theorem SubOk.own (s : SubOk σ e σi ei pos) (hn : noN ei) {a : Addr} {H H' : Hp} (h : Own σi ei H a) : ∃ (i k : Nat) (xs : List PyData), e[i]? = some (some (.l xs)) ∧ pos i = some k ∧ σ[i]? = some (some (.ref a)) := by
  obtain ⟨k, ⟨ys, h1, h2⟩ | ⟨xss, _, _, h1, _⟩⟩ := h
  · obtain ⟨i, xs, g1, g2, g3⟩ := s.b k ys h1
    exact ⟨i, k, xs, g1, g2, by rw [← g3]; exact h2⟩
  · exact absurd h1 (hn k xss)
theorem sub_back (R : Rel K F H σ e) (s : SubOk σ e σi ei pos) (hnn : noN ei) (sf : Same F F') (dom : ∀ a, H' a = none → H a = none) (fr : ∀ a vs, F a = none → H a = some (.lst vs) → ¬ Own σi ei H a → F' a = none) (lst : ∀ a vs, H a = some (.lst vs) → ∃ vs', H' a = some (.lst vs'))
    (tmp : ∀ a o, H a = some o → ¬ Own σi ei H a → H' a = some o) (R' : Rel K F' H' σi' ei') (hσ : ∀ (i k : Nat) (xs : List PyData), e[i]? = some (some (.l xs)) → pos i = some k → σi'[k]? = σi[k]?) (hsh : ∀ (i k : Nat) (xs : List PyData), e[i]? = some (some (.l xs)) → pos i = some k → ∃ ys, ei'[k]? = some (some (.l ys))) :
    Rel K F' H' σ (updE pos ei' e) ∧ Ext σ F H e F' H' (updE pos ei' e) ∧ ∀ a, Own σ (updE pos ei' e) H' a → Own σ e H a := by
  have shp : ∀ i : Nat, (∃ xs, (updE pos ei' e)[i]? = some (some (.l xs))) ↔ (∃ xs, e[i]? = some (some (.l xs))) := by
    intro i
    rw [updE_get]
    match h : e[i]? with
    | none => simp
    | some none => simp
    | some (some (.d x)) => simp
    | some (some (.n x)) => simp
    | some (some (.l xs)) =>
      simp only [Option.map_some]
      constructor
      · intro _; exact ⟨xs, rfl⟩
      · intro _
        match hp : pos i with
        | none => exact ⟨xs, rfl⟩
        | some k =>
          obtain ⟨ys, g⟩ := hsh i k xs h hp
          exact ⟨ys, by show some ((ei'[k]?).join) = _; rw [g]; rfl⟩
  have oth : ∀ (i : Nat) (s : Sv), (∀ xs, s ≠ .l xs) → ((updE pos ei' e)[i]? = some (some s) ↔ e[i]? = some (some s)) := by
    intro i s hs
    constructor
    · intro h
      rw [updE_get] at h
      match h1 : e[i]?, h with
      | some (some (.d y)), h => exact h
      | some (some (.n y)), h => exact h
      | some (some (.l ys)), h =>
        simp only [Option.map_some, Option.some.injEq] at h
        match hp : pos i, h with
        | none, h => cases h; exact absurd rfl (hs _)
        | some k, h =>
          obtain ⟨zs, g⟩ := hsh i k ys h1 hp
          change (ei'[k]?).join = _ at h
          rw [g] at h; cases h; exact absurd rfl (hs _)
      | some none, h => simp at h
      | none, h => simp at h
    · intro h
      rw [updE_get, h]
      cases s with
      | d y => rfl
      | n y => rfl
      | l y => exact absurd rfl (hs y)
  -- what stands outside stays
  have out : ∀ i a, Fp σ e H i a → (∀ k xs, e[i]? = some (some (.l xs)) → pos i ≠ some k) → ¬ Own σi ei H a := by
    intro i a hi hp z
    obtain ⟨j, k, ws, d1, d2, d3⟩ := s.own hnn (H' := H') z
    have : i = j := R.fp i j a hi (.inl ⟨ws, d1, d3⟩)
    subst this
    exact hp k ws d1 d2
  have keep : ∀ i a o, Fp σ e H i a → (∀ k xs, e[i]? = some (some (.l xs)) → pos i ≠ some k) → H a = some o → H' a = some o := fun i a o hi hp ha => tmp a o ha (out i a hi hp)
  have sown : ∀ a, Own σi ei H a → Own σ e H a := fun a z => by
    obtain ⟨j, k, ws, d1, d2, d3⟩ := s.own hnn (H' := H') z
    exact ⟨j, .inl ⟨ws, d1, d3⟩⟩
  have fs : ∀ i a, Fp σ (updE pos ei' e) H' i a ↔ Fp σ e H i a := by
    intro i a
    have key : ∀ xss l, e[i]? = some (some (.n xss)) → σ[i]? = some (some (.ref l)) → H' l = H l := fun xss l h1 h2 => by
      obtain ⟨l', bs, g1, g2, g3, _⟩ := R.nst i xss h1
      rw [h2] at g1; cases g1
      rw [g3]
      exact keep i l _ (.inr ⟨xss, l, bs, h1, h2, g3, .inl rfl⟩) (fun k xs z => by rw [h1] at z; cases z) g3
    constructor
    · rintro (⟨xs, h1, h2⟩ | ⟨xss, l, bs, h1, h2, h3, h4⟩)
      · obtain ⟨ys, h⟩ := (shp i).mp ⟨xs, h1⟩
        exact .inl ⟨ys, h, h2⟩
      · have h1' := (oth i (.n xss) (fun _ z => nomatch z)).mp h1
        exact .inr ⟨xss, l, bs, h1', h2, by rw [← key xss l h1' h2]; exact h3, h4⟩
    · rintro (⟨xs, h1, h2⟩ | ⟨xss, l, bs, h1, h2, h3, h4⟩)
      · obtain ⟨ys, h⟩ := (shp i).mpr ⟨xs, h1⟩
        exact .inl ⟨ys, h, h2⟩
      · exact .inr ⟨xss, l, bs, (oth i (.n xss) (fun _ z => nomatch z)).mpr h1, h2, by rw [key xss l h1 h2]; exact h3, h4⟩
  refine ⟨⟨R'.sm, ?_, fun i x h => ?_, fun i xs h => ?_, fun i xss h => ?_, fun i j a h1 h2 => R.fp i j a ((fs i a).mp h1) ((fs j a).mp h2)⟩, ⟨sf, dom, fun a vs h1 h2 n => fr a vs h1 h2 fun z => n (sown a z), lst, fun a o h n => tmp a o h fun z => n (sown a z), shp, fun a ⟨i, h⟩ => .inl ⟨i, (fs i a).mp h⟩⟩, fun a ⟨i, h⟩ => ⟨i, (fs i a).mp h⟩⟩
  · unfold updE; rw [List.length_mapIdx]; exact R.len
  · obtain ⟨v, g1, g2⟩ := R.dat i x ((oth i (.d x) (fun _ z => nomatch z)).mp h)
    exact ⟨v, g1, DA.mono sf g2⟩
  · obtain ⟨ys, h1⟩ := (shp i).mp ⟨xs, h⟩
    obtain ⟨l, vs, g1, g2, g3, g4⟩ := R.own i ys h1
    rw [updE_get, h1] at h
    simp only [Option.map_some, Option.some.injEq] at h
    match hp : pos i, h with
    | none, h =>
      cases h
      have np : ∀ k xs, e[i]? = some (some (Sv.l xs)) → pos i ≠ some k := fun k xs _ z => by rw [hp] at z; cases z
      have fi : Fp σ e H i l := .inl ⟨_, h1, g1⟩
      exact ⟨l, vs, g1, fr l vs g2 g3 (out i l fi np), keep i l _ fi np g3, g4.mono sf⟩
    | some k, h =>
      obtain ⟨zs, c1⟩ := hsh i k ys h1 hp
      change (ei'[k]?).join = _ at h
      rw [c1] at h; cases h
      obtain ⟨l', vs', d1, d2, d3, d4⟩ := R'.own k _ c1
      rw [hσ i k ys h1 hp, s.a i k ys h1 hp] at d1
      exact ⟨l', vs', d1, d2, d3, d4⟩
  · have h1 := (oth i (.n xss) (fun _ z => nomatch z)).mp h
    obtain ⟨l, bs, g1, g2, g3, g4, g5, g6, g7⟩ := R.nst i xss h1
    have np : ∀ k xs, e[i]? = some (some (Sv.l xs)) → pos i ≠ some k := fun k xs z => by rw [h1] at z; cases z
    have fi : Fp σ e H i l := .inr ⟨xss, l, bs, h1, g1, g3, .inl rfl⟩
    refine ⟨l, bs, g1, fr l _ g2 g3 (out i l fi np), keep i l _ fi np g3, g4, g5, g6, fun k b ys q1 q2 => ?_⟩
    obtain ⟨c1, us, c2, c3⟩ := g7 k b ys q1 q2
    have fb : Fp σ e H i b := .inr ⟨xss, l, bs, h1, g1, g3, .inr (List.mem_of_getElem? q1)⟩
    exact ⟨fr b _ c1 c2 (out i b fb np), us, keep i b _ fb np c2, c3.mono sf⟩
end
/-! ### calls of functions -/
def argsOf (e : En) : List Rv → Option (List Sv)
  | [] => some []
  | .d x :: r => (argsOf e r).map (.d x :: ·)
  | .l xs :: r => (argsOf e r).map (.d (.list xs) :: ·)
  | .s i :: r => match e[i]? with
    | some (some (.l xs)) => (argsOf e r).map (.l xs :: ·)
    | _ => none
def slotsOf : List Rv → List Nat
  | [] => []
  | .s i :: r => i :: slotsOf r
  | .d _ :: r => slotsOf r
  | .l _ :: r => slotsOf r
def posR (rs : List Rv) (i : Nat) : Option Nat := rs.findIdx? fun r => match r with
  | .s j => j == i
  | _ => false
def noS : Rv → Prop
  | .s _ => False
  | _ => True
abbrev FM := List Sv → Option (Rv × List Sv)
def spM (K : PySem.W.Frag) (n : Nat) (m : FM) : Sp := fun vs H Q _ => vs.length = n ∧ ∃ F as r as', Rel K F H (vs.map some) (as.map some) ∧ noN (as.map some) ∧ m as = some (r, as') ∧ noS r ∧
  ∀ F' H' v, Ext (vs.map some) F H (as.map some) F' H' (as'.map some) → Rel K F' H' (vs.map some) (as'.map some) → RvAt K (vs.map some) H F' H' (as'.map some) r v → Q v H'
def lentOk : List Rv → List Sv → Bool
  | [], [] => true
  | .s _ :: r, .l _ :: s => lentOk r s
  | .d _ :: r, _ :: s => lentOk r s
  | .l _ :: r, _ :: s => lentOk r s
  | _, _ => false
def noSB : Rv → Bool
  | .s _ => false
  | _ => true
def backS : List Rv → List Sv → En → En
  | .s i :: r, .l ys :: s, e => backS r s (e.set i (some (.l ys)))
  | .d _ :: r, _ :: s, e => backS r s e
  | .l _ :: r, _ :: s, e => backS r s e
  | _, _, e => e
def vFn (n : Nat) (m : FM) (fs : FA) : FE := fun e => (fs e).bind fun p => (argsOf p.2 p.1).bind fun as => (m as).bind fun z => if p.1.length = n ∧ (slotsOf p.1).Nodup ∧ lentOk p.1 z.2 = true ∧ noSB z.1 = true then some (z.1, backS p.1 z.2 p.2) else none
theorem lentOk_get : ∀ {rs : List Rv} {as : List Sv}, lentOk rs as = true → ∀ (k i : Nat), rs[k]? = some (.s i) → ∃ ys, as[k]? = some (.l ys)
  | [], [], _, k, i, h => by simp at h
  | .s j :: r, .l ys :: s, h, k, i, hk => by
    cases k with
    | zero => exact ⟨ys, rfl⟩
    | succ k => simpa using lentOk_get (rs := r) (as := s) (by simpa [lentOk] using h) k i (by simpa using hk)
  | .d x :: r, y :: s, h, k, i, hk => by
    cases k with
    | zero => simp at hk
    | succ k => simpa using lentOk_get (rs := r) (as := s) (by simpa [lentOk] using h) k i (by simpa using hk)
  | .l x :: r, y :: s, h, k, i, hk => by
    cases k with
    | zero => simp at hk
    | succ k => simpa using lentOk_get (rs := r) (as := s) (by simpa [lentOk] using h) k i (by simpa using hk)
  | .s _ :: _, .d _ :: _, h, _, _, _ => by simp [lentOk] at h
  | .s _ :: _, [], h, _, _, _ => by simp [lentOk] at h
  | .d _ :: _, [], h, _, _, _ => by simp [lentOk] at h
  | .l _ :: _, [], h, _, _, _ => by simp [lentOk] at h
theorem posR_cons {r0 : Rv} {rs : List Rv} {i : Nat} : posR (r0 :: rs) i = if (match r0 with | .s j => j == i | _ => false) = true then some 0 else (posR rs i).map (· + 1) := by
  unfold posR; rw [List.findIdx?_cons]
theorem posR_some {rs : List Rv} {i k : Nat} (h : posR rs i = some k) : rs[k]? = some (.s i) := by
  unfold posR at h
  rw [List.findIdx?_eq_some_iff_getElem] at h
  obtain ⟨hk, h1, _⟩ := h
  rw [List.getElem?_eq_getElem hk]
  split at h1
  · rename_i heq
    rw [heq]
    have := eq_of_beq h1
    rw [this]
  · cases h1
theorem mem_slots : ∀ {rs : List Rv} {i : Nat}, i ∈ slotsOf rs ↔ Rv.s i ∈ rs
  | [], i => by simp [slotsOf]
  | .s j :: r, i => by simp [slotsOf, mem_slots (rs := r)]
  | .d x :: r, i => by simp [slotsOf, mem_slots (rs := r)]
  | .l x :: r, i => by simp [slotsOf, mem_slots (rs := r)]
theorem slots_uniq : ∀ {rs : List Rv} {i k j : Nat}, (slotsOf rs).Nodup → rs[k]? = some (.s i) → rs[j]? = some (.s i) → k = j
  | [], i, k, j, _, h, _ => by simp at h
  | .s m :: r, i, k, j, hn, h1, h2 => by
    simp only [slotsOf, List.nodup_cons] at hn
    cases k with
    | zero =>
      simp at h1; subst h1
      cases j with
      | zero => rfl
      | succ j => exact absurd (mem_slots.mpr (List.mem_of_getElem? (by simpa using h2))) hn.1
    | succ k =>
      cases j with
      | zero =>
        simp at h2; subst h2
        exact absurd (mem_slots.mpr (List.mem_of_getElem? (by simpa using h1))) hn.1
      | succ j =>
        have := slots_uniq (rs := r) (i := i) (k := k) (j := j) hn.2 (by simpa using h1) (by simpa using h2)
        omega
  | .d x :: r, i, k, j, hn, h1, h2 => by
    cases k with
    | zero => simp at h1
    | succ k =>
      cases j with
      | zero => simp at h2
      | succ j =>
        have := slots_uniq (rs := r) (i := i) (k := k) (j := j) (by simpa [slotsOf] using hn) (by simpa using h1) (by simpa using h2)
        omega
  | .l x :: r, i, k, j, hn, h1, h2 => by
    cases k with
    | zero => simp at h1
    | succ k =>
      cases j with
      | zero => simp at h2
      | succ j =>
        have := slots_uniq (rs := r) (i := i) (k := k) (j := j) (by simpa [slotsOf] using hn) (by simpa using h1) (by simpa using h2)
        omega
theorem posR_not {rs : List Rv} {i : Nat} (h : i ∉ slotsOf rs) : posR rs i = none := by
  unfold posR
  rw [List.findIdx?_eq_none_iff]
  intro r hr
  cases r with
  | d x => rfl
  | l x => rfl
  | s j =>
    have : j ≠ i := fun z => h (by rw [← z]; exact mem_slots.mpr hr)
    simpa using this
theorem back_eq : ∀ {rs : List Rv} {as : List Sv} {e : En}, (slotsOf rs).Nodup → lentOk rs as = true → (∀ j ∈ slotsOf rs, ∃ xs, e[j]? = some (some (.l xs))) → backS rs as e = updE (posR rs) (as.map some) e
  | [], [], e, _, _, _ => by
    refine List.ext_getElem? fun i => ?_
    rw [updE_get]
    have : posR [] i = none := rfl
    rw [this]
    simp only [backS]
    match e[i]? with
    | none => rfl
    | some none => rfl
    | some (some (.d x)) => rfl
    | some (some (.l x)) => rfl
    | some (some (.n x)) => rfl
  | .d x :: r, y :: s, e, hn, hl, hs => by
    rw [show backS (.d x :: r) (y :: s) e = backS r s e from rfl, back_eq (by simpa [slotsOf] using hn) (by simpa [lentOk] using hl) (fun j hj => hs j (by simpa [slotsOf] using hj))]
    refine List.ext_getElem? fun i => ?_
    rw [updE_get, updE_get, posR_cons]
    cases posR r i <;> simp
  | .l x :: r, y :: s, e, hn, hl, hs => by
    rw [show backS (.l x :: r) (y :: s) e = backS r s e from rfl, back_eq (by simpa [slotsOf] using hn) (by simpa [lentOk] using hl) (fun j hj => hs j (by simpa [slotsOf] using hj))]
    refine List.ext_getElem? fun i => ?_
    rw [updE_get, updE_get, posR_cons]
    cases posR r i <;> simp
  | .s k :: r, .l ys :: s, e, hn, hl, hs => by
    simp only [slotsOf, List.nodup_cons] at hn
    obtain ⟨xs, hk⟩ := hs k (by simp [slotsOf])
    have hlt : k < e.length := (List.getElem?_eq_some_iff.mp hk).1
    rw [show backS (.s k :: r) (.l ys :: s) e = backS r s (e.set k (some (.l ys))) from rfl, back_eq hn.2 (by simpa [lentOk] using hl) (fun j hj => by
      have z : k ≠ j := fun z => hn.1 (by rw [z]; exact hj)
      rw [List.getElem?_set_ne z]
      exact hs j (by simp [slotsOf, hj]))]
    refine List.ext_getElem? fun i => ?_
    rw [updE_get, updE_get, posR_cons]
    by_cases z : k = i
    · subst z
      rw [List.getElem?_set_self hlt, hk, posR_not hn.1]
      simp
    · rw [List.getElem?_set_ne z]
      have : ((match (Rv.s k) with | .s j => j == i | _ => false) = true) = False := by simp [z]
      simp only [this, if_false]
      cases posR r i <;> simp
  | .s _ :: _, .d _ :: _, _, _, h, _ => by simp [lentOk] at h
  | .s _ :: _, .n _ :: _, _, _, h, _ => by simp [lentOk] at h
  | .s _ :: _, [], _, _, h, _ => by simp [lentOk] at h
  | .d _ :: _, [], _, _, h, _ => by simp [lentOk] at h
  | .l _ :: _, [], _, _, h, _ => by simp [lentOk] at h
  | [], _ :: _, _, _, h, _ => by simp [lentOk] at h
theorem argsOf_slots {e : En} : ∀ {rs : List Rv} {as : List Sv}, argsOf e rs = some as → ∀ j ∈ slotsOf rs, ∃ xs, e[j]? = some (some (.l xs))
  | [], _, _, j, h => by simp [slotsOf] at h
  | .d x :: rs, as, q, j, h => by
    obtain ⟨as', q1, rfl⟩ := Option.map_eq_some_iff.mp q
    exact argsOf_slots q1 j (by simpa [slotsOf] using h)
  | .l x :: rs, as, q, j, h => by
    obtain ⟨as', q1, rfl⟩ := Option.map_eq_some_iff.mp q
    exact argsOf_slots q1 j (by simpa [slotsOf] using h)
  | .s k :: rs, as, q, j, h => by
    unfold argsOf at q
    match he : e[k]?, q with
    | some (some (.l xs)), q =>
      obtain ⟨as', q1, rfl⟩ := Option.map_eq_some_iff.mp q
      simp only [slotsOf, List.mem_cons] at h
      rcases h with rfl | h
      · exact ⟨xs, he⟩
      · exact argsOf_slots q1 j h
theorem argsOf_s {e : En} : ∀ {rs : List Rv} {as : List Sv} {k i : Nat}, argsOf e rs = some as → rs[k]? = some (.s i) → ∃ xs, as[k]? = some (.l xs)
  | [], _, k, i, _, h => by simp at h
  | .d x :: rs, as, k, i, q, h => by
    obtain ⟨as', q1, rfl⟩ := Option.map_eq_some_iff.mp q
    cases k with
    | zero => simp at h
    | succ k => simpa using argsOf_s (k := k) (i := i) q1 (by simpa using h)
  | .l x :: rs, as, k, i, q, h => by
    obtain ⟨as', q1, rfl⟩ := Option.map_eq_some_iff.mp q
    cases k with
    | zero => simp at h
    | succ k => simpa using argsOf_s (k := k) (i := i) q1 (by simpa using h)
  | .s j :: rs, as, k, i, q, h => by
    unfold argsOf at q
    match he : e[j]?, q with
    | some (some (.l xs)), q =>
      obtain ⟨as', q1, rfl⟩ := Option.map_eq_some_iff.mp q
      cases k with
      | zero => exact ⟨xs, rfl⟩
      | succ k => simpa using argsOf_s (k := k) (i := i) q1 (by simpa using h)
section
variable {X : Cx} {K : PySem.W.Frag} {σ : L2.St} {H0 H : Hp} {e : En}
/-- the arguments as they are handed on: temporary lists are let be -/
theorem args_at : ∀ {rs : List Rv} {vs : List V} {as : List Sv} {F : Hp}, Rel K F H σ e → RvsAt K σ H0 F H e rs vs → argsOf e rs = some as →
    ∃ F', Rel K F' H σ e ∧ Same F F' ∧ (∀ a, F a = none → H0 a ≠ none → F' a = none) ∧ vs.length = as.length ∧ rs.length = as.length ∧
      (∀ (k : Nat) (x : PyData), as[k]? = some (.d x) → ∃ v, vs[k]? = some v ∧ DA K F' x v) ∧ ∀ (k : Nat) (xs : List PyData), as[k]? = some (.l xs) → ∃ i, rs[k]? = some (.s i) ∧ e[i]? = some (some (.l xs)) ∧ ∃ v, vs[k]? = some v ∧ σ[i]? = some (some v)
  | [], vs, as, F, R, h, q => by
    cases q
    have h' : vs = [] := h
    subst h'
    exact ⟨F, R, Same.refl _, fun _ h _ => h, rfl, rfl, fun k x h => by simp at h, fun k x h => by simp at h⟩
  | .d x :: rs, _, as, F, R, h, q => by
    obtain ⟨v, ws, rfl, h1, h2⟩ := h
    obtain ⟨as', q1, rfl⟩ := Option.map_eq_some_iff.mp q
    obtain ⟨F', R', s', f', l1, l2, d', o'⟩ := args_at R h2 q1
    refine ⟨F', R', s', f', by simp [l1], by simp [l2], fun k y hk => ?_, fun k ys hk => ?_⟩
    · cases k with
      | zero => simp at hk; subst hk; exact ⟨v, rfl, DA.mono s' h1⟩
      | succ k => simpa using d' k y (by simpa using hk)
    · cases k with
      | zero => simp at hk
      | succ k => simpa using o' k ys (by simpa using hk)
  | .l xs :: rs, _, as, F, R, h, q => by
    obtain ⟨v, ws, rfl, h1, h2⟩ := h
    obtain ⟨as', q1, rfl⟩ := Option.map_eq_some_iff.mp q
    obtain ⟨F', R', s', f', l1, l2, d', o'⟩ := args_at R h2 q1
    have key : ∃ F2, Rel K F2 H σ e ∧ Same F' F2 ∧ (∀ a, F' a = none → H0 a ≠ none → F2 a = none) ∧ DA K F2 (.list xs) v := by
      obtain ⟨l, us, rfl, g1, g2, g3, g4, g5⟩ := h1
      cases hl : F' l with
      | none =>
        have h1' : RvAt K σ H0 F' H e (.l xs) (.ref l) := ⟨l, us, rfl, g1, hl, g3, DAs.mono s' g4, g5⟩
        obtain ⟨F2, R2, s2, d2, f2⟩ := h1'.frozen R'
        exact ⟨F2, R2, s2, f2, d2⟩
      | some o =>
        have := R'.sm _ _ hl
        rw [g3] at this; cases this
        exact ⟨F', R', Same.refl _, fun _ h _ => h, da_lst.mpr ⟨l, us, rfl, .inl (.inl hl), DAs.mono s' g4⟩⟩
    obtain ⟨F2, R2, s2, f2, d2⟩ := key
    refine ⟨F2, R2, s'.trans s2, fun a ha hn => f2 a (f' a ha hn) hn, by simp [l1], by simp [l2], fun k y hk => ?_, fun k ys hk => ?_⟩
    · cases k with
      | zero => simp at hk; subst hk; exact ⟨v, rfl, d2⟩
      | succ k =>
        obtain ⟨u, c1, c2⟩ := d' k y (by simpa using hk)
        exact ⟨u, by simpa using c1, DA.mono s2 c2⟩
    · cases k with
      | zero => simp at hk
      | succ k => simpa using o' k ys (by simpa using hk)
  | .s i :: rs, _, as, F, R, h, q => by
    obtain ⟨v, ws, rfl, h1, h2⟩ := h
    unfold argsOf at q
    match he : e[i]?, q with
    | some (some (.l xs)), q =>
      obtain ⟨as', q1, rfl⟩ := Option.map_eq_some_iff.mp q
      obtain ⟨F', R', s', f', l1, l2, d', o'⟩ := args_at R h2 q1
      refine ⟨F', R', s', f', by simp [l1], by simp [l2], fun k y hk => ?_, fun k ys hk => ?_⟩
      · cases k with
        | zero => simp at hk
        | succ k => simpa using d' k y (by simpa using hk)
      · cases k with
        | zero => simp at hk; subst hk; exact ⟨i, rfl, he, v, rfl, h1.1⟩
        | succ k => simpa using o' k ys (by simpa using hk)
theorem getm {α : Type} {l : List α} {k : Nat} {x : α} : (l.map some)[k]? = some (some x) ↔ l[k]? = some x := by
  rw [List.getElem?_map]
  cases l[k]? <;> simp
theorem RvAt.noS {σ' : L2.St} {e' : En} {F H : Hp} {r : Rv} {v : V} (h : RvAt K σ' H0 F H e' r v) (n : L2.noS r) (ho : ∀ a, Own σ e H a → H0 a ≠ none) : RvAt K σ H0 F H e r v := by
  cases r with
  | d x => exact h
  | l xs =>
    obtain ⟨l, vs, e1, h1, h2, h3, h4, _⟩ := h
    exact ⟨l, vs, e1, h1, h2, h3, h4, fun z => ho l z h1⟩
  | s i => exact absurd n (by simp [L2.noS])
theorem argsOf_noN : ∀ {rs : List Rv} {as : List Sv}, argsOf e rs = some as → noN (as.map some)
  | [], _, q => by cases q; intro i xss h; simp at h
  | .d x :: rs, as, q => by
    obtain ⟨as', q1, rfl⟩ := Option.map_eq_some_iff.mp q
    have ih := argsOf_noN q1
    intro i xss h
    cases i with
    | zero => simp at h
    | succ i => exact ih i xss (by simpa using h)
  | .l x :: rs, as, q => by
    obtain ⟨as', q1, rfl⟩ := Option.map_eq_some_iff.mp q
    have ih := argsOf_noN q1
    intro i xss h
    cases i with
    | zero => simp at h
    | succ i => exact ih i xss (by simpa using h)
  | .s j :: rs, as, q => by
    unfold argsOf at q
    match he : e[j]?, q with
    | some (some (.l xs)), q =>
      obtain ⟨as', q1, rfl⟩ := Option.map_eq_some_iff.mp q
      have ih := argsOf_noN q1
      intro i xss h
      cases i with
      | zero => simp at h
      | succ i => exact ih i xss (by simpa using h)
theorem vFn_go {n : Nat} {m : FM} {fs : FA} {Q : VK} {E : XK} (h : fE K (vFn n m fs) σ H Q) : tCall (spM K n m) [] E (fA K fs) σ H Q := by
  obtain ⟨F, e, z, e', R, hf, q⟩ := h
  unfold vFn at hf
  obtain ⟨⟨rs, e1⟩, h1, hf⟩ := Option.bind_eq_some_iff.mp hf
  obtain ⟨as, h2, hf⟩ := Option.bind_eq_some_iff.mp hf
  obtain ⟨⟨r, as'⟩, h3, hf⟩ := Option.bind_eq_some_iff.mp hf
  split at hf
  case isFalse => cases hf
  case isTrue hc =>
  obtain ⟨c1, c2, c3, c4⟩ := hc
  cases hf
  refine ⟨F, e, rs, e1, R, h1, fun F1 H1 vs X1 R1 A1 => ?_⟩
  obtain ⟨F2, R2, s2, f2, l1, l2, d2, o2⟩ := args_at R1 A1 h2
  have X2 := X1.frz s2 f2
  rw [List.append_nil]
  have hn : L2.noS r := by
    cases r with
    | d x => trivial
    | l x => trivial
    | s i => cases c4
  have nN := argsOf_noN h2
  have RA : Rel K F2 H1 (vs.map some) (as.map some) := by
    refine ⟨R2.sm, by simp [l1], fun k x hk => ?_, fun k xs hk => ?_, fun k xss hk => absurd hk (nN k xss), fun k j l f1 f2 => ?_⟩
    · obtain ⟨v, g1, g2⟩ := d2 k x (getm.mp hk)
      exact ⟨v, getm.mpr g1, g2⟩
    · obtain ⟨i, g1, g2, v, g3, g4⟩ := o2 k xs (getm.mp hk)
      obtain ⟨l, us, k1, k2, k3, k4⟩ := R2.own i xs g2
      rw [g4] at k1; cases k1
      exact ⟨l, us, getm.mpr g3, k2, k3, k4⟩
    · obtain ⟨xs, g1, g3⟩ := f1.resolve_right fun ⟨xss, _, _, z, _⟩ => nN k xss z
      obtain ⟨ys, g2, g4⟩ := f2.resolve_right fun ⟨xss, _, _, z, _⟩ => nN j xss z
      obtain ⟨i1, a1, a2, v1, a3, a4⟩ := o2 k xs (getm.mp g1)
      obtain ⟨i2, b1, b2, v2, b3, b4⟩ := o2 j ys (getm.mp g2)
      have e1 := getm.mp g3
      have e2 := getm.mp g4
      rw [a3] at e1; cases e1
      rw [b3] at e2; cases e2
      have : i1 = i2 := R2.inj i1 i2 xs ys l a2 b2 a4 b4
      subst this
      exact slots_uniq c2 a1 b1
  have sub : SubOk σ e1 (vs.map some) (as.map some) (posR rs) := by
    refine ⟨fun i k xs g1 g2 => ?_, fun k ys g1 => ?_⟩
    · have g3 := posR_some g2
      obtain ⟨zs, hs⟩ := argsOf_s h2 g3
      obtain ⟨i', a1, a2, v, a3, a4⟩ := o2 k zs hs
      rw [g3] at a1; cases a1
      rw [getm.mpr a3, a4]
    · obtain ⟨i, a1, a2, v, a3, a4⟩ := o2 k ys (getm.mp g1)
      refine ⟨i, ys, a2, ?_, by rw [getm.mpr a3, a4]⟩
      cases hp : posR rs i with
      | none =>
        unfold posR at hp
        rw [List.findIdx?_eq_none_iff] at hp
        have := hp _ (List.mem_of_getElem? a1)
        simp at this
      | some j => rw [slots_uniq c2 (posR_some hp) a1]
  refine ⟨by rw [l1, ← l2]; exact c1, F2, as, r, as', RA, nN, h3, hn, fun F' H' v X3 R3 A3 => ?_⟩
  obtain ⟨R4, X4, o4⟩ := sub_back R2 sub nN X3.sf X3.dom X3.fr X3.lst X3.tmp R3 (fun _ _ _ _ _ => rfl) fun i k xs g1 g2 => by
    obtain ⟨ys, g3⟩ := lentOk_get c3 k i (posR_some g2)
    exact ⟨ys, getm.mpr g3⟩
  have hb := back_eq (e := e1) c2 c3 (argsOf_slots h2)
  rw [← hb] at R4 X4 o4
  exact q F' H' v (X2.trans X4) R4 ((A3.noS hn fun a z => R2.ownH a (o4 a z)).weak X2.dom)
theorem qe_c {x : Str} {st : Stmt} {f : Addr} {fd : FuncData} {ps : List Str} {k n : Nat} {m : FM} {a : Expr} {es : List Expr} {fs : FA} {p pos : Pos} (h : Has X.K X.mg x st f fd ps) (G : FnOk X.prog X.w X.K X.mg X.base CX0 k f fd ps (spM K n m)) (hr : Room k X.A) (ha : PA X (a :: es) (fA K fs))
    (hg : Gl X x) (hdb : (x == ("__debug__" : Str)) = false) (he : starEach (a :: es) X.env = (false, eval a X.env) :: starEach es X.env) (hpl : (backTo pos (starEach es X.env)).any (·.1) = false) :
    PE X (.Call (.Name x p) (a :: es) [] pos) (fE K (vFn n m fs)) := (pe_c h G hr ha hg hdb he hpl).mono fun _ _ _ h => vFn_go h
/-! ### a def by its body -/
/-- the parameters' lists behind the body -/
def upA : List Sv → En → Option (List Sv)
  | [], _ => some []
  | .d x :: r, e => (upA r e.tail).map (.d x :: ·)
  | .l _ :: r, e => match e.head? with
    | some (some (.l ys)) => (upA r e.tail).map (.l ys :: ·)
    | _ => none
  | .n _ :: _, _ => none
def endR (n : Nat) (e : En) : Rv → Option Rv
  | .s i => if n ≤ i then match e[i]? with
      | some (some (.l xs)) => some (.l xs)
      | _ => none
    else none
  | r => some r
/-- none of the parameters that may be stored anew is a list -/
def noLst (W : List Nat) (as : List Sv) : Bool := W.all fun j => match as[j]? with
  | some (.l _) => false
  | _ => true
def mOf (n k : Nat) (W : List Nat) (f : FS) : FM := fun as => if as.length = n ∧ noLst W as = true then (f (as.map some ++ List.replicate k none)).bind fun fl => match fl with
    | .rt r e => (endR n e r).bind fun r' => (upA as e).map fun as' => (r', as')
    | .nx e => (upA as e).map fun as' => (.d .none, as')
    | _ => none
  else none
theorem upA_get : ∀ {as as' : List Sv} {e : En}, upA as e = some as' → as'.length = as.length ∧ (∀ (j : Nat) (x : PyData), as'[j]? = some (.d x) ↔ as[j]? = some (.d x)) ∧ (∀ (j : Nat) (ys : List PyData), as'[j]? = some (.l ys) → (∃ xs, as[j]? = some (.l xs)) ∧ e[j]? = some (some (.l ys))) ∧ ∀ (j : Nat) (xs : List PyData), as[j]? = some (.l xs) → ∃ ys, as'[j]? = some (.l ys)
  | [], _, e, h => by cases h; simp
  | .d x :: r, _, e, h => by
    obtain ⟨s, h1, rfl⟩ := Option.map_eq_some_iff.mp h
    obtain ⟨g1, g2, g3, g4⟩ := upA_get h1
    refine ⟨by simp [g1], fun j y => ?_, fun j ys hj => ?_, fun j xs hj => ?_⟩
    · cases j with
      | zero => simp
      | succ j => simpa using g2 j y
    · cases j with
      | zero => simp at hj
      | succ j =>
        obtain ⟨c1, c2⟩ := g3 j ys (by simpa using hj)
        refine ⟨by simpa using c1, ?_⟩
        rw [List.getElem?_tail] at c2
        exact c2
    · cases j with
      | zero => simp at hj
      | succ j => simpa using g4 j xs (by simpa using hj)
  | .l xs :: r, _, e, h => by
    unfold upA at h
    match he : e.head?, h with
    | some (some (.l ys)), h =>
      obtain ⟨s, h1, rfl⟩ := Option.map_eq_some_iff.mp h
      obtain ⟨g1, g2, g3, g4⟩ := upA_get h1
      refine ⟨by simp [g1], fun j y => ?_, fun j zs hj => ?_, fun j zs hj => ?_⟩
      · cases j with
        | zero => simp
        | succ j => simpa using g2 j y
      · cases j with
        | zero =>
          simp at hj; subst hj
          exact ⟨⟨xs, rfl⟩, by rw [List.head?_eq_getElem?] at he; exact he⟩
        | succ j =>
          obtain ⟨c1, c2⟩ := g3 j zs (by simpa using hj)
          refine ⟨by simpa using c1, ?_⟩
          rw [List.getElem?_tail] at c2
          exact c2
      · cases j with
        | zero => exact ⟨ys, rfl⟩
        | succ j => simpa using g4 j zs (by simpa using hj)
  | .n x :: r, _, e, h => by simp [upA] at h
end
end L2

set_option Elab.async false
set_option linter.all false
set_option maxRecDepth 100000
set_option maxHeartbeats 4000000
namespace L2
open PySem PySem.Spec PyProof.Rows
theorem get_pad {α : Type} {l : List (Option α)} {k i : Nat} {x : α} (h : (l ++ List.replicate k none)[i]? = some (some x)) : l[i]? = some (some x) := by
  rw [List.getElem?_append] at h
  split at h
  · exact h
  · rw [List.getElem?_replicate] at h
    split at h <;> simp at h
theorem get_pad' {α : Type} {l : List (Option α)} {k i : Nat} {x : α} (h : l[i]? = some (some x)) : (l ++ List.replicate k none)[i]? = some (some x) := by
  have hi : i < l.length := (List.getElem?_eq_some_iff.mp h).1
  rw [List.getElem?_append_left hi]; exact h
section
variable {K : PySem.W.Frag} {F H : Hp} {σ : L2.St} {e : En} {k : Nat}
theorem fp_pad {i : Nat} {a : Addr} : Fp (σ ++ List.replicate k none) (e ++ List.replicate k none) H i a ↔ Fp σ e H i a := by
  constructor
  · rintro (⟨xs, h1, h2⟩ | ⟨xss, l, bs, h1, h2, h3⟩)
    · exact .inl ⟨xs, get_pad h1, get_pad h2⟩
    · exact .inr ⟨xss, l, bs, get_pad h1, get_pad h2, h3⟩
  · rintro (⟨xs, h1, h2⟩ | ⟨xss, l, bs, h1, h2, h3⟩)
    · exact .inl ⟨xs, get_pad' h1, get_pad' h2⟩
    · exact .inr ⟨xss, l, bs, get_pad' h1, get_pad' h2, h3⟩
theorem own_pad {a : Addr} : Own (σ ++ List.replicate k none) (e ++ List.replicate k none) H a ↔ Own σ e H a := ⟨fun ⟨i, h⟩ => ⟨i, fp_pad.mp h⟩, fun ⟨i, h⟩ => ⟨i, fp_pad.mpr h⟩⟩
theorem Rel.pad (R : Rel K F H σ e) : Rel K F H (σ ++ List.replicate k none) (e ++ List.replicate k none) := by
  refine ⟨R.sm, by simp [R.len], fun i x h => ?_, fun i xs h => ?_, fun i xss h => ?_, fun i j a h1 h2 => R.fp i j a (fp_pad.mp h1) (fp_pad.mp h2)⟩
  · obtain ⟨v, g1, g2⟩ := R.dat i x (get_pad h)
    exact ⟨v, get_pad' g1, g2⟩
  · obtain ⟨l, vs, g1, g2⟩ := R.own i xs (get_pad h)
    exact ⟨l, vs, get_pad' g1, g2⟩
  · obtain ⟨l, bs, g1, g2⟩ := R.nst i xss (get_pad h)
    exact ⟨l, bs, get_pad' g1, g2⟩
end
theorem upA_noN : ∀ {as as' : List Sv} {e : En}, upA as e = some as' → noN (as'.map some)
  | [], _, e, h => by cases h; intro i xss z; simp at z
  | .d x :: r, _, e, h => by
    obtain ⟨s, h1, rfl⟩ := Option.map_eq_some_iff.mp h
    have ih := upA_noN h1
    intro i xss z
    cases i with
    | zero => simp at z
    | succ i => exact ih i xss (by simpa using z)
  | .l xs :: r, _, e, h => by
    unfold upA at h
    match he : e.head?, h with
    | some (some (.l ys)), h =>
      obtain ⟨s, h1, rfl⟩ := Option.map_eq_some_iff.mp h
      have ih := upA_noN h1
      intro i xss z
      cases i with
      | zero => simp at z
      | succ i => exact ih i xss (by simpa using z)
  | .n x :: r, _, e, h => by simp [upA] at h
theorem noLst_at {W : List Nat} {as : List Sv} (h : noLst W as = true) {j : Nat} {xs : List PyData} (hj : as[j]? = some (.l xs)) : j ∉ W := fun z => by
  unfold noLst at h
  have := List.all_eq_true.mp h j z
  rw [hj] at this
  cases this
section
variable {P : Program} {w : World} {K : PySem.W.Frag} {mg : Str → Option Value} {base : Heap}
theorem Has.fn {x : Str} {st : Stmt} {f : Addr} {fd : FuncData} {N ps : List Str} {k n k0 : Nat} {W : List Nat} {fb : FS} (h : Has K mg x st f fd ps) (S : FnScope N ps (defScope st)) (hn : ps.length = n) (hN : N.length = n + k0)
    (hb : ∀ (cdv : Value) (A : Around) (outer : List Env) (s : Shared) (H : Hp) (E : XK), Room k (A.deeper (envOfC x (defScope st) s.heap.objs.size f cdv)) → PSs (cxOf CX0 P w K mg base N x (defScope st) f cdv A outer s H E).nox (defBody st) (fS K fb W)) :
    FnOk P w K mg base CX0 (k + 1) f fd ps (spM K n (mOf n k0 W fb)) := by
  refine h.F.ok S (fun vs H Q E q => ?_) fun cdv A outer s H vs Q E hr hsp => ⟨_, hb cdv A outer s H E hr, ?_⟩
  · rw [hn]; exact q.1
  · obtain ⟨hl, F, as, r, as', R, nN, hm, nr, q⟩ := hsp
    unfold mOf at hm
    split at hm
    case isFalse => cases hm
    case isTrue hc =>
    obtain ⟨la, nl⟩ := hc
    obtain ⟨fl, h1, hm⟩ := Option.bind_eq_some_iff.mp hm
    have hst : start N vs = vs.map some ++ List.replicate k0 none := by unfold start; rw [hN, hl]; congr 2; omega
    rw [hst]
    have key : ∀ {as' : List Sv} {e' : En}, upA as e' = some as' → ∀ F' H' σ', ExtS W (vs.map some ++ List.replicate k0 none) F H (as.map some ++ List.replicate k0 none) σ' F' H' e' → Rel K F' H' σ' e' →
        Ext (vs.map some) F H (as.map some) F' H' (as'.map some) ∧ Rel K F' H' (vs.map some) (as'.map some) ∧ ∀ a, Own (vs.map some) (as'.map some) H' a → Own (vs.map some) (as.map some) H a := by
      intro as' e' hu F' H' σ' X' R'
      obtain ⟨u1, u2, u3, u4⟩ := upA_get hu
      have uN := upA_noN hu
      have ow : ∀ a, Own (vs.map some) (as'.map some) H' a → Own (vs.map some) (as.map some) H a := by
        rintro a ⟨j, ⟨ys, c1, c2⟩ | ⟨xss, _, _, z, _⟩⟩
        · obtain ⟨⟨xs, c3⟩, _⟩ := u3 j ys (getm.mp c1)
          exact ⟨j, .inl ⟨xs, getm.mpr c3, c2⟩⟩
        · exact absurd z (uN j xss)
      have sg : ∀ (j : Nat) (xs : List PyData), as[j]? = some (.l xs) → σ'[j]? = (vs.map some)[j]? := fun j xs hj => by
        rw [X'.wr j (noLst_at nl hj)]
        have hj2 : j < (vs.map some).length := by rw [List.length_map, hl, ← la]; exact (List.getElem?_eq_some_iff.mp hj).1
        rw [List.getElem?_append_left hj2]
      refine ⟨⟨X'.sf, X'.dom, fun a vs h1 h2 hn => X'.fr a vs h1 h2 fun z => hn (own_pad.mp z), X'.lst, fun a o ha hn => X'.tmp a o ha fun z => hn (own_pad.mp z), fun j => ?_, fun a z => .inl (ow a z)⟩, ⟨R'.sm, ?_, fun j y hj => ?_, fun j ys hj => ?_, fun j xss hj => absurd hj (uN j xss), fun j i l f1 f2 => ?_⟩, ow⟩
      · constructor
        · rintro ⟨ys, hj⟩
          obtain ⟨⟨xs, c⟩, _⟩ := u3 j ys (getm.mp hj)
          exact ⟨xs, getm.mpr c⟩
        · rintro ⟨xs, hj⟩
          obtain ⟨ys, c⟩ := u4 j xs (getm.mp hj)
          exact ⟨ys, getm.mpr c⟩
      · simp [u1, hl, la]
      · obtain ⟨v, c1, c2⟩ := R.dat j y (getm.mpr ((u2 j y).mp (getm.mp hj)))
        exact ⟨v, c1, DA.mono X'.sf c2⟩
      · obtain ⟨⟨xs, c1⟩, c2⟩ := u3 j ys (getm.mp hj)
        obtain ⟨l, us, d1, d2⟩ := R'.own j ys c2
        exact ⟨l, us, by rw [← sg j xs c1]; exact d1, d2⟩
      · obtain ⟨xs, g1, g3⟩ := f1.resolve_right fun ⟨xss, _, _, z, _⟩ => uN j xss z
        obtain ⟨ys, g2, g4⟩ := f2.resolve_right fun ⟨xss, _, _, z, _⟩ => uN i xss z
        obtain ⟨⟨zs, c1⟩, c2⟩ := u3 j xs (getm.mp g1)
        obtain ⟨⟨ws, c3⟩, c4⟩ := u3 i ys (getm.mp g2)
        exact R'.inj j i xs ys l c2 c4 (by rw [sg j zs c1]; exact g3) (by rw [sg i ws c3]; exact g4)
    refine ⟨F, as.map some ++ List.replicate k0 none, fl, R.pad, h1, ?_⟩
    cases fl with
    | bk e' => cases hm
    | ct e' => cases hm
    | nx e' =>
      obtain ⟨as2, h2, hm⟩ := Option.map_eq_some_iff.mp hm
      cases hm
      intro F' H' σ' X' R'
      obtain ⟨X2, R2, _⟩ := key h2 F' H' σ' X' R'
      exact q F' H' .non X2 R2 ((da_none (K := K) (F := F')).mpr rfl)
    | rt r0 e' =>
      obtain ⟨r1, h2, hm⟩ := Option.bind_eq_some_iff.mp hm
      obtain ⟨as2, h3, hm⟩ := Option.map_eq_some_iff.mp hm
      cases hm
      intro F' H' σ' v X' R' A'
      obtain ⟨X2, R2, ow2⟩ := key h3 F' H' σ' X' R'
      have noo : ∀ l, H l = none → ¬ Own (vs.map some) (as'.map some) H' l := fun l hl z => R.ownH l (ow2 l z) hl
      refine q F' H' v X2 R2 ?_
      cases r0 with
      | d y => cases h2; exact A'
      | l ys =>
        cases h2
        obtain ⟨l, us, d0, d1, d2, d3, d4, _⟩ := A'
        exact ⟨l, us, d0, d1, d2, d3, d4, noo l d1⟩
      | s i =>
        simp only [endR] at h2
        split at h2
        case isFalse => cases h2
        case isTrue hi =>
        obtain ⟨a1, xs, a2⟩ := A'
        rw [a2] at h2
        cases h2
        obtain ⟨l, us, d1, d2, d3, d4⟩ := R'.own i _ a2
        rw [a1] at d1; cases d1
        suffices hl0 : H l = none from ⟨l, us, rfl, hl0, d2, d3, d4, noo l hl0⟩
        rcases X'.own l ⟨i, .inl ⟨_, a2, a1⟩⟩ with z | z
        · obtain ⟨j, zf⟩ := own_pad.mp z
          obtain ⟨ys, z1, z2⟩ := zf.resolve_right fun ⟨xss, _, _, z, _⟩ => nN j xss z
          have z1' := getm.mp z1
          obtain ⟨u1, u2, u3, u4⟩ := upA_get h3
          obtain ⟨ws, w1⟩ := u4 j ys z1'
          obtain ⟨_, w2⟩ := u3 j ws w1
          have hj2 : j < vs.length := by rw [hl, ← la]; exact (List.getElem?_eq_some_iff.mp z1').1
          have e3 : σ'[j]? = some (some (.ref l)) := by
            rw [X'.wr j (noLst_at nl z1'), List.getElem?_append_left (by simpa using hj2)]
            exact z2
          have := R'.inj i j _ ws l a2 w2 a1 e3
          omega
        · exact z
end
/-! ### comprehensions -/
def lend : Option Sv → Option Sv
  | some (.n _) => none
  | s => s
def inE (cp : List (Nat × Str)) (nT : Nat) (e : En) : En := cp.map (fun p => lend (e[p.1]?).join) ++ List.replicate nT none
def posC (cp : List (Nat × Str)) (i : Nat) : Option Nat := cp.findIdx? fun p => p.1 == i
def compF (g : FG) (ft : FT) (fe : FE) : List PyData → En → List PyData → Option (List PyData × En)
  | [], e, acc => some (acc, e)
  | x :: r, e, acc => (g x e).bind fun e1 => (ft e1).bind fun b => if b.1 = true then (fe b.2).bind fun v => (dat1 v.1).bind fun d => if acc.length < 1000000 then compF g ft fe r v.2 (acc ++ [d]) else none else compF g ft fe r b.2 acc
/-- the slots that are lent and hold lists do so behind the block, too -/
def backOk (cp : List (Nat × Str)) (ei e : En) : Bool := cp.all fun p => !isL e[p.1]? || isL ei[(posC cp p.1).getD 0]?
def vComp (cp : List (Nat × Str)) (nT : Nat) (fi : FI) (g : FG) (ft : FT) (fe : FE) : FE := fun e => (fi e).bind fun p => if (p.2.1.all fun q => !(cp.any fun c => c.1 == q.1)) = true then (compF g ft fe p.1 (inE cp nT p.2.2) []).bind fun z => if backOk cp z.2 p.2.2 = true then some (.l z.1, updE (posC cp) z.2 p.2.2) else none else none
section
variable {K : PySem.W.Frag} {F H : Hp} {σ : L2.St} {e : En} {cp : List (Nat × Str)} {nT : Nat}
theorem posC_some {i k : Nat} (h : posC cp i = some k) : ∃ s, cp[k]? = some (i, s) := by
  unfold posC at h
  rw [List.findIdx?_eq_some_iff_getElem] at h
  obtain ⟨hk, h1, _⟩ := h
  refine ⟨cp[k].2, ?_⟩
  rw [List.getElem?_eq_getElem hk]
  have := eq_of_beq h1
  rw [← this]
theorem inE_get {k : Nat} {x : Sv} (h : (inE cp nT e)[k]? = some (some x)) : ∃ i s, cp[k]? = some (i, s) ∧ e[i]? = some (some x) := by
  unfold inE at h
  have h := get_pad h
  rw [List.getElem?_map] at h
  obtain ⟨p, h1, h2⟩ := Option.map_eq_some_iff.mp h
  refine ⟨p.1, p.2, h1, ?_⟩
  cases q : e[p.1]? with
  | none => rw [q] at h2; cases h2
  | some y =>
    rw [q] at h2
    match y, h2 with
    | some (.d z), h2 => exact congrArg some h2
    | some (.l z), h2 => exact congrArg some h2
    | some (.n z), h2 => cases h2
    | none, h2 => cases h2
theorem inE_noN : noN (inE cp nT e) := by
  intro k xss h
  unfold inE at h
  have h := get_pad h
  rw [List.getElem?_map] at h
  obtain ⟨p, h1, h2⟩ := Option.map_eq_some_iff.mp h
  match (e[p.1]?).join, h2 with
  | some (.d z), h2 => cases h2
  | some (.l z), h2 => cases h2
  | some (.n z), h2 => cases h2
  | none, h2 => cases h2
theorem sig_get {k i : Nat} {s : Str} {v : V} (h : cp[k]? = some (i, s)) (hv : σ[i]? = some (some v)) : (sig0 cp nT σ)[k]? = some (some v) := by
  unfold sig0
  refine get_pad' ?_
  rw [List.getElem?_map, h]
  simp [hv]
theorem sig_get' {k i : Nat} {s : Str} {v : V} (h : cp[k]? = some (i, s)) (hv : (sig0 cp nT σ)[k]? = some (some v)) : σ[i]? = some (some v) := by
  unfold sig0 at hv
  have hv := get_pad hv
  rw [List.getElem?_map, h] at hv
  simp only [Option.map_some, Option.some.injEq] at hv
  cases q : σ[i]? with
  | none => rw [q] at hv; cases hv
  | some y => rw [q] at hv; exact congrArg some hv
theorem cp_uniq : ∀ {cp : List (Nat × Str)} {k j i : Nat} {s t : Str}, (cp.map (·.1)).Nodup → cp[k]? = some (i, s) → cp[j]? = some (i, t) → k = j
  | [], k, j, i, s, t, _, h, _ => by simp at h
  | p :: r, k, j, i, s, t, hn, h1, h2 => by
    simp only [List.map_cons, List.nodup_cons] at hn
    cases k with
    | zero =>
      simp at h1; subst h1
      cases j with
      | zero => rfl
      | succ j =>
        have hm : (i, t) ∈ r := List.mem_of_getElem? (i := j) (by simpa using h2)
        exact absurd (List.mem_map.mpr ⟨(i, t), hm, rfl⟩) hn.1
    | succ k =>
      cases j with
      | zero =>
        simp at h2; subst h2
        have hm : (i, s) ∈ r := List.mem_of_getElem? (i := k) (by simpa using h1)
        exact absurd (List.mem_map.mpr ⟨(i, s), hm, rfl⟩) hn.1
      | succ j =>
        have := cp_uniq (cp := r) (k := k) (j := j) hn.2 (by simpa using h1) (by simpa using h2)
        omega
theorem Rel.inn (R : Rel K F H σ e) (hn : (cp.map (·.1)).Nodup) : Rel K F H (sig0 cp nT σ) (inE cp nT e) ∧ SubOk σ e (sig0 cp nT σ) (inE cp nT e) (posC cp) := by
  refine ⟨⟨R.sm, by simp [sig0, inE], fun k x h => ?_, fun k xs h => ?_, fun k xss h => absurd h (inE_noN k xss), fun k j l f1 f2 => ?_⟩, ⟨fun i k xs h1 h2 => ?_, fun k ys h => ?_⟩⟩
  · obtain ⟨i, s, h1, h2⟩ := inE_get h
    obtain ⟨v, g1, g2⟩ := R.dat i x h2
    exact ⟨v, sig_get h1 g1, g2⟩
  · obtain ⟨i, s, h1, h2⟩ := inE_get h
    obtain ⟨l, vs, g1, g2⟩ := R.own i xs h2
    exact ⟨l, vs, sig_get h1 g1, g2⟩
  · obtain ⟨xs, h1, h3⟩ := f1.resolve_right fun ⟨xss, _, _, z, _⟩ => inE_noN k xss z
    obtain ⟨ys, h2, h4⟩ := f2.resolve_right fun ⟨xss, _, _, z, _⟩ => inE_noN j xss z
    obtain ⟨i, s, a1, a2⟩ := inE_get h1
    obtain ⟨i', s', b1, b2⟩ := inE_get h2
    have : i = i' := R.inj i i' xs ys l a2 b2 (sig_get' a1 h3) (sig_get' b1 h4)
    subst this
    exact cp_uniq hn a1 b1
  · obtain ⟨s, g⟩ := posC_some h2
    obtain ⟨l, vs, g1, _⟩ := R.own i xs h1
    rw [g1]; exact sig_get g g1
  · obtain ⟨i, s, h1, h2⟩ := inE_get h
    obtain ⟨l, vs, g1, _⟩ := R.own i ys h2
    refine ⟨i, ys, h2, ?_, by rw [g1]; exact sig_get h1 g1⟩
    cases hp : posC cp i with
    | none =>
      unfold posC at hp
      rw [List.findIdx?_eq_none_iff] at hp
      have := hp _ (List.mem_of_getElem? h1)
      simp at this
    | some j =>
      obtain ⟨t, g⟩ := posC_some hp
      rw [cp_uniq hn g h1]
/-- a list that no slot holds is written -/
theorem Rel.putT (R : Rel K F H σ e) {l : Addr} {ws : List V} (h1 : F l = none) (h2 : ¬ Own σ e H l) : Rel K F (upd H l (.lst ws)) σ e ∧ ∀ a, Own σ e (upd H l (.lst ws)) a ↔ Own σ e H a :=
  R.keep (Same.refl F) (fun b o q => by
    have z : b ≠ l := fun z => by rw [z, h1] at q; cases q
    rw [upd_ne z]; exact R.sm b o q) (fun a ⟨i, h⟩ => (R.fpAt h).1) fun a o ha q => by
      have z : a ≠ l := fun z => h2 (by rw [← z]; exact ha)
      rw [upd_ne z]; exact q
theorem ExtS.putT {W : List Nat} {σ' : L2.St} {F' H' : Hp} {e' : En} (x : ExtS W σ F H e σ' F' H' e') {l : Addr} {o : HO} (h : H l = none) (ho : ∀ a, Own σ' e' (upd H' l o) a ↔ Own σ' e' H' a) : ExtS W σ F H e σ' F' (upd H' l o) e' := by
  refine ⟨x.sf, fun a q => ?_, x.fr, fun a vs q => ?_, fun a u q n => ?_, fun a q => x.own a ((ho a).mp q), x.wr⟩
  · by_cases z : a = l
    · rw [z]; exact h
    · rw [upd_ne z] at q; exact x.dom a q
  · have z : a ≠ l := fun z => by rw [z, h] at q; cases q
    rw [upd_ne z]; exact x.lst a vs q
  · have z : a ≠ l := fun z => by rw [z, h] at q; cases q
    rw [upd_ne z]; exact x.tmp a u q n
theorem vComp_go {Q : VK} {fi : FI} {g : FG} {W : List Nat} {ft : FT} {fe : FE} (hn : (cp.map (·.1)).Nodup) (hW : ∀ j ∈ W, cp.length ≤ j) (h : fE K (vComp cp nT fi g ft fe) σ H Q) : tComp cp nT (fI K fi) (fG K g W) (fT K ft) (fE K fe) σ H Q := by
  obtain ⟨F0, e0, z, e', R0, hf, q⟩ := h
  unfold vComp at hf
  obtain ⟨⟨items, own, e1⟩, h1, hf⟩ := Option.bind_eq_some_iff.mp hf
  dsimp only at hf
  split at hf
  case isFalse => cases hf
  case isTrue hO =>
  obtain ⟨⟨out, eo⟩, h2, hf⟩ := Option.bind_eq_some_iff.mp hf
  dsimp only at hf
  split at hf
  case isFalse => cases hf
  case isTrue hB =>
  cases hf
  refine ⟨⟨F0, e0, items, own, e1, R0, h1, fun J F1 H1 X1 R1 kp ok => ?_⟩⟩
  intro l hl
  obtain ⟨Ri, sub⟩ := R1.inn (nT := nT) hn
  have hFl : F1 l = none := R1.freeF hl
  -- what stands ahead of each turn
  let Iv : Nat → L2.St → Hp → Prop := fun i σ' H' => ∃ F' ei acc vs, Rel K F' H' σ' ei ∧ ExtS W (sig0 cp nT σ) F1 H1 (inE cp nT e1) σ' F' H' ei ∧ F' l = none ∧ ¬ Own σ' ei H' l ∧ H' l = some (.lst vs) ∧ DAs K F' acc vs ∧ compF g ft fe (items.drop i) ei acc = some (out, eo)
  have notown : ∀ p ∈ own, ∀ a, σ[p.1]? = some (some (.ref a)) → ¬ Own (sig0 cp nT σ) (inE cp nT e1) H1 a := by
    rintro p hp a ha ⟨k, zf⟩
    obtain ⟨xs, c1, c2⟩ := zf.resolve_right fun ⟨xss, _, _, z, _⟩ => inE_noN k xss z
    obtain ⟨i, s, d1, d2⟩ := inE_get c1
    have e2 := sig_get' d1 c2
    have : p.1 = i := R1.inj p.1 i p.2 xs a (kp p hp) d2 ha e2
    have hh := List.all_eq_true.mp hO p hp
    simp only [Bool.not_eq_true', List.any_eq_false, beq_iff_eq] at hh
    exact hh (i, s) (List.mem_of_getElem? d1) this.symm
  refine ⟨fun i m σ' H' => m = items.length - i ∧ i ≤ items.length ∧ Iv i σ' H', ⟨items.length, by simp, Nat.zero_le _, F1, inE cp nT e1, [], [], (Ri.putT hFl (fun z => (Ri.ownH l z) hl)).1, ExtS.refl.putT hl (Ri.putT hFl (fun z => (Ri.ownH l z) hl)).2, hFl, fun z => (Ri.ownH l (((Ri.putT hFl (fun z => (Ri.ownH l z) hl)).2 l).mp z)) hl, upd_same, DAs.nil, h2⟩, ?_⟩
  rintro i m σ' H' ⟨rfl, hi, F', ei, acc, vs, R', X', fl, no, hl', da, hc⟩
  have held : Held K σ F' H' own := fun p hp => by
    obtain ⟨a, us, c1, c2, c3, c4⟩ := R1.own p.1 p.2 (kp p hp)
    exact ⟨a, us, c1, X'.tmp a _ c3 (notown p hp a c1), c4.mono X'.sf⟩
  obtain ⟨go, stop, yld⟩ := ok F' H' X'.sf R'.sm held
  by_cases hlt : i < items.length
  · have hd : items.drop i = items[i] :: items.drop (i + 1) := List.drop_eq_getElem_cons hlt
    rw [hd] at hc
    unfold compF at hc
    obtain ⟨e2, c2, hc⟩ := Option.bind_eq_some_iff.mp hc
    obtain ⟨⟨b, e3⟩, c3, hc⟩ := Option.bind_eq_some_iff.mp hc
    refine .inr ⟨go i hlt, Iv (i + 1), fun σ2 H2 r => ⟨items.length - (i + 1), by omega, rfl, hlt, r⟩, fun x H2 hy => ?_⟩
    obtain ⟨F2, sH, sF2, sm2, fz, hx⟩ := yld i items[i] x H2 (List.getElem?_eq_getElem hlt) hy
    obtain ⟨R2, X2⟩ := R'.step sH sF2 sm2 fz
    refine ⟨F2, ei, items[i], e2, R2, hx, c2, fun σ3 X3 R3 => ⟨F2, e2, b, e3, R3, c3, fun F4 H4 X4 R4 => ?_⟩⟩
    have hlH2 : H2 l = some (.lst vs) := sH _ _ hl'
    have no2 : ¬ Own σ' ei H2 l := fun z => by
      rcases X2.ow l z with z | z
      · exact no z
      · rw [hl'] at z; cases z
    have no3 : ¬ Own σ3 e2 H2 l := fun z => by
      rcases X3.own l z with z | z
      · exact no2 z
      · rw [hlH2] at z; cases z
    have fl2 : F2 l = none := fz l fl (by rw [hl']; simp)
    have hlH4 : H4 l = some (.lst vs) := X4.tmp l _ hlH2 no3
    have fl4 : F4 l = none := X4.fr l vs fl2 hlH2 no3
    have no4 : ¬ Own σ3 e3 H4 l := fun z => by
      rcases X4.ow l z with z | z
      · exact no3 z
      · rw [hlH2] at z; cases z
    have E4 : ExtS W (sig0 cp nT σ) F1 H1 (inE cp nT e1) σ3 F4 H4 e3 := ((X'.trans X2.s).trans X3).trans X4.s
    cases b with
    | false =>
      rw [if_neg (by simp)] at hc
      exact iteF ⟨F4, e3, acc, vs, R4, E4, fl4, no4, hlH4, da.mono (sF2.trans X4.sf), hc⟩
    | true =>
      rw [if_pos rfl] at hc
      obtain ⟨⟨r, e5⟩, c5, hc⟩ := Option.bind_eq_some_iff.mp hc
      obtain ⟨d, c6, hc⟩ := Option.bind_eq_some_iff.mp hc
      split at hc
      case isFalse => cases hc
      case isTrue hlen =>
      refine iteT ⟨F4, e3, r, e5, R4, c5, fun F5 H5 v X5 R5 A5 => ?_⟩
      have hlH5 : H5 l = some (.lst vs) := X5.tmp l _ hlH4 no4
      have fl5 : F5 l = none := X5.fr l vs fl4 hlH4 no4
      have no5 : ¬ Own σ3 e5 H5 l := fun z => by
        rcases X5.ow l z with z | z
        · exact no4 z
        · rw [hlH4] at z; cases z
      obtain ⟨F6, R6, s6, d6, f6⟩ := RvsAt.frozen R5 (rs := [r]) (vs := [v]) ⟨v, [], rfl, A5, rfl⟩ (datas_one c6)
      have fl6 : F6 l = none := f6 l fl5 (by rw [hlH4]; simp)
      have X6 := X5.frz s6 f6
      have ll := da.len
      have sl : sizeLine = 16777216 := sizeLine_eq
      have dv : DA K F6 d v := by
        simp only [DAs] at d6
        obtain ⟨v', r', e', hv, _⟩ := d6
        cases e'; exact hv
      obtain ⟨R7, o7⟩ := R6.putT (ws := vs ++ [v]) fl6 no5
      refine ⟨vs, hlH5, by omega, F6, e5, acc ++ [d], vs ++ [v], R7, (E4.trans X6.s).putT hl o7, fl6, fun z => no5 ((o7 l).mp z), upd_same, (da.mono (sF2.trans (X4.sf.trans (X5.sf.trans s6)))).append (DAs.one dv), hc⟩
  · have hd : items.drop i = [] := List.drop_eq_nil_of_le (by omega)
    rw [hd] at hc
    cases hc
    refine .inl ⟨stop i (by omega), ?_⟩
    obtain ⟨R9, X9, o9⟩ := sub_back R1 sub inE_noN X'.sf X'.dom X'.fr X'.lst X'.tmp R' (fun i k xs g1 g2 => X'.wr k fun z => by
      obtain ⟨s, g⟩ := posC_some g2
      have := (List.getElem?_eq_some_iff.mp g).1
      have := hW k z
      omega) fun i k xs g1 g2 => by
        obtain ⟨s, g⟩ := posC_some g2
        unfold backOk at hB
        have hb := List.all_eq_true.mp hB _ (List.mem_of_getElem? g)
        simp only [g1, g2, Option.getD_some, isL, Bool.not_true, Bool.false_or] at hb
        exact isL_iff.mp hb
    exact q F' H' (.ref l) (X1.trans X9) R9 ⟨l, vs, rfl, X1.dom l hl, fl, hl', da, fun z => R1.ownH l (o9 l z) hl⟩
end
end L2

set_option Elab.async false
set_option linter.all false
set_option maxRecDepth 100000
set_option maxHeartbeats 4000000
namespace L2
open PySem PySem.Spec PyProof.Rows
section
variable {X : Cx} {K : PySem.W.Frag} {a b : Expr} {es : List Expr} {fa fb : FE} {fs : FA} {pos p p2 p3 : Pos} {lo hi : Option Expr}
/-! ### the rules with the module's facts named -/
def gNeg : En → Rv → Option Rv := fun _ x => (intOf x).map fun i => .d (.int (-i))
theorem neg_f : UnF K (rU fun i => .int (-i)) gNeg := by
  intro σ H0 F H e x z v Q R A hg q
  obtain ⟨i, h5, h4⟩ := Option.map_eq_some_iff.mp hg
  cases h4
  exact ⟨i, intOf_at A h5, q F H _ (Ext.refl _ _ _ _) R rv_int⟩
theorem q_neg (ha : PE X a (fE K fa)) : PE X (.UnaryOp .USub a pos) (fE K (vUn gNeg fa)) := qe_un un_neg neg_f ha
theorem q_add (hK : X.K = K) (ha : PE X a (fE K fa)) (hb : PE X b (fE K fb)) : PE X (.BinOp a .Add b pos) (fE K (vOp gAdd fa fb)) := qe_op (hK ▸ op_add3) add_f ha hb
theorem q_sub (ha : PE X a (fE K fa)) (hb : PE X b (fE K fb)) : PE X (.BinOp a .Sub b pos) (fE K (vOp gMinus fa fb)) := qe_op op_sub sub_f ha hb
theorem q_mul (hK : X.K = K) (ha : PE X a (fE K fa)) (hb : PE X b (fE K fb)) : PE X (.BinOp a .Mult b pos) (fE K (vOp gMul fa fb)) := qe_op (hK ▸ op_mul3) mul_f ha hb
theorem q_fdiv (ha : PE X a (fE K fa)) (hb : PE X b (fE K fb)) : PE X (.BinOp a .FloorDiv b pos) (fE K (vOp gFdiv fa fb)) := qe_op op_fdivB fdiv_f ha hb
theorem q_mod (ha : PE X a (fE K fa)) (hb : PE X b (fE K fb)) : PE X (.BinOp a .Mod b pos) (fE K (vOp gMod fa fb)) := qe_op op_modN mod_f ha hb
theorem q_pow (ha : PE X a (fE K fa)) (hb : PE X b (fE K fb)) : PE X (.BinOp a .Pow b pos) (fE K (vOp gPow fa fb)) := qe_op op_pow pow_f ha hb
theorem q_ix (hK : X.K = K) (ha : PE X a (fE K fa)) (hb : PE X b (fE K fb)) (hs : PlainIx b) : PE X (.Subscript a b pos) (fE K (vOp gIx fa fb)) := qe_ix (hK ▸ ix_2) ix_f ha hb hs
theorem q_slice {fl fh : FO} (hK : X.K = K) (he : PE X a (fE K fa)) (hl : PO X lo (fO K fl)) (hh : PO X hi (fO K fh)) : PE X (.Subscript a (.Slice lo hi none p2) pos) (fE K (vSl fa fl fh)) := by subst hK; exact qe_slice he hl hh
/-- the comparisons: the rule and its function -/
structure CmpQ (X : Cx) (K : PySem.W.Frag) (op : CmpOp) (g : En → Rv → Rv → Option Rv) : Prop where
  ex : ∃ r, OpR X (compareOp op) r ∧ OpF K r g
theorem c_lt : CmpQ X K .Lt gLt := ⟨_, op_lt, lt_f⟩
theorem c_le : CmpQ X K .LtE gLe := ⟨_, op_le, le_f⟩
theorem c_gt : CmpQ X K .Gt gGt := ⟨_, op_gt, gt_f⟩
theorem c_ge : CmpQ X K .GtE gGe := ⟨_, op_ge, ge_f⟩
theorem c_eq {k : Nat} (hK : X.K = K) (hr : Room k X.A) : CmpQ X K .Eq (gEqD false) := ⟨_, hK ▸ op_eqD hr, eqD_f⟩
theorem c_ne {k : Nat} (hK : X.K = K) (hr : Room k X.A) : CmpQ X K .NotEq (gEqD true) := ⟨_, hK ▸ op_neD hr, eqD_f⟩
theorem c_notIn {k : Nat} (hK : X.K = K) (hr : Room k X.A) : CmpQ X K .NotIn (gIn true) := ⟨_, hK ▸ op_notInD hr, in_f⟩
theorem c_isNot : CmpQ X K .IsNot gIsNot := ⟨_, op_isNot2, isNot_f⟩
theorem q_cmp {op : CmpOp} {g : En → Rv → Rv → Option Rv} (h : CmpQ X K op g) (ha : PE X a (fE K fa)) (hb : PE X b (fE K fb)) (hm : behindInMarks op b = false) : PE X (.Compare a [op] [b] pos) (fE K (vOp g fa fb)) := by
  obtain ⟨r, h1, h2⟩ := h.ex; exact qe_cmp h1 h2 ha hb hm
theorem q_tcmp {op : CmpOp} {g : En → Rv → Rv → Option Rv} (h : CmpQ X K op g) (ha : PE X a (fE K fa)) (hb : PE X b (fE K fb)) (hm : behindInMarks op b = false) : PT X (.Compare a [op] [b] pos) (fT K (vTest (vOp g fa fb))) := by
  obtain ⟨r, h1, h2⟩ := h.ex; exact qt_cmp h1 h2 ha hb hm
theorem q_chain {op op' : CmpOp} {g g' : En → Rv → Rv → Option Rv} {c : Expr} {fc : FE} (h : CmpQ X K op g) (h' : CmpQ X K op' g') (ha : PE X a (fE K fa)) (hb : PE X b (fE K fb)) (hc : PE X c (fE K fc)) (hm : lastMarks [op, op'] [b, c] = false) : PE X (.Compare a [op, op'] [b, c] pos) (fE K (vChain g g' fa fb fc)) := by
  obtain ⟨r, h1, h2⟩ := h.ex; obtain ⟨r', h3, h4⟩ := h'.ex; exact qe_chain h1 h2 h3 h4 ha hb hc hm
/-- the builtins -/
structure BltQ (X : Cx) (K : PySem.W.Frag) (x : Str) (g : En → List Rv → Option Rv) : Prop where
  ex : (∃ id r, CallR X (.builtin id) r ∧ CallF K r g ∧ bootBuiltins x = some (.builtin id)) ∨ ∃ T r, CallR X (.type T) r ∧ CallF K r g ∧ bootBuiltins x = some (.type T)
theorem q_blt {x : Str} {g : En → List Rv → Option Rv} (h : BltQ X K x g) (hg : Gl X x) (hm : X.mg x = none) (ha : PA X (a :: es) (fA K fs)) (hn : x ≠ "__name__") (hdb : (x == ("__debug__" : Str)) = false)
    (he : starEach (a :: es) X.env = (false, eval a X.env) :: starEach es X.env) (hpl : (backTo pos (starEach es X.env)).any (·.1) = false) : PE X (.Call (.Name x p) (a :: es) [] pos) (fE K (vCall g fs)) := by
  rcases h.ex with ⟨id, r, h1, h2, h3⟩ | ⟨T, r, h1, h2, h3⟩
  · exact qe_callB h1 h2 hg hm h3 ha hn hdb he hpl
  · exact qe_callTy h1 h2 hg hm h3 ha hn hdb he hpl
theorem b_len (hK : X.K = K) : BltQ X K "len" (g1 gLen) := ⟨.inl ⟨_, _, hK ▸ call_len_seq, len_f, PySem.boot_len⟩⟩
theorem b_abs : BltQ X K "abs" (g1 gAbs) := ⟨.inl ⟨_, _, call_abs, abs_f, PyProof.Rows.boot_abs⟩⟩
theorem b_min (hc : X.calm = true) : BltQ X K "min" (g2 gMin) := ⟨.inl ⟨_, _, call_min2 hc, min_f, PyProof.Rows.boot_min⟩⟩
theorem b_max (hc : X.calm = true) : BltQ X K "max" (g2 gMax) := ⟨.inl ⟨_, _, call_max2 hc, max_f, PyProof.Rows.boot_max⟩⟩
theorem b_int : BltQ X K "int" (g1 gInt) := ⟨.inr ⟨_, _, call_int1, int_f, PyProof.Rows.boot_int⟩⟩
theorem b_tuple (hK : X.K = K) : BltQ X K "tuple" (g1 gTuple) := ⟨.inr ⟨_, _, hK ▸ call_tuple_of, tuple_f, PyProof.Rows.boot_tuple⟩⟩
theorem b_all {k : Nat} (hK : X.K = K) (hr : Room k X.A) : BltQ X K "all" (g1 (gSeqL gAllD)) := ⟨.inl ⟨_, _, call_all hr hK, all_f, boot_all⟩⟩
theorem b_repr {k : Nat} (hK : X.K = K) (hr : Room k X.A) : BltQ X K "repr" (g1 gRepr) := ⟨.inl ⟨_, _, hK ▸ call_repr2 hr, repr_f, PyProof.Rows.boot_repr⟩⟩
/-! ### comprehensions -/
abbrev tTrue : FT := fun e => some (true, e)
theorem PTs.mono {ifs : List Expr} {t t' : TT} (h : PTs X ifs t) (m : ∀ σ H Q, t' σ H Q → t σ H Q) : PTs X ifs t' := fun pins s σ H Q I q => h pins s σ H Q I (m σ H Q q)
theorem qts_nil : PTs X [] (fT K tTrue) := pts_nil.mono fun σ H Q h => by
  obtain ⟨F, e, b, e', R, hf, q⟩ := h
  cases hf
  exact q F H (Ext.refl _ _ _ _) R
theorem qts_one {c : Expr} {ft : FT} (h : PT X c (fT K ft)) : PTs X [c] (fT K ft) := pts_one h
theorem q_comp {elt iter tg : Expr} {ifs : List Expr} {scope : Scope} {fi : FI} {g : FG} {ft : FT} {fe : FE} {W : List Nat} (sc0 : Scope) (N0 : List Str) (cp : List (Nat × Str)) (tgN : List Str)
    (hc : X.calm = true) (hsc : X.env.scope = sc0) (hN0 : X.N = N0) (hi : PI X tg iter (fI K fi))
    (hg : ∀ C s0 H0 fp, PG (compCx X scope cp tgN C s0 H0 fp) tg (fG K g W))
    (ht : ∀ C s0 H0 fp, PTs (compCx X scope cp tgN C s0 H0 fp) ifs (fT K ft))
    (he : ∀ C s0 H0 fp, PE (compCx X scope cp tgN C s0 H0 fp) elt (fE K fe))
    (hk : scope.kind = .function) (hcell : ∀ y ∈ scope.names, y.2 ≠ .cell) (hnames : ∀ y ∈ scope.names, y.2 = .local → scope.names.lookup y.1 = some .local)
    (hfr : ∀ y ∈ scope.names, y.2 = .free → scope.names.lookup y.1 = some .free ∧ sc0.names.lookup y.1 = some .cell)
    (hcp : ∀ p ∈ cp, N0[p.1]? = some p.2) (hcq : ∀ p ∈ cp, sc0.names.lookup p.2 = some .cell ∧ scope.names.lookup p.2 = some .free) (hnd : (cp.map (·.1)).Nodup) (hW : ∀ j ∈ W, cp.length ≤ j)
    (hs : ∀ x, foldedSetIterable iter X.env x = pure x) :
    PE X (.ListComp elt [⟨tg, iter, ifs, 0⟩] scope pos) (fE K (vComp cp tgN.length fi g ft fe)) := (pe_comp sc0 N0 cp tgN hc hsc hN0 hi hg ht he hk hcell hnames hfr hcp hcq hs).mono fun _ _ _ h => vComp_go hnd hW h
/-! ### methods -/
variable {o : Expr} {fo : FE} {apos cpos : Pos}
theorem q_append (hK : X.K = K) (ho : PE X o (fE K fo)) (ha : PA X (a :: es) (fA K fs)) (hbase : attributeBase o "append" X.env (eval o X.env) = eval o X.env)
    (hfew : ((backTo cpos (starEach (a :: es) X.env)).all (fun x => !x.1) && (backToKw cpos (keywordEach [] X.env)).all (fun x => x.1.isSome)
      && decide ((a :: es).length + ([] : List Keyword).length + (if ([] : List Keyword).isEmpty then 0 else 1) < 30)) = true)
    (hline : (apos.endLine == cpos.line) = true) (hs : starEach (a :: es) X.env = (false, eval a X.env) :: starEach es X.env) (hplain : (backTo cpos (starEach es X.env)).any (·.1) = false) :
    PE X (.Call (.Attribute o "append" apos) (a :: es) [] cpos) (fE K (vMeth mAppend fo fs)) := by
  subst hK; exact qe_bm PySem.F.slot_list_append PySem.F.type_list_append mt_append append_f ho ha hbase hfew hline hs hplain
theorem q_popAt (hK : X.K = K) (ho : PE X o (fE K fo)) (ha : PA X (a :: es) (fA K fs)) (hbase : attributeBase o "pop" X.env (eval o X.env) = eval o X.env)
    (hfew : ((backTo cpos (starEach (a :: es) X.env)).all (fun x => !x.1) && (backToKw cpos (keywordEach [] X.env)).all (fun x => x.1.isSome)
      && decide ((a :: es).length + ([] : List Keyword).length + (if ([] : List Keyword).isEmpty then 0 else 1) < 30)) = true)
    (hline : (apos.endLine == cpos.line) = true) (hs : starEach (a :: es) X.env = (false, eval a X.env) :: starEach es X.env) (hplain : (backTo cpos (starEach es X.env)).any (·.1) = false) :
    PE X (.Call (.Attribute o "pop" apos) (a :: es) [] cpos) (fE K (vMeth mPopAt fo fs)) := by
  subst hK; exact qe_bm PySem.F.slot_list_pop PySem.F.type_list_pop mt_popAt popAt_f ho ha hbase hfew hline hs hplain
end
end L2
namespace L2
open PySem PySem.Spec PyProof.Rows
theorem spM_script {K : PySem.W.Frag} {H : Hp} {a : Addr} {ns : List Int} {m : FM} {as' : List Sv} {Q : VK} {E : XK} (hS : SqL K H a (ns.map V.int)) (hm : m [.d (.list (ns.map .int))] = some (.d (.bool true), as')) (q : ∀ H', Q (.bl true) H') : spM K 1 m [.ref a] H Q E := by
  refine ⟨rfl, H, [.d (.list (ns.map .int))], _, as', ?_, ?_, hm, trivial, fun F' H' v X' R' A' => ?_⟩
  · refine ⟨Same.refl _, rfl, fun i x h => ?_, fun i xs h => ?_, fun i xss h => ?_, fun i j l f1 _ => ?_⟩
    · match i, h with
      | 0, h =>
        simp at h; subst h
        exact ⟨.ref a, rfl, da_lst.mpr ⟨a, _, rfl, hS, DAs.ints.mpr rfl⟩⟩
      | i + 1, h => simp at h
    · match i, h with
      | 0, h => simp at h
      | i + 1, h => simp at h
    · match i, h with
      | 0, h => simp at h
      | i + 1, h => simp at h
    · rcases f1 with ⟨_, h, _⟩ | ⟨_, _, _, h, _⟩
      · match i, h with
        | 0, h => simp at h
        | i + 1, h => simp at h
      · match i, h with
        | 0, h => simp at h
        | i + 1, h => simp at h
  · intro i xss h
    match i, h with
    | 0, h => simp at h
    | i + 1, h => simp at h
  · rw [da_bool.mp (show DA K F' (.bool true) v from A')]; exact q H'
end L2

set_option Elab.async false
set_option linter.all false
set_option maxRecDepth 100000
set_option maxHeartbeats 4000000
namespace L2
open PySem PySem.Spec PyProof.Rows
section
variable {K : PySem.W.Frag} {σ : L2.St} {H0 F H F' H' : Hp} {e e' : En}
end
section
variable {X : Cx} {K : PySem.W.Frag} {a b : Expr} {es : List Expr} {fa fb : FE} {fs : FA} {pos p p2 p3 pos' : Pos} {x : Str} {i : Nat}
/-! ### ints that nothing is made for -/
def nC (k : Int) : En → Option Int := fun _ => some k
/-! ### extend by a list that nobody else holds -/
end
end L2

set_option Elab.async false
set_option linter.all false
set_option maxRecDepth 100000
set_option maxHeartbeats 4000000
namespace L2
open PySem PySem.Spec PyProof.Rows
/-! ### the slots behind a call -/
/-! ### ints -/
theorem gI_int {C : Int → Int → Bool} {f : Int → Int → PyData} {e : En} {i j : Int} (h : C i j = true) : gI C f e (.d (.int i)) (.d (.int j)) = some (.d (f i j)) := by simp [gI, intOf, h]
theorem gAdd_int {e : En} {i j : Int} : gAdd e (.d (.int i)) (.d (.int j)) = some (.d (.int (i + j))) := rfl
theorem gMinus_int {e : En} {i j : Int} : gMinus e (.d (.int i)) (.d (.int j)) = some (.d (.int (i - j))) := rfl
theorem gMul_int {e : En} {i j : Int} (h : mulB i j = true) : gMul e (.d (.int i)) (.d (.int j)) = some (.d (.int (i * j))) := by
  unfold gMul gOr gMulI; rw [gI_int h]; rfl
theorem mulB_l {i j : Int} (h1 : -(2 ^ 64) < i) (h2 : i < 2 ^ 64) : mulB i j = true := by
  have : smallB i = true := by unfold smallB; rw [decide_eq_true h1, decide_eq_true h2]; rfl
  unfold mulB; rw [this]; simp
theorem mulB_r {i j : Int} (h1 : -(2 ^ 64) < j) (h2 : j < 2 ^ 64) : mulB i j = true := by
  have : smallB j = true := by unfold smallB; rw [decide_eq_true h1, decide_eq_true h2]; rfl
  unfold mulB; rw [this]; simp
theorem gMod_int {e : En} {i j : Int} (h : 0 < j) : gMod e (.d (.int i)) (.d (.int j)) = some (.d (.int (i % j))) := by
  unfold gMod; rw [gI_int (by simp; omega)]
  rw [Int.fmod_eq_emod_of_nonneg i (by omega)]
theorem gFdiv_int {e : En} {i j : Int} (h : 0 < j) (h2 : Bt 8000 j) : gFdiv e (.d (.int i)) (.d (.int j)) = some (.d (.int (i / j))) := by
  unfold gFdiv; rw [gI_int (by simp [btB_iff.mpr h2]; omega)]
  rw [Int.fdiv_eq_ediv_of_nonneg i (by omega)]
theorem gEq_int {e : En} {i j : Int} {neg : Bool} : gEqD neg e (.d (.int i)) (.d (.int j)) = some (.d (.bool (if neg then !(i == j) else i == j))) := by
  unfold gEqD; simp [dataR, SeqAt.shaped, PyData.canLay0, PyData.depth, PyData.eqv]
theorem gLt_int {e : En} {i j : Int} : gLt e (.d (.int i)) (.d (.int j)) = some (.d (.bool (decide (i < j)))) := rfl
theorem gLe_int {e : En} {i j : Int} : gLe e (.d (.int i)) (.d (.int j)) = some (.d (.bool (decide (i ≤ j)))) := rfl
theorem gGt_int {e : En} {i j : Int} : gGt e (.d (.int i)) (.d (.int j)) = some (.d (.bool (decide (j < i)))) := rfl
theorem gGe_int {e : En} {i j : Int} : gGe e (.d (.int i)) (.d (.int j)) = some (.d (.bool (decide (j ≤ i)))) := rfl
theorem gMin_int {e : En} {i j : Int} : g2 gMin e [.d (.int i), .d (.int j)] = some (.d (.int (min i j))) := by
  show some (Rv.d (.int (if j < i then j else i))) = _
  congr 3
  split <;> omega
theorem gMax_int {e : En} {i j : Int} : g2 gMax e [.d (.int i), .d (.int j)] = some (.d (.int (max i j))) := by
  show some (Rv.d (.int (if j > i then j else i))) = _
  congr 3
  split <;> omega
theorem gNeg_int {e : En} {i : Int} : gNeg e (.d (.int i)) = some (.d (.int (-i))) := rfl
theorem gInt_bool {e : En} {b : Bool} : g1 gInt e [.d (.bool b)] = some (.d (.int (if b then 1 else 0))) := rfl
theorem gAbs_int {e : En} {i : Int} : g1 gAbs e [.d (.int i)] = some (.d (.int i.natAbs)) := by
  show some (Rv.d (.int (if i < 0 then -i else i))) = _
  congr 3
  split <;> omega
theorem bt_pos {j : Int} (h1 : 0 < j) (h2 : j < 2 ^ 64) : Bt 8000 j := Bt.mono (m := 64) (by unfold Bt; omega) (by decide)
theorem atI_ix {α : Type} {xs : List α} {i : Int} (h0 : 0 ≤ i) (h : i < xs.length) : atI xs i = xs[i.toNat]? := by
  unfold atI ixN
  rw [if_pos h0, if_pos h]; rfl
/-- a list against [] -/
theorem gEq_nilS {e : En} {i : Nat} {xs : List PyData} {neg : Bool} (h : e[i]? = some (some (.l xs))) (hs : SeqAt.shaped (.list xs) = true) : gEqD neg e (.s i) (.l []) = some (.d (.bool (if neg then !xs.isEmpty else xs.isEmpty))) := by
  unfold gEqD
  simp only [dataR, h, Option.bind_some, hs]
  have h0 : SeqAt.shaped (.list []) = true := by simp [SeqAt.shaped, PyData.canLay0, PyData.canLayAll0, PyData.depth, PyData.depthAll]
  rw [h0]
  cases xs <;> simp [PyData.eqv, PyData.eqvAll]
theorem shaped_ints (ns : List Int) : SeqAt.shaped (.list (ns.map .int)) = true ∧ SeqAt.shaped (.tuple (ns.map .int)) = true := by
  have h1 : PyData.canLayAll0 (ns.map PyData.int) = true := by
    induction ns with
    | nil => rfl
    | cons n r ih => simp [PyData.canLayAll0, PyData.canLay0, ih]
  have h2 : PyData.depthAll (ns.map PyData.int) = 0 := by
    clear h1
    induction ns with
    | nil => rfl
    | cons n r ih => simp [PyData.depthAll, PyData.depth, ih]
  constructor <;> simp [SeqAt.shaped, PyData.canLay0, PyData.depth, h1, h2]
/-! ### loops -/
theorem forF_inv {own : OwnW} {g : FG} {f : FS} (P : Nat → En → Prop) : ∀ (items : List PyData) (k : Nat) (e : En), (∀ i x e, items[i]? = some x → P (k + i) e → ∃ e1 e2, g x e = some e1 ∧ f e1 = some (.nx e2) ∧ keeps own e2 ∧ P (k + i + 1) e2) → P k e → ∃ e', forF own g f items e = some (.nx e') ∧ P (k + items.length) e'
  | [], k, e, _, h => ⟨e, rfl, h⟩
  | x :: r, k, e, hs, h => by
    obtain ⟨e1, e2, h1, h2, h3, h4⟩ := hs 0 x e rfl h
    obtain ⟨e', h5, h6⟩ := forF_inv P r (k + 1) e2 (fun i y e hy hp => by
      have := hs (i + 1) y e (by simpa using hy) (by rw [show k + (i + 1) = k + 1 + i by omega]; exact hp)
      rw [show k + (i + 1) + 1 = k + 1 + i + 1 by omega] at this
      exact this) h4
    refine ⟨e', ?_, by rw [List.length_cons, show k + (r.length + 1) = k + 1 + r.length by omega]; exact h6⟩
    unfold forF
    simp only [h1, h2, Option.bind_some, if_pos h3]
    exact h5
theorem keeps_nil {e : En} : keeps [] e := fun _ h => by cases h
/-- for over what is no own list -/
theorem sFor_go {W : List Nat} {fi : FI} {g : FG} {f : FS} {e e1 : En} {items : List PyData} (h : fi e = some (items, [], e1)) : sFor W fi g f e = forF [] g f items e1 := by
  unfold sFor; rw [h]; rfl
theorem rangeD_get {lo : Int} {n i : Nat} {x : PyData} (h : (rangeD lo n)[i]? = some x) : x = .int (lo + i) ∧ i < n := by
  unfold rangeD at h
  rw [List.getElem?_map] at h
  obtain ⟨k, h1, rfl⟩ := Option.map_eq_some_iff.mp h
  obtain ⟨h2, h3⟩ := List.getElem?_eq_some_iff.mp h1
  simp at h2 h3
  subst h3
  exact ⟨rfl, h2⟩
theorem rangeD_len {lo : Int} {n : Nat} : (rangeD lo n).length = n := by simp [rangeD]
theorem iRange1_go {fs : FA} {e e1 : En} {n : Int} (h : fs e = some ([.d (.int n)], e1)) (h1 : -1000000 ≤ n) (h2 : n ≤ 1000000) : iRange1 fs e = some (rangeD 0 n.toNat, [], e1) := by
  unfold iRange1; rw [h]
  have : rngB n = true := by unfold rngB; rw [decide_eq_true h1, decide_eq_true h2]; rfl
  simp [intOf, this]
/-- while, by a measure -/
theorem whileF_inv {ft : FT} {f : FS} (P : En → Prop) (μ : En → Nat) (hs : ∀ e, P e → (∃ e1, ft e = some (false, e1) ∧ True) ∨ ∃ e1 e2, ft e = some (true, e1) ∧ f e1 = some (.nx e2) ∧ P e2 ∧ μ e2 < μ e) :
    ∀ (n : Nat) (e : En), P e → μ e < n → ∃ e0 e', whileF ft f n e = some (.nx e') ∧ P e0 ∧ ft e0 = some (false, e') := by
  intro n
  induction n with
  | zero => intro e _ h; omega
  | succ n ih =>
    intro e hp hm
    rcases hs e hp with ⟨e1, h1, _⟩ | ⟨e1, e2, h1, h2, h3, h4⟩
    · exact ⟨e, e1, by unfold whileF; rw [h1]; rfl, hp, h1⟩
    · obtain ⟨e0, e', g1, g2⟩ := ih e2 h3 (by omega)
      exact ⟨e0, e', by unfold whileF; rw [h1]; simp only [Option.bind_some, if_true, h2]; exact g1, g2⟩
/-! ### comprehensions of one name -/
theorem compF_one {cs : En} {ft : FT} {fe : FE} {b : PyData → Bool} {y : PyData → PyData} : ∀ (items : List PyData) (t : Option Sv) (acc : List PyData), (∀ x ∈ items, ft (cs ++ [some (.d x)]) = some (b x, cs ++ [some (.d x)])) → (∀ x ∈ items, b x = true → fe (cs ++ [some (.d x)]) = some (.d (y x), cs ++ [some (.d x)])) →
    acc.length + items.length ≤ 1000000 → ∃ t', compF (gtName cs.length) ft fe items (cs ++ [t]) acc = some (acc ++ (items.filter b).map y, cs ++ [t'])
  | [], t, acc, _, _, _ => ⟨t, by simp [compF]⟩
  | x :: r, t, acc, h1, h2, hl => by
    have hg : gtName cs.length x (cs ++ [t]) = some (cs ++ [some (.d x)]) := by simp [gtName]
    have h1x := h1 x (by simp)
    unfold compF
    rw [hg]
    simp only [Option.bind_some, h1x]
    cases hb : b x with
    | true =>
      simp only [if_true, h2 x (by simp) hb, Option.bind_some, dat1]
      rw [if_pos (by simp at hl; omega)]
      obtain ⟨t', ih⟩ := compF_one (b := b) (y := y) r (some (.d x)) (acc ++ [y x]) (fun z hz => h1 z (by simp [hz])) (fun z hz => h2 z (by simp [hz])) (by simp at hl ⊢; omega)
      exact ⟨t', by rw [ih]; simp [hb]⟩
    | false =>
      simp only [Bool.false_eq_true, if_false]
      obtain ⟨t', ih⟩ := compF_one (b := b) (y := y) r (some (.d x)) acc (fun z hz => h1 z (by simp [hz])) (fun z hz => h2 z (by simp [hz])) (by simp at hl; omega)
      exact ⟨t', by rw [ih]; simp [hb]⟩
theorem iSeq_d {fa : FE} {e e1 : En} {xs : List PyData} (h : fa e = some (.d (.tuple xs), e1)) : iSeq fa e = some (xs, [], e1) := by
  unfold iSeq; rw [h]; rfl
theorem iSeq_l {fa : FE} {e e1 : En} {xs : List PyData} (h : fa e = some (.l xs, e1)) : iSeq fa e = some (xs, [], e1) := by
  unfold iSeq; rw [h]; rfl
/-- a comprehension whose block leaves what is lent as it was -/
theorem vComp_cs {cp : List (Nat × Str)} {nT : Nat} {fi : FI} {g : FG} {ft : FT} {fe : FE} {e e1 cs : En} {t t' : En} {items out : List PyData} (h1 : fi e = some (items, [], e1)) (hc : inE cp nT e1 = cs ++ t) (hl : cs.length = cp.length) (h3 : compF g ft fe items (inE cp nT e1) [] = some (out, cs ++ t')) : vComp cp nT fi g ft fe e = some (.l out, e1) := by
  have key : ∀ i x, e1[i]? = some (some (.l x)) → ∀ k, posC cp i = some k → (cs ++ t')[k]? = some (some (.l x)) := by
    intro i x hi k hk
    obtain ⟨s, hs⟩ := posC_some hk
    have hk2 : k < cp.length := (List.getElem?_eq_some_iff.mp hs).1
    have : (inE cp nT e1)[k]? = some (some (.l x)) := by
      unfold inE
      rw [List.getElem?_append_left (by simpa using hk2), List.getElem?_map, hs]
      simp [hi, lend]
    rw [hc, List.getElem?_append_left (by omega)] at this
    rw [List.getElem?_append_left (by omega)]
    exact this
  unfold vComp
  rw [h1]
  simp only [Option.bind_some, List.all_nil, if_true, h3]
  have hb : backOk cp (cs ++ t') e1 = true := by
    unfold backOk
    rw [List.all_eq_true]
    intro p hp
    match hi : e1[p.1]? with
    | none => simp [isL]
    | some none => simp [isL]
    | some (some (.d x)) => simp [isL]
    | some (some (.n x)) => simp [isL]
    | some (some (.l x)) =>
      cases hq : posC cp p.1 with
      | none =>
        unfold posC at hq
        rw [List.findIdx?_eq_none_iff] at hq
        have := hq p hp
        simp at this
      | some k => simp [key p.1 x hi k hq, isL]
  rw [if_pos hb]
  congr 2
  refine List.ext_getElem? fun i => ?_
  rw [updE_get]
  match hi : e1[i]? with
  | none => rfl
  | some none => rfl
  | some (some (.d x)) => rfl
  | some (some (.n x)) => rfl
  | some (some (.l x)) =>
    cases hp : posC cp i with
    | none => simp [hp]
    | some k => simp [hp, key i x hi k hp]
theorem atI_in {α : Type} {xs : List α} {i : Int} (h0 : 0 ≤ i) (h1 : i < xs.length) : ∃ x ∈ xs, atI xs i = some x := by
  rw [atI_ix h0 h1]
  exact ⟨xs[i.toNat]'(by omega), List.getElem_mem _, List.getElem?_eq_getElem _⟩
theorem gIx_l {e : En} {xs : List PyData} {i : Int} : gIx e (.l xs) (.d (.int i)) = (atI xs i).map .d := rfl
theorem gIx_t {e : En} {xs : List PyData} {i : Int} : gIx e (.d (.tuple xs)) (.d (.int i)) = (atI xs i).map .d := rfl
theorem gIx_dl {e : En} {xs : List PyData} {i : Int} : gIx e (.d (.list xs)) (.d (.int i)) = (atI xs i).map .d := rfl
theorem gIx_s {e : En} {j : Nat} {xs : List PyData} {i : Int} (h : e[j]? = some (some (.l xs))) : gIx e (.s j) (.d (.int i)) = (atI xs i).map .d := by
  simp [gIx, seqR, h, intOf]
theorem gLen_t {e : En} {xs : List PyData} : g1 gLen e [.d (.tuple xs)] = some (.d (.int xs.length)) := rfl
theorem gLen_dl {e : En} {xs : List PyData} : g1 gLen e [.d (.list xs)] = some (.d (.int xs.length)) := rfl
theorem gLen_l {e : En} {xs : List PyData} : g1 gLen e [.l xs] = some (.d (.int xs.length)) := rfl
theorem gLen_s {e : En} {j : Nat} {xs : List PyData} (h : e[j]? = some (some (.l xs))) : g1 gLen e [.s j] = some (.d (.int xs.length)) := by
  simp [g1, gLen, seqR, h]
theorem gTuple_s {e : En} {j : Nat} {xs : List PyData} (h : e[j]? = some (some (.l xs))) : g1 gTuple e [.s j] = some (.d (.tuple xs)) := by
  simp [g1, gTuple, seqR, h]
theorem gTuple_l {e : En} {xs : List PyData} : g1 gTuple e [.l xs] = some (.d (.tuple xs)) := rfl
theorem gTuple_dl {e : En} {xs : List PyData} : g1 gTuple e [.d (.list xs)] = some (.d (.tuple xs)) := rfl
theorem gTuple_t {e : En} {xs : List PyData} : g1 gTuple e [.d (.tuple xs)] = some (.d (.tuple xs)) := rfl
theorem gSl_t {e : En} {xs : List PyData} {lo hi : Option Int} : gSl e (.d (.tuple xs)) lo hi = some (.d (.tuple (cutD xs lo hi))) := rfl
theorem gCat_t {e : En} {xs ys : List PyData} (h : xs.length + ys.length ≤ 1000000) : gAdd e (.d (.tuple xs)) (.d (.tuple ys)) = some (.d (.tuple (xs ++ ys))) := by
  simp [gAdd, gOr, gAddI, gI, intOf, gCatT, seqR, h]
theorem gMod_f {e : En} {i j : Int} (h : j ≠ 0) : gMod e (.d (.int i)) (.d (.int j)) = some (.d (.int (i.fmod j))) := by
  unfold gMod; rw [gI_int (by simpa using h)]
theorem gFdiv_f {e : En} {i j : Int} (h : j ≠ 0) (h2 : Bt 8000 j) : gFdiv e (.d (.int i)) (.d (.int j)) = some (.d (.int (i.fdiv j))) := by
  unfold gFdiv; rw [gI_int (by simp [btB_iff.mpr h2, h])]
theorem gPow_int {e : En} {i j : Int} (h : powB i j = true) : gPow e (.d (.int i)) (.d (.int j)) = some (.d (.int (i ^ j.toNat))) := by
  unfold gPow; rw [gI_int h]
theorem pow10_18 : powB 10 18 = true := by decide
theorem sSeq_nx {f g : FS} {e e1 : En} (h : f e = some (.nx e1)) : sSeq f g e = g e1 := by unfold sSeq; rw [h]; rfl
theorem sIf_t {ft : FT} {f g : FS} {e e1 : En} (h : ft e = some (true, e1)) : sIf ft f g e = f e1 := by unfold sIf; rw [h]; rfl
theorem sIf_f {ft : FT} {f g : FS} {e e1 : En} (h : ft e = some (false, e1)) : sIf ft f g e = g e1 := by unfold sIf; rw [h]; rfl
def lenAt (i : Nat) (e : En) : Nat := match e[i]? with
  | some (some (.l xs)) => xs.length
  | _ => 0
def natAt (i : Nat) (e : En) : Nat := match e[i]? with
  | some (some (.d (.int k))) => k.natAbs
  | _ => 0
theorem lt_fuel {n m : Nat} (h : n < 2 ^ m) (hm : m ≤ 4200) : n < 2 ^ 4200 := Nat.lt_of_lt_of_le h (Nat.pow_le_pow_right (by decide) hm)
/-! ### places in rows -/
theorem atI_c0 {α : Type} {a : α} {r : List α} : atI (a :: r) 0 = some a := by
  rw [atI_ix (by decide) (by simp)]; rfl
theorem atI_c1 {α : Type} {a b : α} {r : List α} : atI (a :: b :: r) 1 = some b := by
  rw [atI_ix (by decide) (by simp; omega)]; rfl
theorem atI_c2 {α : Type} {a b c : α} {r : List α} : atI (a :: b :: c :: r) 2 = some c := by
  rw [atI_ix (by decide) (by simp; omega)]; rfl
theorem atI_c3 {α : Type} {a b c d : α} {r : List α} : atI (a :: b :: c :: d :: r) 3 = some d := by
  rw [atI_ix (by decide) (by simp; omega)]; rfl
theorem cut_2 {a b c d : PyData} : cutD [a, b, c, d] none (some 2) = [a, b] := rfl
theorem cut_from2 {a b c d : PyData} : cutD [a, b, c, d] (some 2) none = [c, d] := rfl
theorem cut_from1 {a b c : PyData} : cutD [a, b, c] (some 1) none = [b, c] := rfl
theorem canLay_ints (ns : List Int) : PyData.canLayAll0 (ns.map PyData.int) = true := by
  induction ns with
  | nil => rfl
  | cons n r ih => simp [PyData.canLayAll0, PyData.canLay0, ih]
theorem any_ints {x : Int} : ∀ (ns : List Int), ((ns.map PyData.int).any fun y => PyData.eqv y (.int x)) = ns.contains x
  | [] => rfl
  | n :: r => by
    rw [List.map_cons, List.any_cons, any_ints r, List.contains_cons]
    show (n == x || _) = _
    rw [show (n == x) = (x == n) by rw [Bool.eq_iff_iff]; simp; exact eq_comm]
theorem gIn_ints {e : En} {x : Int} {ns : List Int} {neg : Bool} : gIn neg e (.d (.int x)) (.d (.tuple (ns.map .int))) = some (.d (.bool (if neg then !ns.contains x else ns.contains x))) := by
  unfold gIn
  simp only [dataR, seqR, Option.bind_some, canLay_ints, any_ints]
  simp [PyData.canLay0, PyData.depth]
theorem gIn_two {e : En} {x a b : Int} {neg : Bool} : gIn neg e (.d (.int x)) (.d (.tuple [.int a, .int b])) = some (.d (.bool (if neg then !(a == x || b == x) else (a == x || b == x)))) := by
  have h := gIn_ints (e := e) (x := x) (ns := [a, b]) (neg := neg)
  simp only [List.map_cons, List.map_nil] at h
  rw [h]
  have : [a, b].contains x = (a == x || b == x) := by
    simp only [List.contains_cons, List.contains_nil, Bool.or_false]
    rw [show (x == a) = (a == x) by rw [Bool.eq_iff_iff]; simp; exact eq_comm, show (x == b) = (b == x) by rw [Bool.eq_iff_iff]; simp; exact eq_comm]
  rw [this]
/-- what is true of an int -/
def onI (p : Int → Bool) : PyData → Bool
  | .int k => p k
  | _ => false
theorem dWeb_ix1 (W : Web) : dWeb W = .tuple [.int W.things, .tuple (W.ties.map dTie), .tuple (W.pat.map .int), .int W.asks] := rfl
end L2

set_option Elab.async false
set_option linter.all false
set_option maxRecDepth 100000
set_option maxHeartbeats 4000000
namespace L2
open PySem PySem.Spec PyProof.Rows
/-! ### data that can be held against other data -/
def Sh (n : Nat) (d : PyData) : Prop := d.canLay0 = true ∧ d.depth ≤ n
theorem Sh.mono {n m : Nat} {d : PyData} (h : Sh n d) (l : n ≤ m) : Sh m d := ⟨h.1, Nat.le_trans h.2 l⟩
theorem Sh.ok {n : Nat} {d : PyData} (h : Sh n d) (l : n ≤ 64) : SeqAt.shaped d = true := by
  unfold SeqAt.shaped; rw [h.1, decide_eq_true (Nat.le_trans h.2 l)]; rfl
theorem Sh.int {k : Int} : Sh 2 (.int k) := ⟨by simp [PyData.canLay0], by simp [PyData.depth]⟩
theorem Sh.bool {b : Bool} : Sh 2 (.bool b) := ⟨by simp [PyData.canLay0], by simp [PyData.depth]⟩
theorem Sh.all {n : Nat} : ∀ {ds : List PyData}, (∀ d ∈ ds, Sh n d) → PyData.canLayAll0 ds = true ∧ PyData.depthAll ds ≤ n
  | [], _ => ⟨rfl, by simp [PyData.depthAll]⟩
  | d :: r, h => by
    obtain ⟨a1, a2⟩ := h d (by simp)
    obtain ⟨b1, b2⟩ := Sh.all (ds := r) fun x hx => h x (by simp [hx])
    exact ⟨by simp [PyData.canLayAll0, a1, b1], by simp only [PyData.depthAll]; omega⟩
theorem Sh.tup {n : Nat} {ds : List PyData} (h : ∀ d ∈ ds, Sh n d) : Sh (n + 2) (.tuple ds) := by
  obtain ⟨b1, b2⟩ := Sh.all h
  exact ⟨by simp [PyData.canLay0, b1], by simp only [PyData.depth]; omega⟩
theorem Sh.list {n : Nat} {ds : List PyData} (h : ∀ d ∈ ds, Sh n d) : Sh (n + 2) (.list ds) := by
  obtain ⟨b1, b2⟩ := Sh.all h
  exact ⟨by simp [PyData.canLay0, b1], by simp only [PyData.depth]; omega⟩
theorem Sh.ints {ns : List Int} : Sh 4 (.tuple (ns.map .int)) := Sh.tup (n := 2) fun d hd => by
  obtain ⟨k, _, rfl⟩ := List.mem_map.mp hd
  exact Sh.int
theorem Sh.st {a b : List Int} : Sh 6 (dSt a b) := Sh.tup (n := 4) fun d hd => by
  simp only [List.mem_cons, List.not_mem_nil, or_false] at hd
  rcases hd with rfl | rfl <;> exact Sh.ints
theorem Sh.tie {t : Tie} : Sh 6 (dTie t) := Sh.tup (n := 4) fun d hd => by
  simp only [List.mem_cons, List.not_mem_nil, or_false] at hd
  rcases hd with rfl | rfl | rfl | rfl
  · exact Sh.int.mono (by decide)
  · exact Sh.int.mono (by decide)
  · exact Sh.ints (ns := [t.top, t.bot])
  · exact Sh.int.mono (by decide)
theorem Sh.web {W : Web} : Sh 10 (dWeb W) := Sh.tup (n := 8) fun d hd => by
  simp only [List.mem_cons, List.not_mem_nil, or_false] at hd
  rcases hd with rfl | rfl | rfl | rfl
  · exact Sh.int.mono (by decide)
  · exact Sh.tup (n := 6) fun d hd => by
      obtain ⟨k, _, rfl⟩ := List.mem_map.mp hd
      exact Sh.tie
  · exact Sh.ints.mono (by decide)
  · exact Sh.int.mono (by decide)
/-! ### lists of different small ints -/
theorem nodup_le : ∀ (n : Nat) (l : List Int), l.Nodup → (∀ k ∈ l, 0 ≤ k ∧ k < (n : Int)) → l.length ≤ n
  | 0, l, _, h => by
    cases l with
    | nil => simp
    | cons a r => have := h a (by simp); omega
  | n + 1, l, hd, h => by
    have ih := nodup_le n (l.erase (n : Int)) (hd.erase _) fun k hk => by
      obtain ⟨h1, h2⟩ := hd.mem_erase_iff.mp hk
      have := h k h2
      omega
    by_cases c : (n : Int) ∈ l
    · rw [List.length_erase_of_mem c] at ih; omega
    · rw [List.erase_of_not_mem c] at ih; omega
/-! ### stands and trees -/
abbrev Std := List Int × List Int
structure StOk (W : Web) (s : Std) : Prop where
  inw : ∀ k ∈ s.1, InW W k
  nd : s.1.Nodup
  tk : s.2.length ≤ 2 * s.1.length
  th : ∀ t ∈ s.2, 0 ≤ t ∧ t < W.things
def nxt (W : Web) (s : Std) (k : Int) (b : Bool) : Std := (Web.askd s.1 k, W.took s.2 k b)
theorem StOk.len {W : Web} {s : Std} (h : StOk W s) : s.1.length ≤ W.ties.length := nodup_le _ _ h.nd fun k hk => h.inw k hk
theorem StOk.first (W : Web) : StOk W ([], []) := ⟨fun k h => (by cases h), List.nodup_nil, Nat.le_refl _, fun k h => (by cases h)⟩
theorem askd_len {a : List Int} {k : Int} : (Web.askd a k).length = a.length + 1 := by unfold Web.askd; rw [sortI_len]; simp
theorem StOk.nxt {W : Web} {s : Std} {k : Int} (b : Bool) (ok : W.Ok) (h : StOk W s) (hk : InW W k) (hn : k ∉ s.1) : StOk W (nxt W s k b) := by
  refine ⟨fun j hj => ?_, ?_, ?_, ?_⟩
  · have := sortI_mem.mp hj
    rcases List.mem_append.mp this with z | z
    · exact h.inw j z
    · simp at z; rw [z]; exact hk
  · refine (sortI_perm _).nodup_iff.mpr ?_
    rw [List.nodup_append]
    refine ⟨h.nd, by simp, fun a ha b hb => ?_⟩
    simp at hb
    rintro rfl
    exact hn (hb ▸ ha)
  · have := h.tk
    show (W.took s.2 k b).length ≤ 2 * (Web.askd s.1 k).length
    rw [askd_len]
    unfold Web.took
    split
    · rw [sortI_len]; simp; omega
    · omega
  · intro t ht
    have o := hk.ok ok
    have := o.o0; have := o.o1; have := o.o2
    change t ∈ W.took s.2 k b at ht
    unfold Web.took at ht
    split at ht
    · rcases List.mem_append.mp (sortI_mem.mp ht) with z | z
      · exact h.th t z
      · simp at z
        rcases z with rfl | rfl <;> omega
    · exact h.th t ht
theorem may_not {W : Web} {a t : List Int} {k : Int} (h : W.may a t k = true) : k ∉ a := by
  unfold Web.may at h
  intro c
  have : a.contains k = true := by simpa using c
  simp [c] at h
structure Nd where
  tie : Int
  yes : Int
  no : Int
def dNd (x : Nd) : PyData := .tuple [.int x.tie, .int x.yes, .int x.no]
def LkOk (W : Web) (n : Nat) (S : Nat → Std) (i : Nat) (k : Int) (b : Bool) (l : Int) : Prop := l = -1 ∨ (0 ≤ l ∧ l < (n : Int) ∧ S l.toNat = nxt W (S i) k b)
structure NdOk (W : Web) (n : Nat) (S : Nat → Std) (i : Nat) (x : Nd) : Prop where
  tie : InW W x.tie
  st : StOk W (S i)
  may : W.may (S i).1 (S i).2 x.tie = true
  yes : LkOk W n S i x.tie true x.yes
  no : LkOk W n S i x.tie false x.no
def TrOk (W : Web) (T : List Nd) (S : Nat → Std) : Prop := ∀ (i : Nat) (x : Nd), T[i]? = some x → NdOk W T.length S i x
theorem Sh.nd {x : Nd} : Sh 4 (dNd x) := Sh.ints (ns := [x.tie, x.yes, x.no])
/-- what waits to be grown -/
structure Wt where
  st : Std
  par : Int
  side : Int
def dWt (w : Wt) : PyData := .tuple [dSt w.st.1 w.st.2, .int w.par, .int w.side]
theorem Sh.wt {w : Wt} : Sh 8 (dWt w) := Sh.tup (n := 6) fun d hd => by
  simp only [List.mem_cons, List.not_mem_nil, or_false] at hd
  rcases hd with rfl | rfl | rfl
  · exact Sh.st
  · exact Sh.int.mono (by decide)
  · exact Sh.int.mono (by decide)
def upS (S : Nat → Std) (n : Nat) (s : Std) : Nat → Std := fun i => if i = n then s else S i
structure GrOk (W : Web) (T : List Nd) (S : Nat → Std) (ws : List Wt) : Prop where
  tr : TrOk W T S
  wt : ∀ w ∈ ws, StOk W w.st ∧ (w.par = -1 ∨ ∃ (p : Nat) (x : Nd), w.par = (p : Int) ∧ T[p]? = some x ∧ ((w.side = 0 ∧ w.st = L2.nxt W (S p) x.tie true) ∨ (w.side = 1 ∧ w.st = L2.nxt W (S p) x.tie false)))
  side : ∀ w ∈ ws, w.side = 0 ∨ w.side = 1
theorem LkOk.up {W : Web} {n : Nat} {S : Nat → Std} {i : Nat} {k : Int} {b : Bool} {l : Int} {s : Std} (h : LkOk W n S i k b l) (hi : i < n) : LkOk W (n + 1) (upS S n s) i k b l := by
  rcases h with h | ⟨h1, h2, h3⟩
  · exact .inl h
  · refine .inr ⟨h1, by omega, ?_⟩
    unfold upS
    rw [if_neg (by omega), if_neg (by omega)]
    exact h3
def link (x : Nd) (side n : Int) : Nd := if side = 0 then { x with yes := n } else { x with no := n }
theorem link_tie {x : Nd} {s n : Int} : (link x s n).tie = x.tie := by unfold link; split <;> rfl
/-- one more node -/
theorem GrOk.more {W : Web} {T : List Nd} {S : Nat → Std} {w : Wt} {ws : List Wt} {k : Int} (ok : W.Ok) (h : GrOk W T S (w :: ws)) (hk : InW W k) (hm : W.may w.st.1 w.st.2 k = true) :
    GrOk W ((if 0 ≤ w.par then T.modify w.par.toNat (fun x => link x w.side T.length) else T) ++ [⟨k, -1, -1⟩]) (upS S T.length w.st) (ws ++ [⟨L2.nxt W w.st k true, T.length, 0⟩, ⟨L2.nxt W w.st k false, T.length, 1⟩]) := by
  obtain ⟨ws1, ws2⟩ := h.wt w (by simp)
  generalize hT : (if 0 ≤ w.par then T.modify w.par.toNat (fun x => link x w.side T.length) else T) = T'
  have len : T'.length = T.length := by rw [← hT]; split <;> simp
  have old : ∀ (i : Nat) (y : Nd), T'[i]? = some y → i < T.length ∧ ∃ x, T[i]? = some x ∧ y.tie = x.tie := by
    intro i y hy
    have hi : i < T.length := by rw [← len]; exact (List.getElem?_eq_some_iff.mp hy).1
    refine ⟨hi, ?_⟩
    rw [← hT] at hy
    split at hy
    · rw [List.getElem?_modify] at hy
      obtain ⟨x, hx, e⟩ := Option.map_eq_some_iff.mp hy
      refine ⟨x, hx, ?_⟩
      rw [← e]
      split
      · exact link_tie
      · rfl
    · exact ⟨y, hy, rfl⟩
  have keep : ∀ (i : Nat) (x : Nd), T[i]? = some x → ∃ y, T'[i]? = some y ∧ y.tie = x.tie := by
    intro i x hx
    have hi : i < T'.length := by rw [len]; exact (List.getElem?_eq_some_iff.mp hx).1
    obtain ⟨_, x', hx', e⟩ := old i _ (List.getElem?_eq_getElem hi)
    rw [hx] at hx'
    cases hx'
    exact ⟨_, List.getElem?_eq_getElem hi, e⟩
  have up : ∀ i, i < T.length → upS S T.length w.st i = S i := fun i hi => by unfold upS; rw [if_neg (by omega)]
  have upn : upS S T.length w.st T.length = w.st := by unfold upS; rw [if_pos rfl]
  refine ⟨fun i y hy => ?_, fun v hv => ?_, fun v hv => ?_⟩
  · rw [List.length_append, len]
    show NdOk W (T.length + 1) _ i y
    by_cases c : i < T.length
    · rw [List.getElem?_append_left (by omega)] at hy
      have hy0 := hy
      rw [← hT] at hy
      split at hy
      case isFalse =>
        have o := h.tr i y hy
        exact ⟨o.tie, by rw [up i c]; exact o.st, by rw [up i c]; exact o.may, o.yes.up c, o.no.up c⟩
      case isTrue hp =>
        rw [List.getElem?_modify] at hy
        obtain ⟨x, hx, e⟩ := Option.map_eq_some_iff.mp hy
        have o := h.tr i x hx
        split at e
        case isFalse =>
          subst e
          exact ⟨o.tie, by rw [up i c]; exact o.st, by rw [up i c]; exact o.may, o.yes.up c, o.no.up c⟩
        case isTrue hi =>
          rcases ws2 with z | ⟨p, x2, z1, z2, z3⟩
          · omega
          · have : i = p := by omega
            subst this
            rw [hx] at z2
            cases z2
            have new : ∀ b, w.st = L2.nxt W (S i) x.tie b → LkOk W (T.length + 1) (upS S T.length w.st) i x.tie b (T.length : Int) := fun b hb => .inr ⟨by omega, by omega, by
              rw [show ((T.length : Int)).toNat = T.length by omega, upn, up i c]; exact hb⟩
            rw [← e]
            rcases z3 with ⟨s0, s1⟩ | ⟨s0, s1⟩
            · have : link x w.side T.length = { x with yes := T.length } := by unfold link; rw [if_pos s0]
              rw [this]
              exact ⟨o.tie, by rw [up i c]; exact o.st, by rw [up i c]; exact o.may, new true s1, o.no.up c⟩
            · have : link x w.side T.length = { x with no := T.length } := by unfold link; rw [if_neg (by omega)]
              rw [this]
              exact ⟨o.tie, by rw [up i c]; exact o.st, by rw [up i c]; exact o.may, o.yes.up c, new false s1⟩
    · rw [List.getElem?_append_right (by omega)] at hy
      have : i = T.length := by
        have := (List.getElem?_eq_some_iff.mp hy).1
        simp at this; omega
      subst this
      rw [len] at hy
      simp at hy
      subst hy
      exact ⟨hk, by rw [upn]; exact ws1, by rw [upn]; exact hm, .inl rfl, .inl rfl⟩
  · rcases List.mem_append.mp hv with hv | hv
    · obtain ⟨v1, v2⟩ := h.wt v (by simp [hv])
      refine ⟨v1, ?_⟩
      rcases v2 with z | ⟨p, x, z1, z2, z3⟩
      · exact .inl z
      · obtain ⟨y, hy, e⟩ := keep p x z2
        have hp : p < T.length := (List.getElem?_eq_some_iff.mp z2).1
        refine .inr ⟨p, y, z1, by rw [List.getElem?_append_left (by omega)]; exact hy, ?_⟩
        rw [up p hp, e]
        exact z3
    · have key : ∀ b, StOk W (L2.nxt W w.st k b) := fun b => ws1.nxt b ok hk (may_not hm)
      have at' : (T' ++ [(⟨k, -1, -1⟩ : Nd)])[T.length]? = some ⟨k, -1, -1⟩ := by rw [List.getElem?_append_right (by omega), len]; simp
      simp only [List.mem_cons, List.not_mem_nil, or_false] at hv
      rcases hv with rfl | rfl
      · exact ⟨key true, .inr ⟨T.length, _, rfl, at', .inl ⟨rfl, by rw [upn]⟩⟩⟩
      · exact ⟨key false, .inr ⟨T.length, _, rfl, at', .inr ⟨rfl, by rw [upn]⟩⟩⟩
  · rcases List.mem_append.mp hv with hv | hv
    · exact h.side v (by simp [hv])
    · simp only [List.mem_cons, List.not_mem_nil, or_false] at hv
      rcases hv with rfl | rfl
      · exact .inl rfl
      · exact .inr rfl
end L2

set_option Elab.async false
set_option linter.all false
set_option maxRecDepth 100000
set_option maxHeartbeats 4000000
namespace L2
open PySem PySem.Spec PyProof.Rows
/-! ### another order of the same tree -/
def nm (nums : List Int) (l : Int) : Int := (atI nums l).getD (-1)
structure NumOk (order : List Int) (n : Nat) (nums : List Int) : Prop where
  len : nums.length = n + 1
  top : nums[n]? = some (-1)
  at' : ∀ (j : Nat) (v : Int), j < n → nums[j]? = some v → v = -1 ∨ ∃ p : Nat, v = (p : Int) ∧ order[p]? = some (j : Int)
theorem NumOk.first {order : List Int} {n : Nat} : NumOk order n (List.replicate (n + 1) (-1)) := ⟨by simp, by simp [List.getElem?_replicate], fun j v hj h => by
  rw [List.getElem?_replicate] at h
  split at h
  · cases h; exact .inl rfl
  · cases h⟩
theorem NumOk.set {order : List Int} {n : Nat} {nums : List Int} (h : NumOk order n nums) {i : Nat} {w : Int} (hw : order[i]? = some w) (w0 : 0 ≤ w) (w1 : w < (n : Int)) : NumOk order n (nums.set w.toNat (i : Int)) := by
  refine ⟨by rw [List.length_set]; exact h.len, by rw [List.getElem?_set_ne (by omega)]; exact h.top, fun j v hj hv => ?_⟩
  rw [List.getElem?_set] at hv
  split at hv
  case isTrue c =>
    rw [if_pos (by rw [h.len]; omega)] at hv
    cases hv
    exact .inr ⟨i, rfl, by rw [hw]; congr 1; omega⟩
  case isFalse c => exact h.at' j v hj hv
def ndAt (T : List Nd) (w : Int) : Nd := T.getD w.toNat ⟨0, 0, 0⟩
theorem ndAt_get {T : List Nd} {w : Int} (h0 : 0 ≤ w) (h1 : w < (T.length : Int)) : T[w.toNat]? = some (ndAt T w) := by
  have : w.toNat < T.length := by omega
  simp [ndAt, this]
theorem LkOk.rng {W : Web} {n : Nat} {S : Nat → Std} {i : Nat} {k : Int} {b : Bool} {l : Int} (h : LkOk W n S i k b l) : -1 ≤ l ∧ l < (n : Int) := by
  rcases h with h | h <;> omega
theorem NdOk.room {W : Web} {n : Nat} {S : Nat → Std} {i : Nat} {x : Nd} (ok : W.Ok) (h : NdOk W n S i x) : (S i).1.length ≤ 15 := by
  have h1 := (h.st.nxt true ok h.tie (may_not h.may)).len
  have h2 := ok.len
  have : (nxt W (S i) x.tie true).1.length = (S i).1.length + 1 := askd_len
  omega
def lks (x : Nd) : List Int := [x.yes, x.no].filter fun l => l != -1
end L2

set_option Elab.async false
set_option linter.all false
set_option maxRecDepth 100000
set_option maxHeartbeats 4000000
namespace L2
open PySem PySem.Spec PyProof.Rows
/-! ### the stands of a tree -/
def dS (s : Std) : PyData := dSt s.1 s.2
def stp (W : Web) (ss : List Std) (i : Nat) (k : Int) (b : Bool) (l : Int) : List Std := if l = -1 then ss else ss.set l.toNat (nxt W (ss.getD i ([], [])) k b)
def std1 (W : Web) (ss : List Std) (i : Nat) (x : Nd) : List Std := stp W (stp W ss i x.tie true x.yes) i x.tie false x.no
def stdsN (W : Web) (T : List Nd) : Nat → List Std
  | 0 => List.replicate T.length ([], [])
  | i + 1 => match T[i]? with
    | some x => std1 W (stdsN W T i) i x
    | none => stdsN W T i
structure SsOk (S : Nat → Std) (n : Nat) (ss : List Std) : Prop where
  len : ss.length = n
  at' : ∀ (j : Nat) (s : Std), ss[j]? = some s → s.1.length ≤ (S j).1.length ∧ s.2.length ≤ 2 * s.1.length ∧ (∀ k ∈ s.1, 0 ≤ k ∧ k < 16) ∧ ∀ t ∈ s.2, 0 ≤ t ∧ t < 12
theorem stp_len {W : Web} {ss : List Std} {i : Nat} {k : Int} {b : Bool} {l : Int} : (stp W ss i k b l).length = ss.length := by unfold stp; split <;> simp
theorem SsOk.stp {W : Web} (ok : W.Ok) {S : Nat → Std} {n : Nat} {ss : List Std} {i : Nat} {k : Int} {b : Bool} {l : Int} (h : SsOk S n ss) (hi : i < n) (hk : InW W k) (hl : LkOk W n S i k b l) : SsOk S n (stp W ss i k b l) := by
  refine ⟨by rw [stp_len]; exact h.len, fun j s hs => ?_⟩
  unfold L2.stp at hs
  split at hs
  · exact h.at' j s hs
  case isFalse c =>
    rw [List.getElem?_set] at hs
    split at hs
    case isFalse => exact h.at' j s hs
    case isTrue cj =>
      split at hs
      case isFalse => cases hs
      case isTrue =>
      cases hs
      have hil : i < ss.length := by rw [h.len]; exact hi
      have e : ss[i]? = some (ss.getD i ([], [])) := by simp [hil]
      obtain ⟨a1, a2, a3, a4⟩ := h.at' i _ e
      generalize ss.getD i ([], []) = s at a1 a2 a3 a4
      have o := hk.ok ok
      have o0 := o.o0; have o1 := o.o1; have o2 := o.o2; have t1 := ok.t1; have wl := ok.len
      have k0 := hk.1; have k1 := hk.2
      rcases hl with hl | ⟨h1, h2, h3⟩
      · exact absurd hl c
      · rw [← cj, h3]
        have e1 : (nxt W s k b).1.length = s.1.length + 1 := askd_len
        have e2 : (nxt W (S i) k b).1.length = (S i).1.length + 1 := askd_len
        have e3 : (nxt W s k b).2.length ≤ s.2.length + 2 := by
          show (W.took s.2 k b).length ≤ _
          unfold Web.took
          split
          · rw [sortI_len]; simp
          · omega
        refine ⟨by omega, by omega, fun q hq => ?_, fun q hq => ?_⟩
        · rcases List.mem_append.mp (sortI_mem.mp hq) with z | z
          · exact a3 q z
          · simp at z; omega
        · change q ∈ W.took s.2 k b at hq
          unfold Web.took at hq
          split at hq
          · rcases List.mem_append.mp (sortI_mem.mp hq) with z | z
            · exact a4 q z
            · simp at z
              rcases z with rfl | rfl <;> omega
          · exact a4 q hq
theorem SsOk.std1 {W : Web} (ok : W.Ok) {S : Nat → Std} {n : Nat} {ss : List Std} {i : Nat} {x : Nd} (h : SsOk S n ss) (hi : i < n) (o : NdOk W n S i x) : SsOk S n (std1 W ss i x) := (h.stp ok hi o.tie o.yes).stp ok hi o.tie o.no
theorem SsOk.first {S : Nat → Std} {n : Nat} : SsOk S n (List.replicate n ([], [])) := ⟨by simp, fun j s hs => by
  rw [List.getElem?_replicate] at hs
  split at hs
  · cases hs; simp
  · cases hs⟩
theorem SsOk.all {W : Web} (ok : W.Ok) {S : Nat → Std} {T : List Nd} (h : TrOk W T S) : ∀ i, SsOk S T.length (stdsN W T i)
  | 0 => SsOk.first
  | i + 1 => by
    unfold stdsN
    split
    · rename_i x hx
      exact (SsOk.all ok h i).std1 ok (List.getElem?_eq_some_iff.mp hx).1 (h i x hx)
    · exact SsOk.all ok h i
end L2

set_option Elab.async false
set_option linter.all false
set_option maxRecDepth 100000
set_option maxHeartbeats 4000000
namespace L2
open PySem PySem.Spec PyProof.Rows
/-! ### texts -/
theorem strOk_of (s : String) : PyData.strOk (Str.ofString s) = true := by
  rw [Str.ofString_eq_toList]
  unfold PyData.strOk
  simp only [List.size_toArray, List.length_map]
  rw [show (List.map Char.toNat s.toList).toArray.all (fun a => decide (a < 1114112)) 0 s.toList.length = (List.map Char.toNat s.toList).all (fun a => decide (a < 1114112)) by simp]
  rw [List.all_map, List.all_eq_true]
  intro c _
  show decide (c.toNat < 1114112) = true
  rw [decide_eq_true_eq]
  have := c.valid
  unfold UInt32.isValidChar Nat.isValidChar at this
  show c.val.toNat < _
  omega
theorem strOk_app {a b : Str} (h1 : PyData.strOk a = true) (h2 : PyData.strOk b = true) : PyData.strOk (a ++ b) = true := by
  unfold PyData.strOk at *
  rw [show (a ++ b).cps = a.cps ++ b.cps from rfl]
  simp only [Array.all_append, h1, h2, Bool.and_self]
theorem strOk_join {sep : Str} (h : PyData.strOk sep = true) : ∀ (ts : List Str), (∀ t ∈ ts, PyData.strOk t = true) → PyData.strOk (Str.join sep ts) = true
  | [], _ => by show PyData.strOk Str.empty = true; simp [PyData.strOk, Str.empty]
  | [x], hx => hx x (by simp)
  | x :: y :: r, hx => strOk_app (strOk_app (hx x (by simp)) h) (strOk_join h (y :: r) fun t ht => hx t (by simp at ht ⊢; exact .inr ht))
theorem strOk_tup {ts : List Str} (h : ∀ t ∈ ts, PyData.strOk t = true) : PyData.strOk (tupleText ts) = true := by
  unfold tupleText
  exact strOk_app (strOk_app (strOk_of _) (strOk_join (strOk_of _) ts h)) (strOk_of _)
/-! ### data that are shown, sharper -/
structure Sz (n dep : Nat) (d : PyData) : Prop where
  fl : flatD d = true
  sh : d.showable = true
  dp : d.depth ≤ dep
  ln : d.shown.length ≤ n
  so : PyData.strOk d.shown = true
theorem Sz.mono {n m dep e : Nat} {d : PyData} (h : Sz n dep d) (h1 : n ≤ m) (h2 : dep ≤ e) : Sz m e d := ⟨h.fl, h.sh, Nat.le_trans h.dp h2, Nat.le_trans h.ln h1, h.so⟩
theorem Sz.int {k : Int} (h0 : 0 ≤ k) (h1 : k < 16) : Sz 2 2 (.int k) := by
  have : k = 0 ∨ k = 1 ∨ k = 2 ∨ k = 3 ∨ k = 4 ∨ k = 5 ∨ k = 6 ∨ k = 7 ∨ k = 8 ∨ k = 9 ∨ k = 10 ∨ k = 11 ∨ k = 12 ∨ k = 13 ∨ k = 14 ∨ k = 15 := by omega
  rcases this with rfl | rfl | rfl | rfl | rfl | rfl | rfl | rfl | rfl | rfl | rfl | rfl | rfl | rfl | rfl | rfl <;> exact ⟨rfl, by decide, by simp [PyData.depth], by decide, strOk_of _⟩
theorem Sz.all {n dep : Nat} : ∀ {ds : List PyData}, (∀ d ∈ ds, Sz n dep d) → flatAll ds = true ∧ PyData.showableAll ds = true ∧ PyData.depthAll ds ≤ dep ∧ piled (PyData.shownAll ds) ≤ ds.length * (n + 2) ∧ ∀ t ∈ PyData.shownAll ds, PyData.strOk t = true
  | [], _ => ⟨rfl, rfl, by simp [PyData.depthAll], by simp [PyData.shownAll, piled], by simp [PyData.shownAll]⟩
  | d :: r, h => by
    obtain ⟨a1, a2, a3, a4, a5⟩ := h d (by simp)
    obtain ⟨b1, b2, b3, b4, b5⟩ := Sz.all (ds := r) fun x hx => h x (by simp [hx])
    refine ⟨?_, ?_, ?_, ?_, ?_⟩
    · simp only [flatAll, a1, b1, Bool.and_self]
    · simp only [PyData.showableAll, a2, b2, Bool.and_self]
    · simp only [PyData.depthAll]; omega
    · simp only [PyData.shownAll, piled_cons, List.length_cons, Nat.succ_mul]; omega
    · intro t ht
      simp only [PyData.shownAll, List.mem_cons] at ht
      rcases ht with rfl | ht
      · exact a5
      · exact b5 t ht
theorem Sz.tup {n dep m : Nat} {ds : List PyData} (h : ∀ d ∈ ds, Sz n dep d) (hl : ds.length ≤ m) : Sz (m * (n + 2) + 3) (dep + 2) (.tuple ds) := by
  obtain ⟨b1, b2, b3, b4, b5⟩ := Sz.all h
  refine ⟨by simpa [flatD] using b1, b2, by simp only [PyData.depth]; omega, ?_, by simp only [PyData.shown]; exact strOk_tup b5⟩
  have h2 := tuple_len (PyData.shownAll ds)
  have := Nat.mul_le_mul_right (n + 2) hl
  simp only [PyData.shown]
  omega
theorem Sz.ok {n dep : Nat} {d : PyData} (h : Sz n dep d) (h1 : n ≤ 16777216) (h2 : dep ≤ 60) : shownOk d = true := by
  have sl : sizeLine = 16777216 := sizeLine_eq
  unfold shownOk
  rw [h.fl, h.sh, decide_eq_true (Nat.le_trans h.dp h2), decide_eq_true (show d.shown.length ≤ sizeLine by rw [sl]; exact Nat.le_trans h.ln h1)]
  rfl
theorem Sz.ints {ns : List Int} {m : Nat} (hl : ns.length ≤ m) (h : ∀ r ∈ ns, 0 ≤ r ∧ r < 16) : Sz (m * 4 + 3) 4 (.tuple (ns.map .int)) := Sz.tup (n := 2) (dep := 2) (fun d hd => by
  obtain ⟨x, hx, rfl⟩ := List.mem_map.mp hd
  exact Sz.int (h x hx).1 (h x hx).2) (by rw [List.length_map]; exact hl)
theorem SsOk.shown {W : Web} (ok : W.Ok) {S : Nat → Std} {T : List Nd} {ss : List Std} (h : TrOk W T S) (hs : SsOk S T.length ss) (hT : T.length ≤ 65535) : Sz (65535 * (253 + 2) + 3) 8 (.tuple (ss.map dS)) := by
  refine Sz.tup (n := 253) (dep := 6) (fun d hd => ?_) (by rw [List.length_map, hs.len]; exact hT)
  obtain ⟨s, hm, rfl⟩ := List.mem_map.mp hd
  obtain ⟨j, hj⟩ := List.getElem?_of_mem hm
  obtain ⟨a1, a2, a3, a4⟩ := hs.at' j s hj
  have hj2 : j < T.length := by rw [← hs.len]; exact (List.getElem?_eq_some_iff.mp hj).1
  have r := (h j _ (List.getElem?_eq_getElem hj2)).room ok
  refine Sz.tup (n := 123) (dep := 4) (m := 2) (fun d hd => ?_) (by simp)
  simp only [List.mem_cons, List.not_mem_nil, or_false] at hd
  rcases hd with rfl | rfl
  · exact (Sz.ints (m := 15) (by omega) a3).mono (by decide) (by decide)
  · exact Sz.ints (m := 30) (by omega) fun t ht => ⟨(a4 t ht).1, by have := (a4 t ht).2; omega⟩
theorem gRepr_d {e : En} {d : PyData} (h : shownOk d = true) : g1 gRepr e [.d d] = some (.d (.str d.shown)) := by
  simp [g1, gRepr, h]
theorem gEq_str {e : En} {s : Str} (h : PyData.strOk s = true) : gEqD false e (.d (.str s)) (.d (.str s)) = some (.d (.bool true)) := by
  simp [gEqD, dataR, SeqAt.shaped, PyData.canLay0, PyData.depth, PyData.eqv, h]
end L2

set_option Elab.async false
set_option linter.all false
set_option maxRecDepth 100000
set_option maxHeartbeats 4000000
namespace L2
open PySem PySem.Spec PyProof.Rows
/-! ### the run of a tree under answers -/
def dR (p : Int × Bool) : PyData := .tuple [.int p.1, .bool p.2]
def rn (T : List Nd) (ans : List Bool) : Nat → Int → List (Int × Bool)
  | 0, _ => []
  | f + 1, at' => if at' < 0 then [] else ((ndAt T at').tie, ans.getD (ndAt T at').tie.toNat false) :: rn T ans f (if ans.getD (ndAt T at').tie.toNat false = true then (ndAt T at').yes else (ndAt T at').no)
theorem rn_end {T : List Nd} {ans : List Bool} {f : Nat} {a : Int} (h : a < 0) : rn T ans f a = [] := by
  cases f with
  | zero => rfl
  | succ f => unfold rn; rw [if_pos h]
def rt (T : List Nd) : Int := if T.length = 0 then -1 else 0
structure RunOk (W : Web) (T : List Nd) (S : Nat → Std) (ans : List Bool) (r : List (Int × Bool)) (a : Int) : Prop where
  at' : a = -1 ∨ (0 ≤ a ∧ a < (T.length : Int) ∧ r.length ≤ (S a.toNat).1.length)
  eq : r ++ rn T ans (17 - r.length) a = rn T ans 17 (rt T)
  len : r.length ≤ 16
  inw : ∀ p ∈ r, InW W p.1
theorem RunOk.first {W : Web} {T : List Nd} {S : Nat → Std} {ans : List Bool} : RunOk W T S ans [] (rt T) := ⟨by
  unfold rt
  split
  · exact .inl rfl
  · exact .inr ⟨by omega, by omega, by simp⟩, rfl, by simp, fun p h => by cases h⟩
theorem RunOk.step {W : Web} (ok : W.Ok) {T : List Nd} {S : Nat → Std} {ans : List Bool} {r : List (Int × Bool)} {a : Int} (hT : TrOk W T S) (h : RunOk W T S ans r a) (h0 : 0 ≤ a) :
    a < (T.length : Int) ∧ r.length ≤ 15 ∧ InW W (ndAt T a).tie ∧ RunOk W T S ans (r ++ [((ndAt T a).tie, ans.getD (ndAt T a).tie.toNat false)]) (if ans.getD (ndAt T a).tie.toNat false = true then (ndAt T a).yes else (ndAt T a).no) := by
  rcases h.at' with z | ⟨z1, z2, z3⟩
  · omega
  have o := hT _ _ (ndAt_get z1 z2)
  have rm := o.room ok
  refine ⟨z2, by omega, o.tie, ?_, ?_, by simp; omega, fun p hp => ?_⟩
  · have key : ∀ b l, LkOk W T.length S a.toNat (ndAt T a).tie b l → l = -1 ∨ (0 ≤ l ∧ l < (T.length : Int) ∧ (r ++ [((ndAt T a).tie, ans.getD (ndAt T a).tie.toNat false)]).length ≤ (S l.toNat).1.length) := by
      intro b l hl
      rcases hl with hl | ⟨h1, h2, h3⟩
      · exact .inl hl
      · refine .inr ⟨h1, h2, ?_⟩
        rw [h3]
        have : (nxt W (S a.toNat) (ndAt T a).tie b).1.length = (S a.toNat).1.length + 1 := askd_len
        rw [this]
        simp; omega
    split
    · exact key _ _ o.yes
    · exact key _ _ o.no
  · have e := h.eq
    rw [show 17 - r.length = (17 - (r.length + 1)) + 1 by omega] at e
    unfold rn at e
    rw [if_neg (by omega)] at e
    rw [List.append_assoc, List.length_append]
    exact e
  · rcases List.mem_append.mp hp with hp | hp
    · exact h.inw p hp
    · simp at hp; rw [hp]; exact o.tie
theorem RunOk.done {W : Web} {T : List Nd} {S : Nat → Std} {ans : List Bool} {r : List (Int × Bool)} {a : Int} (h : RunOk W T S ans r a) (h0 : a < 0) : r = rn T ans 17 (rt T) := by
  have e := h.eq
  rw [rn_end h0, List.append_nil] at e
  exact e
theorem Sz.bool {b : Bool} : Sz 5 2 (.bool b) := by
  cases b
  · exact ⟨rfl, rfl, by simp [PyData.depth], by show (Str.ofString "False").length ≤ 5; decide, strOk_of _⟩
  · exact ⟨rfl, rfl, by simp [PyData.depth], by show (Str.ofString "True").length ≤ 5; decide, strOk_of _⟩
theorem Sz.run {W : Web} (ok : W.Ok) {r : List (Int × Bool)} (hl : r.length ≤ 16) (h : ∀ p ∈ r, InW W p.1) : Sz 1000 6 (.tuple (r.map dR)) := by
  refine (Sz.tup (n := 17) (dep := 4) (m := 16) (fun d hd => ?_) (by rw [List.length_map]; exact hl)).mono (by decide) (by decide)
  obtain ⟨p, hp, rfl⟩ := List.mem_map.mp hd
  refine Sz.tup (n := 5) (dep := 2) (m := 2) (fun d hd => ?_) (by simp)
  simp only [List.mem_cons, List.not_mem_nil, or_false] at hd
  have w := h p hp
  have := w.1; have := w.2; have := ok.len
  rcases hd with rfl | rfl
  · exact (Sz.int (by omega) (by omega)).mono (by decide) (by decide)
  · exact Sz.bool
theorem Sh.bools {bs : List Bool} : Sh 4 (.tuple (bs.map .bool)) := Sh.tup (n := 2) fun d hd => by
  obtain ⟨k, _, rfl⟩ := List.mem_map.mp hd
  exact Sh.bool
end L2

set_option Elab.async false
set_option linter.all false
set_option maxRecDepth 100000
set_option maxHeartbeats 4000000
namespace L2
open PySem PySem.Spec PyProof.Rows
/-! ### fractions -/
abbrev Fr := Int × Int
def dF (f : Fr) : PyData := .tuple [.int f.1, .int f.2]
def tm (a b : Fr) : Fr := lowM (a.1 * b.1) (a.2 * b.2)
def pl (a b : Fr) : Fr := lowM (a.1 * b.2 + b.1 * a.2) (a.2 * b.2)
theorem lowM_fr {t b : Int} (hb : 0 < b) (ht : 0 ≤ t) : ∃ d : Int, 0 < d ∧ (lowM t b).1 * d = t ∧ (lowM t b).2 * d = b ∧ 0 < (lowM t b).2 ∧ 0 ≤ (lowM t b).1 := by
  obtain ⟨d, h1, h2, h3, h4, h5⟩ := lowM_spec (t := t) (b := b) (by omega)
  have d0 : 0 < d := by
    rcases Int.lt_trichotomy d 0 with z | z | z
    · have := Int.mul_neg_of_pos_of_neg h5 z
      omega
    · exact absurd z h2
    · exact z
  refine ⟨d, d0, h3, h4, h5, ?_⟩
  rcases Int.lt_or_le (lowM t b).1 0 with z | z
  · have := Int.mul_neg_of_neg_of_pos z d0
    omega
  · exact z
theorem lowM_le {t b i : Int} (hb : 0 < b) (ht : 0 ≤ t) (h : t ≤ i * b) : (lowM t b).1 ≤ i * (lowM t b).2 := by
  obtain ⟨d, d0, h3, h4, h5, h6⟩ := lowM_fr hb ht
  refine Int.le_of_mul_le_mul_right (a := d) ?_ d0
  rw [h3, Int.mul_assoc, h4]
  exact h
theorem lowM_dvd {t b : Int} (hb : 0 < b) (ht : 0 ≤ t) : (lowM t b).2 ∣ b := by
  obtain ⟨d, d0, h3, h4, h5, h6⟩ := lowM_fr hb ht
  exact ⟨d, h4.symm⟩
theorem lowM_com {t b M u : Int} (hb : 0 < b) (ht : 0 ≤ t) (h : t * M = b * u) : (lowM t b).2 ∣ M := by
  have g := lowM_gcd (t := t) (b := b) (by omega)
  obtain ⟨d, d0, h3, h4, h5, h6⟩ := lowM_fr hb ht
  generalize (lowM t b).1 = p at *
  generalize (lowM t b).2 = q at *
  have e : p * M = q * u := by
    refine Int.eq_of_mul_eq_mul_right (a := d) (by omega) ?_
    rw [show p * M * d = (p * d) * M by rw [Int.mul_assoc, Int.mul_comm M d, ← Int.mul_assoc], h3, h, ← h4, Int.mul_assoc, Int.mul_comm d u, ← Int.mul_assoc]
  have dv : q.natAbs ∣ (p * M).natAbs := Int.natAbs_dvd_natAbs.mpr ⟨u, e⟩
  rw [Int.natAbs_mul] at dv
  have cp : Nat.Coprime q.natAbs p.natAbs := by
    have : Nat.gcd p.natAbs q.natAbs = 1 := g
    rw [Nat.Coprime, Nat.gcd_comm]; exact this
  exact Int.natAbs_dvd_natAbs.mp (cp.dvd_of_dvd_mul_left dv)
/-- a share of one whole -/
structure ROk (M : Int) (f : Fr) : Prop where
  pos : 0 < f.2
  lo : 0 ≤ f.1
  hi : f.1 ≤ f.2
  dv : f.2 ∣ M
theorem ROk.tm {M N : Int} {a b : Fr} (h : ROk M a) (k : ROk N b) : ROk (M * N) (tm a b) := by
  have p : 0 < a.2 * b.2 := Int.mul_pos h.pos k.pos
  have t : 0 ≤ a.1 * b.1 := Int.mul_nonneg h.lo k.lo
  obtain ⟨d, d0, h3, h4, h5, h6⟩ := lowM_fr p t
  refine ⟨h5, h6, ?_, Int.dvd_trans (lowM_dvd p t) (Int.mul_dvd_mul h.dv k.dv)⟩
  have := lowM_le (i := 1) p t (by rw [Int.one_mul]; exact Int.mul_le_mul h.hi k.hi k.lo (Int.le_of_lt h.pos))
  rw [Int.one_mul] at this
  exact this
structure SOk (M i : Int) (f : Fr) : Prop where
  pos : 0 < f.2
  lo : 0 ≤ f.1
  hi : f.1 ≤ i * f.2
  dv : f.2 ∣ M
theorem SOk.pl {M i : Int} {a b : Fr} (h : SOk M i a) (k : ROk M b) : SOk M (i + 1) (pl a b) := by
  have p : 0 < a.2 * b.2 := Int.mul_pos h.pos k.pos
  have t : 0 ≤ a.1 * b.2 + b.1 * a.2 := Int.add_nonneg (Int.mul_nonneg h.lo (Int.le_of_lt k.pos)) (Int.mul_nonneg k.lo (Int.le_of_lt h.pos))
  obtain ⟨d, d0, h3, h4, h5, h6⟩ := lowM_fr p t
  refine ⟨h5, h6, lowM_le p t ?_, ?_⟩
  · have e1 : a.1 * b.2 ≤ i * a.2 * b.2 := Int.mul_le_mul_of_nonneg_right h.hi (Int.le_of_lt k.pos)
    have e2 : b.1 * a.2 ≤ b.2 * a.2 := Int.mul_le_mul_of_nonneg_right k.hi (Int.le_of_lt h.pos)
    rw [Int.add_mul, Int.one_mul, ← Int.mul_assoc, Int.mul_comm a.2 b.2]
    rw [Int.mul_assoc i a.2 b.2, Int.mul_comm a.2 b.2, ← Int.mul_assoc] at *
    omega
  · obtain ⟨x, hx⟩ := h.dv
    obtain ⟨y, hy⟩ := k.dv
    refine lowM_com (u := a.1 * x + b.1 * y) p t ?_
    rw [Int.add_mul, Int.mul_add]
    congr 1
    · rw [hx]
      rw [show a.1 * b.2 * (a.2 * x) = a.2 * b.2 * (a.1 * x) by ac_rfl]
    · rw [hy]
      rw [show b.1 * a.2 * (b.2 * y) = a.2 * b.2 * (b.1 * y) by ac_rfl]
theorem SOk.mono {M i j : Int} {f : Fr} (h : SOk M i f) (hj : i ≤ j) : SOk M j f := ⟨h.pos, h.lo, Int.le_trans h.hi (Int.mul_le_mul_of_nonneg_right hj (Int.le_of_lt h.pos)), h.dv⟩
theorem ROk.bt {M : Int} {f : Fr} {n : Nat} (h : ROk M f) (hM : Bt n M) (h0 : 0 < M) : Bt n f.1 ∧ Bt n f.2 := by
  have l := Int.le_of_dvd h0 h.dv
  have := h.pos; have := h.lo; have := h.hi
  exact ⟨hM.of_le (by omega), hM.of_le (by omega)⟩
theorem SOk.bt {M i : Int} {f : Fr} {n m : Nat} (h : SOk M i f) (hM : Bt n M) (h0 : 0 < M) (hi : Bt m i) : Bt (m + n) f.1 ∧ Bt n f.2 := by
  have l := Int.le_of_dvd h0 h.dv
  have p := h.pos; have q := h.lo; have r := h.hi
  have b2 : Bt n f.2 := hM.of_le (by omega)
  exact ⟨(hi.mul b2).of_le (by omega), b2⟩
/-! ### the bottoms of the ties asked -/
def bp (W : Web) : List Int → Int
  | [] => 1
  | k :: r => (W.tie k).bot * bp W r
theorem bp_perm {W : Web} {a b : List Int} (h : a.Perm b) : bp W a = bp W b := by
  induction h with
  | nil => rfl
  | cons x _ ih => simp only [bp, ih]
  | swap x y l => simp only [bp]; ac_rfl
  | trans _ _ i1 i2 => rw [i1, i2]
theorem bp_askd {W : Web} {a : List Int} {k : Int} : bp W (Web.askd a k) = bp W a * (W.tie k).bot := by
  unfold Web.askd
  rw [bp_perm (sortI_perm _), bp_perm (List.perm_append_comm (l₁ := a) (l₂ := [k]))]
  show (W.tie k).bot * bp W a = _
  rw [Int.mul_comm]
theorem bp_sub {W : Web} : ∀ {a L : List Int}, a.Nodup → (∀ k ∈ a, k ∈ L) → bp W a ∣ bp W L
  | [], L, _, _ => Int.one_dvd _
  | k :: r, L, hn, hs => by
    have hk := hs k (by simp)
    rw [List.nodup_cons] at hn
    rw [bp_perm (List.perm_cons_erase hk)]
    refine Int.mul_dvd_mul (Int.dvd_refl _) (bp_sub hn.2 fun j hj => ?_)
    have : j ≠ k := fun z => hn.1 (z ▸ hj)
    exact (List.mem_erase_of_ne this).mpr (hs j (by simp [hj]))
theorem bp_pos {W : Web} (ok : W.Ok) : ∀ {a : List Int}, (∀ k ∈ a, InW W k) → 0 < bp W a ∧ Bt (7 * a.length + 1) (bp W a)
  | [], _ => ⟨by simp [bp], by unfold Bt; simp [bp]⟩
  | k :: r, h => by
    obtain ⟨i1, i2⟩ := bp_pos ok (a := r) fun j hj => h j (by simp [hj])
    have o := (h k (by simp)).ok ok
    have b0 := o.b0; have b1 := o.b1
    have bt : Bt 7 (W.tie k).bot := by unfold Bt; omega
    refine ⟨Int.mul_pos (by omega) i1, ?_⟩
    have := bt.mul i2
    exact this.mono (by simp; omega)
def bpAll (W : Web) : Int := bp W W.rng
theorem bpAll_ok {W : Web} (ok : W.Ok) : 0 < bpAll W ∧ Bt 113 (bpAll W) := by
  obtain ⟨h1, h2⟩ := bp_pos ok (a := W.rng) fun k hk => mem_rng.mp hk
  refine ⟨h1, h2.mono ?_⟩
  have := ok.len
  have : W.rng.length = W.ties.length := by unfold Web.rng; simp
  omega
theorem StOk.bp {W : Web} {s : Std} (h : StOk W s) : L2.bp W s.1 ∣ bpAll W := bp_sub h.nd fun k hk => mem_rng.mpr (h.inw k hk)
/-! ### reaches -/
def ch (W : Web) (k : Int) (b : Bool) : Fr := if b then ((W.tie k).top, (W.tie k).bot) else ((W.tie k).bot - (W.tie k).top, (W.tie k).bot)
theorem ch_ok {W : Web} (ok : W.Ok) {k : Int} (hk : InW W k) (b : Bool) : ROk (W.tie k).bot (ch W k b) := by
  have o := hk.ok ok
  have := o.c0; have := o.c1; have := o.b0
  cases b <;> refine ⟨?_, ?_, ?_, ?_⟩ <;> simp [ch] <;> omega
def rstp (W : Web) (rs : List Fr) (i : Nat) (k : Int) (b : Bool) (l : Int) : List Fr := if l = -1 then rs else rs.set l.toNat (tm (rs.getD i (1, 1)) (ch W k b))
def rch1 (W : Web) (rs : List Fr) (i : Nat) (x : Nd) : List Fr := rstp W (rstp W rs i x.tie true x.yes) i x.tie false x.no
def rchN (W : Web) (T : List Nd) : Nat → List Fr
  | 0 => List.replicate T.length (1, 1)
  | i + 1 => match T[i]? with
    | some x => rch1 W (rchN W T i) i x
    | none => rchN W T i
structure RsOk (W : Web) (S : Nat → Std) (n : Nat) (rs : List Fr) : Prop where
  len : rs.length = n
  at' : ∀ (j : Nat) (f : Fr), rs[j]? = some f → ROk (bp W (S j).1) f
theorem rstp_len {W : Web} {rs : List Fr} {i : Nat} {k : Int} {b : Bool} {l : Int} : (rstp W rs i k b l).length = rs.length := by unfold rstp; split <;> simp
theorem RsOk.stp {W : Web} (ok : W.Ok) {S : Nat → Std} {n : Nat} {rs : List Fr} {i : Nat} {k : Int} {b : Bool} {l : Int} (h : RsOk W S n rs) (hi : i < n) (hk : InW W k) (hl : LkOk W n S i k b l) : RsOk W S n (rstp W rs i k b l) := by
  refine ⟨by rw [rstp_len]; exact h.len, fun j s hs => ?_⟩
  unfold L2.rstp at hs
  split at hs
  · exact h.at' j s hs
  case isFalse c =>
    rw [List.getElem?_set] at hs
    split at hs
    case isFalse => exact h.at' j s hs
    case isTrue cj =>
      split at hs
      case isFalse => cases hs
      case isTrue =>
      cases hs
      have hil : i < rs.length := by rw [h.len]; exact hi
      have e : rs[i]? = some (rs.getD i (1, 1)) := by simp [hil]
      rcases hl with hl | ⟨h1, h2, h3⟩
      · exact absurd hl c
      · rw [← cj, h3]
        show ROk (bp W (Web.askd (S i).1 k)) _
        rw [bp_askd]
        exact (h.at' i _ e).tm (ch_ok ok hk b)
theorem RsOk.first {W : Web} {S : Nat → Std} {n : Nat} : RsOk W S n (List.replicate n (1, 1)) := ⟨by simp, fun j s hs => by
  rw [List.getElem?_replicate] at hs
  split at hs
  · cases hs; exact ⟨by decide, by decide, by decide, Int.one_dvd _⟩
  · cases hs⟩
theorem RsOk.all {W : Web} (ok : W.Ok) {S : Nat → Std} {T : List Nd} (h : TrOk W T S) : ∀ i, RsOk W S T.length (rchN W T i)
  | 0 => RsOk.first
  | i + 1 => by
    unfold rchN
    split
    · rename_i x hx
      have hi := (List.getElem?_eq_some_iff.mp hx).1
      have o := h i x hx
      exact ((RsOk.all ok h i).stp ok hi o.tie o.yes).stp ok hi o.tie o.no
    · exact RsOk.all ok h i
/-- what reaches are in a tree -/
theorem RsOk.one {W : Web} (ok : W.Ok) {S : Nat → Std} {T : List Nd} {rs : List Fr} (h : TrOk W T S) (hs : RsOk W S T.length rs) {i : Nat} (hi : i < T.length) : ROk (bpAll W) (rs.getD i (1, 1)) := by
  have hil : i < rs.length := by rw [hs.len]; exact hi
  have e : rs[i]? = some (rs.getD i (1, 1)) := by simp [hil]
  have r := hs.at' i _ e
  exact ⟨r.pos, r.lo, r.hi, Int.dvd_trans r.dv (h i _ (List.getElem?_eq_getElem hi)).st.bp⟩
/-! ### shares -/
def sh1 (ss : List Fr) (k : Int) (r : Fr) : List Fr := ss.set k.toNat (pl (ss.getD k.toNat (0, 1)) r)
def shN (W : Web) (T : List Nd) (rs : List Fr) : Nat → List Fr
  | 0 => List.replicate W.ties.length (0, 1)
  | i + 1 => match T[i]? with
    | some x => sh1 (shN W T rs i) x.tie (rs.getD i (1, 1))
    | none => shN W T rs i
structure HsOk (W : Web) (i : Nat) (ss : List Fr) : Prop where
  len : ss.length = W.ties.length
  at' : ∀ (j : Nat) (f : Fr), ss[j]? = some f → SOk (bpAll W) (i : Int) f
theorem HsOk.all {W : Web} (ok : W.Ok) {S : Nat → Std} {T : List Nd} {rs : List Fr} (h : TrOk W T S) (hs : RsOk W S T.length rs) : ∀ i, HsOk W i (shN W T rs i)
  | 0 => ⟨by simp [shN], fun j f hf => by
    simp only [shN] at hf
    rw [List.getElem?_replicate] at hf
    split at hf
    · cases hf; exact ⟨by decide, by decide, by simp, Int.one_dvd _⟩
    · cases hf⟩
  | i + 1 => by
    have ih := HsOk.all ok h hs i
    unfold shN
    split
    · rename_i x hx
      have hi := (List.getElem?_eq_some_iff.mp hx).1
      have o := h i x hx
      have k0 := o.tie.1; have k1 := o.tie.2
      refine ⟨by unfold sh1; rw [List.length_set]; exact ih.len, fun j f hf => ?_⟩
      unfold sh1 at hf
      rw [List.getElem?_set] at hf
      split at hf
      · split at hf
        · cases hf
          have hil : x.tie.toNat < (shN W T rs i).length := by rw [ih.len]; omega
          have e : (shN W T rs i)[x.tie.toNat]? = some ((shN W T rs i).getD x.tie.toNat (0, 1)) := by simp [hil]
          have := (ih.at' _ _ e).pl (hs.one ok h hi)
          exact this.mono (by omega)
        · cases hf
      · exact (ih.at' j f hf).mono (by omega)
    · exact ⟨ih.len, fun j f hf => (ih.at' j f hf).mono (by omega)⟩
/-! ### shown -/
theorem Sz.intB {n : Nat} {k : Int} (h : Bt n k) (h0 : 0 < n) (hn : n ≤ 1900) : Sz (n + 1) 2 (.int k) := by
  have l := h.log h0
  refine ⟨rfl, ?_, by simp [PyData.depth], ?_, strOk_of _⟩
  · show decide (k.natAbs.log2 < 1920) = true
    rw [decide_eq_true_eq]; omega
  · have := int_text_length_le h0 l
    show (Str.ofString (toString k)).length ≤ n + 1
    rw [PySem.ofString_length]; exact this
theorem Sz.fr {n : Nat} {f : Fr} (h1 : Bt n f.1) (h2 : Bt n f.2) (h0 : 0 < n) (hn : n ≤ 1900) : Sz (2 * (n + 3) + 3) 4 (dF f) := Sz.tup (n := n + 1) (dep := 2) (m := 2) (fun d hd => by
  simp only [List.mem_cons, List.not_mem_nil, or_false] at hd
  rcases hd with rfl | rfl
  · exact Sz.intB h1 h0 hn
  · exact Sz.intB h2 h0 hn) (by simp)
theorem RsOk.shown {W : Web} (ok : W.Ok) {S : Nat → Std} {T : List Nd} {rs : List Fr} (h : TrOk W T S) (hs : RsOk W S T.length rs) (hT : T.length ≤ 65535) : Sz (65535 * (235 + 2) + 3) 6 (.tuple (rs.map dF)) := by
  refine Sz.tup (n := 235) (dep := 4) (fun d hd => ?_) (by rw [List.length_map, hs.len]; exact hT)
  obtain ⟨f, hm, rfl⟩ := List.mem_map.mp hd
  obtain ⟨j, hj⟩ := List.getElem?_of_mem hm
  have hj2 : j < T.length := by rw [← hs.len]; exact (List.getElem?_eq_some_iff.mp hj).1
  have r := hs.at' j f hj
  have b := bpAll_ok ok
  have r2 : ROk (bpAll W) f := ⟨r.pos, r.lo, r.hi, Int.dvd_trans r.dv (h j _ (List.getElem?_eq_getElem hj2)).st.bp⟩
  obtain ⟨b1, b2⟩ := r2.bt b.2 b.1
  exact Sz.fr (n := 113) b1 b2 (by decide) (by decide)
theorem HsOk.shown {W : Web} (ok : W.Ok) {ss : List Fr} {i : Nat} (hi : i ≤ 65535) (hs : HsOk W i ss) : Sz 10000 6 (.tuple (ss.map dF)) := by
  have wl := ok.len
  refine (Sz.tup (n := 267) (dep := 4) (m := 16) (fun d hd => ?_) (by rw [List.length_map, hs.len]; exact wl)).mono (by decide) (by decide)
  obtain ⟨f, hm, rfl⟩ := List.mem_map.mp hd
  obtain ⟨j, hj⟩ := List.getElem?_of_mem hm
  have b := bpAll_ok ok
  obtain ⟨b1, b2⟩ := (hs.at' j f hj).bt b.2 b.1 (m := 16) (by unfold Bt; omega)
  exact Sz.fr (n := 129) b1 (b2.mono (by decide)) (by decide) (by decide)
end L2

set_option Elab.async false
set_option linter.all false
set_option maxRecDepth 100000
set_option maxHeartbeats 4000000
namespace L2
open PySem PySem.Spec PyProof.Rows
def visB (sc : Scope) (x : Str) : Bool := match sc.names.lookup x with
  | some .local => true
  | some .cell => true
  | some .free => true
  | _ => false
theorem visB_ok {sc : Scope} {x : Str} (h : visB sc x = true) : Vis sc x := by
  unfold visB at h
  unfold Vis
  split at h
  · rename_i e; exact .inl e
  · rename_i e; exact .inr (.inl e)
  · rename_i e; exact .inr (.inr e)
  · cases h
section
variable {X : Cx} {K : PySem.W.Frag}
theorem qw (i : Nat) {x : Str} {pos : Pos} (hN : X.N[i]? = some x) (hv : visB X.env.scope x = true) (hd : (x == ("__debug__" : Str)) = false) (hcd : (x == ("__classdict__" : Str)) = false) : PE X (.Name x pos) (fE K (vVar i)) := qv i hN (visB_ok hv) hd hcd
end
end L2

set_option Elab.async false
set_option linter.all false
set_option maxRecDepth 100000
set_option maxHeartbeats 4000000
namespace L2
open PySem PySem.Spec PyProof.Rows
/-! ### ranges walked downwards -/
section
variable {X : Cx} {tg a b c : Expr} {ta : TA} {p pos p2 pos2 : Pos}
end
/-! ### as pure functions -/
section
variable {K : PySem.W.Frag} {σ : L2.St}
end
section
variable {X : Cx} {K : PySem.W.Frag} {tg a b c : Expr} {fs : FA} {pos p p2 pos2 : Pos}
end
end L2

set_option Elab.async false
set_option linter.all false
set_option maxRecDepth 100000
/-! THE HAND LAYER, for ints, bools, texts, own classes, DICTS (int and text keys), calls, loops. Paste it whole ahead of your own text; what your proof does not reach may be deleted. -/
namespace L2
open PySem PySem.Spec PyProof.Rows

end L2

namespace L2
open PySem PySem.Spec PyProof.Rows

section
variable (P : Program) (w : World)
end

section
variable {P : Program} {w : World} {H H' : Hp} {h h' : Heap} {a : Addr} {o : HO}
end

section
variable {P : Program} {w : World} {H : Hp} {h h' : Heap} {x e : Addr} {o' : HO}
end

/-! ### kept unless tracked; of the frames at fs (the callers') the slots may change (an exception that passes writes there); of the records at ex (iterators) nothing is said -/
section
variable {fs fs' ex ex' : List Addr} {H H1 H2 : Hp} {h h1 h2 h' : Heap} {a x e : Addr} {o : HO}
end

/-! ### the heap without what is tracked -/
/-! ### OpenK's ledger, filled with every new object but one -/
end L2

namespace L2
open PySem PySem.Spec PyProof.Rows

section
variable {X : Cx} {pins : List (Addr × Obj)} {σ : List (Option V)} {H H' : Hp} {s : Shared} {h' : Heap}

end

/-! ### the judgements -/
end L2

namespace L2
open PySem PySem.Spec PyProof.Rows
section
variable {X : Cx}

/-! ### names and constants -/
/-! ### arithmetic -/
variable {a b : Expr} {ta tb : TE} {pos : Pos}
/-! ### comparisons -/
/-! ### and, or, not -/
variable {tA tB' : TT} {rest : List Expr}
end
end L2

namespace L2
open PySem PySem.Spec PyProof.Rows

/-! ### a list, a tuple that is read: tracked, frozen, or an object of the module -/
section
variable {X : Cx} {pins : List (Addr × Obj)} {σ : St} {H : Hp} {s : Shared} {a : Addr} {xs ys : List V}
end

/-! ### another wish about exceptions -/
section
variable {X : Cx} {pins : List (Addr × Obj)} {σ : St} {H : Hp} {s : Shared} {E : Value → Shared → Prop}
end

/-! ### blocks and small statements -/
section
variable {X : Cx} {st : Stmt} {rest : List Stmt} {t u : TS} {e : Expr} {te : TE} {pos : Pos}
end

/-! ### targets -/
section
variable {X : Cx} {pos : Pos}
end

/-! ### while -/
section
variable {X : Cx} {pos : Pos}
end

/-! ### what a loop or a comprehension walks -/
end L2

namespace L2
open PySem PySem.Spec PyProof.Rows
section
variable {X : Cx} {tg : Expr}
/-! ### for -/
end

/-! ### the forms one uses -/
end L2

namespace L2
open PySem PySem.Spec PyProof.Rows

section
variable {X : Cx} {a b c : Expr} {ta tb tc : TE} {pos : Pos}

/-! ### ints -/
/-! ### bools among ints: n += (a < b) -/
end

/-! ### comparisons -/
section
variable {X : Cx} {a b c : Expr} {ta tb tc : TE} {pos : Pos}
/-! ### truth -/
/-! ### strs and bytes -/
/-! ### scalar builtins, by CallR -/
end
end L2

namespace L2
open PySem PySem.Spec PyProof.Rows

/-! ### an instance, its attributes a map -/
section
variable {prog : Program} {w : World} {A : Around} {E : Value → Shared → Prop} {s : Shared} {K : PySem.W.Frag} {x dx C f : Addr} {mA : Str → Option Value} {name : Str} {v : Value}

end

/-! ### the attributes as a list of pairs -/
section
variable {P : Program} {w : World} {H H' : Hp} {h h' : Heap} {a C dx : Addr} {fs fs' : List (Str × V)}
end

/-! ### what of the text a class must have -/
section
variable {X : Cx} {pins : List (Addr × Obj)} {σ : St} {H : Hp} {s : Shared} {a C dx : Addr} {fs : List (Str × V)} {f : Str} {v : V} {A : Around} {E : Value → Shared → Prop}

end

/-! ### readings and rules -/
section
variable {X : Cx} {o e value : Expr} {f : Str} {pos pos' tpos : Pos} {ta tv : TE}
end

/-! ### isinstance -/
section
variable {X : Cx} {pins : List (Addr × Obj)} {σ : St} {H : Hp} {s : Shared} {A : Around} {E : Value → Shared → Prop} {Q : Value → Shared → Prop} {c : Value} {b : Bool}
end
end L2

namespace L2
open PySem PySem.Spec PyProof.Rows

/-! ### room -/
/-! ### argument lists and displays -/
section
variable {X : Cx} {e : Expr} {es : List Expr} {te : TE} {t : TA} {pos : Pos}
end

/-! ### what a def promises -/
section
variable {X : Cx} {pins : List (Addr × Obj)} {σ : St} {H : Hp} {s s' : Shared}
end

/-! ### calls -/
section
variable {X : Cx} {CX : CXT} {k : Nat} {f C : Addr} {fd : FuncData} {ps : List Str} {sp : Sp} {dvs : List V} {ds : List Value} {E : XK} {x m : Str} {p pos apos : Pos} {e o : Expr} {es : List Expr} {ta : TE} {t : TA}

end

/-! ### keywords -/
section
variable {X : Cx} {CX : CXT} {k : Nat} {f C : Addr} {fd : FuncData} {ps ks : List Str} {sp : Sp} {E : XK} {x m : Str} {p pos apos kpos : Pos} {e o : Expr} {es : List Expr} {kws : List Keyword} {te ta : TE} {t tk : TA} {nm : Option Str}
variable {g : List Value → List Value → List Value} {gV : List V → List V → List V}
end

/-! ### a def's body keeps its promise -/
end L2

namespace L2
open PySem PySem.Spec PyProof.Rows
section
variable {X : Cx} {x : Str} {p pos : Pos} {e : Expr} {es : List Expr} {t : TA} {id T : String} {r : List V → Hp → VK → Prop}

end
end L2

namespace L2
open PySem PySem.Spec PyProof.Rows

/-! ### lists of pairs as tables -/
section
variable {κ : Type} [DecidableEq κ]
def valV (kvs : List (κ × V)) (k : κ) : Option V := (kvs.find? fun kv => decide (kv.1 = k)).map (·.2)
/-- in its place, or at the end -/
def putK (kvs : List (κ × V)) (k : κ) (v : V) : List (κ × V) :=
  if (kvs.any fun kv => decide (kv.1 = k)) = true then kvs.map (fun kv => if kv.1 = k then (kv.1, v) else kv) else kvs ++ [(k, v)]
theorem valV_pos {p : κ × V} {r : List (κ × V)} {k : κ} (e : p.1 = k) : valV (p :: r) k = some p.2 := by simp [valV, List.find?_cons, e]
theorem valV_neg {p : κ × V} {r : List (κ × V)} {k : κ} (e : ¬ p.1 = k) : valV (p :: r) k = valV r k := by simp [valV, List.find?_cons, e]
/-- raw tables of the same keys -/
theorem KV.val {kvs : List (κ × V)} {vs : List (κ × Value)} (r : KV kvs vs) (k : κ) : RelO (valV kvs k) (valueAt vs k) := by
  unfold KV at r
  induction r with
  | nil => exact True.intro
  | @cons p q ps qs h t ih =>
    obtain ⟨h1, h2⟩ := h
    by_cases e : p.1 = k
    · have e' : q.1 = k := h1.symm.trans e
      have b : valueAt (q :: qs) k = some q.2 := by simp [valueAt, List.find?_cons, e']
      rw [valV_pos e, b]; exact h2
    · have e' : ¬ q.1 = k := fun z => e (h1.trans z)
      have b : valueAt (q :: qs) k = valueAt qs k := by simp [valueAt, List.find?_cons, e']
      rw [valV_neg e, b]; exact ih
theorem KV.any {kvs : List (κ × V)} {vs : List (κ × Value)} (r : KV kvs vs) (k : κ) : (kvs.any fun kv => decide (kv.1 = k)) = vs.any fun kv => decide (kv.1 = k) := by
  unfold KV at r
  induction r with
  | nil => rfl
  | cons h t ih => rw [List.any_cons, List.any_cons, ih, h.1]
theorem KV.length {kvs : List (κ × V)} {vs : List (κ × Value)} (r : KV kvs vs) : kvs.length = vs.length := Paired.length r
end


/-! ### a tracked dict, its keys ints and texts or tuples of these -/
/-- raw entries of a dict with tuple keys -/
abbrev KT (H : Hp) : List (List Key × V) → List (List Key × Addr × Value) → Prop := Paired fun p q => p.1 = q.1 ∧ H q.2.1 = some (.tup (p.1.map kV)) ∧ RelV p.2 q.2.2
theorem KT.val {H : Hp} {kvs : List (List Key × V)} {xs : List (List Key × Addr × Value)} (r : KT H kvs xs) (k : List Key) : RelO (valV kvs k) ((atKey xs k).map (·.2)) := by
  induction r with
  | nil => exact True.intro
  | @cons p q ps qs h t ih =>
    obtain ⟨h1, _, h2⟩ := h
    by_cases e : p.1 = k
    · have e' : q.1 = k := h1.symm.trans e
      have b : atKey (q :: qs) k = some q.2 := by simp [atKey, List.find?_cons, e']
      rw [valV_pos e, b]; exact h2
    · have e' : ¬ q.1 = k := fun z => e (h1.trans z)
      have b : atKey (q :: qs) k = atKey qs k := by simp [atKey, List.find?_cons, e']
      rw [valV_neg e, b]; exact ih
theorem KT.keeps {H H' : Hp} {kvs : List (List Key × V)} {xs : List (List Key × Addr × Value)} (r : KT H kvs xs) (ht : ∀ b ys, H b = some (.tup ys) → H' b = some (.tup ys)) : KT H' kvs xs :=
  Paired.mapP r fun _ _ z => ⟨z.1, ht _ _ z.2.1, z.2.2⟩

section
variable {P : Program} {w : World} {H : Hp} {h : Heap} {a : Addr}
end

/-- what the dict at a holds at the key y -/
def DGet (H : Hp) (a : Addr) (y : V) (r : Option V) : Prop :=
  (∃ kvs k, Rd H a (.dK kvs) ∧ y = kV k ∧ r = valV kvs k) ∨ ∃ kvs k b, Rd H a (.dT kvs) ∧ y = .ref b ∧ H b = some (.tup (k.map kV)) ∧ r = valV kvs k
/-- the heap behind a[y] = v -/
def DPut (H : Hp) (a : Addr) (y v : V) (H' : Hp) : Prop :=
  (∃ kvs k, H a = some (.dK kvs) ∧ y = kV k ∧ kvs.length < sizeLine ∧ H' = upd H a (.dK (putK kvs k v))) ∨
  ∃ kvs k b, H a = some (.dT kvs) ∧ y = .ref b ∧ H b = some (.tup (k.map kV)) ∧ kvs.length < sizeLine ∧ H' = upd H a (.dT (putK kvs k v))
theorem DGet.k {H : Hp} {a : Addr} {kvs : List (Key × V)} {k : Key} (e : H a = some (.dK kvs)) : DGet H a (kV k) (valV kvs k) := .inl ⟨kvs, k, .inl e, rfl, rfl⟩
theorem DGet.t {H : Hp} {a b : Addr} {kvs : List (List Key × V)} {k : List Key} (e : H a = some (.dT kvs)) (eb : H b = some (.tup (k.map kV))) : DGet H a (.ref b) (valV kvs k) := .inr ⟨kvs, k, b, .inl e, rfl, eb, rfl⟩
theorem DPut.k {H : Hp} {a : Addr} {kvs : List (Key × V)} {k : Key} {v : V} (e : H a = some (.dK kvs)) (hl : kvs.length < sizeLine) : DPut H a (kV k) v (upd H a (.dK (putK kvs k v))) := .inl ⟨kvs, k, e, rfl, hl, rfl⟩
theorem DPut.t {H : Hp} {a b : Addr} {kvs : List (List Key × V)} {k : List Key} {v : V} (e : H a = some (.dT kvs)) (eb : H b = some (.tup (k.map kV))) (hl : kvs.length < sizeLine) :
    DPut H a (.ref b) v (upd H a (.dT (putK kvs k v))) := .inr ⟨kvs, k, b, e, rfl, eb, hl, rfl⟩


section
variable {X : Cx} {pins : List (Addr × Obj)} {σ : St} {H : Hp} {s : Shared} {a : Addr} {y v : V} {u r : Value} {o : Option V} {A : Around} {E : Value → Shared → Prop}

end

section
variable {X : Cx} {pins : List (Addr × Obj)} {σ : St} {H : Hp} {s : Shared} {a : Addr} {kvs : List (Key × V)} {k : Key} {u : Value} {A : Around} {E : Value → Shared → Prop}
end


/-! ### readings and rules -/
section
variable {X : Cx} {o i e value : Expr} {pos pos' tpos : Pos} {td ty tv : TE}
end


/-! ### displays -/
section
variable {X : Cx} {pos : Pos}
end

/-! ### methods -/
section
variable {X : Cx} {pins : List (Addr × Obj)} {σ : St} {H : Hp} {s : Shared} {a : Addr} {y d : V} {u r : Value} {o : Option V} {A : Around} {E : Value → Shared → Prop}
end

section
variable {X : Cx} {o e f : Expr} {apos cpos : Pos} {td ty tx : TE}
end

/-! ### dict(d): a copy -/
section
variable {X : Cx} {pins : List (Addr × Obj)} {σ : St} {H : Hp} {s : Shared} {a : Addr} {kvs : List (Key × V)} {A : Around} {E : Value → Shared → Prop}
end


section
variable {X : Cx} {pins : List (Addr × Obj)} {σ : St} {H : Hp} {s : Shared} {a : Addr} {y : V} {u : Value} {A : Around} {E : Value → Shared → Prop}
end
end L2

namespace Att
open PySem PySem.W PySem.Calls PyProof.Rows

/-! ### the script -/
/-! ### the attachment: holds_open's last premise (the goal 'hc' behind k_head) from a wpAny of the law's body -/
/-! ### rules over ANY heap (no ledger) from facts about the written part K: the library's own take a ledger (News) for what they write -/
section
variable {prog : Program} {w : World} {A : Around} {E : Value → Shared → Prop} {s : Shared} {K : Frag}

/-! the whole heap as the ledger: makes every rule that writes through a ledger a rule over any heap -/
end
end Att

namespace L2
open PySem PySem.Spec PyProof.Rows

end L2

namespace L2
open PySem PySem.Spec PyProof.Rows

end L2

/-! SHORT WORDS over the layer: a def of the text, its body, what a loop and a test want. -/
namespace L2
open PySem PySem.Spec PyProof.Rows

/-! ### the text by places -/
/-! ### no exception leaves a def -/
/-! ### a def (or method) of the text as it stands behind the top -/
section
variable {P : Program} {w : World} {K : PySem.W.Frag} {mg : Str → Option Value} {base : Heap}
end
/-! ### expressions in short: the name that stands in the i-th slot -/
section
variable {X : Cx}
end

/-! ### tests -/
/-! ### heaps -/
/-! ### a dict's pairs: keys that differ -/
section
variable {κ : Type} [DecidableEq κ]
end
end L2

set_option Elab.async false
set_option linter.all false
set_option maxRecDepth 100000
set_option maxHeartbeats 4000000
namespace L2
open PySem PySem.Spec PyProof.Rows
/-! ### isinstance(e, T), T a builtin type -/
def tyN : PyData → String
  | .none => "NoneType"
  | .bool _ => "bool"
  | .int _ => "int"
  | .str _ => "str"
  | .tuple _ => "tuple"
  | .list _ => "list"
  | .dict _ => "dict"
def subN (t T : String) : Bool := t == T || (t == "bool" && T == "int")
def isiD (T : String) (d : PyData) : Bool := subN (tyN d) T
def gIsi (T : String) : En → Rv → Option Rv := fun _ r => match r with
  | .d x => some (.d (.bool (isiD T x)))
  | _ => some (.d (.bool (isiD T (.list []))))
section
variable {X : Cx} {K : PySem.W.Frag} {a : Expr} {fa : FE} {pos p p2 : Pos}
def TyK (K : PySem.W.Frag) (H : Hp) : V → String → Prop
  | .non, t => t = "NoneType"
  | .bl _, t => t = "bool"
  | .int _, t => t = "int"
  | .str _, t => t = "str"
  | .ref a, t => (t = "tuple" ∧ ∃ xs, SqT K H a xs) ∨ (t = "list" ∧ ∃ xs, SqL K H a xs) ∨ (t = "dict" ∧ ∃ m, H a = some (.dK m))
  | _, _ => False
theorem call_isi {T : String} : CallR X (.builtin "isinstance") (fun xs H Q => ∃ x t b, xs = [x, .ty T] ∧ TyK X.K H x t ∧ PySem.W.kitOne X.K (.type t) (.type T) = some b ∧ Q (.bl b) H) := by
  intro pins s σ H xs us Q I r h
  obtain ⟨x, t, b, rfl, ht, hk, q⟩ := h
  obtain ⟨u1, u2, rfl, r1, r2⟩ : ∃ u1 u2, us = [u1, u2] ∧ RelV x u1 ∧ RelV (.ty T) u2 := by
    cases r with
    | cons p q => cases q with
      | cons p' q' => cases q'; exact ⟨_, _, rfl, p, p'⟩
  cases r2
  have q' : ∀ tk, EP X pins σ Q (.bool b) { s with toks := tk } := fun tk => ⟨.bl b, H, I.tok _, rfl, q⟩
  cases x with
  | non => cases (show u1 = Value.none from r1); cases (show t = _ from ht); exact PySem.W.kia_one PySem.W.kitx_none I.kIn True.intro hk (fun z => nomatch z) q'
  | bl y => cases (show u1 = Value.bool y from r1); cases (show t = _ from ht); exact PySem.W.kia_one PySem.W.kitx_bool I.kIn True.intro hk (fun z => nomatch z) q'
  | int i => obtain ⟨tt, rfl⟩ := r1; cases (show t = _ from ht); exact PySem.W.kia_one PySem.W.kitx_int I.kIn True.intro hk (fun z => nomatch z) q'
  | str y => obtain ⟨tt, rfl⟩ := r1; cases (show t = _ from ht); exact PySem.W.kia_one PySem.W.kitx_str I.kIn True.intro hk (fun z => nomatch z) q'
  | ref a =>
    cases (show u1 = Value.ref a from r1)
    rcases ht with ⟨rfl, xs, hs⟩ | ⟨rfl, xs, hs⟩ | ⟨rfl, m, hs⟩
    · obtain ⟨its, rv, pl, hz⟩ := I.tuple hs
      obtain ⟨o, h1, h2⟩ := pl.typeIs
      exact PySem.W.kia_one PySem.W.kitx_tuple I.kIn ⟨o, h1, h2⟩ hk (fun z => nomatch z) q'
    · obtain ⟨its, rv, pl, hz⟩ := I.list hs
      obtain ⟨o, h1, h2⟩ := pl.isList.typeIs
      exact PySem.W.kia_one PySem.W.kitx_list I.kIn ⟨o, h1, h2⟩ hk (fun z => nomatch z) q'
    · obtain ⟨_, _, vs, _, pp⟩ := (show ObjOk X.prog X.w H s.heap a (.dK m) from I.hok a _ hs)
      obtain ⟨o, es, ep, h1, h2, _⟩ := pp
      exact PySem.W.kia_one PySem.W.kitx_dict I.kIn ⟨o, h1, h2.1⟩ hk (fun z => nomatch z) q'
  | _ => exact False.elim ht
theorem pe_tname {x : Str} {T : String} (hg : Gl X x) (hm : X.mg x = none) (hv : bootBuiltins x = some (.type T)) (hn : x ≠ "__name__") (hd : (x == ("__debug__" : Str)) = false) : PE X (.Name x pos) (tC (.ty T)) := fun pins s σ H Q I h =>
  ld_blt I hg hm hv ⟨.ty T, H, I, rfl, h⟩ hn hd
theorem kit_at {t T : String} (ht : t ∈ ["NoneType", "bool", "int", "str", "tuple", "list", "dict"]) (hT : T ∈ ["int", "bool", "tuple", "str"]) : PySem.W.kitOne K (.type t) (.type T) = some (subN t T) := by
  simp only [List.mem_cons, List.not_mem_nil, or_false] at ht hT
  rcases ht with rfl | rfl | rfl | rfl | rfl | rfl | rfl <;> rcases hT with rfl | rfl | rfl | rfl <;> rfl
theorem tyN_mem (d : PyData) : tyN d ∈ ["NoneType", "bool", "int", "str", "tuple", "list", "dict"] := by cases d <;> simp [tyN]
theorem tyK_of {F H : Hp} {d : PyData} {v : V} (h : DA K F d v) (s : Same F H) : TyK K H v (tyN d) := by
  have h := DA.mono s h
  cases d with
  | none => rw [da_none.mp h]; rfl
  | bool b => rw [da_bool.mp h]; rfl
  | int b => rw [da_int.mp h]; rfl
  | str b => rw [da_str.mp h]; rfl
  | tuple ds => obtain ⟨a, xs, rfl, h1, _⟩ := da_tup.mp h; exact .inl ⟨rfl, xs, h1⟩
  | list ds => obtain ⟨a, xs, rfl, h1, _⟩ := da_lst.mp h; exact .inr (.inl ⟨rfl, xs, h1⟩)
  | dict m => simp only [DA] at h; obtain ⟨a, m, rfl, h1, _⟩ := h; exact .inr (.inr ⟨rfl, _, h1⟩)
theorem fE_mono {f : FE} {σ : L2.St} {H : Hp} {Q Q' : VK} (h : fE K f σ H Q) (m : ∀ v H1, Q v H1 → Q' v H1) : fE K f σ H Q' := by
  obtain ⟨F, e, r, e', R, hf, q⟩ := h
  exact ⟨F, e, r, e', R, hf, fun F' H' v x R' A => m _ _ (q F' H' v x R' A)⟩
theorem isi_f {T : String} : UnF K (fun v H Q => ∃ t, t ∈ ["NoneType", "bool", "int", "str", "tuple", "list", "dict"] ∧ TyK K H v t ∧ Q (.bl (subN t T)) H) (gIsi T) := by
  intro σ H0 F H e x z v Q R A hg q
  unfold gIsi at hg
  cases x with
  | d d =>
    cases hg
    exact ⟨tyN d, tyN_mem d, tyK_of A R.sm, q F H _ (Ext.refl _ _ _ _) R rv_bool⟩
  | l xs =>
    cases hg
    obtain ⟨l, vs, rfl, h1, h2, h3, h4⟩ := A
    exact ⟨"list", by simp, .inr (.inl ⟨rfl, vs, SqL.of h3⟩), q F H _ (Ext.refl _ _ _ _) R rv_bool⟩
  | s i =>
    cases hg
    obtain ⟨h1, xs, h2⟩ := A
    obtain ⟨l, vs, h3, h4, h5, h6⟩ := R.own i xs h2
    rw [h1] at h3; cases h3
    exact ⟨"list", by simp, .inr (.inl ⟨rfl, vs, SqL.of h5⟩), q F H _ (Ext.refl _ _ _ _) R rv_bool⟩
/-- isinstance(e, T) -/
theorem q_isi {x : Str} {T : String} (hK : X.K = K) (hT : T ∈ ["int", "bool", "tuple", "str"]) (hg : Gl X "isinstance") (hm : X.mg "isinstance" = none) (hgT : Gl X x) (hmT : X.mg x = none) (hvT : bootBuiltins x = some (.type T)) (hn : x ≠ "__name__") (hd : (x == ("__debug__" : Str)) = false)
    (ha : PE X a (fE K fa)) (he : starEach [a, .Name x p2] X.env = (false, eval a X.env) :: starEach [.Name x p2] X.env) (hpl : (backTo pos (starEach [.Name x p2] X.env)).any (·.1) = false) :
    PE X (.Call (.Name "isinstance" p) [a, .Name x p2] [] pos) (fE K (vUn (gIsi T) fa)) :=
  (pe_callB (call_isi (T := T)) hg hm boot_isinstance (pa_cons ha (pa_cons (pe_tname hgT hmT hvT hn hd) pa_nil) he) (by decide) (by decide) he hpl).mono fun σ H Q h => by
    subst hK
    have h1 := vUn_go (isi_f (T := T)) h
    refine fE_mono h1 fun v H1 ⟨t, ht, k, q⟩ => ?_
    exact ⟨v, t, _, rfl, k, kit_at ht hT, q⟩
end
end L2
namespace L2
open PySem PySem.Spec PyProof.Rows
section
variable {X : Cx} {K : PySem.W.Frag}
/-! ### what is never come to -/
end
end L2
namespace L2
open PySem PySem.Spec PyProof.Rows
section
variable {X : Cx} {K : PySem.W.Frag} {σ : L2.St} {F H : Hp} {e : En} {pos p1 p2 : Pos}
/-! ### dicts that nobody looks into -/
end
end L2

set_option Elab.async false
set_option linter.all false
set_option maxRecDepth 100000
set_option maxHeartbeats 4000000
namespace L2
open PySem PySem.Spec PyProof.Rows
section
variable {X : Cx} {K : PySem.W.Frag} {a b c d : Expr} {ta tb tc td : TE} {fa fb fc fd : FE} {pos : Pos}
/-! ### a op1 b op2 c op3 d -/
def tChain3 (r r' r'' : R2) (ta tb tc td : TE) : TE := fun σ H Q => ta σ H fun x H1 => tb σ H1 fun y H2 => r x y H2 fun z H3 => ∃ k, z = .bl k ∧
  (if k = true then tc σ H3 fun w H4 => r' y w H4 fun z' H5 => ∃ k', z' = .bl k' ∧ (if k' = true then td σ H5 fun v H6 => r'' w v H6 Q else Q (.bl false) H5) else Q (.bl false) H3)
theorem pe_chain3 {op op' op'' : CmpOp} {r r' r'' : R2} (ho : OpR X (compareOp op) r) (ho' : OpR X (compareOp op') r') (ho'' : OpR X (compareOp op'') r'') (ha : PE X a ta) (hb : PE X b tb) (hc : PE X c tc) (hd : PE X d td)
    (hm : lastMarks [op, op', op''] [b, c, d] = false) : PE X (.Compare a [op, op', op''] [b, c, d] pos) (tChain3 r r' r'' ta tb tc td) := by
  intro pins s σ H Q I h
  refine Compare_chain (thn (ha pins s σ H _ I h) fun v s1 ⟨x, H1, I1, r1, q1⟩ => chain_link (thn (hb pins s1 σ H1 _ I1 q1) fun u s2 ⟨y, H2, I2, r2, q2⟩ =>
    thn (ho pins s2 σ H2 x y v u _ I2 r1 r2 q2) fun d s3 ⟨z, H3, I3, r3, k, e, q3⟩ => ?_)) hm
  subst e
  cases r3
  refine wpAny_truthy_bool ?_
  cases k with
  | false => exact ite_ff ⟨.bl false, H3, I3, rfl, q3⟩
  | true =>
    refine ite_tt (chain_link (thn (hc pins s3 σ H3 _ I3 q3) fun w' s4 ⟨z', H4, I4, r4, q4⟩ => thn (ho' pins s4 σ H4 y z' u w' _ I4 r2 r4 q4) fun d5 s5 ⟨z5, H5, I5, r5, k5, e5, q5⟩ => ?_))
    subst e5
    cases r5
    refine wpAny_truthy_bool ?_
    cases k5 with
    | false => exact ite_ff ⟨.bl false, H5, I5, rfl, q5⟩
    | true => exact ite_tt (chain_last (thn (hd pins s5 σ H5 _ I5 q5) fun w6 s6 ⟨z6, H6, I6, r6, q6⟩ => ho'' pins s6 σ H6 z' z6 w' w6 Q I6 r4 r6 q6))
def vChain3 (g g' g'' : En → Rv → Rv → Option Rv) (fa fb fc fd : FE) : FE := fun e => (fa e).bind fun p => (fb p.2).bind fun q => (g q.2 p.1 q.1).bind fun z => (boolOf z).bind fun k => if k = true then
  (fc q.2).bind fun w => (g' w.2 q.1 w.1).bind fun z' => (boolOf z').bind fun k' => if k' = true then (fd w.2).bind fun y => (g'' y.2 w.1 y.1).map fun z'' => (z'', y.2) else some (.d (.bool false), w.2) else some (.d (.bool false), q.2)
theorem vChain3_go {r r' r'' : R2} {g g' g'' : En → Rv → Rv → Option Rv} (ho : OpF K r g) (ho' : OpF K r' g') (ho'' : OpF K r'' g'') {σ : L2.St} {H : Hp} {Q : VK} (h : fE K (vChain3 g g' g'' fa fb fc fd) σ H Q) : tChain3 r r' r'' (fE K fa) (fE K fb) (fE K fc) (fE K fd) σ H Q := by
  obtain ⟨F, e, z, e4, R, hf, q⟩ := h
  unfold vChain3 at hf
  obtain ⟨⟨x, e1⟩, h1, hf⟩ := Option.bind_eq_some_iff.mp hf
  obtain ⟨⟨y, e2⟩, h2, hf⟩ := Option.bind_eq_some_iff.mp hf
  obtain ⟨z', h3, hf⟩ := Option.bind_eq_some_iff.mp hf
  obtain ⟨k, h4, hf⟩ := Option.bind_eq_some_iff.mp hf
  refine ⟨F, e, x, e1, R, h1, fun F1 H1 v X1 R1 A1 => ⟨F1, e1, y, e2, R1, h2, fun F2 H2 u X2 R2 A2 => ?_⟩⟩
  have X12 := X1.trans X2
  refine ho σ H F2 H2 e2 x y z' v u _ R2 (A1.ext X2) (A2.weak X1.dom) h3 fun F3 H3 w X3 R3 A3 => ⟨k, boolOf_at A3 h4, ?_⟩
  have X13 := X12.trans X3
  cases k with
  | false =>
    cases hf
    exact q F3 H3 _ X13 R3 rv_bool
  | true =>
    obtain ⟨⟨w', e3⟩, h5, hf⟩ := Option.bind_eq_some_iff.mp hf
    obtain ⟨z2, h6, hf⟩ := Option.bind_eq_some_iff.mp hf
    obtain ⟨k2, h7, hf⟩ := Option.bind_eq_some_iff.mp hf
    refine ⟨F3, _, w', _, R3, h5, fun F4 H4 u4 X4 R4 A4 => ?_⟩
    have X14 := X13.trans X4
    refine ho' σ H F4 H4 _ y w' _ u u4 _ R4 (((A2.weak X1.dom).ext X3).ext X4) (A4.weak X13.dom) h6 fun F5 H5 w5 X5 R5 A5 => ⟨k2, boolOf_at A5 h7, ?_⟩
    have X15 := X14.trans X5
    cases k2 with
    | false =>
      cases hf
      exact q F5 H5 _ X15 R5 rv_bool
    | true =>
      obtain ⟨⟨w8, e8⟩, h8, hf⟩ := Option.bind_eq_some_iff.mp hf
      obtain ⟨z9, h9, hf⟩ := Option.map_eq_some_iff.mp hf
      cases hf
      refine ⟨F5, _, w8, _, R5, h8, fun F6 H6 u6 X6 R6 A6 => ?_⟩
      have X16 := X15.trans X6
      refine ho'' σ H F6 H6 _ w' w8 _ u4 u6 Q R6 (((A4.weak X13.dom).ext X5).ext X6) (A6.weak X15.dom) h9 fun F7 H7 w7 X7 R7 A7 => ?_
      exact q F7 H7 w7 (X16.trans X7) R7 (A7.weak X16.dom)
theorem q_chain3 {op op' op'' : CmpOp} {g g' g'' : En → Rv → Rv → Option Rv} (h : CmpQ X K op g) (h' : CmpQ X K op' g') (h'' : CmpQ X K op'' g'') (ha : PE X a (fE K fa)) (hb : PE X b (fE K fb)) (hc : PE X c (fE K fc)) (hd : PE X d (fE K fd))
    (hm : lastMarks [op, op', op''] [b, c, d] = false) : PE X (.Compare a [op, op', op''] [b, c, d] pos) (fE K (vChain3 g g' g'' fa fb fc fd)) := by
  obtain ⟨r, h1, h2⟩ := h.ex; obtain ⟨r', h3, h4⟩ := h'.ex; obtain ⟨r'', h5, h6⟩ := h''.ex
  exact (pe_chain3 h1 h3 h5 ha hb hc hd hm).mono fun _ _ _ h => vChain3_go h2 h4 h6 h
end
end L2

set_option Elab.async false
set_option linter.all false
set_option maxRecDepth 100000
set_option maxHeartbeats 4000000
namespace L2
open PySem PySem.Spec PyProof.Rows
section
variable {X : Cx} {K : PySem.W.Frag} {a b : Expr} {es : List Expr} {fa fb : FE} {fs : FA} {pos p apos : Pos}
/-! ### texts joined -/
/-! ### str(e) -/
/-! ### a text's join -/
/-! ### f-strings -/
end
end L2
namespace L2
open PySem PySem.Spec PyProof.Rows
section
variable {X : Cx} {K : PySem.W.Frag} {a b : Expr} {fa fb : FE} {fs : FA} {pos p p2 p3 : Pos}
/-! ### >> , tuple(range(n)) -/
def gShr := gI (fun _ j => decide (0 ≤ j)) fun i j => .int (i / 2 ^ j.toNat)
theorem shr_f : OpF K (rI (fun _ j => 0 ≤ j) fun i j => .int (i / 2 ^ j.toNat)) gShr := opI_f (fun _ _ h => of_decide_eq_true h) fun _ _ _ => da_int.mpr rfl
theorem q_shr (ha : PE X a (fE K fa)) (hb : PE X b (fE K fb)) : PE X (.BinOp a .RShift b pos) (fE K (vOp gShr fa fb)) := qe_op op_shr shr_f ha hb
end
end L2

set_option Elab.async false
set_option linter.all false
set_option maxRecDepth 100000
set_option maxHeartbeats 4000000
namespace L2
open PySem PySem.Spec PyProof.Rows
/-! ### worths -/
theorem ROk.tmS {N M i : Int} {c y : Fr} (hc : ROk N c) (hy : SOk M i y) : SOk (N * M) i (L2.tm c y) := by
  have p : 0 < c.2 * y.2 := Int.mul_pos hc.pos hy.pos
  have t : 0 ≤ c.1 * y.1 := Int.mul_nonneg hc.lo hy.lo
  obtain ⟨d, d0, h3, h4, h5, h6⟩ := lowM_fr p t
  refine ⟨h5, h6, lowM_le p t ?_, Int.dvd_trans (lowM_dvd p t) (Int.mul_dvd_mul hc.dv hy.dv)⟩
  have e1 : c.1 * y.1 ≤ c.2 * y.1 := Int.mul_le_mul_of_nonneg_right hc.hi hy.lo
  have e2 : c.2 * y.1 ≤ c.2 * (i * y.2) := Int.mul_le_mul_of_nonneg_left hy.hi (Int.le_of_lt hc.pos)
  rw [show i * (c.2 * y.2) = c.2 * (i * y.2) by ac_rfl]
  omega
theorem SOk.plS {M i j : Int} {a b : Fr} (h : SOk M i a) (k : SOk M j b) : SOk M (i + j) (L2.pl a b) := by
  have p : 0 < a.2 * b.2 := Int.mul_pos h.pos k.pos
  have t : 0 ≤ a.1 * b.2 + b.1 * a.2 := Int.add_nonneg (Int.mul_nonneg h.lo (Int.le_of_lt k.pos)) (Int.mul_nonneg k.lo (Int.le_of_lt h.pos))
  obtain ⟨d, d0, h3, h4, h5, h6⟩ := lowM_fr p t
  refine ⟨h5, h6, lowM_le p t ?_, ?_⟩
  · have e1 : a.1 * b.2 ≤ i * a.2 * b.2 := Int.mul_le_mul_of_nonneg_right h.hi (Int.le_of_lt k.pos)
    have e2 : b.1 * a.2 ≤ j * b.2 * a.2 := Int.mul_le_mul_of_nonneg_right k.hi (Int.le_of_lt h.pos)
    rw [Int.add_mul, show i * (a.2 * b.2) = i * a.2 * b.2 by ac_rfl, show j * (a.2 * b.2) = j * b.2 * a.2 by ac_rfl]
    omega
  · obtain ⟨x, hx⟩ := h.dv
    obtain ⟨y, hy⟩ := k.dv
    refine lowM_com (u := a.1 * x + b.1 * y) p t ?_
    rw [Int.add_mul, Int.mul_add]
    congr 1
    · rw [hx]
      rw [show a.1 * b.2 * (a.2 * x) = a.2 * b.2 * (a.1 * x) by ac_rfl]
    · rw [hy]
      rw [show b.1 * a.2 * (b.2 * y) = a.2 * b.2 * (b.1 * y) by ac_rfl]
/-- the bottoms of the ties not yet asked -/
def bq (W : Web) (as : List Int) : Int := bp W (W.rng.filter fun k => !as.contains k)
theorem rng_nodup (W : Web) : W.rng.Nodup := by
  unfold Web.rng
  rw [List.Nodup, List.pairwise_map]
  exact List.nodup_range.imp fun h z => h (by have : ((_ : Nat) : Int) = ((_ : Nat) : Int) := z; omega)
theorem bq_askd {W : Web} {as : List Int} {k : Int} (hk : InW W k) (hn : k ∉ as) : bq W as = (W.tie k).bot * bq W (Web.askd as k) := by
  unfold bq
  have hm : k ∈ W.rng.filter fun k => !as.contains k := by
    rw [List.mem_filter]
    exact ⟨mem_rng.mpr hk, by simpa using hn⟩
  rw [bp_perm (List.perm_cons_erase hm)]
  show (W.tie k).bot * _ = _
  congr 2
  have nd : (W.rng.filter fun k => !as.contains k).Nodup := (rng_nodup W).filter _
  rw [nd.erase_eq_filter, List.filter_filter]
  congr 1
  funext j
  have : (Web.askd as k).contains j = (as.contains j || j == k) := by
    rw [Bool.eq_iff_iff]
    simp [Web.askd, sortI_mem]
  rw [this]
  cases as.contains j <;> cases h : (j == k) <;> simp [bne, h]
theorem bq_dvd {W : Web} {as : List Int} : bq W as ∣ bpAll W := bp_sub ((rng_nodup W).filter _) fun k hk => (List.mem_filter.mp hk).1
def wI (l : Nat) : Int := 1000 * (2 ^ (16 - l) - 1)
theorem wI_step {l : Nat} (h : l ≤ 15) : wI l = 1000 + wI (l + 1) + wI (l + 1) := by
  unfold wI
  rw [show 16 - l = (16 - (l + 1)) + 1 by omega, Int.pow_succ]
  omega
theorem wI_lo {l : Nat} : 0 ≤ wI l ∧ wI l ≤ 65536000 := by
  unfold wI
  have h1 : (2 : Nat) ^ (16 - l) ≤ 2 ^ 16 := Nat.pow_le_pow_right (by decide) (by omega)
  have h2 : 1 ≤ (2 : Nat) ^ (16 - l) := Nat.one_le_two_pow
  have e : ((2 : Int) ^ (16 - l)) = ((2 ^ (16 - l) : Nat) : Int) := by simp
  rw [e]
  omega
def aw (W : Web) (k : Int) (y n : Fr) : Fr := pl (tm (ch W k true) (pl ((W.tie k).worth, 1) y)) (tm (ch W k false) n)
structure AwOk (W : Web) (k : Int) (as : List Int) (y n : Fr) : Prop where
  y : SOk (bq W (Web.askd as k)) (wI (as.length + 1)) y
  n : SOk (bq W (Web.askd as k)) (wI (as.length + 1)) n
  len : as.length ≤ 15
  inw : InW W k
  new : k ∉ as
theorem AwOk.w {W : Web} {k : Int} {as : List Int} {y n : Fr} (ok : W.Ok) (h : AwOk W k as y n) : SOk (bq W (Web.askd as k)) 1000 ((W.tie k).worth, 1) := by
  have o := h.inw.ok ok
  have := o.w0; have := o.w1
  exact ⟨by show (0 : Int) < 1; decide, by show 0 ≤ (W.tie k).worth; omega, by show (W.tie k).worth ≤ 1000 * 1; omega, Int.one_dvd _⟩
theorem AwOk.t1 {W : Web} {k : Int} {as : List Int} {y n : Fr} (ok : W.Ok) (h : AwOk W k as y n) : SOk (bq W (Web.askd as k)) (1000 + wI (as.length + 1)) (pl ((W.tie k).worth, 1) y) := (h.w ok).plS h.y
theorem AwOk.t2 {W : Web} {k : Int} {as : List Int} {y n : Fr} (ok : W.Ok) (h : AwOk W k as y n) : SOk (bq W as) (1000 + wI (as.length + 1)) (tm (ch W k true) (pl ((W.tie k).worth, 1) y)) := by
  rw [bq_askd h.inw h.new]
  exact (ch_ok ok h.inw true).tmS (h.t1 ok)
theorem AwOk.t3 {W : Web} {k : Int} {as : List Int} {y n : Fr} (ok : W.Ok) (h : AwOk W k as y n) : SOk (bq W as) (wI (as.length + 1)) (tm (ch W k false) n) := by
  rw [bq_askd h.inw h.new]
  exact (ch_ok ok h.inw false).tmS h.n
theorem AwOk.t4 {W : Web} {k : Int} {as : List Int} {y n : Fr} (ok : W.Ok) (h : AwOk W k as y n) : SOk (bq W as) (wI as.length) (aw W k y n) := by
  rw [wI_step h.len]
  exact (h.t2 ok).plS (h.t3 ok)
theorem SOk.b {W : Web} (ok : W.Ok) {as : List Int} {i : Int} {f : Fr} (h : SOk (bq W as) i f) (h0 : 0 ≤ i) (hi : i ≤ 65537000) : Bt 140 f.1 ∧ Bt 140 f.2 := by
  have b := bpAll_ok ok
  have h2 : SOk (bpAll W) i f := ⟨h.pos, h.lo, h.hi, Int.dvd_trans h.dv bq_dvd⟩
  obtain ⟨b1, b2⟩ := h2.bt b.2 b.1 (m := 27) (by unfold Bt; omega)
  exact ⟨b1, b2.mono (by decide)⟩
def lk (ws : List Fr) (l : Int) : Fr := if l = -1 then (0, 1) else ws.getD l.toNat (0, 1)
structure WsOk (W : Web) (S : Nat → Std) (n : Nat) (ws : List Fr) : Prop where
  len : ws.length = n
  at' : ∀ (j : Nat) (f : Fr), ws[j]? = some f → SOk (bq W (S j).1) (wI (S j).1.length) f
theorem zeroOk {M i : Int} (h : 0 ≤ i) : SOk M i (0, 1) := ⟨by decide, by decide, by show (0 : Int) ≤ i * 1; omega, Int.one_dvd _⟩
theorem lk_ok {W : Web} {S : Nat → Std} {n : Nat} {ws : List Fr} {i : Nat} {k : Int} {b : Bool} {l : Int} (h : WsOk W S n ws) (hl : LkOk W n S i k b l) : SOk (bq W (Web.askd (S i).1 k)) (wI ((S i).1.length + 1)) (lk ws l) := by
  unfold lk
  rcases hl with hl | ⟨h1, h2, h3⟩
  · rw [if_pos hl]; exact zeroOk wI_lo.1
  · rw [if_neg (by omega)]
    have hil : l.toNat < ws.length := by rw [h.len]; omega
    have e : ws[l.toNat]? = some (ws.getD l.toNat (0, 1)) := by simp [hil]
    have := h.at' _ _ e
    rw [h3] at this
    have e1 : (nxt W (S i) k b).1.length = (S i).1.length + 1 := askd_len
    rw [e1] at this
    exact this
theorem aw_of {W : Web} (ok : W.Ok) {S : Nat → Std} {T : List Nd} {ws : List Fr} {i : Nat} {x : Nd} (h : TrOk W T S) (hs : WsOk W S T.length ws) (hx : T[i]? = some x) : AwOk W x.tie (S i).1 (lk ws x.yes) (lk ws x.no) := by
  have o := h i x hx
  exact ⟨lk_ok hs o.yes, lk_ok hs o.no, o.room ok, o.tie, may_not o.may⟩
def wd1 (W : Web) (ws : List Fr) (i : Nat) (x : Nd) : List Fr := ws.set i (aw W x.tie (lk ws x.yes) (lk ws x.no))
def wdN (W : Web) (T : List Nd) : Nat → List Fr
  | 0 => List.replicate T.length (0, 1)
  | m + 1 => match T[T.length - 1 - m]? with
    | some x => wd1 W (wdN W T m) (T.length - 1 - m) x
    | none => wdN W T m
theorem WsOk.wd1 {W : Web} (ok : W.Ok) {S : Nat → Std} {T : List Nd} {ws : List Fr} {i : Nat} {x : Nd} (h : TrOk W T S) (hs : WsOk W S T.length ws) (hx : T[i]? = some x) : WsOk W S T.length (L2.wd1 W ws i x) := by
  refine ⟨by unfold L2.wd1; rw [List.length_set]; exact hs.len, fun j f hf => ?_⟩
  unfold L2.wd1 at hf
  rw [List.getElem?_set] at hf
  split at hf
  case isFalse => exact hs.at' j f hf
  case isTrue c =>
    split at hf
    case isFalse => cases hf
    case isTrue =>
      cases hf
      rw [← c]
      exact (aw_of ok h hs hx).t4 ok
theorem WsOk.all {W : Web} (ok : W.Ok) {S : Nat → Std} {T : List Nd} (h : TrOk W T S) : ∀ m, WsOk W S T.length (wdN W T m)
  | 0 => ⟨by simp [wdN], fun j f hf => by
    simp only [wdN] at hf
    rw [List.getElem?_replicate] at hf
    split at hf
    · cases hf; exact zeroOk wI_lo.1
    · cases hf⟩
  | m + 1 => by
    unfold wdN
    split
    · rename_i x hx
      exact (WsOk.all ok h m).wd1 ok h hx
    · exact WsOk.all ok h m
theorem Sz.int10 {n m : Nat} {k : Int} (hb : Bt m k) (m0 : 0 < m) (m1 : m ≤ 1900) (h : k.natAbs < 10 ^ n) (h0 : 0 < n) : Sz (n + 1) 2 (.int k) := by
  refine ⟨rfl, ?_, by simp [PyData.depth], ?_, strOk_of _⟩
  · show decide (k.natAbs.log2 < 1920) = true
    rw [decide_eq_true_eq]
    have := hb.log m0
    omega
  · have := int_text_length_le10 h0 h
    show (Str.ofString (toString k)).length ≤ n + 1
    rw [PySem.ofString_length]; exact this
theorem Sz.fr140 {f : Fr} (h1 : Bt 140 f.1) (h2 : Bt 140 f.2) : Sz 95 4 (dF f) := by
  have key : ∀ {k : Int}, Bt 140 k → Sz 44 2 (.int k) := fun {k} h => Sz.int10 (n := 43) h (by decide) (by decide) (Nat.lt_of_lt_of_le h (by decide)) (by decide)
  exact Sz.tup (n := 44) (dep := 2) (m := 2) (fun d hd => by
    simp only [List.mem_cons, List.not_mem_nil, or_false] at hd
    rcases hd with rfl | rfl
    · exact key h1
    · exact key h2) (by simp)
theorem WsOk.shown {W : Web} (ok : W.Ok) {S : Nat → Std} {T : List Nd} {ws : List Fr} (hs : WsOk W S T.length ws) (hT : T.length ≤ 65535) : Sz 7000000 6 (.tuple (ws.map dF)) := by
  refine (Sz.tup (n := 95) (dep := 4) (m := 65535) (fun d hd => ?_) (by rw [List.length_map, hs.len]; exact hT)).mono (by decide) (by decide)
  obtain ⟨f, hm, rfl⟩ := List.mem_map.mp hd
  obtain ⟨j, hj⟩ := List.getElem?_of_mem hm
  obtain ⟨b1, b2⟩ := (hs.at' j f hj).b ok wI_lo.1 (by have := (wI_lo (l := (S j).1.length)).2; omega)
  exact Sz.fr140 b1 b2
end L2

set_option Elab.async false
set_option linter.all false
set_option maxRecDepth 100000
set_option maxHeartbeats 4000000
namespace L2
open PySem PySem.Spec PyProof.Rows
/-! ### comprehensions of several names -/
theorem compF_many {cs : En} {g : FG} {ft : FT} {fe : FE} {b : PyData → Bool} {y : PyData → PyData} {u : PyData → En} (n : Nat) : ∀ (items : List PyData) (t : En) (acc : List PyData), t.length = n → (∀ x ∈ items, ∀ t : En, t.length = n → g x (cs ++ t) = some (cs ++ u x)) → (∀ x ∈ items, (u x).length = n) →
    (∀ x ∈ items, ft (cs ++ u x) = some (b x, cs ++ u x)) → (∀ x ∈ items, b x = true → fe (cs ++ u x) = some (.d (y x), cs ++ u x)) → acc.length + items.length ≤ 1000000 →
    ∃ t', t'.length = n ∧ compF g ft fe items (cs ++ t) acc = some (acc ++ (items.filter b).map y, cs ++ t')
  | [], t, acc, h, _, _, _, _, _ => ⟨t, h, by simp [compF]⟩
  | x :: r, t, acc, h, hg, hu, h1, h2, hl => by
    have h1x := h1 x (by simp)
    unfold compF
    rw [hg x (by simp) t h]
    simp only [Option.bind_some, h1x]
    cases hb : b x with
    | true =>
      simp only [if_true, h2 x (by simp) hb, Option.bind_some, dat1]
      rw [if_pos (by simp at hl; omega)]
      obtain ⟨t', e1, ih⟩ := compF_many (b := b) (y := y) (u := u) n r (u x) (acc ++ [y x]) (hu x (by simp)) (fun z hz => hg z (by simp [hz])) (fun z hz => hu z (by simp [hz])) (fun z hz => h1 z (by simp [hz])) (fun z hz => h2 z (by simp [hz])) (by simp at hl ⊢; omega)
      exact ⟨t', e1, by rw [ih]; simp [hb]⟩
    | false =>
      simp only [Bool.false_eq_true, if_false]
      obtain ⟨t', e1, ih⟩ := compF_many (b := b) (y := y) (u := u) n r (u x) acc (hu x (by simp)) (fun z hz => hg z (by simp [hz])) (fun z hz => hu z (by simp [hz])) (fun z hz => h1 z (by simp [hz])) (fun z hz => h2 z (by simp [hz])) (by simp at hl; omega)
      exact ⟨t', e1, by rw [ih]; simp [hb]⟩
/-! ### texts -/
theorem strOk_mem {x : Str} (h : PyData.strOk x = true) : ∀ c ∈ x.cps.toList, c < 1114112 := by
  intro c hc
  unfold PyData.strOk at h
  rw [Array.all_eq_true'] at h
  have := h c (by simpa using hc)
  simpa using this
theorem strOk_mk {l : Array Nat} (h : ∀ c ∈ l.toList, c < 1114112) : PyData.strOk ⟨l⟩ = true := by
  unfold PyData.strOk
  rw [Array.all_eq_true']
  intro c hc
  simpa using h c (by simpa using hc)
theorem char_lt (c : Char) : c.toNat < 1114112 := by
  have := c.valid
  unfold UInt32.isValidChar Nat.isValidChar at this
  show c.val.toNat < _
  omega
open PySem.Builtin.Str in
theorem reprChar_ok {q c : Nat} (hc : c < 1114112) : ∀ d ∈ reprChar q c, d < 1114112 := by
  intro d hd
  unfold reprChar at hd
  have hx : ∀ w : Nat, ∀ d ∈ (List.replicate (w - ((Nat.toDigits 16 c).map Char.toNat).length) 48 ++ (Nat.toDigits 16 c).map Char.toNat), d < 1114112 := by
    intro w d hd
    rcases List.mem_append.mp hd with h | h
    · have := List.eq_of_mem_replicate h; omega
    · obtain ⟨ch, _, rfl⟩ := List.mem_map.mp h; exact char_lt ch
  dsimp only at hd
  split at hd
  · simp only [List.mem_cons, List.not_mem_nil, or_false] at hd; omega
  split at hd
  · simp only [List.mem_cons, List.not_mem_nil, or_false] at hd; omega
  split at hd
  · simp only [List.mem_cons, List.not_mem_nil, or_false] at hd; omega
  split at hd
  · simp only [List.mem_cons, List.not_mem_nil, or_false] at hd; omega
  split at hd
  · simp only [List.mem_cons, List.not_mem_nil, or_false] at hd; omega
  split at hd
  · rcases List.mem_append.mp hd with h | h
    · simp only [List.mem_cons, List.not_mem_nil, or_false] at h; omega
    · exact hx 2 d h
  split at hd
  · rcases List.mem_append.mp hd with h | h
    · simp only [List.mem_cons, List.not_mem_nil, or_false] at h; omega
    · exact hx 4 d h
  · rcases List.mem_append.mp hd with h | h
    · simp only [List.mem_cons, List.not_mem_nil, or_false] at h; omega
    · exact hx 8 d h
open PySem.Builtin.Str in
theorem repr_fold {q : Nat} : ∀ (l : List Nat) (acc : Array Nat), (∀ c ∈ l, c < 1114112) → (∀ c ∈ acc.toList, c < 1114112) → ∀ c ∈ (l.foldl (fun out c => out ++ (reprChar q c).toArray) acc).toList, c < 1114112
  | [], acc, _, h => h
  | x :: r, acc, h1, h2 => repr_fold r _ (fun c hc => h1 c (by simp [hc])) fun c hc => by
    simp only [Array.toList_append, List.mem_append] at hc
    rcases hc with hc | hc
    · exact h2 c hc
    · exact reprChar_ok (h1 x (by simp)) c hc
theorem reprText_ok {x : Str} (h : PyData.strOk x = true) : PyData.strOk (reprText x) = true := by
  unfold reprText
  refine strOk_mk fun c hc => ?_
  have hq : reprQuote x < 1114112 := by unfold reprQuote; split <;> omega
  rw [Array.toList_push] at hc
  rcases List.mem_append.mp hc with hc | hc
  · rw [← Array.foldl_toList] at hc
    exact repr_fold _ _ (strOk_mem h) (fun c hc => by simp at hc; omega) c hc
  · simp at hc; omega
theorem Sz.str {x : Str} {n : Nat} (h : PyData.strOk x = true) (hl : x.length ≤ n) : Sz (10 * n + 2) 2 (.str x) := by
  refine ⟨rfl, rfl, by simp [PyData.depth], ?_, reprText_ok h⟩
  have := PySem.StrLaws.reprText_len x fun c hc => Nat.lt_of_lt_of_le (strOk_mem h c hc) (by decide)
  show (reprText x).length ≤ _
  omega
end L2

set_option Elab.async false
set_option linter.all false
set_option maxRecDepth 100000
set_option maxHeartbeats 4000000
namespace L2
open PySem PySem.Spec PyProof.Rows
section
variable {X : Cx} {K : PySem.W.Frag} {a : Expr} {fa : FE} {pos p pos2 p2 : Pos}
/-! ### len(set(e)), e of ints -/
end
end L2
namespace L2
open PySem PySem.Spec PyProof.Rows
section
variable {X : Cx} {K : PySem.W.Frag} {a : Expr} {fa : FE}
/-! ### extend by a tuple -/
end
end L2

set_option Elab.async false
set_option linter.all false
set_option maxRecDepth 100000
set_option maxHeartbeats 4000000
namespace L2
open PySem PySem.Spec PyProof.Rows
/-! ### runs of asks and what they leave -/
abbrev Rn := List (Int × Bool)
def fstR (R : Rn) : List Int := R.map (·.1)
def endsR (W : Web) (R : Rn) : List Int := (R.filter (·.2)).flatMap fun r => [(W.tie r.1).one, (W.tie r.1).other]
theorem endsR_snoc (W : Web) (R : Rn) (k : Int) (b : Bool) : endsR W (R ++ [(k, b)]) = endsR W R ++ (if b = true then [(W.tie k).one, (W.tie k).other] else []) := by
  unfold endsR
  cases b <;> simp [List.filter_append]
theorem many_perm {W : Web} {a b : List Int} (h : a.Perm b) (t : Int) : W.many a t = W.many b t := by
  unfold Web.many
  rw [(h.filter _).length_eq]
theorem many_snoc {W : Web} {a : List Int} {k t : Int} : W.many (a ++ [k]) t = W.many a t + (if W.has k t = true then 1 else 0) := by
  unfold Web.many
  rw [List.filter_append]
  by_cases c : W.has k t = true
  · simp [c]
  · simp [c]
theorem sortI_sorted (ns : List Int) : (sortI ns).Pairwise (· ≤ ·) := by
  have := List.pairwise_mergeSort (le := fun a b : Int => decide (a ≤ b)) (fun a b c h1 h2 => by simp at *; omega) (fun a b => by simp; omega) ns
  exact this.imp (by simp)
structure RnOk (W : Web) (R : Rn) (asked taken : List Int) : Prop where
  pa : asked.Perm (fstR R)
  pt : taken.Perm (endsR W R)
  inw : ∀ k ∈ fstR R, InW W k
  nd : (fstR R).Nodup
  nk : (endsR W R).Nodup
  bd : ∀ t : Int, 0 ≤ t → t < W.things → W.many (fstR R) t ≤ W.pat.getD t.toNat 0
  ak : (R.length : Int) ≤ W.asks
  sa : asked.Pairwise (· ≤ ·)
  st : taken.Pairwise (· ≤ ·)
theorem many_nil {W : Web} {t : Int} : W.many [] t = 0 := rfl
theorem RnOk.first {W : Web} (ok : W.Ok) : RnOk W [] [] [] := by
  refine ⟨.refl _, .refl _, fun k h => (by cases h), List.nodup_nil, List.nodup_nil, fun t h0 h1 => ?_, ok.a0, List.Pairwise.nil, List.Pairwise.nil⟩
  show W.many [] t ≤ _
  rw [many_nil]
  have hp := ok.pl
  have hl : t.toNat < W.pat.length := by omega
  have := ok.pat (W.pat[t.toNat]) (List.getElem_mem hl)
  rw [List.getD_eq_getElem?_getD, List.getElem?_eq_getElem hl]
  exact this.1
theorem has_iff {W : Web} {k t : Int} : W.has k t = true ↔ (W.tie k).one = t ∨ (W.tie k).other = t := by
  unfold Web.has; simp
theorem RnOk.more {W : Web} (ok : W.Ok) {R : Rn} {asked taken : List Int} (h : RnOk W R asked taken) {k : Int} (hk : InW W k) (hm : W.may asked taken k = true) (b : Bool) : RnOk W (R ++ [(k, b)]) (Web.askd asked k) (W.took taken k b) := by
  have o := hk.ok ok
  have o0 := o.o0; have o1 := o.o1; have o2 := o.o2
  unfold Web.may at hm
  simp only [Bool.and_eq_true, Bool.not_eq_true', Bool.or_eq_false_iff, decide_eq_false_iff_not] at hm
  obtain ⟨⟨m1, m2⟩, m3, m4⟩ := hm
  unfold Web.bears at m3 m4
  simp only [Bool.and_eq_true, Bool.not_eq_true', decide_eq_true_eq] at m3 m4
  have m1' : k ∉ fstR R := fun z => by
    have : k ∈ asked := h.pa.mem_iff.mpr z
    simp [this] at m1
  have e1 : fstR (R ++ [(k, b)]) = fstR R ++ [k] := by simp [fstR]
  have la : asked.length = R.length := by rw [h.pa.length_eq]; simp [fstR]
  refine ⟨?_, ?_, ?_, ?_, ?_, ?_, ?_, sortI_sorted _, ?_⟩
  · rw [e1]; exact (sortI_perm _).trans (h.pa.append_right _)
  · rw [endsR_snoc]
    unfold Web.took
    cases b with
    | true => simp only [if_true]; exact (sortI_perm _).trans (h.pt.append_right _)
    | false => simp only [Bool.false_eq_true, if_false, List.append_nil]; exact h.pt
  · rw [e1]
    intro j hj
    rcases List.mem_append.mp hj with z | z
    · exact h.inw j z
    · simp at z; rw [z]; exact hk
  · rw [e1, List.nodup_append]
    refine ⟨h.nd, by simp, fun a ha c hc => ?_⟩
    simp at hc
    rintro rfl
    exact m1' (hc ▸ ha)
  · rw [endsR_snoc]
    cases b with
    | false => simpa using h.nk
    | true =>
      simp only [if_true]
      rw [List.nodup_append]
      refine ⟨h.nk, by simp; omega, fun a ha c hc => ?_⟩
      have ha' : a ∈ taken := h.pt.mem_iff.mpr ha
      simp at hc
      rintro rfl
      rcases hc with rfl | rfl
      · simp [ha'] at m3
      · simp [ha'] at m4
  · intro t h0 h1
    rw [e1, many_snoc]
    have b0 := h.bd t h0 h1
    have q := many_perm (W := W) h.pa t
    split
    case isTrue c =>
      rcases has_iff.mp c with rfl | rfl
      · have := m3.2; omega
      · have := m4.2; omega
    case isFalse c => omega
  · simp only [List.length_append, List.length_cons, List.length_nil]
    omega
  · unfold Web.took
    split
    · exact sortI_sorted _
    · exact h.st
theorem RnOk.len {W : Web} {R : Rn} {asked taken : List Int} (h : RnOk W R asked taken) : R.length ≤ W.ties.length := by
  have := nodup_le W.ties.length (fstR R) h.nd fun k hk => h.inw k hk
  simpa [fstR] using this
/-! ### unlike ones told apart -/
/-! ### counts of asks -/
end L2

set_option Elab.async false
set_option linter.all false
set_option maxRecDepth 100000
set_option maxHeartbeats 4000000
namespace L2
open PySem PySem.Spec PyProof.Rows
/-! ### comprehensions of two clauses -/
section
variable {prog : Program} {w : World} {A : Around} {R : Result → Shared → Prop}
end
/-- what the second clause leaves -/
def tInner (l : Addr) (wi : TI) (g : TG) (tc : TT) (te : TE) (σ : L2.St) (H : Hp) (N : L2.St → Hp → Prop) : Prop :=
  wi σ H fun J H1 => ∃ W : Nat → Nat → L2.St → Hp → Prop, (∃ m, W 0 m σ H1) ∧ ∀ i m σ' H', W i m σ' H' →
    (J.stop i H' ∧ N σ' H') ∨ (J.go i H' ∧ ∃ N2 : L2.St → Hp → Prop, (∀ σ2 H2, N2 σ2 H2 → ∃ m', m' < m ∧ W (i + 1) m' σ2 H2) ∧
      ∀ x H2, J.yld i H' x H2 → g x σ' H2 fun σ2 H3 => tc σ2 H3 fun b H4 => if b = true then te σ2 H4 fun v H5 => ∃ ys, H5 l = some (.lst ys) ∧ ys.length < sizeLine ∧ N2 σ2 (upd H5 l (.lst (ys ++ [v]))) else N2 σ2 H4)
structure tComp2 (cp : List (Nat × Str)) (nT : Nat) (wi : TI) (g : TG) (tc : TT) (wi2 : TI) (g2 : TG) (tc2 : TT) (te : TE) (σ : L2.St) (H : Hp) (Q : VK) : Prop where
  go : wi σ H fun J H1 => ∀ l, H1 l = none →
  ∃ W : Nat → Nat → L2.St → Hp → Prop, (∃ m, W 0 m (sig0 cp nT σ) (upd H1 l (.lst []))) ∧ ∀ i m σ' H', W i m σ' H' →
    (J.stop i H' ∧ Q (.ref l) H') ∨ (J.go i H' ∧ ∃ N : L2.St → Hp → Prop, (∀ σ2 H2, N σ2 H2 → ∃ m', m' < m ∧ W (i + 1) m' σ2 H2) ∧
      ∀ x H2, J.yld i H' x H2 → g x σ' H2 fun σ2 H3 => tc σ2 H3 fun b H4 => if b = true then tInner l wi2 g2 tc2 te σ2 H4 N else N σ2 H4)
/-! ### as pure functions -/
section
variable {K : PySem.W.Frag} {F H : Hp} {σ : L2.St} {e : En} {cp : List (Nat × Str)} {nT : Nat}
end
section
variable {X : Cx} {K : PySem.W.Frag} {pos : Pos}
end
/-! ### stored ahead of the block's end -/
section
variable {X : Cx} {K : PySem.W.Frag} {pos : Pos}
/-! ### methods -/
variable {o : Expr} {fo : FE} {apos cpos : Pos}
end
end L2
namespace L2
open PySem PySem.Spec PyProof.Rows
section
variable {X : Cx} {K : PySem.W.Frag}
/-! ### max of a list of ints -/
def mxI : List Int → Int
  | [] => 0
  | x :: r => r.foldl max x
end
end L2

set_option Elab.async false
set_option linter.all false
set_option maxRecDepth 100000
set_option maxHeartbeats 4000000
namespace L2
open PySem PySem.Spec PyProof.Rows
/-! ### sums of fractions, whatever their order -/
structure Low (f : Fr) : Prop where
  pos : 0 < f.2
  cop : Int.gcd f.1 f.2 = 1
def Vl (M : Int) (f : Fr) (v : Int) : Prop := f.1 * M = v * f.2
theorem Vl.of {M i : Int} {f : Fr} (h : SOk M i f) : Vl M f (f.1 * (M / f.2)) := by
  unfold Vl
  obtain ⟨c, hc⟩ := h.dv
  have hp := h.pos
  rw [hc, Int.mul_ediv_cancel_left _ (by omega), Int.mul_assoc, Int.mul_comm c f.2]
theorem Vl.pl {M : Int} {a b : Fr} {v w : Int} (ha : Vl M a v) (hb : Vl M b w) (pa : 0 < a.2) (pb : 0 < b.2) : Vl M (pl a b) (v + w) := by
  unfold Vl at *
  have p : a.2 * b.2 ≠ 0 := Int.ne_of_gt (Int.mul_pos pa pb)
  have hc := lowM_cross (t := a.1 * b.2 + b.1 * a.2) (b := a.2 * b.2) p
  change (L2.pl a b).1 * (a.2 * b.2) = (L2.pl a b).2 * (a.1 * b.2 + b.1 * a.2) at hc
  generalize (L2.pl a b).1 = x at *
  generalize (L2.pl a b).2 = y at *
  refine Int.eq_of_mul_eq_mul_right (a := a.2 * b.2) p ?_
  have e1 : x * M * (a.2 * b.2) = y * (a.1 * M * b.2 + b.1 * M * a.2) := by
    rw [show x * M * (a.2 * b.2) = x * (a.2 * b.2) * M by rw [Int.mul_assoc, Int.mul_comm M, ← Int.mul_assoc], hc, Int.mul_assoc y, Int.add_mul]
    congr 2
    · rw [Int.mul_assoc, Int.mul_comm b.2 M, ← Int.mul_assoc]
    · rw [Int.mul_assoc, Int.mul_comm a.2 M, ← Int.mul_assoc]
  rw [e1, ha, hb]
  have e2 : v * a.2 * b.2 + w * b.2 * a.2 = (v + w) * (a.2 * b.2) := by
    rw [Int.add_mul, Int.mul_assoc v, Int.mul_assoc w, Int.mul_comm b.2 a.2]
  rw [e2, ← Int.mul_assoc, Int.mul_comm y (v + w)]
theorem Low.lowM {t b : Int} (h : 0 < b) : Low (L2.lowM t b) := by
  obtain ⟨d, _, _, _, _, h5⟩ := lowM_spec (t := t) (b := b) (by omega)
  exact ⟨h5, lowM_gcd (by omega)⟩
theorem Low.pl {a b : Fr} (pa : 0 < a.2) (pb : 0 < b.2) : Low (pl a b) := Low.lowM (Int.mul_pos pa pb)
/-! ### rows of answers -/
/-! ### the chance of a row of answers -/
/-! ### pairings of ties that say yes -/
abbrev Pg := List Int × Int
def okP (t : Tie) (p : Pg) : Bool := !p.1.contains t.one && !p.1.contains t.other
def addP (t : Tie) (p : Pg) : Pg := (p.1 ++ [t.one, t.other], p.2 + t.worth)
def stP (ps : List Pg) (t : Tie) : List Pg := ps ++ (ps.filter (okP t)).map (addP t)
def pgs (ts : List Tie) : List Pg := ts.foldl stP [([], 0)]
structure PgsOk (k : Nat) (ps : List Pg) : Prop where
  ne : ps ≠ []
  len : ps.length ≤ 2 ^ k
  pt : ∀ p ∈ ps, p.1.length ≤ 2 * k ∧ 0 ≤ p.2 ∧ p.2 ≤ 1000 * (k : Int)
theorem PgsOk.step {n : Int} {k : Nat} {ps : List Pg} {t : Tie} (h : PgsOk k ps) (o : t.Ok n) : PgsOk (k + 1) (stP ps t) := by
  have := o.w0; have := o.w1
  refine ⟨by unfold stP; simp [h.ne], ?_, fun p hp => ?_⟩
  · unfold stP
    have h1 := h.len
    have h2 : (ps.filter (okP t)).length ≤ ps.length := List.length_filter_le _ _
    rw [List.length_append, List.length_map, Nat.pow_succ]; omega
  · unfold stP at hp
    rcases List.mem_append.mp hp with hp | hp
    · have := h.pt p hp; omega
    · obtain ⟨q, hq, rfl⟩ := List.mem_map.mp hp
      have := h.pt q (List.mem_filter.mp hq).1
      refine ⟨by show (q.1 ++ [t.one, t.other]).length ≤ _; simp; omega, ?_, ?_⟩
      · show 0 ≤ q.2 + t.worth; omega
      · show q.2 + t.worth ≤ _; omega
def hvT (ts : List Tie) : Int := mxI ((pgs ts).map (·.2))
end L2
namespace L2
open PySem PySem.Spec PyProof.Rows
end L2

set_option Elab.async false
set_option linter.all false
set_option maxRecDepth 100000
set_option maxHeartbeats 4000000
namespace L2
open PySem PySem.Spec PyProof.Rows
/-! ### tuple(range(n)) -/
section
variable {prog : Program} {w : World} {A : Around} {E : Value → Shared → Prop} {s : Shared}
theorem rg_code {r : Addr} {b : Int} {t u v : Tok} {n : Nat} {R : Result → Shared → Prop} (hh : A.handled = none) (hr : IsRange s.heap r 0 b 1 t u v) (hsmall : Builtin.Range.small 0 b 1 = true) (hn : Builtin.Range.rangeSize 0 b 1 = n) (hlen : n ≤ 2 ^ 24)
    (h : ∀ g tk acc c, (∀ b o, s.heap.get? b = some o → g.get? b = some o) → g.get? s.heap.objs.size = some { cls := .type "list", dict := none, data := .seq acc c, slots := #[] } → ItemsOf (fun i v => ∃ t, v = .int (0 + i * 1) t) acc n → R (.ok (.ret (.ref s.heap.objs.size))) { s with heap := g, toks := tk }) : codeAny (model prog w) A (.builtin "proto.collect" ⟨[.ref r], []⟩) R s := by
  refine codeAny_builtin F.entry_proto_collect ?_
  rw [Around.under_plainId F.plain_proto_collect _]
  show wpAny _ A.in1 (newList [] >>= fun l => again (.builtin "list.__iadd__" ⟨[l, .ref r], []⟩)) _ _ s
  refine wpAny_bind (wpAny_newObj_type ?_)
  refine wpAny_pure ⟨plainId_quiet F.plain_list_iadd _, codeAny_builtin F.entry_list_iadd ?_⟩
  rw [Around.under_plainId F.plain_list_iadd _]
  have hS₁ : (s.heap.push { cls := .type "list", data := .seq ([] : List Value).toArray }).get? s.heap.objs.size = some { cls := .type "list", data := .seq ([] : List Value).toArray } := Heap.get?_push_size _ rfl
  show wpAny _ A.in1 (Builtin.List.listExtendWith (.ref s.heap.objs.size) (.ref r) (.ref s.heap.objs.size)) _ _ _
  exact wpAny_extend_range (R := R) (s := { s with heap := s.heap.push { cls := .type "list", data := .seq ([] : List Value).toArray } }) hh (Heap.get?_push_of_some _ hr) hsmall hn hlen s.heap.objs.size (.ref s.heap.objs.size) 0 hS₁ fun h' tk acc' c' hk hS' hacc => h h' tk acc' c' (fun b o e => hk b o (Nat.ne_of_lt (Heap.lt_size e)) (Heap.get?_push_of_some _ e)) hS' hacc
theorem rg_collect {r : Addr} {b : Int} {t u v : Tok} {n : Nat} {Q : List Value → Shared → Prop} (hh : A.handled = none) (hr : IsRange s.heap r 0 b 1 t u v) (hsmall : Builtin.Range.small 0 b 1 = true) (hn : Builtin.Range.rangeSize 0 b 1 = n) (hlen : n ≤ 2 ^ 24)
    (h : ∀ g tk acc, (∀ b o, s.heap.get? b = some o → g.get? b = some o) → ItemsOf (fun i v => ∃ t, v = .int (0 + i * 1) t) acc n → Q acc.toList { s with heap := g, toks := tk }) : wpAny (model prog w) A (collect (.ref r)) Q E s := by
  unfold collect
  refine wpAny_bind (wpAny_runValue (rg_code hh hr hsmall hn hlen fun g tk acc c hk hS' hacc => ?_))
  show wpAny _ A (load s.heap.objs.size >>= _) _ _ _
  refine wpAny_bind (wpAny_load hS' ?_)
  exact wpAny_pure (h g tk acc hk hacc)
theorem tup_rg (r : Addr) (b : Int) (t u v : Tok) (n : Nat) (hsmall : Builtin.Range.small 0 b 1 = true) (hn : Builtin.Range.rangeSize 0 b 1 = n) (hlen : n ≤ 100000) :
    Meets (Builtin.«tuple.__new__» ⟨[.type "tuple", .ref r], []⟩) (fun A R s => A.handled = none ∧ IsRange s.heap r 0 b 1 t u v ∧ ∀ (g : Heap) (tk : Nat) (acc : Array Value), (∀ b o, s.heap.get? b = some o → g.get? b = some o) → ItemsOf (fun i v => ∃ t, v = .int (0 + i * 1) t) acc n → R (.ok (.ret (.ref g.objs.size))) { s with heap := g.push { cls := .type "tuple", data := .seq acc }, toks := tk }) :=
  .of_wp fun prog w A R s h => by
    obtain ⟨hh, hI, h⟩ := h; have a1 := sub_tuple_self; have a2 := init_tuple_lookup; have a3 := madeHere_tuple
    have hT : s.TypeIs (.ref r) "range" := ⟨_, hI, rfl⟩
    have hh1 : A.in1.handled = none := hh
    have hl2 : n ≤ 2 ^ 24 := Nat.le_trans hlen (by decide)
    wp_walk using wpAny_typeOf hT, rg_collect hh1 hI hsmall hn hl2
    intro g tk acc hm hacc
    show wpAny _ _ (Builtin.Tuple.tupleExact acc.toList.toArray >>= fun v => ret v) _ _ _
    unfold Builtin.Tuple.tupleExact; refine wpAny_bind (wpAny_newObj_type ?_ (show acc.toList.toArray.size ≤ sizeLine by simp only [Array.toArray_toList]; rw [hacc.1, sizeLine_eq]; omega))
    refine wpAny_pure ⟨_, rfl, ?_⟩; have e : acc.toList.toArray = acc := by simp
    rw [e]; exact h g tk acc hm hacc
theorem tup_rg_call {r : Addr} {b : Int} {t u v : Tok} {n : Nat} {Q : Value → Shared → Prop} (hh : A.handled = none) (hr : IsRange s.heap r 0 b 1 t u v) (hsmall : Builtin.Range.small 0 b 1 = true) (hn : Builtin.Range.rangeSize 0 b 1 = n) (hlen : n ≤ 100000)
    (h : ∀ (g : Heap) (tk : Nat) (acc : Array Value), (∀ b o, s.heap.get? b = some o → g.get? b = some o) → ItemsOf (fun i v => ∃ t, v = .int (0 + i * 1) t) acc n → Q (.ref g.objs.size) { s with heap := g.push { cls := .type "tuple", data := .seq acc }, toks := tk }) : wpAny (model prog w) A (call (.type "tuple") [.ref r]) Q E s := by
  refine callType_new F.called_tuple (by decide) (F.typeCall_tuple_1 _) (F.newCall_tuple_1 _) (fun obj => F.args_object_init_2 obj _) F.entry_tuple_new (tup_rg r b t u v n hsmall hn hlen) ⟨hh, hr, fun g tk acc hm hacc => ⟨⟨_, Heap.get?_push_size _ rfl, rfl⟩, ?_⟩⟩
  exact h g tk acc hm hacc
end
section
variable {X : Cx} {a : Expr} {ta : TA} {p p2 pos pos2 : Pos}
def tTG (ta : TA) : TE := fun σ H Q => ta σ H fun vs H1 => ∃ j : Int, vs = [.int j] ∧ (0 ≤ j ∧ j ≤ 100000 ∧ ∀ l, H1 l = none → Q (.ref l) (upd H1 l (.tup ((rngI j.toNat).map V.int))))
theorem pe_tupRange (hc : X.calm = true) (hgl : Gl X "tuple") (hml : X.mg "tuple" = none) (hg : Gl X "range") (hm : X.mg "range" = none) (ha : PA X [a] ta) (hs : starEach [a] X.env = [(false, eval a X.env)])
    (he : starEach [.Call (.Name "range" p) [a] [] pos] X.env = (false, eval (.Call (.Name "range" p) [a] [] pos) X.env) :: starEach [] X.env) : PE X (.Call (.Name "tuple" p2) [.Call (.Name "range" p) [a] [] pos] [] pos2) (tTG ta) := by
  intro pins s σ H Q I h
  refine wpAny_Call_Name_kw (ld_blt I hgl hml PyProof.Rows.boot_tuple ?_ (by decide) (by decide))
  refine PyProof.Rows.callWith_type1 ?_ he rfl
  rw [he]
  refine Calls.spliced_cons (thn (ev_range hg hm ha hs I h) fun u s1 ⟨r, j, H1, t, u1, w, e, hr, lt, I1, j0, j1, q⟩ => ?_)
  subst e
  refine wpAny_pure ?_
  have hsm : Builtin.Range.small 0 j 1 = true := small_one (by decide) (by decide) (by omega) (by omega)
  refine tup_rg_call (n := j.toNat) (I1.ok.hd hc) hr hsm (by rw [rangeSize_one]; split <;> omega) (by omega) fun g tk acc hk hacc => ?_
  have I2 : Inv X pins σ H1 { s1 with heap := g, toks := tk } := I1.kept hk
  have hf : H1 g.objs.size = none := I2.hok.fresh (Nat.le_refl _)
  have vv : Vals ((rngI j.toNat).map V.int) acc.toList := by
    have z := vals_fn acc.toList (fun k => (k : Int)) fun k v e => by
      obtain ⟨t, ht⟩ := hacc.2 k v (by simpa using e)
      exact ⟨t, by rw [ht]; simp⟩
    rw [Array.length_toList, hacc.1] at z
    rw [rngI, List.map_map]
    exact z
  refine ⟨.ref g.objs.size, _, I2.laid (t' := tk) (o := .tup ((rngI j.toNat).map V.int)) (fun b u e => Heap.get?_push_of_some _ e) (Nat.le_refl _) ⟨?_, acc.toList, vv, ⟨_, Heap.get?_push_size _ rfl, rfl, 0, by simp⟩⟩, rfl, q _ hf⟩
  rw [List.length_map, rngI_len, sizeLine_eq]; omega
variable {K : PySem.W.Frag} {fs : FA} {p3 : Pos}
def vTRange (fs : FA) : FE := fun e => (fs e).bind fun p => match p.1 with
  | [r] => (intOf r).bind fun j => if 0 ≤ j ∧ j ≤ 100000 then some (.d (.tuple ((rngI j.toNat).map .int)), p.2) else none
  | _ => none
theorem q_tupRange (hc : X.calm = true) (hgl : Gl X "tuple") (hml : X.mg "tuple" = none) (hg : Gl X "range") (hm : X.mg "range" = none) (ha : PA X [a] (fA K fs)) (hs : starEach [a] X.env = [(false, eval a X.env)])
    (he : starEach [.Call (.Name "range" p2) [a] [] p3] X.env = [(false, eval (.Call (.Name "range" p2) [a] [] p3) X.env)]) : PE X (.Call (.Name "tuple" p) [.Call (.Name "range" p2) [a] [] p3] [] pos) (fE K (vTRange fs)) := (pe_tupRange hc hgl hml hg hm ha hs he).mono fun σ H Q h => by
  obtain ⟨F, e, z, e', R, hf, q⟩ := h
  unfold vTRange at hf
  obtain ⟨⟨rs, e1⟩, h1, hf⟩ := Option.bind_eq_some_iff.mp hf
  match rs, h1, hf with
  | [r], h1, hf =>
  obtain ⟨j, h2, hf⟩ := Option.bind_eq_some_iff.mp hf
  split at hf
  case isFalse => cases hf
  case isTrue hj =>
  cases hf
  refine ⟨F, e, _, e1, R, h1, fun F1 H1 vs X1 R1 A1 => ?_⟩
  obtain ⟨v, rfl, A2⟩ := rvs_one A1
  refine ⟨j, by rw [intOf_at A2 h2], hj.1, hj.2, fun t ht => ?_⟩
  obtain ⟨R3, X3⟩ := R1.newT (vs := (rngI j.toNat).map V.int) ht
  exact q _ _ _ (X1.trans X3) R3 (da_tup.mpr ⟨t, _, rfl, .inl (.inl upd_same), DAs.ints.mpr rfl⟩)
end
end L2

set_option Elab.async false
set_option linter.all false
set_option maxRecDepth 100000
set_option maxHeartbeats 4000000
namespace L2
open PySem PySem.Spec PyProof.Rows
/-! ### anything: numbers among it, rows of unlike numbers -/
def isN : PyData → Bool
  | .int _ => true
  | _ => false
def isNin (lo hi : Int) : PyData → Bool
  | .int i => decide (lo ≤ i) && decide (i ≤ hi)
  | _ => false
theorem all_isNin {lo hi : Int} : ∀ (ns : List Int), (ns.map PyData.int).all (isNin lo hi) = ns.all fun i => decide (lo ≤ i) && decide (i ≤ hi)
  | [] => rfl
  | x :: r => by simp only [List.map_cons, List.all_cons, all_isNin r, isNin]
theorem boolsD_of {α : Type} (p : α → Bool) : ∀ (ds : List α), boolsD (ds.map fun d => PyData.bool (p d)) = some (ds.map p)
  | [] => rfl
  | d :: r => by simp [boolsD, boolsD_of p r]
theorem gAll_map {α : Type} {e : En} (p : α → Bool) (ds : List α) : g1 (gSeqL gAllD) e [.l (ds.map fun d => .bool (p d))] = some (.d (.bool (ds.all p))) := by
  simp [g1, gSeqL, seqR, gAllD, boolsD_of p, List.all_map]
/-! ### a comprehension whose block draws on -/
/-! ### a loop that ends at the first that fails -/
end L2

set_option Elab.async false
set_option linter.all false
set_option maxRecDepth 100000
set_option maxHeartbeats 4000000
namespace L2
open PySem PySem.Spec PyProof.Rows
/-! ### data of any shape that can be shown: no dicts, small atoms -/
mutual
def okD : Nat → PyData → Bool
  | _, .none => true
  | _, .bool _ => true
  | _, .int i => decide (i.natAbs < 2 ^ 128)
  | _, .str x => PyData.strOk x && decide (x.length ≤ 10)
  | k, .list xs => decide (0 < k) && okAll (k - 1) xs
  | k, .tuple xs => decide (0 < k) && okAll (k - 1) xs
  | _, .dict _ => false
def okAll : Nat → List PyData → Bool
  | _, [] => true
  | k, x :: r => okD k x && okAll k r
end
mutual
def wt : PyData → Nat
  | .list xs => wtAll xs + 1
  | .tuple xs => wtAll xs + 1
  | .dict _ => 1
  | .none => 1
  | .bool _ => 1
  | .int _ => 1
  | .str _ => 1
def wtAll : List PyData → Nat
  | [] => 0
  | x :: r => wt x + wtAll r
end
theorem okAll_mem {k : Nat} : ∀ {ds : List PyData}, okAll k ds = true ↔ ∀ d ∈ ds, okD k d = true
  | [] => by simp [okAll]
  | d :: r => by simp [okAll, okAll_mem (ds := r)]
mutual
theorem okD_up {k : Nat} : ∀ {d : PyData}, okD k d = true → okD (k + 1) d = true
  | .none, _ => rfl
  | .bool _, _ => rfl
  | .int _, h => by simpa [okD] using h
  | .str _, h => by simpa [okD] using h
  | .dict _, h => by simp [okD] at h
  | .list xs, h => by
    simp only [okD, Bool.and_eq_true, decide_eq_true_eq] at h ⊢
    obtain ⟨j, rfl⟩ : ∃ j, k = j + 1 := ⟨k - 1, by omega⟩
    exact ⟨by omega, okAll_up (k := j) h.2⟩
  | .tuple xs, h => by
    simp only [okD, Bool.and_eq_true, decide_eq_true_eq] at h ⊢
    obtain ⟨j, rfl⟩ : ∃ j, k = j + 1 := ⟨k - 1, by omega⟩
    exact ⟨by omega, okAll_up (k := j) h.2⟩
theorem okAll_up {k : Nat} : ∀ {ds : List PyData}, okAll k ds = true → okAll (k + 1) ds = true
  | [], _ => rfl
  | d :: r, h => by
    simp only [okAll, Bool.and_eq_true] at h ⊢
    exact ⟨okD_up h.1, okAll_up h.2⟩
end
theorem text_len : ∀ (ts : List Str) (k : Nat) (acc : Str), (textFrom k acc ts).length ≤ acc.length + piled ts
  | [], _, acc => by show acc.length ≤ acc.length + 0; omega
  | t :: r, k, acc => by
    have ih := text_len r (k + 1) (acc ++ (if k > 0 then ", " else "" : String) ++ t)
    have e : (acc ++ (if k > 0 then ", " else "" : String) ++ t).length ≤ acc.length + 2 + t.length := by
      rw [strLen_append, strLen_append]
      have : (Str.ofString (if k > 0 then ", " else "")).length ≤ 2 := by split <;> decide
      omega
    show (textFrom (k + 1) _ r).length ≤ _
    rw [piled_cons]; omega
theorem list_len (ts : List Str) : (listText ts).length ≤ piled ts + 2 := by
  unfold listText
  rw [strLen_append]
  have h := text_len ts 0 "["
  have h1 : (("[" : Str)).length = 1 := by decide
  have h2 : (("]" : Str)).length = 1 := by decide
  omega
theorem strOk_text : ∀ (ts : List Str) (k : Nat) (acc : Str), PyData.strOk acc = true → (∀ t ∈ ts, PyData.strOk t = true) → PyData.strOk (textFrom k acc ts) = true
  | [], _, acc, h, _ => h
  | t :: r, k, acc, h, hs => strOk_text r (k + 1) _ (strOk_app (strOk_app h (strOk_of _)) (hs t (by simp))) fun u hu => hs u (by simp [hu])
theorem strOk_lst {ts : List Str} (h : ∀ t ∈ ts, PyData.strOk t = true) : PyData.strOk (listText ts) = true := strOk_app (strOk_text ts 0 _ (strOk_of _) h) (strOk_of _)
structure Any (d : PyData) (k : Nat) : Prop where
  lay : d.canLay0 = true
  sh : d.showable = true
  dp : d.depth ≤ k
  ln : d.shown.length + 2 ≤ 104 * wt d
  so : PyData.strOk d.shown = true
theorem any_atom {d : PyData} {n : Nat} {k : Nat} (h : Sz n 0 d ∨ Sz n 2 d) (hn : n ≤ 102) (hw : wt d = 1) (hl : d.canLay0 = true) (hd : d.depth = 0) : Any d k := by
  rcases h with h | h <;> exact ⟨hl, h.sh, by omega, by have := h.ln; omega, h.so⟩
mutual
theorem any_of {k : Nat} : ∀ {d : PyData}, okD k d = true → Any d k
  | .none, _ => ⟨rfl, rfl, by simp [PyData.depth], by show (Str.ofString "None").length + 2 ≤ 104 * 1; decide, strOk_of _⟩
  | .bool b, _ => any_atom (.inr Sz.bool) (by decide) rfl rfl (by simp [PyData.depth])
  | .int i, h => by
    simp only [okD, decide_eq_true_eq] at h
    exact any_atom (.inr (Sz.int10 (n := 39) (m := 128) (show Bt 128 i from h) (by decide) (by decide) (Nat.lt_of_lt_of_le h (by decide)) (by decide))) (by decide) rfl rfl (by simp [PyData.depth])
  | .str x, h => by
    simp only [okD, Bool.and_eq_true, decide_eq_true_eq] at h
    exact any_atom (.inr (Sz.str (n := 10) h.1 h.2)) (by decide) rfl (by simpa [PyData.canLay0] using h.1) (by simp [PyData.depth])
  | .dict _, h => by simp [okD] at h
  | .list xs, h => by
    simp only [okD, Bool.and_eq_true, decide_eq_true_eq] at h
    obtain ⟨a1, a2, a3, a4, a5⟩ := any_all h.2
    have := list_len (PyData.shownAll xs)
    refine ⟨by simpa [PyData.canLay0] using a1, a2, by simp only [PyData.depth]; omega, by simp only [PyData.shown, wt]; omega, by simp only [PyData.shown]; exact strOk_lst a5⟩
  | .tuple xs, h => by
    simp only [okD, Bool.and_eq_true, decide_eq_true_eq] at h
    obtain ⟨a1, a2, a3, a4, a5⟩ := any_all h.2
    have := tuple_len (PyData.shownAll xs)
    refine ⟨by simpa [PyData.canLay0] using a1, a2, by simp only [PyData.depth]; omega, by simp only [PyData.shown, wt]; omega, by simp only [PyData.shown]; exact strOk_tup a5⟩
theorem any_all {k : Nat} : ∀ {ds : List PyData}, okAll k ds = true → PyData.canLayAll0 ds = true ∧ PyData.showableAll ds = true ∧ PyData.depthAll ds ≤ k ∧ piled (PyData.shownAll ds) ≤ 104 * wtAll ds ∧ ∀ t ∈ PyData.shownAll ds, PyData.strOk t = true
  | [], _ => ⟨rfl, rfl, by simp [PyData.depthAll], by simp [PyData.shownAll, piled], by simp [PyData.shownAll]⟩
  | d :: r, h => by
    simp only [okAll, Bool.and_eq_true] at h
    obtain ⟨a1, a2, a3, a4, a5⟩ := any_of h.1
    obtain ⟨b1, b2, b3, b4, b5⟩ := any_all h.2
    refine ⟨by simp only [PyData.canLayAll0, a1, b1, Bool.and_self], by simp only [PyData.showableAll, a2, b2, Bool.and_self], by simp only [PyData.depthAll]; omega, by simp only [PyData.shownAll, piled_cons, wtAll]; omega, fun t ht => ?_⟩
    simp only [PyData.shownAll, List.mem_cons] at ht
    rcases ht with rfl | ht
    · exact a5
    · exact b5 t ht
end
theorem Any.ok {d : PyData} {k : Nat} (h : Any d k) (hk : k ≤ 60) (hw : wt d ≤ 100000) : shownOk d = true := by
  have sl : sizeLine = 16777216 := sizeLine_eq
  have := h.ln
  unfold shownOk
  rw [PyData.hasDict_of_canLay d h.lay, h.sh, decide_eq_true (Nat.le_trans h.dp hk), decide_eq_true (show d.shown.length ≤ sizeLine by rw [sl]; omega)]
  simp
/-! ### webs among anything -/
def rowB (n : Int) : PyData → Bool
  | .tuple ds => (ds.length : Int) == n
  | _ => false
def frB : PyData → Bool
  | .tuple [.int t, .int b] => decide (1 ≤ b) && decide (Int.gcd t b = 1)
  | _ => false
def chB : PyData → Bool
  | .tuple [.int t, .int b] => decide (0 ≤ t) && (decide (t ≤ b) && (decide (1 ≤ b) && (decide (b ≤ 100) && decide (Int.gcd t b = 1))))
  | _ => false
def tieB (n : Int) : PyData → Bool
  | .tuple [.int a, .int b, c, w] => decide (0 ≤ a) && (decide (a < b) && (decide (b ≤ n - 1) && (chB c && isNin 0 1000 w)))
  | _ => false
def webB : PyData → Bool
  | .tuple [.int n, .tuple ts, .tuple ps, k] => isNin 0 12 (.int n) && (isNin 0 40 k && (decide (ts.length ≤ 16) && (((ps.length : Int) == n) && (ts.all (tieB n) && ps.all (isNin 0 20)))))
  | _ => false
def tiesB (n : Int) : PyData → Bool
  | .tuple ts => decide (ts.length ≤ 16) && ts.all (tieB n)
  | _ => false
def patB (n : Int) : PyData → Bool
  | .tuple ps => ((ps.length : Int) == n) && ps.all (isNin 0 20)
  | _ => false
theorem row2 {d : PyData} (h : rowB 2 d = true) : ∃ x y, d = .tuple [x, y] := by
  cases d with
  | tuple ds =>
    rcases ds with _ | ⟨x, _ | ⟨y, _ | ⟨z, r⟩⟩⟩
    · simp [rowB] at h
    · simp [rowB] at h
    · exact ⟨x, y, rfl⟩
    · simp [rowB] at h; omega
  | _ => simp [rowB] at h
theorem row4 {d : PyData} (h : rowB 4 d = true) : ∃ x y z w, d = .tuple [x, y, z, w] := by
  cases d with
  | tuple ds =>
    rcases ds with _ | ⟨x, _ | ⟨y, _ | ⟨z, _ | ⟨w, _ | ⟨v, r⟩⟩⟩⟩⟩
    · simp [rowB] at h
    · simp [rowB] at h
    · simp [rowB] at h
    · simp [rowB] at h
    · exact ⟨x, y, z, w, rfl⟩
    · simp [rowB] at h; omega
  | _ => simp [rowB] at h
theorem isN_int {d : PyData} (h : isN d = true) : ∃ i, d = .int i := by
  cases d with
  | int i => exact ⟨i, rfl⟩
  | _ => simp [isN] at h
theorem isNin_int {lo hi : Int} {d : PyData} (h : isNin lo hi d = true) : ∃ i, d = .int i ∧ lo ≤ i ∧ i ≤ hi := by
  cases d with
  | int i => exact ⟨i, rfl, by simpa [isNin] using h⟩
  | _ => simp [isNin] at h
theorem gEq_pair {e : En} {a b c d : Int} : gEqD false e (.d (.tuple [.int a, .int b])) (.d (.tuple [.int c, .int d])) = some (.d (.bool (a == c && b == d))) := by
  unfold gEqD
  have h0 : ∀ x y : Int, SeqAt.shaped (.tuple [.int x, .int y]) = true := fun x y => by simp [SeqAt.shaped, PyData.canLay0, PyData.canLayAll0, PyData.depth, PyData.depthAll]
  simp only [dataR, Option.bind_some, h0, Bool.and_self, if_true]
  simp [PyData.eqv, PyData.eqvAll]
theorem bt_log {b : Int} (h : b.natAbs.log2 < 1920) (h0 : b ≠ 0) : Bt 4000 b := Bt.mono (m := 1920) ((Nat.log2_lt (by omega)).mp h) (by decide)
theorem low_iff {t b : Int} (hb : 0 < b) : ((lowM t b).1 == t && (lowM t b).2 == b) = decide (Int.gcd t b = 1) := by
  rw [Bool.eq_iff_iff]
  simp only [Bool.and_eq_true, beq_iff_eq, decide_eq_true_eq]
  constructor
  · rintro ⟨h1, h2⟩
    have := lowM_gcd (t := t) (b := b) (by omega)
    rwa [h1, h2] at this
  · intro h
    unfold lowM
    rw [if_neg (by omega), h]
    simp
theorem all_show {ds : List PyData} (h : PyData.showableAll ds = true) : ∀ d ∈ ds, d.showable = true := fun d hd => by
  induction ds with
  | nil => cases hd
  | cons x r ih =>
    simp only [PyData.showableAll, Bool.and_eq_true] at h
    rcases List.mem_cons.mp hd with rfl | hd
    · exact h.1
    · exact ih h.2 hd
theorem chB_fr (d : PyData) : chB d = true → frB d = true := by
  intro h
  unfold chB at h
  split at h
  · simp only [Bool.and_eq_true, decide_eq_true_eq] at h
    simp only [frB, Bool.and_eq_true, decide_eq_true_eq]
    exact ⟨h.2.2.1, h.2.2.2.2⟩
  · cases h
end L2

set_option Elab.async false
set_option linter.all false
set_option maxRecDepth 100000
set_option maxHeartbeats 4000000
namespace L2
open PySem PySem.Spec PyProof.Rows
/-! ### a tuple of any length, twice or more -/
section
variable {X : Cx} {K : PySem.W.Frag}
variable {a b : Expr} {fa fb : FE} {pos : Pos}
end
end L2

set_option Elab.async false
set_option linter.all false
set_option maxRecDepth 100000
set_option maxHeartbeats 4000000
namespace L2
open PySem PySem.Spec PyProof.Rows
/-! ### texts of rows of numbers are the rows' own -/
def tx (s : Str) : List Nat := s.cps.toList
end L2

set_option Elab.async false
set_option linter.all false
set_option maxRecDepth 100000
set_option maxHeartbeats 4000000
namespace L2
open PySem PySem.Spec PyProof.Rows
/-! ### the worths of a tree whose links lead to later nodes are the only ones -/
end L2
namespace L2
open PySem PySem.Spec PyProof.Rows
/-! ### renumbered trees: links lead to later nodes -/
def OrdW (T : List Nd) (ws order : List Int) : Prop := ∀ (j : Nat) (w : Int), order[j]? = some w → ∀ l ∈ lks (ndAt T w), l ∈ ws ∨ ∃ j' : Nat, j < j' ∧ order[j']? = some l
theorem OrdW.first {T : List Nd} {ws : List Int} : OrdW T ws [] := fun j w h => by simp at h
theorem OrdW.turn {T : List Nd} {ws ws' order : List Int} {w : Int} (h : OrdW T ws order) (h1 : ∀ v ∈ ws, v = w ∨ v ∈ ws') (h2 : ∀ l ∈ lks (ndAt T w), l ∈ ws') : OrdW T ws' (order ++ [w]) := fun j u hj l hl => by
  by_cases c : j < order.length
  · rw [List.getElem?_append_left c] at hj
    rcases h j u hj l hl with q | ⟨j', a, b⟩
    · rcases h1 l q with rfl | q
      · exact .inr ⟨order.length, c, by simp⟩
      · exact .inl q
    · exact .inr ⟨j', a, by rw [List.getElem?_append_left (List.getElem?_eq_some_iff.mp b).1]; exact b⟩
  · have hj' := (List.getElem?_eq_some_iff.mp hj).1
    simp at hj'
    have : j = order.length := by omega
    subst this
    simp at hj
    subst hj
    exact .inl (h2 l hl)
def NumGe (order nums : List Int) (i : Nat) : Prop := ∀ (j : Nat) (l : Int), j < i → order[j]? = some l → (j : Int) ≤ nums.getD l.toNat (-1)
theorem NumGe.first {order nums : List Int} : NumGe order nums 0 := fun j l h => by omega
theorem NumGe.set {order nums : List Int} {i : Nat} {w : Int} (h : NumGe order nums i) (hw : order[i]? = some w) (hl : w.toNat < nums.length) : NumGe order (nums.set w.toNat (i : Int)) (i + 1) := fun j l hj e => by
  rw [List.getD_eq_getElem?_getD]
  by_cases c : w.toNat = l.toNat
  · rw [← c, List.getElem?_set_self hl]
    show (j : Int) ≤ (i : Int)
    omega
  · rw [List.getElem?_set_ne c]
    by_cases d : j < i
    · have := h j l d e
      rwa [List.getD_eq_getElem?_getD] at this
    · have : j = i := by omega
      subst this
      rw [hw] at e
      cases e
      exact absurd rfl c
end L2

set_option Elab.async false
set_option linter.all false
set_option maxRecDepth 100000
set_option maxHeartbeats 4000000
namespace L2
open PySem PySem.Spec PyProof.Rows
/-! ### reversed, of a tuple -/
theorem owner_rvt : Manifest.owners.lookup (String.ofList ['d', 'e', 's', 'r', 'e', 'v', 'e', 'r'].reverse) = some Manifest.sig_reversed := by kernel_rfl
theorem slot_rvt_next : Slot "reversed" "__next__" "reversed.__next__" :=
  .of (owner := "reversed") (n := "__next__") (by rw [typeLookup_type, builtinLookup_eq_fast]; kernel_rfl) (by decide +kernel) (by decide +kernel) (by decide +kernel)
    (by first | exact .inl (by decide +kernel) | exact .inr (by decide +kernel)) (by rw [isSubtype_type]; kernel_rfl)
theorem entry_rvt_next : entryFor table "reversed.__next__" = some Builtin.«reversed.__next__» := entryFor_of_tree (by kernel_rfl)
theorem args_rvt_next (a : Value) : argsOk "reversed.__next__" ⟨[a], []⟩ := by
  unfold argsOk; rw [signature?_of (id := "reversed.__next__") (n := ['_', '_', 't', 'x', 'e', 'n', '_', '_']) (o := ['d', 'e', 's', 'r', 'e', 'v', 'e', 'r']) (by kernel_rfl) owner_rvt]; kernel_rfl
theorem slot_rvt_iter : Slot "reversed" "__iter__" "reversed.__iter__" :=
  .of (owner := "reversed") (n := "__iter__") (by rw [typeLookup_type, builtinLookup_eq_fast]; kernel_rfl) (by decide +kernel) (by decide +kernel) (by decide +kernel)
    (by first | exact .inl (by decide +kernel) | exact .inr (by decide +kernel)) (by rw [isSubtype_type]; kernel_rfl)
theorem args_rvt_iter (a : Value) : argsOk "reversed.__iter__" ⟨[a], []⟩ := by
  unfold argsOk; rw [signature?_of (id := "reversed.__iter__") (n := ['_', '_', 'r', 'e', 't', 'i', '_', '_']) (o := ['d', 'e', 's', 'r', 'e', 'v', 'e', 'r']) (by kernel_rfl) owner_rvt]; kernel_rfl
theorem entry_rvt_iter : entryFor table "reversed.__iter__" = some Builtin.«dict_keyiterator.__iter__» :=
  entryFor_alias (id' := "dict_keyiterator.__iter__") (by kernel_rfl) (by first | rfl | decide +kernel | (unfold String.splitOn; simp +decide [String.splitOnAux])) (by decide +kernel) (by kernel_rfl)
theorem slot_rvt_init : Slot "reversed" "__init__" "object.__init__" :=
  .of (owner := "object") (n := "__init__") (by rw [typeLookup_type, builtinLookup_eq_fast]; kernel_rfl) (by decide +kernel) (by decide +kernel) (by decide +kernel)
    (by first | exact .inl (by decide +kernel) | exact .inr (by decide +kernel)) (by rw [isSubtype_type]; kernel_rfl)
theorem called_rvt : TypeCalled "reversed" "reversed.__new__" "object.__init__" :=
  ⟨by decide +kernel, by decide +kernel, ⟨_, _, F.mro_reversed⟩, madeBy_type F.mro_reversed F.lookup_reversed_new (by decide +kernel), by decide +kernel, by rw [isSubtype_type]; kernel_rfl, slot_rvt_init⟩
theorem no_rev_tuple : typeLookup (.type "tuple") "__reversed__" = pure none := by rw [typeLookup_type, builtinLookup_eq_fast]; kernel_rfl
theorem sub_tuple_dict : isSubtype (.type "tuple") (.type "dict") = pure false := by rw [isSubtype_type]; kernel_rfl
def rtObj (p : Addr) (i : Int) : Obj := { cls := .type "reversed", data := .fields #[.ref p, rawInt i] }
def IsRT (h : Heap) (a p : Addr) (i : Int) : Prop := ∃ o, h.get? a = some o ∧ o.cls = .type "reversed" ∧ o.data = .fields #[.ref p, rawInt i]
theorem rt_new (p : Addr) (xs : Array Value) (hz : xs.size ≤ 100000000) :
    Meets (Builtin.«reversed.__new__» ⟨[.type "reversed", .ref p], []⟩) (fun _ R s => s.heap.IsTuple p xs ∧ R (.ok (.ret (.ref s.heap.objs.size))) { s with heap := s.heap.push (rtObj p ((xs.size : Int) - 1)), toks := s.toks + 1 + 1 }) :=
  .of_wp fun prog w A R s h => by
    obtain ⟨ht, h⟩ := h
    have T1 : s.TypeIs (.ref p) "tuple" := by obtain ⟨o, ho, hc, _⟩ := ht; exact ⟨o, ho, hc⟩
    obtain ⟨o, ho, hc, n, hd⟩ := id ht
    unfold Builtin.«reversed.__new__»
    refine wpAny_bind (wpAny_of_eq (newClass_reversed _) ?_)
    try dsimp only
    refine wpAny_bind (wpAny_of_eq (a := ()) (by first | rfl | kernel_rfl) ?_)
    refine wpAny_bind (wpAny_of_eq (a := ()) (by first | rfl | kernel_rfl) ?_)
    try dsimp only
    refine wpAny_bind (wpAny_specialOf T1 no_rev_tuple ?_)
    try dsimp only
    refine wpAny_bind (show wpAny _ _ (isInstance (.ref p) (.type "dict") >>= _) _ _ _ from wpAny_bind (wpAny_isInstance T1 sub_tuple_dict ?_))
    show wpAny _ _ (specialOf (.ref p) "__getitem__" >>= _) _ _ _
    refine wpAny_bind (wpAny_specialOf T1 slot_tuple_getitem.lookup ?_)
    dsimp only
    refine (show wpAny _ _ (pure true) _ _ _ from wpAny_pure ?_)
    simp only [Bool.not_true, Bool.false_eq_true, if_false]
    refine wpAny_bind (len_tuple (items := xs) ht (by omega) ?_)
    refine wpAny_bind (wpAny_of_eq (a := some (xs.size : Int)) rfl ?_)
    dsimp only
    refine wpAny_bind (show wpAny _ _ (newObj (.type "reversed") (.fields #[.ref p, rawInt ((xs.size : Int) - 1)])) _ _ _ from wpAny_newObj_type ?_)
    exact wpAny_pure ⟨_, rfl, h⟩
theorem seqIx {i n : Nat} (h : i < n) : seqIndex? (i : Int) n = some i := by
  unfold seqIndex?
  have e : ¬ ((i : Int) < 0) := by omega
  simp [h, e]
section
variable {prog : Program} {w : World} {A : Around} {E : Value → Shared → Prop} {s : Shared}
theorem rt_call {p : Addr} {xs : Array Value} {Q : Value → Shared → Prop} (hz : xs.size ≤ 100000000) (t1 : s.heap.IsTuple p xs) (h : Q (.ref s.heap.objs.size) { s with heap := s.heap.push (rtObj p ((xs.size : Int) - 1)), toks := s.toks + 1 + 1 }) : wpAny (model prog w) A (call (.type "reversed") [.ref p]) Q E s :=
  callType_new called_rvt (by decide) (F.typeCall_reversed_1 _) (F.newCall_reversed_1 _) (fun obj => F.args_object_init_2 obj _) F.entry_reversed_new (rt_new p xs hz) ⟨t1, ⟨_, Heap.get?_push_size _ rfl, rfl⟩, h⟩
theorem rt_self {it p : Addr} {i : Int} {Q : Value → Shared → Prop} (hit : IsRT s.heap it p i) (h : Q (.ref it) s) : wpAny (model prog w) A (pyIter (.ref it)) Q E s := by
  have hT : s.TypeIs (.ref it) "reversed" := let ⟨o, ho, hc, _⟩ := hit; ⟨o, ho, hc⟩
  refine wpAny_pyIter_slot hT slot_rvt_iter (wpAny_call_entry slot_rvt_iter hT entry_rvt_iter ?_ (args_rvt_iter _))
  show wpAny _ _ (ret (.ref it)) _ _ s
  exact wpAny_pure ⟨_, rfl, "reversed", _, hT, slot_rvt_next.lookup, h⟩
theorem rt_item {it p : Addr} {i : Nat} {xs : Array Value} {x : Value} {Q : Option Value → Shared → Prop} (hz : xs.size ≤ 100000000) (hit : IsRT s.heap it p (i : Int)) (ht : s.heap.IsTuple p xs) (hx : xs[i]? = some x)
    (hQ : ∀ h' tk, IsRT h' it p ((i : Int) - 1) → Heap.SameBut it s.heap h' → Q (some x) { s with heap := h', toks := tk }) : wpAny (model prog w) A (pyNext (.ref it)) Q E s := by
  obtain ⟨o, ho, hc, hd⟩ := id hit
  have hT : s.TypeIs (.ref it) "reversed" := ⟨o, ho, hc⟩
  have T1 : s.TypeIs (.ref p) "tuple" := by obtain ⟨o, ho, hc, _⟩ := ht; exact ⟨o, ho, hc⟩
  have hi : i < xs.size := (Array.getElem?_eq_some_iff.mp hx).1
  unfold pyNext
  refine wpAny_bind (wpAny_attempt (wpAny_callSpecial?_slot (name := Str.ofString "__next__") hT slot_rvt_next (wpAny_call_entry slot_rvt_next hT entry_rvt_next ?_ (args_rvt_next _))))
  unfold Builtin.«reversed.__next__»
  refine wpAny_bind (wpAny_of_eq (a := (Value.ref it, [])) rfl ?_)
  try dsimp only
  refine wpAny_bind (wpAny_field ho hd (x := .ref p) rfl ?_)
  refine wpAny_bind (wpAny_field ho hd (x := rawInt (i : Int)) rfl ?_)
  show wpAny _ _ (if (i : Int) < 0 then _ else _) _ _ s
  rw [if_neg (by omega)]
  refine wpAny_bind (wpAny_specialOf T1 slot_tuple_getitem.lookup ?_)
  simp only [Option.isNone_some, Bool.false_eq_true, if_false]
  refine wpAny_bind (wpAny_mkInt ?_)
  refine wpAny_bind (wpAny_attempt (getItem_tuple (items := xs) (j := i) (x := x) ht (by omega) (by omega) (seqIx (by omega)) hx ?_))
  dsimp only
  refine wpAny_bind (wpAny_field ho hd (x := rawInt (i : Int)) rfl ?_)
  refine (show wpAny _ _ (setField (.ref it) 1 (rawInt ((i : Int) - 1)) >>= _) _ _ _ from ?_)
  refine wpAny_bind (wpAny_setField ho hd (by simp) ?_)
  refine wpAny_pure ⟨x, rfl, wpAny_pure (hQ _ _ ?_ (Heap.SameBut.update ..))⟩
  exact ⟨_, Heap.get?_update_self _ ho (Obj.isFreed_of_fields (Obj.data_mapFields hd _)), (Obj.cls_mapFields ..).trans hc, by rw [Obj.data_mapFields hd]; simp⟩
theorem rt_end {it p : Addr} {Q : Option Value → Shared → Prop} (hh : A.handled = none) (hit : IsRT s.heap it p (-1))
    (hQ : ∀ h', Heap.ExtBut it s.heap h' → Q none { s with heap := h' }) : wpAny (model prog w) A (pyNext (.ref it)) Q E s := by
  obtain ⟨o, ho, hc, hd⟩ := id hit
  have hT : s.TypeIs (.ref it) "reversed" := ⟨o, ho, hc⟩
  unfold pyNext
  refine wpAny_bind (wpAny_attempt (wpAny_callSpecial?_slot (name := Str.ofString "__next__") hT slot_rvt_next (wpAny_call_entry slot_rvt_next hT entry_rvt_next ?_ (args_rvt_next _))))
  unfold Builtin.«reversed.__next__»
  refine wpAny_bind (wpAny_of_eq (a := (Value.ref it, [])) rfl ?_)
  try dsimp only
  refine wpAny_bind (wpAny_field ho hd (x := .ref p) rfl ?_)
  refine wpAny_bind (wpAny_field ho hd (x := rawInt (-1)) rfl ?_)
  show wpAny _ _ (if (-1 : Int) < 0 then _ else _) _ _ s
  rw [if_pos (by decide)]
  refine wpAny_bind (wpAny_rule ?_)
  refine wpAny_bind (show wpAny _ _ (setField (.ref it) 1 (rawInt (-1)) >>= fun _ => setField (.ref it) 0 .none) _ _ _ from wpAny_bind (wpAny_setField ho hd (by simp) ?_))
  have ho1 := Heap.get?_update_self (Obj.mapFields fun x => x.setIfInBounds 1 (rawInt (-1))) ho (Obj.isFreed_of_fields (Obj.data_mapFields hd _))
  have hd1 := Obj.data_mapFields hd fun x => x.setIfInBounds 1 (rawInt (-1))
  have k1 : Heap.SameBut it s.heap (s.heap.update it (Obj.mapFields fun x => x.setIfInBounds 1 (rawInt (-1)))) := Heap.SameBut.update ..
  generalize s.heap.update it (Obj.mapFields fun x => x.setIfInBounds 1 (rawInt (-1))) = g1 at *
  refine wpAny_setField (s := { s with heap := g1 }) ho1 hd1 (by simp) ?_
  have k2 : Heap.SameBut it g1 (g1.update it (Obj.mapFields fun x => x.setIfInBounds 0 .none)) := Heap.SameBut.update ..
  show wpAny _ _ _ _ _ { s with heap := g1.update it (Obj.mapFields fun x => x.setIfInBounds 0 .none) }
  generalize g1.update it (Obj.mapFields fun x => x.setIfInBounds 0 .none) = g2 at *
  have kk : Heap.ExtBut it s.heap g2 := fun b o hb e => k2.extBut b o hb (k1.extBut b o hb e)
  refine wpAny_bind ?_
  show wpAny _ _ (newExc (.type "StopIteration") [] >>= _) _ _ _
  refine wpAny_bind ?_
  simp only [newExc, newTuple]
  refine wpAny_bind (wpAny_newObj_type ?_ (by size_fits))
  refine wpAny_bind (m := firstArgMember _ _) (wpAny_of_eq (a := Value.none) (by first | rfl | (simp only [firstArgMember]; rfl)) ?_)
  refine wpAny_newObj_type ?_ (by size_fits)
  simp only [raiseNew]
  refine wpAny_bind (wpAny_handled ?_)
  first | rw [show A.in1.handled = none from hh] | rw [hh]
  refine wpAny_bind (wpAny_pure (wpAny_throw ?_))
  refine wpAny_bind (wpAny_isInstance (T := "StopIteration") (b := true) ⟨_, Heap.get?_push_size _ rfl, rfl⟩ isSubtype_stop ?_)
  exact wpAny_pure (hQ _ ((kk.push _).push _))
end
/-- walked backwards -/
def ItR (K : PySem.W.Frag) (a : Addr) (n : Nat) : It := ⟨fun i H => ∃ xs x, SqT K H a xs ∧ xs.length = n ∧ xs.reverse[i]? = some x, fun i H x H' => H' = H ∧ ∀ xs, SqT K H a xs → xs.reverse[i]? = some x, fun i _ => n ≤ i⟩
theorem turn_tupR {P : Program} {w : World} {K : PySem.W.Frag} {tg : Expr} (a it : Addr) (n : Nat) : Turn P w K tg (ItR K a n) [it] it (fun i h => i ≤ n ∧ IsRT h it a ((n : Int) - 1 - (i : Int))) where
  mem := by simp
  obj := fun i h st b hb => by
    have e : b = it := by simpa using hb
    subst e
    obtain ⟨_, o, e, c, d⟩ := st
    exact ⟨o, e, fun v z => by rw [d] at z; cases z⟩
  keep := fun i h h' st k => by
    obtain ⟨l, o, e, c, d⟩ := st
    exact ⟨l, o, k it (by simp) o e, c, d⟩
  item := by
    intro X hP hw hK hc i pins s σ H E I hf st hg
    subst hP hw hK
    obtain ⟨xs, x, hq, hn, hx⟩ := hg
    obtain ⟨its, rv, p, hz⟩ := I.tuple hq
    have hl := rv.length
    have sl : sizeLine = 16777216 := sizeLine_eq
    have hi : i < xs.length := by
      have := (List.getElem?_eq_some_iff.mp hx).1
      simpa using this
    have hx' : xs[xs.length - 1 - i]? = some x := by rw [← List.getElem?_reverse hi]; exact hx
    obtain ⟨u, hu, ru⟩ := rv.get hx'
    obtain ⟨f0, f1, f2, f3, f4, f5⟩ := hf it (by simp)
    have e1 : ((n : Int) - 1 - (i : Int)) = ((xs.length - 1 - i : Nat) : Int) := by omega
    obtain ⟨_, st⟩ := st
    rw [e1] at st
    refine rt_item (xs := its.toArray) (by simp only [List.size_toArray]; omega) st (show s.heap.IsTuple a its.toArray from p) (x := u) (by simpa using hu) fun h' tk st' sb => ?_
    have I1 : Inv X pins σ H { s with heap := h', toks := tk } := I.turned (t' := tk) (fun b o hb e => (sb.2 b hb).trans e) f0 f1 f3 f4 f5
    obtain ⟨o, e, c, d⟩ := id st'
    refine ⟨u, rfl, go_of (s := { s with heap := h', toks := tk }) e c d (by decide) ⟨x, H, I1, ru, ⟨rfl, fun ys hy => by rw [I.tuple_inj hy hq]; exact hx⟩, ⟨by omega, ?_⟩, fun b hb => (hf b hb).1⟩⟩
    rw [show ((n : Int) - 1 - ((i + 1 : Nat) : Int)) = ((xs.length - 1 - i : Nat) : Int) - 1 by omega]
    exact st'
  done := by
    intro X hP hw hK hc i pins s σ H E I hf st hg
    subst hP hw hK
    obtain ⟨f0, f1, f2, f3, f4, f5⟩ := hf it (by simp)
    have hg' : n ≤ i := hg
    obtain ⟨l, st⟩ := st
    rw [show ((n : Int) - 1 - (i : Int)) = -1 by omega] at st
    exact rt_end (I.ok.hd hc) st fun h' eb => ⟨rfl, I.turned (t' := s.toks) (fun b o hb e => eb b o hb e) f0 f1 f3 f4 f5⟩
  self := fun _ _ _ _ _ st h => rt_self st.2 h
section
variable {X : Cx} {tg a : Expr} {ta : TA} {p pos : Pos}
def iRevT (K : PySem.W.Frag) (ta : TA) : TI := fun σ H R => ta σ H fun vs H1 => ∃ a xs, vs = [.ref a] ∧ SqT K H1 a xs ∧ R (ItR K a xs.length) H1
theorem pi_revT (hg : Gl X "reversed") (hm : X.mg "reversed" = none) (ha : PA X [a] ta) (hs : starEach [a] X.env = [(false, eval a X.env)]) : PI X tg (.Call (.Name "reversed" p) [a] [] pos) (iRevT X.K ta) := by
  intro pins s σ H R I h
  refine Call_ (ld_blt I hg hm boot_reversed (PyProof.Rows.callWith_type1 (thn (ha pos pins s σ H _ I h) fun us s1 ⟨vs, H1, I1, r1, q1⟩ => ?_) hs rfl))
  obtain ⟨a, xs, e, qx, q⟩ := q1
  subst e
  obtain ⟨u, rfl, ru⟩ := one_of r1
  cases ru
  obtain ⟨its, rv, p1, hz⟩ := I1.tuple qx
  have hl := rv.length
  have sl : sizeLine = 16777216 := sizeLine_eq
  refine rt_call (xs := its.toArray) (by simp only [List.size_toArray]; omega) (show s1.heap.IsTuple a its.toArray from p1) ?_
  have hI : IsRT (s1.heap.push (rtObj a ((its.toArray.size : Int) - 1))) s1.heap.objs.size a ((xs.length : Int) - 1 - ((0 : Nat) : Int)) := ⟨_, Heap.get?_push_size _ rfl, rfl, by simp only [rtObj, List.size_toArray, hl]; simp⟩
  refine rt_self (s := { s1 with heap := s1.heap.push (rtObj a ((its.toArray.size : Int) - 1)), toks := s1.toks + 1 + 1 }) hI ?_
  refine ⟨s1.heap.objs.size, [s1.heap.objs.size], _, _, H1, rfl, I1.kept (t' := s1.toks + 1 + 1) fun b o e => Heap.get?_push_of_some _ e, turn_tupR a _ xs.length, ⟨Nat.zero_le _, hI⟩, fun b hb => ?_, q⟩
  have e : b = s1.heap.objs.size := by simpa using hb
  subst e
  exact I1.fpOk (Nat.le_refl _) (I1.hok.fresh (Nat.le_refl _))
end
section
variable {X : Cx} {K : PySem.W.Frag} {σ : L2.St} {tg a : Expr} {fs : FA} {p pos : Pos}
theorem itOk_revT {p : Addr} {xs : List PyData} {n : Nat} (hn : xs.length = n) {own : OwnW} {F0 : Hp} (h : Src K σ F0 p false xs own) : ItOk K σ (ItR K p n) xs.reverse own F0 := by
  intro F H s0 s1 hh
  obtain ⟨vs, d, q⟩ := h.at s0 s1 hh fun _ h => h
  have q : SqT K H p vs := q
  have dl := d.len
  rw [List.length_reverse]
  refine ⟨fun i hi => ⟨vs, vs.reverse[i]'(by rw [List.length_reverse]; omega), q, by omega, List.getElem?_eq_getElem _⟩, fun i hi => (by show n ≤ i; omega), fun i x v H' hx hy => ?_⟩
  obtain ⟨rfl, hy⟩ := hy
  have hi : i < xs.length := by
    have := (List.getElem?_eq_some_iff.mp hx).1
    simpa using this
  rw [List.getElem?_reverse hi] at hx
  obtain ⟨w, g1, g2⟩ := d.get hx
  have e := hy vs q
  rw [List.getElem?_reverse (by omega), ← dl, g1] at e; cases e
  exact ⟨F, Same.refl _, Same.refl _, s1, fun _ h _ => h, g2⟩
def iRvT (fs : FA) : FI := fun e => (fs e).bind fun p => match p.1 with
  | [.d (.tuple xs)] => some (xs.reverse, [], p.2)
  | _ => none
theorem qi_revT (hK : X.K = K) (hg : Gl X "reversed") (hm : X.mg "reversed" = none) (ha : PA X [a] (fA K fs)) (hs : starEach [a] X.env = [(false, eval a X.env)]) : PI X tg (.Call (.Name "reversed" p) [a] [] pos) (fI K (iRvT fs)) := by
  subst hK
  refine (pi_revT (tg := tg) (p := p) (pos := pos) hg hm ha hs).mono fun σ H R hh => ?_
  obtain ⟨F, e, items, own, e', R0, hf, q⟩ := hh
  unfold iRvT at hf
  obtain ⟨⟨rs, e1⟩, h1, hf⟩ := Option.bind_eq_some_iff.mp hf
  match rs, h1, hf with
  | [.d (.tuple xs)], h1, hf =>
  cases hf
  refine ⟨F, e, _, e1, R0, h1, fun F1 H1 vs X1 R1 A1 => ?_⟩
  obtain ⟨v, rfl, A2⟩ := rvs_one A1
  obtain ⟨p1, vs, rfl, s1, d1⟩ := da_tup.mp (show DA X.K F1 (.tuple xs) v from A2)
  exact ⟨p1, vs, rfl, R1.sm.tup s1, q _ F1 H1 X1 R1 (fun z hz => by cases hz) (itOk_revT d1.len (.tup s1 d1))⟩
end
end L2

--
set_option Elab.async false
set_option linter.all false
set_option maxRecDepth 100000
set_option maxHeartbeats 4000000
namespace V78
open PySem PySem.Spec PyProof.Rows L2
def top (i : Nat) : Stmt := PySem.Challenge.pw_askedpairs_k78_ties_left_out.main.body.getD i (.Pass ⟨0, 0, 0, 0⟩)
theorem ev_mn {α : Type u} {β : Type v} {f : α → β} : List.map f [] = [] := rfl
theorem ev_mc {α : Type u} {β : Type v} {f : α → β} {a : α} {l : List α} : List.map f (a :: l) = f a :: List.map f l := rfl
theorem ev_an {α : Type u} {l : List α} : [] ++ l = l := rfl
theorem ev_ac {α : Type u} {a : α} {l m : List α} : (a :: l) ++ m = a :: (l ++ m) := rfl
theorem ev_g0 {α : Type u} {a : α} {l : List α} : (a :: l)[0]? = some a := rfl
theorem ev_gs {α : Type u} {a : α} {l : List α} {i : Nat} : (a :: l)[i + 1]? = l[i]? := rfl
theorem ev_bs {α : Type u} {β : Type v} {a : α} {f : α → Option β} : Option.bind (some a) f = f a := rfl
theorem ev_ms {α : Type u} {β : Type v} {a : α} {f : α → β} : Option.map f (some a) = some (f a) := rfl
abbrev s_common_divisor : Stmt := top 1
abbrev s_lowest : Stmt := top 2
abbrev s_is_number : Stmt := top 4
abbrev s_is_number_within : Stmt := top 5
abbrev s_is_row_of : Stmt := top 6
abbrev s_is_fraction : Stmt := top 7
abbrev s_is_chance : Stmt := top 15
abbrev s_is_tie_row : Stmt := top 16
abbrev s_is_ties : Stmt := top 17
abbrev s_is_patience : Stmt := top 18
abbrev s_is_web : Stmt := top 19
abbrev s_left_out : Stmt := top 21
abbrev s_law_mixed : Stmt := top 23
abbrev s_law_draws : Stmt := top 24
abbrev s_law_next : Stmt := top 25
abbrev s_law_gcd : Stmt := top 26
abbrev s_law_low : Stmt := top 27
abbrev s_law_same : Stmt := top 28
abbrev s_law_chance : Stmt := top 29
abbrev s_law_worth : Stmt := top 30
abbrev s_law_ties : Stmt := top 31
abbrev s_law_web : Stmt := top 32
abbrev s_law_right : Stmt := top 33
abbrev s_law : Stmt := top 34
structure Txt (mg : Str → Option Value) : Prop where
  b_abs : mg "abs" = none
  b_len : mg "len" = none
  b_min : mg "min" = none
  b_max : mg "max" = none
  b_range : mg "range" = none
  b_repr : mg "repr" = none
  b_tuple : mg "tuple" = none
  b_int : mg "int" = none
  b_enumerate : mg "enumerate" = none
  b_isinstance : mg "isinstance" = none
  b_bool : mg "bool" = none
  b_all : mg "all" = none
  b_reversed : mg "reversed" = none
noncomputable def c_common_divisor_1 : FT := (vTest (vOp (gEqD true) (vVar 1) (vC (.int 0))))
noncomputable def b_common_divisor_2 : FS := (sPar 0 1 (vCons (vVar 1) (vCons (vOp gMod (vVar 0) (vVar 1)) vNil)))
noncomputable def b_common_divisor : FS := (sSeq (sWhile (2 ^ 4200) c_common_divisor_1 b_common_divisor_2)
    (sRet (vCall (g1 gAbs) (vCons (vVar 0) vNil))))
noncomputable def m_common_divisor : FM := mOf 2 0 ([0, 1] ++ []) b_common_divisor
theorem sc_common_divisor : FnScope ["one", "other"] ["one", "other"] (defScope s_common_divisor) := ⟨rfl, rfl, rfl, by decide +kernel, rfl, by decide +kernel, by decide +kernel⟩
theorem ok_common_divisor {P : Program} {w : World} {K : PySem.W.Frag} {mg : Str → Option Value} {base : Heap} {f : Addr} {fd : FuncData} (h : Has K mg "common_divisor" s_common_divisor f fd ["one", "other"]) (T : Txt mg)  : FnOk P w K mg base CX0 1 f fd ["one", "other"] (spM K 2 m_common_divisor) := by
  have nd := sc_common_divisor.nd
  exact h.fn sc_common_divisor rfl rfl (fun cdv A outer s H E hr => (@qss_cons _ _ _ _ _ _ _ _ (@qs_while _ _ _ _ _ _ _ _ _ PassesOwn.never (@q_tcmp _ _ _ _ _ _ _ _ _ (@c_ne _ _ _ rfl hr) (@qw _ _ 1 _ _ (by rfl) (by rfl) (by decide) (by decide)) (@qe_int _ _ _ _ _) (nomark _))
      (@qss_one _ _ _ _ _ (@qs_par _ _ _ _ _ 0 1 _ _ _ _ _ _ _ _ _ rfl nd rfl rfl (by decide) rfl rfl (@qa_k _ _ _ _ _ _ (@qw _ _ 1 _ _ (by rfl) (by rfl) (by decide) (by decide)) (@qa_k _ _ _ _ _ _ (@q_mod _ _ _ _ _ _ _ (@qw _ _ 0 _ _ (by rfl) (by rfl) (by decide) (by decide)) (@qw _ _ 1 _ _ (by rfl) (by rfl) (by decide) (by decide))) (@qa_nil _ _) (by rfl)) (by rfl)) (by rfl) (by rfl))))
      (@qss_one _ _ _ _ _ (@qs_ret _ _ _ _ _ (@q_blt _ _ _ _ _ _ _ _ _ (@b_abs _ _) (by rfl) T.b_abs (@qa_k _ _ _ _ _ _ (@qw _ _ 0 _ _ (by rfl) (by rfl) (by decide) (by decide)) (@qa_nil _ _) (by rfl)) (by decide) (by decide) (by rfl) (by rfl))))))
noncomputable def b_lowest : FS := (sSeq (sSet 2 (vFn 2 m_common_divisor (vCons (vVar 0) (vCons (vVar 1) vNil))))
    (sSeq (sIf (vTest (vOp gLt (vVar 1) (vC (.int 0))))
    (sSet 2 (vUn gNeg (vVar 2)))
    sNil)
    (sRet (vTup (vCons (vOp gFdiv (vVar 0) (vVar 2)) (vCons (vOp gFdiv (vVar 1) (vVar 2)) vNil))))))
noncomputable def m_lowest : FM := mOf 2 1 ([2] ++ (([2] ++ []) ++ [])) b_lowest
theorem sc_lowest : FnScope ["top", "bottom", "divisor"] ["top", "bottom"] (defScope s_lowest) := ⟨rfl, rfl, rfl, by decide +kernel, rfl, by decide +kernel, by decide +kernel⟩
theorem ok_lowest {P : Program} {w : World} {K : PySem.W.Frag} {mg : Str → Option Value} {base : Heap} {f : Addr} {fd : FuncData} (h : Has K mg "lowest" s_lowest f fd ["top", "bottom"]) (T : Txt mg) {f_common_divisor : Addr} {e_common_divisor : FuncData} (h_common_divisor : Has K mg "common_divisor" s_common_divisor f_common_divisor e_common_divisor ["one", "other"]) (G_common_divisor : FnOk P w K mg base CX0 1 f_common_divisor e_common_divisor ["one", "other"] (spM K 2 m_common_divisor)) : FnOk P w K mg base CX0 2 f fd ["top", "bottom"] (spM K 2 m_lowest) := by
  have nd := sc_lowest.nd
  exact h.fn sc_lowest rfl rfl (fun cdv A outer s H E hr => (@qss_cons _ _ _ _ _ _ _ _ (@qs_set _ _ _ _ _ 2 _ _ nd rfl (Or.inl rfl) (@qe_c _ _ _ _ _ _ _ _ _ _ _ _ _ _ _ h_common_divisor G_common_divisor (hr.mono (by decide)) (@qa_k _ _ _ _ _ _ (@qw _ _ 0 _ _ (by rfl) (by rfl) (by decide) (by decide)) (@qa_k _ _ _ _ _ _ (@qw _ _ 1 _ _ (by rfl) (by rfl) (by decide) (by decide)) (@qa_nil _ _) (by rfl)) (by rfl)) (by rfl) (by decide) (by rfl) (by rfl)) (by rfl) (by first | exact .inl rfl | exact .inr rfl | assumption))
      (@qss_cons _ _ _ _ _ _ _ _ (@qs_if _ _ _ _ _ _ _ _ _ _ _ (@q_tcmp _ _ _ _ _ _ _ _ _ (@c_lt _ _) (@qw _ _ 1 _ _ (by rfl) (by rfl) (by decide) (by decide)) (@qe_int _ _ _ _ _) (nomark _))
      (@qss_one _ _ _ _ _ (@qs_set _ _ _ _ _ 2 _ _ nd rfl (Or.inl rfl) (@q_neg _ _ _ _ _ (@qw _ _ 2 _ _ (by rfl) (by rfl) (by decide) (by decide))) (by rfl) (by first | exact .inl rfl | exact .inr rfl | assumption)))
      (@qss_nil _ _))
      (@qss_one _ _ _ _ _ (@qs_ret _ _ _ _ _ (@qe_tup _ _ _ _ _ _ (@qa_k _ _ _ _ _ _ (@q_fdiv _ _ _ _ _ _ _ (@qw _ _ 0 _ _ (by rfl) (by rfl) (by decide) (by decide)) (@qw _ _ 2 _ _ (by rfl) (by rfl) (by decide) (by decide))) (@qa_k _ _ _ _ _ _ (@q_fdiv _ _ _ _ _ _ _ (@qw _ _ 1 _ _ (by rfl) (by rfl) (by decide) (by decide)) (@qw _ _ 2 _ _ (by rfl) (by rfl) (by decide) (by decide))) (@qa_nil _ _) (by rfl)) (by rfl))))))))
noncomputable def b_is_number : FS := (sRet (vAndV (vUn (gIsi "int") (vVar 0)) (vNotV (vUn (gIsi "bool") (vVar 0)))))
noncomputable def m_is_number : FM := mOf 1 0 [] b_is_number
theorem sc_is_number : FnScope ["thing"] ["thing"] (defScope s_is_number) := ⟨rfl, rfl, rfl, by decide +kernel, rfl, by decide +kernel, by decide +kernel⟩
theorem ok_is_number {P : Program} {w : World} {K : PySem.W.Frag} {mg : Str → Option Value} {base : Heap} {f : Addr} {fd : FuncData} (h : Has K mg "is_number" s_is_number f fd ["thing"]) (T : Txt mg)  : FnOk P w K mg base CX0 1 f fd ["thing"] (spM K 1 m_is_number) := by
  have nd := sc_is_number.nd
  exact h.fn sc_is_number rfl rfl (fun cdv A outer s H E hr => (@qss_one _ _ _ _ _ (@qs_ret _ _ _ _ _ (@qe_and _ _ _ _ _ _ _ _ (@q_isi _ _ _ _ _ _ _ _ "int" rfl (by decide) rfl T.b_isinstance rfl T.b_int PyProof.Rows.boot_int (by decide) (by decide) (@qw _ _ 0 _ _ (by rfl) (by rfl) (by decide) (by decide)) (by rfl) (by rfl)) (@qe_one _ _ _ _ _ _ (@qe_not _ _ _ _ _ (@q_isi _ _ _ _ _ _ _ _ "bool" rfl (by decide) rfl T.b_isinstance rfl T.b_bool PyProof.Rows.boot_bool (by decide) (by decide) (@qw _ _ 0 _ _ (by rfl) (by rfl) (by decide) (by decide)) (by rfl) (by rfl))))))))
noncomputable def b_is_number_within : FS := (sRet (vAndV (vFn 1 m_is_number (vCons (vVar 0) vNil)) (vChain gLe gLe (vVar 1) (vVar 0) (vVar 2))))
noncomputable def m_is_number_within : FM := mOf 3 0 [] b_is_number_within
theorem sc_is_number_within : FnScope ["thing", "low", "high"] ["thing", "low", "high"] (defScope s_is_number_within) := ⟨rfl, rfl, rfl, by decide +kernel, rfl, by decide +kernel, by decide +kernel⟩
theorem ok_is_number_within {P : Program} {w : World} {K : PySem.W.Frag} {mg : Str → Option Value} {base : Heap} {f : Addr} {fd : FuncData} (h : Has K mg "is_number_within" s_is_number_within f fd ["thing", "low", "high"]) (T : Txt mg) {f_is_number : Addr} {e_is_number : FuncData} (h_is_number : Has K mg "is_number" s_is_number f_is_number e_is_number ["thing"]) (G_is_number : FnOk P w K mg base CX0 1 f_is_number e_is_number ["thing"] (spM K 1 m_is_number)) : FnOk P w K mg base CX0 2 f fd ["thing", "low", "high"] (spM K 3 m_is_number_within) := by
  have nd := sc_is_number_within.nd
  exact h.fn sc_is_number_within rfl rfl (fun cdv A outer s H E hr => (@qss_one _ _ _ _ _ (@qs_ret _ _ _ _ _ (@qe_and _ _ _ _ _ _ _ _ (@qe_c _ _ _ _ _ _ _ _ _ _ _ _ _ _ _ h_is_number G_is_number (hr.mono (by decide)) (@qa_k _ _ _ _ _ _ (@qw _ _ 0 _ _ (by rfl) (by rfl) (by decide) (by decide)) (@qa_nil _ _) (by rfl)) (by rfl) (by decide) (by rfl) (by rfl)) (@qe_one _ _ _ _ _ _ (@q_chain _ _ _ _ _ _ _ _ _ _ _ _ _ (@c_le _ _) (@c_le _ _) (@qw _ _ 1 _ _ (by rfl) (by rfl) (by decide) (by decide)) (@qw _ _ 0 _ _ (by rfl) (by rfl) (by decide) (by decide)) (@qw _ _ 2 _ _ (by rfl) (by rfl) (by decide) (by decide)) (by with_unfolding_all rfl)))))))
noncomputable def b_is_row_of : FS := (sRet (vAndV (vUn (gIsi "tuple") (vVar 0)) (vOp (gEqD false) (vCall (g1 gLen) (vCons (vVar 0) vNil)) (vVar 1))))
noncomputable def m_is_row_of : FM := mOf 2 0 [] b_is_row_of
theorem sc_is_row_of : FnScope ["thing", "many"] ["thing", "many"] (defScope s_is_row_of) := ⟨rfl, rfl, rfl, by decide +kernel, rfl, by decide +kernel, by decide +kernel⟩
theorem ok_is_row_of {P : Program} {w : World} {K : PySem.W.Frag} {mg : Str → Option Value} {base : Heap} {f : Addr} {fd : FuncData} (h : Has K mg "is_row_of" s_is_row_of f fd ["thing", "many"]) (T : Txt mg)  : FnOk P w K mg base CX0 1 f fd ["thing", "many"] (spM K 2 m_is_row_of) := by
  have nd := sc_is_row_of.nd
  exact h.fn sc_is_row_of rfl rfl (fun cdv A outer s H E hr => (@qss_one _ _ _ _ _ (@qs_ret _ _ _ _ _ (@qe_and _ _ _ _ _ _ _ _ (@q_isi _ _ _ _ _ _ _ _ "tuple" rfl (by decide) rfl T.b_isinstance rfl T.b_tuple PyProof.Rows.boot_tuple (by decide) (by decide) (@qw _ _ 0 _ _ (by rfl) (by rfl) (by decide) (by decide)) (by rfl) (by rfl)) (@qe_one _ _ _ _ _ _ (@q_cmp _ _ _ _ _ _ _ _ _ (@c_eq _ _ _ rfl hr) (@q_blt _ _ _ _ _ _ _ _ _ (@b_len _ _ rfl) (by rfl) T.b_len (@qa_k _ _ _ _ _ _ (@qw _ _ 0 _ _ (by rfl) (by rfl) (by decide) (by decide)) (@qa_nil _ _) (by rfl)) (by decide) (by decide) (by rfl) (by rfl)) (@qw _ _ 1 _ _ (by rfl) (by rfl) (by decide) (by decide)) (nomark _)))))))
noncomputable def b_is_fraction : FS := (sSeq (sIf (vNot (vTest (vFn 2 m_is_row_of (vCons (vVar 0) (vCons (vC (.int 2)) vNil)))))
    (sRet (vC (.bool false)))
    sNil)
    (sSeq (sAsg (vVar 0) (gtTup (gtCons (gtName 1) (gtCons (gtName 2) gtNil))))
    (sSeq (sIf (vOr (vNot (vTest (vFn 1 m_is_number (vCons (vVar 1) vNil)))) (vOr (vNot (vTest (vFn 1 m_is_number (vCons (vVar 2) vNil)))) (vTest (vOp gLt (vVar 2) (vC (.int 1))))))
    (sRet (vC (.bool false)))
    sNil)
    (sRet (vOp (gEqD false) (vFn 2 m_lowest (vCons (vVar 1) (vCons (vVar 2) vNil))) (vVar 0))))))
noncomputable def m_is_fraction : FM := mOf 1 2 (([] ++ []) ++ (([1] ++ ([2] ++ [])) ++ (([] ++ []) ++ []))) b_is_fraction
theorem sc_is_fraction : FnScope ["thing", "top", "bottom"] ["thing"] (defScope s_is_fraction) := ⟨rfl, rfl, rfl, by decide +kernel, rfl, by decide +kernel, by decide +kernel⟩
theorem ok_is_fraction {P : Program} {w : World} {K : PySem.W.Frag} {mg : Str → Option Value} {base : Heap} {f : Addr} {fd : FuncData} (h : Has K mg "is_fraction" s_is_fraction f fd ["thing"]) (T : Txt mg) {f_is_row_of : Addr} {e_is_row_of : FuncData} (h_is_row_of : Has K mg "is_row_of" s_is_row_of f_is_row_of e_is_row_of ["thing", "many"]) (G_is_row_of : FnOk P w K mg base CX0 1 f_is_row_of e_is_row_of ["thing", "many"] (spM K 2 m_is_row_of)) {f_lowest : Addr} {e_lowest : FuncData} (h_lowest : Has K mg "lowest" s_lowest f_lowest e_lowest ["top", "bottom"]) (G_lowest : FnOk P w K mg base CX0 2 f_lowest e_lowest ["top", "bottom"] (spM K 2 m_lowest)) {f_is_number : Addr} {e_is_number : FuncData} (h_is_number : Has K mg "is_number" s_is_number f_is_number e_is_number ["thing"]) (G_is_number : FnOk P w K mg base CX0 1 f_is_number e_is_number ["thing"] (spM K 1 m_is_number)) : FnOk P w K mg base CX0 3 f fd ["thing"] (spM K 1 m_is_fraction) := by
  have nd := sc_is_fraction.nd
  exact h.fn sc_is_fraction rfl rfl (fun cdv A outer s H E hr => (@qss_cons _ _ _ _ _ _ _ _ (@qs_if _ _ _ _ _ _ _ _ _ _ _ (@qt_not _ _ _ _ _ (@qt_val _ _ _ _ (@qe_c _ _ _ _ _ _ _ _ _ _ _ _ _ _ _ h_is_row_of G_is_row_of (hr.mono (by decide)) (@qa_k _ _ _ _ _ _ (@qw _ _ 0 _ _ (by rfl) (by rfl) (by decide) (by decide)) (@qa_k _ _ _ _ _ _ (@qe_int _ _ _ _ _) (@qa_nil _ _) (by rfl)) (by rfl)) (by rfl) (by decide) (by rfl) (by rfl)) (by intro _; rfl)))
      (@qss_one _ _ _ _ _ (@qs_ret _ _ _ _ _ (@qe_bl _ _ _ _ _)))
      (@qss_nil _ _))
      (@qss_cons _ _ _ _ _ _ _ _ (@qs_asg _ _ _ _ _ _ _ _ (@qw _ _ 0 _ _ (by rfl) (by rfl) (by decide) (by decide)) (@qg_tup _ _ _ _ _ _ _ _ rfl rfl (@qgs_cons _ _ _ _ _ _ _ _ (@qg_name _ _ _ 1 _ nd rfl (Or.inl rfl) (by first | exact .inl rfl | exact .inr rfl | assumption)) (@qgs_cons _ _ _ _ _ _ _ _ (@qg_name _ _ _ 2 _ nd rfl (Or.inl rfl) (by first | exact .inl rfl | exact .inr rfl | assumption)) (@qgs_nil _ _) (by rfl)) (by rfl)) (gl_cons (gl_cons gl_nil)) (by rfl) (by rfl)) (by rfl) (by rfl) (by rfl))
      (@qss_cons _ _ _ _ _ _ _ _ (@qs_if _ _ _ _ _ _ _ _ _ _ _ (@qt_w _ _ _ _ (@qw_or _ _ _ _ _ _ _ _ (@qt_not _ _ _ _ _ (@qt_val _ _ _ _ (@qe_c _ _ _ _ _ _ _ _ _ _ _ _ _ _ _ h_is_number G_is_number (hr.mono (by decide)) (@qa_k _ _ _ _ _ _ (@qw _ _ 1 _ _ (by rfl) (by rfl) (by decide) (by decide)) (@qa_nil _ _) (by rfl)) (by rfl) (by decide) (by rfl) (by rfl)) (by intro _; rfl))) (@qw_or _ _ _ _ _ _ _ _ (@qt_not _ _ _ _ _ (@qt_val _ _ _ _ (@qe_c _ _ _ _ _ _ _ _ _ _ _ _ _ _ _ h_is_number G_is_number (hr.mono (by decide)) (@qa_k _ _ _ _ _ _ (@qw _ _ 2 _ _ (by rfl) (by rfl) (by decide) (by decide)) (@qa_nil _ _) (by rfl)) (by rfl) (by decide) (by rfl) (by rfl)) (by intro _; rfl))) (@qw_or1 _ _ _ _ _ (@q_tcmp _ _ _ _ _ _ _ _ _ (@c_lt _ _) (@qw _ _ 2 _ _ (by rfl) (by rfl) (by decide) (by decide)) (@qe_int _ _ _ _ _) (nomark _))))))
      (@qss_one _ _ _ _ _ (@qs_ret _ _ _ _ _ (@qe_bl _ _ _ _ _)))
      (@qss_nil _ _))
      (@qss_one _ _ _ _ _ (@qs_ret _ _ _ _ _ (@q_cmp _ _ _ _ _ _ _ _ _ (@c_eq _ _ _ rfl hr) (@qe_c _ _ _ _ _ _ _ _ _ _ _ _ _ _ _ h_lowest G_lowest (hr.mono (by decide)) (@qa_k _ _ _ _ _ _ (@qw _ _ 1 _ _ (by rfl) (by rfl) (by decide) (by decide)) (@qa_k _ _ _ _ _ _ (@qw _ _ 2 _ _ (by rfl) (by rfl) (by decide) (by decide)) (@qa_nil _ _) (by rfl)) (by rfl)) (by rfl) (by decide) (by rfl) (by rfl)) (@qw _ _ 0 _ _ (by rfl) (by rfl) (by decide) (by decide)) (nomark _))))))))
noncomputable def b_is_chance : FS := (sSeq (sIf (vNot (vTest (vFn 1 m_is_fraction (vCons (vVar 0) vNil))))
    (sRet (vC (.bool false)))
    sNil)
    (sSeq (sAsg (vVar 0) (gtTup (gtCons (gtName 1) (gtCons (gtName 2) gtNil))))
    (sRet (vChain3 gLe gLe gLe (vC (.int 0)) (vVar 1) (vVar 2) (vC (.int (100)))))))
noncomputable def m_is_chance : FM := mOf 1 2 (([] ++ []) ++ (([1] ++ ([2] ++ [])) ++ [])) b_is_chance
theorem sc_is_chance : FnScope ["thing", "top", "bottom"] ["thing"] (defScope s_is_chance) := ⟨rfl, rfl, rfl, by decide +kernel, rfl, by decide +kernel, by decide +kernel⟩
theorem ok_is_chance {P : Program} {w : World} {K : PySem.W.Frag} {mg : Str → Option Value} {base : Heap} {f : Addr} {fd : FuncData} (h : Has K mg "is_chance" s_is_chance f fd ["thing"]) (T : Txt mg) {f_is_fraction : Addr} {e_is_fraction : FuncData} (h_is_fraction : Has K mg "is_fraction" s_is_fraction f_is_fraction e_is_fraction ["thing"]) (G_is_fraction : FnOk P w K mg base CX0 3 f_is_fraction e_is_fraction ["thing"] (spM K 1 m_is_fraction)) {t_MOST_BOTTOM : Tok} (m_MOST_BOTTOM : mg "MOST_BOTTOM" = some (.int (100) t_MOST_BOTTOM)) : FnOk P w K mg base CX0 4 f fd ["thing"] (spM K 1 m_is_chance) := by
  have nd := sc_is_chance.nd
  exact h.fn sc_is_chance rfl rfl (fun cdv A outer s H E hr => (@qss_cons _ _ _ _ _ _ _ _ (@qs_if _ _ _ _ _ _ _ _ _ _ _ (@qt_not _ _ _ _ _ (@qt_val _ _ _ _ (@qe_c _ _ _ _ _ _ _ _ _ _ _ _ _ _ _ h_is_fraction G_is_fraction (hr.mono (by decide)) (@qa_k _ _ _ _ _ _ (@qw _ _ 0 _ _ (by rfl) (by rfl) (by decide) (by decide)) (@qa_nil _ _) (by rfl)) (by rfl) (by decide) (by rfl) (by rfl)) (by intro _; rfl)))
      (@qss_one _ _ _ _ _ (@qs_ret _ _ _ _ _ (@qe_bl _ _ _ _ _)))
      (@qss_nil _ _))
      (@qss_cons _ _ _ _ _ _ _ _ (@qs_asg _ _ _ _ _ _ _ _ (@qw _ _ 0 _ _ (by rfl) (by rfl) (by decide) (by decide)) (@qg_tup _ _ _ _ _ _ _ _ rfl rfl (@qgs_cons _ _ _ _ _ _ _ _ (@qg_name _ _ _ 1 _ nd rfl (Or.inl rfl) (by first | exact .inl rfl | exact .inr rfl | assumption)) (@qgs_cons _ _ _ _ _ _ _ _ (@qg_name _ _ _ 2 _ nd rfl (Or.inl rfl) (by first | exact .inl rfl | exact .inr rfl | assumption)) (@qgs_nil _ _) (by rfl)) (by rfl)) (gl_cons (gl_cons gl_nil)) (by rfl) (by rfl)) (by rfl) (by rfl) (by rfl))
      (@qss_one _ _ _ _ _ (@qs_ret _ _ _ _ _ (@q_chain3 _ _ _ _ _ _ _ _ _ _ _ _ _ _ _ _ _ (@c_le _ _) (@c_le _ _) (@c_le _ _) (@qe_int _ _ _ _ _) (@qw _ _ 1 _ _ (by rfl) (by rfl) (by decide) (by decide)) (@qw _ _ 2 _ _ (by rfl) (by rfl) (by decide) (by decide)) (@qe_glob _ _ _ (V.int (100)) _ _ (PyData.int (100)) rfl m_MOST_BOTTOM ⟨_, rfl⟩ (fun _ => da_int.mpr rfl) (by decide)) (by with_unfolding_all rfl)))))))
noncomputable def b_is_tie_row : FS := (sSeq (sIf (vNot (vTest (vFn 2 m_is_row_of (vCons (vVar 0) (vCons (vC (.int 4)) vNil)))))
    (sRet (vC (.bool false)))
    sNil)
    (sSeq (sAsg (vVar 0) (gtTup (gtCons (gtName 2) (gtCons (gtName 3) (gtCons (gtName 4) (gtCons (gtName 5) gtNil))))))
    (sSeq (sIf (vOr (vNot (vTest (vFn 3 m_is_number_within (vCons (vVar 2) (vCons (vC (.int 0)) (vCons (vOp gMinus (vVar 1) (vC (.int 1))) vNil)))))) (vNot (vTest (vFn 3 m_is_number_within (vCons (vVar 3) (vCons (vOp gAdd (vVar 2) (vC (.int 1))) (vCons (vOp gMinus (vVar 1) (vC (.int 1))) vNil)))))))
    (sRet (vC (.bool false)))
    sNil)
    (sRet (vAndV (vFn 1 m_is_chance (vCons (vVar 4) vNil)) (vFn 3 m_is_number_within (vCons (vVar 5) (vCons (vC (.int 0)) (vCons (vC (.int (1000))) vNil)))))))))
noncomputable def m_is_tie_row : FM := mOf 2 4 (([] ++ []) ++ (([2] ++ ([3] ++ ([4] ++ ([5] ++ [])))) ++ (([] ++ []) ++ []))) b_is_tie_row
theorem sc_is_tie_row : FnScope ["thing", "things", "one", "other", "chance", "worth"] ["thing", "things"] (defScope s_is_tie_row) := ⟨rfl, rfl, rfl, by decide +kernel, rfl, by decide +kernel, by decide +kernel⟩
theorem ok_is_tie_row {P : Program} {w : World} {K : PySem.W.Frag} {mg : Str → Option Value} {base : Heap} {f : Addr} {fd : FuncData} (h : Has K mg "is_tie_row" s_is_tie_row f fd ["thing", "things"]) (T : Txt mg) {f_is_row_of : Addr} {e_is_row_of : FuncData} (h_is_row_of : Has K mg "is_row_of" s_is_row_of f_is_row_of e_is_row_of ["thing", "many"]) (G_is_row_of : FnOk P w K mg base CX0 1 f_is_row_of e_is_row_of ["thing", "many"] (spM K 2 m_is_row_of)) {f_is_chance : Addr} {e_is_chance : FuncData} (h_is_chance : Has K mg "is_chance" s_is_chance f_is_chance e_is_chance ["thing"]) (G_is_chance : FnOk P w K mg base CX0 4 f_is_chance e_is_chance ["thing"] (spM K 1 m_is_chance)) {f_is_number_within : Addr} {e_is_number_within : FuncData} (h_is_number_within : Has K mg "is_number_within" s_is_number_within f_is_number_within e_is_number_within ["thing", "low", "high"]) (G_is_number_within : FnOk P w K mg base CX0 2 f_is_number_within e_is_number_within ["thing", "low", "high"] (spM K 3 m_is_number_within)) {t_MOST_WORTH : Tok} (m_MOST_WORTH : mg "MOST_WORTH" = some (.int (1000) t_MOST_WORTH)) : FnOk P w K mg base CX0 5 f fd ["thing", "things"] (spM K 2 m_is_tie_row) := by
  have nd := sc_is_tie_row.nd
  exact h.fn sc_is_tie_row rfl rfl (fun cdv A outer s H E hr => (@qss_cons _ _ _ _ _ _ _ _ (@qs_if _ _ _ _ _ _ _ _ _ _ _ (@qt_not _ _ _ _ _ (@qt_val _ _ _ _ (@qe_c _ _ _ _ _ _ _ _ _ _ _ _ _ _ _ h_is_row_of G_is_row_of (hr.mono (by decide)) (@qa_k _ _ _ _ _ _ (@qw _ _ 0 _ _ (by rfl) (by rfl) (by decide) (by decide)) (@qa_k _ _ _ _ _ _ (@qe_int _ _ _ _ _) (@qa_nil _ _) (by rfl)) (by rfl)) (by rfl) (by decide) (by rfl) (by rfl)) (by intro _; rfl)))
      (@qss_one _ _ _ _ _ (@qs_ret _ _ _ _ _ (@qe_bl _ _ _ _ _)))
      (@qss_nil _ _))
      (@qss_cons _ _ _ _ _ _ _ _ (@qs_asg _ _ _ _ _ _ _ _ (@qw _ _ 0 _ _ (by rfl) (by rfl) (by decide) (by decide)) (@qg_tup _ _ _ _ _ _ _ _ rfl rfl (@qgs_cons _ _ _ _ _ _ _ _ (@qg_name _ _ _ 2 _ nd rfl (Or.inl rfl) (by first | exact .inl rfl | exact .inr rfl | assumption)) (@qgs_cons _ _ _ _ _ _ _ _ (@qg_name _ _ _ 3 _ nd rfl (Or.inl rfl) (by first | exact .inl rfl | exact .inr rfl | assumption)) (@qgs_cons _ _ _ _ _ _ _ _ (@qg_name _ _ _ 4 _ nd rfl (Or.inl rfl) (by first | exact .inl rfl | exact .inr rfl | assumption)) (@qgs_cons _ _ _ _ _ _ _ _ (@qg_name _ _ _ 5 _ nd rfl (Or.inl rfl) (by first | exact .inl rfl | exact .inr rfl | assumption)) (@qgs_nil _ _) (by rfl)) (by rfl)) (by rfl)) (by rfl)) (gl_cons (gl_cons (gl_cons (gl_cons gl_nil)))) (by rfl) (by rfl)) (by rfl) (by rfl) (by rfl))
      (@qss_cons _ _ _ _ _ _ _ _ (@qs_if _ _ _ _ _ _ _ _ _ _ _ (@qt_w _ _ _ _ (@qw_or _ _ _ _ _ _ _ _ (@qt_not _ _ _ _ _ (@qt_val _ _ _ _ (@qe_c _ _ _ _ _ _ _ _ _ _ _ _ _ _ _ h_is_number_within G_is_number_within (hr.mono (by decide)) (@qa_k _ _ _ _ _ _ (@qw _ _ 2 _ _ (by rfl) (by rfl) (by decide) (by decide)) (@qa_k _ _ _ _ _ _ (@qe_int _ _ _ _ _) (@qa_k _ _ _ _ _ _ (@q_sub _ _ _ _ _ _ _ (@qw _ _ 1 _ _ (by rfl) (by rfl) (by decide) (by decide)) (@qe_int _ _ _ _ _)) (@qa_nil _ _) (by rfl)) (by rfl)) (by rfl)) (by rfl) (by decide) (by rfl) (by rfl)) (by intro _; rfl))) (@qw_or1 _ _ _ _ _ (@qt_not _ _ _ _ _ (@qt_val _ _ _ _ (@qe_c _ _ _ _ _ _ _ _ _ _ _ _ _ _ _ h_is_number_within G_is_number_within (hr.mono (by decide)) (@qa_k _ _ _ _ _ _ (@qw _ _ 3 _ _ (by rfl) (by rfl) (by decide) (by decide)) (@qa_k _ _ _ _ _ _ (@q_add _ _ _ _ _ _ _ rfl (@qw _ _ 2 _ _ (by rfl) (by rfl) (by decide) (by decide)) (@qe_int _ _ _ _ _)) (@qa_k _ _ _ _ _ _ (@q_sub _ _ _ _ _ _ _ (@qw _ _ 1 _ _ (by rfl) (by rfl) (by decide) (by decide)) (@qe_int _ _ _ _ _)) (@qa_nil _ _) (by rfl)) (by rfl)) (by rfl)) (by rfl) (by decide) (by rfl) (by rfl)) (by intro _; rfl))))))
      (@qss_one _ _ _ _ _ (@qs_ret _ _ _ _ _ (@qe_bl _ _ _ _ _)))
      (@qss_nil _ _))
      (@qss_one _ _ _ _ _ (@qs_ret _ _ _ _ _ (@qe_and _ _ _ _ _ _ _ _ (@qe_c _ _ _ _ _ _ _ _ _ _ _ _ _ _ _ h_is_chance G_is_chance (hr.mono (by decide)) (@qa_k _ _ _ _ _ _ (@qw _ _ 4 _ _ (by rfl) (by rfl) (by decide) (by decide)) (@qa_nil _ _) (by rfl)) (by rfl) (by decide) (by rfl) (by rfl)) (@qe_one _ _ _ _ _ _ (@qe_c _ _ _ _ _ _ _ _ _ _ _ _ _ _ _ h_is_number_within G_is_number_within (hr.mono (by decide)) (@qa_k _ _ _ _ _ _ (@qw _ _ 5 _ _ (by rfl) (by rfl) (by decide) (by decide)) (@qa_k _ _ _ _ _ _ (@qe_int _ _ _ _ _) (@qa_k _ _ _ _ _ _ (@qe_glob _ _ _ (V.int (1000)) _ _ (PyData.int (1000)) rfl m_MOST_WORTH ⟨_, rfl⟩ (fun _ => da_int.mpr rfl) (by decide)) (@qa_nil _ _) (by rfl)) (by rfl)) (by rfl)) (by rfl) (by decide) (by rfl) (by rfl))))))))))
noncomputable def i_is_ties_1 : FI := (iSeq (vVar 0))
noncomputable def e_is_ties_2 : FE := (vFn 2 m_is_tie_row (vCons (vVar 1) (vCons (vVar 0) vNil)))
noncomputable def b_is_ties : FS := (sSeq (sIf (vOr (vNot (vTest (vUn (gIsi "tuple") (vVar 0)))) (vTest (vOp gGt (vCall (g1 gLen) (vCons (vVar 0) vNil)) (vC (.int (16))))))
    (sRet (vC (.bool false)))
    sNil)
    (sRet (vCall (g1 (gSeqL gAllD)) (vCons (vComp [(1, "things")] 1 i_is_ties_1 (gtName 1) tTrue e_is_ties_2) vNil))))
noncomputable def m_is_ties : FM := mOf 2 0 (([] ++ []) ++ []) b_is_ties
theorem sc_is_ties : FnScope ["thing", "things"] ["thing", "things"] (defScope s_is_ties) := ⟨rfl, rfl, rfl, by decide +kernel, rfl, by decide +kernel, by decide +kernel⟩
theorem ok_is_ties {P : Program} {w : World} {K : PySem.W.Frag} {mg : Str → Option Value} {base : Heap} {f : Addr} {fd : FuncData} (h : Has K mg "is_ties" s_is_ties f fd ["thing", "things"]) (T : Txt mg) {f_is_tie_row : Addr} {e_is_tie_row : FuncData} (h_is_tie_row : Has K mg "is_tie_row" s_is_tie_row f_is_tie_row e_is_tie_row ["thing", "things"]) (G_is_tie_row : FnOk P w K mg base CX0 5 f_is_tie_row e_is_tie_row ["thing", "things"] (spM K 2 m_is_tie_row)) {t_MOST_TIES : Tok} (m_MOST_TIES : mg "MOST_TIES" = some (.int (16) t_MOST_TIES)) : FnOk P w K mg base CX0 6 f fd ["thing", "things"] (spM K 2 m_is_ties) := by
  have nd := sc_is_ties.nd
  exact h.fn sc_is_ties rfl rfl (fun cdv A outer s H E hr => (@qss_cons _ _ _ _ _ _ _ _ (@qs_if _ _ _ _ _ _ _ _ _ _ _ (@qt_w _ _ _ _ (@qw_or _ _ _ _ _ _ _ _ (@qt_not _ _ _ _ _ (@qt_val _ _ _ _ (@q_isi _ _ _ _ _ _ _ _ "tuple" rfl (by decide) rfl T.b_isinstance rfl T.b_tuple PyProof.Rows.boot_tuple (by decide) (by decide) (@qw _ _ 0 _ _ (by rfl) (by rfl) (by decide) (by decide)) (by rfl) (by rfl)) (by intro _; rfl))) (@qw_or1 _ _ _ _ _ (@q_tcmp _ _ _ _ _ _ _ _ _ (@c_gt _ _) (@q_blt _ _ _ _ _ _ _ _ _ (@b_len _ _ rfl) (by rfl) T.b_len (@qa_k _ _ _ _ _ _ (@qw _ _ 0 _ _ (by rfl) (by rfl) (by decide) (by decide)) (@qa_nil _ _) (by rfl)) (by decide) (by decide) (by rfl) (by rfl)) (@qe_glob _ _ _ (V.int (16)) _ _ (PyData.int (16)) rfl m_MOST_TIES ⟨_, rfl⟩ (fun _ => da_int.mpr rfl) (by decide)) (nomark _)))))
      (@qss_one _ _ _ _ _ (@qs_ret _ _ _ _ _ (@qe_bl _ _ _ _ _)))
      (@qss_nil _ _))
      (@qss_one _ _ _ _ _ (@qs_ret _ _ _ _ _ (@q_blt _ _ _ _ _ _ _ _ _ (@b_all _ _ _ rfl hr) (by rfl) T.b_all (@qa_k _ _ _ _ _ _ (@q_comp _ _ _ _ _ _ _ _ _ _ _ _ _ (defScope s_is_ties) ["thing", "things"] [(1, "things")] ["part"] rfl rfl rfl (@qi_seq _ _ _ _ _ rfl (@qw _ _ 0 _ _ (by rfl) (by rfl) (by decide) (by decide)))
        (fun C s0 H0 fp => (@qg_name _ _ _ 1 _ (show List.Nodup (["things", "part"] : List Str) by decide +kernel) rfl (Or.inl rfl) (by first | exact .inl rfl | exact .inr rfl | assumption))) (fun C s0 H0 fp => (@qts_nil _ _))
        (fun C s0 H0 fp => (@qe_c _ _ _ _ _ _ _ _ _ _ _ _ _ _ _ h_is_tie_row G_is_tie_row (hr.mono (by decide)) (@qa_k _ _ _ _ _ _ (@qw _ _ 1 _ _ (by rfl) (by rfl) (by decide) (by decide)) (@qa_k _ _ _ _ _ _ (@qw _ _ 0 _ _ (by rfl) (by rfl) (by decide) (by decide)) (@qa_nil _ _) (by rfl)) (by rfl)) (by rfl) (by decide) (by rfl) (by rfl))) rfl (by decide +kernel) (by decide +kernel) (by decide +kernel) (by decide +kernel) (by decide +kernel) (by decide +kernel) (by decide +kernel) (by intro _; rfl)) (@qa_nil _ _) (by rfl)) (by decide) (by decide) (by rfl) (by rfl))))))
noncomputable def i_is_patience_1 : FI := (iSeq (vVar 0))
noncomputable def e_is_patience_2 : FE := (vFn 3 m_is_number_within (vCons (vVar 0) (vCons (vC (.int 0)) (vCons (vC (.int (20))) vNil))))
noncomputable def b_is_patience : FS := (sSeq (sIf (vNot (vTest (vFn 2 m_is_row_of (vCons (vVar 0) (vCons (vVar 1) vNil)))))
    (sRet (vC (.bool false)))
    sNil)
    (sRet (vCall (g1 (gSeqL gAllD)) (vCons (vComp [] 1 i_is_patience_1 (gtName 0) tTrue e_is_patience_2) vNil))))
noncomputable def m_is_patience : FM := mOf 2 0 (([] ++ []) ++ []) b_is_patience
theorem sc_is_patience : FnScope ["thing", "things"] ["thing", "things"] (defScope s_is_patience) := ⟨rfl, rfl, rfl, by decide +kernel, rfl, by decide +kernel, by decide +kernel⟩
theorem ok_is_patience {P : Program} {w : World} {K : PySem.W.Frag} {mg : Str → Option Value} {base : Heap} {f : Addr} {fd : FuncData} (h : Has K mg "is_patience" s_is_patience f fd ["thing", "things"]) (T : Txt mg) {f_is_row_of : Addr} {e_is_row_of : FuncData} (h_is_row_of : Has K mg "is_row_of" s_is_row_of f_is_row_of e_is_row_of ["thing", "many"]) (G_is_row_of : FnOk P w K mg base CX0 1 f_is_row_of e_is_row_of ["thing", "many"] (spM K 2 m_is_row_of)) {f_is_number_within : Addr} {e_is_number_within : FuncData} (h_is_number_within : Has K mg "is_number_within" s_is_number_within f_is_number_within e_is_number_within ["thing", "low", "high"]) (G_is_number_within : FnOk P w K mg base CX0 2 f_is_number_within e_is_number_within ["thing", "low", "high"] (spM K 3 m_is_number_within)) {t_MOST_PATIENCE : Tok} (m_MOST_PATIENCE : mg "MOST_PATIENCE" = some (.int (20) t_MOST_PATIENCE)) : FnOk P w K mg base CX0 3 f fd ["thing", "things"] (spM K 2 m_is_patience) := by
  have nd := sc_is_patience.nd
  exact h.fn sc_is_patience rfl rfl (fun cdv A outer s H E hr => (@qss_cons _ _ _ _ _ _ _ _ (@qs_if _ _ _ _ _ _ _ _ _ _ _ (@qt_not _ _ _ _ _ (@qt_val _ _ _ _ (@qe_c _ _ _ _ _ _ _ _ _ _ _ _ _ _ _ h_is_row_of G_is_row_of (hr.mono (by decide)) (@qa_k _ _ _ _ _ _ (@qw _ _ 0 _ _ (by rfl) (by rfl) (by decide) (by decide)) (@qa_k _ _ _ _ _ _ (@qw _ _ 1 _ _ (by rfl) (by rfl) (by decide) (by decide)) (@qa_nil _ _) (by rfl)) (by rfl)) (by rfl) (by decide) (by rfl) (by rfl)) (by intro _; rfl)))
      (@qss_one _ _ _ _ _ (@qs_ret _ _ _ _ _ (@qe_bl _ _ _ _ _)))
      (@qss_nil _ _))
      (@qss_one _ _ _ _ _ (@qs_ret _ _ _ _ _ (@q_blt _ _ _ _ _ _ _ _ _ (@b_all _ _ _ rfl hr) (by rfl) T.b_all (@qa_k _ _ _ _ _ _ (@q_comp _ _ _ _ _ _ _ _ _ _ _ _ _ (defScope s_is_patience) ["thing", "things"] [] ["part"] rfl rfl rfl (@qi_seq _ _ _ _ _ rfl (@qw _ _ 0 _ _ (by rfl) (by rfl) (by decide) (by decide)))
        (fun C s0 H0 fp => (@qg_name _ _ _ 0 _ (show List.Nodup (["part"] : List Str) by decide +kernel) rfl (Or.inl rfl) (by first | exact .inl rfl | exact .inr rfl | assumption))) (fun C s0 H0 fp => (@qts_nil _ _))
        (fun C s0 H0 fp => (@qe_c _ _ _ _ _ _ _ _ _ _ _ _ _ _ _ h_is_number_within G_is_number_within (hr.mono (by decide)) (@qa_k _ _ _ _ _ _ (@qw _ _ 0 _ _ (by rfl) (by rfl) (by decide) (by decide)) (@qa_k _ _ _ _ _ _ (@qe_int _ _ _ _ _) (@qa_k _ _ _ _ _ _ (@qe_glob _ _ _ (V.int (20)) _ _ (PyData.int (20)) rfl m_MOST_PATIENCE ⟨_, rfl⟩ (fun _ => da_int.mpr rfl) (by decide)) (@qa_nil _ _) (by rfl)) (by rfl)) (by rfl)) (by rfl) (by decide) (by rfl) (by rfl))) rfl (by decide +kernel) (by decide +kernel) (by decide +kernel) (by decide +kernel) (by decide +kernel) (by decide +kernel) (by decide +kernel) (by intro _; rfl)) (@qa_nil _ _) (by rfl)) (by decide) (by decide) (by rfl) (by rfl))))))
noncomputable def b_is_web : FS := (sSeq (sIf (vNot (vTest (vFn 2 m_is_row_of (vCons (vVar 0) (vCons (vC (.int 4)) vNil)))))
    (sRet (vC (.bool false)))
    sNil)
    (sSeq (sAsg (vVar 0) (gtTup (gtCons (gtName 1) (gtCons (gtName 2) (gtCons (gtName 3) (gtCons (gtName 4) gtNil))))))
    (sSeq (sIf (vOr (vNot (vTest (vFn 3 m_is_number_within (vCons (vVar 1) (vCons (vC (.int 0)) (vCons (vC (.int (12))) vNil)))))) (vNot (vTest (vFn 3 m_is_number_within (vCons (vVar 4) (vCons (vC (.int 0)) (vCons (vC (.int (40))) vNil)))))))
    (sRet (vC (.bool false)))
    sNil)
    (sRet (vAndV (vFn 2 m_is_ties (vCons (vVar 2) (vCons (vVar 1) vNil))) (vFn 2 m_is_patience (vCons (vVar 3) (vCons (vVar 1) vNil))))))))
noncomputable def m_is_web : FM := mOf 1 4 (([] ++ []) ++ (([1] ++ ([2] ++ ([3] ++ ([4] ++ [])))) ++ (([] ++ []) ++ []))) b_is_web
theorem sc_is_web : FnScope ["thing", "things", "ties", "patience", "asks"] ["thing"] (defScope s_is_web) := ⟨rfl, rfl, rfl, by decide +kernel, rfl, by decide +kernel, by decide +kernel⟩
theorem ok_is_web {P : Program} {w : World} {K : PySem.W.Frag} {mg : Str → Option Value} {base : Heap} {f : Addr} {fd : FuncData} (h : Has K mg "is_web" s_is_web f fd ["thing"]) (T : Txt mg) {f_is_row_of : Addr} {e_is_row_of : FuncData} (h_is_row_of : Has K mg "is_row_of" s_is_row_of f_is_row_of e_is_row_of ["thing", "many"]) (G_is_row_of : FnOk P w K mg base CX0 1 f_is_row_of e_is_row_of ["thing", "many"] (spM K 2 m_is_row_of)) {f_is_ties : Addr} {e_is_ties : FuncData} (h_is_ties : Has K mg "is_ties" s_is_ties f_is_ties e_is_ties ["thing", "things"]) (G_is_ties : FnOk P w K mg base CX0 6 f_is_ties e_is_ties ["thing", "things"] (spM K 2 m_is_ties)) {f_is_patience : Addr} {e_is_patience : FuncData} (h_is_patience : Has K mg "is_patience" s_is_patience f_is_patience e_is_patience ["thing", "things"]) (G_is_patience : FnOk P w K mg base CX0 3 f_is_patience e_is_patience ["thing", "things"] (spM K 2 m_is_patience)) {f_is_number_within : Addr} {e_is_number_within : FuncData} (h_is_number_within : Has K mg "is_number_within" s_is_number_within f_is_number_within e_is_number_within ["thing", "low", "high"]) (G_is_number_within : FnOk P w K mg base CX0 2 f_is_number_within e_is_number_within ["thing", "low", "high"] (spM K 3 m_is_number_within)) {t_MOST_THINGS : Tok} (m_MOST_THINGS : mg "MOST_THINGS" = some (.int (12) t_MOST_THINGS)) {t_MOST_ASKS : Tok} (m_MOST_ASKS : mg "MOST_ASKS" = some (.int (40) t_MOST_ASKS)) : FnOk P w K mg base CX0 7 f fd ["thing"] (spM K 1 m_is_web) := by
  have nd := sc_is_web.nd
  exact h.fn sc_is_web rfl rfl (fun cdv A outer s H E hr => (@qss_cons _ _ _ _ _ _ _ _ (@qs_if _ _ _ _ _ _ _ _ _ _ _ (@qt_not _ _ _ _ _ (@qt_val _ _ _ _ (@qe_c _ _ _ _ _ _ _ _ _ _ _ _ _ _ _ h_is_row_of G_is_row_of (hr.mono (by decide)) (@qa_k _ _ _ _ _ _ (@qw _ _ 0 _ _ (by rfl) (by rfl) (by decide) (by decide)) (@qa_k _ _ _ _ _ _ (@qe_int _ _ _ _ _) (@qa_nil _ _) (by rfl)) (by rfl)) (by rfl) (by decide) (by rfl) (by rfl)) (by intro _; rfl)))
      (@qss_one _ _ _ _ _ (@qs_ret _ _ _ _ _ (@qe_bl _ _ _ _ _)))
      (@qss_nil _ _))
      (@qss_cons _ _ _ _ _ _ _ _ (@qs_asg _ _ _ _ _ _ _ _ (@qw _ _ 0 _ _ (by rfl) (by rfl) (by decide) (by decide)) (@qg_tup _ _ _ _ _ _ _ _ rfl rfl (@qgs_cons _ _ _ _ _ _ _ _ (@qg_name _ _ _ 1 _ nd rfl (Or.inl rfl) (by first | exact .inl rfl | exact .inr rfl | assumption)) (@qgs_cons _ _ _ _ _ _ _ _ (@qg_name _ _ _ 2 _ nd rfl (Or.inl rfl) (by first | exact .inl rfl | exact .inr rfl | assumption)) (@qgs_cons _ _ _ _ _ _ _ _ (@qg_name _ _ _ 3 _ nd rfl (Or.inl rfl) (by first | exact .inl rfl | exact .inr rfl | assumption)) (@qgs_cons _ _ _ _ _ _ _ _ (@qg_name _ _ _ 4 _ nd rfl (Or.inl rfl) (by first | exact .inl rfl | exact .inr rfl | assumption)) (@qgs_nil _ _) (by rfl)) (by rfl)) (by rfl)) (by rfl)) (gl_cons (gl_cons (gl_cons (gl_cons gl_nil)))) (by rfl) (by rfl)) (by rfl) (by rfl) (by rfl))
      (@qss_cons _ _ _ _ _ _ _ _ (@qs_if _ _ _ _ _ _ _ _ _ _ _ (@qt_w _ _ _ _ (@qw_or _ _ _ _ _ _ _ _ (@qt_not _ _ _ _ _ (@qt_val _ _ _ _ (@qe_c _ _ _ _ _ _ _ _ _ _ _ _ _ _ _ h_is_number_within G_is_number_within (hr.mono (by decide)) (@qa_k _ _ _ _ _ _ (@qw _ _ 1 _ _ (by rfl) (by rfl) (by decide) (by decide)) (@qa_k _ _ _ _ _ _ (@qe_int _ _ _ _ _) (@qa_k _ _ _ _ _ _ (@qe_glob _ _ _ (V.int (12)) _ _ (PyData.int (12)) rfl m_MOST_THINGS ⟨_, rfl⟩ (fun _ => da_int.mpr rfl) (by decide)) (@qa_nil _ _) (by rfl)) (by rfl)) (by rfl)) (by rfl) (by decide) (by rfl) (by rfl)) (by intro _; rfl))) (@qw_or1 _ _ _ _ _ (@qt_not _ _ _ _ _ (@qt_val _ _ _ _ (@qe_c _ _ _ _ _ _ _ _ _ _ _ _ _ _ _ h_is_number_within G_is_number_within (hr.mono (by decide)) (@qa_k _ _ _ _ _ _ (@qw _ _ 4 _ _ (by rfl) (by rfl) (by decide) (by decide)) (@qa_k _ _ _ _ _ _ (@qe_int _ _ _ _ _) (@qa_k _ _ _ _ _ _ (@qe_glob _ _ _ (V.int (40)) _ _ (PyData.int (40)) rfl m_MOST_ASKS ⟨_, rfl⟩ (fun _ => da_int.mpr rfl) (by decide)) (@qa_nil _ _) (by rfl)) (by rfl)) (by rfl)) (by rfl) (by decide) (by rfl) (by rfl)) (by intro _; rfl))))))
      (@qss_one _ _ _ _ _ (@qs_ret _ _ _ _ _ (@qe_bl _ _ _ _ _)))
      (@qss_nil _ _))
      (@qss_one _ _ _ _ _ (@qs_ret _ _ _ _ _ (@qe_and _ _ _ _ _ _ _ _ (@qe_c _ _ _ _ _ _ _ _ _ _ _ _ _ _ _ h_is_ties G_is_ties (hr.mono (by decide)) (@qa_k _ _ _ _ _ _ (@qw _ _ 2 _ _ (by rfl) (by rfl) (by decide) (by decide)) (@qa_k _ _ _ _ _ _ (@qw _ _ 1 _ _ (by rfl) (by rfl) (by decide) (by decide)) (@qa_nil _ _) (by rfl)) (by rfl)) (by rfl) (by decide) (by rfl) (by rfl)) (@qe_one _ _ _ _ _ _ (@qe_c _ _ _ _ _ _ _ _ _ _ _ _ _ _ _ h_is_patience G_is_patience (hr.mono (by decide)) (@qa_k _ _ _ _ _ _ (@qw _ _ 3 _ _ (by rfl) (by rfl) (by decide) (by decide)) (@qa_k _ _ _ _ _ _ (@qw _ _ 1 _ _ (by rfl) (by rfl) (by decide) (by decide)) (@qa_nil _ _) (by rfl)) (by rfl)) (by rfl) (by decide) (by rfl) (by rfl))))))))))
noncomputable def i_left_out_1 : FI := (iEnum (vCons (vOp gIx (vVar 0) (vC (.int 1))) vNil))
noncomputable def c_left_out_2 : FT := (vTest (vOp (gIn true) (vVar 1) (vVar 0)))
noncomputable def e_left_out_3 : FE := (vVar 2)
noncomputable def b_left_out : FS := (sSeq (sSet 2 (vCall (g1 gTuple) (vCons (vComp [(1, "ties")] 2 i_left_out_1 (gtTup (gtCons (gtName 1) (gtCons (gtName 2) gtNil))) c_left_out_2 e_left_out_3) vNil)))
    (sRet (vOp gAdd (vTup (vCons (vOp gIx (vVar 0) (vC (.int 0))) (vCons (vVar 2) vNil))) (vSl (vVar 0) (oSome (vC (.int 2))) oNone))))
noncomputable def m_left_out : FM := mOf 2 1 ([2] ++ []) b_left_out
theorem sc_left_out : FnScope ["web", "ties", "kept"] ["web", "ties"] (defScope s_left_out) := ⟨rfl, rfl, rfl, by decide +kernel, rfl, by decide +kernel, by decide +kernel⟩
theorem ok_left_out {P : Program} {w : World} {K : PySem.W.Frag} {mg : Str → Option Value} {base : Heap} {f : Addr} {fd : FuncData} (h : Has K mg "left_out" s_left_out f fd ["web", "ties"]) (T : Txt mg)  : FnOk P w K mg base CX0 1 f fd ["web", "ties"] (spM K 2 m_left_out) := by
  have nd := sc_left_out.nd
  exact h.fn sc_left_out rfl rfl (fun cdv A outer s H E hr => (@qss_cons _ _ _ _ _ _ _ _ (@qs_set _ _ _ _ _ 2 _ _ nd rfl (Or.inl rfl) (@q_blt _ _ _ _ _ _ _ _ _ (@b_tuple _ _ rfl) (by rfl) T.b_tuple (@qa_k _ _ _ _ _ _ (@q_comp _ _ _ _ _ _ _ _ _ _ _ _ _ (defScope s_left_out) ["web", "ties", "kept"] [(1, "ties")] ["at", "tie"] rfl rfl rfl (@qi_enum _ _ _ _ _ _ _ _ _ rfl rfl T.b_enumerate (@qa_k _ _ _ _ _ _ (@q_ix _ _ _ _ _ _ _ rfl (@qw _ _ 0 _ _ (by rfl) (by rfl) (by decide) (by decide)) (@qe_int _ _ _ _ _) (fun _ _ => rfl)) (@qa_nil _ _) (by rfl)) (by rfl))
        (fun C s0 H0 fp => (@qg_tup _ _ _ _ _ _ _ _ rfl rfl (@qgs_cons _ _ _ _ _ _ _ _ (@qg_name _ _ _ 1 _ (show List.Nodup (["ties", "at", "tie"] : List Str) by decide +kernel) rfl (Or.inl rfl) (by first | exact .inl rfl | exact .inr rfl | assumption)) (@qgs_cons _ _ _ _ _ _ _ _ (@qg_name _ _ _ 2 _ (show List.Nodup (["ties", "at", "tie"] : List Str) by decide +kernel) rfl (Or.inl rfl) (by first | exact .inl rfl | exact .inr rfl | assumption)) (@qgs_nil _ _) (by rfl)) (by rfl)) (gl_cons (gl_cons gl_nil)) (by rfl) (by rfl))) (fun C s0 H0 fp => (@qts_one _ _ _ _ (@q_tcmp _ _ _ _ _ _ _ _ _ (@c_notIn _ _ _ rfl hr) (@qw _ _ 1 _ _ (by rfl) (by rfl) (by decide) (by decide)) (@qw _ _ 0 _ _ (by rfl) (by rfl) (by decide) (by decide)) (by with_unfolding_all rfl))))
        (fun C s0 H0 fp => (@qw _ _ 2 _ _ (by rfl) (by rfl) (by decide) (by decide))) rfl (by decide +kernel) (by decide +kernel) (by decide +kernel) (by decide +kernel) (by decide +kernel) (by decide +kernel) (by decide +kernel) (by intro _; rfl)) (@qa_nil _ _) (by rfl)) (by decide) (by decide) (by rfl) (by rfl)) (by rfl) (by first | exact .inl rfl | exact .inr rfl | assumption))
      (@qss_one _ _ _ _ _ (@qs_ret _ _ _ _ _ (@q_add _ _ _ _ _ _ _ rfl (@qe_tup _ _ _ _ _ _ (@qa_k _ _ _ _ _ _ (@q_ix _ _ _ _ _ _ _ rfl (@qw _ _ 0 _ _ (by rfl) (by rfl) (by decide) (by decide)) (@qe_int _ _ _ _ _) (fun _ _ => rfl)) (@qa_k _ _ _ _ _ _ (@qw _ _ 2 _ _ (by rfl) (by rfl) (by decide) (by decide)) (@qa_nil _ _) (by rfl)) (by rfl))) (@q_slice _ _ _ _ _ _ _ _ _ _ rfl (@qw _ _ 0 _ _ (by rfl) (by rfl) (by decide) (by decide)) (@qo_some _ _ _ _ (@qe_int _ _ _ _ _)) (@qo_none _ _)))))))
noncomputable def b_law_mixed : FS := (sSeq (sSet 2 (vOp gMod (vOp gAdd (vOp gAdd (vOp gMul (vOp gMod (vVar 0) (vC (.int 2147483647))) (vC (.int 48271))) (vOp gMul (vOp gMul (vC (.int 7919)) (vVar 1)) (vVar 1))) (vC (.int 104729))) (vC (.int 2147483647))))
    (sRet (vOp gMod (vOp gMul (vVar 2) (vVar 2)) (vC (.int 2147483629)))))
noncomputable def m_law_mixed : FM := mOf 2 1 ([2] ++ []) b_law_mixed
theorem sc_law_mixed : FnScope ["_law_cell", "_law_k", "_law_number"] ["_law_cell", "_law_k"] (defScope s_law_mixed) := ⟨rfl, rfl, rfl, by decide +kernel, rfl, by decide +kernel, by decide +kernel⟩
theorem ok_law_mixed {P : Program} {w : World} {K : PySem.W.Frag} {mg : Str → Option Value} {base : Heap} {f : Addr} {fd : FuncData} (h : Has K mg "_law_mixed" s_law_mixed f fd ["_law_cell", "_law_k"]) (T : Txt mg)  : FnOk P w K mg base CX0 1 f fd ["_law_cell", "_law_k"] (spM K 2 m_law_mixed) := by
  have nd := sc_law_mixed.nd
  exact h.fn sc_law_mixed rfl rfl (fun cdv A outer s H E hr => (@qss_cons _ _ _ _ _ _ _ _ (@qs_set _ _ _ _ _ 2 _ _ nd rfl (Or.inl rfl) (@q_mod _ _ _ _ _ _ _ (@q_add _ _ _ _ _ _ _ rfl (@q_add _ _ _ _ _ _ _ rfl (@q_mul _ _ _ _ _ _ _ rfl (@q_mod _ _ _ _ _ _ _ (@qw _ _ 0 _ _ (by rfl) (by rfl) (by decide) (by decide)) (@qe_int _ _ _ _ _)) (@qe_int _ _ _ _ _)) (@q_mul _ _ _ _ _ _ _ rfl (@q_mul _ _ _ _ _ _ _ rfl (@qe_int _ _ _ _ _) (@qw _ _ 1 _ _ (by rfl) (by rfl) (by decide) (by decide))) (@qw _ _ 1 _ _ (by rfl) (by rfl) (by decide) (by decide)))) (@qe_int _ _ _ _ _)) (@qe_int _ _ _ _ _)) (by rfl) (by first | exact .inl rfl | exact .inr rfl | assumption))
      (@qss_one _ _ _ _ _ (@qs_ret _ _ _ _ _ (@q_mod _ _ _ _ _ _ _ (@q_mul _ _ _ _ _ _ _ rfl (@qw _ _ 2 _ _ (by rfl) (by rfl) (by decide) (by decide)) (@qw _ _ 2 _ _ (by rfl) (by rfl) (by decide) (by decide))) (@qe_int _ _ _ _ _))))))
noncomputable def c_law_draws_1 : FT := (vAnd (vTest (vOp gGe (vVar 3) (vOp gPow (vC (.int 10)) (vC (.int 18))))) (vTest (vOp gLt (vCall (g1 gLen) (vCons (vVar 1) vNil)) (vC (.int 900)))))
noncomputable def b_law_draws_2 : FS := (sSeq (sDrop (vMeth mAppend (vVar 1) (vCons (vOp gMod (vVar 3) (vC (.int 2147483629))) vNil)))
    (sSet 3 (vOp gFdiv (vVar 3) (vC (.int 2147483629)))))
noncomputable def i_law_draws_3 : FI := (iRange1 (vCons (vC (.int 12)) vNil))
noncomputable def b_law_draws_4 : FS := (sDrop (vMeth mAppend (vVar 1) (vCons (vFn 2 m_law_mixed (vCons (vFn 2 m_law_mixed (vCons (vVar 3) (vCons (vOp gAdd (vOp gMul (vC (.int 3)) (vVar 4)) (vC (.int 1))) vNil))) (vCons (vOp gAdd (vOp gAdd (vVar 4) (vVar 2)) (vC (.int 2))) vNil))) vNil)))
noncomputable def i_law_draws_5 : FI := (iRange1 (vCons (vCall (g2 gMin) (vCons (vCall (g1 gLen) (vCons (vVar 0) vNil)) (vCons (vC (.int 63)) vNil))) vNil))
noncomputable def b_law_draws_6 : FS := (sSeq (sSet 3 (vCall (g1 gAbs) (vCons (vOp gIx (vVar 0) (vVar 2)) vNil)))
    (sSeq (sIf (vTest (vOp gLt (vVar 3) (vOp gPow (vC (.int 10)) (vC (.int 18)))))
    (sFor ([4] ++ []) i_law_draws_3 (gtName 4) b_law_draws_4)
    sNil)
    (sSeq (sWhile (2 ^ 4200) c_law_draws_1 b_law_draws_2)
    (sIf (vTest (vOp gGe (vVar 3) (vC (.int 2147483629))))
    (sDrop (vMeth mAppend (vVar 1) (vCons (vOp gMod (vVar 3) (vC (.int 2147483629))) vNil)))
    sNil))))
noncomputable def b_law_draws : FS := (sSeq (sSet 1 (vLst vNil))
    (sSeq (sFor ([2] ++ ([3] ++ ((([4] ++ []) ++ []) ++ (([] ++ [3]) ++ ([] ++ []))))) i_law_draws_5 (gtName 2) b_law_draws_6)
    (sRet (vVar 1))))
noncomputable def m_law_draws : FM := mOf 1 4 ([1] ++ (([2] ++ ([3] ++ ((([4] ++ []) ++ []) ++ (([] ++ [3]) ++ ([] ++ []))))) ++ [])) b_law_draws
theorem sc_law_draws : FnScope ["_law_script", "_law_drawn", "_law_k", "_law_cell", "_law_j"] ["_law_script"] (defScope s_law_draws) := ⟨rfl, rfl, rfl, by decide +kernel, rfl, by decide +kernel, by decide +kernel⟩
theorem ok_law_draws {P : Program} {w : World} {K : PySem.W.Frag} {mg : Str → Option Value} {base : Heap} {f : Addr} {fd : FuncData} (h : Has K mg "_law_draws" s_law_draws f fd ["_law_script"]) (T : Txt mg) {f_law_mixed : Addr} {e_law_mixed : FuncData} (h_law_mixed : Has K mg "_law_mixed" s_law_mixed f_law_mixed e_law_mixed ["_law_cell", "_law_k"]) (G_law_mixed : FnOk P w K mg base CX0 1 f_law_mixed e_law_mixed ["_law_cell", "_law_k"] (spM K 2 m_law_mixed)) : FnOk P w K mg base CX0 2 f fd ["_law_script"] (spM K 1 m_law_draws) := by
  have nd := sc_law_draws.nd
  exact h.fn sc_law_draws rfl rfl (fun cdv A outer s H E hr => (@qss_cons _ _ _ _ _ _ _ _ (@qs_set _ _ _ _ _ 1 _ _ nd rfl (Or.inl rfl) (@qe_lst _ _ _ _ _ (@qa_nil _ _)) (by rfl) (by first | exact .inl rfl | exact .inr rfl | assumption))
      (@qss_cons _ _ _ _ _ _ _ _ (@qs_for _ _ _ _ _ _ _ _ _ _ _ PassesOwn.never rfl (@qi_range1 _ _ _ _ _ _ _ rfl T.b_range (@qa_k _ _ _ _ _ _ (@q_blt _ _ _ _ _ _ _ _ _ (@b_min _ _ rfl) (by rfl) T.b_min (@qa_k _ _ _ _ _ _ (@q_blt _ _ _ _ _ _ _ _ _ (@b_len _ _ rfl) (by rfl) T.b_len (@qa_k _ _ _ _ _ _ (@qw _ _ 0 _ _ (by rfl) (by rfl) (by decide) (by decide)) (@qa_nil _ _) (by rfl)) (by decide) (by decide) (by rfl) (by rfl)) (@qa_k _ _ _ _ _ _ (@qe_int _ _ _ _ _) (@qa_nil _ _) (by rfl)) (by rfl)) (by decide) (by decide) (by rfl) (by rfl)) (@qa_nil _ _) (by rfl)) (by rfl)) (@qg_name _ _ _ 2 _ nd rfl (Or.inl rfl) (by first | exact .inl rfl | exact .inr rfl | assumption))
      (@qss_cons _ _ _ _ _ _ _ _ (@qs_set _ _ _ _ _ 3 _ _ nd rfl (Or.inl rfl) (@q_blt _ _ _ _ _ _ _ _ _ (@b_abs _ _) (by rfl) T.b_abs (@qa_k _ _ _ _ _ _ (@q_ix _ _ _ _ _ _ _ rfl (@qw _ _ 0 _ _ (by rfl) (by rfl) (by decide) (by decide)) (@qw _ _ 2 _ _ (by rfl) (by rfl) (by decide) (by decide)) (fun _ _ => rfl)) (@qa_nil _ _) (by rfl)) (by decide) (by decide) (by rfl) (by rfl)) (by rfl) (by first | exact .inl rfl | exact .inr rfl | assumption))
      (@qss_cons _ _ _ _ _ _ _ _ (@qs_if _ _ _ _ _ _ _ _ _ _ _ (@q_tcmp _ _ _ _ _ _ _ _ _ (@c_lt _ _) (@qw _ _ 3 _ _ (by rfl) (by rfl) (by decide) (by decide)) (@q_pow _ _ _ _ _ _ _ (@qe_int _ _ _ _ _) (@qe_int _ _ _ _ _)) (nomark _))
      (@qss_one _ _ _ _ _ (@qs_for _ _ _ _ _ _ _ _ _ _ _ PassesOwn.never rfl (@qi_range1 _ _ _ _ _ _ _ rfl T.b_range (@qa_k _ _ _ _ _ _ (@qe_int _ _ _ _ _) (@qa_nil _ _) (by rfl)) (by rfl)) (@qg_name _ _ _ 4 _ nd rfl (Or.inl rfl) (by first | exact .inl rfl | exact .inr rfl | assumption))
      (@qss_one _ _ _ _ _ (@qs_expr _ _ _ _ _ (@q_append _ _ _ _ _ _ _ _ _ rfl (@qw _ _ 1 _ _ (by rfl) (by rfl) (by decide) (by decide)) (@qa_k _ _ _ _ _ _ (@qe_c _ _ _ _ _ _ _ _ _ _ _ _ _ _ _ h_law_mixed G_law_mixed (hr.mono (by decide)) (@qa_k _ _ _ _ _ _ (@qe_c _ _ _ _ _ _ _ _ _ _ _ _ _ _ _ h_law_mixed G_law_mixed (hr.mono (by decide)) (@qa_k _ _ _ _ _ _ (@qw _ _ 3 _ _ (by rfl) (by rfl) (by decide) (by decide)) (@qa_k _ _ _ _ _ _ (@q_add _ _ _ _ _ _ _ rfl (@q_mul _ _ _ _ _ _ _ rfl (@qe_int _ _ _ _ _) (@qw _ _ 4 _ _ (by rfl) (by rfl) (by decide) (by decide))) (@qe_int _ _ _ _ _)) (@qa_nil _ _) (by rfl)) (by rfl)) (by rfl) (by decide) (by rfl) (by rfl)) (@qa_k _ _ _ _ _ _ (@q_add _ _ _ _ _ _ _ rfl (@q_add _ _ _ _ _ _ _ rfl (@qw _ _ 4 _ _ (by rfl) (by rfl) (by decide) (by decide)) (@qw _ _ 2 _ _ (by rfl) (by rfl) (by decide) (by decide))) (@qe_int _ _ _ _ _)) (@qa_nil _ _) (by rfl)) (by rfl)) (by rfl) (by decide) (by rfl) (by rfl)) (@qa_nil _ _) (by rfl)) (by rfl) (by rfl) (by rfl) (by rfl) (by rfl)) (by rfl))) (by intro _; rfl)))
      (@qss_nil _ _))
      (@qss_cons _ _ _ _ _ _ _ _ (@qs_while _ _ _ _ _ _ _ _ _ PassesOwn.never (@qt_w _ _ _ _ (@qw_and _ _ _ _ _ _ _ _ (@q_tcmp _ _ _ _ _ _ _ _ _ (@c_ge _ _) (@qw _ _ 3 _ _ (by rfl) (by rfl) (by decide) (by decide)) (@q_pow _ _ _ _ _ _ _ (@qe_int _ _ _ _ _) (@qe_int _ _ _ _ _)) (nomark _)) (@qw_and1 _ _ _ _ _ (@q_tcmp _ _ _ _ _ _ _ _ _ (@c_lt _ _) (@q_blt _ _ _ _ _ _ _ _ _ (@b_len _ _ rfl) (by rfl) T.b_len (@qa_k _ _ _ _ _ _ (@qw _ _ 1 _ _ (by rfl) (by rfl) (by decide) (by decide)) (@qa_nil _ _) (by rfl)) (by decide) (by decide) (by rfl) (by rfl)) (@qe_int _ _ _ _ _) (nomark _)))))
      (@qss_cons _ _ _ _ _ _ _ _ (@qs_expr _ _ _ _ _ (@q_append _ _ _ _ _ _ _ _ _ rfl (@qw _ _ 1 _ _ (by rfl) (by rfl) (by decide) (by decide)) (@qa_k _ _ _ _ _ _ (@q_mod _ _ _ _ _ _ _ (@qw _ _ 3 _ _ (by rfl) (by rfl) (by decide) (by decide)) (@qe_int _ _ _ _ _)) (@qa_nil _ _) (by rfl)) (by rfl) (by rfl) (by rfl) (by rfl) (by rfl)) (by rfl))
      (@qss_one _ _ _ _ _ (@qs_set _ _ _ _ _ 3 _ _ nd rfl (Or.inl rfl) (@q_fdiv _ _ _ _ _ _ _ (@qw _ _ 3 _ _ (by rfl) (by rfl) (by decide) (by decide)) (@qe_int _ _ _ _ _)) (by rfl) (by first | exact .inl rfl | exact .inr rfl | assumption)))))
      (@qss_one _ _ _ _ _ (@qs_if _ _ _ _ _ _ _ _ _ _ _ (@q_tcmp _ _ _ _ _ _ _ _ _ (@c_ge _ _) (@qw _ _ 3 _ _ (by rfl) (by rfl) (by decide) (by decide)) (@qe_int _ _ _ _ _) (nomark _))
      (@qss_one _ _ _ _ _ (@qs_expr _ _ _ _ _ (@q_append _ _ _ _ _ _ _ _ _ rfl (@qw _ _ 1 _ _ (by rfl) (by rfl) (by decide) (by decide)) (@qa_k _ _ _ _ _ _ (@q_mod _ _ _ _ _ _ _ (@qw _ _ 3 _ _ (by rfl) (by rfl) (by decide) (by decide)) (@qe_int _ _ _ _ _)) (@qa_nil _ _) (by rfl)) (by rfl) (by rfl) (by rfl) (by rfl) (by rfl)) (by rfl)))
      (@qss_nil _ _)))))) (by intro _; rfl))
      (@qss_one _ _ _ _ _ (@qs_ret _ _ _ _ _ (@qw _ _ 1 _ _ (by rfl) (by rfl) (by decide) (by decide)))))))
noncomputable def b_law_next : FS := (sSeq (sIf (vTest (vOp (gEqD false) (vVar 0) (vLst vNil)))
    (sRet (vC (.int 0)))
    sNil)
    (sRet (vMeth mPopAt (vVar 0) (vCons (vC (.int 0)) vNil))))
noncomputable def m_law_next : FM := mOf 1 0 (([] ++ []) ++ []) b_law_next
theorem sc_law_next : FnScope ["_law_drawn"] ["_law_drawn"] (defScope s_law_next) := ⟨rfl, rfl, rfl, by decide +kernel, rfl, by decide +kernel, by decide +kernel⟩
theorem ok_law_next {P : Program} {w : World} {K : PySem.W.Frag} {mg : Str → Option Value} {base : Heap} {f : Addr} {fd : FuncData} (h : Has K mg "_law_next" s_law_next f fd ["_law_drawn"]) (T : Txt mg)  : FnOk P w K mg base CX0 1 f fd ["_law_drawn"] (spM K 1 m_law_next) := by
  have nd := sc_law_next.nd
  exact h.fn sc_law_next rfl rfl (fun cdv A outer s H E hr => (@qss_cons _ _ _ _ _ _ _ _ (@qs_if _ _ _ _ _ _ _ _ _ _ _ (@q_tcmp _ _ _ _ _ _ _ _ _ (@c_eq _ _ _ rfl hr) (@qw _ _ 0 _ _ (by rfl) (by rfl) (by decide) (by decide)) (@qe_lst _ _ _ _ _ (@qa_nil _ _)) (nomark _))
      (@qss_one _ _ _ _ _ (@qs_ret _ _ _ _ _ (@qe_int _ _ _ _ _)))
      (@qss_nil _ _))
      (@qss_one _ _ _ _ _ (@qs_ret _ _ _ _ _ (@q_popAt _ _ _ _ _ _ _ _ _ rfl (@qw _ _ 0 _ _ (by rfl) (by rfl) (by decide) (by decide)) (@qa_k _ _ _ _ _ _ (@qe_int _ _ _ _ _) (@qa_nil _ _) (by rfl)) (by rfl) (by rfl) (by rfl) (by rfl) (by rfl))))))
noncomputable def c_law_gcd_1 : FT := (vTest (vOp (gEqD true) (vVar 1) (vC (.int 0))))
noncomputable def b_law_gcd_2 : FS := (sPar 0 1 (vCons (vVar 1) (vCons (vOp gMod (vVar 0) (vVar 1)) vNil)))
noncomputable def b_law_gcd : FS := (sSeq (sWhile (2 ^ 4200) c_law_gcd_1 b_law_gcd_2)
    (sRet (vCall (g1 gAbs) (vCons (vVar 0) vNil))))
noncomputable def m_law_gcd : FM := mOf 2 0 ([0, 1] ++ []) b_law_gcd
theorem sc_law_gcd : FnScope ["_law_one", "_law_other"] ["_law_one", "_law_other"] (defScope s_law_gcd) := ⟨rfl, rfl, rfl, by decide +kernel, rfl, by decide +kernel, by decide +kernel⟩
theorem ok_law_gcd {P : Program} {w : World} {K : PySem.W.Frag} {mg : Str → Option Value} {base : Heap} {f : Addr} {fd : FuncData} (h : Has K mg "_law_gcd" s_law_gcd f fd ["_law_one", "_law_other"]) (T : Txt mg)  : FnOk P w K mg base CX0 1 f fd ["_law_one", "_law_other"] (spM K 2 m_law_gcd) := by
  have nd := sc_law_gcd.nd
  exact h.fn sc_law_gcd rfl rfl (fun cdv A outer s H E hr => (@qss_cons _ _ _ _ _ _ _ _ (@qs_while _ _ _ _ _ _ _ _ _ PassesOwn.never (@q_tcmp _ _ _ _ _ _ _ _ _ (@c_ne _ _ _ rfl hr) (@qw _ _ 1 _ _ (by rfl) (by rfl) (by decide) (by decide)) (@qe_int _ _ _ _ _) (nomark _))
      (@qss_one _ _ _ _ _ (@qs_par _ _ _ _ _ 0 1 _ _ _ _ _ _ _ _ _ rfl nd rfl rfl (by decide) rfl rfl (@qa_k _ _ _ _ _ _ (@qw _ _ 1 _ _ (by rfl) (by rfl) (by decide) (by decide)) (@qa_k _ _ _ _ _ _ (@q_mod _ _ _ _ _ _ _ (@qw _ _ 0 _ _ (by rfl) (by rfl) (by decide) (by decide)) (@qw _ _ 1 _ _ (by rfl) (by rfl) (by decide) (by decide))) (@qa_nil _ _) (by rfl)) (by rfl)) (by rfl) (by rfl))))
      (@qss_one _ _ _ _ _ (@qs_ret _ _ _ _ _ (@q_blt _ _ _ _ _ _ _ _ _ (@b_abs _ _) (by rfl) T.b_abs (@qa_k _ _ _ _ _ _ (@qw _ _ 0 _ _ (by rfl) (by rfl) (by decide) (by decide)) (@qa_nil _ _) (by rfl)) (by decide) (by decide) (by rfl) (by rfl))))))
noncomputable def b_law_low : FS := (sSeq (sSet 2 (vFn 2 m_law_gcd (vCons (vVar 0) (vCons (vVar 1) vNil))))
    (sRet (vTup (vCons (vOp gFdiv (vVar 0) (vVar 2)) (vCons (vOp gFdiv (vVar 1) (vVar 2)) vNil)))))
noncomputable def m_law_low : FM := mOf 2 1 ([2] ++ []) b_law_low
theorem sc_law_low : FnScope ["_law_top", "_law_bottom", "_law_common"] ["_law_top", "_law_bottom"] (defScope s_law_low) := ⟨rfl, rfl, rfl, by decide +kernel, rfl, by decide +kernel, by decide +kernel⟩
theorem ok_law_low {P : Program} {w : World} {K : PySem.W.Frag} {mg : Str → Option Value} {base : Heap} {f : Addr} {fd : FuncData} (h : Has K mg "_law_low" s_law_low f fd ["_law_top", "_law_bottom"]) (T : Txt mg) {f_law_gcd : Addr} {e_law_gcd : FuncData} (h_law_gcd : Has K mg "_law_gcd" s_law_gcd f_law_gcd e_law_gcd ["_law_one", "_law_other"]) (G_law_gcd : FnOk P w K mg base CX0 1 f_law_gcd e_law_gcd ["_law_one", "_law_other"] (spM K 2 m_law_gcd)) : FnOk P w K mg base CX0 2 f fd ["_law_top", "_law_bottom"] (spM K 2 m_law_low) := by
  have nd := sc_law_low.nd
  exact h.fn sc_law_low rfl rfl (fun cdv A outer s H E hr => (@qss_cons _ _ _ _ _ _ _ _ (@qs_set _ _ _ _ _ 2 _ _ nd rfl (Or.inl rfl) (@qe_c _ _ _ _ _ _ _ _ _ _ _ _ _ _ _ h_law_gcd G_law_gcd (hr.mono (by decide)) (@qa_k _ _ _ _ _ _ (@qw _ _ 0 _ _ (by rfl) (by rfl) (by decide) (by decide)) (@qa_k _ _ _ _ _ _ (@qw _ _ 1 _ _ (by rfl) (by rfl) (by decide) (by decide)) (@qa_nil _ _) (by rfl)) (by rfl)) (by rfl) (by decide) (by rfl) (by rfl)) (by rfl) (by first | exact .inl rfl | exact .inr rfl | assumption))
      (@qss_one _ _ _ _ _ (@qs_ret _ _ _ _ _ (@qe_tup _ _ _ _ _ _ (@qa_k _ _ _ _ _ _ (@q_fdiv _ _ _ _ _ _ _ (@qw _ _ 0 _ _ (by rfl) (by rfl) (by decide) (by decide)) (@qw _ _ 2 _ _ (by rfl) (by rfl) (by decide) (by decide))) (@qa_k _ _ _ _ _ _ (@q_fdiv _ _ _ _ _ _ _ (@qw _ _ 1 _ _ (by rfl) (by rfl) (by decide) (by decide)) (@qw _ _ 2 _ _ (by rfl) (by rfl) (by decide) (by decide))) (@qa_nil _ _) (by rfl)) (by rfl)))))))
noncomputable def b_law_same : FS := (sRet (vOp (gEqD false) (vCall (g1 gRepr) (vCons (vVar 0) vNil)) (vCall (g1 gRepr) (vCons (vVar 1) vNil))))
noncomputable def m_law_same : FM := mOf 2 0 [] b_law_same
theorem sc_law_same : FnScope ["_law_found", "_law_due"] ["_law_found", "_law_due"] (defScope s_law_same) := ⟨rfl, rfl, rfl, by decide +kernel, rfl, by decide +kernel, by decide +kernel⟩
theorem ok_law_same {P : Program} {w : World} {K : PySem.W.Frag} {mg : Str → Option Value} {base : Heap} {f : Addr} {fd : FuncData} (h : Has K mg "_law_same" s_law_same f fd ["_law_found", "_law_due"]) (T : Txt mg)  : FnOk P w K mg base CX0 1 f fd ["_law_found", "_law_due"] (spM K 2 m_law_same) := by
  have nd := sc_law_same.nd
  exact h.fn sc_law_same rfl rfl (fun cdv A outer s H E hr => (@qss_one _ _ _ _ _ (@qs_ret _ _ _ _ _ (@q_cmp _ _ _ _ _ _ _ _ _ (@c_eq _ _ _ rfl hr) (@q_blt _ _ _ _ _ _ _ _ _ (@b_repr _ _ _ rfl hr) (by rfl) T.b_repr (@qa_k _ _ _ _ _ _ (@qw _ _ 0 _ _ (by rfl) (by rfl) (by decide) (by decide)) (@qa_nil _ _) (by rfl)) (by decide) (by decide) (by rfl) (by rfl)) (@q_blt _ _ _ _ _ _ _ _ _ (@b_repr _ _ _ rfl hr) (by rfl) T.b_repr (@qa_k _ _ _ _ _ _ (@qw _ _ 1 _ _ (by rfl) (by rfl) (by decide) (by decide)) (@qa_nil _ _) (by rfl)) (by decide) (by decide) (by rfl) (by rfl)) (nomark _)))))
noncomputable def b_law_chance : FS := (sSeq (sIf (vTest (vOp (gEqD false) (vVar 1) (vC (.int 0))))
    (sRet (vOp gIx (vLst (vCons (vTup (vCons (vC (.int 1)) (vCons (vC (.int 2)) vNil))) (vCons (vTup (vCons (vC (.int 1)) (vCons (vC (.int 3)) vNil))) (vCons (vTup (vCons (vC (.int 2)) (vCons (vC (.int 3)) vNil))) (vCons (vTup (vCons (vC (.int 1)) (vCons (vC (.int 1)) vNil))) (vCons (vTup (vCons (vC (.int 0)) (vCons (vC (.int 1)) vNil))) (vCons (vTup (vCons (vC (.int 3)) (vCons (vC (.int 4)) vNil))) vNil))))))) (vOp gMod (vVar 0) (vC (.int 6)))))
    sNil)
    (sSeq (sIf (vTest (vOp (gEqD false) (vVar 1) (vC (.int 1))))
    (sSeq (sSet 2 (vOp gAdd (vC (.int 2)) (vOp gMod (vVar 0) (vC (.int 9)))))
    (sRet (vFn 2 m_law_low (vCons (vOp gAdd (vC (.int 1)) (vOp gMod (vOp gFdiv (vVar 0) (vC (.int 9))) (vOp gMinus (vVar 2) (vC (.int 1))))) (vCons (vVar 2) vNil)))))
    sNil)
    (sSeq (sIf (vTest (vOp (gEqD false) (vVar 1) (vC (.int 2))))
    (sSeq (sSet 2 (vOp gAdd (vC (.int 1)) (vOp gMod (vVar 0) (vC (.int 100)))))
    (sRet (vFn 2 m_law_low (vCons (vOp gMod (vOp gFdiv (vVar 0) (vC (.int 100))) (vOp gAdd (vVar 2) (vC (.int 1)))) (vCons (vVar 2) vNil)))))
    sNil)
    (sRet (vTup (vCons (vC (.int 1)) (vCons (vC (.int 1)) vNil)))))))
noncomputable def m_law_chance : FM := mOf 2 1 (([] ++ []) ++ ((([2] ++ []) ++ []) ++ ((([2] ++ []) ++ []) ++ []))) b_law_chance
theorem sc_law_chance : FnScope ["_law_number", "_law_kind", "_law_bottom"] ["_law_number", "_law_kind"] (defScope s_law_chance) := ⟨rfl, rfl, rfl, by decide +kernel, rfl, by decide +kernel, by decide +kernel⟩
theorem ok_law_chance {P : Program} {w : World} {K : PySem.W.Frag} {mg : Str → Option Value} {base : Heap} {f : Addr} {fd : FuncData} (h : Has K mg "_law_chance" s_law_chance f fd ["_law_number", "_law_kind"]) (T : Txt mg) {f_law_low : Addr} {e_law_low : FuncData} (h_law_low : Has K mg "_law_low" s_law_low f_law_low e_law_low ["_law_top", "_law_bottom"]) (G_law_low : FnOk P w K mg base CX0 2 f_law_low e_law_low ["_law_top", "_law_bottom"] (spM K 2 m_law_low)) : FnOk P w K mg base CX0 3 f fd ["_law_number", "_law_kind"] (spM K 2 m_law_chance) := by
  have nd := sc_law_chance.nd
  exact h.fn sc_law_chance rfl rfl (fun cdv A outer s H E hr => (@qss_cons _ _ _ _ _ _ _ _ (@qs_if _ _ _ _ _ _ _ _ _ _ _ (@q_tcmp _ _ _ _ _ _ _ _ _ (@c_eq _ _ _ rfl hr) (@qw _ _ 1 _ _ (by rfl) (by rfl) (by decide) (by decide)) (@qe_int _ _ _ _ _) (nomark _))
      (@qss_one _ _ _ _ _ (@qs_ret _ _ _ _ _ (@q_ix _ _ _ _ _ _ _ rfl (@qe_lst _ _ _ _ _ (@qa_k _ _ _ _ _ _ (@qe_tup _ _ _ _ _ _ (@qa_k _ _ _ _ _ _ (@qe_int _ _ _ _ _) (@qa_k _ _ _ _ _ _ (@qe_int _ _ _ _ _) (@qa_nil _ _) (by rfl)) (by rfl))) (@qa_k _ _ _ _ _ _ (@qe_tup _ _ _ _ _ _ (@qa_k _ _ _ _ _ _ (@qe_int _ _ _ _ _) (@qa_k _ _ _ _ _ _ (@qe_int _ _ _ _ _) (@qa_nil _ _) (by rfl)) (by rfl))) (@qa_k _ _ _ _ _ _ (@qe_tup _ _ _ _ _ _ (@qa_k _ _ _ _ _ _ (@qe_int _ _ _ _ _) (@qa_k _ _ _ _ _ _ (@qe_int _ _ _ _ _) (@qa_nil _ _) (by rfl)) (by rfl))) (@qa_k _ _ _ _ _ _ (@qe_tup _ _ _ _ _ _ (@qa_k _ _ _ _ _ _ (@qe_int _ _ _ _ _) (@qa_k _ _ _ _ _ _ (@qe_int _ _ _ _ _) (@qa_nil _ _) (by rfl)) (by rfl))) (@qa_k _ _ _ _ _ _ (@qe_tup _ _ _ _ _ _ (@qa_k _ _ _ _ _ _ (@qe_int _ _ _ _ _) (@qa_k _ _ _ _ _ _ (@qe_int _ _ _ _ _) (@qa_nil _ _) (by rfl)) (by rfl))) (@qa_k _ _ _ _ _ _ (@qe_tup _ _ _ _ _ _ (@qa_k _ _ _ _ _ _ (@qe_int _ _ _ _ _) (@qa_k _ _ _ _ _ _ (@qe_int _ _ _ _ _) (@qa_nil _ _) (by rfl)) (by rfl))) (@qa_nil _ _) (by rfl)) (by rfl)) (by rfl)) (by rfl)) (by rfl)) (by rfl))) (@q_mod _ _ _ _ _ _ _ (@qw _ _ 0 _ _ (by rfl) (by rfl) (by decide) (by decide)) (@qe_int _ _ _ _ _)) (fun _ _ => rfl))))
      (@qss_nil _ _))
      (@qss_cons _ _ _ _ _ _ _ _ (@qs_if _ _ _ _ _ _ _ _ _ _ _ (@q_tcmp _ _ _ _ _ _ _ _ _ (@c_eq _ _ _ rfl hr) (@qw _ _ 1 _ _ (by rfl) (by rfl) (by decide) (by decide)) (@qe_int _ _ _ _ _) (nomark _))
      (@qss_cons _ _ _ _ _ _ _ _ (@qs_set _ _ _ _ _ 2 _ _ nd rfl (Or.inl rfl) (@q_add _ _ _ _ _ _ _ rfl (@qe_int _ _ _ _ _) (@q_mod _ _ _ _ _ _ _ (@qw _ _ 0 _ _ (by rfl) (by rfl) (by decide) (by decide)) (@qe_int _ _ _ _ _))) (by rfl) (by first | exact .inl rfl | exact .inr rfl | assumption))
      (@qss_one _ _ _ _ _ (@qs_ret _ _ _ _ _ (@qe_c _ _ _ _ _ _ _ _ _ _ _ _ _ _ _ h_law_low G_law_low (hr.mono (by decide)) (@qa_k _ _ _ _ _ _ (@q_add _ _ _ _ _ _ _ rfl (@qe_int _ _ _ _ _) (@q_mod _ _ _ _ _ _ _ (@q_fdiv _ _ _ _ _ _ _ (@qw _ _ 0 _ _ (by rfl) (by rfl) (by decide) (by decide)) (@qe_int _ _ _ _ _)) (@q_sub _ _ _ _ _ _ _ (@qw _ _ 2 _ _ (by rfl) (by rfl) (by decide) (by decide)) (@qe_int _ _ _ _ _)))) (@qa_k _ _ _ _ _ _ (@qw _ _ 2 _ _ (by rfl) (by rfl) (by decide) (by decide)) (@qa_nil _ _) (by rfl)) (by rfl)) (by rfl) (by decide) (by rfl) (by rfl)))))
      (@qss_nil _ _))
      (@qss_cons _ _ _ _ _ _ _ _ (@qs_if _ _ _ _ _ _ _ _ _ _ _ (@q_tcmp _ _ _ _ _ _ _ _ _ (@c_eq _ _ _ rfl hr) (@qw _ _ 1 _ _ (by rfl) (by rfl) (by decide) (by decide)) (@qe_int _ _ _ _ _) (nomark _))
      (@qss_cons _ _ _ _ _ _ _ _ (@qs_set _ _ _ _ _ 2 _ _ nd rfl (Or.inl rfl) (@q_add _ _ _ _ _ _ _ rfl (@qe_int _ _ _ _ _) (@q_mod _ _ _ _ _ _ _ (@qw _ _ 0 _ _ (by rfl) (by rfl) (by decide) (by decide)) (@qe_int _ _ _ _ _))) (by rfl) (by first | exact .inl rfl | exact .inr rfl | assumption))
      (@qss_one _ _ _ _ _ (@qs_ret _ _ _ _ _ (@qe_c _ _ _ _ _ _ _ _ _ _ _ _ _ _ _ h_law_low G_law_low (hr.mono (by decide)) (@qa_k _ _ _ _ _ _ (@q_mod _ _ _ _ _ _ _ (@q_fdiv _ _ _ _ _ _ _ (@qw _ _ 0 _ _ (by rfl) (by rfl) (by decide) (by decide)) (@qe_int _ _ _ _ _)) (@q_add _ _ _ _ _ _ _ rfl (@qw _ _ 2 _ _ (by rfl) (by rfl) (by decide) (by decide)) (@qe_int _ _ _ _ _))) (@qa_k _ _ _ _ _ _ (@qw _ _ 2 _ _ (by rfl) (by rfl) (by decide) (by decide)) (@qa_nil _ _) (by rfl)) (by rfl)) (by rfl) (by decide) (by rfl) (by rfl)))))
      (@qss_nil _ _))
      (@qss_one _ _ _ _ _ (@qs_ret _ _ _ _ _ (@qe_tup _ _ _ _ _ _ (@qa_k _ _ _ _ _ _ (@qe_int _ _ _ _ _) (@qa_k _ _ _ _ _ _ (@qe_int _ _ _ _ _) (@qa_nil _ _) (by rfl)) (by rfl)))))))))
noncomputable def b_law_worth : FS := (sRet (vOp gIx (vLst (vCons (vOp gMod (vVar 0) (vC (.int 7))) (vCons (vOp gAdd (vC (.int 5)) (vOp gMod (vVar 0) (vC (.int 2)))) (vCons (vOp gMod (vVar 0) (vC (.int 1001))) (vCons (vOp gMinus (vC (.int 1000)) (vOp gMod (vVar 0) (vC (.int 3)))) vNil))))) (vOp gMod (vVar 1) (vC (.int 4)))))
noncomputable def m_law_worth : FM := mOf 2 0 [] b_law_worth
theorem sc_law_worth : FnScope ["_law_number", "_law_kind"] ["_law_number", "_law_kind"] (defScope s_law_worth) := ⟨rfl, rfl, rfl, by decide +kernel, rfl, by decide +kernel, by decide +kernel⟩
theorem ok_law_worth {P : Program} {w : World} {K : PySem.W.Frag} {mg : Str → Option Value} {base : Heap} {f : Addr} {fd : FuncData} (h : Has K mg "_law_worth" s_law_worth f fd ["_law_number", "_law_kind"]) (T : Txt mg)  : FnOk P w K mg base CX0 1 f fd ["_law_number", "_law_kind"] (spM K 2 m_law_worth) := by
  have nd := sc_law_worth.nd
  exact h.fn sc_law_worth rfl rfl (fun cdv A outer s H E hr => (@qss_one _ _ _ _ _ (@qs_ret _ _ _ _ _ (@q_ix _ _ _ _ _ _ _ rfl (@qe_lst _ _ _ _ _ (@qa_k _ _ _ _ _ _ (@q_mod _ _ _ _ _ _ _ (@qw _ _ 0 _ _ (by rfl) (by rfl) (by decide) (by decide)) (@qe_int _ _ _ _ _)) (@qa_k _ _ _ _ _ _ (@q_add _ _ _ _ _ _ _ rfl (@qe_int _ _ _ _ _) (@q_mod _ _ _ _ _ _ _ (@qw _ _ 0 _ _ (by rfl) (by rfl) (by decide) (by decide)) (@qe_int _ _ _ _ _))) (@qa_k _ _ _ _ _ _ (@q_mod _ _ _ _ _ _ _ (@qw _ _ 0 _ _ (by rfl) (by rfl) (by decide) (by decide)) (@qe_int _ _ _ _ _)) (@qa_k _ _ _ _ _ _ (@q_sub _ _ _ _ _ _ _ (@qe_int _ _ _ _ _) (@q_mod _ _ _ _ _ _ _ (@qw _ _ 0 _ _ (by rfl) (by rfl) (by decide) (by decide)) (@qe_int _ _ _ _ _))) (@qa_nil _ _) (by rfl)) (by rfl)) (by rfl)) (by rfl))) (@q_mod _ _ _ _ _ _ _ (@qw _ _ 1 _ _ (by rfl) (by rfl) (by decide) (by decide)) (@qe_int _ _ _ _ _)) (fun _ _ => rfl)))))
noncomputable def i_law_ties_1 : FI := (iRange1 (vCons (vVar 2) vNil))
noncomputable def b_law_ties_2 : FS := (sSeq (sSet 8 (vFn 1 m_law_next (vCons (vVar 0) vNil)))
    (sSeq (sSet 9 (vOp gIx (vLst (vCons (vOp gMod (vVar 8) (vVar 1)) (vCons (vC (.int 0)) (vCons (vOp gMod (vVar 7) (vVar 1)) (vCons (vOp gMod (vVar 8) (vVar 1)) (vCons (vOp gMod (vVar 8) (vC (.int 2))) (vCons (vOp gMod (vVar 8) (vVar 1)) vNil))))))) (vVar 3)))
    (sSeq (sSet 10 (vOp gMod (vOp gAdd (vOp gAdd (vVar 9) (vC (.int 1))) (vOp gMod (vOp gFdiv (vVar 8) (vC (.int 12))) (vOp gMinus (vVar 1) (vC (.int 1))))) (vVar 1)))
    (sSeq (sIf (vTest (vOp (gEqD false) (vVar 3) (vC (.int 4))))
    (sAsg (vTup (vCons (vC (.int 0)) (vCons (vC (.int 1)) vNil))) (gtTup (gtCons (gtName 9) (gtCons (gtName 10) gtNil))))
    sNil)
    (sSeq (sSet 11 (vFn 1 m_law_next (vCons (vVar 0) vNil)))
    (sSeq (sSet 12 (vTup (vCons (vCall (g2 gMin) (vCons (vVar 9) (vCons (vVar 10) vNil))) (vCons (vCall (g2 gMax) (vCons (vVar 9) (vCons (vVar 10) vNil))) vNil))))
    (sDrop (vMeth mAppend (vVar 6) (vCons (vOp gAdd (vVar 12) (vTup (vCons (vFn 2 m_law_chance (vCons (vVar 11) (vCons (vVar 4) vNil))) (vCons (vFn 2 m_law_worth (vCons (vOp gFdiv (vVar 11) (vC (.int 10007))) (vCons (vVar 5) vNil))) vNil)))) vNil)))))))))
noncomputable def b_law_ties : FS := (sSeq (sSet 3 (vOp gMod (vFn 1 m_law_next (vCons (vVar 0) vNil)) (vC (.int 6))))
    (sSeq (sSet 4 (vOp gMod (vFn 1 m_law_next (vCons (vVar 0) vNil)) (vC (.int 4))))
    (sSeq (sSet 5 (vOp gMod (vFn 1 m_law_next (vCons (vVar 0) vNil)) (vC (.int 4))))
    (sSeq (sSet 6 (vLst vNil))
    (sSeq (sFor ([7] ++ ([8] ++ ([9] ++ ([10] ++ ((([9] ++ ([10] ++ [])) ++ []) ++ ([11] ++ ([12] ++ []))))))) i_law_ties_1 (gtName 7) b_law_ties_2)
    (sRet (vCall (g1 gTuple) (vCons (vVar 6) vNil))))))))
noncomputable def m_law_ties : FM := mOf 3 10 ([3] ++ ([4] ++ ([5] ++ ([6] ++ (([7] ++ ([8] ++ ([9] ++ ([10] ++ ((([9] ++ ([10] ++ [])) ++ []) ++ ([11] ++ ([12] ++ []))))))) ++ []))))) b_law_ties
theorem sc_law_ties : FnScope ["_law_drawn", "_law_things", "_law_many", "_law_shape", "_law_odds", "_law_worths", "_law_found", "_law_k", "_law_number", "_law_one", "_law_other", "_law_cell", "_law_ends"] ["_law_drawn", "_law_things", "_law_many"] (defScope s_law_ties) := ⟨rfl, rfl, rfl, by decide +kernel, rfl, by decide +kernel, by decide +kernel⟩
theorem ok_law_ties {P : Program} {w : World} {K : PySem.W.Frag} {mg : Str → Option Value} {base : Heap} {f : Addr} {fd : FuncData} (h : Has K mg "_law_ties" s_law_ties f fd ["_law_drawn", "_law_things", "_law_many"]) (T : Txt mg) {f_law_next : Addr} {e_law_next : FuncData} (h_law_next : Has K mg "_law_next" s_law_next f_law_next e_law_next ["_law_drawn"]) (G_law_next : FnOk P w K mg base CX0 1 f_law_next e_law_next ["_law_drawn"] (spM K 1 m_law_next)) {f_law_chance : Addr} {e_law_chance : FuncData} (h_law_chance : Has K mg "_law_chance" s_law_chance f_law_chance e_law_chance ["_law_number", "_law_kind"]) (G_law_chance : FnOk P w K mg base CX0 3 f_law_chance e_law_chance ["_law_number", "_law_kind"] (spM K 2 m_law_chance)) {f_law_worth : Addr} {e_law_worth : FuncData} (h_law_worth : Has K mg "_law_worth" s_law_worth f_law_worth e_law_worth ["_law_number", "_law_kind"]) (G_law_worth : FnOk P w K mg base CX0 1 f_law_worth e_law_worth ["_law_number", "_law_kind"] (spM K 2 m_law_worth)) : FnOk P w K mg base CX0 4 f fd ["_law_drawn", "_law_things", "_law_many"] (spM K 3 m_law_ties) := by
  have nd := sc_law_ties.nd
  exact h.fn sc_law_ties rfl rfl (fun cdv A outer s H E hr => (@qss_cons _ _ _ _ _ _ _ _ (@qs_set _ _ _ _ _ 3 _ _ nd rfl (Or.inl rfl) (@q_mod _ _ _ _ _ _ _ (@qe_c _ _ _ _ _ _ _ _ _ _ _ _ _ _ _ h_law_next G_law_next (hr.mono (by decide)) (@qa_k _ _ _ _ _ _ (@qw _ _ 0 _ _ (by rfl) (by rfl) (by decide) (by decide)) (@qa_nil _ _) (by rfl)) (by rfl) (by decide) (by rfl) (by rfl)) (@qe_int _ _ _ _ _)) (by rfl) (by first | exact .inl rfl | exact .inr rfl | assumption))
      (@qss_cons _ _ _ _ _ _ _ _ (@qs_set _ _ _ _ _ 4 _ _ nd rfl (Or.inl rfl) (@q_mod _ _ _ _ _ _ _ (@qe_c _ _ _ _ _ _ _ _ _ _ _ _ _ _ _ h_law_next G_law_next (hr.mono (by decide)) (@qa_k _ _ _ _ _ _ (@qw _ _ 0 _ _ (by rfl) (by rfl) (by decide) (by decide)) (@qa_nil _ _) (by rfl)) (by rfl) (by decide) (by rfl) (by rfl)) (@qe_int _ _ _ _ _)) (by rfl) (by first | exact .inl rfl | exact .inr rfl | assumption))
      (@qss_cons _ _ _ _ _ _ _ _ (@qs_set _ _ _ _ _ 5 _ _ nd rfl (Or.inl rfl) (@q_mod _ _ _ _ _ _ _ (@qe_c _ _ _ _ _ _ _ _ _ _ _ _ _ _ _ h_law_next G_law_next (hr.mono (by decide)) (@qa_k _ _ _ _ _ _ (@qw _ _ 0 _ _ (by rfl) (by rfl) (by decide) (by decide)) (@qa_nil _ _) (by rfl)) (by rfl) (by decide) (by rfl) (by rfl)) (@qe_int _ _ _ _ _)) (by rfl) (by first | exact .inl rfl | exact .inr rfl | assumption))
      (@qss_cons _ _ _ _ _ _ _ _ (@qs_set _ _ _ _ _ 6 _ _ nd rfl (Or.inl rfl) (@qe_lst _ _ _ _ _ (@qa_nil _ _)) (by rfl) (by first | exact .inl rfl | exact .inr rfl | assumption))
      (@qss_cons _ _ _ _ _ _ _ _ (@qs_for _ _ _ _ _ _ _ _ _ _ _ PassesOwn.never rfl (@qi_range1 _ _ _ _ _ _ _ rfl T.b_range (@qa_k _ _ _ _ _ _ (@qw _ _ 2 _ _ (by rfl) (by rfl) (by decide) (by decide)) (@qa_nil _ _) (by rfl)) (by rfl)) (@qg_name _ _ _ 7 _ nd rfl (Or.inl rfl) (by first | exact .inl rfl | exact .inr rfl | assumption))
      (@qss_cons _ _ _ _ _ _ _ _ (@qs_set _ _ _ _ _ 8 _ _ nd rfl (Or.inl rfl) (@qe_c _ _ _ _ _ _ _ _ _ _ _ _ _ _ _ h_law_next G_law_next (hr.mono (by decide)) (@qa_k _ _ _ _ _ _ (@qw _ _ 0 _ _ (by rfl) (by rfl) (by decide) (by decide)) (@qa_nil _ _) (by rfl)) (by rfl) (by decide) (by rfl) (by rfl)) (by rfl) (by first | exact .inl rfl | exact .inr rfl | assumption))
      (@qss_cons _ _ _ _ _ _ _ _ (@qs_set _ _ _ _ _ 9 _ _ nd rfl (Or.inl rfl) (@q_ix _ _ _ _ _ _ _ rfl (@qe_lst _ _ _ _ _ (@qa_k _ _ _ _ _ _ (@q_mod _ _ _ _ _ _ _ (@qw _ _ 8 _ _ (by rfl) (by rfl) (by decide) (by decide)) (@qw _ _ 1 _ _ (by rfl) (by rfl) (by decide) (by decide))) (@qa_k _ _ _ _ _ _ (@qe_int _ _ _ _ _) (@qa_k _ _ _ _ _ _ (@q_mod _ _ _ _ _ _ _ (@qw _ _ 7 _ _ (by rfl) (by rfl) (by decide) (by decide)) (@qw _ _ 1 _ _ (by rfl) (by rfl) (by decide) (by decide))) (@qa_k _ _ _ _ _ _ (@q_mod _ _ _ _ _ _ _ (@qw _ _ 8 _ _ (by rfl) (by rfl) (by decide) (by decide)) (@qw _ _ 1 _ _ (by rfl) (by rfl) (by decide) (by decide))) (@qa_k _ _ _ _ _ _ (@q_mod _ _ _ _ _ _ _ (@qw _ _ 8 _ _ (by rfl) (by rfl) (by decide) (by decide)) (@qe_int _ _ _ _ _)) (@qa_k _ _ _ _ _ _ (@q_mod _ _ _ _ _ _ _ (@qw _ _ 8 _ _ (by rfl) (by rfl) (by decide) (by decide)) (@qw _ _ 1 _ _ (by rfl) (by rfl) (by decide) (by decide))) (@qa_nil _ _) (by rfl)) (by rfl)) (by rfl)) (by rfl)) (by rfl)) (by rfl))) (@qw _ _ 3 _ _ (by rfl) (by rfl) (by decide) (by decide)) (fun _ _ => rfl)) (by rfl) (by first | exact .inl rfl | exact .inr rfl | assumption))
      (@qss_cons _ _ _ _ _ _ _ _ (@qs_set _ _ _ _ _ 10 _ _ nd rfl (Or.inl rfl) (@q_mod _ _ _ _ _ _ _ (@q_add _ _ _ _ _ _ _ rfl (@q_add _ _ _ _ _ _ _ rfl (@qw _ _ 9 _ _ (by rfl) (by rfl) (by decide) (by decide)) (@qe_int _ _ _ _ _)) (@q_mod _ _ _ _ _ _ _ (@q_fdiv _ _ _ _ _ _ _ (@qw _ _ 8 _ _ (by rfl) (by rfl) (by decide) (by decide)) (@qe_int _ _ _ _ _)) (@q_sub _ _ _ _ _ _ _ (@qw _ _ 1 _ _ (by rfl) (by rfl) (by decide) (by decide)) (@qe_int _ _ _ _ _)))) (@qw _ _ 1 _ _ (by rfl) (by rfl) (by decide) (by decide))) (by rfl) (by first | exact .inl rfl | exact .inr rfl | assumption))
      (@qss_cons _ _ _ _ _ _ _ _ (@qs_if _ _ _ _ _ _ _ _ _ _ _ (@q_tcmp _ _ _ _ _ _ _ _ _ (@c_eq _ _ _ rfl hr) (@qw _ _ 3 _ _ (by rfl) (by rfl) (by decide) (by decide)) (@qe_int _ _ _ _ _) (nomark _))
      (@qss_one _ _ _ _ _ (@qs_asg _ _ _ _ _ _ _ _ (@qe_tup _ _ _ _ _ _ (@qa_k _ _ _ _ _ _ (@qe_int _ _ _ _ _) (@qa_k _ _ _ _ _ _ (@qe_int _ _ _ _ _) (@qa_nil _ _) (by rfl)) (by rfl))) (@qg_tup _ _ _ _ _ _ _ _ rfl rfl (@qgs_cons _ _ _ _ _ _ _ _ (@qg_name _ _ _ 9 _ nd rfl (Or.inl rfl) (by first | exact .inl rfl | exact .inr rfl | assumption)) (@qgs_cons _ _ _ _ _ _ _ _ (@qg_name _ _ _ 10 _ nd rfl (Or.inl rfl) (by first | exact .inl rfl | exact .inr rfl | assumption)) (@qgs_nil _ _) (by rfl)) (by rfl)) (gl_cons (gl_cons gl_nil)) (by rfl) (by rfl)) (by rfl) (by rfl) (by rfl)))
      (@qss_nil _ _))
      (@qss_cons _ _ _ _ _ _ _ _ (@qs_set _ _ _ _ _ 11 _ _ nd rfl (Or.inl rfl) (@qe_c _ _ _ _ _ _ _ _ _ _ _ _ _ _ _ h_law_next G_law_next (hr.mono (by decide)) (@qa_k _ _ _ _ _ _ (@qw _ _ 0 _ _ (by rfl) (by rfl) (by decide) (by decide)) (@qa_nil _ _) (by rfl)) (by rfl) (by decide) (by rfl) (by rfl)) (by rfl) (by first | exact .inl rfl | exact .inr rfl | assumption))
      (@qss_cons _ _ _ _ _ _ _ _ (@qs_set _ _ _ _ _ 12 _ _ nd rfl (Or.inl rfl) (@qe_tup _ _ _ _ _ _ (@qa_k _ _ _ _ _ _ (@q_blt _ _ _ _ _ _ _ _ _ (@b_min _ _ rfl) (by rfl) T.b_min (@qa_k _ _ _ _ _ _ (@qw _ _ 9 _ _ (by rfl) (by rfl) (by decide) (by decide)) (@qa_k _ _ _ _ _ _ (@qw _ _ 10 _ _ (by rfl) (by rfl) (by decide) (by decide)) (@qa_nil _ _) (by rfl)) (by rfl)) (by decide) (by decide) (by rfl) (by rfl)) (@qa_k _ _ _ _ _ _ (@q_blt _ _ _ _ _ _ _ _ _ (@b_max _ _ rfl) (by rfl) T.b_max (@qa_k _ _ _ _ _ _ (@qw _ _ 9 _ _ (by rfl) (by rfl) (by decide) (by decide)) (@qa_k _ _ _ _ _ _ (@qw _ _ 10 _ _ (by rfl) (by rfl) (by decide) (by decide)) (@qa_nil _ _) (by rfl)) (by rfl)) (by decide) (by decide) (by rfl) (by rfl)) (@qa_nil _ _) (by rfl)) (by rfl))) (by rfl) (by first | exact .inl rfl | exact .inr rfl | assumption))
      (@qss_one _ _ _ _ _ (@qs_expr _ _ _ _ _ (@q_append _ _ _ _ _ _ _ _ _ rfl (@qw _ _ 6 _ _ (by rfl) (by rfl) (by decide) (by decide)) (@qa_k _ _ _ _ _ _ (@q_add _ _ _ _ _ _ _ rfl (@qw _ _ 12 _ _ (by rfl) (by rfl) (by decide) (by decide)) (@qe_tup _ _ _ _ _ _ (@qa_k _ _ _ _ _ _ (@qe_c _ _ _ _ _ _ _ _ _ _ _ _ _ _ _ h_law_chance G_law_chance (hr.mono (by decide)) (@qa_k _ _ _ _ _ _ (@qw _ _ 11 _ _ (by rfl) (by rfl) (by decide) (by decide)) (@qa_k _ _ _ _ _ _ (@qw _ _ 4 _ _ (by rfl) (by rfl) (by decide) (by decide)) (@qa_nil _ _) (by rfl)) (by rfl)) (by rfl) (by decide) (by rfl) (by rfl)) (@qa_k _ _ _ _ _ _ (@qe_c _ _ _ _ _ _ _ _ _ _ _ _ _ _ _ h_law_worth G_law_worth (hr.mono (by decide)) (@qa_k _ _ _ _ _ _ (@q_fdiv _ _ _ _ _ _ _ (@qw _ _ 11 _ _ (by rfl) (by rfl) (by decide) (by decide)) (@qe_int _ _ _ _ _)) (@qa_k _ _ _ _ _ _ (@qw _ _ 5 _ _ (by rfl) (by rfl) (by decide) (by decide)) (@qa_nil _ _) (by rfl)) (by rfl)) (by rfl) (by decide) (by rfl) (by rfl)) (@qa_nil _ _) (by rfl)) (by rfl)))) (@qa_nil _ _) (by rfl)) (by rfl) (by rfl) (by rfl) (by rfl) (by rfl)) (by rfl))))))))) (by intro _; rfl))
      (@qss_one _ _ _ _ _ (@qs_ret _ _ _ _ _ (@q_blt _ _ _ _ _ _ _ _ _ (@b_tuple _ _ rfl) (by rfl) T.b_tuple (@qa_k _ _ _ _ _ _ (@qw _ _ 6 _ _ (by rfl) (by rfl) (by decide) (by decide)) (@qa_nil _ _) (by rfl)) (by decide) (by decide) (by rfl) (by rfl))))))))))
noncomputable def i_law_web_1 : FI := (iRange1 (vCons (vVar 3) vNil))
noncomputable def b_law_web_2 : FS := (sDrop (vMeth mAppend (vVar 7) (vCons (vOp gIx (vLst (vCons (vC (.int 20)) (vCons (vOp gAdd (vC (.int 1)) (vOp gMod (vFn 1 m_law_next (vCons (vVar 0) vNil)) (vC (.int 3)))) (vCons (vOp gMod (vFn 1 m_law_next (vCons (vVar 0) vNil)) (vC (.int 21))) vNil)))) (vVar 6)) vNil)))
noncomputable def b_law_web : FS := (sSeq (sSet 3 (vOp gMod (vFn 1 m_law_next (vCons (vVar 0) vNil)) (vOp gAdd (vVar 1) (vC (.int 1)))))
    (sSeq (sSet 4 (vOp gMul (vOp gMod (vFn 1 m_law_next (vCons (vVar 0) vNil)) (vOp gAdd (vVar 2) (vC (.int 1)))) (vCall (g1 gInt) (vCons (vOp gGt (vVar 3) (vC (.int 1))) vNil))))
    (sSeq (sSet 5 (vFn 3 m_law_ties (vCons (vVar 0) (vCons (vCall (g2 gMax) (vCons (vC (.int 2)) (vCons (vVar 3) vNil))) (vCons (vVar 4) vNil)))))
    (sSeq (sSet 6 (vOp gMod (vFn 1 m_law_next (vCons (vVar 0) vNil)) (vC (.int 3))))
    (sSeq (sSet 7 (vLst vNil))
    (sSeq (sFor ([8] ++ []) i_law_web_1 (gtName 8) b_law_web_2)
    (sSeq (sSet 9 (vOp gIx (vLst (vCons (vC (.int 40)) (vCons (vOp gAdd (vC (.int 1)) (vOp gMod (vFn 1 m_law_next (vCons (vVar 0) vNil)) (vCall (g2 gMax) (vCons (vC (.int 1)) (vCons (vVar 4) vNil))))) (vCons (vOp gMod (vFn 1 m_law_next (vCons (vVar 0) vNil)) (vC (.int 41))) vNil)))) (vOp gMod (vFn 1 m_law_next (vCons (vVar 0) vNil)) (vC (.int 3)))))
    (sRet (vTup (vCons (vVar 3) (vCons (vVar 5) (vCons (vCall (g1 gTuple) (vCons (vVar 7) vNil)) (vCons (vVar 9) vNil)))))))))))))
noncomputable def m_law_web : FM := mOf 3 7 ([3] ++ ([4] ++ ([5] ++ ([6] ++ ([7] ++ (([8] ++ []) ++ ([9] ++ []))))))) b_law_web
theorem sc_law_web : FnScope ["_law_drawn", "_law_most", "_law_ties_here", "_law_things", "_law_many", "_law_rows", "_law_way", "_law_patience", "_law_k", "_law_asks"] ["_law_drawn", "_law_most", "_law_ties_here"] (defScope s_law_web) := ⟨rfl, rfl, rfl, by decide +kernel, rfl, by decide +kernel, by decide +kernel⟩
theorem ok_law_web {P : Program} {w : World} {K : PySem.W.Frag} {mg : Str → Option Value} {base : Heap} {f : Addr} {fd : FuncData} (h : Has K mg "_law_web" s_law_web f fd ["_law_drawn", "_law_most", "_law_ties_here"]) (T : Txt mg) {f_law_ties : Addr} {e_law_ties : FuncData} (h_law_ties : Has K mg "_law_ties" s_law_ties f_law_ties e_law_ties ["_law_drawn", "_law_things", "_law_many"]) (G_law_ties : FnOk P w K mg base CX0 4 f_law_ties e_law_ties ["_law_drawn", "_law_things", "_law_many"] (spM K 3 m_law_ties)) {f_law_next : Addr} {e_law_next : FuncData} (h_law_next : Has K mg "_law_next" s_law_next f_law_next e_law_next ["_law_drawn"]) (G_law_next : FnOk P w K mg base CX0 1 f_law_next e_law_next ["_law_drawn"] (spM K 1 m_law_next)) : FnOk P w K mg base CX0 5 f fd ["_law_drawn", "_law_most", "_law_ties_here"] (spM K 3 m_law_web) := by
  have nd := sc_law_web.nd
  exact h.fn sc_law_web rfl rfl (fun cdv A outer s H E hr => (@qss_cons _ _ _ _ _ _ _ _ (@qs_set _ _ _ _ _ 3 _ _ nd rfl (Or.inl rfl) (@q_mod _ _ _ _ _ _ _ (@qe_c _ _ _ _ _ _ _ _ _ _ _ _ _ _ _ h_law_next G_law_next (hr.mono (by decide)) (@qa_k _ _ _ _ _ _ (@qw _ _ 0 _ _ (by rfl) (by rfl) (by decide) (by decide)) (@qa_nil _ _) (by rfl)) (by rfl) (by decide) (by rfl) (by rfl)) (@q_add _ _ _ _ _ _ _ rfl (@qw _ _ 1 _ _ (by rfl) (by rfl) (by decide) (by decide)) (@qe_int _ _ _ _ _))) (by rfl) (by first | exact .inl rfl | exact .inr rfl | assumption))
      (@qss_cons _ _ _ _ _ _ _ _ (@qs_set _ _ _ _ _ 4 _ _ nd rfl (Or.inl rfl) (@q_mul _ _ _ _ _ _ _ rfl (@q_mod _ _ _ _ _ _ _ (@qe_c _ _ _ _ _ _ _ _ _ _ _ _ _ _ _ h_law_next G_law_next (hr.mono (by decide)) (@qa_k _ _ _ _ _ _ (@qw _ _ 0 _ _ (by rfl) (by rfl) (by decide) (by decide)) (@qa_nil _ _) (by rfl)) (by rfl) (by decide) (by rfl) (by rfl)) (@q_add _ _ _ _ _ _ _ rfl (@qw _ _ 2 _ _ (by rfl) (by rfl) (by decide) (by decide)) (@qe_int _ _ _ _ _))) (@q_blt _ _ _ _ _ _ _ _ _ (@b_int _ _) (by rfl) T.b_int (@qa_k _ _ _ _ _ _ (@q_cmp _ _ _ _ _ _ _ _ _ (@c_gt _ _) (@qw _ _ 3 _ _ (by rfl) (by rfl) (by decide) (by decide)) (@qe_int _ _ _ _ _) (nomark _)) (@qa_nil _ _) (by rfl)) (by decide) (by decide) (by rfl) (by rfl))) (by rfl) (by first | exact .inl rfl | exact .inr rfl | assumption))
      (@qss_cons _ _ _ _ _ _ _ _ (@qs_set _ _ _ _ _ 5 _ _ nd rfl (Or.inl rfl) (@qe_c _ _ _ _ _ _ _ _ _ _ _ _ _ _ _ h_law_ties G_law_ties (hr.mono (by decide)) (@qa_k _ _ _ _ _ _ (@qw _ _ 0 _ _ (by rfl) (by rfl) (by decide) (by decide)) (@qa_k _ _ _ _ _ _ (@q_blt _ _ _ _ _ _ _ _ _ (@b_max _ _ rfl) (by rfl) T.b_max (@qa_k _ _ _ _ _ _ (@qe_int _ _ _ _ _) (@qa_k _ _ _ _ _ _ (@qw _ _ 3 _ _ (by rfl) (by rfl) (by decide) (by decide)) (@qa_nil _ _) (by rfl)) (by rfl)) (by decide) (by decide) (by rfl) (by rfl)) (@qa_k _ _ _ _ _ _ (@qw _ _ 4 _ _ (by rfl) (by rfl) (by decide) (by decide)) (@qa_nil _ _) (by rfl)) (by rfl)) (by rfl)) (by rfl) (by decide) (by rfl) (by rfl)) (by rfl) (by first | exact .inl rfl | exact .inr rfl | assumption))
      (@qss_cons _ _ _ _ _ _ _ _ (@qs_set _ _ _ _ _ 6 _ _ nd rfl (Or.inl rfl) (@q_mod _ _ _ _ _ _ _ (@qe_c _ _ _ _ _ _ _ _ _ _ _ _ _ _ _ h_law_next G_law_next (hr.mono (by decide)) (@qa_k _ _ _ _ _ _ (@qw _ _ 0 _ _ (by rfl) (by rfl) (by decide) (by decide)) (@qa_nil _ _) (by rfl)) (by rfl) (by decide) (by rfl) (by rfl)) (@qe_int _ _ _ _ _)) (by rfl) (by first | exact .inl rfl | exact .inr rfl | assumption))
      (@qss_cons _ _ _ _ _ _ _ _ (@qs_set _ _ _ _ _ 7 _ _ nd rfl (Or.inl rfl) (@qe_lst _ _ _ _ _ (@qa_nil _ _)) (by rfl) (by first | exact .inl rfl | exact .inr rfl | assumption))
      (@qss_cons _ _ _ _ _ _ _ _ (@qs_for _ _ _ _ _ _ _ _ _ _ _ PassesOwn.never rfl (@qi_range1 _ _ _ _ _ _ _ rfl T.b_range (@qa_k _ _ _ _ _ _ (@qw _ _ 3 _ _ (by rfl) (by rfl) (by decide) (by decide)) (@qa_nil _ _) (by rfl)) (by rfl)) (@qg_name _ _ _ 8 _ nd rfl (Or.inl rfl) (by first | exact .inl rfl | exact .inr rfl | assumption))
      (@qss_one _ _ _ _ _ (@qs_expr _ _ _ _ _ (@q_append _ _ _ _ _ _ _ _ _ rfl (@qw _ _ 7 _ _ (by rfl) (by rfl) (by decide) (by decide)) (@qa_k _ _ _ _ _ _ (@q_ix _ _ _ _ _ _ _ rfl (@qe_lst _ _ _ _ _ (@qa_k _ _ _ _ _ _ (@qe_int _ _ _ _ _) (@qa_k _ _ _ _ _ _ (@q_add _ _ _ _ _ _ _ rfl (@qe_int _ _ _ _ _) (@q_mod _ _ _ _ _ _ _ (@qe_c _ _ _ _ _ _ _ _ _ _ _ _ _ _ _ h_law_next G_law_next (hr.mono (by decide)) (@qa_k _ _ _ _ _ _ (@qw _ _ 0 _ _ (by rfl) (by rfl) (by decide) (by decide)) (@qa_nil _ _) (by rfl)) (by rfl) (by decide) (by rfl) (by rfl)) (@qe_int _ _ _ _ _))) (@qa_k _ _ _ _ _ _ (@q_mod _ _ _ _ _ _ _ (@qe_c _ _ _ _ _ _ _ _ _ _ _ _ _ _ _ h_law_next G_law_next (hr.mono (by decide)) (@qa_k _ _ _ _ _ _ (@qw _ _ 0 _ _ (by rfl) (by rfl) (by decide) (by decide)) (@qa_nil _ _) (by rfl)) (by rfl) (by decide) (by rfl) (by rfl)) (@qe_int _ _ _ _ _)) (@qa_nil _ _) (by rfl)) (by rfl)) (by rfl))) (@qw _ _ 6 _ _ (by rfl) (by rfl) (by decide) (by decide)) (fun _ _ => rfl)) (@qa_nil _ _) (by rfl)) (by rfl) (by rfl) (by rfl) (by rfl) (by rfl)) (by rfl))) (by intro _; rfl))
      (@qss_cons _ _ _ _ _ _ _ _ (@qs_set _ _ _ _ _ 9 _ _ nd rfl (Or.inl rfl) (@q_ix _ _ _ _ _ _ _ rfl (@qe_lst _ _ _ _ _ (@qa_k _ _ _ _ _ _ (@qe_int _ _ _ _ _) (@qa_k _ _ _ _ _ _ (@q_add _ _ _ _ _ _ _ rfl (@qe_int _ _ _ _ _) (@q_mod _ _ _ _ _ _ _ (@qe_c _ _ _ _ _ _ _ _ _ _ _ _ _ _ _ h_law_next G_law_next (hr.mono (by decide)) (@qa_k _ _ _ _ _ _ (@qw _ _ 0 _ _ (by rfl) (by rfl) (by decide) (by decide)) (@qa_nil _ _) (by rfl)) (by rfl) (by decide) (by rfl) (by rfl)) (@q_blt _ _ _ _ _ _ _ _ _ (@b_max _ _ rfl) (by rfl) T.b_max (@qa_k _ _ _ _ _ _ (@qe_int _ _ _ _ _) (@qa_k _ _ _ _ _ _ (@qw _ _ 4 _ _ (by rfl) (by rfl) (by decide) (by decide)) (@qa_nil _ _) (by rfl)) (by rfl)) (by decide) (by decide) (by rfl) (by rfl)))) (@qa_k _ _ _ _ _ _ (@q_mod _ _ _ _ _ _ _ (@qe_c _ _ _ _ _ _ _ _ _ _ _ _ _ _ _ h_law_next G_law_next (hr.mono (by decide)) (@qa_k _ _ _ _ _ _ (@qw _ _ 0 _ _ (by rfl) (by rfl) (by decide) (by decide)) (@qa_nil _ _) (by rfl)) (by rfl) (by decide) (by rfl) (by rfl)) (@qe_int _ _ _ _ _)) (@qa_nil _ _) (by rfl)) (by rfl)) (by rfl))) (@q_mod _ _ _ _ _ _ _ (@qe_c _ _ _ _ _ _ _ _ _ _ _ _ _ _ _ h_law_next G_law_next (hr.mono (by decide)) (@qa_k _ _ _ _ _ _ (@qw _ _ 0 _ _ (by rfl) (by rfl) (by decide) (by decide)) (@qa_nil _ _) (by rfl)) (by rfl) (by decide) (by rfl) (by rfl)) (@qe_int _ _ _ _ _)) (fun _ _ => rfl)) (by rfl) (by first | exact .inl rfl | exact .inr rfl | assumption))
      (@qss_one _ _ _ _ _ (@qs_ret _ _ _ _ _ (@qe_tup _ _ _ _ _ _ (@qa_k _ _ _ _ _ _ (@qw _ _ 3 _ _ (by rfl) (by rfl) (by decide) (by decide)) (@qa_k _ _ _ _ _ _ (@qw _ _ 5 _ _ (by rfl) (by rfl) (by decide) (by decide)) (@qa_k _ _ _ _ _ _ (@q_blt _ _ _ _ _ _ _ _ _ (@b_tuple _ _ rfl) (by rfl) T.b_tuple (@qa_k _ _ _ _ _ _ (@qw _ _ 7 _ _ (by rfl) (by rfl) (by decide) (by decide)) (@qa_nil _ _) (by rfl)) (by decide) (by decide) (by rfl) (by rfl)) (@qa_k _ _ _ _ _ _ (@qw _ _ 9 _ _ (by rfl) (by rfl) (by decide) (by decide)) (@qa_nil _ _) (by rfl)) (by rfl)) (by rfl)) (by rfl)))))))))))))
noncomputable def i_law_right_1 : FI := (iRvT (vCons (vVar 1) vNil))
noncomputable def b_law_right_2 : FS := (sSet 5 (vFn 2 m_left_out (vCons (vVar 5) (vCons (vTup (vCons (vVar 6) vNil)) vNil))))
noncomputable def i_law_right_3 : FI := (iEnum (vCons (vOp gIx (vVar 0) (vC (.int 1))) vNil))
noncomputable def c_law_right_4 : FT := (vTest (vOp (gIn true) (vVar 1) (vVar 0)))
noncomputable def e_law_right_5 : FE := (vVar 2)
noncomputable def b_law_right : FS := (sSeq (sSet 2 (vCall (g1 gTuple) (vCons (vComp [(1, "_law_some")] 2 i_law_right_3 (gtTup (gtCons (gtName 1) (gtCons (gtName 2) gtNil))) c_law_right_4 e_law_right_5) vNil)))
    (sSeq (sSet 3 (vTup (vCons (vOp gIx (vVar 0) (vC (.int 0))) (vCons (vVar 2) (vCons (vOp gIx (vVar 0) (vC (.int 2))) (vCons (vOp gIx (vVar 0) (vC (.int 3))) vNil))))))
    (sSeq (sSet 4 (vFn 2 m_left_out (vCons (vVar 0) (vCons (vVar 1) vNil))))
    (sSeq (sIf (vOr (vNot (vTest (vFn 2 m_law_same (vCons (vVar 4) (vCons (vVar 3) vNil))))) (vTest (vOp gIsNot (vFn 1 m_is_web (vCons (vVar 4) vNil)) (vC (.bool true)))))
    (sRet (vC (.bool false)))
    sNil)
    (sSeq (sSet 5 (vVar 0))
    (sSeq (sFor ([6] ++ [5]) i_law_right_1 (gtName 6) b_law_right_2)
    (sRet (vFn 2 m_law_same (vCons (vVar 5) (vCons (vVar 3) vNil))))))))))
noncomputable def m_law_right : FM := mOf 2 5 ([2] ++ ([3] ++ ([4] ++ (([] ++ []) ++ ([5] ++ (([6] ++ [5]) ++ [])))))) b_law_right
theorem sc_law_right : FnScope ["_law_web_here", "_law_some", "_law_kept", "_law_due", "_law_found", "_law_one_by_one", "_law_tie"] ["_law_web_here", "_law_some"] (defScope s_law_right) := ⟨rfl, rfl, rfl, by decide +kernel, rfl, by decide +kernel, by decide +kernel⟩
theorem ok_law_right {P : Program} {w : World} {K : PySem.W.Frag} {mg : Str → Option Value} {base : Heap} {f : Addr} {fd : FuncData} (h : Has K mg "_law_right" s_law_right f fd ["_law_web_here", "_law_some"]) (T : Txt mg) {f_left_out : Addr} {e_left_out : FuncData} (h_left_out : Has K mg "left_out" s_left_out f_left_out e_left_out ["web", "ties"]) (G_left_out : FnOk P w K mg base CX0 1 f_left_out e_left_out ["web", "ties"] (spM K 2 m_left_out)) {f_law_same : Addr} {e_law_same : FuncData} (h_law_same : Has K mg "_law_same" s_law_same f_law_same e_law_same ["_law_found", "_law_due"]) (G_law_same : FnOk P w K mg base CX0 1 f_law_same e_law_same ["_law_found", "_law_due"] (spM K 2 m_law_same)) {f_is_web : Addr} {e_is_web : FuncData} (h_is_web : Has K mg "is_web" s_is_web f_is_web e_is_web ["thing"]) (G_is_web : FnOk P w K mg base CX0 7 f_is_web e_is_web ["thing"] (spM K 1 m_is_web)) : FnOk P w K mg base CX0 8 f fd ["_law_web_here", "_law_some"] (spM K 2 m_law_right) := by
  have nd := sc_law_right.nd
  exact h.fn sc_law_right rfl rfl (fun cdv A outer s H E hr => (@qss_cons _ _ _ _ _ _ _ _ (@qs_set _ _ _ _ _ 2 _ _ nd rfl (Or.inl rfl) (@q_blt _ _ _ _ _ _ _ _ _ (@b_tuple _ _ rfl) (by rfl) T.b_tuple (@qa_k _ _ _ _ _ _ (@q_comp _ _ _ _ _ _ _ _ _ _ _ _ _ (defScope s_law_right) ["_law_web_here", "_law_some", "_law_kept", "_law_due", "_law_found", "_law_one_by_one", "_law_tie"] [(1, "_law_some")] ["_law_k", "_law_tie"] rfl rfl rfl (@qi_enum _ _ _ _ _ _ _ _ _ rfl rfl T.b_enumerate (@qa_k _ _ _ _ _ _ (@q_ix _ _ _ _ _ _ _ rfl (@qw _ _ 0 _ _ (by rfl) (by rfl) (by decide) (by decide)) (@qe_int _ _ _ _ _) (fun _ _ => rfl)) (@qa_nil _ _) (by rfl)) (by rfl))
        (fun C s0 H0 fp => (@qg_tup _ _ _ _ _ _ _ _ rfl rfl (@qgs_cons _ _ _ _ _ _ _ _ (@qg_name _ _ _ 1 _ (show List.Nodup (["_law_some", "_law_k", "_law_tie"] : List Str) by decide +kernel) rfl (Or.inl rfl) (by first | exact .inl rfl | exact .inr rfl | assumption)) (@qgs_cons _ _ _ _ _ _ _ _ (@qg_name _ _ _ 2 _ (show List.Nodup (["_law_some", "_law_k", "_law_tie"] : List Str) by decide +kernel) rfl (Or.inl rfl) (by first | exact .inl rfl | exact .inr rfl | assumption)) (@qgs_nil _ _) (by rfl)) (by rfl)) (gl_cons (gl_cons gl_nil)) (by rfl) (by rfl))) (fun C s0 H0 fp => (@qts_one _ _ _ _ (@q_tcmp _ _ _ _ _ _ _ _ _ (@c_notIn _ _ _ rfl hr) (@qw _ _ 1 _ _ (by rfl) (by rfl) (by decide) (by decide)) (@qw _ _ 0 _ _ (by rfl) (by rfl) (by decide) (by decide)) (by with_unfolding_all rfl))))
        (fun C s0 H0 fp => (@qw _ _ 2 _ _ (by rfl) (by rfl) (by decide) (by decide))) rfl (by decide +kernel) (by decide +kernel) (by decide +kernel) (by decide +kernel) (by decide +kernel) (by decide +kernel) (by decide +kernel) (by intro _; rfl)) (@qa_nil _ _) (by rfl)) (by decide) (by decide) (by rfl) (by rfl)) (by rfl) (by first | exact .inl rfl | exact .inr rfl | assumption))
      (@qss_cons _ _ _ _ _ _ _ _ (@qs_set _ _ _ _ _ 3 _ _ nd rfl (Or.inl rfl) (@qe_tup _ _ _ _ _ _ (@qa_k _ _ _ _ _ _ (@q_ix _ _ _ _ _ _ _ rfl (@qw _ _ 0 _ _ (by rfl) (by rfl) (by decide) (by decide)) (@qe_int _ _ _ _ _) (fun _ _ => rfl)) (@qa_k _ _ _ _ _ _ (@qw _ _ 2 _ _ (by rfl) (by rfl) (by decide) (by decide)) (@qa_k _ _ _ _ _ _ (@q_ix _ _ _ _ _ _ _ rfl (@qw _ _ 0 _ _ (by rfl) (by rfl) (by decide) (by decide)) (@qe_int _ _ _ _ _) (fun _ _ => rfl)) (@qa_k _ _ _ _ _ _ (@q_ix _ _ _ _ _ _ _ rfl (@qw _ _ 0 _ _ (by rfl) (by rfl) (by decide) (by decide)) (@qe_int _ _ _ _ _) (fun _ _ => rfl)) (@qa_nil _ _) (by rfl)) (by rfl)) (by rfl)) (by rfl))) (by rfl) (by first | exact .inl rfl | exact .inr rfl | assumption))
      (@qss_cons _ _ _ _ _ _ _ _ (@qs_set _ _ _ _ _ 4 _ _ nd rfl (Or.inl rfl) (@qe_c _ _ _ _ _ _ _ _ _ _ _ _ _ _ _ h_left_out G_left_out (hr.mono (by decide)) (@qa_k _ _ _ _ _ _ (@qw _ _ 0 _ _ (by rfl) (by rfl) (by decide) (by decide)) (@qa_k _ _ _ _ _ _ (@qw _ _ 1 _ _ (by rfl) (by rfl) (by decide) (by decide)) (@qa_nil _ _) (by rfl)) (by rfl)) (by rfl) (by decide) (by rfl) (by rfl)) (by rfl) (by first | exact .inl rfl | exact .inr rfl | assumption))
      (@qss_cons _ _ _ _ _ _ _ _ (@qs_if _ _ _ _ _ _ _ _ _ _ _ (@qt_w _ _ _ _ (@qw_or _ _ _ _ _ _ _ _ (@qt_not _ _ _ _ _ (@qt_val _ _ _ _ (@qe_c _ _ _ _ _ _ _ _ _ _ _ _ _ _ _ h_law_same G_law_same (hr.mono (by decide)) (@qa_k _ _ _ _ _ _ (@qw _ _ 4 _ _ (by rfl) (by rfl) (by decide) (by decide)) (@qa_k _ _ _ _ _ _ (@qw _ _ 3 _ _ (by rfl) (by rfl) (by decide) (by decide)) (@qa_nil _ _) (by rfl)) (by rfl)) (by rfl) (by decide) (by rfl) (by rfl)) (by intro _; rfl))) (@qw_or1 _ _ _ _ _ (@q_tcmp _ _ _ _ _ _ _ _ _ (@c_isNot _ _) (@qe_c _ _ _ _ _ _ _ _ _ _ _ _ _ _ _ h_is_web G_is_web (hr.mono (by decide)) (@qa_k _ _ _ _ _ _ (@qw _ _ 4 _ _ (by rfl) (by rfl) (by decide) (by decide)) (@qa_nil _ _) (by rfl)) (by rfl) (by decide) (by rfl) (by rfl)) (@qe_bl _ _ _ _ _) (nomark _)))))
      (@qss_one _ _ _ _ _ (@qs_ret _ _ _ _ _ (@qe_bl _ _ _ _ _)))
      (@qss_nil _ _))
      (@qss_cons _ _ _ _ _ _ _ _ (@qs_set _ _ _ _ _ 5 _ _ nd rfl (Or.inl rfl) (@qw _ _ 0 _ _ (by rfl) (by rfl) (by decide) (by decide)) (by rfl) (by first | exact .inl rfl | exact .inr rfl | assumption))
      (@qss_cons _ _ _ _ _ _ _ _ (@qs_for _ _ _ _ _ _ _ _ _ _ _ PassesOwn.never rfl (@qi_revT _ _ _ _ _ _ _ rfl rfl T.b_reversed (@qa_k _ _ _ _ _ _ (@qw _ _ 1 _ _ (by rfl) (by rfl) (by decide) (by decide)) (@qa_nil _ _) (by rfl)) (by rfl)) (@qg_name _ _ _ 6 _ nd rfl (Or.inl rfl) (by first | exact .inl rfl | exact .inr rfl | assumption))
      (@qss_one _ _ _ _ _ (@qs_set _ _ _ _ _ 5 _ _ nd rfl (Or.inl rfl) (@qe_c _ _ _ _ _ _ _ _ _ _ _ _ _ _ _ h_left_out G_left_out (hr.mono (by decide)) (@qa_k _ _ _ _ _ _ (@qw _ _ 5 _ _ (by rfl) (by rfl) (by decide) (by decide)) (@qa_k _ _ _ _ _ _ (@qe_tup _ _ _ _ _ _ (@qa_k _ _ _ _ _ _ (@qw _ _ 6 _ _ (by rfl) (by rfl) (by decide) (by decide)) (@qa_nil _ _) (by rfl))) (@qa_nil _ _) (by rfl)) (by rfl)) (by rfl) (by decide) (by rfl) (by rfl)) (by rfl) (by first | exact .inl rfl | exact .inr rfl | assumption))) (by intro _; rfl))
      (@qss_one _ _ _ _ _ (@qs_ret _ _ _ _ _ (@qe_c _ _ _ _ _ _ _ _ _ _ _ _ _ _ _ h_law_same G_law_same (hr.mono (by decide)) (@qa_k _ _ _ _ _ _ (@qw _ _ 5 _ _ (by rfl) (by rfl) (by decide) (by decide)) (@qa_k _ _ _ _ _ _ (@qw _ _ 3 _ _ (by rfl) (by rfl) (by decide) (by decide)) (@qa_nil _ _) (by rfl)) (by rfl)) (by rfl) (by decide) (by rfl) (by rfl)))))))))))
noncomputable def i_law_1 : FI := (iSeq (vLst (vCons (vVar 7) (vCons (vTup vNil) (vCons (vTRange (vCons (vVar 5) vNil)) (vCons (vSl (vTRange (vCons (vVar 5) vNil)) (oSome (vUn gNeg (vC (.int 1)))) oNone) (vCons (vSl (vVar 7) oNone (oSome (vC (.int 1)))) vNil)))))))
noncomputable def b_law_2 : FS := (sIf (vNot (vTest (vFn 2 m_law_right (vCons (vVar 3) (vCons (vVar 8) vNil)))))
    (sRet (vC (.bool false)))
    sNil)
noncomputable def i_law_3 : FI := (iRange1 (vCons (vVar 5) vNil))
noncomputable def c_law_4 : FT := (vTest (vOp (gEqD false) (vOp gMod (vOp gShr (vVar 0) (vVar 1)) (vC (.int 2))) (vC (.int 1))))
noncomputable def e_law_5 : FE := (vVar 1)
noncomputable def i_law_6 : FI := (iRange1 (vCons (vC (.int 6)) vNil))
noncomputable def b_law_7 : FS := (sSeq (sSet 3 (vFn 3 m_law_web (vCons (vVar 1) (vCons (vC (.int 12)) (vCons (vC (.int 16)) vNil)))))
    (sSeq (sSet 4 (vCall (g1 gTuple) (vCons (vVar 3) vNil)))
    (sSeq (sSet 5 (vCall (g1 gLen) (vCons (vOp gIx (vVar 3) (vC (.int 1))) vNil)))
    (sSeq (sSet 6 (vFn 1 m_law_next (vCons (vVar 1) vNil)))
    (sSeq (sSet 7 (vCall (g1 gTuple) (vCons (vComp [(6, "_law_number")] 1 i_law_3 (gtName 1) c_law_4 e_law_5) vNil)))
    (sSeq (sFor ([8] ++ ([] ++ [])) i_law_1 (gtName 8) b_law_2)
    (sIf (vNot (vTest (vFn 2 m_law_same (vCons (vVar 3) (vCons (vVar 4) vNil)))))
    (sRet (vC (.bool false)))
    sNil)))))))
noncomputable def b_law : FS := (sSeq (sSet 1 (vFn 1 m_law_draws (vCons (vVar 0) vNil)))
    (sSeq (sFor ([2] ++ ([3] ++ ([4] ++ ([5] ++ ([6] ++ ([7] ++ (([8] ++ ([] ++ [])) ++ ([] ++ [])))))))) i_law_6 (gtName 2) b_law_7)
    (sRet (vC (.bool true)))))
noncomputable def m_law : FM := mOf 1 8 ([1] ++ (([2] ++ ([3] ++ ([4] ++ ([5] ++ ([6] ++ ([7] ++ (([8] ++ ([] ++ [])) ++ ([] ++ [])))))))) ++ [])) b_law
theorem sc_law : FnScope ["_law_script", "_law_drawn", "_law_turn", "_law_web_here", "_law_kept", "_law_many", "_law_number", "_law_some", "_law_row"] ["_law_script"] (defScope s_law) := ⟨rfl, rfl, rfl, by decide +kernel, rfl, by decide +kernel, by decide +kernel⟩
theorem ok_law {P : Program} {w : World} {K : PySem.W.Frag} {mg : Str → Option Value} {base : Heap} {f : Addr} {fd : FuncData} (h : Has K mg "law" s_law f fd ["_law_script"]) (T : Txt mg) {f_law_draws : Addr} {e_law_draws : FuncData} (h_law_draws : Has K mg "_law_draws" s_law_draws f_law_draws e_law_draws ["_law_script"]) (G_law_draws : FnOk P w K mg base CX0 2 f_law_draws e_law_draws ["_law_script"] (spM K 1 m_law_draws)) {f_law_web : Addr} {e_law_web : FuncData} (h_law_web : Has K mg "_law_web" s_law_web f_law_web e_law_web ["_law_drawn", "_law_most", "_law_ties_here"]) (G_law_web : FnOk P w K mg base CX0 5 f_law_web e_law_web ["_law_drawn", "_law_most", "_law_ties_here"] (spM K 3 m_law_web)) {f_law_next : Addr} {e_law_next : FuncData} (h_law_next : Has K mg "_law_next" s_law_next f_law_next e_law_next ["_law_drawn"]) (G_law_next : FnOk P w K mg base CX0 1 f_law_next e_law_next ["_law_drawn"] (spM K 1 m_law_next)) {f_law_same : Addr} {e_law_same : FuncData} (h_law_same : Has K mg "_law_same" s_law_same f_law_same e_law_same ["_law_found", "_law_due"]) (G_law_same : FnOk P w K mg base CX0 1 f_law_same e_law_same ["_law_found", "_law_due"] (spM K 2 m_law_same)) {f_law_right : Addr} {e_law_right : FuncData} (h_law_right : Has K mg "_law_right" s_law_right f_law_right e_law_right ["_law_web_here", "_law_some"]) (G_law_right : FnOk P w K mg base CX0 8 f_law_right e_law_right ["_law_web_here", "_law_some"] (spM K 2 m_law_right)) : FnOk P w K mg base CX0 9 f fd ["_law_script"] (spM K 1 m_law) := by
  have nd := sc_law.nd
  exact h.fn sc_law rfl rfl (fun cdv A outer s H E hr => (@qss_cons _ _ _ _ _ _ _ _ (@qs_set _ _ _ _ _ 1 _ _ nd rfl (Or.inl rfl) (@qe_c _ _ _ _ _ _ _ _ _ _ _ _ _ _ _ h_law_draws G_law_draws (hr.mono (by decide)) (@qa_k _ _ _ _ _ _ (@qw _ _ 0 _ _ (by rfl) (by rfl) (by decide) (by decide)) (@qa_nil _ _) (by rfl)) (by rfl) (by decide) (by rfl) (by rfl)) (by rfl) (by first | exact .inl rfl | exact .inr rfl | assumption))
      (@qss_cons _ _ _ _ _ _ _ _ (@qs_for _ _ _ _ _ _ _ _ _ _ _ PassesOwn.never rfl (@qi_range1 _ _ _ _ _ _ _ rfl T.b_range (@qa_k _ _ _ _ _ _ (@qe_int _ _ _ _ _) (@qa_nil _ _) (by rfl)) (by rfl)) (@qg_name _ _ _ 2 _ nd rfl (Or.inl rfl) (by first | exact .inl rfl | exact .inr rfl | assumption))
      (@qss_cons _ _ _ _ _ _ _ _ (@qs_set _ _ _ _ _ 3 _ _ nd rfl (Or.inl rfl) (@qe_c _ _ _ _ _ _ _ _ _ _ _ _ _ _ _ h_law_web G_law_web (hr.mono (by decide)) (@qa_k _ _ _ _ _ _ (@qw _ _ 1 _ _ (by rfl) (by rfl) (by decide) (by decide)) (@qa_k _ _ _ _ _ _ (@qe_int _ _ _ _ _) (@qa_k _ _ _ _ _ _ (@qe_int _ _ _ _ _) (@qa_nil _ _) (by rfl)) (by rfl)) (by rfl)) (by rfl) (by decide) (by rfl) (by rfl)) (by rfl) (by first | exact .inl rfl | exact .inr rfl | assumption))
      (@qss_cons _ _ _ _ _ _ _ _ (@qs_set _ _ _ _ _ 4 _ _ nd rfl (Or.inl rfl) (@q_blt _ _ _ _ _ _ _ _ _ (@b_tuple _ _ rfl) (by rfl) T.b_tuple (@qa_k _ _ _ _ _ _ (@qw _ _ 3 _ _ (by rfl) (by rfl) (by decide) (by decide)) (@qa_nil _ _) (by rfl)) (by decide) (by decide) (by rfl) (by rfl)) (by rfl) (by first | exact .inl rfl | exact .inr rfl | assumption))
      (@qss_cons _ _ _ _ _ _ _ _ (@qs_set _ _ _ _ _ 5 _ _ nd rfl (Or.inl rfl) (@q_blt _ _ _ _ _ _ _ _ _ (@b_len _ _ rfl) (by rfl) T.b_len (@qa_k _ _ _ _ _ _ (@q_ix _ _ _ _ _ _ _ rfl (@qw _ _ 3 _ _ (by rfl) (by rfl) (by decide) (by decide)) (@qe_int _ _ _ _ _) (fun _ _ => rfl)) (@qa_nil _ _) (by rfl)) (by decide) (by decide) (by rfl) (by rfl)) (by rfl) (by first | exact .inl rfl | exact .inr rfl | assumption))
      (@qss_cons _ _ _ _ _ _ _ _ (@qs_set _ _ _ _ _ 6 _ _ nd rfl (Or.inr rfl) (@qe_c _ _ _ _ _ _ _ _ _ _ _ _ _ _ _ h_law_next G_law_next (hr.mono (by decide)) (@qa_k _ _ _ _ _ _ (@qw _ _ 1 _ _ (by rfl) (by rfl) (by decide) (by decide)) (@qa_nil _ _) (by rfl)) (by rfl) (by decide) (by rfl) (by rfl)) (by rfl) (by first | exact .inl rfl | exact .inr rfl | assumption))
      (@qss_cons _ _ _ _ _ _ _ _ (@qs_set _ _ _ _ _ 7 _ _ nd rfl (Or.inl rfl) (@q_blt _ _ _ _ _ _ _ _ _ (@b_tuple _ _ rfl) (by rfl) T.b_tuple (@qa_k _ _ _ _ _ _ (@q_comp _ _ _ _ _ _ _ _ _ _ _ _ _ (defScope s_law) ["_law_script", "_law_drawn", "_law_turn", "_law_web_here", "_law_kept", "_law_many", "_law_number", "_law_some", "_law_row"] [(6, "_law_number")] ["_law_tie"] rfl rfl rfl (@qi_range1 _ _ _ _ _ _ _ rfl T.b_range (@qa_k _ _ _ _ _ _ (@qw _ _ 5 _ _ (by rfl) (by rfl) (by decide) (by decide)) (@qa_nil _ _) (by rfl)) (by rfl))
        (fun C s0 H0 fp => (@qg_name _ _ _ 1 _ (show List.Nodup (["_law_number", "_law_tie"] : List Str) by decide +kernel) rfl (Or.inl rfl) (by first | exact .inl rfl | exact .inr rfl | assumption))) (fun C s0 H0 fp => (@qts_one _ _ _ _ (@q_tcmp _ _ _ _ _ _ _ _ _ (@c_eq _ _ _ rfl hr) (@q_mod _ _ _ _ _ _ _ (@q_shr _ _ _ _ _ _ _ (@qw _ _ 0 _ _ (by rfl) (by rfl) (by decide) (by decide)) (@qw _ _ 1 _ _ (by rfl) (by rfl) (by decide) (by decide))) (@qe_int _ _ _ _ _)) (@qe_int _ _ _ _ _) (nomark _))))
        (fun C s0 H0 fp => (@qw _ _ 1 _ _ (by rfl) (by rfl) (by decide) (by decide))) rfl (by decide +kernel) (by decide +kernel) (by decide +kernel) (by decide +kernel) (by decide +kernel) (by decide +kernel) (by decide +kernel) (by intro _; rfl)) (@qa_nil _ _) (by rfl)) (by decide) (by decide) (by rfl) (by rfl)) (by rfl) (by first | exact .inl rfl | exact .inr rfl | assumption))
      (@qss_cons _ _ _ _ _ _ _ _ (@qs_for _ _ _ _ _ _ _ _ _ _ _ PassesOwn.never rfl (@qi_seq _ _ _ _ _ rfl (@qe_lst _ _ _ _ _ (@qa_k _ _ _ _ _ _ (@qw _ _ 7 _ _ (by rfl) (by rfl) (by decide) (by decide)) (@qa_k _ _ _ _ _ _ (@qe_tup _ _ _ _ _ _ (@qa_nil _ _)) (@qa_k _ _ _ _ _ _ (@q_tupRange _ _ _ _ _ _ _ _ rfl rfl T.b_tuple rfl T.b_range (@qa_k _ _ _ _ _ _ (@qw _ _ 5 _ _ (by rfl) (by rfl) (by decide) (by decide)) (@qa_nil _ _) (by rfl)) (by rfl) (by rfl)) (@qa_k _ _ _ _ _ _ (@q_slice _ _ _ _ _ _ _ _ _ _ rfl (@q_tupRange _ _ _ _ _ _ _ _ rfl rfl T.b_tuple rfl T.b_range (@qa_k _ _ _ _ _ _ (@qw _ _ 5 _ _ (by rfl) (by rfl) (by decide) (by decide)) (@qa_nil _ _) (by rfl)) (by rfl) (by rfl)) (@qo_some _ _ _ _ (@q_neg _ _ _ _ _ (@qe_int _ _ _ _ _))) (@qo_none _ _)) (@qa_k _ _ _ _ _ _ (@q_slice _ _ _ _ _ _ _ _ _ _ rfl (@qw _ _ 7 _ _ (by rfl) (by rfl) (by decide) (by decide)) (@qo_none _ _) (@qo_some _ _ _ _ (@qe_int _ _ _ _ _))) (@qa_nil _ _) (by rfl)) (by rfl)) (by rfl)) (by rfl)) (by rfl)))) (@qg_name _ _ _ 8 _ nd rfl (Or.inl rfl) (by first | exact .inl rfl | exact .inr rfl | assumption))
      (@qss_one _ _ _ _ _ (@qs_if _ _ _ _ _ _ _ _ _ _ _ (@qt_not _ _ _ _ _ (@qt_val _ _ _ _ (@qe_c _ _ _ _ _ _ _ _ _ _ _ _ _ _ _ h_law_right G_law_right (hr.mono (by decide)) (@qa_k _ _ _ _ _ _ (@qw _ _ 3 _ _ (by rfl) (by rfl) (by decide) (by decide)) (@qa_k _ _ _ _ _ _ (@qw _ _ 8 _ _ (by rfl) (by rfl) (by decide) (by decide)) (@qa_nil _ _) (by rfl)) (by rfl)) (by rfl) (by decide) (by rfl) (by rfl)) (by intro _; rfl)))
      (@qss_one _ _ _ _ _ (@qs_ret _ _ _ _ _ (@qe_bl _ _ _ _ _)))
      (@qss_nil _ _))) (by intro _; rfl))
      (@qss_one _ _ _ _ _ (@qs_if _ _ _ _ _ _ _ _ _ _ _ (@qt_not _ _ _ _ _ (@qt_val _ _ _ _ (@qe_c _ _ _ _ _ _ _ _ _ _ _ _ _ _ _ h_law_same G_law_same (hr.mono (by decide)) (@qa_k _ _ _ _ _ _ (@qw _ _ 3 _ _ (by rfl) (by rfl) (by decide) (by decide)) (@qa_k _ _ _ _ _ _ (@qw _ _ 4 _ _ (by rfl) (by rfl) (by decide) (by decide)) (@qa_nil _ _) (by rfl)) (by rfl)) (by rfl) (by decide) (by rfl) (by rfl)) (by intro _; rfl)))
      (@qss_one _ _ _ _ _ (@qs_ret _ _ _ _ _ (@qe_bl _ _ _ _ _)))
      (@qss_nil _ _))))))))) (by intro _; rfl))
      (@qss_one _ _ _ _ _ (@qs_ret _ _ _ _ _ (@qe_bl _ _ _ _ _))))))
local macro_rules | `(tactic| simp? [$ts,*]) => `(tactic| simp [$ts,*, mOf, noLst, sSeq, sIf, sRet, sNil, sSet, sDrop, sAsg, sPar, putR, vTest, vOp, vUn, vVar, vC, vLst, vNil, vCons, vTup, vCall, vFn, vAnd, vOr, vNot, vIf, vAndV, vOrV, vNotV, vSl, oNone, oSome, vMeth, mAppend, mPop, mPopAt, datas, dat1, boolOf, intOf, endR, upA, gtTup, gtCons, gtName, gtNil, argsOf, slotsOf, lentOk, noSB, backS, gAdd_int, gMinus_int, gEq_int, gLt_int, gLe_int, gGt_int, gGe_int, gMin_int, gMax_int, gNeg_int, gInt_bool, gAbs_int, gIx_l, gIx_t, gIx_dl, gIx_s, gLen_t, gLen_dl, gLen_l, gLen_s, gTuple_s, gTuple_l, gTuple_dl, gTuple_t, gSl_t, atI_c0, atI_c1, atI_c2, atI_c3, cut_2, cut_from2, cut_from1, gIn_ints, gIn_two, List.replicate, -List.map_nil, -List.map_cons, -List.nil_append, -List.cons_append, -Option.bind_some, -Option.map_some, -getElem?_pos, -List.append_nil, ev_mn, ev_mc, ev_an, ev_ac, ev_g0, ev_gs, ev_bs, ev_ms])
theorem em0 {n k : Int} (h : 0 < k) : 0 ≤ n % k := Int.emod_nonneg _ (Int.ne_of_gt h)
theorem em1 {n k : Int} (h : 0 < k) : n % k < k := Int.emod_lt_of_pos _ h
def nx : List Int → Int
  | [] => 0
  | d :: _ => d
def dOk (ds : List Int) : Prop := ∀ d ∈ ds, 0 ≤ d ∧ d < 2147483648
theorem nx_ok {ds : List Int} (h : dOk ds) : 0 ≤ nx ds ∧ nx ds < 2147483648 := by
  cases ds with
  | nil => exact ⟨Int.le_refl 0, by show (0 : Int) < 2147483648; decide⟩
  | cons d r => exact h d (by simp)
theorem tl_ok {ds : List Int} (h : dOk ds) : dOk ds.tail := fun d hd => h d (List.mem_of_mem_tail hd)
theorem t_next (ds : List Int) : m_law_next [.l (ds.map .int)] = some (.d (.int (nx ds)), [.l (ds.tail.map .int)]) := by
  have hq : ∀ e : En, e[0]? = some (some (.l (ds.map .int))) → gEqD false e (.s 0) (.l []) = some (.d (.bool (ds.map PyData.int).isEmpty)) := fun e he => gEq_nilS he (shaped_ints ds).1
  cases ds with
  | nil => simp? [m_law_next, b_law_next, hq, nx]
  | cons d r => simp? [m_law_next, b_law_next, hq, nx]
theorem t_nx {ds : List Int} (hd : dOk ds) : ∃ (n : Int) (ds' : List Int), m_law_next [.l (ds.map .int)] = some (.d (.int n), [.l (ds'.map .int)]) ∧ 0 ≤ n ∧ n < 2147483648 ∧ dOk ds' := ⟨nx ds, ds.tail, t_next ds, (nx_ok hd).1, (nx_ok hd).2, tl_ok hd⟩
theorem t_mixed (cell k : Int) (h0 : 0 ≤ k) (h1 : k ≤ 1000) : ∃ r, m_law_mixed [.d (.int cell), .d (.int k)] = some (.d (.int r), [.d (.int cell), .d (.int k)]) ∧ 0 ≤ r ∧ r < 2147483648 := by
  have a1 : mulB (cell % 2147483647) 48271 = true := mulB_r (by decide) (by decide)
  have a2 : mulB 7919 k = true := mulB_l (by decide) (by decide)
  have a3 : mulB (7919 * k) k = true := mulB_r (by omega) (by omega)
  have a4 : mulB ((cell % 2147483647 * 48271 + 7919 * k * k + 104729) % 2147483647) ((cell % 2147483647 * 48271 + 7919 * k * k + 104729) % 2147483647) = true := mulB_r (by omega) (by omega)
  refine ⟨_, by simp? [m_law_mixed, b_law_mixed, gMod_int, gMul_int, a1, a2, a3, a4]; rfl, ?_, ?_⟩
  · omega
  · omega
theorem dOk_app {ds : List Int} (h : dOk ds) {r : Int} (h0 : 0 ≤ r) (h1 : r < 2147483648) : dOk (ds ++ [r]) := fun d hd => by
  rcases List.mem_append.mp hd with hd | hd
  · exact h d hd
  · simp at hd; subst hd; exact ⟨h0, h1⟩
abbrev dE (ns ds : List Int) (v2 v3 v4 : Option Sv) : En := [some (.d (.list (ns.map .int))), some (.l (ds.map .int)), v2, v3, v4]
theorem t_draws (ns : List Int) (hn : ns.length ≤ 63) : ∃ ds, m_law_draws [.d (.list (ns.map .int))] = some (.l (ds.map .int), [.d (.list (ns.map .int))]) ∧ dOk ds := by
  have inner : ∀ (cell k : Int) (ds : List Int) (v4 : Option Sv), 0 ≤ k → k ≤ 63 → dOk ds → ds.length ≤ 63000 → ∃ ds' v4', (∀ W, sFor W i_law_draws_3 (gtName 4) b_law_draws_4 (dE ns ds (some (.d (.int k))) (some (.d (.int cell))) v4) = some (.nx (dE ns ds' (some (.d (.int k))) (some (.d (.int cell))) v4'))) ∧ dOk ds' ∧ ds'.length = ds.length + 12 := by
    intro cell k ds v4 k0 k1 hd hl
    obtain ⟨e', h1, h2⟩ := forF_inv (own := []) (g := gtName 4) (f := b_law_draws_4) (fun i e => ∃ ds' v4', e = dE ns ds' (some (.d (.int k))) (some (.d (.int cell))) v4' ∧ dOk ds' ∧ ds'.length = ds.length + i) (rangeD 0 12) 0 (dE ns ds (some (.d (.int k))) (some (.d (.int cell))) v4) (fun i x e hx ⟨ds', v4', he, hd', hl'⟩ => by
      obtain ⟨rfl, hi⟩ := rangeD_get hx
      subst he
      obtain ⟨r1, c1, _, _⟩ := t_mixed cell (3 * (0 + (i : Int)) + 1) (by omega) (by omega)
      obtain ⟨r2, c2, c3, c4⟩ := t_mixed r1 (0 + (i : Int) + k + 2) (by omega) (by omega)
      have a1 : mulB 3 (0 + (i : Int)) = true := mulB_l (by decide) (by decide)
      refine ⟨_, dE ns (ds' ++ [r2]) (some (.d (.int k))) (some (.d (.int cell))) (some (.d (.int (0 + (i : Int))))), rfl, ?_, keeps_nil, ds' ++ [r2], _, rfl, dOk_app hd' c3 c4, by simp; omega⟩
      have hlen : ds'.length < 1000000 := by omega
      simp only [Int.zero_add] at a1 c1 c2
      simp? [dE, b_law_draws_4, c1, c2, gMul_int, a1, hlen]) ⟨ds, v4, rfl, hd, rfl⟩
    obtain ⟨ds', v4', he, hd', hl'⟩ := h2
    subst he
    rw [rangeD_len] at hl'
    refine ⟨ds', v4', fun W => ?_, hd', by omega⟩
    rw [sFor_go (show i_law_draws_3 _ = some (rangeD 0 12, [], _) from iRange1_go (n := 12) rfl (by decide) (by decide))]
    exact h1
  have wh : ∀ (cell k : Int) (ds : List Int) (v4 : Option Sv), 0 ≤ cell → dOk ds → ds.length ≤ 63100 → ∃ cell' ds', sWhile (2 ^ 4200) c_law_draws_1 b_law_draws_2 (dE ns ds (some (.d (.int k))) (some (.d (.int cell))) v4) = some (.nx (dE ns ds' (some (.d (.int k))) (some (.d (.int cell'))) v4)) ∧ 0 ≤ cell' ∧ dOk ds' ∧ ds'.length ≤ max ds.length 900 := by
    intro cell k ds v4 hc hd hl
    have tst : ∀ (cell : Int) (ds : List Int), c_law_draws_1 (dE ns ds (some (.d (.int k))) (some (.d (.int cell))) v4) = some (decide (1000000000000000000 ≤ cell) && decide ((ds.length : Int) < 900), dE ns ds (some (.d (.int k))) (some (.d (.int cell))) v4) := by
      intro cell ds
      by_cases h : (1000000000000000000 : Int) ≤ cell
      · simp? [dE, c_law_draws_1, gPow_int, pow10_18, h]
      · simp? [dE, c_law_draws_1, gPow_int, pow10_18, h]
    obtain ⟨e0, e', h1, ⟨cell', ds', he, hc', hd', hl'⟩, h3⟩ := whileF_inv (ft := c_law_draws_1) (f := b_law_draws_2) (fun e => ∃ cell' ds', e = dE ns ds' (some (.d (.int k))) (some (.d (.int cell'))) v4 ∧ 0 ≤ cell' ∧ dOk ds' ∧ ds'.length ≤ max ds.length 900)
      (fun e => 1000000 - lenAt 1 e) (fun e ⟨cell', ds', he, hc', hd', hl'⟩ => by
        subst he
        rw [tst]
        by_cases c1 : (1000000000000000000 : Int) ≤ cell'
        · by_cases c2 : (ds'.length : Int) < 900
          · refine .inr ⟨_, dE ns (ds' ++ [cell' % 2147483629]) (some (.d (.int k))) (some (.d (.int (cell' / 2147483629)))) v4, by rw [decide_eq_true c1, decide_eq_true c2]; rfl, ?_, ⟨cell' / 2147483629, ds' ++ [cell' % 2147483629], rfl, by omega, dOk_app hd' (by omega) (by omega), by simp; omega⟩, ?_⟩
            · have hlen : ds'.length < 1000000 := by omega
              have b8 : Bt 8000 2147483629 := bt_pos (by decide) (by decide)
              simp? [dE, b_law_draws_2, gMod_int, gFdiv_int, b8, hlen]
            · simp [lenAt, dE]; omega
          · exact .inl ⟨_, by rw [decide_eq_true c1, decide_eq_false c2]; rfl, trivial⟩
        · exact .inl ⟨_, by rw [decide_eq_false c1]; rfl, trivial⟩) (2 ^ 4200) _ ⟨cell, ds, rfl, hc, hd, by omega⟩ (lt_fuel (m := 20) (Nat.lt_of_le_of_lt (Nat.sub_le _ _) (by decide)) (by decide))
    subst he
    rw [tst] at h3
    have h4 := (Prod.mk.inj (Option.some.inj h3)).2
    subst h4
    exact ⟨cell', ds', h1, hc', hd', hl'⟩
  have turn : ∀ (i : Nat) (ds : List Int) (v3 v4 : Option Sv) (hi : i < ns.length), dOk ds → ds.length ≤ 1000 * i → ∃ ds2 v3' v4', b_law_draws_6 (dE ns ds (some (.d (.int (i : Int)))) v3 v4) = some (.nx (dE ns ds2 (some (.d (.int (i : Int)))) v3' v4')) ∧ dOk ds2 ∧ ds2.length ≤ 1000 * (i + 1) := by
    intro i ds v3 v4 hi hd hl
    have hcell : atI (ns.map PyData.int) (i : Int) = some (.int ns[i]) := by
      rw [atI_ix (by omega) (by rw [List.length_map]; omega)]
      simp [hi]
    have c0 : (0 : Int) ≤ (ns[i].natAbs : Int) := by omega
    have st : sSet 3 (vCall (g1 gAbs) (vCons (vOp gIx (vVar 0) (vVar 2)) vNil)) (dE ns ds (some (.d (.int (i : Int)))) v3 v4) = some (.nx (dE ns ds (some (.d (.int (i : Int)))) (some (.d (.int (ns[i].natAbs : Int)))) v4)) := by
      simp? [dE, hcell]
    generalize (ns[i].natAbs : Int) = cell at c0 st
    have mid : ∃ ds1 v4', sIf (vTest (vOp gLt (vVar 3) (vOp gPow (vC (.int 10)) (vC (.int 18))))) (sFor ([4] ++ []) i_law_draws_3 (gtName 4) b_law_draws_4) sNil (dE ns ds (some (.d (.int (i : Int)))) (some (.d (.int cell))) v4) = some (.nx (dE ns ds1 (some (.d (.int (i : Int)))) (some (.d (.int cell))) v4')) ∧ dOk ds1 ∧ ds1.length ≤ ds.length + 12 := by
      by_cases cb : cell < 1000000000000000000
      · obtain ⟨ds1, v4', f1, f2, f3⟩ := inner cell (i : Int) ds v4 (by omega) (by omega) hd (by omega)
        refine ⟨ds1, v4', ?_, f2, by omega⟩
        rw [sIf_t (e1 := dE ns ds (some (.d (.int (i : Int)))) (some (.d (.int cell))) v4) (by simp? [dE, gPow_int, pow10_18, cb])]
        exact f1 _
      · refine ⟨ds, v4, ?_, hd, by omega⟩
        rw [sIf_f (e1 := dE ns ds (some (.d (.int (i : Int)))) (some (.d (.int cell))) v4) (by simp? [dE, gPow_int, pow10_18, cb])]
        rfl
    obtain ⟨ds1, v4', m1, m2, m3⟩ := mid
    obtain ⟨cell2, ds2, w1, w2, w3, w4⟩ := wh cell (i : Int) ds1 v4' c0 m2 (by omega)
    by_cases c2 : (2147483629 : Int) ≤ cell2
    · refine ⟨ds2 ++ [cell2 % 2147483629], some (.d (.int cell2)), v4', ?_, dOk_app w3 (by omega) (by omega), by simp; omega⟩
      have hlen : ds2.length < 1000000 := by omega
      unfold b_law_draws_6
      rw [sSeq_nx st, sSeq_nx m1, sSeq_nx w1]
      simp? [dE, c2, gMod_int, hlen]
    · refine ⟨ds2, some (.d (.int cell2)), v4', ?_, w3, by omega⟩
      unfold b_law_draws_6
      rw [sSeq_nx st, sSeq_nx m1, sSeq_nx w1]
      simp? [dE, c2]
  obtain ⟨e', h1, ⟨ds, v2, v3, v4, he, hd, hl⟩⟩ := forF_inv (own := []) (g := gtName 2) (f := b_law_draws_6) (fun i e => ∃ ds v2 v3 v4, e = dE ns ds v2 v3 v4 ∧ dOk ds ∧ ds.length ≤ 1000 * i) (rangeD 0 (min (ns.length : Int) 63).toNat) 0 (dE ns [] none none none) (fun i x e hx ⟨ds, v2, v3, v4, he, hd, hl⟩ => by
    obtain ⟨rfl, hi⟩ := rangeD_get hx
    subst he
    rw [Nat.zero_add] at hl ⊢
    obtain ⟨ds2, v3', v4', t1, t2, t3⟩ := turn i ds v3 v4 (by omega) hd hl
    exact ⟨dE ns ds (some (.d (.int (i : Int)))) v3 v4, _, by simp [gtName, dE], t1, keeps_nil, ds2, _, _, _, rfl, t2, t3⟩) ⟨[], none, none, none, rfl, (fun d hd => by cases hd), by simp⟩
  subst he
  refine ⟨ds, ?_, hd⟩
  have hf : ∀ W, sFor W i_law_draws_5 (gtName 2) b_law_draws_6 (dE ns [] none none none) = some (.nx (dE ns ds v2 v3 v4)) := fun W => by
    rw [sFor_go (show i_law_draws_5 _ = some (rangeD 0 (min (ns.length : Int) 63).toNat, [], dE ns [] none none none) from iRange1_go (n := min (ns.length : Int) 63) (by simp? [dE]) (by omega) (by omega))]
    exact h1
  unfold dE at hf
  simp only [List.map_nil] at hf
  simp? [m_law_draws, b_law_draws, hf]
theorem t_gcd (a b : Int) (hb : Bt 4000 b) : m_law_gcd [.d (.int a), .d (.int b)] = some (.d (.int (Int.gcd a b)), [.d (.int a), .d (.int b)]) := by
  have tst : ∀ x y : Int, c_law_gcd_1 [some (.d (.int x)), some (.d (.int y))] = some (!(y == 0), [some (.d (.int x)), some (.d (.int y))]) := fun x y => by simp? [c_law_gcd_1]
  obtain ⟨e0, e', h1, ⟨x, y, he, hg, hy⟩, h3⟩ := whileF_inv (ft := c_law_gcd_1) (f := b_law_gcd_2) (fun e => ∃ x y, e = [some (.d (.int x)), some (.d (.int y))] ∧ Int.gcd x y = Int.gcd a b ∧ Bt 4000 y) (natAt 1) (fun e ⟨x, y, he, hg, hy⟩ => by
    subst he
    rw [tst]
    by_cases c : y = 0
    · subst c; exact .inl ⟨_, rfl, trivial⟩
    · refine .inr ⟨_, [some (.d (.int y)), some (.d (.int (x.fmod y)))], by rw [beq_false_of_ne c]; rfl, by simp? [b_law_gcd_2, gMod_f c], ⟨y, x.fmod y, rfl, by rw [gcd_fmod, hg], ?_⟩, ?_⟩
      · have := fmod_abs_lt x c
        exact Bt.of_le hy (by omega)
      · have := fmod_abs_lt x c
        simpa [natAt] using this) (2 ^ 4200) _ ⟨a, b, rfl, rfl, hb⟩ (lt_fuel (m := 4000) (by simpa [natAt, Bt] using hb) (by decide))
  subst he
  rw [tst] at h3
  have h4 := Prod.mk.inj (Option.some.inj h3)
  have hy0 : y = 0 := by simpa using h4.1
  subst hy0
  have h5 := h4.2
  subst h5
  have hs : sWhile (2 ^ 4200) c_law_gcd_1 b_law_gcd_2 [some (.d (.int a)), some (.d (.int b))] = some (.nx [some (.d (.int x)), some (.d (.int 0))]) := h1
  have hg' : (x.natAbs : Int) = (Int.gcd a b : Int) := by rw [← hg]; simp
  simp only [m_law_gcd, b_law_gcd, mOf, noLst, sSeq, sIf, sRet, sNil, sSet, sDrop, sAsg, sPar, putR, vTest, vOp, vUn, vVar, vC, vLst, vNil, vCons, vTup, vCall, vFn, vAnd, vOr, vNot, vIf, vAndV, vOrV, vNotV, vSl, oNone, oSome, vMeth, mAppend, mPop, mPopAt, datas, dat1, boolOf, intOf, endR, upA, gtTup, gtCons, gtName, gtNil, argsOf, slotsOf, lentOk, noSB, backS, gAdd_int, gMinus_int, gEq_int, gLt_int, gLe_int, gGt_int, gGe_int, gMin_int, gMax_int, gNeg_int, gInt_bool, gAbs_int, gIx_l, gIx_t, gIx_dl, gIx_s, gLen_t, gLen_dl, gLen_l, gLen_s, gTuple_s, gTuple_l, gTuple_dl, gTuple_t, gSl_t, atI_c0, atI_c1, atI_c2, atI_c3, cut_2, cut_from2, cut_from1, gIn_ints, gIn_two, List.replicate, -List.map_nil, -List.map_cons, -List.nil_append, -List.cons_append, -Option.bind_some, -Option.map_some, -getElem?_pos, -List.append_nil, ev_mn, ev_mc, ev_an, ev_ac, ev_g0, ev_gs, ev_bs, ev_ms]
  simp? [hs, hg']
theorem t_low (t b : Int) (hb : 0 < b) (h : Bt 4000 b) : m_law_low [.d (.int t), .d (.int b)] = some (.d (.tuple [.int (lowM t b).1, .int (lowM t b).2]), [.d (.int t), .d (.int b)]) := by
  have g0 := gcd_pos (t := t) (b := b) (by omega)
  have g1 : (Int.gcd t b : Int) ≠ 0 := by omega
  have g8 : Bt 8000 (Int.gcd t b : Int) := (gcd_bt (t := t) (by omega) h).mono (by decide)
  have e : lowM t b = (t.fdiv (Int.gcd t b : Int), b.fdiv (Int.gcd t b : Int)) := by unfold lowM; rw [if_neg (by omega)]
  rw [e]
  simp? [m_law_low, b_law_low, t_gcd t b h, gFdiv_f g1 g8]
theorem bt_s2 {i : Int} {n : Nat} (h1 : -2147483648 < i) (h2 : i < 2147483648) (hn : 31 ≤ n) : Bt n i := Bt.mono (m := 31) (by unfold Bt; omega) hn
def chOk (t b : Int) : Prop := 0 ≤ t ∧ t ≤ b ∧ 1 ≤ b ∧ b ≤ 100 ∧ Int.gcd t b = 1
theorem t_chance (n k : Int) (hn : 0 ≤ n) : ∃ t b, m_law_chance [.d (.int n), .d (.int k)] = some (.d (.tuple [.int t, .int b]), [.d (.int n), .d (.int k)]) ∧ chOk t b := by
  have b9 : Bt 8000 9 := bt_pos (by decide) (by decide)
  have b100 : Bt 8000 100 := bt_pos (by decide) (by decide)
  have low : ∀ t b : Int, 0 < b → 0 ≤ t → t ≤ b → b ≤ 100 → chOk (lowM t b).1 (lowM t b).2 := fun t b hb h0 h1 h2 => by
    obtain ⟨r1, r2, r3, r4⟩ := lowM_range hb h0 h1 h2
    exact ⟨r1, r2, r3, r4, lowM_gcd (by omega)⟩
  by_cases c0 : k = 0
  · subst c0
    obtain ⟨x, hx, ha⟩ := atI_in (xs := [PyData.tuple [.int 1, .int 2], .tuple [.int 1, .int 3], .tuple [.int 2, .int 3], .tuple [.int 1, .int 1], .tuple [.int 0, .int 1], .tuple [.int 3, .int 4]]) (i := n % 6) (by omega) (by simp; omega)
    obtain ⟨t, b, rfl, hc⟩ : ∃ t b, x = .tuple [.int t, .int b] ∧ chOk t b := by
      simp only [List.mem_cons, List.not_mem_nil, or_false] at hx
      rcases hx with rfl | rfl | rfl | rfl | rfl | rfl <;> exact ⟨_, _, rfl, by unfold chOk; decide⟩
    exact ⟨t, b, by simp? [m_law_chance, b_law_chance, gMod_int, ha], hc⟩
  · by_cases c1 : k = 1
    · subst c1
      have hm : (n / 9) % (2 + n % 9 - 1) < 2 + n % 9 - 1 := Int.emod_lt_of_pos _ (by omega)
      have hm0 : 0 ≤ (n / 9) % (2 + n % 9 - 1) := Int.emod_nonneg _ (by omega)
      refine ⟨_, _, ?_, low (1 + (n / 9) % (2 + n % 9 - 1)) (2 + n % 9) (by omega) (by omega) (by omega) (by omega)⟩
      have hpos : ∀ e : En, gMod e (.d (.int (n / 9))) (.d (.int (2 + n % 9 - 1))) = _ := fun e => gMod_int (by omega)
      have hl := t_low (1 + (n / 9) % (2 + n % 9 - 1)) (2 + n % 9) (by omega) (bt_s2 (by omega) (by omega) (by decide))
      simp? [m_law_chance, b_law_chance, gMod_int, gFdiv_int, b9, hpos, hl]
    · by_cases c2 : k = 2
      · subst c2
        have hm : (n / 100) % (1 + n % 100 + 1) < 1 + n % 100 + 1 := Int.emod_lt_of_pos _ (by omega)
        have hm0 : 0 ≤ (n / 100) % (1 + n % 100 + 1) := Int.emod_nonneg _ (by omega)
        refine ⟨_, _, ?_, low ((n / 100) % (1 + n % 100 + 1)) (1 + n % 100) (by omega) (by omega) (by omega) (by omega)⟩
        have hpos : ∀ e : En, gMod e (.d (.int (n / 100))) (.d (.int (1 + n % 100 + 1))) = _ := fun e => gMod_int (by omega)
        have hl := t_low ((n / 100) % (1 + n % 100 + 1)) (1 + n % 100) (by omega) (bt_s2 (by omega) (by omega) (by decide))
        simp? [m_law_chance, b_law_chance, gMod_int, gFdiv_int, b100, hpos, hl]
      · refine ⟨1, 1, ?_, by unfold chOk; decide⟩
        simp? [m_law_chance, b_law_chance, c0, c1, c2]
theorem t_worth (n k : Int) : ∃ r, m_law_worth [.d (.int n), .d (.int k)] = some (.d (.int r), [.d (.int n), .d (.int k)]) ∧ 0 ≤ r ∧ r ≤ 1000 := by
  obtain ⟨x, hx, ha⟩ := atI_in (xs := [PyData.int (n % 7), .int (5 + n % 2), .int (n % 1001), .int (1000 - n % 3)]) (i := k % 4) (by omega) (by simp; omega)
  obtain ⟨r, rfl, hr⟩ : ∃ r, x = .int r ∧ 0 ≤ r ∧ r ≤ 1000 := by
    simp only [List.mem_cons, List.not_mem_nil, or_false] at hx
    rcases hx with rfl | rfl | rfl | rfl <;> exact ⟨_, rfl, by omega, by omega⟩
  exact ⟨r, by simp? [m_law_worth, b_law_worth, gMod_int, ha], hr⟩
abbrev tE (ds : List Int) (things many shape odds ws : Int) (ts : List Tie) (v7 v8 v9 v10 v11 v12 : Option Sv) : En := [some (.l (ds.map .int)), some (.d (.int things)), some (.d (.int many)), some (.d (.int shape)), some (.d (.int odds)), some (.d (.int ws)), some (.l (ts.map dTie)), v7, v8, v9, v10, v11, v12]
theorem t_tie (ds : List Int) (things many shape odds ws : Int) (ts : List Tie) (k : Int) (v8 v9 v10 v11 v12 : Option Sv) (hd : dOk ds) (h2 : 2 ≤ things) (h12 : things ≤ 100) (s0 : 0 ≤ shape) (s1 : shape < 6) (k0 : 0 ≤ k) (hl : ts.length ≤ 1000) :
    ∃ t ds' w8 w9 w10 w11 w12, b_law_ties_2 (tE ds things many shape odds ws ts (some (.d (.int k))) v8 v9 v10 v11 v12) = some (.nx (tE ds' things many shape odds ws (ts ++ [t]) (some (.d (.int k))) w8 w9 w10 w11 w12)) ∧ dOk ds' ∧ t.Ok things := by
  obtain ⟨n, d1, tn, -, -, hd1⟩ := t_nx hd
  obtain ⟨m, d2, tm, m0, -, hd2⟩ := t_nx hd1
  obtain ⟨x, hx, ha⟩ := atI_in (xs := [PyData.int (n % things), .int 0, .int (k % things), .int (n % things), .int (n % 2), .int (n % things)]) (i := shape) s0 (by simp; omega)
  have tp : 0 < things := Int.lt_of_lt_of_le (by decide) h2
  have tq : 0 < things - 1 := Int.sub_pos_of_lt (Int.lt_of_lt_of_le (by decide) h2)
  have nt : 0 ≤ n % things ∧ n % things < things := ⟨em0 tp, em1 tp⟩
  have kt : 0 ≤ k % things ∧ k % things < things := ⟨em0 tp, em1 tp⟩
  obtain ⟨one, rfl, o0, o1⟩ : ∃ r, x = .int r ∧ 0 ≤ r ∧ r < things := by
    simp only [List.mem_cons, List.not_mem_nil, or_false] at hx
    rcases hx with rfl | rfl | rfl | rfl | rfl | rfl <;> exact ⟨_, rfl, by omega, by omega⟩
  have r0 : 0 ≤ (n / 12) % (things - 1) := em0 tq
  have r1 : (n / 12) % (things - 1) < things - 1 := em1 tq
  have q0 : 0 ≤ (one + 1 + (n / 12) % (things - 1)) % things := em0 tp
  have q1 : (one + 1 + (n / 12) % (things - 1)) % things < things := em1 tp
  have qn : (one + 1 + (n / 12) % (things - 1)) % things ≠ one := fun z => by
    by_cases c : one + 1 + (n / 12) % (things - 1) < things
    · rw [Int.emod_eq_of_lt (by omega) c] at z; omega
    · have e : (one + 1 + (n / 12) % (things - 1)) % things = (one + 1 + (n / 12) % (things - 1) - things) % things := by rw [Int.sub_emod_right]
      rw [e, Int.emod_eq_of_lt (by omega) (by omega)] at z; omega
  obtain ⟨t, b, c1, c2, c3, c4, c5, c6⟩ := t_chance m odds m0
  obtain ⟨w, w1, w2, w3⟩ := t_worth (m / 10007) ws
  have b12 : Bt 8000 12 := bt_pos (by decide) (by decide)
  have b107 : Bt 8000 10007 := bt_pos (by decide) (by decide)
  have g1 : ∀ (e : En) (i : Int), gMod e (.d (.int i)) (.d (.int things)) = some (.d (.int (i % things))) := fun e i => gMod_int tp
  have g2 : ∀ (e : En) (i : Int), gMod e (.d (.int i)) (.d (.int (things - 1))) = some (.d (.int (i % (things - 1)))) := fun e i => gMod_int tq
  have hlen : ts.length < 1000000 := by omega
  by_cases c : shape = 4
  · subst c
    refine ⟨⟨0, 1, t, b, w⟩, d2, some (.d (.int n)), some (.d (.int 0)), some (.d (.int 1)), some (.d (.int m)), some (.d (.tuple [.int 0, .int 1])), ?_, hd2, ⟨by show (0:Int) ≤ 0; decide, by show (0:Int) < 1; decide, by show (1:Int) < things; omega, c2, c3, c4, c5, w2, w3, c6⟩⟩
    simp? [tE, b_law_ties_2, tn, tm, gMod_int, g1, g2, gFdiv_int, b12, b107, ha, c1, w1, gCat_t, dTie, hlen]
    decide
  · refine ⟨⟨min one ((one + 1 + (n / 12) % (things - 1)) % things), max one ((one + 1 + (n / 12) % (things - 1)) % things), t, b, w⟩, d2, some (.d (.int n)), some (.d (.int one)), some (.d (.int ((one + 1 + (n / 12) % (things - 1)) % things))), some (.d (.int m)), some (.d (.tuple [.int (min one ((one + 1 + (n / 12) % (things - 1)) % things)), .int (max one ((one + 1 + (n / 12) % (things - 1)) % things))])), ?_, hd2, ⟨by show 0 ≤ min _ _; omega, by show min _ _ < max _ _; omega, by show max _ _ < _; omega, c2, c3, c4, c5, w2, w3, c6⟩⟩
    simp? [tE, b_law_ties_2, tn, tm, gMod_int, g1, g2, gFdiv_int, b12, b107, ha, c1, w1, gCat_t, dTie, hlen, c]
theorem t_ties (ds : List Int) (things many : Int) (hd : dOk ds) (h2 : 2 ≤ things) (h12 : things ≤ 100) (m0 : 0 ≤ many) (m1 : many ≤ 1000) : ∃ (ts : List Tie) (ds' : List Int), m_law_ties [.l (ds.map .int), .d (.int things), .d (.int many)] = some (.d (.tuple (ts.map dTie)), [.l (ds'.map .int), .d (.int things), .d (.int many)]) ∧ dOk ds' ∧ (ts.length : Int) = many ∧ ∀ t ∈ ts, t.Ok things := by
  obtain ⟨n0, d1, t0, -, -, hd1⟩ := t_nx hd
  obtain ⟨n1, d2, t1, -, -, hd2⟩ := t_nx hd1
  obtain ⟨n2, d3, t2, -, -, hd3⟩ := t_nx hd2
  obtain ⟨e', h1, ⟨ts, ds', w7, w8, w9, w10, w11, w12, he, hd', hl, ht⟩⟩ := forF_inv (own := []) (g := gtName 7) (f := b_law_ties_2) (fun i e => ∃ ts ds' w7 w8 w9 w10 w11 w12, e = tE ds' things many (n0 % 6) (n1 % 4) (n2 % 4) ts w7 w8 w9 w10 w11 w12 ∧ dOk ds' ∧ ts.length = i ∧ ∀ t ∈ ts, t.Ok things) (rangeD 0 many.toNat) 0 (tE d3 things many (n0 % 6) (n1 % 4) (n2 % 4) [] none none none none none none) (fun i x e hx ⟨ts, ds', w7, w8, w9, w10, w11, w12, he, hd', hl, ht⟩ => by
    obtain ⟨rfl, hi⟩ := rangeD_get hx
    subst he
    obtain ⟨t, ds2, v8, v9, v10, v11, v12, s1, s2, s3⟩ := t_tie ds' things many (n0 % 6) (n1 % 4) (n2 % 4) ts (0 + (i : Int)) w8 w9 w10 w11 w12 hd' h2 h12 (em0 (by decide)) (em1 (by decide)) (by omega) (by omega)
    exact ⟨_, _, rfl, s1, keeps_nil, ts ++ [t], ds2, _, _, _, _, _, _, rfl, s2, by simp; omega, fun z hz => by
      rcases List.mem_append.mp hz with hz | hz
      · exact ht z hz
      · simp at hz; subst hz; exact s3⟩) ⟨[], d3, none, none, none, none, none, none, rfl, hd3, rfl, fun t ht => by cases ht⟩
  subst he
  refine ⟨ts, ds', ?_, hd', by rw [hl, rangeD_len]; omega, ht⟩
  have hf : ∀ W, sFor W i_law_ties_1 (gtName 7) b_law_ties_2 (tE d3 things many (n0 % 6) (n1 % 4) (n2 % 4) [] none none none none none none) = some (.nx (tE ds' things many (n0 % 6) (n1 % 4) (n2 % 4) ts w7 w8 w9 w10 w11 w12)) := fun W => by
    rw [sFor_go (show i_law_ties_1 _ = some (rangeD 0 many.toNat, [], tE d3 things many (n0 % 6) (n1 % 4) (n2 % 4) [] none none none none none none) from iRange1_go (n := many) (by simp? [tE]) (by omega) (by omega))]
    exact h1
  unfold tE at hf
  simp only [List.map_nil] at hf
  simp? [m_law_ties, b_law_ties, t0, t1, t2, gMod_int, hf]
abbrev wE (ds : List Int) (most tn things many : Int) (ts : List Tie) (way : Int) (ps : List Int) (v8 v9 : Option Sv) : En := [some (.l (ds.map .int)), some (.d (.int most)), some (.d (.int tn)), some (.d (.int things)), some (.d (.int many)), some (.d (.tuple (ts.map dTie))), some (.d (.int way)), some (.l (ps.map .int)), v8, v9]
theorem t_web (ds : List Int) (most tn : Int) (hd : dOk ds) (m0 : 0 ≤ most) (m1 : most ≤ 12) (k0 : 0 ≤ tn) (k1 : tn ≤ 16) : ∃ (W : Web) (ds' : List Int), m_law_web [.l (ds.map .int), .d (.int most), .d (.int tn)] = some (.d (dWeb W), [.l (ds'.map .int), .d (.int most), .d (.int tn)]) ∧ dOk ds' ∧ W.Ok ∧ W.things ≤ most ∧ (W.ties.length : Int) ≤ tn := by
  obtain ⟨n0, d1, t0, -, -, hd1⟩ := t_nx hd
  obtain ⟨n1, d2, t1, -, -, hd2⟩ := t_nx hd1
  have mp : 0 < most + 1 := Int.lt_add_one_of_le m0
  have kp : 0 < tn + 1 := Int.lt_add_one_of_le k0
  have g0 : ∀ (e : En), gMod e (.d (.int n0)) (.d (.int (most + 1))) = some (.d (.int (n0 % (most + 1)))) := fun e => gMod_int mp
  have g1' : ∀ (e : En), gMod e (.d (.int n1)) (.d (.int (tn + 1))) = some (.d (.int (n1 % (tn + 1)))) := fun e => gMod_int kp
  have th0 : 0 ≤ n0 % (most + 1) := em0 mp
  have th1 : n0 % (most + 1) < most + 1 := em1 mp
  have ti0 : 0 ≤ n1 % (tn + 1) := em0 kp
  have ti1 : n1 % (tn + 1) < tn + 1 := em1 kp
  clear mp kp
  generalize n0 % (most + 1) = things at th0 th1 g0
  generalize n1 % (tn + 1) = tm at ti0 ti1 g1'
  obtain ⟨many, hmany, mm, m00, m01⟩ : ∃ many : Int, many = tm * (if decide (1 < things) = true then 1 else 0) ∧ (1 < things ∨ many = 0) ∧ 0 ≤ many ∧ many ≤ tn := by
    by_cases c : 1 < things
    · exact ⟨tm, by simp [c], .inl c, ti0, by omega⟩
    · exact ⟨0, by simp [c], .inr rfl, by omega, by omega⟩
  have gm : ∀ e : En, gMul e (.d (.int tm)) (.d (.int (if decide (1 < things) = true then 1 else 0))) = some (.d (.int many)) := fun e => by
    rw [gMul_int (mulB_r (by split <;> decide) (by split <;> decide)), hmany]
  have gi : ∀ e : En, g1 gInt e [.d (.bool (decide (1 < things)))] = some (.d (.int (if decide (1 < things) = true then 1 else 0))) := fun e => rfl
  generalize (if decide (1 < things) = true then 1 else 0 : Int) = one at gm gi
  obtain ⟨ts, d3, t3, hd3, hlen, hts⟩ := t_ties d2 (max 2 things) many hd2 (by omega) (by omega) m00 (by omega)
  obtain ⟨n4, d4, t4, -, -, hd4⟩ := t_nx hd3
  obtain ⟨e', h1, ⟨ps, d5, w8, he, hd5, hpl, hps⟩⟩ := forF_inv (own := []) (g := gtName 8) (f := b_law_web_2) (fun i e => ∃ ps d5 w8, e = wE d5 most tn things many ts (n4 % 3) ps w8 none ∧ dOk d5 ∧ ps.length = i ∧ ∀ p ∈ ps, 0 ≤ p ∧ p ≤ 20) (rangeD 0 things.toNat) 0 (wE d4 most tn things many ts (n4 % 3) [] none none) (fun i x e hx ⟨ps, d5, w8, he, hd5, hpl, hps⟩ => by
    obtain ⟨rfl, hi⟩ := rangeD_get hx
    subst he
    obtain ⟨p1, d6, t6, -, -, hd6⟩ := t_nx hd5
    obtain ⟨p2, d7, t7, -, -, hd7⟩ := t_nx hd6
    obtain ⟨z, hz, ha⟩ := atI_in (xs := [PyData.int 20, .int (1 + p1 % 3), .int (p2 % 21)]) (i := n4 % 3) (em0 (by decide)) (em1 (k := 3) (by decide))
    obtain ⟨p, rfl, hp⟩ : ∃ r, z = .int r ∧ 0 ≤ r ∧ r ≤ 20 := by
      simp only [List.mem_cons, List.not_mem_nil, or_false] at hz
      rcases hz with rfl | rfl | rfl <;> exact ⟨_, rfl, by omega, by omega⟩
    refine ⟨wE d5 most tn things many ts (n4 % 3) ps (some (.d (.int (0 + (i : Int))))) none, wE d7 most tn things many ts (n4 % 3) (ps ++ [p]) (some (.d (.int (0 + (i : Int))))) none, rfl, ?_, keeps_nil, ps ++ [p], d7, _, rfl, hd7, by simp; omega, fun q hq => by
      rcases List.mem_append.mp hq with hq | hq
      · exact hps q hq
      · simp at hq; subst hq; exact hp⟩
    have hlen : ps.length < 1000000 := by omega
    simp? [wE, b_law_web_2, t6, t7, gMod_int, ha, hlen]) ⟨[], d4, none, rfl, hd4, rfl, fun p hp => by cases hp⟩
  subst he
  have hf : ∀ W, sFor W i_law_web_1 (gtName 8) b_law_web_2 (wE d4 most tn things many ts (n4 % 3) [] none none) = some (.nx (wE d5 most tn things many ts (n4 % 3) ps w8 none)) := fun W => by
    rw [sFor_go (show i_law_web_1 _ = some (rangeD 0 things.toNat, [], wE d4 most tn things many ts (n4 % 3) [] none none) from iRange1_go (n := things) (by simp? [wE]) (by omega) (by omega))]
    exact h1
  obtain ⟨p1, d6, t6, -, -, hd6⟩ := t_nx hd5
  obtain ⟨p2, d7, t7, -, -, hd7⟩ := t_nx hd6
  obtain ⟨p3, d8, t8, -, -, hd8⟩ := t_nx hd7
  have xp : 0 < max 1 many := Int.lt_of_lt_of_le Int.zero_lt_one (Int.le_max_left _ _)
  have gx : ∀ (e : En), gMod e (.d (.int p1)) (.d (.int (max 1 many))) = some (.d (.int (p1 % max 1 many))) := fun e => gMod_int xp
  have x0 : 0 ≤ p1 % max 1 many := em0 xp
  have x1 : p1 % max 1 many < max 1 many := em1 xp
  obtain ⟨z, hz, ha⟩ := atI_in (xs := [PyData.int 40, .int (1 + p1 % max 1 many), .int (p2 % 41)]) (i := p3 % 3) (em0 (by decide)) (em1 (k := 3) (by decide))
  obtain ⟨asks, rfl, hasks⟩ : ∃ r, z = .int r ∧ 0 ≤ r ∧ r ≤ 40 := by
    simp only [List.mem_cons, List.not_mem_nil, or_false] at hz
    rcases hz with rfl | rfl | rfl <;> exact ⟨_, rfl, by omega, by omega⟩
  rw [rangeD_len] at hpl
  refine ⟨⟨things, ts, ps, asks⟩, d8, ?_, hd8, ⟨th0, by show things ≤ 12; omega, fun t ht => ?_, by show ts.length ≤ 16; omega, by show (ps.length : Int) = things; omega, hps, hasks.1, hasks.2⟩, by show things ≤ most; omega, by show (ts.length : Int) ≤ tn; omega⟩
  · unfold wE at hf
    simp only [List.map_nil] at hf
    simp? [m_law_web, b_law_web, t0, t1, g0, g1', gm, gi, t3, t4, gMod_int, hf, t6, t7, t8, gx, ha, dWeb]
  · rcases mm with c | c
    · have := hts t ht
      rw [show max 2 things = things by omega] at this
      exact this
    · have : ts = [] := List.length_eq_zero_iff.mp (by omega)
      subst this; cases ht
theorem t_numA (d : PyData) : m_is_number [.d d] = some (.d (.bool (isN d)), [.d d]) := by
  cases d <;> simp? [m_is_number, b_is_number, isN, gIsi, isiD, subN, tyN]
theorem t_num_inA (d : PyData) (lo hi : Int) : m_is_number_within [.d d, .d (.int lo), .d (.int hi)] = some (.d (.bool (isNin lo hi d)), [.d d, .d (.int lo), .d (.int hi)]) := by
  have t := t_numA d
  cases d with
  | int i =>
    by_cases c : lo ≤ i
    · simp? [m_is_number_within, b_is_number_within, t, isN, isNin, vChain, c]
    · simp? [m_is_number_within, b_is_number_within, t, isN, isNin, vChain, c]
  | _ => simp? [m_is_number_within, b_is_number_within, t, isN, isNin, vChain]
theorem t_common_divisor (a b : Int) (hb : Bt 4000 b) : m_common_divisor [.d (.int a), .d (.int b)] = some (.d (.int (Int.gcd a b)), [.d (.int a), .d (.int b)]) := by
  have tst : ∀ x y : Int, c_common_divisor_1 [some (.d (.int x)), some (.d (.int y))] = some (!(y == 0), [some (.d (.int x)), some (.d (.int y))]) := fun x y => by simp? [c_common_divisor_1]
  obtain ⟨e0, e', h1, ⟨x, y, he, hg, hy⟩, h3⟩ := whileF_inv (ft := c_common_divisor_1) (f := b_common_divisor_2) (fun e => ∃ x y, e = [some (.d (.int x)), some (.d (.int y))] ∧ Int.gcd x y = Int.gcd a b ∧ Bt 4000 y) (natAt 1) (fun e ⟨x, y, he, hg, hy⟩ => by
    subst he
    rw [tst]
    by_cases c : y = 0
    · subst c; exact .inl ⟨_, rfl, trivial⟩
    · refine .inr ⟨_, [some (.d (.int y)), some (.d (.int (x.fmod y)))], by rw [beq_false_of_ne c]; rfl, by simp? [b_common_divisor_2, gMod_f c], ⟨y, x.fmod y, rfl, by rw [gcd_fmod, hg], ?_⟩, ?_⟩
      · have := fmod_abs_lt x c
        exact Bt.of_le hy (by omega)
      · have := fmod_abs_lt x c
        simpa [natAt] using this) (2 ^ 4200) _ ⟨a, b, rfl, rfl, hb⟩ (lt_fuel (m := 4000) (by simpa [natAt, Bt] using hb) (by decide))
  subst he
  rw [tst] at h3
  have h4 := Prod.mk.inj (Option.some.inj h3)
  have hy0 : y = 0 := by simpa using h4.1
  subst hy0
  have h5 := h4.2
  subst h5
  have hs : sWhile (2 ^ 4200) c_common_divisor_1 b_common_divisor_2 [some (.d (.int a)), some (.d (.int b))] = some (.nx [some (.d (.int x)), some (.d (.int 0))]) := h1
  have hg' : (x.natAbs : Int) = (Int.gcd a b : Int) := by rw [← hg]; simp
  simp only [m_common_divisor, b_common_divisor, mOf, noLst, sSeq, sIf, sRet, sNil, sSet, sDrop, sAsg, sPar, putR, vTest, vOp, vUn, vVar, vC, vLst, vNil, vCons, vTup, vCall, vFn, vAnd, vOr, vNot, vIf, vAndV, vOrV, vNotV, vSl, oNone, oSome, vMeth, mAppend, mPop, mPopAt, datas, dat1, boolOf, intOf, endR, upA, gtTup, gtCons, gtName, gtNil, argsOf, slotsOf, lentOk, noSB, backS, gAdd_int, gMinus_int, gEq_int, gLt_int, gLe_int, gGt_int, gGe_int, gMin_int, gMax_int, gNeg_int, gInt_bool, gAbs_int, gIx_l, gIx_t, gIx_dl, gIx_s, gLen_t, gLen_dl, gLen_l, gLen_s, gTuple_s, gTuple_l, gTuple_dl, gTuple_t, gSl_t, atI_c0, atI_c1, atI_c2, atI_c3, cut_2, cut_from2, cut_from1, gIn_ints, gIn_two, List.replicate, -List.map_nil, -List.map_cons, -List.nil_append, -List.cons_append, -Option.bind_some, -Option.map_some, -getElem?_pos, -List.append_nil, ev_mn, ev_mc, ev_an, ev_ac, ev_g0, ev_gs, ev_bs, ev_ms]
  simp? [hs, hg']
theorem t_lowest (t b : Int) (hb : 0 < b) (h : Bt 4000 b) : m_lowest [.d (.int t), .d (.int b)] = some (.d (dF (lowM t b)), [.d (.int t), .d (.int b)]) := by
  have g0 := gcd_pos (t := t) (b := b) (by omega)
  have g1 : (Int.gcd t b : Int) ≠ 0 := by omega
  have g8 : Bt 8000 (Int.gcd t b : Int) := (gcd_bt (t := t) (by omega) h).mono (by decide)
  have e : lowM t b = (t.fdiv (Int.gcd t b : Int), b.fdiv (Int.gcd t b : Int)) := by unfold lowM; rw [if_neg (by omega)]
  have nb : ¬ b < 0 := by omega
  rw [e]
  simp? [m_lowest, b_lowest, t_common_divisor t b h, gFdiv_f g1 g8, nb, dF]
theorem t_row_ofA (d : PyData) (n : Int) : m_is_row_of [.d d, .d (.int n)] = some (.d (.bool (rowB n d)), [.d d, .d (.int n)]) := by
  cases d <;> simp? [m_is_row_of, b_is_row_of, gIsi, isiD, subN, tyN, rowB]
theorem t_is_fractionA {d : PyData} (h : d.showable = true) : m_is_fraction [.d d] = some (.d (.bool (frB d)), [.d d]) := by
  have tr := t_row_ofA d 2
  cases c : rowB 2 d with
  | false =>
    rw [c] at tr
    have e : frB d = false := by
      cases q : frB d with
      | false => rfl
      | true =>
        unfold frB at q
        split at q
        · simp [rowB] at c
        · cases q
    rw [e]
    simp? [m_is_fraction, b_is_fraction, tr]
  | true =>
    obtain ⟨x, y, rfl⟩ := row2 c
    rw [c] at tr
    have nx := t_numA x
    have ny := t_numA y
    cases hx : isN x with
    | false =>
      rw [hx] at nx
      have e : frB (.tuple [x, y]) = false := by cases x <;> first | rfl | simp [isN] at hx
      rw [e]
      simp? [m_is_fraction, b_is_fraction, tr, nx]
    | true =>
      obtain ⟨t, rfl⟩ := isN_int hx
      rw [hx] at nx
      cases hy : isN y with
      | false =>
        rw [hy] at ny
        have e : frB (.tuple [.int t, y]) = false := by cases y <;> first | rfl | simp [isN] at hy
        rw [e]
        simp? [m_is_fraction, b_is_fraction, tr, nx, ny]
      | true =>
        obtain ⟨b, rfl⟩ := isN_int hy
        rw [hy] at ny
        by_cases c1 : b < 1
        · have e : frB (.tuple [.int t, .int b]) = false := by
            simp only [frB, Bool.and_eq_false_iff, decide_eq_false_iff_not]; left; omega
          rw [e]
          simp? [m_is_fraction, b_is_fraction, tr, nx, ny, c1]
        · simp only [PyData.showable, PyData.showableAll, Bool.and_eq_true, decide_eq_true_eq] at h
          have tl := t_lowest t b (by omega) (bt_log h.2.1 (by omega))
          have e : frB (.tuple [.int t, .int b]) = ((lowM t b).1 == t && (lowM t b).2 == b) := by
            rw [low_iff (by omega)]
            show (decide (1 ≤ b) && _) = _
            rw [decide_eq_true (by omega), Bool.true_and]
          rw [e]
          unfold dF at tl
          have ge := fun e => gEq_pair (e := e) (a := (lowM t b).1) (b := (lowM t b).2) (c := t) (d := b)
          generalize lowM t b = p at *
          simp? [m_is_fraction, b_is_fraction, tr, nx, ny, c1, tl, ge]
theorem t_is_chance {d : PyData} (h : d.showable = true) : m_is_chance [.d d] = some (.d (.bool (chB d)), [.d d]) := by
  have tf := t_is_fractionA h
  cases c : frB d with
  | false =>
    rw [c] at tf
    have e : chB d = false := by
      cases q : chB d with
      | false => rfl
      | true => rw [chB_fr d q] at c; cases c
    rw [e]
    simp? [m_is_chance, b_is_chance, tf]
  | true =>
    rw [c] at tf
    unfold frB at c
    split at c
    · rename_i t b
      simp only [Bool.and_eq_true, decide_eq_true_eq] at c
      have e : chB (.tuple [.int t, .int b]) = (decide (0 ≤ t) && (decide (t ≤ b) && decide (b ≤ 100))) := by
        simp only [chB, decide_eq_true c.1, decide_eq_true c.2, Bool.true_and, Bool.and_true]
      rw [e]
      by_cases c1 : 0 ≤ t
      · by_cases c2 : t ≤ b
        · simp? [m_is_chance, b_is_chance, tf, vChain3, c1, c2]
        · simp? [m_is_chance, b_is_chance, tf, vChain3, c1, c2]
      · simp? [m_is_chance, b_is_chance, tf, vChain3, c1]
    · cases c
theorem t_is_tie_row {d : PyData} (h : d.showable = true) (n : Int) : m_is_tie_row [.d d, .d (.int n)] = some (.d (.bool (tieB n d)), [.d d, .d (.int n)]) := by
  have tr := t_row_ofA d 4
  cases c : rowB 4 d with
  | false =>
    rw [c] at tr
    have e : tieB n d = false := by
      cases q : tieB n d with
      | false => rfl
      | true =>
        unfold tieB at q
        split at q
        · simp [rowB] at c
        · cases q
    rw [e]
    simp? [m_is_tie_row, b_is_tie_row, tr]
  | true =>
    obtain ⟨x, y, z, w, rfl⟩ := row4 c
    rw [c] at tr
    simp only [PyData.showable, PyData.showableAll, Bool.and_eq_true] at h
    have tc := t_is_chance h.2.2.1
    have tw := t_num_inA w 0 1000
    have tx := t_num_inA x 0 (n - 1)
    cases hx : isNin 0 (n - 1) x with
    | false =>
      rw [hx] at tx
      have e : tieB n (.tuple [x, y, z, w]) = false := by
        cases x with
        | int a =>
          cases y with
          | int b =>
            simp only [isNin, Bool.and_eq_false_iff, decide_eq_false_iff_not] at hx
            rw [Bool.eq_false_iff]
            intro q
            simp only [tieB, Bool.and_eq_true, decide_eq_true_eq] at q
            omega
          | _ => rfl
        | _ => rfl
      rw [e]
      simp? [m_is_tie_row, b_is_tie_row, tr, tx]
    | true =>
      obtain ⟨a, rfl, a0, a1⟩ := isNin_int hx
      rw [hx] at tx
      have ty := t_num_inA y (a + 1) (n - 1)
      cases hy : isNin (a + 1) (n - 1) y with
      | false =>
        rw [hy] at ty
        have e : tieB n (.tuple [.int a, y, z, w]) = false := by
          cases y with
          | int b =>
            simp only [isNin, Bool.and_eq_false_iff, decide_eq_false_iff_not] at hy
            rw [Bool.eq_false_iff]
            intro q
            simp only [tieB, Bool.and_eq_true, decide_eq_true_eq] at q
            omega
          | _ => rfl
        rw [e]
        simp? [m_is_tie_row, b_is_tie_row, tr, tx, ty]
      | true =>
        obtain ⟨b, rfl, b0, b1⟩ := isNin_int hy
        rw [hy] at ty
        have e : tieB n (.tuple [.int a, .int b, z, w]) = (chB z && isNin 0 1000 w) := by
          simp only [tieB, decide_eq_true a0, decide_eq_true (show a < b by omega), decide_eq_true b1, Bool.true_and]
        rw [e]
        cases hz : chB z with
        | false =>
          rw [hz] at tc
          simp? [m_is_tie_row, b_is_tie_row, tr, tx, ty, tc]
        | true =>
          rw [hz] at tc
          generalize isNin 0 1000 w = bw at *
          simp? [m_is_tie_row, b_is_tie_row, tr, tx, ty, tc, tw]
theorem t_is_ties {d : PyData} (h : d.showable = true) (n : Int) : m_is_ties [.d d, .d (.int n)] = some (.d (.bool (tiesB n d)), [.d d, .d (.int n)]) := by
  cases d with
  | tuple ts =>
    by_cases c : ts.length ≤ 16
    · let cs : En := [some (.d (.int n))]
      simp only [PyData.showable] at h
      obtain ⟨t', hf⟩ := compF_one (cs := cs) (ft := tTrue) (fe := e_is_ties_2) (b := fun _ => true) (y := fun d => .bool (tieB n d)) ts none [] (fun x _ => rfl) (fun x hx _ => by
        have t := t_is_tie_row (all_show h x hx) n
        generalize tieB n x = bb at *
        simp? [cs, e_is_ties_2, t]) (by simp; omega)
      have hv := vComp_cs (cp := [(1, "things")]) (nT := 1) (fi := i_is_ties_1) (g := gtName 1) (ft := tTrue) (fe := e_is_ties_2) (e := [some (.d (.tuple ts)), some (.d (.int n))]) (cs := cs) (t := [none]) (t' := [t']) (iSeq_d (fa := vVar 0) rfl) rfl rfl hf
      rw [List.nil_append, show List.filter (fun _ => true) ts = ts from List.filter_eq_self.mpr fun _ _ => rfl] at hv
      have ga := fun e => gAll_map (e := e) (tieB n) ts
      have c' : ¬ (16 : Int) < (ts.length : Int) := by omega
      rw [show tiesB n (.tuple ts) = ts.all (tieB n) by simp only [tiesB, decide_eq_true c, Bool.true_and]]
      generalize ts.all (tieB n) = bb at *
      generalize ts.map (fun d => PyData.bool (tieB n d)) = M at *
      simp? [m_is_ties, b_is_ties, gIsi, isiD, subN, tyN, c', hv, ga]
    · have c' : (16 : Int) < (ts.length : Int) := by omega
      rw [show tiesB n (.tuple ts) = false by simp only [tiesB, decide_eq_false c, Bool.false_and]]
      simp? [m_is_ties, b_is_ties, gIsi, isiD, subN, tyN, c']
  | _ => simp? [m_is_ties, b_is_ties, gIsi, isiD, subN, tyN, tiesB]
theorem t_is_patience (d : PyData) {n : Int} (hn : n ≤ 12) : m_is_patience [.d d, .d (.int n)] = some (.d (.bool (patB n d)), [.d d, .d (.int n)]) := by
  have tr := t_row_ofA d n
  cases d with
  | tuple ps =>
    cases c : rowB n (.tuple ps) with
    | true =>
      rw [c] at tr
      have c2 : ((ps.length : Int) == n) = true := c
      have c3 : (ps.length : Int) = n := by simpa using c2
      obtain ⟨t', hf⟩ := compF_one (cs := []) (ft := tTrue) (fe := e_is_patience_2) (b := fun _ => true) (y := fun d => .bool (isNin 0 20 d)) ps none [] (fun x _ => rfl) (fun x hx _ => by
        have t := t_num_inA x 0 20
        generalize isNin 0 20 x = bb at *
        simp? [e_is_patience_2, t]) (by simp; omega)
      have hv := vComp_cs (cp := []) (nT := 1) (fi := i_is_patience_1) (g := gtName 0) (ft := tTrue) (fe := e_is_patience_2) (e := [some (.d (.tuple ps)), some (.d (.int n))]) (cs := []) (t := [none]) (t' := [t']) (iSeq_d (fa := vVar 0) rfl) rfl rfl hf
      rw [List.nil_append, show List.filter (fun _ => true) ps = ps from List.filter_eq_self.mpr fun _ _ => rfl] at hv
      have ga := fun e => gAll_map (e := e) (isNin 0 20) ps
      rw [show patB n (.tuple ps) = ps.all (isNin 0 20) by simp only [patB, c2, Bool.true_and]]
      generalize ps.all (isNin 0 20) = bb at *
      generalize ps.map (fun d => PyData.bool (isNin 0 20 d)) = M at *
      simp? [m_is_patience, b_is_patience, tr, hv, ga]
    | false =>
      rw [c] at tr
      have c2 : ((ps.length : Int) == n) = false := c
      rw [show patB n (.tuple ps) = false by simp only [patB, c2, Bool.false_and]]
      simp? [m_is_patience, b_is_patience, tr]
  | _ => simp? [m_is_patience, b_is_patience, tr, rowB, patB]
theorem t_is_web {d : PyData} (h : d.showable = true) : m_is_web [.d d] = some (.d (.bool (webB d)), [.d d]) := by
  have tr := t_row_ofA d 4
  cases c : rowB 4 d with
  | false =>
    rw [c] at tr
    have e : webB d = false := by
      cases q : webB d with
      | false => rfl
      | true =>
        unfold webB at q
        split at q
        · simp [rowB] at c
        · cases q
    rw [e]
    simp? [m_is_web, b_is_web, tr]
  | true =>
    obtain ⟨x, y, z, w, rfl⟩ := row4 c
    rw [c] at tr
    simp only [PyData.showable, PyData.showableAll, Bool.and_eq_true] at h
    have tx := t_num_inA x 0 12
    have tw := t_num_inA w 0 40
    cases hx : isNin 0 12 x with
    | false =>
      rw [hx] at tx
      have e : webB (.tuple [x, y, z, w]) = false := by
        cases x with
        | int n => cases y <;> first | rfl | (cases z <;> first | rfl | (simp only [webB, hx, Bool.false_and]))
        | _ => rfl
      rw [e]
      simp? [m_is_web, b_is_web, tr, tx]
    | true =>
      obtain ⟨n, rfl, n0, n1⟩ := isNin_int hx
      rw [hx] at tx
      have ti := t_is_ties h.2.1 n
      have tp := t_is_patience z n1
      cases hw : isNin 0 40 w with
      | false =>
        rw [hw] at tw
        have e : webB (.tuple [.int n, y, z, w]) = false := by
          cases y <;> first | rfl | (cases z <;> first | rfl | (simp only [webB, hw, Bool.false_and, Bool.and_false]))
        rw [e]
        simp? [m_is_web, b_is_web, tr, tx, tw]
      | true =>
        rw [hw] at tw
        have e : webB (.tuple [.int n, y, z, w]) = (tiesB n y && patB n z) := by
          cases y with
          | tuple ts =>
            cases z with
            | tuple ps =>
              simp only [webB, tiesB, patB, hx, hw, Bool.true_and]
              cases decide (ts.length ≤ 16) <;> cases ts.all (tieB n) <;> cases ((ps.length : Int) == n) <;> rfl
            | _ => simp only [webB, patB, Bool.and_false]
          | _ => simp only [webB, tiesB, Bool.false_and]
        rw [e]
        generalize tiesB n y = b1 at *
        generalize patB n z = b2 at *
        cases b1 with
        | true => simp? [m_is_web, b_is_web, tr, tx, tw, ti, tp]
        | false => simp? [m_is_web, b_is_web, tr, tx, tw, ti]
theorem ok_ties {ts : List Tie} {N : Int} (hN : N ≤ 12) (h : ∀ t ∈ ts, t.Ok N) : okAll 2 (ts.map dTie) = true := okAll_mem.mpr fun d hd => by
  obtain ⟨t, ht, rfl⟩ := List.mem_map.mp hd
  have o := h t ht
  have o0 := o.o0; have o1 := o.o1; have o2 := o.o2; have c0 := o.c0; have c1 := o.c1; have b1 := o.b1; have w0 := o.w0; have w1 := o.w1
  simp only [dTie, okD, okAll, Bool.and_eq_true, decide_eq_true_eq, Nat.reducePow]
  refine ⟨by decide, by omega, by omega, ⟨by decide, by omega, by omega, trivial⟩, by omega, trivial⟩
theorem wt_ties : ∀ (ts : List Tie), wtAll (ts.map dTie) = 7 * ts.length
  | [] => rfl
  | t :: r => by simp only [List.map_cons, wtAll, wt_ties r, dTie, wt, List.length_cons]; omega
theorem ok_pat {ps : List Int} (h : ∀ p ∈ ps, 0 ≤ p ∧ p ≤ 20) : okAll 0 (ps.map .int) = true := okAll_mem.mpr fun d hd => by
  obtain ⟨p, hp, rfl⟩ := List.mem_map.mp hd
  have := h p hp
  simp only [okD, decide_eq_true_eq, Nat.reducePow]
  omega
theorem wt_pat : ∀ (ps : List Int), wtAll (ps.map .int) = ps.length
  | [] => rfl
  | t :: r => by simp only [List.map_cons, wtAll, wt_pat r, wt, List.length_cons]; omega
theorem web_true {W : Web} (ok : W.Ok) : webB (dWeb W) = true := by
  have t0 := ok.t0; have t1 := ok.t1; have a0 := ok.a0; have a1 := ok.a1
  have h1 : (W.ties.map dTie).all (tieB W.things) = true := by
    rw [List.all_map, List.all_eq_true]
    intro t ht
    have o := ok.ties t ht
    have o0 := o.o0; have o1 := o.o1; have o2 := o.o2; have c0 := o.c0; have c1 := o.c1; have b0 := o.b0; have b1 := o.b1; have w0 := o.w0; have w1 := o.w1
    show tieB W.things (dTie t) = true
    simp only [dTie, tieB, chB, isNin, Bool.and_eq_true, decide_eq_true_eq]
    exact ⟨o0, o1, by omega, ⟨c0, c1, b0, b1, o.cop⟩, w0, w1⟩
  have h2 : (W.pat.map PyData.int).all (isNin 0 20) = true := by
    rw [all_isNin, List.all_eq_true]
    intro p hp
    have := ok.pat p hp
    simp only [Bool.and_eq_true, decide_eq_true_eq]
    exact this
  simp only [dWeb, webB, isNin, h1, h2, List.length_map, Bool.and_eq_true, decide_eq_true_eq, beq_iff_eq, and_true]
  exact ⟨⟨t0, t1⟩, ⟨a0, a1⟩, ok.len, ok.pl⟩
theorem okT {k : Nat} {xs : List PyData} (h : okAll k xs = true) : okD (k + 1) (.tuple xs) = true := by simp only [okD, Nat.add_sub_cancel, h, Bool.and_true]; simp
theorem okC {k : Nat} {x : PyData} {r : List PyData} (h1 : okD k x = true) (h2 : okAll k r = true) : okAll k (x :: r) = true := by simp only [okAll, h1, h2, Bool.and_self]
theorem ok_web {W : Web} (ok : W.Ok) : okD 4 (dWeb W) = true := by
  have t0 := ok.t0; have t1 := ok.t1; have a0 := ok.a0; have a1 := ok.a1
  have T2 := ok_ties t1 ok.ties
  have P2 := okAll_up (okAll_up (ok_pat ok.pat))
  have iN : okD 3 (.int W.things) = true := by simp only [okD, decide_eq_true_eq, Nat.reducePow]; omega
  have iA : okD 3 (.int W.asks) = true := by simp only [okD, decide_eq_true_eq, Nat.reducePow]; omega
  exact okT (okC iN (okC (okT T2) (okC (okT P2) (okC iA rfl))))
theorem wt_web {W : Web} (ok : W.Ok) : wt (dWeb W) ≤ 1000 := by
  have h1 := ok.len
  have h2 := ok.pl
  have h3 := ok.t1
  simp only [dWeb, wt, wtAll, wt_ties, wt_pat]
  omega
/-- a web is told alike -/
theorem t_same78 {W : Web} (ok : W.Ok) : m_law_same [.d (dWeb W), .d (dWeb W)] = some (.d (.bool true), [.d (dWeb W), .d (dWeb W)]) := by
  have a := any_of (ok_web ok)
  have w := wt_web ok
  have so := a.so
  have r : ∀ e, g1 gRepr e [.d (dWeb W)] = some (.d (.str (dWeb W).shown)) := fun e => gRepr_d (a.ok (by decide) (by omega))
  generalize dWeb W = d at *
  have q : ∀ e, gEqD false e (.d (.str d.shown)) (.d (.str d.shown)) = some (.d (.bool true)) := fun e => gEq_str so
  generalize d.shown = x at *
  simp? [m_law_same, b_law_same, r, q]
/-- the ties that are left, numbered from k on -/
def kp (S : List Int) : Int → List Tie → List Tie
  | _, [] => []
  | k, t :: r => if S.contains k then kp S (k + 1) r else t :: kp S (k + 1) r
theorem kp_mem {S : List Int} : ∀ {ts : List Tie} {k : Int} {t : Tie}, t ∈ kp S k ts → t ∈ ts
  | [], _, _, h => by simp [kp] at h
  | a :: r, k, t, h => by
    unfold kp at h
    split at h
    · exact List.mem_cons_of_mem _ (kp_mem h)
    · rcases List.mem_cons.mp h with rfl | h
      · simp
      · exact List.mem_cons_of_mem _ (kp_mem h)
theorem kp_len {S : List Int} : ∀ {ts : List Tie} {k : Int}, (kp S k ts).length ≤ ts.length
  | [], _ => by simp [kp]
  | a :: r, k => by
    have := kp_len (S := S) (ts := r) (k := k + 1)
    unfold kp
    split
    · simp only [List.length_cons]; omega
    · simp only [List.length_cons]; omega
theorem kp_nil : ∀ {ts : List Tie} {k : Int}, kp [] k ts = ts
  | [], _ => rfl
  | a :: r, k => by
    unfold kp
    rw [if_neg (by simp), kp_nil]
theorem kp_skip {s : Int} {R : List Int} : ∀ {ts : List Tie} {k : Int}, s < k → kp (s :: R) k ts = kp R k ts
  | [], _, _ => rfl
  | a :: r, k, h => by
    have c : (s :: R).contains k = R.contains k := by
      rw [List.contains_cons]
      have : (k == s) = false := by rw [beq_eq_false_iff_ne]; omega
      rw [this, Bool.false_or]
    unfold kp
    rw [c, kp_skip (by omega)]
theorem kp_two {s : Int} {R : List Int} (h : ∀ r ∈ R, s < r) : ∀ {ts : List Tie} {k : Int}, k ≤ s → kp [s] k (kp R k ts) = kp (s :: R) k ts
  | [], _, _ => rfl
  | a :: r, k, hk => by
    have nk : R.contains k = false := by
      rw [Bool.eq_false_iff]
      intro e
      have := h k (List.contains_iff_mem.mp e)
      omega
    have e1 : kp R k (a :: r) = a :: kp R (k + 1) r := by rw [kp, nk]; simp
    rw [e1]
    by_cases c : k = s
    · subst c
      have e2 : kp [k] k (a :: kp R (k + 1) r) = kp [k] (k + 1) (kp R (k + 1) r) := by rw [kp]; simp
      have e3 : kp (k :: R) k (a :: r) = kp (k :: R) (k + 1) r := by rw [kp]; simp
      rw [e2, e3, kp_skip (by omega), kp_skip (by omega), kp_nil]
    · have b : (k == s) = false := by rw [beq_eq_false_iff_ne]; exact c
      have e2 : kp [s] k (a :: kp R (k + 1) r) = a :: kp [s] (k + 1) (kp R (k + 1) r) := by rw [kp, List.contains_cons, b]; simp
      have e3 : kp (s :: R) k (a :: r) = a :: kp (s :: R) (k + 1) r := by rw [kp, List.contains_cons, b, nk]; simp
      rw [e2, e3, kp_two h (by omega)]
def outW (W : Web) (S : List Int) : Web := ⟨W.things, kp S 0 W.ties, W.pat, W.asks⟩
theorem out_ok {W : Web} (ok : W.Ok) (S : List Int) : (outW W S).Ok := ⟨ok.t0, ok.t1, fun t ht => ok.ties t (kp_mem ht), Nat.le_trans kp_len ok.len, ok.pl, ok.pat, ok.a0, ok.a1⟩
def bO (S : List Int) : PyData → Bool
  | .tuple [.int k, _] => !S.contains k
  | _ => false
def yO : PyData → PyData
  | .tuple [_, d] => d
  | d => d
def uO : PyData → En
  | .tuple [a, b] => [some (.d a), some (.d b)]
  | _ => [none, none]
theorem kp_comp {S : List Int} : ∀ {ts : List Tie} {k : Nat}, ((enumD k (ts.map dTie)).filter (bO S)).map yO = (kp S (k : Int) ts).map dTie
  | [], _ => rfl
  | t :: r, k => by
    simp only [List.map_cons, enumD, List.filter_cons]
    have ih := kp_comp (S := S) (ts := r) (k := k + 1)
    rw [show (((k + 1 : Nat)) : Int) = (k : Int) + 1 by omega] at ih
    unfold kp
    cases c : S.contains (k : Int) with
    | true =>
      have : bO S (.tuple [.int (k : Int), dTie t]) = false := by show (!S.contains (k : Int)) = false; rw [c]; rfl
      rw [this]
      simpa using ih
    | false =>
      have : bO S (.tuple [.int (k : Int), dTie t]) = true := by show (!S.contains (k : Int)) = true; rw [c]; rfl
      rw [this]
      simp only [if_true, List.map_cons, Bool.false_eq_true, if_false, ih]
      rfl
theorem comp_out {ft : FT} {fe : FE} (hft : ∀ (S : List Int) (k : Int) (d : PyData), ft [some (.d (.tuple (S.map .int))), some (.d (.int k)), some (.d d)] = some (!S.contains k, [some (.d (.tuple (S.map .int))), some (.d (.int k)), some (.d d)])) (hfe : ∀ (S : List Int) (k : Int) (d : PyData), fe [some (.d (.tuple (S.map .int))), some (.d (.int k)), some (.d d)] = some (.d d, [some (.d (.tuple (S.map .int))), some (.d (.int k)), some (.d d)])) (S : List Int) {ts : List Tie} (hl : ts.length ≤ 16) :
    ∃ t', compF (gtTup (gtCons (gtName 1) (gtCons (gtName 2) gtNil))) ft fe (enumD 0 (ts.map dTie)) [some (.d (.tuple (S.map .int))), none, none] [] = some ((kp S 0 ts).map dTie, some (.d (.tuple (S.map .int))) :: t') := by
  have item : ∀ x ∈ enumD 0 (ts.map dTie), ∃ (k : Int) (d : PyData), x = .tuple [.int k, d] := fun x hx => by
    obtain ⟨i, hi⟩ := List.getElem?_of_mem hx
    rw [enumD_get] at hi
    obtain ⟨d, _, rfl⟩ := Option.map_eq_some_iff.mp hi
    exact ⟨_, _, rfl⟩
  obtain ⟨t', ht, hf⟩ := compF_many (cs := [some (.d (.tuple (S.map .int)))]) (g := gtTup (gtCons (gtName 1) (gtCons (gtName 2) gtNil))) (ft := ft) (fe := fe) (b := bO S) (y := yO) (u := uO) 2 (enumD 0 (ts.map dTie)) [none, none] [] rfl (fun x hx t ht => by
    obtain ⟨k, d, rfl⟩ := item x hx
    rcases t with _ | ⟨t1, _ | ⟨t2, _ | ⟨t3, r⟩⟩⟩
    · simp at ht
    · simp at ht
    · simp? [uO]
    · simp at ht) (fun x hx => by
    obtain ⟨k, d, rfl⟩ := item x hx
    rfl) (fun x hx => by
    obtain ⟨k, d, rfl⟩ := item x hx
    exact hft S k d) (fun x hx _ => by
    obtain ⟨k, d, rfl⟩ := item x hx
    exact hfe S k d) (by
    rw [enumD_len]
    simp
    omega)
  rw [List.nil_append, kp_comp] at hf
  exact ⟨t', hf⟩
theorem t_left_out {W : Web} (ok : W.Ok) (S : List Int) : m_left_out [.d (dWeb W), .d (.tuple (S.map .int))] = some (.d (dWeb (outW W S)), [.d (dWeb W), .d (.tuple (S.map .int))]) := by
  obtain ⟨t', hf⟩ := comp_out (ft := c_left_out_2) (fe := e_left_out_3) (fun S k d => by simp? [c_left_out_2]) (fun S k d => by simp? [e_left_out_3]) S ok.len
  have hi : i_left_out_1 [some (.d (dWeb W)), some (.d (.tuple (S.map .int))), none] = some (enumD 0 (W.ties.map dTie), [], [some (.d (dWeb W)), some (.d (.tuple (S.map .int))), none]) := rfl
  have hv := vComp_cs (cp := [(1, "ties")]) (nT := 2) (fi := i_left_out_1) (g := gtTup (gtCons (gtName 1) (gtCons (gtName 2) gtNil))) (ft := c_left_out_2) (fe := e_left_out_3) (e := [some (.d (dWeb W)), some (.d (.tuple (S.map .int))), none]) (cs := [some (.d (.tuple (S.map .int)))]) (t := [none, none]) (t' := t') hi rfl rfl hf
  have gc : ∀ e : En, gAdd e (.d (.tuple [.int W.things, .tuple ((kp S 0 W.ties).map dTie)])) (.d (.tuple [.tuple (W.pat.map .int), .int W.asks])) = some (.d (.tuple [.int W.things, .tuple ((kp S 0 W.ties).map dTie), .tuple (W.pat.map .int), .int W.asks])) := fun e => gCat_t (by simp)
  unfold outW
  unfold dWeb at *
  generalize (kp S 0 W.ties).map dTie = M at *
  generalize W.ties.map dTie = TT at *
  generalize W.pat.map PyData.int = PP at *
  generalize S.map PyData.int = SS at *
  simp? [m_left_out, b_left_out, hv, gc]
theorem out_back {W : Web} {s : Int} (hs : 0 ≤ s) {R : List Int} (h : ∀ r ∈ R, s < r) : outW (outW W R) [s] = outW W (s :: R) := by
  unfold outW
  rw [kp_two h hs]
abbrev rE78 (W : Web) (S : List Int) (K : PyData) (D F : PyData) (B : PyData) (v6 : Option Sv) : En := [some (.d (dWeb W)), some (.d (.tuple (S.map .int))), some (.d K), some (.d D), some (.d F), some (.d B), v6]
theorem t_right {W : Web} (ok : W.Ok) {S : List Int} (hp : S.Pairwise (· < ·)) (h0 : ∀ s ∈ S, 0 ≤ s) : m_law_right [.d (dWeb W), .d (.tuple (S.map .int))] = some (.d (.bool true), [.d (dWeb W), .d (.tuple (S.map .int))]) := by
  obtain ⟨t', hf⟩ := comp_out (ft := c_law_right_4) (fe := e_law_right_5) (fun S k d => by simp? [c_law_right_4]) (fun S k d => by simp? [e_law_right_5]) S ok.len
  have hi : i_law_right_3 [some (.d (dWeb W)), some (.d (.tuple (S.map .int))), none, none, none, none, none] = some (enumD 0 (W.ties.map dTie), [], [some (.d (dWeb W)), some (.d (.tuple (S.map .int))), none, none, none, none, none]) := rfl
  have hv := vComp_cs (cp := [(1, "_law_some")]) (nT := 2) (fi := i_law_right_3) (g := gtTup (gtCons (gtName 1) (gtCons (gtName 2) gtNil))) (ft := c_law_right_4) (fe := e_law_right_5) (e := [some (.d (dWeb W)), some (.d (.tuple (S.map .int))), none, none, none, none, none]) (cs := [some (.d (.tuple (S.map .int)))]) (t := [none, none]) (t' := t') hi rfl rfl hf
  have tl := t_left_out ok S
  have ow := out_ok ok S
  have ts := t_same78 ow
  have tw := t_is_web (any_of (ok_web ow)).sh
  rw [web_true ow] at tw
  have gb : ∀ e : En, gIsNot e (.d (.bool true)) (.d (.bool true)) = some (.d (.bool false)) := fun e => rfl
  obtain ⟨e2, h1, ⟨v6, he⟩⟩ := forF_inv (own := []) (g := gtName 6) (f := b_law_right_2) (fun i e => ∃ v6, e = rE78 W S (.tuple ((kp S 0 W.ties).map dTie)) (dWeb (outW W S)) (dWeb (outW W S)) (dWeb (outW W (S.drop (S.length - i)))) v6) ((S.map PyData.int).reverse) 0 (rE78 W S (.tuple ((kp S 0 W.ties).map dTie)) (dWeb (outW W S)) (dWeb (outW W S)) (dWeb (outW W (S.drop (S.length - 0)))) none) (fun i x e hx ⟨v6, he⟩ => by
    subst he
    rw [← List.map_reverse, List.getElem?_map] at hx
    obtain ⟨s, hs, rfl⟩ := Option.map_eq_some_iff.mp hx
    have hi : i < S.length := by
      have := (List.getElem?_eq_some_iff.mp hs).1
      simpa using this
    rw [List.getElem?_reverse hi] at hs
    have hd : S.drop (S.length - (0 + i + 1)) = s :: S.drop (S.length - (0 + i)) := by
      obtain ⟨hl, e⟩ := List.getElem?_eq_some_iff.mp hs
      rw [show S.length - (0 + i + 1) = S.length - 1 - i by omega, show S.length - (0 + i) = S.length - 1 - i + 1 by omega, List.drop_eq_getElem_cons hl, e]
    have sm : s ∈ S := List.mem_of_getElem? hs
    have hlt : ∀ r ∈ S.drop (S.length - (0 + i)), s < r := by
      have := hp.drop (i := S.length - (0 + i + 1))
      rw [hd, List.pairwise_cons] at this
      exact this.1
    have t2 := t_left_out (out_ok ok (S.drop (S.length - (0 + i)))) [s]
    rw [out_back (h0 s sm) hlt, ← hd] at t2
    simp only [List.map_cons, List.map_nil] at t2
    refine ⟨_, rE78 W S (.tuple ((kp S 0 W.ties).map dTie)) (dWeb (outW W S)) (dWeb (outW W S)) (dWeb (outW W (S.drop (S.length - (0 + i + 1))))) (some (.d (.int s))), rfl, ?_, keeps_nil, _, rfl⟩
    clear hd
    generalize dWeb (outW W (S.drop (S.length - (0 + i + 1)))) = A at *
    generalize dWeb (outW W (S.drop (S.length - (0 + i)))) = B at *
    generalize dWeb (outW W S) = C at *
    simp? [rE78, b_law_right_2, t2]) ⟨none, rfl⟩
  subst he
  have hfor : ∀ Wl, sFor Wl i_law_right_1 (gtName 6) b_law_right_2 (rE78 W S (.tuple ((kp S 0 W.ties).map dTie)) (dWeb (outW W S)) (dWeb (outW W S)) (dWeb W) none) = some (.nx (rE78 W S (.tuple ((kp S 0 W.ties).map dTie)) (dWeb (outW W S)) (dWeb (outW W S)) (dWeb (outW W S)) v6)) := fun Wl => by
    rw [sFor_go (items := (S.map PyData.int).reverse) (e1 := rE78 W S (.tuple ((kp S 0 W.ties).map dTie)) (dWeb (outW W S)) (dWeb (outW W S)) (dWeb W) none) rfl]
    have z0 : outW W (S.drop (S.length - 0)) = W := by
      rw [Nat.sub_zero, List.drop_length]
      unfold outW
      rw [kp_nil]
    have z1 : outW W (S.drop (S.length - (0 + ((S.map PyData.int).reverse).length))) = outW W S := by
      rw [List.length_reverse, List.length_map, Nat.zero_add, Nat.sub_self, List.drop_zero]
    rw [z0, z1] at h1
    exact h1
  have due : dWeb (outW W S) = .tuple [.int W.things, .tuple ((kp S 0 W.ties).map dTie), .tuple (W.pat.map .int), .int W.asks] := rfl
  have web : dWeb W = .tuple [.int W.things, .tuple (W.ties.map dTie), .tuple (W.pat.map .int), .int W.asks] := rfl
  unfold rE78 at hfor
  rw [due] at ts tw tl hfor
  rw [web] at hv tl hfor ⊢
  clear hf hi h1 due web
  generalize (kp S 0 W.ties).map dTie = M at *
  generalize W.ties.map dTie = TT at *
  generalize W.pat.map PyData.int = PP at *
  generalize S.map PyData.int = SS at *
  simp? [m_law_right, b_law_right, hv, tl, ts, tw, gb, hfor]
theorem cut_row {ns : List Int} {lo hi : Option Int} : ∃ R : List Int, cutD (ns.map PyData.int) lo hi = R.map .int ∧ List.Sublist R ns := by
  unfold L2.cutD
  rw [← List.map_drop, ← List.map_take]
  exact ⟨_, rfl, (List.take_sublist _ _).trans (List.drop_sublist _ _)⟩
def up (n : Nat) : List Int := (List.range n).map fun (i : Nat) => (i : Int)
theorem up_D {n : Nat} : rangeD 0 n = (up n).map .int := by
  unfold rangeD up
  rw [List.map_map]
  exact List.map_congr_left fun i _ => by simp
theorem up_rng {n : Nat} : rngI n = up n := by
  unfold rngI up
  exact List.map_congr_left fun i _ => by simp
theorem up_lt {n : Nat} : (up n).Pairwise (· < ·) := by
  unfold up
  rw [List.pairwise_map]
  exact List.Pairwise.imp (fun h => by omega) List.pairwise_lt_range
theorem up_0 {n : Nat} : ∀ s ∈ up n, 0 ≤ s := fun s hs => by
  unfold up at hs
  obtain ⟨i, _, rfl⟩ := List.mem_map.mp hs
  omega
theorem up_len {n : Nat} : (up n).length = n := by simp [up]
def bit (n k : Int) : Bool := n / 2 ^ k.toNat % 2 == 1
abbrev kE78 (ns ds : List Int) (k : Option Sv) (W : Web) (n : Int) (S : List Int) (v8 : Option Sv) : En := [some (.d (.list (ns.map .int))), some (.l (ds.map .int)), k, some (.d (dWeb W)), some (.d (dWeb W)), some (.d (.int (W.ties.length : Int))), some (.d (.int n)), some (.d (.tuple (S.map .int))), v8]
theorem law_true (ns : List Int) (hl : ns.length ≤ 63) : ∃ as', m_law [.d (.list (ns.map .int))] = some (.d (.bool true), as') := by
  obtain ⟨ds, td, hd⟩ := t_draws ns hl
  obtain ⟨e2, h1, ⟨ds2, v2, v3, v4, v5, v6, v7, v8, he, hd2⟩⟩ := forF_inv (own := []) (g := gtName 2) (f := b_law_7) (fun i e => ∃ ds v2 v3 v4 v5 v6 v7 v8, e = [some (.d (.list (ns.map .int))), some (.l (ds.map .int)), v2, v3, v4, v5, v6, v7, v8] ∧ dOk ds) (rangeD 0 6) 0 [some (.d (.list (ns.map .int))), some (.l (ds.map .int)), none, none, none, none, none, none, none] (fun i x e hx ⟨ds, v2, v3, v4, v5, v6, v7, v8, he, hd⟩ => by
    subst he
    obtain ⟨rfl, hi⟩ := rangeD_get hx
    generalize (0 + (i : Int)) = q at *
    obtain ⟨W, d1, tw, hd1, ok, _, _⟩ := t_web ds 12 16 hd (by decide) (by decide) (by decide) (by decide)
    obtain ⟨n, d2, t2, -, -, hd2⟩ := t_nx hd1
    have wl := ok.len
    -- the drawn ties
    obtain ⟨t', hc⟩ := compF_one (cs := [some (.d (.int n))]) (ft := c_law_4) (fe := e_law_5) (b := onI (bit n)) (y := id) ((up W.ties.length).map PyData.int) none [] (fun x hx => by
      obtain ⟨k, hk, rfl⟩ := List.mem_map.mp hx
      have k0 := up_0 k hk
      have gs : ∀ e : En, gShr e (.d (.int n)) (.d (.int k)) = some (.d (.int (n / 2 ^ k.toNat))) := fun e => gI_int (by simpa using k0)
      have gm : ∀ e : En, gMod e (.d (.int (n / 2 ^ k.toNat))) (.d (.int 2)) = some (.d (.int (n / 2 ^ k.toNat % 2))) := fun e => gMod_int (by decide)
      simp? [c_law_4, gs, gm, onI, bit]) (fun x hx _ => by
      simp? [e_law_5]) (by simp [up_len]; omega)
    have hfil : ([] ++ (((up W.ties.length).map PyData.int).filter (onI (bit n))).map id) = (((up W.ties.length).filter (bit n)).map PyData.int) := by
      rw [List.nil_append, List.map_id, List.filter_map]
      rfl
    rw [hfil] at hc
    have hi3 : ∀ v7 v8, i_law_3 [some (.d (.list (ns.map .int))), some (.l (d2.map .int)), some (.d (.int q)), some (.d (dWeb W)), some (.d (dWeb W)), some (.d (.int (W.ties.length : Int))), some (.d (.int n)), v7, v8] = some ((up W.ties.length).map PyData.int, [], [some (.d (.list (ns.map .int))), some (.l (d2.map .int)), some (.d (.int q)), some (.d (dWeb W)), some (.d (dWeb W)), some (.d (.int (W.ties.length : Int))), some (.d (.int n)), v7, v8]) := fun v7 v8 => by
      rw [← up_D]
      exact iRange1_go (n := (W.ties.length : Int)) rfl (by omega) (by omega)
    have hv := vComp_cs (cp := [(6, "_law_number")]) (nT := 1) (fi := i_law_3) (g := gtName 1) (ft := c_law_4) (fe := e_law_5) (e := [some (.d (.list (ns.map .int))), some (.l (d2.map .int)), some (.d (.int q)), some (.d (dWeb W)), some (.d (dWeb W)), some (.d (.int (W.ties.length : Int))), some (.d (.int n)), v7, v8]) (cs := [some (.d (.int n))]) (t := [none]) (t' := [t']) (hi3 v7 v8) rfl rfl hc
    have sub : List.Sublist ((up W.ties.length).filter (bit n)) (up W.ties.length) := List.filter_sublist
    generalize (up W.ties.length).filter (bit n) = S at *
    have sp : S.Pairwise (· < ·) := up_lt.sublist sub
    have s0 : ∀ s ∈ S, 0 ≤ s := fun s hs => up_0 s (sub.subset hs)
    obtain ⟨R4, c4, b4⟩ := cut_row (ns := up W.ties.length) (lo := some (-1)) (hi := none)
    obtain ⟨R5, c5, b5⟩ := cut_row (ns := S) (lo := none) (hi := some 1)
    have good : ∀ d ∈ [PyData.tuple (S.map .int), .tuple [], .tuple ((up W.ties.length).map .int), .tuple (R4.map .int), .tuple (R5.map .int)], ∃ R : List Int, d = .tuple (R.map .int) ∧ R.Pairwise (· < ·) ∧ ∀ s ∈ R, 0 ≤ s := fun d h => by
      simp only [List.mem_cons, List.not_mem_nil, or_false] at h
      rcases h with rfl | rfl | rfl | rfl | rfl
      · exact ⟨S, rfl, sp, s0⟩
      · exact ⟨[], rfl, List.Pairwise.nil, fun s hs => by cases hs⟩
      · exact ⟨_, rfl, up_lt, up_0⟩
      · exact ⟨R4, rfl, up_lt.sublist b4, fun s hs => up_0 s (b4.subset hs)⟩
      · exact ⟨R5, rfl, sp.sublist b5, fun s hs => s0 s (b5.subset hs)⟩
    obtain ⟨e3, h3, ⟨w8, he3⟩⟩ := forF_inv (own := []) (g := gtName 8) (f := b_law_2) (fun i e => ∃ v8, e = kE78 ns d2 (some (.d (.int q))) W n S v8) [PyData.tuple (S.map .int), .tuple [], .tuple ((up W.ties.length).map .int), .tuple (R4.map .int), .tuple (R5.map .int)] 0 (kE78 ns d2 (some (.d (.int q))) W n S v8) (fun i x e hx ⟨v8, he⟩ => by
      subst he
      obtain ⟨R, rfl, rp, r0⟩ := good x (List.mem_of_getElem? hx)
      have tr := t_right ok rp r0
      refine ⟨_, kE78 ns d2 (some (.d (.int q))) W n S (some (.d (.tuple (R.map .int)))), rfl, ?_, keeps_nil, _, rfl⟩
      generalize R.map PyData.int = RR at *
      simp? [kE78, b_law_2, tr]) ⟨v8, rfl⟩
    subst he3
    have hi1 : i_law_1 (kE78 ns d2 (some (.d (.int q))) W n S v8) = some ([PyData.tuple (S.map .int), .tuple [], .tuple ((up W.ties.length).map .int), .tuple (R4.map .int), .tuple (R5.map .int)], [], kE78 ns d2 (some (.d (.int q))) W n S v8) := by
      unfold i_law_1
      refine iSeq_l ?_
      have z1 : (0 : Int) ≤ (W.ties.length : Int) ∧ (W.ties.length : Int) ≤ 100000 := by omega
      have z2 : rngI ((W.ties.length : Int)).toNat = up W.ties.length := by rw [Int.toNat_natCast, up_rng]
      simp only [kE78]
      generalize hS : S.map PyData.int = SS at *
      generalize (up W.ties.length) = U at *
      generalize (W.ties.length : Int) = L at *
      simp? [vTRange, z1, z2, c4, c5]
    have hf : ∀ Wl, sFor Wl i_law_1 (gtName 8) b_law_2 (kE78 ns d2 (some (.d (.int q))) W n S v8) = some (.nx (kE78 ns d2 (some (.d (.int q))) W n S w8)) := fun Wl => by
      rw [sFor_go hi1]
      exact h3
    have ts := t_same78 ok
    have gw : ∀ e, gIx e (.d (dWeb W)) (.d (.int 1)) = some (.d (.tuple (W.ties.map dTie))) := fun e => by rw [dWeb_ix1, gIx_t, atI_c1]; rfl
    have gt : ∀ e, g1 gTuple e [.d (dWeb W)] = some (.d (dWeb W)) := fun e => rfl
    have gl : ∀ e : En, g1 gLen e [.d (.tuple (W.ties.map dTie))] = some (.d (.int (W.ties.length : Int))) := fun e => by rw [gLen_t, List.length_map]
    refine ⟨_, _, rfl, ?_, keeps_nil, d2, some (.d (.int q)), some (.d (dWeb W)), some (.d (dWeb W)), some (.d (.int (W.ties.length : Int))), some (.d (.int n)), some (.d (.tuple (S.map .int))), w8, rfl, hd2⟩
    clear h3 hi1 good hc hi3
    simp only [kE78] at hf
    generalize dWeb W = WD at *
    generalize W.ties.map dTie = TT at *
    generalize (W.ties.length : Int) = L at *
    generalize S.map PyData.int = SS at *
    simp? [b_law_7, tw, gt, gw, gl, t2, hv, hf, ts]) ⟨ds, none, none, none, none, none, none, none, rfl, hd⟩
  subst he
  have hfor : ∀ Wl, sFor Wl i_law_6 (gtName 2) b_law_7 [some (.d (.list (ns.map .int))), some (.l (ds.map .int)), none, none, none, none, none, none, none] = some (.nx [some (.d (.list (ns.map .int))), some (.l (ds2.map .int)), v2, v3, v4, v5, v6, v7, v8]) := fun Wl => by
    rw [sFor_go (items := rangeD 0 6) (e1 := [some (.d (.list (ns.map .int))), some (.l (ds.map .int)), none, none, none, none, none, none, none]) rfl]
    exact h1
  simp? [m_law, b_law, td, hfor]
theorem ln1 {P : List Value → Prop} (h : ∀ a0, P [a0]) : ∀ us : List Value, us.length = 1 → P us := fun us e => match us, e with | [a0], _ => h a0
theorem ln2 {P : List Value → Prop} (h : ∀ a0 a1, P [a0, a1]) : ∀ us : List Value, us.length = 2 → P us := fun us e => match us, e with | [a0, a1], _ => h a0 a1
theorem ln3 {P : List Value → Prop} (h : ∀ a0 a1 a2, P [a0, a1, a2]) : ∀ us : List Value, us.length = 3 → P us := fun us e => match us, e with | [a0, a1, a2], _ => h a0 a1 a2
theorem all_mk {l : PySem.W.OpenLaw} {w : World} {K : PySem.W.Frag} {h : Heap} {mg : Str → Option Value} {fa : Addr} (X : K.In h) (G : h.Ns mainGlobals mg) (hfa : mg "law" = some (.ref fa))
    {F0 : Addr} {od0 an0 : Option Addr} {sl0 : Array (Option Value)} {oc0 kV0 dc0 pm0 cd0 ct0 : Value}
    {F1 : Addr} {od1 an1 : Option Addr} {sl1 : Array (Option Value)} {oc1 kV1 dc1 pm1 cd1 ct1 : Value}
    {F2 : Addr} {od2 an2 : Option Addr} {sl2 : Array (Option Value)} {oc2 kV2 dc2 pm2 cd2 ct2 : Value}
    {F3 : Addr} {od3 an3 : Option Addr} {sl3 : Array (Option Value)} {oc3 kV3 dc3 pm3 cd3 ct3 : Value}
    {F4 : Addr} {od4 an4 : Option Addr} {sl4 : Array (Option Value)} {oc4 kV4 dc4 pm4 cd4 ct4 : Value}
    {F5 : Addr} {od5 an5 : Option Addr} {sl5 : Array (Option Value)} {oc5 kV5 dc5 pm5 cd5 ct5 : Value}
    {F6 : Addr} {od6 an6 : Option Addr} {sl6 : Array (Option Value)} {oc6 kV6 dc6 pm6 cd6 ct6 : Value}
    {F7 : Addr} {od7 an7 : Option Addr} {sl7 : Array (Option Value)} {oc7 kV7 dc7 pm7 cd7 ct7 : Value}
    {F8 : Addr} {od8 an8 : Option Addr} {sl8 : Array (Option Value)} {oc8 kV8 dc8 pm8 cd8 ct8 : Value}
    {F9 : Addr} {od9 an9 : Option Addr} {sl9 : Array (Option Value)} {oc9 kV9 dc9 pm9 cd9 ct9 : Value}
    {F10 : Addr} {od10 an10 : Option Addr} {sl10 : Array (Option Value)} {oc10 kV10 dc10 pm10 cd10 ct10 : Value}
    {F11 : Addr} {od11 an11 : Option Addr} {sl11 : Array (Option Value)} {oc11 kV11 dc11 pm11 cd11 ct11 : Value}
    {F12 : Addr} {od12 an12 : Option Addr} {sl12 : Array (Option Value)} {oc12 kV12 dc12 pm12 cd12 ct12 : Value}
    {F13 : Addr} {od13 an13 : Option Addr} {sl13 : Array (Option Value)} {oc13 kV13 dc13 pm13 cd13 ct13 : Value}
    {F14 : Addr} {od14 an14 : Option Addr} {sl14 : Array (Option Value)} {oc14 kV14 dc14 pm14 cd14 ct14 : Value}
    {F15 : Addr} {od15 an15 : Option Addr} {sl15 : Array (Option Value)} {oc15 kV15 dc15 pm15 cd15 ct15 : Value}
    {F16 : Addr} {od16 an16 : Option Addr} {sl16 : Array (Option Value)} {oc16 kV16 dc16 pm16 cd16 ct16 : Value}
    {F17 : Addr} {od17 an17 : Option Addr} {sl17 : Array (Option Value)} {oc17 kV17 dc17 pm17 cd17 ct17 : Value}
    {F18 : Addr} {od18 an18 : Option Addr} {sl18 : Array (Option Value)} {oc18 kV18 dc18 pm18 cd18 ct18 : Value}
    {F19 : Addr} {od19 an19 : Option Addr} {sl19 : Array (Option Value)} {oc19 kV19 dc19 pm19 cd19 ct19 : Value}
    {F20 : Addr} {od20 an20 : Option Addr} {sl20 : Array (Option Value)} {oc20 kV20 dc20 pm20 cd20 ct20 : Value}
    {F21 : Addr} {od21 an21 : Option Addr} {sl21 : Array (Option Value)} {oc21 kV21 dc21 pm21 cd21 ct21 : Value}
    {F22 : Addr} {od22 an22 : Option Addr} {sl22 : Array (Option Value)} {oc22 kV22 dc22 pm22 cd22 ct22 : Value}
    {F23 : Addr} {od23 an23 : Option Addr} {sl23 : Array (Option Value)} {oc23 kV23 dc23 pm23 cd23 ct23 : Value}
    {tG0 : Tok}
    {tG1 : Tok}
    {tG2 : Tok}
    {tG3 : Tok}
    {tG4 : Tok}
    {tG5 : Tok}
    (a0 : PySem.W.nsIn K mainGlobals "common_divisor" = some (some (.ref F0))) (l0 : K.lookup F0 = some ⟨oc0, od0, .func (PySem.W.fnOf "common_divisor" "common_divisor" (defArgs s_common_divisor) (defBody s_common_divisor) (defScope s_common_divisor) .none kV0 dc0 pm0 an0 cd0 ct0), sl0⟩) (c0 : PySem.W.codeIn K cd0 "common_divisor" = true) (k0 : PySem.W.keepIn K (.ref F0) = true)
    (a1 : PySem.W.nsIn K mainGlobals "lowest" = some (some (.ref F1))) (l1 : K.lookup F1 = some ⟨oc1, od1, .func (PySem.W.fnOf "lowest" "lowest" (defArgs s_lowest) (defBody s_lowest) (defScope s_lowest) .none kV1 dc1 pm1 an1 cd1 ct1), sl1⟩) (c1 : PySem.W.codeIn K cd1 "lowest" = true) (k1 : PySem.W.keepIn K (.ref F1) = true)
    (a2 : PySem.W.nsIn K mainGlobals "is_number" = some (some (.ref F2))) (l2 : K.lookup F2 = some ⟨oc2, od2, .func (PySem.W.fnOf "is_number" "is_number" (defArgs s_is_number) (defBody s_is_number) (defScope s_is_number) .none kV2 dc2 pm2 an2 cd2 ct2), sl2⟩) (c2 : PySem.W.codeIn K cd2 "is_number" = true) (k2 : PySem.W.keepIn K (.ref F2) = true)
    (a3 : PySem.W.nsIn K mainGlobals "is_number_within" = some (some (.ref F3))) (l3 : K.lookup F3 = some ⟨oc3, od3, .func (PySem.W.fnOf "is_number_within" "is_number_within" (defArgs s_is_number_within) (defBody s_is_number_within) (defScope s_is_number_within) .none kV3 dc3 pm3 an3 cd3 ct3), sl3⟩) (c3 : PySem.W.codeIn K cd3 "is_number_within" = true) (k3 : PySem.W.keepIn K (.ref F3) = true)
    (a4 : PySem.W.nsIn K mainGlobals "is_row_of" = some (some (.ref F4))) (l4 : K.lookup F4 = some ⟨oc4, od4, .func (PySem.W.fnOf "is_row_of" "is_row_of" (defArgs s_is_row_of) (defBody s_is_row_of) (defScope s_is_row_of) .none kV4 dc4 pm4 an4 cd4 ct4), sl4⟩) (c4 : PySem.W.codeIn K cd4 "is_row_of" = true) (k4 : PySem.W.keepIn K (.ref F4) = true)
    (a5 : PySem.W.nsIn K mainGlobals "is_fraction" = some (some (.ref F5))) (l5 : K.lookup F5 = some ⟨oc5, od5, .func (PySem.W.fnOf "is_fraction" "is_fraction" (defArgs s_is_fraction) (defBody s_is_fraction) (defScope s_is_fraction) .none kV5 dc5 pm5 an5 cd5 ct5), sl5⟩) (c5 : PySem.W.codeIn K cd5 "is_fraction" = true) (k5 : PySem.W.keepIn K (.ref F5) = true)
    (a6 : PySem.W.nsIn K mainGlobals "is_chance" = some (some (.ref F6))) (l6 : K.lookup F6 = some ⟨oc6, od6, .func (PySem.W.fnOf "is_chance" "is_chance" (defArgs s_is_chance) (defBody s_is_chance) (defScope s_is_chance) .none kV6 dc6 pm6 an6 cd6 ct6), sl6⟩) (c6 : PySem.W.codeIn K cd6 "is_chance" = true) (k6 : PySem.W.keepIn K (.ref F6) = true)
    (a7 : PySem.W.nsIn K mainGlobals "is_tie_row" = some (some (.ref F7))) (l7 : K.lookup F7 = some ⟨oc7, od7, .func (PySem.W.fnOf "is_tie_row" "is_tie_row" (defArgs s_is_tie_row) (defBody s_is_tie_row) (defScope s_is_tie_row) .none kV7 dc7 pm7 an7 cd7 ct7), sl7⟩) (c7 : PySem.W.codeIn K cd7 "is_tie_row" = true) (k7 : PySem.W.keepIn K (.ref F7) = true)
    (a8 : PySem.W.nsIn K mainGlobals "is_ties" = some (some (.ref F8))) (l8 : K.lookup F8 = some ⟨oc8, od8, .func (PySem.W.fnOf "is_ties" "is_ties" (defArgs s_is_ties) (defBody s_is_ties) (defScope s_is_ties) .none kV8 dc8 pm8 an8 cd8 ct8), sl8⟩) (c8 : PySem.W.codeIn K cd8 "is_ties" = true) (k8 : PySem.W.keepIn K (.ref F8) = true)
    (a9 : PySem.W.nsIn K mainGlobals "is_patience" = some (some (.ref F9))) (l9 : K.lookup F9 = some ⟨oc9, od9, .func (PySem.W.fnOf "is_patience" "is_patience" (defArgs s_is_patience) (defBody s_is_patience) (defScope s_is_patience) .none kV9 dc9 pm9 an9 cd9 ct9), sl9⟩) (c9 : PySem.W.codeIn K cd9 "is_patience" = true) (k9 : PySem.W.keepIn K (.ref F9) = true)
    (a10 : PySem.W.nsIn K mainGlobals "is_web" = some (some (.ref F10))) (l10 : K.lookup F10 = some ⟨oc10, od10, .func (PySem.W.fnOf "is_web" "is_web" (defArgs s_is_web) (defBody s_is_web) (defScope s_is_web) .none kV10 dc10 pm10 an10 cd10 ct10), sl10⟩) (c10 : PySem.W.codeIn K cd10 "is_web" = true) (k10 : PySem.W.keepIn K (.ref F10) = true)
    (a11 : PySem.W.nsIn K mainGlobals "left_out" = some (some (.ref F11))) (l11 : K.lookup F11 = some ⟨oc11, od11, .func (PySem.W.fnOf "left_out" "left_out" (defArgs s_left_out) (defBody s_left_out) (defScope s_left_out) .none kV11 dc11 pm11 an11 cd11 ct11), sl11⟩) (c11 : PySem.W.codeIn K cd11 "left_out" = true) (k11 : PySem.W.keepIn K (.ref F11) = true)
    (a12 : PySem.W.nsIn K mainGlobals "_law_mixed" = some (some (.ref F12))) (l12 : K.lookup F12 = some ⟨oc12, od12, .func (PySem.W.fnOf "_law_mixed" "_law_mixed" (defArgs s_law_mixed) (defBody s_law_mixed) (defScope s_law_mixed) .none kV12 dc12 pm12 an12 cd12 ct12), sl12⟩) (c12 : PySem.W.codeIn K cd12 "_law_mixed" = true) (k12 : PySem.W.keepIn K (.ref F12) = true)
    (a13 : PySem.W.nsIn K mainGlobals "_law_draws" = some (some (.ref F13))) (l13 : K.lookup F13 = some ⟨oc13, od13, .func (PySem.W.fnOf "_law_draws" "_law_draws" (defArgs s_law_draws) (defBody s_law_draws) (defScope s_law_draws) .none kV13 dc13 pm13 an13 cd13 ct13), sl13⟩) (c13 : PySem.W.codeIn K cd13 "_law_draws" = true) (k13 : PySem.W.keepIn K (.ref F13) = true)
    (a14 : PySem.W.nsIn K mainGlobals "_law_next" = some (some (.ref F14))) (l14 : K.lookup F14 = some ⟨oc14, od14, .func (PySem.W.fnOf "_law_next" "_law_next" (defArgs s_law_next) (defBody s_law_next) (defScope s_law_next) .none kV14 dc14 pm14 an14 cd14 ct14), sl14⟩) (c14 : PySem.W.codeIn K cd14 "_law_next" = true) (k14 : PySem.W.keepIn K (.ref F14) = true)
    (a15 : PySem.W.nsIn K mainGlobals "_law_gcd" = some (some (.ref F15))) (l15 : K.lookup F15 = some ⟨oc15, od15, .func (PySem.W.fnOf "_law_gcd" "_law_gcd" (defArgs s_law_gcd) (defBody s_law_gcd) (defScope s_law_gcd) .none kV15 dc15 pm15 an15 cd15 ct15), sl15⟩) (c15 : PySem.W.codeIn K cd15 "_law_gcd" = true) (k15 : PySem.W.keepIn K (.ref F15) = true)
    (a16 : PySem.W.nsIn K mainGlobals "_law_low" = some (some (.ref F16))) (l16 : K.lookup F16 = some ⟨oc16, od16, .func (PySem.W.fnOf "_law_low" "_law_low" (defArgs s_law_low) (defBody s_law_low) (defScope s_law_low) .none kV16 dc16 pm16 an16 cd16 ct16), sl16⟩) (c16 : PySem.W.codeIn K cd16 "_law_low" = true) (k16 : PySem.W.keepIn K (.ref F16) = true)
    (a17 : PySem.W.nsIn K mainGlobals "_law_same" = some (some (.ref F17))) (l17 : K.lookup F17 = some ⟨oc17, od17, .func (PySem.W.fnOf "_law_same" "_law_same" (defArgs s_law_same) (defBody s_law_same) (defScope s_law_same) .none kV17 dc17 pm17 an17 cd17 ct17), sl17⟩) (c17 : PySem.W.codeIn K cd17 "_law_same" = true) (k17 : PySem.W.keepIn K (.ref F17) = true)
    (a18 : PySem.W.nsIn K mainGlobals "_law_chance" = some (some (.ref F18))) (l18 : K.lookup F18 = some ⟨oc18, od18, .func (PySem.W.fnOf "_law_chance" "_law_chance" (defArgs s_law_chance) (defBody s_law_chance) (defScope s_law_chance) .none kV18 dc18 pm18 an18 cd18 ct18), sl18⟩) (c18 : PySem.W.codeIn K cd18 "_law_chance" = true) (k18 : PySem.W.keepIn K (.ref F18) = true)
    (a19 : PySem.W.nsIn K mainGlobals "_law_worth" = some (some (.ref F19))) (l19 : K.lookup F19 = some ⟨oc19, od19, .func (PySem.W.fnOf "_law_worth" "_law_worth" (defArgs s_law_worth) (defBody s_law_worth) (defScope s_law_worth) .none kV19 dc19 pm19 an19 cd19 ct19), sl19⟩) (c19 : PySem.W.codeIn K cd19 "_law_worth" = true) (k19 : PySem.W.keepIn K (.ref F19) = true)
    (a20 : PySem.W.nsIn K mainGlobals "_law_ties" = some (some (.ref F20))) (l20 : K.lookup F20 = some ⟨oc20, od20, .func (PySem.W.fnOf "_law_ties" "_law_ties" (defArgs s_law_ties) (defBody s_law_ties) (defScope s_law_ties) .none kV20 dc20 pm20 an20 cd20 ct20), sl20⟩) (c20 : PySem.W.codeIn K cd20 "_law_ties" = true) (k20 : PySem.W.keepIn K (.ref F20) = true)
    (a21 : PySem.W.nsIn K mainGlobals "_law_web" = some (some (.ref F21))) (l21 : K.lookup F21 = some ⟨oc21, od21, .func (PySem.W.fnOf "_law_web" "_law_web" (defArgs s_law_web) (defBody s_law_web) (defScope s_law_web) .none kV21 dc21 pm21 an21 cd21 ct21), sl21⟩) (c21 : PySem.W.codeIn K cd21 "_law_web" = true) (k21 : PySem.W.keepIn K (.ref F21) = true)
    (a22 : PySem.W.nsIn K mainGlobals "_law_right" = some (some (.ref F22))) (l22 : K.lookup F22 = some ⟨oc22, od22, .func (PySem.W.fnOf "_law_right" "_law_right" (defArgs s_law_right) (defBody s_law_right) (defScope s_law_right) .none kV22 dc22 pm22 an22 cd22 ct22), sl22⟩) (c22 : PySem.W.codeIn K cd22 "_law_right" = true) (k22 : PySem.W.keepIn K (.ref F22) = true)
    (a23 : PySem.W.nsIn K mainGlobals "law" = some (some (.ref F23))) (l23 : K.lookup F23 = some ⟨oc23, od23, .func (PySem.W.fnOf "law" "law" (defArgs s_law) (defBody s_law) (defScope s_law) .none kV23 dc23 pm23 an23 cd23 ct23), sl23⟩) (c23 : PySem.W.codeIn K cd23 "law" = true) (k23 : PySem.W.keepIn K (.ref F23) = true)
    (aG0 : PySem.W.nsIn K mainGlobals "MOST_THINGS" = some (some (.int (12) tG0)))
    (aG1 : PySem.W.nsIn K mainGlobals "MOST_TIES" = some (some (.int (16) tG1)))
    (aG2 : PySem.W.nsIn K mainGlobals "MOST_BOTTOM" = some (some (.int (100) tG2)))
    (aG3 : PySem.W.nsIn K mainGlobals "MOST_WORTH" = some (some (.int (1000) tG3)))
    (aG4 : PySem.W.nsIn K mainGlobals "MOST_PATIENCE" = some (some (.int (20) tG4)))
    (aG5 : PySem.W.nsIn K mainGlobals "MOST_ASKS" = some (some (.int (40) tG5)))
    (z_abs : PySem.W.nsIn K mainGlobals "abs" = some none)
    (z_len : PySem.W.nsIn K mainGlobals "len" = some none)
    (z_min : PySem.W.nsIn K mainGlobals "min" = some none)
    (z_max : PySem.W.nsIn K mainGlobals "max" = some none)
    (z_range : PySem.W.nsIn K mainGlobals "range" = some none)
    (z_repr : PySem.W.nsIn K mainGlobals "repr" = some none)
    (z_tuple : PySem.W.nsIn K mainGlobals "tuple" = some none)
    (z_int : PySem.W.nsIn K mainGlobals "int" = some none)
    (z_enumerate : PySem.W.nsIn K mainGlobals "enumerate" = some none)
    (z_isinstance : PySem.W.nsIn K mainGlobals "isinstance" = some none)
    (z_bool : PySem.W.nsIn K mainGlobals "bool" = some none)
    (z_all : PySem.W.nsIn K mainGlobals "all" = some none)
    (z_reversed : PySem.W.nsIn K mainGlobals "reversed" = some none) :
    ∃ fd : FuncData, (∀ (s : Shared) (v : Value), BindsTo s fd ⟨[v], []⟩ [("_law_script", v)]) ∧ ∀ base : Heap, K.In base → base.Ns mainGlobals mg → FnOk l.prog w K mg base CX0 9 fa fd ["_law_script"] (spM K 1 m_law) := by
  have e := hfa.symm.trans (PySem.W.mg_of X G a23)
  cases e
  have T : Txt mg := ⟨PySem.W.mg_none_of X G z_abs, PySem.W.mg_none_of X G z_len, PySem.W.mg_none_of X G z_min, PySem.W.mg_none_of X G z_max, PySem.W.mg_none_of X G z_range, PySem.W.mg_none_of X G z_repr, PySem.W.mg_none_of X G z_tuple, PySem.W.mg_none_of X G z_int, PySem.W.mg_none_of X G z_enumerate, PySem.W.mg_none_of X G z_isinstance, PySem.W.mg_none_of X G z_bool, PySem.W.mg_none_of X G z_all, PySem.W.mg_none_of X G z_reversed⟩
  have h_common_divisor : Has K mg "common_divisor" s_common_divisor F0 _ ["one", "other"] := has_mk X G a0 l0 c0 k0 fun _ _ _ _ _ _ => ln2 fun _ _ => rfl
  have h_lowest : Has K mg "lowest" s_lowest F1 _ ["top", "bottom"] := has_mk X G a1 l1 c1 k1 fun _ _ _ _ _ _ => ln2 fun _ _ => rfl
  have h_is_number : Has K mg "is_number" s_is_number F2 _ ["thing"] := has_mk X G a2 l2 c2 k2 fun _ _ _ _ _ _ => ln1 fun _ => rfl
  have h_is_number_within : Has K mg "is_number_within" s_is_number_within F3 _ ["thing", "low", "high"] := has_mk X G a3 l3 c3 k3 fun _ _ _ _ _ _ => ln3 fun _ _ _ => rfl
  have h_is_row_of : Has K mg "is_row_of" s_is_row_of F4 _ ["thing", "many"] := has_mk X G a4 l4 c4 k4 fun _ _ _ _ _ _ => ln2 fun _ _ => rfl
  have h_is_fraction : Has K mg "is_fraction" s_is_fraction F5 _ ["thing"] := has_mk X G a5 l5 c5 k5 fun _ _ _ _ _ _ => ln1 fun _ => rfl
  have h_is_chance : Has K mg "is_chance" s_is_chance F6 _ ["thing"] := has_mk X G a6 l6 c6 k6 fun _ _ _ _ _ _ => ln1 fun _ => rfl
  have h_is_tie_row : Has K mg "is_tie_row" s_is_tie_row F7 _ ["thing", "things"] := has_mk X G a7 l7 c7 k7 fun _ _ _ _ _ _ => ln2 fun _ _ => rfl
  have h_is_ties : Has K mg "is_ties" s_is_ties F8 _ ["thing", "things"] := has_mk X G a8 l8 c8 k8 fun _ _ _ _ _ _ => ln2 fun _ _ => rfl
  have h_is_patience : Has K mg "is_patience" s_is_patience F9 _ ["thing", "things"] := has_mk X G a9 l9 c9 k9 fun _ _ _ _ _ _ => ln2 fun _ _ => rfl
  have h_is_web : Has K mg "is_web" s_is_web F10 _ ["thing"] := has_mk X G a10 l10 c10 k10 fun _ _ _ _ _ _ => ln1 fun _ => rfl
  have h_left_out : Has K mg "left_out" s_left_out F11 _ ["web", "ties"] := has_mk X G a11 l11 c11 k11 fun _ _ _ _ _ _ => ln2 fun _ _ => rfl
  have h_law_mixed : Has K mg "_law_mixed" s_law_mixed F12 _ ["_law_cell", "_law_k"] := has_mk X G a12 l12 c12 k12 fun _ _ _ _ _ _ => ln2 fun _ _ => rfl
  have h_law_draws : Has K mg "_law_draws" s_law_draws F13 _ ["_law_script"] := has_mk X G a13 l13 c13 k13 fun _ _ _ _ _ _ => ln1 fun _ => rfl
  have h_law_next : Has K mg "_law_next" s_law_next F14 _ ["_law_drawn"] := has_mk X G a14 l14 c14 k14 fun _ _ _ _ _ _ => ln1 fun _ => rfl
  have h_law_gcd : Has K mg "_law_gcd" s_law_gcd F15 _ ["_law_one", "_law_other"] := has_mk X G a15 l15 c15 k15 fun _ _ _ _ _ _ => ln2 fun _ _ => rfl
  have h_law_low : Has K mg "_law_low" s_law_low F16 _ ["_law_top", "_law_bottom"] := has_mk X G a16 l16 c16 k16 fun _ _ _ _ _ _ => ln2 fun _ _ => rfl
  have h_law_same : Has K mg "_law_same" s_law_same F17 _ ["_law_found", "_law_due"] := has_mk X G a17 l17 c17 k17 fun _ _ _ _ _ _ => ln2 fun _ _ => rfl
  have h_law_chance : Has K mg "_law_chance" s_law_chance F18 _ ["_law_number", "_law_kind"] := has_mk X G a18 l18 c18 k18 fun _ _ _ _ _ _ => ln2 fun _ _ => rfl
  have h_law_worth : Has K mg "_law_worth" s_law_worth F19 _ ["_law_number", "_law_kind"] := has_mk X G a19 l19 c19 k19 fun _ _ _ _ _ _ => ln2 fun _ _ => rfl
  have h_law_ties : Has K mg "_law_ties" s_law_ties F20 _ ["_law_drawn", "_law_things", "_law_many"] := has_mk X G a20 l20 c20 k20 fun _ _ _ _ _ _ => ln3 fun _ _ _ => rfl
  have h_law_web : Has K mg "_law_web" s_law_web F21 _ ["_law_drawn", "_law_most", "_law_ties_here"] := has_mk X G a21 l21 c21 k21 fun _ _ _ _ _ _ => ln3 fun _ _ _ => rfl
  have h_law_right : Has K mg "_law_right" s_law_right F22 _ ["_law_web_here", "_law_some"] := has_mk X G a22 l22 c22 k22 fun _ _ _ _ _ _ => ln2 fun _ _ => rfl
  have h_law : Has K mg "law" s_law fa _ ["_law_script"] := has_mk X G a23 l23 c23 k23 fun _ _ _ _ _ _ => ln1 fun _ => rfl
  have m_MOST_THINGS := PySem.W.mg_of X G aG0
  have m_MOST_TIES := PySem.W.mg_of X G aG1
  have m_MOST_BOTTOM := PySem.W.mg_of X G aG2
  have m_MOST_WORTH := PySem.W.mg_of X G aG3
  have m_MOST_PATIENCE := PySem.W.mg_of X G aG4
  have m_MOST_ASKS := PySem.W.mg_of X G aG5
  refine ⟨PySem.W.fnOf "law" "law" (defArgs s_law) (defBody s_law) (defScope s_law) .none kV23 dc23 pm23 an23 cd23 ct23, fun s v => .of_eq rfl, fun base _ _ => ?_⟩
  have G_common_divisor := ok_common_divisor (P := l.prog) (w := w) (base := base) h_common_divisor T 
  have G_lowest := ok_lowest (P := l.prog) (w := w) (base := base) h_lowest T h_common_divisor G_common_divisor
  have G_is_number := ok_is_number (P := l.prog) (w := w) (base := base) h_is_number T 
  have G_is_number_within := ok_is_number_within (P := l.prog) (w := w) (base := base) h_is_number_within T h_is_number G_is_number
  have G_is_row_of := ok_is_row_of (P := l.prog) (w := w) (base := base) h_is_row_of T 
  have G_is_fraction := ok_is_fraction (P := l.prog) (w := w) (base := base) h_is_fraction T h_is_row_of G_is_row_of h_lowest G_lowest h_is_number G_is_number
  have G_is_chance := ok_is_chance (P := l.prog) (w := w) (base := base) h_is_chance T h_is_fraction G_is_fraction m_MOST_BOTTOM
  have G_is_tie_row := ok_is_tie_row (P := l.prog) (w := w) (base := base) h_is_tie_row T h_is_row_of G_is_row_of h_is_chance G_is_chance h_is_number_within G_is_number_within m_MOST_WORTH
  have G_is_ties := ok_is_ties (P := l.prog) (w := w) (base := base) h_is_ties T h_is_tie_row G_is_tie_row m_MOST_TIES
  have G_is_patience := ok_is_patience (P := l.prog) (w := w) (base := base) h_is_patience T h_is_row_of G_is_row_of h_is_number_within G_is_number_within m_MOST_PATIENCE
  have G_is_web := ok_is_web (P := l.prog) (w := w) (base := base) h_is_web T h_is_row_of G_is_row_of h_is_ties G_is_ties h_is_patience G_is_patience h_is_number_within G_is_number_within m_MOST_THINGS m_MOST_ASKS
  have G_left_out := ok_left_out (P := l.prog) (w := w) (base := base) h_left_out T 
  have G_law_mixed := ok_law_mixed (P := l.prog) (w := w) (base := base) h_law_mixed T 
  have G_law_draws := ok_law_draws (P := l.prog) (w := w) (base := base) h_law_draws T h_law_mixed G_law_mixed
  have G_law_next := ok_law_next (P := l.prog) (w := w) (base := base) h_law_next T 
  have G_law_gcd := ok_law_gcd (P := l.prog) (w := w) (base := base) h_law_gcd T 
  have G_law_low := ok_law_low (P := l.prog) (w := w) (base := base) h_law_low T h_law_gcd G_law_gcd
  have G_law_same := ok_law_same (P := l.prog) (w := w) (base := base) h_law_same T 
  have G_law_chance := ok_law_chance (P := l.prog) (w := w) (base := base) h_law_chance T h_law_low G_law_low
  have G_law_worth := ok_law_worth (P := l.prog) (w := w) (base := base) h_law_worth T 
  have G_law_ties := ok_law_ties (P := l.prog) (w := w) (base := base) h_law_ties T h_law_next G_law_next h_law_chance G_law_chance h_law_worth G_law_worth
  have G_law_web := ok_law_web (P := l.prog) (w := w) (base := base) h_law_web T h_law_ties G_law_ties h_law_next G_law_next
  have G_law_right := ok_law_right (P := l.prog) (w := w) (base := base) h_law_right T h_left_out G_left_out h_law_same G_law_same h_is_web G_is_web
  have G_law := ok_law (P := l.prog) (w := w) (base := base) h_law T h_law_draws G_law_draws h_law_web G_law_web h_law_next G_law_next h_law_same G_law_same h_law_right G_law_right
  exact G_law
def spLaw (K : PySem.W.Frag) : Sp := fun vs H Q _ => ∃ (a : Addr) (ns : List Int), vs = [.ref a] ∧ SqL K H a (ns.map V.int) ∧ ns.length ≤ 63 ∧ ∀ H', Q (.bl true) H'
theorem law_sp {K : PySem.W.Frag} {vs : List V} {H : Hp} {Q : VK} {E : XK} (h : spLaw K vs H Q E) : spM K 1 m_law vs H Q E := by
  obtain ⟨a, ns, rfl, hS, hl, q⟩ := h
  obtain ⟨as', hm⟩ := law_true ns hl
  exact spM_script hS hm q
theorem walk {l : PySem.W.OpenLaw} {q : Program} {loose : List Str} {XP : (Str → Option Value) → Heap → Prop} {YP : World → Heap → Prop} {d : DefRec} {K : Params → PySem.W.Frag} (hn : l.most = some 63) (hdf : d.params.defaults = [])
    (hY : ∀ (w : World) (h : Heap), YP w h → (K w.params).In h)
    (F : ∀ (w : World) (mg : Str → Option Value) (fa : Addr) (h : Heap), (K w.params).In h → h.Ns mainGlobals mg → mg d.name = some (.ref fa) →
      ∃ fd : FuncData, (∀ (s : Shared) (u : Value), BindsTo s fd ⟨[u], []⟩ [("_law_script", u)]) ∧ ∀ base : Heap, (K w.params).In base → base.Ns mainGlobals mg → FnOk l.prog w (K w.params) mg base CX0 9 fa fd ["_law_script"] (spM (K w.params) 1 m_law)) :
    PySem.W.WalkO q loose XP YP l.row.toRowW d [] (fun f vs => PySem.call f vs) :=
  L2.walk_of (n := 63) (k := 9) (x := "_law_script") (CX := fun _ => CX0) (sp := fun w => spM (K w.params) 1 m_law) hn (by decide) hdf ⟨rfl, by decide, by decide, rfl⟩ hY F (fun _ _ a ns hl _ hS => law_sp ⟨a, ns, rfl, hS, hl, fun _ => rfl⟩) fun _ _ _ _ _ z => z
end V78
open PySem PySem.W PyProof.Rows
set_option maxRecDepth 100000 in
set_option maxHeartbeats 0 in
theorem PySem.Challenge.cw_askedpairs_k78_ties_left_out_holds : PySem.Challenge.rw_askedpairs_k78_ties_left_out.Holds := by
  w_on; o_law; k_head; (case hw => w_witness2)
  k_fill
  refine V78.walk (l := PySem.Challenge.rw_askedpairs_k78_ties_left_out) rfl rfl (fun w h Y => PySem.W.kIn_of Y) ?F
  case F =>
    intro w mg fa h KX G hmg
    refine' V78.all_mk KX G hmg ?a0 ?l0 ?c0 ?k0 ?a1 ?l1 ?c1 ?k1 ?a2 ?l2 ?c2 ?k2 ?a3 ?l3 ?c3 ?k3 ?a4 ?l4 ?c4 ?k4 ?a5 ?l5 ?c5 ?k5 ?a6 ?l6 ?c6 ?k6 ?a7 ?l7 ?c7 ?k7 ?a8 ?l8 ?c8 ?k8 ?a9 ?l9 ?c9 ?k9 ?a10 ?l10 ?c10 ?k10 ?a11 ?l11 ?c11 ?k11 ?a12 ?l12 ?c12 ?k12 ?a13 ?l13 ?c13 ?k13 ?a14 ?l14 ?c14 ?k14 ?a15 ?l15 ?c15 ?k15 ?a16 ?l16 ?c16 ?k16 ?a17 ?l17 ?c17 ?k17 ?a18 ?l18 ?c18 ?k18 ?a19 ?l19 ?c19 ?k19 ?a20 ?l20 ?c20 ?k20 ?a21 ?l21 ?c21 ?k21 ?a22 ?l22 ?c22 ?k22 ?a23 ?l23 ?c23 ?k23 ?aG0 ?aG1 ?aG2 ?aG3 ?aG4 ?aG5 ?z_abs ?z_len ?z_min ?z_max ?z_range ?z_repr ?z_tuple ?z_int ?z_enumerate ?z_isinstance ?z_bool ?z_all ?z_reversed
    (case a0 => k_is)
    (case l0 => k_is)
    (case c0 => k_is)
    (case k0 => k_is)
    (case a1 => k_is)
    (case l1 => k_is)
    (case c1 => k_is)
    (case k1 => k_is)
    (case a2 => k_is)
    (case l2 => k_is)
    (case c2 => k_is)
    (case k2 => k_is)
    (case a3 => k_is)
    (case l3 => k_is)
    (case c3 => k_is)
    (case k3 => k_is)
    (case a4 => k_is)
    (case l4 => k_is)
    (case c4 => k_is)
    (case k4 => k_is)
    (case a5 => k_is)
    (case l5 => k_is)
    (case c5 => k_is)
    (case k5 => k_is)
    (case a6 => k_is)
    (case l6 => k_is)
    (case c6 => k_is)
    (case k6 => k_is)
    (case a7 => k_is)
    (case l7 => k_is)
    (case c7 => k_is)
    (case k7 => k_is)
    (case a8 => k_is)
    (case l8 => k_is)
    (case c8 => k_is)
    (case k8 => k_is)
    (case a9 => k_is)
    (case l9 => k_is)
    (case c9 => k_is)
    (case k9 => k_is)
    (case a10 => k_is)
    (case l10 => k_is)
    (case c10 => k_is)
    (case k10 => k_is)
    (case a11 => k_is)
    (case l11 => k_is)
    (case c11 => k_is)
    (case k11 => k_is)
    (case a12 => k_is)
    (case l12 => k_is)
    (case c12 => k_is)
    (case k12 => k_is)
    (case a13 => k_is)
    (case l13 => k_is)
    (case c13 => k_is)
    (case k13 => k_is)
    (case a14 => k_is)
    (case l14 => k_is)
    (case c14 => k_is)
    (case k14 => k_is)
    (case a15 => k_is)
    (case l15 => k_is)
    (case c15 => k_is)
    (case k15 => k_is)
    (case a16 => k_is)
    (case l16 => k_is)
    (case c16 => k_is)
    (case k16 => k_is)
    (case a17 => k_is)
    (case l17 => k_is)
    (case c17 => k_is)
    (case k17 => k_is)
    (case a18 => k_is)
    (case l18 => k_is)
    (case c18 => k_is)
    (case k18 => k_is)
    (case a19 => k_is)
    (case l19 => k_is)
    (case c19 => k_is)
    (case k19 => k_is)
    (case a20 => k_is)
    (case l20 => k_is)
    (case c20 => k_is)
    (case k20 => k_is)
    (case a21 => k_is)
    (case l21 => k_is)
    (case c21 => k_is)
    (case k21 => k_is)
    (case a22 => k_is)
    (case l22 => k_is)
    (case c22 => k_is)
    (case k22 => k_is)
    (case a23 => k_is)
    (case l23 => k_is)
    (case c23 => k_is)
    (case k23 => k_is)
    (case aG0 => k_is)
    (case aG1 => k_is)
    (case aG2 => k_is)
    (case aG3 => k_is)
    (case aG4 => k_is)
    (case aG5 => k_is)
    (case z_abs => k_is)
    (case z_len => k_is)
    (case z_min => k_is)
    (case z_max => k_is)
    (case z_range => k_is)
    (case z_repr => k_is)
    (case z_tuple => k_is)
    (case z_int => k_is)
    (case z_enumerate => k_is)
    (case z_isinstance => k_is)
    (case z_bool => k_is)
    (case z_all => k_is)
    (case z_reversed => k_is)
