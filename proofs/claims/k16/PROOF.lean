import PyProof.Rows.All
import Wide.All
import OpenK.AllK
import Wide.FinOn
import Lean
import PyProof.EqAt
import PyProof.EqKinds
import PyProof.TupleCall
import PyProof.NeKinds
import PyProof.IsiTupleOf
import PyProof.IsiHeapPairs
import PyProof.IsiPairs
import PyProof.ConsumeWalk
import PyProof.Rows.SumAny
import PyProof.FitsBits
import PyProof.Rows.SeqMore
import PyProof.ZipIter
import PyProof.TupleIter
import PyProof.LongRange
import PyProof.Rows.Range3
import PyProof.Rows.SortWalk
import PyProof.Rows.SortStr
import PySem.Challenge.RW_leastform_k16_whole_runs_by_any_cuts
set_option Elab.async false
set_option linter.all false
set_option maxRecDepth 100000
set_option maxHeartbeats 4000000
/-! THE HAND LAYER, for ints, bools, texts, own classes, LISTS and tuples (index, slices, in, append, pop ..), calls, loops. Paste it whole ahead of your own text; what your proof does not reach may be deleted. -/
namespace L2
open PySem PySem.Spec PyProof.Rows

/-- a key: an int or a str -/
abbrev Key := Sum Int Str
def keyIs : Key → Value → Bool
  | .inl k, v => Value.isInt k v
  | .inr x, v => Value.isStrOf x v
def keyH (w : World) : Key → Int
  | .inl k => hashInt k
  | .inr x => hashStr w x
theorem keyIs_shape : ∀ {k : Key} {v : Value}, keyIs k v = true → (∃ i t, k = Sum.inl i ∧ v = Value.int i t) ∨ (∃ x t, k = Sum.inr x ∧ v = Value.str x t)
  | .inl i, v, h => by
    obtain ⟨t, e⟩ := Value.isInt_shape (k := i) (v := v) h
    exact .inl ⟨i, t, rfl, e⟩
  | .inr x, v, h => by
    obtain ⟨t, e⟩ := Value.isStrOf_shape (x := x) (v := v) h
    exact .inr ⟨x, t, rfl, e⟩
theorem key_ll (a b : Int) : decide ((Sum.inl a : Key) = Sum.inl b) = (a == b) := by
  by_cases e : a = b
  · subst e; simp
  · have h : ¬ (Sum.inl a : Key) = Sum.inl b := fun q => e (Sum.inl.inj q)
    rw [decide_eq_false h]
    exact (beq_eq_false_iff_ne.mpr e).symm
theorem key_rr (a b : Str) : decide ((Sum.inr a : Key) = Sum.inr b) = decide (a = b) := by
  by_cases e : a = b
  · subst e; simp
  · have h : ¬ (Sum.inr a : Key) = Sum.inr b := fun q => e (Sum.inr.inj q)
    rw [decide_eq_false h, decide_eq_false e]
theorem key_lr (a : Int) (b : Str) : decide ((Sum.inl a : Key) = Sum.inr b) = false := decide_eq_false (fun q => nomatch q)
theorem key_rl (a : Str) (b : Int) : decide ((Sum.inr a : Key) = Sum.inl b) = false := decide_eq_false (fun q => nomatch q)

def mixKind (prog : Program) (w : World) : PySem.KeyKind prog w Key where
  is := keyIs
  hash := keyH w
  inj := fun v a b ha hb => by
    rcases keyIs_shape ha with ⟨i, t, rfl, rfl⟩ | ⟨x, t, rfl, rfl⟩
    · rcases keyIs_shape hb with ⟨j, u, rfl, e⟩ | ⟨y, u, rfl, e⟩
      · injection e with e1 _; rw [e1]
      · exact nomatch e
    · rcases keyIs_shape hb with ⟨j, u, rfl, e⟩ | ⟨y, u, rfl, e⟩
      · exact nomatch e
      · injection e with e1 _; rw [e1]
  byValue := fun k v h => by
    rcases keyIs_shape h with ⟨i, t, rfl, rfl⟩ | ⟨x, t, rfl, rfl⟩ <;> rfl
  pyHash := fun hv h => by
    rcases keyIs_shape hv with ⟨i, t, rfl, rfl⟩ | ⟨x, t, rfl, rfl⟩
    · exact wpAny_pyHash_int h
    · exact wpAny_pyHash_str h
  eqBool := fun hu hv h => by
    rcases keyIs_shape hu with ⟨i, t, rfl, rfl⟩ | ⟨x, t, rfl, rfl⟩
    · rcases keyIs_shape hv with ⟨j, u, rfl, rfl⟩ | ⟨y, u, rfl, rfl⟩
      · rw [key_ll] at h; exact wpAny_eqBool_int h
      · rw [key_lr] at h; exact SeqAt.EqAt.int_str i t y u _ _ _ _ h
    · rcases keyIs_shape hv with ⟨j, u, rfl, rfl⟩ | ⟨y, u, rfl, rfl⟩
      · rw [key_rl] at h; exact SeqAt.EqAt.str_int x t j u _ _ _ _ h
      · rw [key_rr] at h; exact wpAny_eqBool_str h
  «strs» := fun k x t v h => by
    rcases keyIs_shape h with ⟨i, u, rfl, e⟩ | ⟨y, u, rfl, e⟩
    · exact nomatch e
    · injection e with e1 _
      subst e1
      cases v <;> rfl

end L2

namespace L2
open PySem PySem.Spec PyProof.Rows

/-- a value, without the heap -/
inductive V where
  | non | bl (b : Bool) | int (i : Int) | str (x : Str) | byt (b : Array UInt8) | flt (b : UInt64) | ref (a : Addr) | ty (n : String)
  deriving DecidableEq

def RelV : V → Value → Prop
  | .non, u => u = Value.none
  | .bl b, u => u = Value.bool b
  | .int i, u => ∃ t, u = Value.int i t
  | .str x, u => ∃ t, u = Value.str x t
  | .byt b, u => ∃ t, u = Value.bytes b t
  | .flt b, u => ∃ t, u = Value.float b t
  | .ref a, u => u = Value.ref a
  | .ty n, u => u = Value.type n

abbrev Vals : List V → List Value → Prop := Paired RelV
theorem Vals.length {xs : List V} {us : List Value} (r : Vals xs us) : xs.length = us.length := Paired.length r
theorem Vals.get : ∀ {xs : List V} {us : List Value} {i : Nat} {x : V}, Vals xs us → xs[i]? = some x → ∃ u, us[i]? = some u ∧ RelV x u
  | _, _, _, _, .nil, e => by simp at e
  | _, _, 0, _, .cons r _, e => by simp at e; subst e; exact ⟨_, rfl, r⟩
  | _, _, i + 1, x, .cons _ t, e => by
    obtain ⟨u, h1, h2⟩ := Vals.get (i := i) (x := x) t (by simpa using e)
    exact ⟨u, by simpa using h1, h2⟩
theorem Vals.set {x : V} {u : Value} (r : RelV x u) : ∀ {xs : List V} {us : List Value} (i : Nat), Vals xs us → Vals (xs.set i x) (us.set i u)
  | _, _, _, .nil => .nil
  | _, _, 0, .cons _ t => .cons r t
  | _, _, i + 1, .cons q t => .cons q (Vals.set r i t)
theorem Vals.append : ∀ {xs ys : List V} {us ws : List Value}, Vals xs us → Vals ys ws → Vals (xs ++ ys) (us ++ ws)
  | _, _, _, _, .nil, s => s
  | _, _, _, _, .cons r t, s => .cons r (Vals.append t s)
theorem Vals.take : ∀ {xs : List V} {us : List Value} (n : Nat), Vals xs us → Vals (xs.take n) (us.take n)
  | _, _, 0, _ => .nil
  | _, _, _ + 1, .nil => .nil
  | _, _, n + 1, .cons r t => .cons r (Vals.take n t)
theorem Vals.drop : ∀ {xs : List V} {us : List Value} (n : Nat), Vals xs us → Vals (xs.drop n) (us.drop n)
  | _, _, 0, r => r
  | _, _, _ + 1, .nil => .nil
  | _, _, n + 1, .cons _ t => Vals.drop n t
def RelO : Option V → Option Value → Prop
  | some v, some u => RelV v u
  | none, none => True
  | _, _ => False
def KV {κ : Type} : List (κ × V) → List (κ × Value) → Prop := Paired fun (p : κ × V) (q : κ × Value) => p.1 = q.1 ∧ RelV p.2 q.2

/-- a key of a dict (00_mix): an int or a text -/
def kV : Key → V
  | .inl i => .int i
  | .inr x => .str x

/-- what stands at a tracked address -/
inductive HO where
  /-- a list -/
  | lst (xs : List V)
  /-- a tuple (never changes) -/
  | tup (xs : List V)
  /-- a dict whose keys are ints and texts; one whose keys are tuples of ints and texts (the empty one is both) -/
  | dK (kvs : List (Key × V)) | dT (kvs : List (List Key × V))
  /-- a set of ints: its members, its size -/
  | set (S : Int → Bool) (n : Nat)
  /-- an instance of the class at C, its dict at dx, its attributes -/
  | ins (C dx : Addr) (fs : List (Str × V))
  /-- the dict of the instance at x -/
  | own (x : Addr)
  /-- the dict of an exception -/
  | xd (fs : List (Str × V))
  /-- a bound method, f of x -/
  | met (f x : Addr)
  /-- a range object lo, lo + 1, .. below hi -/
  | rng (lo hi : Int)
  /-- a thing that is known to the object (the script; a dict while a loop walks it): read, never written while it is so -/
  | frz (o : Obj) (u : HO)
  /-- a code object's table -/
  | tbl (ps : Array Value)
  /-- any other thing, by what is true of its one object (a def of one's own: SetO a S n := HO.ext fun h => ..) -/
  | ext (φ : Heap → Prop)

abbrev Hp := Addr → Option HO
def upd (H : Hp) (a : Addr) (o : HO) : Hp := fun b => if b = a then some o else H b
theorem upd_same {H : Hp} {a : Addr} {o : HO} : upd H a o a = some o := by unfold upd; rw [if_pos rfl]
theorem upd_ne {H : Hp} {a b : Addr} {o : HO} (h : b ≠ a) : upd H a o b = H b := by unfold upd; rw [if_neg h]
/-- two objects of different content stand apart -/
theorem ne_of {H : Hp} {a b : Addr} {o u : HO} (h : H a = some o) (h' : H b = some u) (d : o ≠ u) : a ≠ b := by
  intro e; subst e; rw [h] at h'; exact d (Option.some.inj h')
theorem ne_of_none {H : Hp} {a b : Addr} {o : HO} (h : H a = some o) (h' : H b = none) : a ≠ b := by
  intro e; subst e; rw [h] at h'; cases h'

section
variable (P : Program) (w : World)
def ObjOk (H : Hp) (h : Heap) (a : Addr) : HO → Prop
  | .lst xs => xs.length ≤ sizeLine ∧ ∃ (its : List Value) (n : Nat), Vals xs its ∧ h.get? a = some { cls := .type "list", data := .seq its.toArray n }
  | .tup xs => xs.length ≤ sizeLine ∧ ∃ its : List Value, Vals xs its ∧ IsTup h a its.toArray
  | .dK kvs => kvs.length ≤ sizeLine ∧ (a == sysModules) = false ∧ ∃ vs, KV kvs vs ∧ h.DictOf (mixKind P w) a vs
  | .dT kvs => kvs.length ≤ sizeLine ∧ (a == sysModules) = false ∧ ∃ xs : List (List Key × Addr × Value),
      Paired (fun (p : List Key × V) (q : List Key × Addr × Value) => p.1 = q.1 ∧ H q.2.1 = some (.tup (p.1.map kV)) ∧ RelV p.2 q.2.2) kvs xs ∧
      ∃ o es ep, h.get? a = some o ∧ o.ExactDict ∧ o.data = .dict es ep ∧ es.toList = xs.map (entryOfKey (tupleKind (mixKind P w))) ∧ (xs.map (·.1)).Nodup
  | .set S n => h.SetOf (intKind P w) a S n
  | .ins C dx fs => H dx = some (.own a) ∧ fs.length ≤ 1000 ∧ dx ≠ a ∧ h.get? a = some (PySem.W.instObj C dx) ∧
      ∃ mA, h.Ns1 dx mA ∧ (∀ f, RelO (fs.lookup f) (mA f)) ∧ PySem.Within mA (fs.map (·.1))
  | .own _ => ∃ o, h.get? a = some o
  | .xd fs => ∃ mA, h.Ns1 a mA ∧ ∀ f, RelO (fs.lookup f) (mA f)
  | .rng lo hi => ∃ t u v, h.get? a = some { cls := .type "range", data := .fields #[.int lo t, .int hi u, .int 1 v] }
  | .frz o u => h.get? a = some o ∧ ObjOk H h a u
  | .tbl ps => h.get? a = some { cls := .none, data := .fields ps }
  | .met f x => h.get? a = some (PySem.W.methodObj (.ref f) (.ref x))
  | .ext φ => φ h ∧ (∃ o, h.get? a = some o) ∧ ∀ h1 h2 : Heap, φ h1 → (∀ o, h1.get? a = some o → h2.get? a = some o) → φ h2
/-- the abstract heap is held -/
def HOk (H : Hp) (h : Heap) : Prop := ∀ a o, H a = some o → ObjOk P w H h a o
end

section
variable {P : Program} {w : World} {H H' : Hp} {h h' : Heap} {a : Addr} {o : HO}
theorem ObjOk.lt (x : ObjOk P w H h a o) : a < h.objs.size := by
  cases o with
  | lst xs => obtain ⟨_, _, _, _, e⟩ := x; exact Heap.lt_size e
  | tup xs => obtain ⟨_, _, _, p⟩ := x; exact p.lt
  | dK kvs => obtain ⟨_, _, _, _, o, _, _, e, _⟩ := x; exact Heap.lt_size e
  | dT kvs => obtain ⟨_, _, _, _, o, _, _, e, _⟩ := x; exact Heap.lt_size e
  | set S n => obtain ⟨o, _, _, _, e, _⟩ := x; exact Heap.lt_size e
  | ins C dx fs => obtain ⟨_, _, _, e, _⟩ := x; exact Heap.lt_size e
  | own y => obtain ⟨_, e⟩ := x; exact Heap.lt_size e
  | xd fs => obtain ⟨_, ⟨_, _, _, e, _⟩, _⟩ := x; exact Heap.lt_size e
  | rng lo hi => obtain ⟨_, _, _, e⟩ := x; exact Heap.lt_size e
  | frz ob u => obtain ⟨e, _⟩ := x; exact Heap.lt_size e
  | tbl ps => exact Heap.lt_size (show h.get? a = some _ from x)
  | met f y => exact Heap.lt_size (show h.get? a = some _ from x)
  | ext φ => obtain ⟨_, ⟨_, e⟩, _⟩ := x; exact Heap.lt_size e
theorem Paired.mapP {α β : Type} {F G : α → β → Prop} : ∀ {l₁ : List α} {l₂ : List β}, Paired F l₁ l₂ → (∀ a b, F a b → G a b) → Paired G l₁ l₂
  | _, _, .nil, _ => .nil
  | _, _, .cons r t, f => .cons (f _ _ r) (Paired.mapP t f)
/-- what an object's description leans on: its own object, its own dict, the tuples -/
theorem ObjOk.stay (x : ObjOk P w H h a o) (k : ∀ b u, (b = a ∨ H b = some (.own a)) → h.get? b = some u → h'.get? b = some u)
    (ho : ∀ b, H b = some (.own a) → H' b = some (.own a)) (ht : ∀ b xs, H b = some (.tup xs) → H' b = some (.tup xs)) : ObjOk P w H' h' a o := by
  induction o with
  | lst xs => obtain ⟨z, its, n, r, e⟩ := x; exact ⟨z, its, n, r, k _ _ (.inl rfl) e⟩
  | tup xs => obtain ⟨z, its, r, ob, e, c⟩ := x; exact ⟨z, its, r, ob, k _ _ (.inl rfl) e, c⟩
  | dK kvs => obtain ⟨z, y, vs, r, ob, es, ep, e, c⟩ := x; exact ⟨z, y, vs, r, ob, es, ep, k _ _ (.inl rfl) e, c⟩
  | dT kvs =>
    obtain ⟨z, y, xs, r, ob, es, ep, e, c⟩ := x
    exact ⟨z, y, xs, Paired.mapP r fun p q z => ⟨z.1, ht _ _ z.2.1, z.2.2⟩, ob, es, ep, k _ _ (.inl rfl) e, c⟩
  | set S n => obtain ⟨ob, es, ep, t, e, c⟩ := x; exact ⟨ob, es, ep, t, k _ _ (.inl rfl) e, c⟩
  | ins C dx fs =>
    obtain ⟨d, z, ne, e, mA, ⟨od, es, ep, e2, c⟩, r⟩ := x
    exact ⟨ho _ d, z, ne, k _ _ (.inl rfl) e, mA, ⟨od, es, ep, k _ _ (.inr d) e2, c⟩, r⟩
  | own y => obtain ⟨ob, e⟩ := x; exact ⟨ob, k _ _ (.inl rfl) e⟩
  | xd fs => obtain ⟨mA, ⟨od, es, ep, e, c⟩, r⟩ := x; exact ⟨mA, ⟨od, es, ep, k _ _ (.inl rfl) e, c⟩, r⟩
  | rng lo hi => obtain ⟨t, u, v, e⟩ := x; exact ⟨t, u, v, k _ _ (.inl rfl) e⟩
  | frz ob u ih => obtain ⟨e, q⟩ := x; exact ⟨k _ _ (.inl rfl) e, ih q⟩
  | tbl ps =>
    have e : h.get? a = some { cls := .none, data := .fields ps } := x
    show h'.get? a = some { cls := .none, data := .fields ps }
    exact k a _ (.inl rfl) e
  | met f y =>
    have e : h.get? a = some (PySem.W.methodObj (.ref f) (.ref y)) := x
    show h'.get? a = some (PySem.W.methodObj (.ref f) (.ref y))
    exact k a _ (.inl rfl) e
  | ext φ => obtain ⟨p, ⟨o, e⟩, st⟩ := x; exact ⟨st _ _ p fun o q => k _ _ (.inl rfl) q, ⟨o, k _ _ (.inl rfl) e⟩, st⟩
theorem HOk.lt (x : HOk P w H h) (e : H a = some o) : a < h.objs.size := (x a o e).lt
theorem HOk.fresh (x : HOk P w H h) (e : h.objs.size ≤ a) : H a = none := by
  cases q : H a with
  | none => rfl
  | some u => exact absurd (Nat.lt_of_lt_of_le (x.lt q) e) (Nat.lt_irrefl _)
/-- every object of the heap is kept -/
theorem HOk.kept (x : HOk P w H h) (k : ∀ b u, h.get? b = some u → h'.get? b = some u) : HOk P w H h' := fun a o e =>
  (x a o e).stay (fun b u _ q => k b u q) (fun _ q => q) fun _ _ q => q
/-- a new object is laid and tracked -/
theorem HOk.laid (x : HOk P w H h) (k : ∀ b u, h.get? b = some u → h'.get? b = some u) (hp : h.objs.size ≤ a) (new : ObjOk P w (upd H a o) h' a o) : HOk P w (upd H a o) h' := fun b u e => by
  have hn := x.fresh hp
  by_cases hb : b = a
  · subst hb; rw [upd_same] at e; cases e; exact new
  · rw [upd_ne hb] at e
    exact (x b u e).stay (fun c v _ q => k c v q) (fun c q => by rw [upd_ne (ne_of_none q hn)]; exact q) fun c xs q => by rw [upd_ne (ne_of_none q hn)]; exact q
end

/-- what may be read as u: it is u, or a known u -/
def Rd (H : Hp) (a : Addr) (u : HO) : Prop := H a = some u ∨ ∃ o, H a = some (.frz o u)
theorem Rd.of {H : Hp} {a : Addr} {u : HO} (h : H a = some u) : Rd H a u := .inl h
theorem Rd.ok {P : Program} {w : World} {H : Hp} {h : Heap} {a : Addr} {u : HO} (r : Rd H a u) (x : HOk P w H h) : ObjOk P w H h a u := by
  rcases r with r | ⟨o, r⟩
  · exact x a u r
  · obtain ⟨_, q⟩ := x a _ r
    exact q
/-- what may be written -/
def Mut : Option HO → Prop
  | some (.lst _) => True
  | some (.dK _) => True
  | some (.dT _) => True
  | some (.set _ _) => True
  | some (.ins _ _ _) => True
  | some (.ext _) => True
  | _ => False
section
variable {P : Program} {w : World} {H : Hp} {h h' : Heap} {x e : Addr} {o' : HO}
/-- the object at e is changed: x itself, or the dict of the instance x -/
theorem HOk.write (ok : HOk P w H h) (mu : Mut (H x)) (he : e = x ∨ H e = some (.own x)) (k : ∀ b u, b ≠ e → h.get? b = some u → h'.get? b = some u) (heo : ∃ u, h'.get? e = some u)
    (new : ObjOk P w (upd H x o') h' x o') : HOk P w (upd H x o') h' := fun b u q => by
  have nown : ∀ c y, H c = some (.own y) → c ≠ x := fun c y r z => by subst z; rw [r] at mu; exact mu
  have ntup : ∀ c xs, H c = some (.tup xs) → c ≠ x := fun c xs r z => by subst z; rw [r] at mu; exact mu
  by_cases hb : b = x
  · subst hb; rw [upd_same] at q; cases q; exact new
  · rw [upd_ne hb] at q
    by_cases hbe : b = e
    · have q' : H b = some (.own x) := by
        rcases he with z | z
        · exact absurd (hbe.trans z) hb
        · rw [hbe]; exact z
      rw [q] at q'; cases q'
      obtain ⟨v, hv⟩ := heo
      exact ⟨v, by rw [hbe]; exact hv⟩
    · refine (ok b u q).stay (fun c v hc r => k c v ?_ r) (fun c r => by rw [upd_ne (nown c b r)]; exact r) fun c xs r => by rw [upd_ne (ntup c xs r)]; exact r
      rcases hc with rfl | hc
      · exact hbe
      · rintro rfl
        rcases he with z | z
        · exact nown c b hc z
        · rw [hc] at z; cases z; exact hb rfl
end

/-! ### kept unless tracked; of the frames at fs (the callers') the slots may change (an exception that passes writes there); of the records at ex (iterators) nothing is said -/
structure Un (fs ex : List Addr) (H H' : Hp) (h h' : Heap) : Prop where
  keep : ∀ b o, h.get? b = some o → H b = none → b ∉ fs → b ∉ ex → h'.get? b = some o
  slot : ∀ b o, h.get? b = some o → H b = none → b ∈ fs → b ∉ ex → ∃ sl, h'.get? b = some { o with slots := sl }
  free : ∀ b o, h.get? b = some o → H b = none → b ∉ ex → H' b = none
  there : ∀ b o, h.get? b = some o → b ∉ ex → ∃ o', h'.get? b = some o'
  tups : ∀ b xs, H b = some (.tup xs) → H' b = some (.tup xs)
  frzs : ∀ b o u, H b = some (.frz o u) → H' b = some (.frz o u)
  tbls : ∀ b ps, H b = some (.tbl ps) → ∃ more, H' b = some (.tbl (ps ++ more))
section
variable {fs fs' ex ex' : List Addr} {H H1 H2 : Hp} {h h1 h2 h' : Heap} {a x e : Addr} {o : HO}
theorem Un.any (u : Un fs ex H H1 h h1) {b : Addr} {ob : Obj} (q : h.get? b = some ob) (n : H b = none) (hx : b ∉ ex) : ∃ sl, h1.get? b = some { ob with slots := sl } := by
  by_cases hb : b ∈ fs
  · exact u.slot b ob q n hb hx
  · exact ⟨ob.slots, u.keep b ob q n hb hx⟩
theorem Un.trans (a : Un fs ex H H1 h h1) (b : Un fs ex H1 H2 h1 h2) : Un fs ex H H2 h h2 where
  keep := fun c ob q n hc hx => b.keep c ob (a.keep c ob q n hc hx) (a.free c ob q n hx) hc hx
  slot := fun c ob q n hc hx => by
    obtain ⟨sl, e1⟩ := a.slot c ob q n hc hx
    obtain ⟨sl', e2⟩ := b.slot c _ e1 (a.free c ob q n hx) hc hx
    exact ⟨sl', e2⟩
  free := fun c ob q n hx => by
    obtain ⟨o', e1⟩ := a.there c ob q hx
    exact b.free c o' e1 (a.free c ob q n hx) hx
  there := fun c ob q hx => by
    obtain ⟨o', e1⟩ := a.there c ob q hx
    exact b.there c o' e1 hx
  tups := fun c xs q => b.tups c xs (a.tups c xs q)
  frzs := fun c ob xs q => b.frzs c ob xs (a.frzs c ob xs q)
  tbls := fun c ps q => by
    obtain ⟨m1, e1⟩ := a.tbls c ps q
    obtain ⟨m2, e2⟩ := b.tbls c _ e1
    exact ⟨m1 ++ m2, by rw [e2, Array.append_assoc]⟩
theorem Un.kept (k : ∀ b u, h.get? b = some u → h'.get? b = some u) : Un fs ex H H h h' :=
  ⟨fun b ob q _ _ _ => k b ob q, fun b ob q _ _ _ => ⟨ob.slots, k b ob q⟩, fun _ _ _ n _ => n, fun b ob q _ => ⟨ob, k b ob q⟩, fun _ _ q => q, fun _ _ _ q => q, fun _ ps q => ⟨#[], by rw [q]; simp⟩⟩
theorem Un.refl : Un fs ex H H h h := Un.kept fun _ _ q => q
theorem Un.laid (k : ∀ b u, h.get? b = some u → h'.get? b = some u) (hp : h.objs.size ≤ a) (hn : H a = none) : Un fs ex H (upd H a o) h h' where
  keep := fun b u q _ _ _ => k b u q
  slot := fun b u q _ _ _ => ⟨u.slots, k b u q⟩
  free := fun b u q n _ => by rw [upd_ne (Nat.ne_of_lt (Nat.lt_of_lt_of_le (Heap.lt_size q) hp))]; exact n
  there := fun b u q _ => ⟨u, k b u q⟩
  tups := fun b xs q => by rw [upd_ne (ne_of_none q hn)]; exact q
  frzs := fun b u xs q => by rw [upd_ne (ne_of_none q hn)]; exact q
  tbls := fun b ps q => ⟨#[], by rw [upd_ne (ne_of_none q hn), q]; simp⟩
theorem Un.write (mu : Mut (H x)) (he : e = x ∨ H e = some (.own x)) (k : ∀ b u, b ≠ e → h.get? b = some u → h'.get? b = some u) (heo : ∃ u, h'.get? e = some u) : Un fs ex H (upd H x o) h h' := by
  have hx : ∀ b, H b = none → b ≠ x := fun b n z => by subst z; rw [n] at mu; exact mu
  have hb : ∀ b, H b = none → b ≠ e := fun b n z => by
    subst z
    rcases he with r | r
    · exact hx b n r
    · rw [n] at r; cases r
  have hm : ∀ b u, H b = some u → ¬ Mut (some u) → b ≠ x := fun b u q nm z => by subst z; rw [q] at mu; exact nm mu
  refine ⟨fun b u q n _ _ => k b u (hb b n) q, fun b u q n _ _ => ⟨u.slots, k b u (hb b n) q⟩, fun b u q n _ => by rw [upd_ne (hx b n)]; exact n, fun b u q _ => ?_,
    fun b xs q => by rw [upd_ne (hm b _ q fun z => z)]; exact q, fun b u xs q => by rw [upd_ne (hm b _ q fun z => z)]; exact q, fun b ps q => ⟨#[], by rw [upd_ne (hm b _ q fun z => z), q]; simp⟩⟩
  by_cases hbe : b = e
  · subst hbe; exact heo
  · exact ⟨u, k b u hbe q⟩
theorem Un.mono (u : Un fs ex H H1 h h1) (hs : ∀ b ∈ fs, b ∈ fs') (hx : ∀ b ∈ ex, b ∈ ex') : Un fs' ex' H H1 h h1 :=
  ⟨fun b ob q n hb he => u.keep b ob q n (fun z => hb (hs b z)) fun z => he (hx b z), fun _ _ q n _ he => u.any q n fun z => he (hx _ z), fun b ob q n he => u.free b ob q n fun z => he (hx b z), fun b ob q he => u.there b ob q fun z => he (hx b z), u.tups, u.frzs, u.tbls⟩
end

/-! ### the heap without what is tracked -/
def trk (h : Heap) (H : Hp) : List Addr := (List.range h.objs.size).filter fun a => (H a).isSome
def hidT (h : Heap) (H : Hp) : Heap := PySem.W.hideAll h (trk h H)
theorem hidT_size (h : Heap) (H : Hp) : (hidT h H).objs.size = h.objs.size := PySem.W.hideAll_size _ _
theorem hidT_get {h : Heap} {H : Hp} {b : Addr} {o : Obj} (e : h.get? b = some o) (n : H b = none) : (hidT h H).get? b = some o :=
  PySem.W.hideAll_get _ e fun hm => by
    have q : (H b).isSome = true := (List.mem_filter.mp hm).2
    rw [n] at q; simp at q
theorem of_hidT {h : Heap} {H : Hp} {b : Addr} {o : Obj} (e : (hidT h H).get? b = some o) : h.get? b = some o ∧ H b = none := by
  have e' : h.get? b = some o := PySem.W.of_hideAll (trk h H) e
  refine ⟨e', ?_⟩
  cases q : H b with
  | none => rfl
  | some x =>
    have hm : b ∈ trk h H := List.mem_filter.mpr ⟨List.mem_range.mpr (Heap.lt_size e'), by simp [q]⟩
    have z : (hidT h H).get? b = none := PySem.W.hideAll_none (trk h H) hm
    rw [z] at e; cases e

/-! ### OpenK's ledger, filled with every new object but one -/
def allNews (g h : Heap) (L : Addr) : List (Addr × Obj) := (List.range h.objs.size).filterMap fun a => if a = L ∨ (g.get? a).isSome = true then none else (h.get? a).map fun o => (a, o)
def rest (g h : Heap) (L d : Addr) : List (Addr × Obj) := (allNews g h L).filter fun p => decide (p.1 ≠ d)
end L2

namespace L2
open PySem PySem.Spec PyProof.Rows

/-- the module's facts, over the base: the heap at the law's entry without what is tracked there -/
structure Mod (K : PySem.W.Frag) (mg : Str → Option Value) (base : Heap) : Prop where
  kin : K.In base
  glob : base.Ns mainGlobals mg
  blt : ∃ mb, base.Ns builtinsNs mb ∧ ∀ x : Str, x ≠ "__name__" → mb x = bootBuiltins x
  nolimit : base.NoLimit

/-- the context: a def's body (or a comprehension's block) running. base: fixed through the whole law; s₀, H₀: the entry; outer: the frames whose slots others may change (a def's callers); stack: all frames that run;
   ex: iterators that were made ahead of the entry and are walked here (a comprehension's); fn: the names whose cells were made at the entry (a def: all; a comprehension's block: its own); calm: not within an except suite; pn: pins that every state bears; xe: what is wanted of an exception that leaves the code -/
structure Cx where
  prog : Program
  w : World
  K : PySem.W.Frag
  mg : Str → Option Value
  base : Heap
  A : Around
  N : List Str
  s₀ : Shared
  H₀ : Hp
  env : Env
  outer : List Env
  stack : List Env
  ex : List Addr
  fn : Str → Bool
  calm : Bool
  pn : List (Addr × Obj)
  xe : Value → Shared → Prop
/-- the callers' frames -/
def frs (l : List Env) : List Addr := l.filterMap (·.frame)
abbrev Cx.fs (X : Cx) : List Addr := frs X.outer

def Vis (sc : Scope) (x : Str) : Prop := sc.names.lookup x = some .local ∨ sc.names.lookup x = some .cell ∨ sc.names.lookup x = some .free
def Loc (sc : Scope) (x : Str) : Prop := sc.names.lookup x = some .local ∨ sc.names.lookup x = some .cell
def Look (env : Env) (h : Heap) (m : Str → Option Value) (x : Str) (u : Value) : Prop :=
  (env.kindOf x = some .local ∧ m x = some u) ∨ ((env.kindOf x = some .cell ∨ env.kindOf x = some .free) ∧ ∃ c, env.cells.lookup x = some c ∧ h.IsCell c (some u))

structure Cx.Ok (X : Cx) : Prop where
  mod : Mod X.K X.mg X.base
  kind : X.env.scope.kind = .function
  glob : X.env.globals = mainGlobals
  blt : X.env.builtins = builtinsNs
  above : X.s₀.heap.objs.size ≤ X.env.locals
  inj : ∀ x y c, X.env.cells.lookup x = some c → X.env.cells.lookup y = some c → x = y
  has : ∀ x, (X.env.kindOf x = some .cell ∨ X.env.kindOf x = some .free) → ∃ c, X.env.cells.lookup x = some c
  cab : ∀ x c, X.fn x = true → X.env.cells.lookup x = some c → X.s₀.heap.objs.size ≤ c
  hd : X.calm = true → X.A.handled = none
  frames : X.A.frames = some X.stack
  stk : X.stack = X.outer ∨ (X.stack = X.env :: X.outer ∧ X.env.frame = some X.env.locals)
  exf : ∀ b ∈ X.ex, b ≠ X.env.locals ∧ ∀ x c, X.env.cells.lookup x = some c → c ≠ b
  bs : ∀ b o, X.base.get? b = some o → X.s₀.heap.get? b = some o ∧ X.H₀ b = none
  bsz : X.base.objs.size ≤ X.s₀.heap.objs.size
  noex : ∀ b o, X.base.get? b = some o → b ∉ X.ex
  exfs : ∀ b ∈ X.ex, b ∉ X.fs
  funs : X.s₀.heap.FunFrames X.base X.outer
  frf : ∀ b ∈ X.fs, X.H₀ b = none

structure Inv (X : Cx) (pins : List (Addr × Obj)) (σ : List (Option V)) (H : Hp) (s : Shared) : Prop where
  ok : X.Ok
  os : s.os = X.s₀.os
  bare : AllBare s.gens
  base : Un X.fs X.ex X.H₀ H X.s₀.heap s.heap
  loc : ∃ m, s.heap.Ns X.env.locals m ∧ ∀ (i : Nat) (x : Str) (v : V), X.N[i]? = some x → σ[i]? = some (some v) → Vis X.env.scope x → ∃ u, RelV v u ∧ Look X.env s.heap m x u
  cell : ∀ x c, X.env.cells.lookup x = some c → ∃ v, s.heap.IsCell c v
  free : H X.env.locals = none
  freeC : ∀ x c, X.env.cells.lookup x = some c → H c = none
  pin : ∀ p ∈ X.pn ++ pins, s.heap.get? p.1 = some p.2 ∧ H p.1 = none ∧ p.1 ≠ X.env.locals ∧ p.1 ∉ X.fs ∧ ∀ v, p.2.data ≠ .cell v
  hok : HOk X.prog X.w H s.heap
  len : σ.length = X.N.length

section
variable {X : Cx} {pins : List (Addr × Obj)} {σ : List (Option V)} {H H' : Hp} {s : Shared} {h' : Heap}

theorem Cx.Ok.nofr (ok : X.Ok) {b : Addr} {o : Obj} (e : X.base.get? b = some o) : b ∉ X.fs := fun hb => by
  have := (ok.funs.mem hb).1
  rw [e] at this; cases this
theorem Inv.bs (I : Inv X pins σ H s) : ∀ b o, X.base.get? b = some o → s.heap.get? b = some o ∧ H b = none := fun b o e =>
  ⟨I.base.keep b o (I.ok.bs b o e).1 (I.ok.bs b o e).2 (I.ok.nofr e) (I.ok.noex b o e), I.base.free b o (I.ok.bs b o e).1 (I.ok.bs b o e).2 (I.ok.noex b o e)⟩
theorem Inv.bk (I : Inv X pins σ H s) : ∀ b o, X.base.get? b = some o → s.heap.get? b = some o := fun b o e => (I.bs b o e).1
theorem Inv.mod (I : Inv X pins σ H s) : Mod X.K X.mg X.base := I.ok.mod
theorem Inv.kIn (I : Inv X pins σ H s) : X.K.In s.heap := I.ok.mod.kin.keeps I.bk
theorem Inv.nolimit (I : Inv X pins σ H s) : s.heap.NoLimit := I.ok.mod.nolimit.keeps I.bk
/-- the frame over the base: for OpenK's rules (K.In X.base is I.mod.kin) -/
theorem Inv.fr (I : Inv X pins σ H s) : ∃ m, Fr X.base X.env.locals s.heap m :=
  let ⟨m, hn, _⟩ := I.loc
  ⟨m, hn, I.bk, Nat.le_trans I.ok.bsz I.ok.above⟩
theorem Inv.lt (I : Inv X pins σ H s) : X.env.locals < s.heap.objs.size := let ⟨_, hn, _⟩ := I.loc; hn.lt
theorem Inv.sz (I : Inv X pins σ H s) : X.s₀.heap.objs.size ≤ s.heap.objs.size := Nat.le_trans I.ok.above (Nat.le_of_lt I.lt)
theorem Inv.nofs (I : Inv X pins σ H s) {a : Addr} (h : s.heap.objs.size ≤ a) : a ∉ X.fs := fun hb => by
  obtain ⟨_, o, ho, _⟩ := I.ok.funs.mem hb
  exact absurd (Nat.lt_of_lt_of_le (Heap.lt_size ho) (Nat.le_trans I.sz h)) (Nat.lt_irrefl _)
theorem Inv.cne (I : Inv X pins σ H s) : ∀ x c, X.env.cells.lookup x = some c → c ≠ X.env.locals := fun x c e z => by
  obtain ⟨v, o, ho, hd⟩ := I.cell x c e
  obtain ⟨m, ⟨o', es, ep, ho', hd', _⟩, _⟩ := I.loc
  rw [z, ho'] at ho; cases ho; rw [hd'] at hd; cases hd
theorem Inv.funs (I : Inv X pins σ H s) : s.heap.FunFrames X.base X.outer := by
  have all : ∀ (l : List Env), (∀ b ∈ frs l, b ∈ X.fs) → X.s₀.heap.FunFrames X.base l → s.heap.FunFrames X.base l := by
    intro l
    induction l with
    | nil => intro _ _; trivial
    | cons env r ih =>
      intro hs hl
      obtain ⟨hk, ⟨L, o, hf, hn, ho, hd⟩, hr⟩ := hl
      have hL : L ∈ X.fs := hs L (by unfold frs; rw [List.filterMap_cons, hf]; exact List.mem_cons_self)
      obtain ⟨sl, e⟩ := I.base.slot L o ho (I.ok.frf L hL) hL fun z => I.ok.exfs L z hL
      exact ⟨hk, ⟨L, _, hf, hn, e, hd⟩, ih (fun b hb => hs b (by unfold frs; rw [List.filterMap_cons, hf]; exact List.mem_cons_of_mem _ hb)) hr⟩
  exact all X.outer (fun _ hb => hb) I.ok.funs

/-- the frames that run, for a call -/
theorem Inv.stack (I : Inv X pins σ H s) : s.heap.FunFrames X.base X.stack := by
  rcases I.ok.stk with e | ⟨e, hf⟩
  · rw [e]; exact I.funs
  · rw [e]
    obtain ⟨m, hn, _⟩ := I.loc
    refine .cons (by rw [I.ok.kind]; decide) hf hn ?_ I.funs
    exact Heap.get?_none_of_le (Nat.le_trans I.ok.bsz I.ok.above)
theorem Inv.stkSub (I : Inv X pins σ H s) : ∀ b ∈ frs X.stack, b ∈ X.env.locals :: X.fs := fun b hb => by
  rcases I.ok.stk with e | ⟨e, hf⟩
  · rw [e] at hb; exact List.mem_cons_of_mem _ hb
  · rw [e] at hb
    unfold frs at hb
    rw [List.filterMap_cons, hf] at hb
    exact hb
theorem Inv.stkFree (I : Inv X pins σ H s) : ∀ b ∈ frs X.stack, H b = none := fun b hb => by
  rcases List.mem_cons.mp (I.stkSub b hb) with e | hb
  · rw [e]; exact I.free
  · obtain ⟨_, o, ho, _⟩ := I.ok.funs.mem hb
    exact I.base.free b o ho (I.ok.frf b hb) fun z => I.ok.exfs b z hb

/-- THE STEP: the untracked objects but the frame and the records at ch are kept (the callers' frames up to slots), the frame's map is kept, the new abstract heap is held -/
theorem Inv.step {g' : Array GenState} {t' : Nat} {d' : Drawn} {ch : List Addr} (I : Inv X pins σ H s)
    (hch : ∀ b ∈ ch, (b ∈ X.ex ∨ X.s₀.heap.objs.size ≤ b) ∧ b ≠ X.env.locals ∧ (∀ x c, X.env.cells.lookup x = some c → c ≠ b) ∧ ∀ p ∈ X.pn ++ pins, p.1 ≠ b)
    (keep : ∀ b o, b ≠ X.env.locals → b ∉ X.fs → b ∉ ch → s.heap.get? b = some o → H b = none → h'.get? b = some o)
    (slot : ∀ b o, b ≠ X.env.locals → b ∈ X.fs → b ∉ ch → s.heap.get? b = some o → H b = none → ∃ sl, h'.get? b = some { o with slots := sl }) (free : ∀ b o, b ∉ ch → s.heap.get? b = some o → H b = none → H' b = none)
    (there : ∀ b o, b ∉ ch → s.heap.get? b = some o → ∃ o', h'.get? b = some o')
    (tups : ∀ b xs, H b = some (.tup xs) → H' b = some (.tup xs)) (frzs : ∀ b o u, H b = some (.frz o u) → H' b = some (.frz o u)) (tbls : ∀ b ps, H b = some (.tbl ps) → ∃ more, H' b = some (.tbl (ps ++ more)))
    (ns : ∀ m, s.heap.Ns X.env.locals m → h'.Ns X.env.locals m) (hok : HOk X.prog X.w H' h') (hg : AllBare g') :
    Inv X pins σ H' { s with heap := h', gens := g', drawn := d', toks := t' } := by
  have neL : ∀ b o, X.s₀.heap.get? b = some o → b ≠ X.env.locals := fun b o e => Nat.ne_of_lt (Nat.lt_of_lt_of_le (Heap.lt_size e) I.ok.above)
  have neC : ∀ b o, X.s₀.heap.get? b = some o → b ∉ X.ex → b ∉ ch := fun b o e hx hb => by
    rcases (hch b hb).1 with z | z
    · exact hx z
    · exact absurd (Nat.lt_of_lt_of_le (Heap.lt_size e) z) (Nat.lt_irrefl _)
  have cellK : ∀ x c, X.env.cells.lookup x = some c → ∀ v, s.heap.IsCell c v → h'.IsCell c v := fun x c e v ⟨o, ho, hd⟩ => by
    have nch : c ∉ ch := fun z => (hch c z).2.2.1 x c e rfl
    by_cases hc : c ∈ X.fs
    · obtain ⟨sl, q⟩ := slot c o (I.cne x c e) hc nch ho (I.freeC x c e)
      exact ⟨_, q, hd⟩
    · exact ⟨o, keep c o (I.cne x c e) hc nch ho (I.freeC x c e), hd⟩
  refine ⟨I.ok, I.os, hg, ⟨fun b o e n hb hx => ?_, fun b o e n hb hx => ?_, fun b o e n hx => ?_, fun b o e hx => ?_, fun b xs e => tups b xs (I.base.tups b xs e), fun b o xs e => frzs b o xs (I.base.frzs b o xs e), fun b ps e => ?_⟩, ?_, fun x c e => ?_, ?_, fun x c e => ?_, fun p hp => ?_, hok, I.len⟩
  · exact keep b o (neL b o e) hb (neC b o e hx) (I.base.keep b o e n hb hx) (I.base.free b o e n hx)
  · obtain ⟨sl, e1⟩ := I.base.slot b o e n hb hx
    obtain ⟨sl', e2⟩ := slot b _ (neL b o e) hb (neC b o e hx) e1 (I.base.free b o e n hx)
    exact ⟨sl', e2⟩
  · obtain ⟨o', e1⟩ := I.base.there b o e hx
    exact free b o' (neC b o e hx) e1 (I.base.free b o e n hx)
  · obtain ⟨o', e1⟩ := I.base.there b o e hx
    exact there b o' (neC b o e hx) e1
  · obtain ⟨m1, e1⟩ := I.base.tbls b ps e
    obtain ⟨m2, e2⟩ := tbls b _ e1
    exact ⟨m1 ++ m2, by rw [e2, Array.append_assoc]⟩
  · obtain ⟨m, hn, hl⟩ := I.loc
    refine ⟨m, ns m hn, fun i x v e1 e2 e3 => ?_⟩
    obtain ⟨u, r, l⟩ := hl i x v e1 e2 e3
    refine ⟨u, r, ?_⟩
    rcases l with l | ⟨k, c, e, z⟩
    · exact .inl l
    · exact .inr ⟨k, c, e, cellK x c e _ z⟩
  · obtain ⟨v, z⟩ := I.cell x c e
    exact ⟨v, cellK x c e v z⟩
  · obtain ⟨m, ⟨o, _, _, ho, _⟩, _⟩ := I.loc
    exact free _ o (fun z => (hch _ z).2.1 rfl) ho I.free
  · obtain ⟨v, o, ho, hd⟩ := I.cell x c e
    exact free c o (fun z => (hch c z).2.2.1 x c e rfl) ho (I.freeC x c e)
  · obtain ⟨e, n, ne, nf, d⟩ := I.pin p hp
    have nch : p.1 ∉ ch := fun z => (hch p.1 z).2.2.2 p hp rfl
    exact ⟨keep p.1 p.2 ne nf nch e n, free p.1 p.2 nch e n, ne, nf, d⟩
/-- .. where the frame's own object is kept too -/
theorem Inv.un {t' : Nat} (I : Inv X pins σ H s) (u : Un X.fs [] H H' s.heap h') (hok : HOk X.prog X.w H' h') : Inv X pins σ H' { s with heap := h', toks := t' } := by
  obtain ⟨m, ⟨o, es, ep, ho, r⟩, _⟩ := id I.loc
  obtain ⟨sl, hL⟩ := u.any ho I.free (by simp)
  exact I.step (g' := s.gens) (d' := s.drawn) (ch := []) (fun _ z => nomatch z) (fun b o _ hb _ e n => u.keep b o e n hb (by simp)) (fun b o _ hb _ e n => u.slot b o e n hb (by simp)) (fun b o _ e n => u.free b o e n (by simp)) (fun b o _ e => u.there b o e (by simp)) u.tups u.frzs u.tbls (fun m' hm => by
    obtain ⟨o', es', ep', ho', r'⟩ := hm
    rw [ho] at ho'; cases ho'
    exact ⟨_, es', ep', hL, r'⟩) hok I.bare
/-- behind a call (or a comprehension's block): the slots of this frame may have changed too, the records at ch may have turned -/
theorem Inv.call {g' : Array GenState} {t' : Nat} {d' : Drawn} {ch : List Addr} (I : Inv X pins σ H s) (u : Un (frs X.stack) ch H H' s.heap h') (hok : HOk X.prog X.w H' h') (hg : AllBare g')
    (hch : ∀ b ∈ ch, (b ∈ X.ex ∨ X.s₀.heap.objs.size ≤ b) ∧ b ≠ X.env.locals ∧ (∀ x c, X.env.cells.lookup x = some c → c ≠ b) ∧ ∀ p ∈ X.pn ++ pins, p.1 ≠ b) :
    Inv X pins σ H' { s with heap := h', gens := g', drawn := d', toks := t' } := by
  obtain ⟨m, ⟨o, es, ep, ho, r⟩, _⟩ := id I.loc
  obtain ⟨sl, hL⟩ := u.any ho I.free fun z => (hch _ z).2.1 rfl
  exact I.step (ch := ch) hch (fun b o hL hb hc e n => u.keep b o e n (fun z => (List.mem_cons.mp (I.stkSub b z)).elim hL hb) hc) (fun b o _ _ hc e n => u.any e n hc) (fun b o hc e n => u.free b o e n hc) (fun b o hc e => u.there b o e hc) u.tups u.frzs u.tbls (fun m' hm => by
    obtain ⟨o', es', ep', ho', r'⟩ := hm
    rw [ho] at ho'; cases ho'
    exact ⟨_, es', ep', hL, r'⟩) hok hg
/-- an untracked record of ours (an iterator) has turned -/
theorem Inv.turned {t' : Nat} {it : Addr} (I : Inv X pins σ H s) (k : ∀ b o, b ≠ it → s.heap.get? b = some o → h'.get? b = some o) (hn : H it = none) (hL : it ≠ X.env.locals)
    (h1 : it ∈ X.ex ∨ X.s₀.heap.objs.size ≤ it) (h2 : ∀ x c, X.env.cells.lookup x = some c → c ≠ it) (h3 : ∀ p ∈ X.pn ++ pins, p.1 ≠ it) : Inv X pins σ H { s with heap := h', toks := t' } := by
  have nit : ∀ b u, H b = some u → b ≠ it := fun b u e z => by rw [z, hn] at e; cases e
  refine I.step (g' := s.gens) (d' := s.drawn) (ch := [it]) (fun b hb => ?_) (fun b o _ _ hc e _ => k b o (fun z => hc (by simp [z])) e) (fun b o _ _ hc e _ => ⟨o.slots, k b o (fun z => hc (by simp [z])) e⟩) (fun _ _ _ _ n => n)
    (fun b o hc e => ⟨o, k b o (fun z => hc (by simp [z])) e⟩) (fun _ _ e => e) (fun _ _ _ e => e) (fun b ps e => ⟨#[], by rw [e]; simp⟩) (fun m hm => ?_) (fun b u e => ?_) I.bare
  · have e : b = it := by simpa using hb
    subst e
    exact ⟨h1, hL, h2, h3⟩
  · obtain ⟨o, es, ep, ho, r⟩ := hm
    exact ⟨o, es, ep, k _ o (Ne.symm hL) ho, r⟩
  · refine (I.hok b u e).stay (fun c v hc q => k c v ?_ q) (fun _ q => q) fun _ _ q => q
    rcases hc with z | z
    · rw [z]; exact nit b u e
    · exact nit c _ z
theorem Inv.tok (I : Inv X pins σ H s) (t : Nat) : Inv X pins σ H { s with toks := t } := I.un (h' := s.heap) (t' := t) Un.refl I.hok
/-- all objects kept -/
theorem Inv.kept {t' : Nat} (I : Inv X pins σ H s) (k : ∀ b u, s.heap.get? b = some u → h'.get? b = some u) : Inv X pins σ H { s with heap := h', toks := t' } := I.un (Un.kept k) (I.hok.kept k)
/-- a new object laid and tracked -/
theorem Inv.laid {a : Addr} {o : HO} {t' : Nat} (I : Inv X pins σ H s) (k : ∀ b u, s.heap.get? b = some u → h'.get? b = some u) (hp : s.heap.objs.size ≤ a) (new : ObjOk X.prog X.w (upd H a o) h' a o) :
    Inv X pins σ (upd H a o) { s with heap := h', toks := t' } := I.un (Un.laid k hp (I.hok.fresh hp)) (I.hok.laid k hp new)
/-- an object written -/
theorem Inv.write {x e : Addr} {o : HO} {t' : Nat} (I : Inv X pins σ H s) (mu : Mut (H x)) (he : e = x ∨ H e = some (.own x)) (k : ∀ b u, b ≠ e → s.heap.get? b = some u → h'.get? b = some u) (heo : ∃ u, h'.get? e = some u)
    (new : ObjOk X.prog X.w (upd H x o) h' x o) : Inv X pins σ (upd H x o) { s with heap := h', toks := t' } := I.un (Un.write mu he k heo) (I.hok.write mu he k heo new)
/-- forgetting slots, pins -/
theorem Inv.weak {σ' : List (Option V)} (I : Inv X pins σ H s) (hl : σ'.length = σ.length) (w : ∀ (i : Nat) v, σ'[i]? = some (some v) → σ[i]? = some (some v)) : Inv X pins σ' H s :=
  ⟨I.ok, I.os, I.bare, I.base, let ⟨m, hn, hl'⟩ := I.loc; ⟨m, hn, fun i x v e1 e2 e3 => hl' i x v e1 (w i v e2) e3⟩, I.cell, I.free, I.freeC, I.pin, I.hok, hl.trans I.len⟩
theorem Inv.pins_of {pins' : List (Addr × Obj)} (I : Inv X pins σ H s) (h : ∀ p ∈ pins', s.heap.get? p.1 = some p.2 ∧ H p.1 = none ∧ p.1 ≠ X.env.locals ∧ p.1 ∉ X.fs ∧ ∀ v, p.2.data ≠ .cell v) : Inv X pins' σ H s :=
  ⟨I.ok, I.os, I.bare, I.base, I.loc, I.cell, I.free, I.freeC, fun p hp => (List.mem_append.mp hp).elim (fun z => I.pin p (List.mem_append_left _ z)) (h p), I.hok, I.len⟩

theorem nodup_ix {N : List Str} (hN : N.Nodup) {i j : Nat} {x : Str} (a : N[i]? = some x) (b : N[j]? = some x) : i = j := by
  obtain ⟨h1, e1⟩ := List.getElem?_eq_some_iff.mp a
  obtain ⟨h2, e2⟩ := List.getElem?_eq_some_iff.mp b
  exact (List.getElem_inj hN).mp (e1.trans e2.symm)

/-- a name is stored; what changed -/
theorem store_ok2 {M : Model} {A : Around} {E : Value → Shared → Prop} {i : Nat} {x : Str} {v : V} {u : Value} {Q : Unit → Shared → Prop} (I : Inv X pins σ H s) (hN : X.N.Nodup) (hi : X.N[i]? = some x) (hx : Loc X.env.scope x) (r : RelV v u)
    (h : ∀ s', Inv X pins (σ.set i (some v)) H s' → (∃ a, Heap.SameBut a s.heap s'.heap ∧ (a = X.env.locals ∨ X.env.cells.lookup x = some a)) → Q () s') (hf : X.fn x = true ∨ X.env.scope.names.lookup x = some .local := by first | exact .inl rfl | exact .inr rfl | assumption) : wpAny M A (storeName X.env x u) Q E s := by
  obtain ⟨m, hn, hl⟩ := id I.loc
  have hcls : (X.env.scope.kind == .class || (X.env.scope.kind == .module && X.env.locals != X.env.globals)) = false := by rw [I.ok.kind]; rfl
  have hiσ : i < σ.length := by rw [I.len]; exact (List.getElem?_eq_some_iff.mp hi).1
  have cne := I.cne
  have tracked : ∀ {a : Addr} {h' : Heap}, (∃ o, s.heap.get? a = some o ∧ H a = none) → Heap.SameBut a s.heap h' → HOk X.prog X.w H h' := fun {a h'} ha hs b ob e => by
    obtain ⟨_, _, hfree⟩ := ha
    refine (I.hok b ob e).stay (fun c w' hc q => (hs.2 c ?_).trans q) (fun _ q => q) fun _ _ q => q
    rintro rfl
    rcases hc with rfl | hc
    · rw [hfree] at e; cases e
    · rw [hfree] at hc; cases hc
  rcases hx with hk | hk
  · refine wpAny_storeName_local hk hn (fun h' hn' hs => ?_) hcls
    obtain ⟨oL, _, _, hoL, _⟩ := id hn
    refine h _ ⟨I.ok, I.os, I.bare, ⟨fun b o e n hb hx => ?_, fun b o e n hb hx => ?_, I.base.free, fun b o e hx => ?_, I.base.tups, I.base.frzs, I.base.tbls⟩, ⟨_, hn', fun j y v' e1 e2 e3 => ?_⟩, fun y c e => ?_, I.free, I.freeC, fun p hp => ?_, tracked ⟨oL, hoL, I.free⟩ hs, by simpa using I.len⟩ ⟨_, hs, .inl rfl⟩
    · exact (hs.2 b (Nat.ne_of_lt (Nat.lt_of_lt_of_le (Heap.lt_size e) I.ok.above))).trans (I.base.keep b o e n hb hx)
    · obtain ⟨sl, e1⟩ := I.base.slot b o e n hb hx
      exact ⟨sl, (hs.2 b (Nat.ne_of_lt (Nat.lt_of_lt_of_le (Heap.lt_size e) I.ok.above))).trans e1⟩
    · obtain ⟨o', e1⟩ := I.base.there b o e hx
      exact ⟨o', (hs.2 b (Nat.ne_of_lt (Nat.lt_of_lt_of_le (Heap.lt_size e) I.ok.above))).trans e1⟩
    · by_cases hj : j = i
      · subst hj
        rw [hi] at e1; cases e1
        rw [List.getElem?_set_self hiσ] at e2
        cases e2
        exact ⟨u, r, .inl ⟨hk, by simp⟩⟩
      · rw [List.getElem?_set_ne (Ne.symm hj)] at e2
        obtain ⟨u', r', q⟩ := hl j y v' e1 e2 e3
        refine ⟨u', r', ?_⟩
        rcases q with ⟨k, e⟩ | ⟨k, c, e, z⟩
        · refine .inl ⟨k, ?_⟩
          have : y ≠ x := fun e => hj (nodup_ix hN e1 (e ▸ hi))
          simp [this, e]
        · exact .inr ⟨k, c, e, z.sameBut hs (cne y c e)⟩
    · obtain ⟨w', z⟩ := I.cell y c e
      exact ⟨w', z.sameBut hs (cne y c e)⟩
    · obtain ⟨e, n, ne, nf, d⟩ := I.pin p hp
      exact ⟨(hs.2 p.1 ne).trans e, n, ne, nf, d⟩
  · have hfn : X.fn x = true := by
      rcases hf with z | z
      · exact z
      · rw [z] at hk; cases hk
    obtain ⟨c, hc⟩ := I.ok.has x (.inl hk)
    obtain ⟨w', z⟩ := I.cell x c hc
    refine wpAny_storeName_cell I.ok.kind hk hc z (fun h' hc' hs => ?_)
    obtain ⟨oc, hoc, hocd⟩ := id z
    refine h { s with heap := h' } ⟨I.ok, I.os, I.bare, ⟨fun b o e n hb hx => ?_, fun b o e n hb hx => ?_, I.base.free, fun b o e hx => ?_, I.base.tups, I.base.frzs, I.base.tbls⟩, ⟨m, hn.sameBut hs (Ne.symm (cne x c hc)), fun j y v' e1 e2 e3 => ?_⟩, fun y c' e => ?_, I.free, I.freeC, fun p hp => ?_, tracked ⟨oc, hoc, I.freeC x c hc⟩ hs, by simpa using I.len⟩ ⟨c, hs, .inr hc⟩
    · exact (hs.2 b (Nat.ne_of_lt (Nat.lt_of_lt_of_le (Heap.lt_size e) (I.ok.cab x c hfn hc)))).trans (I.base.keep b o e n hb hx)
    · obtain ⟨sl, e1⟩ := I.base.slot b o e n hb hx
      exact ⟨sl, (hs.2 b (Nat.ne_of_lt (Nat.lt_of_lt_of_le (Heap.lt_size e) (I.ok.cab x c hfn hc)))).trans e1⟩
    · obtain ⟨o', e1⟩ := I.base.there b o e hx
      exact ⟨o', (hs.2 b (Nat.ne_of_lt (Nat.lt_of_lt_of_le (Heap.lt_size e) (I.ok.cab x c hfn hc)))).trans e1⟩
    · by_cases hj : j = i
      · subst hj
        rw [hi] at e1; cases e1
        rw [List.getElem?_set_self hiσ] at e2
        cases e2
        exact ⟨u, r, .inr ⟨.inl hk, c, hc, hc'⟩⟩
      · rw [List.getElem?_set_ne (Ne.symm hj)] at e2
        obtain ⟨u', r', q⟩ := hl j y v' e1 e2 e3
        refine ⟨u', r', ?_⟩
        rcases q with q | ⟨k, c', e, z'⟩
        · exact .inl q
        · refine .inr ⟨k, c', e, z'.sameBut hs ?_⟩
          rintro rfl
          exact hj (nodup_ix hN e1 (I.ok.inj _ _ _ e hc ▸ hi))
    · by_cases hcc : c' = c
      · subst hcc; exact ⟨_, hc'⟩
      · obtain ⟨w2, z2⟩ := I.cell y c' e
        exact ⟨w2, z2.sameBut hs hcc⟩
    · obtain ⟨e, n, ne, nf, d⟩ := I.pin p hp
      refine ⟨(hs.2 p.1 ?_).trans e, n, ne, nf, d⟩
      intro q
      rw [q, hoc] at e
      have q' : oc = p.2 := Option.some.inj e
      exact d w' (by rw [← q']; exact hocd)
theorem store_ok {M : Model} {A : Around} {E : Value → Shared → Prop} {i : Nat} {x : Str} {v : V} {u : Value} {Q : Unit → Shared → Prop} (I : Inv X pins σ H s) (hN : X.N.Nodup) (hi : X.N[i]? = some x) (hx : Loc X.env.scope x) (r : RelV v u)
    (h : ∀ s', Inv X pins (σ.set i (some v)) H s' → Q () s') (hf : X.fn x = true ∨ X.env.scope.names.lookup x = some .local := by first | exact .inl rfl | exact .inr rfl | assumption) : wpAny M A (storeName X.env x u) Q E s :=
  store_ok2 I hN hi hx r (fun s' I' _ => h s' I') hf
/-- behind a call or a block, the state as it is -/
theorem Inv.call' {s' : Shared} {ch : List Addr} (I : Inv X pins σ H s) (ho : s'.os = s.os) (u : Un (frs X.stack) ch H H' s.heap s'.heap) (hok : HOk X.prog X.w H' s'.heap) (hg : AllBare s'.gens)
    (hch : ∀ b ∈ ch, (b ∈ X.ex ∨ X.s₀.heap.objs.size ≤ b) ∧ b ≠ X.env.locals ∧ (∀ x c, X.env.cells.lookup x = some c → c ≠ b) ∧ ∀ p ∈ X.pn ++ pins, p.1 ≠ b) : Inv X pins σ H' s' := by
  obtain ⟨h', g', d', t', o'⟩ := s'
  have e : o' = s.os := ho
  subst e
  exact I.call (g' := g') (t' := t') (d' := d') u hok hg hch
end

/-! ### the judgements -/
/-- an exception: its class, its own dict's address (where it has one), the abstract heap behind it -/
abbrev XK := Value → Option Addr → Hp → Prop
abbrev St := List (Option V)
abbrev VK := V → Hp → Prop
/-- an expression's reading; a test's; an argument list's -/
abbrev TE := St → Hp → VK → Prop
abbrev TT := St → Hp → (Bool → Hp → Prop) → Prop
abbrev TA := St → Hp → (List V → Hp → Prop) → Prop
/-- what is wanted behind a statement -/
structure Ends where
  nx : St → Hp → Prop
  rt : VK
  bk : St → Hp → Prop := fun _ _ => False
  ct : St → Hp → Prop := fun _ _ => False
abbrev TS := Ends → St → Hp → Prop

def EP (X : Cx) (pins : List (Addr × Obj)) (σ : St) (Q : VK) (u : Value) (s' : Shared) : Prop := ∃ v H', Inv X pins σ H' s' ∧ RelV v u ∧ Q v H'
def TP (X : Cx) (pins : List (Addr × Obj)) (σ : St) (Q : Bool → Hp → Prop) (b : Bool) (s' : Shared) : Prop := ∃ H', Inv X pins σ H' s' ∧ Q b H'
def AP (X : Cx) (pins : List (Addr × Obj)) (σ : St) (Q : List V → Hp → Prop) (us : List Value) (s' : Shared) : Prop := ∃ vs H', Inv X pins σ H' s' ∧ Vals vs us ∧ Q vs H'
def SP (X : Cx) (pins : List (Addr × Obj)) (D : Ends) (f : Flow) (s' : Shared) : Prop :=
  match f with
  | .next => ∃ σ' H', Inv X pins σ' H' s' ∧ D.nx σ' H'
  | .brk => ∃ σ' H', Inv X pins σ' H' s' ∧ D.bk σ' H'
  | .cont => ∃ σ' H', Inv X pins σ' H' s' ∧ D.ct σ' H'
  | .ret u => ∃ v σ' H', Inv X pins σ' H' s' ∧ RelV v u ∧ D.rt v H'

def PE (X : Cx) (e : Expr) (t : TE) : Prop :=
  ∀ (pins : List (Addr × Obj)) (s : Shared) (σ : St) (H : Hp) (Q : VK), Inv X pins σ H s → t σ H Q → wpAny (model X.prog X.w) X.A (eval e X.env) (EP X pins σ Q) X.xe s
def PT (X : Cx) (e : Expr) (t : TT) : Prop :=
  ∀ (pins : List (Addr × Obj)) (s : Shared) (σ : St) (H : Hp) (Q : Bool → Hp → Prop), Inv X pins σ H s → t σ H Q → wpAny (model X.prog X.w) X.A (isTrue e X.env (eval e X.env)) (TP X pins σ Q) X.xe s
/-- a test whatever its 'whole' is (and, or) -/
def PW (X : Cx) (e : Expr) (t : TT) : Prop :=
  ∀ (whole : Sem Value) (pins : List (Addr × Obj)) (s : Shared) (σ : St) (H : Hp) (Q : Bool → Hp → Prop), Inv X pins σ H s → t σ H Q → wpAny (model X.prog X.w) X.A (isTrue e X.env whole) (TP X pins σ Q) X.xe s
theorem PW.pt {X : Cx} {e : Expr} {t : TT} (h : PW X e t) : PT X e t := h _
/-- an argument list (no star), from the left -/
def PA (X : Cx) (es : List Expr) (t : TA) : Prop :=
  ∀ (pos : Pos) (pins : List (Addr × Obj)) (s : Shared) (σ : St) (H : Hp) (Q : List V → Hp → Prop), Inv X pins σ H s → t σ H Q → wpAny (model X.prog X.w) X.A (spliced (backTo pos (starEach es X.env))) (AP X pins σ Q) X.xe s
def PS (X : Cx) (st : Stmt) (t : TS) : Prop :=
  ∀ (pins : List (Addr × Obj)) (s : Shared) (σ : St) (H : Hp) (D : Ends), Inv X pins σ H s → t D σ H → wpAny (model X.prog X.w) X.A (exec st X.env) (SP X pins D) X.xe s
def PSs (X : Cx) (st : List Stmt) (t : TS) : Prop :=
  ∀ (pins : List (Addr × Obj)) (s : Shared) (σ : St) (H : Hp) (D : Ends), Inv X pins σ H s → t D σ H → wpAny (model X.prog X.w) X.A (execs st X.env) (SP X pins D) X.xe s
/-- weaken the end -/
theorem thn {α : Type} {t : Sem α} {Q Q' : α → Shared → Prop} {M : Model} {A : Around} {E : Value → Shared → Prop} {s : Shared} (h : wpAny M A t Q E s) (hQ : ∀ a s, Q a s → Q' a s) : wpAny M A t Q' E s := wpAny_mono h hQ fun _ _ x => x
end L2

namespace L2
open PySem PySem.Spec PyProof.Rows
section
variable {X : Cx}

/-! ### names and constants -/
def tVar (i : Nat) : TE := fun σ H Q => ∃ v, σ[i]? = some (some v) ∧ Q v H
def tC (v : V) : TE := fun _ H Q => Q v H
theorem pe_var {i : Nat} {x : Str} {pos : Pos} (hN : X.N[i]? = some x) (hv : Vis X.env.scope x) (hd : (x == ("__debug__" : Str)) = false := by decide) (hcd : (x == ("__classdict__" : Str)) = false := by decide) : PE X (.Name x pos) (tVar i) := by
  intro pins s σ H Q I h
  obtain ⟨v, e, h⟩ := h
  obtain ⟨m, hn, hl⟩ := I.loc
  obtain ⟨u, r, l⟩ := hl i x v hN e hv
  have fin : EP X pins σ Q u s := ⟨v, H, I, r, h⟩
  rcases l with ⟨hk, hm⟩ | ⟨hk, c, hc, hcell⟩
  · exact wpAny_Name (wpAny_loadName_local I.ok.kind hk hn hm fin) hd
  · rcases hk with hk | hk
    · exact wpAny_Name (wpAny_loadName_cell I.ok.kind hk hc hcell fin) hd
    · exact wpAny_Name (wpAny_loadName_free I.ok.kind hk hc hcell fin hcd) hd
theorem pe_int {i j pos} : PE X (.Constant (.int i) j pos) (tC (.int i)) := fun _ _ _ H _ I h => wpAny_Constant_int ⟨.int i, H, I.tok _, ⟨_, rfl⟩, h⟩
theorem pe_bl {b j pos} : PE X (.Constant (.bool b) j pos) (tC (.bl b)) := fun _ _ _ H _ I h => Constant_bool ⟨.bl b, H, I, rfl, h⟩
theorem pe_non {j pos} : PE X (.Constant .none j pos) (tC .non) := fun _ _ _ H _ I h => Constant_none ⟨.non, H, I, rfl, h⟩
/-- a global name of the def -/
def Gl (X : Cx) (x : Str) : Prop := X.env.kindOf x = some .globalImplicit
theorem ld_glob {E : Value → Shared → Prop} {pins : List (Addr × Obj)} {s : Shared} {σ : St} {H : Hp} {x : Str} {u : Value} {pos : Pos} {Q : Value → Shared → Prop} (I : Inv X pins σ H s) (hg : Gl X x) (hm : X.mg x = some u) (h : Q u s)
    (hd : (x == ("__debug__" : Str)) = false := by decide) : wpAny (model X.prog X.w) X.A (eval (.Name x pos) X.env) Q E s :=
  Calls.Name_function_global I.ok.kind hg (Calls.loadGlobal_global (by rw [I.ok.glob]; exact I.mod.glob.keeps I.bk) hm h) hd
theorem ld_blt {E : Value → Shared → Prop} {pins : List (Addr × Obj)} {s : Shared} {σ : St} {H : Hp} {x : Str} {u : Value} {pos : Pos} {Q : Value → Shared → Prop} (I : Inv X pins σ H s) (hg : Gl X x) (hm : X.mg x = none) (hv : bootBuiltins x = some u) (h : Q u s)
    (hn : x ≠ "__name__" := by decide) (hd : (x == ("__debug__" : Str)) = false := by decide) : wpAny (model X.prog X.w) X.A (eval (.Name x pos) X.env) Q E s := by
  obtain ⟨mb, h1, h2⟩ := I.mod.blt
  exact Calls.Name_function_global I.ok.kind hg (Calls.loadGlobal_builtin (by rw [I.ok.glob]; exact I.mod.glob.keeps I.bk) hm (by rw [I.ok.blt]; exact h1.keeps I.bk) ((h2 x hn).trans hv) h) hd
theorem pe_bltn {x : Str} {v : V} {u : Value} {pos : Pos} (hg : Gl X x) (hm : X.mg x = none) (hv : bootBuiltins x = some u) (r : RelV v u) (hn : x ≠ "__name__" := by decide) (hd : (x == ("__debug__" : Str)) = false := by decide) : PE X (.Name x pos) (tC v) :=
  fun _ _ _ H _ I h => ld_blt I hg hm hv ⟨v, H, I, r, h⟩ hn hd

/-! ### arithmetic -/
/-- two ints -/
def t2I (ta tb : TE) (k : Int → Int → Hp → Prop) : St → Hp → Prop := fun σ H => ta σ H fun x H1 => tb σ H1 fun y H2 => ∃ i j, x = .int i ∧ y = .int j ∧ k i j H2
def tAdd (ta tb : TE) : TE := fun σ H Q => t2I ta tb (fun i j H2 => Q (.int (i + j)) H2) σ H
def tSub (ta tb : TE) : TE := fun σ H Q => t2I ta tb (fun i j H2 => Q (.int (i - j)) H2) σ H
/-- the left factor below 2^64 -/
def tMul (ta tb : TE) : TE := fun σ H Q => t2I ta tb (fun i j H2 => (-(2 ^ 64) < i ∧ i < 2 ^ 64) ∧ Q (.int (i * j)) H2) σ H
variable {a b : Expr} {ta tb : TE} {pos : Pos}
/-! ### comparisons -/
def PC (X : Cx) (op : CmpOp) (a b : Expr) (t : TE) : Prop :=
  ∀ (pins : List (Addr × Obj)) (s : Shared) (σ : St) (H : Hp) (Q : VK), Inv X pins σ H s → t σ H Q →
    wpAny (model X.prog X.w) X.A (eval a X.env) (fun v s₁ => wpAny (model X.prog X.w) X.A (eval b X.env) (fun u s₂ => wpAny (model X.prog X.w) X.A (compareOp op v u) (EP X pins σ Q) X.xe s₂) X.xe s₁) X.xe s
def tCmp (p : Int → Int → Bool) (ta tb : TE) : TE := fun σ H Q => t2I ta tb (fun i j H2 => Q (.bl (p i j)) H2) σ H
abbrev tLt : TE → TE → TE := tCmp fun i j => decide (i < j)
abbrev tLe : TE → TE → TE := tCmp fun i j => decide (i ≤ j)
abbrev tGt : TE → TE → TE := tCmp fun i j => decide (j < i)
abbrev tGe : TE → TE → TE := tCmp fun i j => decide (j ≤ i)
abbrev tEqI : TE → TE → TE := tCmp fun i j => decide (i = j)
abbrev tNeI : TE → TE → TE := tCmp fun i j => !decide (i = j)
/-- is None -/
def tIsN (ta : TE) : TE := fun σ H Q => ta σ H fun x H1 => Q (.bl (decide (x = .non))) H1
def tNotN (ta : TE) : TE := fun σ H Q => ta σ H fun x H1 => Q (.bl (!decide (x = .non))) H1
/-- a comparison as a value, as a test -/
def tB (t : TE) : TT := fun σ H Q => t σ H fun x H1 => ∃ c, x = .bl c ∧ Q c H1
/-- an expression whose value is a bool, as a test -/
theorem pt_val {e : Expr} {t : TE} (h : PE X e t) (he : ∀ whole, isTrue e X.env whole = (do let v ← whole; standAt e.pos; holding [v] (truthy v)) := by intro _; rfl) : PT X e (tB t) := by
  intro pins s σ H Q I hw
  refine isTrue_plain (thn (h pins s σ H _ I hw) fun v s1 ⟨x, H1, I1, r1, q1⟩ => ?_) (he _)
  obtain ⟨d, rfl, q⟩ := q1
  cases r1
  exact wpAny_truthy_bool ⟨H1, I1, q⟩

/-! ### and, or, not -/
variable {tA tB' : TT} {rest : List Expr}
def tAnd (t u : TT) : TT := fun σ H Q => t σ H fun c H1 => if c = true then u σ H1 Q else Q false H1
def tOr (t u : TT) : TT := fun σ H Q => t σ H fun c H1 => if c = true then Q true H1 else u σ H1 Q
def tNot (t : TT) : TT := fun σ H Q => t σ H fun c H1 => Q (!c) H1
theorem pw_and1 (ha : PT X a tA) : PW X (.BoolOp .And [a] pos) tA := by
  intro wh pins s σ H Q I h
  refine isTrue_and (thn (ha pins s σ H Q I h) fun c s1 e => ?_)
  cases c with
  | true => exact isTrue_and_nil e
  | false => exact e
theorem pw_or1 (ha : PT X a tA) : PW X (.BoolOp .Or [a] pos) tA := by
  intro wh pins s σ H Q I h
  refine isTrue_or (thn (ha pins s σ H Q I h) fun c s1 e => ?_)
  cases c with
  | false => exact isTrue_or_nil e
  | true => exact e
theorem pw_and (ha : PT X a tA) (hb : PW X (.BoolOp .And (b :: rest) pos) tB') : PW X (.BoolOp .And (a :: b :: rest) pos) (tAnd tA tB') := by
  intro wh pins s σ H Q I h
  refine isTrue_and (thn (ha pins s σ H _ I h) fun c s1 ⟨H1, I1, q1⟩ => ?_)
  cases c with
  | true => exact hb wh pins s1 σ H1 Q I1 q1
  | false => exact ⟨H1, I1, q1⟩
theorem pw_or (ha : PT X a tA) (hb : PW X (.BoolOp .Or (b :: rest) pos) tB') : PW X (.BoolOp .Or (a :: b :: rest) pos) (tOr tA tB') := by
  intro wh pins s σ H Q I h
  refine isTrue_or (thn (ha pins s σ H _ I h) fun c s1 ⟨H1, I1, q1⟩ => ?_)
  cases c with
  | true => exact ⟨H1, I1, q1⟩
  | false => exact hb wh pins s1 σ H1 Q I1 q1
theorem pt_not (ha : PT X a tA) : PT X (.UnaryOp .Not a pos) (tNot tA) := by
  intro pins s σ H Q I h
  exact isTrue_not (ha pins s σ H (fun c H1 => Q (!c) H1) I h)
/-- .. as values (bools) -/
def tAndV (ta tb : TE) : TE := fun σ H Q => ta σ H fun x H1 => ∃ c, x = .bl c ∧ if c = true then tb σ H1 Q else Q (.bl false) H1
def tOrV (ta tb : TE) : TE := fun σ H Q => ta σ H fun x H1 => ∃ c, x = .bl c ∧ if c = true then Q (.bl true) H1 else tb σ H1 Q
def tNotV (ta : TE) : TE := fun σ H Q => ta σ H fun x H1 => ∃ c, x = .bl c ∧ Q (.bl (!c)) H1
theorem pe_one {op} {t : TE} (h : PE X a t) : PE X (.BoolOp op [a] pos) t := fun pins s σ H Q I hw => BoolOp_one (h pins s σ H Q I hw)
theorem pe_and (ha : PE X a ta) (hb : PE X (.BoolOp .And (b :: rest) pos) tb) : PE X (.BoolOp .And (a :: b :: rest) pos) (tAndV ta tb) := by
  intro pins s σ H Q I h
  refine BoolOp_and (thn (ha pins s σ H _ I h) fun v s1 ⟨x, H1, I1, r1, q1⟩ => ?_)
  obtain ⟨c, rfl, q1⟩ := q1
  cases r1
  refine wpAny_truthy_bool ?_
  cases c with
  | true => exact hb pins s1 σ H1 Q I1 q1
  | false => exact ⟨.bl false, H1, I1, rfl, q1⟩
/-- a if t else b -/
def tIf (t : TT) (ta tb : TE) : TE := fun σ H Q => t σ H fun c H1 => if c = true then ta σ H1 Q else tb σ H1 Q
theorem pe_ifExp {c : Expr} (hc : PT X c tA) (ha : PE X a ta) (hb : PE X b tb) : PE X (.IfExp c a b pos) (tIf tA ta tb) := by
  intro pins s σ H Q I h
  refine wpAny_IfExp (thn (hc pins s σ H _ I h) fun d s1 ⟨H1, I1, q1⟩ => ?_)
  cases d with
  | true => exact ha pins s1 σ H1 Q I1 q1
  | false => exact hb pins s1 σ H1 Q I1 q1
end
end L2

namespace L2
open PySem PySem.Spec PyProof.Rows

/-! ### a list, a tuple that is read: tracked, frozen, or an object of the module -/
def SqL (K : PySem.W.Frag) (H : Hp) (a : Addr) (xs : List V) : Prop :=
  Rd H a (.lst xs) ∨
    ∃ (o : Obj) (its : Array Value) (n : Nat), K.lookup a = some o ∧ o.cls = .type "list" ∧ o.dict = none ∧ o.data = .seq its n ∧ its.size ≤ sizeLine ∧ Vals xs its.toList
def SqT (K : PySem.W.Frag) (H : Hp) (a : Addr) (xs : List V) : Prop :=
  Rd H a (.tup xs) ∨
    ∃ (o : Obj) (its : Array Value) (n : Nat), K.lookup a = some o ∧ o.cls = .type "tuple" ∧ o.data = .seq its n ∧ its.size ≤ sizeLine ∧ Vals xs its.toList
def absV : Value → Option V
  | .none => some .non
  | .bool b => some (.bl b)
  | .int i _ => some (.int i)
  | .str x _ => some (.str x)
  | .bytes b _ => some (.byt b)
  | .float b _ => some (.flt b)
  | .ref a => some (.ref a)
  | .type n => some (.ty n)
  | _ => none
theorem RelV.abs {x : V} {u : Value} (r : RelV x u) : absV u = some x := by
  cases x with
  | non => cases r; rfl
  | bl _ => cases r; rfl
  | int _ => obtain ⟨t, rfl⟩ := r; rfl
  | str _ => obtain ⟨t, rfl⟩ := r; rfl
  | byt _ => obtain ⟨t, rfl⟩ := r; rfl
  | flt _ => obtain ⟨t, rfl⟩ := r; rfl
  | ref _ => cases r; rfl
  | ty _ => cases r; rfl
theorem RelV.inj {x y : V} {u : Value} (r : RelV x u) (q : RelV y u) : x = y := Option.some.inj (r.abs.symm.trans q.abs)
theorem Vals.inj : ∀ {xs ys : List V} {us : List Value}, Vals xs us → Vals ys us → xs = ys
  | _, _, _, .nil, .nil => rfl
  | _, _, _, .cons r t, .cons r' t' => by rw [r.inj r', Vals.inj t t']
section
variable {X : Cx} {pins : List (Addr × Obj)} {σ : St} {H : Hp} {s : Shared} {a : Addr} {xs ys : List V}
theorem SqL.of {K : PySem.W.Frag} (h : H a = some (.lst xs)) : SqL K H a xs := .inl (.inl h)
theorem SqT.of {K : PySem.W.Frag} (h : H a = some (.tup xs)) : SqT K H a xs := .inl (.inl h)
theorem Inv.list (I : Inv X pins σ H s) (h : SqL X.K H a xs) : ∃ its : List Value, Vals xs its ∧ PlainL s.heap a its.toArray ∧ xs.length ≤ sizeLine := by
  rcases h with h | ⟨o, its, n, hk, hc, hd, hs, hz, r⟩
  · obtain ⟨z, its, n, r, e⟩ := h.ok I.hok
    exact ⟨its, r, ⟨_, n, e, rfl, rfl, rfl⟩, z⟩
  · refine ⟨its.toList, r, ⟨o, n, I.kIn a o hk, hc, hd, by simpa using hs⟩, ?_⟩
    have e := r.length
    simp only [Array.length_toList] at e
    omega
theorem Inv.tuple (I : Inv X pins σ H s) (h : SqT X.K H a xs) : ∃ its : List Value, Vals xs its ∧ IsTup s.heap a its.toArray ∧ xs.length ≤ sizeLine := by
  rcases h with h | ⟨o, its, n, hk, hc, hs, hz, r⟩
  · obtain ⟨z, its, r, p⟩ := h.ok I.hok
    exact ⟨its, r, p, z⟩
  · refine ⟨its.toList, r, ⟨o, I.kIn a o hk, hc, n, by simpa using hs⟩, ?_⟩
    have e := r.length
    simp only [Array.length_toList] at e
    omega
theorem Inv.list_inj (I : Inv X pins σ H s) (h : SqL X.K H a xs) (h' : SqL X.K H a ys) : xs = ys := by
  obtain ⟨its, r, ⟨o, n, e, _, _, d⟩, _⟩ := I.list h
  obtain ⟨its', r', ⟨o', n', e', _, _, d'⟩, _⟩ := I.list h'
  rw [e] at e'; cases e'
  rw [d] at d'
  injection d' with d1 _
  have : its = its' := by simpa using congrArg Array.toList d1
  subst this
  exact r.inj r'
theorem Inv.tuple_inj (I : Inv X pins σ H s) (h : SqT X.K H a xs) (h' : SqT X.K H a ys) : xs = ys := by
  obtain ⟨its, r, ⟨o, e, _, n, d⟩, _⟩ := I.tuple h
  obtain ⟨its', r', ⟨o', e', _, n', d'⟩, _⟩ := I.tuple h'
  rw [e] at e'; cases e'
  rw [d] at d'
  injection d' with d1 _
  have : its = its' := by simpa using congrArg Array.toList d1
  subst this
  exact r.inj r'
end

/-! ### another wish about exceptions -/
abbrev Cx.wish (X : Cx) (E : Value → Shared → Prop) : Cx := { X with xe := E }
/-- no exception leaves -/
abbrev Cx.nox (X : Cx) : Cx := X.wish fun _ _ => False
theorem Cx.Ok.wish {X : Cx} (ok : X.Ok) (E : Value → Shared → Prop) : (X.wish E).Ok :=
  ⟨ok.mod, ok.kind, ok.glob, ok.blt, ok.above, ok.inj, ok.has, ok.cab, ok.hd, ok.frames, ok.stk, ok.exf, ok.bs, ok.bsz, ok.noex, ok.exfs, ok.funs, ok.frf⟩
theorem Cx.Ok.unwish {X : Cx} {E : Value → Shared → Prop} (ok : (X.wish E).Ok) : X.Ok :=
  ⟨ok.mod, ok.kind, ok.glob, ok.blt, ok.above, ok.inj, ok.has, ok.cab, ok.hd, ok.frames, ok.stk, ok.exf, ok.bs, ok.bsz, ok.noex, ok.exfs, ok.funs, ok.frf⟩
section
variable {X : Cx} {pins : List (Addr × Obj)} {σ : St} {H : Hp} {s : Shared} {E : Value → Shared → Prop}
theorem Inv.wish (I : Inv X pins σ H s) (E : Value → Shared → Prop) : Inv (X.wish E) pins σ H s := ⟨I.ok.wish E, I.os, I.bare, I.base, I.loc, I.cell, I.free, I.freeC, I.pin, I.hok, I.len⟩
theorem Inv.unwish (I : Inv (X.wish E) pins σ H s) : Inv X pins σ H s := ⟨I.ok.unwish, I.os, I.bare, I.base, I.loc, I.cell, I.free, I.freeC, I.pin, I.hok, I.len⟩
theorem SP.unwish {D : Ends} {f : Flow} {s' : Shared} (h : SP (X.wish E) pins D f s') : SP X pins D f s' := by
  cases f with
  | next => obtain ⟨σ', H', I, q⟩ := h; exact ⟨σ', H', I.unwish, q⟩
  | brk => obtain ⟨σ', H', I, q⟩ := h; exact ⟨σ', H', I.unwish, q⟩
  | cont => obtain ⟨σ', H', I, q⟩ := h; exact ⟨σ', H', I.unwish, q⟩
  | ret u => obtain ⟨v, σ', H', I, r, q⟩ := h; exact ⟨v, σ', H', I.unwish, r, q⟩
theorem PE.nox {e : Expr} {t : TE} (h : PE X.nox e t) : PE X e t := fun pins s σ H Q I hw =>
  wpAny_mono (h pins s σ H Q (I.wish _) hw) (fun _ _ ⟨v, H', I', r, q⟩ => ⟨v, H', I'.unwish, r, q⟩) fun _ _ z => False.elim z
theorem PT.nox {e : Expr} {t : TT} (h : PT X.nox e t) : PT X e t := fun pins s σ H Q I hw =>
  wpAny_mono (h pins s σ H Q (I.wish _) hw) (fun _ _ ⟨H', I', q⟩ => ⟨H', I'.unwish, q⟩) fun _ _ z => False.elim z
theorem PSs.nox {st : List Stmt} {t : TS} (h : PSs X.nox st t) : PSs X st t := fun pins s σ H D I hw =>
  wpAny_mono (h pins s σ H D (I.wish _) hw) (fun _ _ q => q.unwish) fun _ _ z => False.elim z
end

/-! ### blocks and small statements -/
section
variable {X : Cx} {st : Stmt} {rest : List Stmt} {t u : TS} {e : Expr} {te : TE} {pos : Pos}
def tNext : TS := fun D σ H => D.nx σ H
def tSeq (t u : TS) : TS := fun D σ H => t { D with nx := u D } σ H
theorem pss_nil : PSs X [] tNext := fun _ _ σ H _ I h => wpAny_execs_nil ⟨σ, H, I, h⟩
theorem pss_cons (h1 : PS X st t) (h2 : PSs X rest u) : PSs X (st :: rest) (tSeq t u) := by
  intro pins s σ H D I h
  refine wpAny_execs_cons (thn (h1 pins s σ H { D with nx := u D } I h) fun f s1 q => ?_)
  cases f with
  | next =>
    obtain ⟨σ', H', I', q⟩ := q
    exact h2 pins s1 σ' H' D I' q
  | ret v => exact q
  | brk => exact q
  | cont => exact q
theorem pss_one (h1 : PS X st t) : PSs X [st] t := by
  intro pins s σ H D I h
  refine wpAny_execs_cons (thn (h1 pins s σ H D I h) fun f s1 q => ?_)
  cases f with
  | next => exact wpAny_execs_nil q
  | ret v => exact q
  | brk => exact q
  | cont => exact q
def tBreak : TS := fun D σ H => D.bk σ H
def tCont : TS := fun D σ H => D.ct σ H
/-- in a def's body nothing is shown -/
theorem Inv.quiet {pins : List (Addr × Obj)} {σ : St} {H : Hp} {s : Shared} (I : Inv X pins σ H s) : interactive X.env = false := by simp [interactive, I.ok.kind]
/-- an expression whose value is dropped -/
def tDrop (te : TE) : TS := fun D σ H => te σ H fun _ H1 => D.nx σ H1
theorem ps_expr (he : PE X e te) (hs : swapsWith e none pos.line X.env = pure false := by rfl) : PS X (.Expr e pos) (tDrop te) := by
  intro pins s σ H D I h
  exact wpAny_Expr_any (thn (he pins s σ H _ I h) fun v s1 ⟨x, H1, I1, r1, q1⟩ => ⟨σ, H1, I1, q1⟩) I.quiet hs
def tRet (te : TE) : TS := fun D σ H => te σ H D.rt
theorem ps_ret (he : PE X e te) : PS X (.Return (some e) pos) (tRet te) := by
  intro pins s σ H D I h
  exact wpAny_Return_some (thn (he pins s σ H _ I h) fun v s1 ⟨x, H1, I1, r1, q1⟩ => ⟨x, σ, H1, I1, r1, q1⟩)
def tRetN : TS := fun D _ H => D.rt .non H
def tIfS (c : TT) (t u : TS) : TS := fun D σ H => c σ H fun b H1 => if b = true then t D σ H1 else u D σ H1
theorem ps_if {c : Expr} {a b : List Stmt} {tc : TT} (hc : PT X c tc) (ha : PSs X a t) (hb : PSs X b u) : PS X (.If c a b pos) (tIfS tc t u) := by
  intro pins s σ H D I h
  refine wpAny_If (thn (hc pins s σ H _ I h) fun d s1 ⟨H1, I1, q1⟩ => ?_)
  cases d with
  | true => exact ha pins s1 σ H1 D I1 q1
  | false => exact hb pins s1 σ H1 D I1 q1
/-- code that the proof never comes to -/
def tNever : TS := fun _ _ _ => False
theorem pss_never {sts : List Stmt} : PSs X sts tNever := fun _ _ _ _ _ _ h => h.elim
end

/-! ### targets -/
abbrev TG := V → St → Hp → (St → Hp → Prop) → Prop
abbrev TGs := List V → St → Hp → (St → Hp → Prop) → Prop
def PG (X : Cx) (target : Expr) (t : TG) : Prop :=
  ∀ (pins : List (Addr × Obj)) (s : Shared) (σ : St) (H : Hp) (v : V) (u : Value) (Q : St → Hp → Prop), Inv X pins σ H s → RelV v u → t v σ H Q →
    wpAny (model X.prog X.w) X.A (assign target X.env u) (fun _ s' => ∃ σ' H', Inv X pins σ' H' s' ∧ Q σ' H') X.xe s
/-- several targets, one after another -/
def PGs (X : Cx) (ts : List Expr) (t : TGs) : Prop :=
  ∀ (pins : List (Addr × Obj)) (s : Shared) (σ : St) (H : Hp) (vs : List V) (us : List Value) (Q : St → Hp → Prop), Inv X pins σ H s → Vals vs us → t vs σ H Q →
    wpAny (model X.prog X.w) X.A (assignInOrder ((assignEach ts X.env).map (·.2)) us) (fun _ s' => ∃ σ' H', Inv X pins σ' H' s' ∧ Q σ' H') X.xe s
/-- o[i] = v, by values -/
abbrev TSet := V → V → V → Hp → (Hp → Prop) → Prop
def PSet (X : Cx) (t : TSet) : Prop :=
  ∀ (pins : List (Addr × Obj)) (s : Shared) (σ : St) (H : Hp) (o i v : V) (ov iv u : Value) (Q : Hp → Prop), Inv X pins σ H s → RelV o ov → RelV i iv → RelV v u → t o i v H Q →
    wpAny (model X.prog X.w) X.A (setItem ov iv u) (fun _ s' => ∃ H', Inv X pins σ H' s' ∧ Q H') X.xe s
/-- a op= b, by values -/
abbrev TIp := V → V → Hp → VK → Prop
def PIp (X : Cx) (op : Operator) (t : TIp) : Prop :=
  ∀ (pins : List (Addr × Obj)) (s : Shared) (σ : St) (H : Hp) (x y : V) (v u : Value) (Q : VK), Inv X pins σ H s → RelV x v → RelV y u → t x y H Q →
    wpAny (model X.prog X.w) X.A (inplaceOp op v u) (EP X pins σ Q) X.xe s
section
variable {X : Cx} {pos : Pos}
def gName (i : Nat) : TG := fun v σ H Q => Q (σ.set i (some v)) H
theorem pg_name {i : Nat} {x : Str} (hN : X.N.Nodup) (hi : X.N[i]? = some x) (hx : Loc X.env.scope x) (hf : X.fn x = true ∨ X.env.scope.names.lookup x = some .local := by first | exact .inl rfl | exact .inr rfl | assumption) : PG X (.Name x pos) (gName i) := by
  intro pins s σ H v u Q I r h
  exact wpAny_assign_Name (store_ok I hN hi hx r (fun s' I' => ⟨_, H, I', h⟩) hf)
def gNil : TGs := fun vs σ H Q => vs = [] ∧ Q σ H
def gCons (t : TG) (u : TGs) : TGs := fun vs σ H Q => ∃ v r, vs = v :: r ∧ t v σ H fun σ' H' => u r σ' H' Q
theorem pgs_nil : PGs X [] gNil := by
  intro pins s σ H vs us Q I r h
  obtain ⟨e, h⟩ := h
  subst e
  cases r
  exact assignInOrder_nil ⟨σ, H, I, h⟩
theorem pgs_cons {e : Expr} {es : List Expr} {t : TG} {u : TGs} (h1 : PG X e t) (h2 : PGs X es u)
    (hs : (assignEach (e :: es) X.env).map (·.2) = assign e X.env :: (assignEach es X.env).map (·.2) := by rfl) : PGs X (e :: es) (gCons t u) := by
  intro pins s σ H vs us Q I r h
  obtain ⟨v, vr, e1, h⟩ := h
  subst e1
  cases r with
  | cons r rr =>
    rw [hs]
    refine assignInOrder_cons (thn (h1 pins s σ H _ _ _ I r h) fun _ s1 ⟨σ1, H1, I1, q1⟩ => ?_)
    exact h2 pins s1 σ1 H1 _ _ Q I1 rr q1
/-- (a, b, ..) = a tuple of that length -/
def gTup (K : PySem.W.Frag) (n : Nat) (t : TGs) : TG := fun v σ H Q => ∃ a xs, v = .ref a ∧ SqT K H a xs ∧ xs.length = n ∧ t xs σ H Q
theorem pg_tup {es : List Expr} {k : Nat} {t : TGs} {n : Nat} (hc : X.calm = true) (h : PGs X es t)
    (hn : (assignEach es X.env).length = n := by rfl) (hst : (assignEach es X.env).findIdx? (·.1) = none := by rfl) : PG X (.Tuple es k pos) (gTup X.K n t) := by
  intro pins s σ H v u Q I r hw
  obtain ⟨a, xs, e1, hq, hl, hw⟩ := hw
  subst e1
  cases r
  obtain ⟨its, rv, ht, hz⟩ := I.tuple hq
  refine assign_Tuple_tuple (I.ok.hd hc) ht (by simp [hn, ← hl, rv.length]) hst fun h' hx => ?_
  have I1 : Inv X pins σ H { s with heap := h' } := I.kept (t' := s.toks) fun b o e => hx b o (Nat.ne_of_lt (Heap.lt_size e)) e
  exact h pins _ σ H xs _ Q I1 (by simpa using rv) hw
/-- o[i] = .. -/
def gSub (to ti : TE) (t : TSet) : TG := fun v σ H Q => to σ H fun o H1 => ti σ H1 fun i H2 => t o i v H2 fun H3 => Q σ H3
theorem pg_sub {o i : Expr} {to ti : TE} {t : TSet} (ho : PE X o to) (hi : PE X i ti) (hs : PSet X t)
    (ha : ∀ v, assign (.Subscript o i pos) X.env v = (do
      let ov ← holding [v] (eval o X.env)
      let iv ← holding [v, ov] (eval i X.env)
      standAt pos
      holding [v, ov, iv] (setItem ov iv v)
      release [v, ov, iv] []) := by intro _; rfl) : PG X (.Subscript o i pos) (gSub to ti t) := by
  intro pins s σ H v u Q I r h
  rw [ha]
  refine wpAny_bind (wpAny_holding (thn (ho pins s σ H _ I h) fun ov s1 ⟨x, H1, I1, r1, q1⟩ => ?_))
  refine wpAny_bind (wpAny_holding (thn (hi pins s1 σ H1 _ I1 q1) fun iv s2 ⟨y, H2, I2, r2, q2⟩ => ?_))
  refine wpAny_bind (wpAny_standAt (wpAny_bind (wpAny_holding (thn (hs pins s2 σ H2 x y v ov iv u _ I2 r1 r2 r q2) fun _ s3 ⟨H3, I3, q3⟩ => ?_))))
  exact wpAny_release ⟨σ, H3, I3, q3⟩
/-- target = value -/
def tAsg (te : TE) (g : TG) : TS := fun D σ H => te σ H fun x H1 => g x σ H1 D.nx
theorem ps_asg {tg e : Expr} {te : TE} {g : TG} (he : PE X e te) (hg : PG X tg g) (hs : swapsWithSole [tg] e pos.line X.env = pure false := by rfl) (hw : swappedStores [tg] e X.env = pure none := by rfl)
    (h1 : (assignEach [tg] X.env).map (·.2) = [assign tg X.env] := by rfl) : PS X (.Assign [tg] e pos) (tAsg te g) := by
  intro pins s σ H D I h
  refine wpAny_Assign_stores (thn (he pins s σ H _ I h) fun v s1 ⟨x, H1, I1, r1, q1⟩ => ?_) hs hw
  rw [h1]
  exact thn (hg pins s1 σ H1 x v _ I1 r1 q1) fun _ s2 q => q
/-- name = value -/
theorem ps_set {i : Nat} {x : Str} {e : Expr} {te : TE} {pos' : Pos} (hN : X.N.Nodup) (hi : X.N[i]? = some x) (hx : Loc X.env.scope x) (he : PE X e te) (hs : swapsWith e (some (.Name x pos')) pos.line X.env = pure false := by rfl) (hf : X.fn x = true ∨ X.env.scope.names.lookup x = some .local := by first | exact .inl rfl | exact .inr rfl | assumption) :
    PS X (.Assign [.Name x pos'] e pos) (tAsg te (gName i)) := by
  intro pins s σ H D I h
  refine wpAny_Assign_Name (thn (he pins s σ H _ I h) fun v s1 ⟨y, H1, I1, r1, q1⟩ => ?_) hs
  exact store_ok I1 hN hi hx r1 (fun s2 I2 => ⟨_, H1, I2, q1⟩) hf
/-- a, b = x, y with plain local names: stored from the right; the pair itself is not tracked (the opening rows as in PyProof/Rows/TupAssign.lean:23) -/
def tPar (i j : Nat) (ta : TA) : TS := fun D σ H => ta σ H fun vs H1 => ∃ v w, vs = [v, w] ∧ D.nx ((σ.set i (some v)).set j (some w)) H1
/-- name op= e -/
def tAug (i : Nat) (te : TE) (ti : TIp) : TS := fun D σ H => ∃ x, σ[i]? = some (some x) ∧ te σ H fun y H1 => ti x y H1 fun z H2 => D.nx (σ.set i (some z)) H2
/-- o[i] op= e -/
def tAugS (to ti te : TE) (tget : V → V → Hp → VK → Prop) (tip : TIp) (tset : TSet) : TS := fun D σ H => to σ H fun o H1 => ti σ H1 fun i H2 => tget o i H2 fun x H3 => te σ H3 fun y H4 => tip x y H4 fun z H5 => tset o i z H5 fun H6 => D.nx σ H6
/-- o[i], by values -/
def PGet (X : Cx) (t : V → V → Hp → VK → Prop) : Prop :=
  ∀ (pins : List (Addr × Obj)) (s : Shared) (σ : St) (H : Hp) (o i : V) (ov iv : Value) (Q : VK), Inv X pins σ H s → RelV o ov → RelV i iv → t o i H Q →
    wpAny (model X.prog X.w) X.A (getItem ov iv) (EP X pins σ Q) X.xe s
/-- ints -/
def ipI (f : Int → Int → Int) : TIp := fun x y H Q => ∃ i j, x = .int i ∧ y = .int j ∧ Q (.int (f i j)) H
end

/-! ### while -/
section
variable {X : Cx} {pos : Pos}
/-- the invariant W with its measure -/
def tWhile (c : TT) (tb : TS) : TS := fun D σ H => ∃ W : Nat → St → Hp → Prop, (∃ m, W m σ H) ∧ ∀ m σ H, W m σ H →
  c σ H fun b H1 => if b = true then ∃ N : St → Hp → Prop, (∀ σ' H', N σ' H' → ∃ m', m' < m ∧ W m' σ' H') ∧ tb { D with nx := N, ct := N, bk := D.nx } σ H1 else D.nx σ H1
theorem ps_while {c : Expr} {body : List Stmt} {tc : TT} {tb : TS} (hp : PassesOwn (model X.prog X.w) X.A X.env X.xe) (hc : PT X c tc) (hb : PSs X body tb) : PS X (.While c body [] pos) (tWhile tc tb) := by
  intro pins s σ H D I h
  obtain ⟨W, ⟨m0, w0⟩, turn⟩ := h
  refine wpAny_While (codeAny_whileLoop (fun n s' => ∃ σ' H', Inv X pins σ' H' s' ∧ W n σ' H') ?_ m0 ⟨σ, H, I, w0⟩)
  rintro n s1 ⟨σ1, H1, I1, w1⟩
  refine wpAny_passesOwn hp (thn (hc pins s1 σ1 H1 _ I1 (turn n σ1 H1 w1)) fun b s2 ⟨H2, I2, q2⟩ => ?_)
  cases b with
  | true =>
    obtain ⟨N, hN, q2⟩ := q2
    rw [if_pos rfl]
    refine wpAny_passesOwn hp (thn (hb pins s2 σ1 H2 _ I2 q2) fun f s3 q3 => ?_)
    cases f with
    | next =>
      obtain ⟨σ3, H3, I3, n3⟩ := q3
      obtain ⟨m', hm, w3⟩ := hN σ3 H3 n3
      exact ⟨m', hm, σ3, H3, I3, w3⟩
    | cont =>
      obtain ⟨σ3, H3, I3, n3⟩ := q3
      obtain ⟨m', hm, w3⟩ := hN σ3 H3 n3
      exact ⟨m', hm, σ3, H3, I3, w3⟩
    | brk => exact q3
    | ret v => exact q3
  | false =>
    rw [if_neg Bool.false_ne_true]
    exact wpAny_execs_nil ⟨σ1, H2, I2, q2⟩
end

/-! ### what a loop or a comprehension walks -/
/-- at turn i: it yields x (the heap may grow), or it stops -/
structure It where
  go : Nat → Hp → Prop
  yld : Nat → Hp → V → Hp → Prop
  stop : Nat → Hp → Prop
/-- the iterator's own objects may turn: they are not the frame's, not pinned, younger than the entry (or a comprehension's own) -/
def FpOk (X : Cx) (pins : List (Addr × Obj)) (H : Hp) (b : Addr) : Prop :=
  H b = none ∧ b ≠ X.env.locals ∧ b ∉ X.fs ∧ (b ∈ X.ex ∨ X.s₀.heap.objs.size ≤ b) ∧ (∀ x c, X.env.cells.lookup x = some c → c ≠ b) ∧ ∀ p ∈ X.pn ++ pins, p.1 ≠ b
theorem Inv.fpOk {X : Cx} {pins : List (Addr × Obj)} {σ : St} {H H' : Hp} {s : Shared} {b : Addr} (I : Inv X pins σ H s) (hb : s.heap.objs.size ≤ b) (hn : H' b = none) : FpOk X pins H' b := by
  refine ⟨hn, Nat.ne_of_gt (Nat.lt_of_lt_of_le I.lt hb), I.nofs hb, .inr (Nat.le_trans I.sz hb), fun x c e z => ?_, fun p hp z => ?_⟩
  · obtain ⟨v, q⟩ := I.cell x c e
    exact absurd (Nat.lt_of_lt_of_le q.lt (by rw [z]; exact hb)) (Nat.lt_irrefl _)
  · exact absurd (Nat.lt_of_lt_of_le (Heap.lt_size (I.pin p hp).1) (by rw [z]; exact hb)) (Nat.lt_irrefl _)
structure Turn (P : Program) (w : World) (K : PySem.W.Frag) (tg : Expr) (J : It) (fp : List Addr) (it : Addr) (tn : Nat → Heap → Prop) : Prop where
  mem : it ∈ fp
  obj : ∀ i h, tn i h → ∀ b ∈ fp, ∃ o, h.get? b = some o ∧ ∀ v, o.data ≠ .cell v
  keep : ∀ i h h', tn i h → (∀ b ∈ fp, ∀ o, h.get? b = some o → h'.get? b = some o) → tn i h'
  item : ∀ (X : Cx), X.prog = P → X.w = w → X.K = K → X.calm = true → ∀ (i : Nat) (pins : List (Addr × Obj)) (s : Shared) (σ : St) (H : Hp) (E : Value → Shared → Prop), Inv X pins σ H s → (∀ b ∈ fp, FpOk X pins H b) → tn i s.heap → J.go i H →
    wpAny (model P w) X.A (pyNext (.ref it)) (fun r s1 => ∃ u, r = some u ∧
      wpAny (model P w) X.A (letOwnedTupleGo tg (.ref it) u) (fun _ s2 => ∃ x H', Inv X pins σ H' s2 ∧ RelV x u ∧ J.yld i H x H' ∧ tn (i + 1) s2.heap ∧ ∀ b ∈ fp, H' b = none) E s1) E s
  done : ∀ (X : Cx), X.prog = P → X.w = w → X.K = K → X.calm = true → ∀ (i : Nat) (pins : List (Addr × Obj)) (s : Shared) (σ : St) (H : Hp) (E : Value → Shared → Prop), Inv X pins σ H s → (∀ b ∈ fp, FpOk X pins H b) → tn i s.heap → J.stop i H →
    wpAny (model P w) X.A (pyNext (.ref it)) (fun r s1 => r = none ∧ Inv X pins σ H s1) E s
  self : ∀ (A : Around) (i : Nat) (s : Shared) (Q : Value → Shared → Prop) (E : Value → Shared → Prop), tn i s.heap → Q (.ref it) s → wpAny (model P w) A (pyIter (.ref it)) Q E s
abbrev TI := St → Hp → (It → Hp → Prop) → Prop
/-- an iterator has come -/
def PIE (X : Cx) (pins : List (Addr × Obj)) (σ : St) (tg : Expr) (R : It → Hp → Prop) (itv : Value) (s2 : Shared) : Prop :=
  ∃ (it : Addr) (fp : List Addr) (tn : Nat → Heap → Prop) (J : It) (H' : Hp), itv = .ref it ∧ Inv X pins σ H' s2 ∧ Turn X.prog X.w X.K tg J fp it tn ∧ tn 0 s2.heap ∧ (∀ b ∈ fp, FpOk X pins H' b) ∧ R J H'
def PI (X : Cx) (tg iter : Expr) (wi : TI) : Prop :=
  ∀ (pins : List (Addr × Obj)) (s : Shared) (σ : St) (H : Hp) (R : It → Hp → Prop), Inv X pins σ H s → wi σ H R →
    wpAny (model X.prog X.w) X.A (eval iter X.env) (fun v s1 => wpAny (model X.prog X.w) X.A (pyIter v) (PIE X pins σ tg R) X.xe s1) X.xe s

/-- the step ahead of the store is nothing for an iterator that keeps no tuple -/
theorem go_of {M : Model} {A : Around} {E : Value → Shared → Prop} {s : Shared} {tg : Expr} {it : Addr} {u : Value} {o : Obj} {n : String} {vs : Array Value} {Q : Unit → Shared → Prop} (ho : s.heap.get? it = some o) (hc : o.cls = .type n) (hd : o.data = .fields vs)
    (hn : ["enumerate", "zip", "dict_itemiterator", "dict_reverseitemiterator", "odict_iterator", "itertools.zip_longest", "itertools.pairwise"].contains n = false) (hQ : Q () s) : wpAny M A (letOwnedTupleGo tg (.ref it) u) Q E s := by
  unfold letOwnedTupleGo
  cases tg <;> first
    | exact wpAny_pure hQ
    | (cases u <;> first
        | exact wpAny_pure hQ
        | (refine wpAny_bind (wpAny_load ho ?_)
           rw [hc, hd]
           show wpAny M A (if (["enumerate", "zip", "dict_itemiterator", "dict_reverseitemiterator", "odict_iterator", "itertools.zip_longest", "itertools.pairwise"].contains n && vs[0]? == some (rawInt _)) = true then _ else _) Q E s
           rw [if_neg (by intro h; rw [hn, Bool.false_and] at h; cases h)]
           exact wpAny_pure hQ))

/-- the list at a, as it stands at each turn (a loop may append to it) -/
def Itl (K : PySem.W.Frag) (a : Addr) : It :=
  ⟨fun i H => ∃ xs x, SqL K H a xs ∧ xs[i]? = some x, fun i H x H' => H' = H ∧ ∀ xs, SqL K H a xs → xs[i]? = some x, fun i H => ∃ xs, SqL K H a xs ∧ xs.length ≤ i⟩
def Itt (K : PySem.W.Frag) (a : Addr) : It :=
  ⟨fun i H => ∃ xs x, SqT K H a xs ∧ xs[i]? = some x, fun i H x H' => H' = H ∧ ∀ xs, SqT K H a xs → xs[i]? = some x, fun i H => ∃ xs, SqT K H a xs ∧ xs.length ≤ i⟩
/-- lo, lo + 1, .. (n of them) -/
def Itr (lo : Int) (n : Nat) : It := ⟨fun i _ => i < n, fun i H x H' => H' = H ∧ x = .int (lo + i), fun i _ => n ≤ i⟩
theorem turn_list {P : Program} {w : World} {K : PySem.W.Frag} {tg : Expr} (a it : Addr) : Turn P w K tg (Itl K a) [it] it (fun i h => h.IsListIter it a i) where
  mem := by simp
  obj := fun i h st b hb => by
    have e : b = it := by simpa using hb
    subst e
    obtain ⟨o, e, c, d⟩ := st
    exact ⟨o, e, fun v z => by rw [d] at z; cases z⟩
  keep := fun i h h' st k => st.at fun o e => k it (by simp) o e
  item := by
    intro X hP hw hK hc i pins s σ H E I hf st hg
    subst hP hw hK
    obtain ⟨xs, x, hq, hx⟩ := hg
    obtain ⟨its, rv, p, hz⟩ := I.list hq
    obtain ⟨u, hu, ru⟩ := rv.get hx
    obtain ⟨f0, f1, f2, f3, f4, f5⟩ := hf it (by simp)
    refine wpAny_pyNext_list_item st p.isList (x := u) (by simpa using hu) fun h' st' sb => ?_
    have I1 : Inv X pins σ H { s with heap := h' } := I.turned (t' := s.toks) (fun b o hb e => (sb.2 b hb).trans e) f0 f1 f3 f4 f5
    obtain ⟨o, e, c, d⟩ := id st'
    exact ⟨u, rfl, go_of (s := { s with heap := h' }) e c d (by decide) ⟨x, H, I1, ru, ⟨rfl, fun ys hy => by rw [I.list_inj hy hq]; exact hx⟩, st', fun b hb => (hf b hb).1⟩⟩
  done := by
    intro X hP hw hK hc i pins s σ H E I hf st hg
    subst hP hw hK
    obtain ⟨xs, hq, hx⟩ := hg
    obtain ⟨its, rv, p, hz⟩ := I.list hq
    obtain ⟨f0, f1, f2, f3, f4, f5⟩ := hf it (by simp)
    have hl := rv.length
    exact wpAny_pyNext_list_end (I.ok.hd hc) st p.isList (by simp; omega) fun h' eb => ⟨rfl, I.turned (t' := s.toks) (fun b o hb e => eb b o hb e) f0 f1 f3 f4 f5⟩
  self := fun _ _ _ _ _ st h => wpAny_pyIter_listiter st h
theorem turn_range {P : Program} {w : World} {K : PySem.W.Frag} {tg : Expr} (it : Addr) (lo : Int) (n : Nat) : Turn P w K tg (Itr lo n) [it] it (fun i h => IsRangeIter h it (lo + (i : Nat) * 1) ((n : Int) - (i : Nat)) 1) where
  mem := by simp
  obj := fun i h st b hb => by
    have e : b = it := by simpa using hb
    subst e
    exact ⟨_, st, fun v z => by
      have z' : Data.fields _ = Data.cell v := z
      cases z'⟩
  keep := fun i h h' st k => k it (by simp) _ st
  item := by
    intro X hP hw hK hc i pins s σ H E I hf st hg
    subst hP hw hK
    obtain ⟨f0, f1, f2, f3, f4, f5⟩ := hf it (by simp)
    have W := Walks.range (prog := X.prog) (w := X.w) (I.ok.hd hc) it lo 1 n
    refine W.item i s _ _ hg st fun v h' tk hv st' kk => ?_
    obtain ⟨t, rfl⟩ := hv
    have I1 : Inv X pins σ H { s with heap := h', toks := tk } := I.turned (fun b o hb e => kk b o (by simpa using hb) e) f0 f1 f3 f4 f5
    refine ⟨_, rfl, go_of (s := { s with heap := h', toks := tk }) (n := "range_iterator") st' rfl rfl (by decide) ⟨.int (lo + i), H, I1, ⟨t, ?_⟩, ⟨rfl, rfl⟩, st', fun b hb => (hf b hb).1⟩⟩
    rw [Int.mul_one]
  done := by
    intro X hP hw hK hc i pins s σ H E I hf st hg
    subst hP hw hK
    obtain ⟨f0, f1, f2, f3, f4, f5⟩ := hf it (by simp)
    exact wpAny_pyNext_range_end (I.ok.hd hc) st (by have : n ≤ i := hg; omega) fun h' eb => ⟨rfl, I.turned (t' := s.toks) (fun b o hb e => eb b o hb e) f0 f1 f3 f4 f5⟩
  self := fun _ _ _ _ _ st h => wpAny_pyIter_rangeiter st h
end L2

namespace L2
open PySem PySem.Spec PyProof.Rows
section
variable {X : Cx} {tg : Expr}
def iList (K : PySem.W.Frag) (tl : TE) : TI := fun σ H R => tl σ H fun x H1 => ∃ a, x = .ref a ∧ (∃ xs, SqL K H1 a xs) ∧ R (Itl K a) H1
def iTup (K : PySem.W.Frag) (tl : TE) : TI := fun σ H R => tl σ H fun x H1 => ∃ a, x = .ref a ∧ (∃ xs, SqT K H1 a xs) ∧ R (Itt K a) H1
theorem pi_list {l : Expr} {tl : TE} (hl : PE X l tl) : PI X tg l (iList X.K tl) := by
  intro pins s σ H R I h
  refine thn (hl pins s σ H _ I h) fun v s1 ⟨x, H1, I1, r1, q1⟩ => ?_
  obtain ⟨a, e, ⟨xs, hq⟩, q⟩ := q1
  subst e
  cases r1
  obtain ⟨its, rv, p, hz⟩ := I1.list hq
  refine wpAny_pyIter_list p.isList ?_
  refine ⟨s1.heap.objs.size, [s1.heap.objs.size], _, _, H1, rfl, I1.kept (t' := s1.toks) fun b o e => Heap.get?_push_of_some _ e, turn_list a _, ⟨_, Heap.get?_push_size _ rfl, rfl, rfl⟩, fun b hb => ?_, q⟩
  have e : b = s1.heap.objs.size := by simpa using hb
  subst e
  exact I1.fpOk (Nat.le_refl _) (I1.hok.fresh (Nat.le_refl _))
/-- a range object just made, walked -/
theorem range_it {pins : List (Addr × Obj)} {σ : St} {H : Hp} {s : Shared} {R : It → Hp → Prop} {E : Value → Shared → Prop} {lo hi : Int} {t u v : Tok} {tk : Nat} (I : Inv X pins σ H s) (h1 : -(2 ^ 62) ≤ lo) (h2 : lo < 2 ^ 62) (h3 : -(2 ^ 62) ≤ hi) (h4 : hi < 2 ^ 62)
    (q : R (Itr lo (hi - lo).toNat) H) : wpAny (model X.prog X.w) X.A (pyIter (.ref s.heap.objs.size)) (PIE X pins σ tg R) E { s with heap := s.heap.push { cls := .type "range", data := .fields #[.int lo t, .int hi u, .int 1 v] }, toks := tk } := by
  refine wpAny_pyIter_range (IsRange.new ..) (small_one h1 h2 h3 h4) ?_
  have I1 : Inv X pins σ H { s with heap := s.heap.push { cls := .type "range", data := .fields #[.int lo t, .int hi u, .int 1 v] }, toks := tk } := I.kept fun b o e => Heap.get?_push_of_some _ e
  refine ⟨(s.heap.push { cls := .type "range", data := .fields #[.int lo t, .int hi u, .int 1 v] }).objs.size, [(s.heap.push { cls := .type "range", data := .fields #[.int lo t, .int hi u, .int 1 v] }).objs.size], _, _, H, rfl,
    I1.kept (t' := tk) fun b o e => Heap.get?_push_of_some _ e, turn_range _ lo (hi - lo).toNat, ?_, fun b hb => ?_, q⟩
  · have e1 : lo + ((0 : Nat) : Int) * 1 = lo := by simp
    have e2 : (((hi - lo).toNat : Nat) : Int) - ((0 : Nat) : Int) = Builtin.Range.rangeSize lo hi 1 := by rw [rangeSize_one]; split <;> omega
    show IsRangeIter _ _ (lo + ((0 : Nat) : Int) * 1) ((((hi - lo).toNat : Nat) : Int) - ((0 : Nat) : Int)) 1
    rw [e1, e2]
    exact Heap.get?_push_size _ rfl
  · have e : b = (s.heap.push { cls := .type "range", data := .fields #[.int lo t, .int hi u, .int 1 v] }).objs.size := by simpa using hb
    subst e
    exact I1.fpOk (Nat.le_refl _) (I1.hok.fresh (Nat.le_refl _))
def iRng1 (ta : TA) : TI := fun σ H R => ta σ H fun vs H1 => ∃ j : Int, vs = [.int j] ∧ -(2 ^ 62) ≤ j ∧ j < 2 ^ 62 ∧ R (Itr 0 j.toNat) H1
def iRng2 (ta : TA) : TI := fun σ H R => ta σ H fun vs H1 => ∃ i j : Int, vs = [.int i, .int j] ∧ (-(2 ^ 62) ≤ i ∧ i < 2 ^ 62 ∧ -(2 ^ 62) ≤ j ∧ j < 2 ^ 62) ∧ R (Itr i (j - i).toNat) H1
theorem pi_range1 {a : Expr} {ta : TA} {p pos : Pos} (hg : Gl X "range") (hm : X.mg "range" = none) (ha : PA X [a] ta) (hs : starEach [a] X.env = [(false, eval a X.env)] := by rfl) : PI X tg (.Call (.Name "range" p) [a] [] pos) (iRng1 ta) := by
  intro pins s σ H R I h
  refine Call_ (ld_blt I hg hm boot_range (PyProof.Rows.callWith_type1 (thn (ha pos pins s σ H _ I h) fun us s1 ⟨vs, H1, I1, r1, q1⟩ => ?_) hs rfl))
  obtain ⟨j, e, q1, q2, q⟩ := q1
  subst e
  cases r1 with
  | cons r rr =>
    cases rr
    obtain ⟨t, rfl⟩ := r
    exact call_range_1 (range_it I1 (by omega) (by omega) q1 q2 (by simpa using q))
/-! ### for -/
/-- W: the invariant by the turn and a measure; N: what the body is to reach -/
def tFor (wi : TI) (g : TG) (tb : TS) : TS := fun D σ H => wi σ H fun J H1 => ∃ W : Nat → Nat → St → Hp → Prop, (∃ m, W 0 m σ H1) ∧ ∀ i m σ H, W i m σ H →
  (J.stop i H ∧ D.nx σ H) ∨ (J.go i H ∧ ∃ N : St → Hp → Prop, (∀ σ' H', N σ' H' → ∃ m', m' < m ∧ W (i + 1) m' σ' H') ∧ ∀ x H', J.yld i H x H' → g x σ H' fun σ2 H2 => tb { D with nx := N, ct := N, bk := D.nx } σ2 H2)
/-- the records at fp as they stand -/
def pinsAt (fp : List Addr) (h : Heap) : List (Addr × Obj) := fp.filterMap fun b => (h.get? b).map fun o => (b, o)
theorem mem_pinsAt {fp : List Addr} {h : Heap} {b : Addr} {o : Obj} (hb : b ∈ fp) (e : h.get? b = some o) : (b, o) ∈ pinsAt fp h := List.mem_filterMap.mpr ⟨b, hb, by rw [e]; rfl⟩
theorem of_pinsAt {fp : List Addr} {h : Heap} {p : Addr × Obj} (hp : p ∈ pinsAt fp h) : p.1 ∈ fp ∧ h.get? p.1 = some p.2 := by
  obtain ⟨b, hb, e⟩ := List.mem_filterMap.mp hp
  cases q : h.get? b with
  | none => rw [q] at e; cases e
  | some o =>
    rw [q] at e
    have e' : (b, o) = p := Option.some.inj e
    subst e'
    exact ⟨hb, q⟩
theorem Inv.pinned {pins : List (Addr × Obj)} {σ : St} {H : Hp} {s : Shared} {fp : List Addr} (I : Inv X pins σ H s) (hf : ∀ b ∈ fp, FpOk X pins H b) (ho : ∀ b ∈ fp, ∃ o, s.heap.get? b = some o ∧ ∀ v, o.data ≠ .cell v) : Inv X (pins ++ pinsAt fp s.heap) σ H s :=
  I.pins_of fun p hp => (List.mem_append.mp hp).elim (fun z => I.pin p (List.mem_append_right _ z)) fun z => by
    obtain ⟨hb, e⟩ := of_pinsAt z
    obtain ⟨f0, f1, f2, _⟩ := hf p.1 hb
    obtain ⟨o, e', d⟩ := ho p.1 hb
    rw [e] at e'; cases e'
    exact ⟨e, f0, f1, f2, d⟩
theorem Inv.unpinned {pins pl : List (Addr × Obj)} {σ : St} {H : Hp} {s : Shared} (I : Inv X (pins ++ pl) σ H s) : Inv X pins σ H s := I.pins_of fun p hp => I.pin p (List.mem_append_right _ (List.mem_append_left _ hp))
theorem ps_for {iter : Expr} {body : List Stmt} {wi : TI} {g : TG} {tb : TS} {pos : Pos} (hp : PassesOwn (model X.prog X.w) X.A X.env X.xe) (hc : X.calm = true) (hi : PI X tg iter wi) (hg : PG X tg g) (hb : PSs X body tb)
    (hs : ∀ x, foldedSetIterable iter X.env x = pure x := by intro _; rfl) : PS X (.For tg iter body [] pos) (tFor wi g tb) := by
  intro pins s σ H D I h
  refine wpAny_For (thn (hi pins s σ H _ I h) fun v s1 h1 => thn h1 fun itv s2 h2 => ?_) hs
  obtain ⟨it, fp, tn, J, H2, e, I2, T, st2, f2, W, ⟨m0, w0⟩, turn⟩ := h2
  subst e
  -- what stays true of the iterator's objects through the loop
  have stat : ∀ {H' : Hp}, (∀ b ∈ fp, H' b = none) → ∀ b ∈ fp, FpOk X pins H' b := fun hn b hb => ⟨hn b hb, (f2 b hb).2⟩
  refine codeAny_forLoop_any (fun n s' => ∃ i σ' H', Inv X pins σ' H' s' ∧ tn i s'.heap ∧ (∀ b ∈ fp, H' b = none) ∧ W i n σ' H') ?_ m0 ⟨0, σ, H2, I2, st2, fun b hb => (f2 b hb).1, w0⟩
  rintro n s3 ⟨i, σ3, H3, I3, st3, fr3, w3⟩
  rcases turn i n σ3 H3 w3 with ⟨stop, qn⟩ | ⟨go, N, hN, step⟩
  · refine wpAny_passesOwn hp (thn (T.done X rfl rfl rfl hc i pins s3 σ3 H3 X.xe I3 (stat fr3) st3 stop) fun r s4 ⟨hr, I4⟩ => ?_)
    subst hr
    exact wpAny_execs_nil ⟨σ3, H3, I4, qn⟩
  · refine wpAny_passesOwn hp (thn (T.item X rfl rfl rfl hc i pins s3 σ3 H3 X.xe I3 (stat fr3) st3 go) fun r s4 ⟨u, hr, h4⟩ => ?_)
    subst hr
    refine wpAny_passesOwn hp (thn h4 fun _ s5 ⟨x, H5, I5, r5, y5, st5, fr5⟩ => ?_)
    have I5' := I5.pinned (stat fr5) (T.obj _ _ st5)
    refine wpAny_passesOwn hp (thn (hg _ s5 σ3 H5 x u _ I5' r5 (step x H5 y5)) fun _ s6 ⟨σ6, H6, I6, q6⟩ => ?_)
    refine wpAny_passesOwn hp (thn (hb _ s6 σ6 H6 _ I6 q6) fun f s7 q7 => ?_)
    have again : ∀ {σ7 : St} {H7 : Hp}, Inv X (pins ++ pinsAt fp s5.heap) σ7 H7 s7 → N σ7 H7 → ∃ m, m < n ∧ ∃ i σ' H', Inv X pins σ' H' s7 ∧ tn i s7.heap ∧ (∀ b ∈ fp, H' b = none) ∧ W i m σ' H' := fun {σ7 H7} I7 n7 => by
      obtain ⟨m', hm, w7⟩ := hN σ7 H7 n7
      refine ⟨m', hm, i + 1, σ7, H7, I7.unpinned, T.keep _ _ _ st5 fun b hb o e => (I7.pin (b, o) (List.mem_append_right _ (List.mem_append_right _ (mem_pinsAt hb e)))).1, fun b hb => ?_, w7⟩
      obtain ⟨o, e, d⟩ := T.obj _ _ st5 b hb
      exact (I7.pin (b, o) (List.mem_append_right _ (List.mem_append_right _ (mem_pinsAt hb e)))).2.1
    cases f with
    | next => obtain ⟨σ7, H7, I7, n7⟩ := q7; exact again I7 n7
    | cont => obtain ⟨σ7, H7, I7, n7⟩ := q7; exact again I7 n7
    | brk => obtain ⟨σ7, H7, I7, q7⟩ := q7; exact ⟨σ7, H7, I7.unpinned, q7⟩
    | ret v => obtain ⟨x7, σ7, H7, I7, r7, q7⟩ := q7; exact ⟨x7, σ7, H7, I7.unpinned, r7, q7⟩
end

/-! ### the forms one uses -/
/-- over a list that the body leaves as it is -/
theorem for_list {K : PySem.W.Frag} {a : Addr} {xs : List V} {g : TG} {tb : TS} {D : Ends} {σ : St} {H : Hp} (Pv : Nat → St → Hp → Prop) (h0 : Pv 0 σ H) (hl : ∀ i σ H, i ≤ xs.length → Pv i σ H → SqL K H a xs)
    (hs : ∀ i x σ H, xs[i]? = some x → Pv i σ H → g x σ H fun σ2 H2 => tb { D with nx := Pv (i + 1), ct := Pv (i + 1), bk := D.nx } σ2 H2) (hd : ∀ σ H, Pv xs.length σ H → D.nx σ H) :
    ∃ W : Nat → Nat → St → Hp → Prop, (∃ m, W 0 m σ H) ∧ ∀ i m σ H, W i m σ H →
      ((Itl K a).stop i H ∧ D.nx σ H) ∨ ((Itl K a).go i H ∧ ∃ N : St → Hp → Prop, (∀ σ' H', N σ' H' → ∃ m', m' < m ∧ W (i + 1) m' σ' H') ∧ ∀ x H', (Itl K a).yld i H x H' → g x σ H' fun σ2 H2 => tb { D with nx := N, ct := N, bk := D.nx } σ2 H2) := by
  refine ⟨fun i m σ H => m = xs.length - i ∧ i ≤ xs.length ∧ Pv i σ H, ⟨xs.length, by simp, Nat.zero_le _, h0⟩, ?_⟩
  rintro i m σ H ⟨rfl, hi, p⟩
  have q := hl i σ H hi p
  by_cases hlt : i < xs.length
  · refine .inr ⟨⟨xs, xs[i], q, by simp [hlt]⟩, Pv (i + 1), fun σ' H' p' => ⟨xs.length - (i + 1), by omega, rfl, hlt, p'⟩, fun x H' y => ?_⟩
    obtain ⟨e, y⟩ := y
    subst e
    exact hs i x σ _ (y xs q) p
  · have e : i = xs.length := by omega
    subst e
    exact .inl ⟨⟨xs, q, Nat.le_refl _⟩, hd σ H p⟩
theorem for_range {lo : Int} {n : Nat} {g : TG} {tb : TS} {D : Ends} {σ : St} {H : Hp} (Pv : Nat → St → Hp → Prop) (h0 : Pv 0 σ H)
    (hs : ∀ i σ H, i < n → Pv i σ H → g (.int (lo + i)) σ H fun σ2 H2 => tb { D with nx := Pv (i + 1), ct := Pv (i + 1), bk := D.nx } σ2 H2) (hd : ∀ σ H, Pv n σ H → D.nx σ H) :
    ∃ W : Nat → Nat → St → Hp → Prop, (∃ m, W 0 m σ H) ∧ ∀ i m σ H, W i m σ H →
      ((Itr lo n).stop i H ∧ D.nx σ H) ∨ ((Itr lo n).go i H ∧ ∃ N : St → Hp → Prop, (∀ σ' H', N σ' H' → ∃ m', m' < m ∧ W (i + 1) m' σ' H') ∧ ∀ x H', (Itr lo n).yld i H x H' → g x σ H' fun σ2 H2 => tb { D with nx := N, ct := N, bk := D.nx } σ2 H2) := by
  refine ⟨fun i m σ H => m = n - i ∧ i ≤ n ∧ Pv i σ H, ⟨n, by simp, Nat.zero_le _, h0⟩, ?_⟩
  rintro i m σ H ⟨rfl, hi, p⟩
  by_cases hlt : i < n
  · refine .inr ⟨hlt, Pv (i + 1), fun σ' H' p' => ⟨n - (i + 1), by omega, rfl, hlt, p'⟩, fun x H' y => ?_⟩
    obtain ⟨e, y⟩ := y
    subst e y
    exact hs i σ _ hlt p
  · have e : i = n := by omega
    subst e
    exact .inl ⟨Nat.le_refl _, hd σ H p⟩
/-- while, by a word and a measure of the state -/
theorem while_by {c : TT} {tb : TS} {D : Ends} {σ : St} {H : Hp} (Pv : St → Hp → Prop) (μ : St → Hp → Nat) (h0 : Pv σ H)
    (hs : ∀ σ H, Pv σ H → c σ H fun b H1 => if b = true then tb { D with nx := fun σ' H' => Pv σ' H' ∧ μ σ' H' < μ σ H, ct := fun σ' H' => Pv σ' H' ∧ μ σ' H' < μ σ H, bk := D.nx } σ H1 else D.nx σ H1)
    (mono : ∀ σ H Q Q', (∀ b H1, Q b H1 → Q' b H1) → c σ H Q → c σ H Q') : tWhile c tb D σ H := by
  refine ⟨fun m σ H => m = μ σ H ∧ Pv σ H, ⟨_, rfl, h0⟩, ?_⟩
  rintro m σ H ⟨rfl, p⟩
  refine mono σ H _ _ (fun b H1 q => ?_) (hs σ H p)
  cases b with
  | true => exact ⟨_, fun σ' H' ⟨p', l⟩ => ⟨_, l, rfl, p'⟩, q⟩
  | false => exact q
end L2

namespace L2
open PySem PySem.Spec PyProof.Rows

abbrev R2 := V → V → Hp → VK → Prop
/-- a two-place operation on values: f is binaryOp op, inplaceOp op or compareOp op -/
def OpR (X : Cx) (f : Value → Value → Sem Value) (r : R2) : Prop :=
  ∀ (pins : List (Addr × Obj)) (s : Shared) (σ : St) (H : Hp) (x y : V) (v u : Value) (Q : VK), Inv X pins σ H s → RelV x v → RelV y u → r x y H Q →
    wpAny (model X.prog X.w) X.A (f v u) (EP X pins σ Q) X.xe s
/-- a one-place operation -/
def UnR (X : Cx) (f : Value → Sem Value) (r : V → Hp → VK → Prop) : Prop :=
  ∀ (pins : List (Addr × Obj)) (s : Shared) (σ : St) (H : Hp) (x : V) (v : Value) (Q : VK), Inv X pins σ H s → RelV x v → r x H Q →
    wpAny (model X.prog X.w) X.A (f v) (EP X pins σ Q) X.xe s
/-- a call of a value that is known (a builtin, a type) with values -/
def CallR (X : Cx) (f : Value) (r : List V → Hp → VK → Prop) : Prop :=
  ∀ (pins : List (Addr × Obj)) (s : Shared) (σ : St) (H : Hp) (xs : List V) (us : List Value) (Q : VK), Inv X pins σ H s → Vals xs us → r xs H Q →
    wpAny (model X.prog X.w) X.A (call f us) (EP X pins σ Q) X.xe s
/-- a value's truth -/
def TruR (X : Cx) (r : V → Hp → (Bool → Hp → Prop) → Prop) : Prop :=
  ∀ (pins : List (Addr × Obj)) (s : Shared) (σ : St) (H : Hp) (x : V) (v : Value) (Q : Bool → Hp → Prop), Inv X pins σ H s → RelV x v → r x H Q →
    wpAny (model X.prog X.w) X.A (truthy v) (TP X pins σ Q) X.xe s

def tOp (r : R2) (ta tb : TE) : TE := fun σ H Q => ta σ H fun x H1 => tb σ H1 fun y H2 => r x y H2 Q
def tUn (r : V → Hp → VK → Prop) (ta : TE) : TE := fun σ H Q => ta σ H fun x H1 => r x H1 Q
/-- ints in, under C, and a value out -/
def rI (C : Int → Int → Prop) (g : Int → Int → V) : R2 := fun x y H Q => ∃ i j, x = .int i ∧ y = .int j ∧ C i j ∧ Q (g i j) H
def rI0 (g : Int → Int → V) : R2 := fun x y H Q => ∃ i j, x = .int i ∧ y = .int j ∧ Q (g i j) H
def rU (g : Int → V) : V → Hp → VK → Prop := fun x H Q => ∃ i, x = .int i ∧ Q (g i) H

section
variable {X : Cx} {a b c : Expr} {ta tb tc : TE} {pos : Pos}

theorem binT (ha : PE X a ta) (hb : PE X b tb) {pins : List (Addr × Obj)} {s : Shared} {σ : St} {H : Hp} {R : V → V → Hp → Prop} (I : Inv X pins σ H s)
    (h : ta σ H fun x H1 => tb σ H1 fun y H2 => R x y H2) {Q : Value → Shared → Prop} {f : Value → Value → Sem Value}
    (hf : ∀ v u s2 x y H2, Inv X pins σ H2 s2 → RelV x v → RelV y u → R x y H2 → wpAny (model X.prog X.w) X.A (f v u) Q X.xe s2) :
    wpAny (model X.prog X.w) X.A (eval a X.env) (fun v s₁ => wpAny (model X.prog X.w) X.A (eval b X.env) (fun u s₂ => wpAny (model X.prog X.w) X.A (f v u) Q X.xe s₂) X.xe s₁) X.xe s := by
  refine thn (ha pins s σ H _ I h) fun v s1 ⟨x, H1, I1, r1, q1⟩ => ?_
  refine thn (hb pins s1 σ H1 _ I1 q1) fun u s2 ⟨y, H2, I2, r2, q2⟩ => ?_
  exact hf v u s2 x y H2 I2 r1 r2 q2

theorem pe_op {op : Operator} {r : R2} (ho : OpR X (binaryOp op) r) (ha : PE X a ta) (hb : PE X b tb) : PE X (.BinOp a op b pos) (tOp r ta tb) := by
  intro pins s σ H Q I h
  exact wpAny_BinOp (binT ha hb I h fun v u s2 x y H2 I2 rx ry q => ho pins s2 σ H2 x y v u Q I2 rx ry q)
theorem pe_un {op : UnaryOp} {r : V → Hp → VK → Prop} (ho : UnR X (unaryOp op) r) (ha : PE X a ta) : PE X (.UnaryOp op a pos) (tUn r ta) := by
  intro pins s σ H Q I h
  exact UnaryOp_ (thn (ha pins s σ H _ I h) fun v s1 ⟨x, H1, I1, r1, q1⟩ => ho pins s1 σ H1 x v Q I1 r1 q1)
/-! ### ints -/
theorem opI {f : Value → Value → Sem Value} {C : Int → Int → Prop} {g : Int → Int → Int}
    (rule : ∀ (i j : Int) (t u : Tok) (s : Shared) (Q : Value → Shared → Prop) (E : Value → Shared → Prop), C i j → Q (.int (g i j) s.toks) { s with toks := s.toks + 1 } → wpAny (model X.prog X.w) X.A (f (.int i t) (.int j u)) Q E s) :
    OpR X f (rI C fun i j => .int (g i j)) := by
  intro pins s σ H x y v u Q I rx ry h
  obtain ⟨i, j, rfl, rfl, hc, q⟩ := h
  obtain ⟨t, rfl⟩ := rx
  obtain ⟨t', rfl⟩ := ry
  exact rule i j t t' s _ _ hc ⟨.int (g i j), H, I.tok _, ⟨_, rfl⟩, q⟩
theorem opI0 {f : Value → Value → Sem Value} {g : Int → Int → Int}
    (rule : ∀ (i j : Int) (t u : Tok) (s : Shared) (Q : Value → Shared → Prop) (E : Value → Shared → Prop), Q (.int (g i j) s.toks) { s with toks := s.toks + 1 } → wpAny (model X.prog X.w) X.A (f (.int i t) (.int j u)) Q E s) :
    OpR X f (rI0 fun i j => .int (g i j)) := by
  intro pins s σ H x y v u Q I rx ry h
  obtain ⟨i, j, rfl, rfl, q⟩ := h
  obtain ⟨t, rfl⟩ := rx
  obtain ⟨t', rfl⟩ := ry
  exact rule i j t t' s _ _ ⟨.int (g i j), H, I.tok _, ⟨_, rfl⟩, q⟩
theorem opB0 {f : Value → Value → Sem Value} {g : Int → Int → Bool}
    (rule : ∀ (i j : Int) (t u : Tok) (s : Shared) (Q : Value → Shared → Prop) (E : Value → Shared → Prop), Q (.bool (g i j)) s → wpAny (model X.prog X.w) X.A (f (.int i t) (.int j u)) Q E s) :
    OpR X f (rI0 fun i j => .bl (g i j)) := by
  intro pins s σ H x y v u Q I rx ry h
  obtain ⟨i, j, rfl, rfl, q⟩ := h
  obtain ⟨t, rfl⟩ := rx
  obtain ⟨t', rfl⟩ := ry
  exact rule i j t t' s _ _ ⟨.bl (g i j), H, I, rfl, q⟩

def CDiv (i j : Int) : Prop := 0 < j ∧ j < 1073741824
def CDivN (i j : Int) : Prop := j ≠ 0 ∧ j.natAbs < 1073741824
def CPow (i j : Int) : Prop := 0 ≤ j ∧ j ≤ 1000000 ∧ i.natAbs < 2 ^ 64
def CMul (i j : Int) : Prop := (-(2 ^ 64) < i ∧ i < 2 ^ 64) ∨ (-(2 ^ 64) < j ∧ j < 2 ^ 64)
theorem CMul.ok {i j : Int} (h : CMul i j) : IntMulOk i j := by
  rcases h with ⟨h1, h2⟩ | ⟨h1, h2⟩
  · exact .of_left (intBits_le_64 h1 h2)
  · exact .of_right (intBits_le_64 h1 h2)
theorem op_add : OpR X (binaryOp .Add) (rI0 fun i j => .int (i + j)) := opI0 fun _ _ _ _ _ _ _ q => add_int q
theorem op_sub : OpR X (binaryOp .Sub) (rI0 fun i j => .int (i - j)) := opI0 fun _ _ _ _ _ _ _ q => sub_int q
theorem op_mul : OpR X (binaryOp .Mult) (rI CMul fun i j => .int (i * j)) := opI fun _ _ _ _ _ _ _ hc q => mul_int q hc.ok
/-- // by a positive divisor -/
theorem op_fdiv : OpR X (binaryOp .FloorDiv) (rI CDiv fun i j => .int (i / j)) := opI fun i j _ _ _ _ _ hc q => by
  have h1 : (0 : Int) < j := hc.1
  have h2 : j < 1073741824 := hc.2
  exact floordiv_int (by omega) (by rw [Int.fdiv_eq_ediv_of_nonneg i (by omega)]; exact q) (.inl (PyProof.noPylong_small (by omega)))
/-- % by a positive divisor of any size -/
theorem op_mod : OpR X (binaryOp .Mod) (rI (fun _ j => 0 < j) fun i j => .int (i % j)) := opI fun i j _ _ _ _ _ hc q => by
  have h1 : (0 : Int) < j := hc
  exact mod_int' (by omega) (by rw [Int.fmod_eq_emod_of_nonneg i (by omega)]; exact q)
theorem op_pow : OpR X (binaryOp .Pow) (rI CPow fun i j => .int (i ^ j.toNat)) := opI fun _ _ _ _ _ _ _ hc q => pow_int_small hc.1 hc.2.1 hc.2.2 q
theorem unI {f : Value → Sem Value} {g : Int → Int}
    (rule : ∀ (i : Int) (t : Tok) (s : Shared) (Q : Value → Shared → Prop) (E : Value → Shared → Prop), Q (.int (g i) s.toks) { s with toks := s.toks + 1 } → wpAny (model X.prog X.w) X.A (f (.int i t)) Q E s) :
    UnR X f (rU fun i => .int (g i)) := by
  intro pins s σ H x v Q I rx h
  obtain ⟨i, rfl, q⟩ := h
  obtain ⟨t, rfl⟩ := rx
  exact rule i t s _ _ ⟨.int (g i), H, I.tok _, ⟨_, rfl⟩, q⟩
theorem un_neg : UnR X (unaryOp .USub) (rU fun i => .int (-i)) := unI fun _ _ _ _ _ q => neg_int q
/-! ### bools among ints: n += (a < b) -/
end

/-! ### comparisons -/
/-- the scalars that == tells apart as data does -/
def scal : V → V → Bool
  | .non, .non => true | .non, .int _ => true | .int _, .non => true | .non, .bl _ => true | .bl _, .non => true | .non, .str _ => true | .str _, .non => true
  | .int _, .int _ => true | .bl _, .bl _ => true | .str _, .str _ => true | .byt _, .byt _ => true
  | .int _, .str _ => true | .str _, .int _ => true | .bl _, .str _ => true | .str _, .bl _ => true
  | _, _ => false
def rEq : R2 := fun x y H Q => scal x y = true ∧ Q (.bl (decide (x = y))) H
def rNe : R2 := fun x y H Q => scal x y = true ∧ Q (.bl (!decide (x = y))) H

theorem dec_int {i j : Int} : decide (V.int i = V.int j) = (i == j) := by
  rw [Bool.eq_iff_iff]
  simp
theorem dec_bl {i j : Bool} : decide (V.bl i = V.bl j) = (i == j) := by
  rw [Bool.eq_iff_iff]
  simp
theorem dec_str {i j : Str} : decide (V.str i = V.str j) = (i == j) := by
  rw [Bool.eq_iff_iff]
  simp
theorem dec_byt {i j : Array UInt8} : decide (V.byt i = V.byt j) = (i.toList == j.toList) := by
  rw [Bool.eq_iff_iff]
  cases i
  cases j
  simp

section
variable {X : Cx} {a b c : Expr} {ta tb tc : TE} {pos : Pos}
theorem fin_bl {pins : List (Addr × Obj)} {σ : St} {H : Hp} {s : Shared} {Q : VK} {k k' : Bool} (I : Inv X pins σ H s) (q : Q (.bl k) H) (e : k = k') : EP X pins σ Q (.bool k') s := by
  subst e
  exact ⟨.bl k, H, I, rfl, q⟩
theorem op_eq : OpR X (compareOp .Eq) rEq := by
  intro pins s σ H x y v u Q I rx ry h
  obtain ⟨hs, q⟩ := h
  cases x with
  | non =>
    cases rx
    cases y with
    | non => cases ry; exact PySem.EqNone.eq_none_none (fin_bl I q (by simp))
    | bl j => cases ry; exact PySem.EqNone.eq_none_bool (fin_bl I q (by simp))
    | int j => obtain ⟨t', rfl⟩ := ry; exact PySem.EqNone.eq_none_int (fin_bl I q (by simp))
    | str j => obtain ⟨t', rfl⟩ := ry; exact PySem.EqNone.eq_none_str (fin_bl I q (by simp))
    | _ => exact absurd (show false = true from hs) Bool.false_ne_true
  | bl i =>
    cases rx
    cases y with
    | non => cases ry; exact PySem.EqNone.eq_bool_none (fin_bl I q (by simp))
    | bl j => cases ry; exact eq_bool (fin_bl I q dec_bl)
    | str j => obtain ⟨t', rfl⟩ := ry; exact PySem.EqMixed.eq_bool_str (fin_bl I q (by simp))
    | _ => exact absurd (show false = true from hs) Bool.false_ne_true
  | int i =>
    obtain ⟨t, rfl⟩ := rx
    cases y with
    | non => cases ry; exact PySem.EqNone.eq_int_none (fin_bl I q (by simp))
    | int j => obtain ⟨t', rfl⟩ := ry; exact eq_int (fin_bl I q dec_int)
    | str j => obtain ⟨t', rfl⟩ := ry; exact PySem.EqMixed.eq_int_str (fin_bl I q (by simp))
    | _ => exact absurd (show false = true from hs) Bool.false_ne_true
  | str i =>
    obtain ⟨t, rfl⟩ := rx
    cases y with
    | non => cases ry; exact PySem.EqNone.eq_str_none (fin_bl I q (by simp))
    | bl j => cases ry; exact PySem.EqMixed.eq_str_bool (fin_bl I q (by simp))
    | int j => obtain ⟨t', rfl⟩ := ry; exact PySem.EqMixed.eq_str_int (fin_bl I q (by simp))
    | str j => obtain ⟨t', rfl⟩ := ry; exact eq_str (fin_bl I q dec_str)
    | _ => exact absurd (show false = true from hs) Bool.false_ne_true
  | byt i =>
    obtain ⟨t, rfl⟩ := rx
    cases y with
    | byt j => obtain ⟨t', rfl⟩ := ry; exact PySem.W.eq_bytes (fin_bl I q dec_byt)
    | _ => exact absurd (show false = true from hs) Bool.false_ne_true
  | _ => cases y <;> exact absurd (show false = true from hs) Bool.false_ne_true
theorem op_ne : OpR X (compareOp .NotEq) rNe := by
  intro pins s σ H x y v u Q I rx ry h
  obtain ⟨hs, q⟩ := h
  cases x with
  | non =>
    cases rx
    cases y with
    | non => cases ry; exact PySem.EqNone.ne_none_none (fin_bl I q (by simp))
    | bl j => cases ry; exact PySem.EqNone.ne_none_bool (fin_bl I q (by simp))
    | int j => obtain ⟨t', rfl⟩ := ry; exact PySem.EqNone.ne_none_int (fin_bl I q (by simp))
    | str j => obtain ⟨t', rfl⟩ := ry; exact PySem.EqNone.ne_none_str (fin_bl I q (by simp))
    | _ => exact absurd (show false = true from hs) Bool.false_ne_true
  | bl i =>
    cases rx
    cases y with
    | non => cases ry; exact PySem.EqNone.ne_bool_none (fin_bl I q (by simp))
    | bl j => cases ry; exact ne_bool (fin_bl I q (congrArg not dec_bl))
    | str j => obtain ⟨t', rfl⟩ := ry; exact PySem.EqMixed.ne_bool_str (fin_bl I q (by simp))
    | _ => exact absurd (show false = true from hs) Bool.false_ne_true
  | int i =>
    obtain ⟨t, rfl⟩ := rx
    cases y with
    | non => cases ry; exact PySem.EqNone.ne_int_none (fin_bl I q (by simp))
    | int j => obtain ⟨t', rfl⟩ := ry; exact ne_int (fin_bl I q (congrArg not dec_int))
    | str j => obtain ⟨t', rfl⟩ := ry; exact PySem.EqMixed.ne_int_str (fin_bl I q (by simp))
    | _ => exact absurd (show false = true from hs) Bool.false_ne_true
  | str i =>
    obtain ⟨t, rfl⟩ := rx
    cases y with
    | non => cases ry; exact PySem.EqNone.ne_str_none (fin_bl I q (by simp))
    | bl j => cases ry; exact PySem.EqMixed.ne_str_bool (fin_bl I q (by simp))
    | int j => obtain ⟨t', rfl⟩ := ry; exact PySem.EqMixed.ne_str_int (fin_bl I q (by simp))
    | str j => obtain ⟨t', rfl⟩ := ry; exact ne_str (fin_bl I q (congrArg not dec_str))
    | _ => exact absurd (show false = true from hs) Bool.false_ne_true
  | byt i =>
    obtain ⟨t, rfl⟩ := rx
    cases y with
    | byt j => obtain ⟨t', rfl⟩ := ry; exact PySem.W.ne_bytes (fin_bl I q (congrArg not dec_byt))
    | _ => exact absurd (show false = true from hs) Bool.false_ne_true
  | _ => cases y <;> exact absurd (show false = true from hs) Bool.false_ne_true

theorem op_lt : OpR X (compareOp .Lt) (rI0 fun i j => .bl (decide (i < j))) := opB0 fun _ _ _ _ _ _ _ q => lt_int q
theorem op_le : OpR X (compareOp .LtE) (rI0 fun i j => .bl (decide (i ≤ j))) := opB0 fun _ _ _ _ _ _ _ q => le_int q
theorem op_gt : OpR X (compareOp .Gt) (rI0 fun i j => .bl (decide (j < i))) := opB0 fun _ _ _ _ _ _ _ q => gt_int q
/-- is None, is not None: the right side a value none -/
theorem op_isN : OpR X (compareOp .Is) (fun x y H Q => y = .non ∧ Q (.bl (decide (x = .non))) H) := by
  intro pins s σ H x y v u Q I rx ry h
  obtain ⟨rfl, q⟩ := h
  cases ry
  refine is_none_gen (fin_bl I q ?_)
  cases x <;> first
    | (cases rx; rfl)
    | (obtain ⟨t, rfl⟩ := rx; rfl)
theorem op_notN : OpR X (compareOp .IsNot) (fun x y H Q => y = .non ∧ Q (.bl (!decide (x = .non))) H) := by
  intro pins s σ H x y v u Q I rx ry h
  obtain ⟨rfl, q⟩ := h
  cases ry
  refine isnot_none_gen (fin_bl I q ?_)
  cases x <;> first
    | (cases rx; rfl)
    | (obtain ⟨t, rfl⟩ := rx; rfl)

/-- is, is not of two objects that are tracked lists or instances -/
def isObj : HO → Bool
  | .lst _ => true
  | .ins _ _ _ => true
  | _ => false
/-- two rules for one operation: by cases -/
theorem OpR.or {f : Value → Value → Sem Value} {r r' : R2} (h : OpR X f r) (h' : OpR X f r') : OpR X f (fun x y H Q => r x y H Q ∨ r' x y H Q) := by
  intro pins s σ H x y v u Q I rx ry q
  rcases q with q | q
  · exact h pins s σ H x y v u Q I rx ry q
  · exact h' pins s σ H x y v u Q I rx ry q

theorem nomark (b : Expr) {op : CmpOp} (h : op ≠ .In := by decide) (h2 : op ≠ .NotIn := by decide) : behindInMarks op b = false := by
  have e1 : (op == CmpOp.In) = false := by cases op <;> first | rfl | exact absurd rfl h
  have e2 : (op == CmpOp.NotIn) = false := by cases op <;> first | rfl | exact absurd rfl h2
  cases b <;> simp [behindInMarks, e1, e2]
/-- a comparison as a value; hm: nomark b, or (for in, not in) by with_unfolding_all rfl -/
theorem pe_cmpR {op : CmpOp} {r : R2} (ho : OpR X (compareOp op) r) (ha : PE X a ta) (hb : PE X b tb) (hm : behindInMarks op b = false) : PE X (.Compare a [op] [b] pos) (tOp r ta tb) := by
  intro pins s σ H Q I h
  exact wpAny_Compare1 (binT ha hb I h fun v u s2 x y H2 I2 rx ry q => ho pins s2 σ H2 x y v u Q I2 rx ry q) hm
/-- a reading of a value as a test -/
def tTest (t : TE) : TT := fun σ H Q => t σ H fun x H' => ∃ k, x = .bl k ∧ Q k H'
theorem pt_cmpR {op : CmpOp} {r : R2} (ho : OpR X (compareOp op) r) (ha : PE X a ta) (hb : PE X b tb) (hm : behindInMarks op b = false) : PT X (.Compare a [op] [b] pos) (tTest (tOp r ta tb)) := by
  intro pins s σ H Q I h
  refine wpAny_isTrue_Compare1 (thn (ha pins s σ H _ I h) fun v s1 ⟨x, H1, I1, r1, q1⟩ => thn (hb pins s1 σ H1 _ I1 q1) fun u s2 ⟨y, H2, I2, r2, q2⟩ =>
    thn (ho pins s2 σ H2 x y v u _ I2 r1 r2 q2) fun c s3 ⟨z, H3, I3, r3, k, e, q3⟩ => ?_) hm
  subst e
  cases r3
  exact wpAny_truthy_bool ⟨H3, I3, q3⟩
/-- a op1 b op2 c -/
def tChain (r r' : R2) (ta tb tc : TE) : TE := fun σ H Q => ta σ H fun x H1 => tb σ H1 fun y H2 => r x y H2 fun z H3 => ∃ k, z = .bl k ∧
  (if k = true then tc σ H3 fun w' H4 => r' y w' H4 Q else Q (.bl false) H3)
theorem pe_chain {op op' : CmpOp} {r r' : R2} (ho : OpR X (compareOp op) r) (ho' : OpR X (compareOp op') r') (ha : PE X a ta) (hb : PE X b tb) (hc : PE X c tc)
    (hm : lastMarks [op, op'] [b, c] = false := by with_unfolding_all rfl) : PE X (.Compare a [op, op'] [b, c] pos) (tChain r r' ta tb tc) := by
  intro pins s σ H Q I h
  refine Compare_chain (thn (ha pins s σ H _ I h) fun v s1 ⟨x, H1, I1, r1, q1⟩ => chain_link (thn (hb pins s1 σ H1 _ I1 q1) fun u s2 ⟨y, H2, I2, r2, q2⟩ =>
    thn (ho pins s2 σ H2 x y v u _ I2 r1 r2 q2) fun d s3 ⟨z, H3, I3, r3, k, e, q3⟩ => ?_)) hm
  subst e
  cases r3
  refine wpAny_truthy_bool ?_
  cases k with
  | false => exact ite_ff ⟨.bl false, H3, I3, rfl, q3⟩
  | true => exact ite_tt (chain_last (thn (hc pins s3 σ H3 _ I3 q3) fun w' s4 ⟨z', H4, I4, r4, q4⟩ => ho' pins s4 σ H4 y z' u w' Q I4 r2 r4 q4))
/-! ### truth -/
/-- a value's truth by the abstract heap -/
def TruV (K : PySem.W.Frag) (x : V) (H : Hp) (k : Bool) : Prop :=
  match x with
  | .non => k = false
  | .bl b => k = b
  | .int i => k = (i != 0)
  | .str y => y.length ≤ sizeLine ∧ k = ((y.length : Int) != 0)
  | .byt y => y.size ≤ sizeLine ∧ k = ((y.size : Int) != 0)
  | .ref p => (∃ xs, SqL K H p xs ∧ k = !xs.isEmpty) ∨ (∃ xs, SqT K H p xs ∧ k = !xs.isEmpty) ∨ ∃ kvs, H p = some (.dK kvs) ∧ k = !kvs.isEmpty
  | _ => False
theorem line63 : (sizeLine : Nat) < 2 ^ 63 := by rw [sizeLine_eq]; decide
/-! ### strs and bytes -/
def PlainIxT (b : Expr) : Prop := ∀ o i, subscripted b false o i = operate [o, i] (getItem o i)
/-! ### scalar builtins, by CallR -/
theorem vals1 {x : V} {us : List Value} (r : Vals [x] us) : ∃ u, us = [u] ∧ RelV x u := by
  cases r with
  | cons r1 r2 => cases r2; exact ⟨_, rfl, r1⟩
theorem vals2 {x y : V} {us : List Value} (r : Vals [x, y] us) : ∃ u w', us = [u, w'] ∧ RelV x u ∧ RelV y w' := by
  cases r with
  | cons r1 r2 =>
    cases r2 with
    | cons r3 r4 => cases r4; exact ⟨_, _, rfl, r1, r3⟩
theorem call_max2 (hc : X.calm = true) : CallR X (.builtin "max") (fun xs H Q => ∃ i j, xs = [.int i, .int j] ∧ Q (.int (if j > i then j else i)) H) := by
  intro pins s σ H xs us Q I r h
  obtain ⟨i, j, rfl, q⟩ := h
  obtain ⟨u, w', rfl, ⟨t, rfl⟩, ⟨t', rfl⟩⟩ := vals2 r
  refine max_two_ints (I.ok.hd hc) fun h' tk k => ⟨_, H, I.kept k, ?_, q⟩
  by_cases hj : j > i
  · rw [if_pos hj, if_pos hj]; exact ⟨_, rfl⟩
  · rw [if_neg hj, if_neg hj]; exact ⟨_, rfl⟩
theorem call_min2 (hc : X.calm = true) : CallR X (.builtin "min") (fun xs H Q => ∃ i j, xs = [.int i, .int j] ∧ Q (.int (if j < i then j else i)) H) := by
  intro pins s σ H xs us Q I r h
  obtain ⟨i, j, rfl, q⟩ := h
  obtain ⟨u, w', rfl, ⟨t, rfl⟩, ⟨t', rfl⟩⟩ := vals2 r
  refine min_two_ints (I.ok.hd hc) fun h' tk k => ⟨_, H, I.kept k, ?_, q⟩
  by_cases hj : j < i
  · rw [if_pos hj, if_pos hj]; exact ⟨_, rfl⟩
  · rw [if_neg hj, if_neg hj]; exact ⟨_, rfl⟩
theorem call_int1 : CallR X (.type "int") (fun xs H Q => (∃ i, xs = [.int i] ∧ Q (.int i) H) ∨ ∃ k, xs = [.bl k] ∧ Q (.int (if k then 1 else 0)) H) := by
  intro pins s σ H xs us Q I r h
  rcases h with ⟨i, rfl, q⟩ | ⟨k, rfl, q⟩
  · obtain ⟨u, rfl, t, rfl⟩ := vals1 r
    exact call_int_int ⟨.int i, H, I, ⟨_, rfl⟩, q⟩
  · obtain ⟨u, rfl, r1⟩ := vals1 r
    cases r1
    exact call_int_bool ⟨.int (if k then 1 else 0), H, I.tok _, ⟨_, rfl⟩, q⟩
/-- len of a str, a bytes, a list, a tuple -/
def LenV (K : PySem.W.Frag) (x : V) (H : Hp) (n : Nat) : Prop :=
  match x with
  | .str y => y.length ≤ sizeLine ∧ n = y.length
  | .byt y => y.size ≤ sizeLine ∧ n = y.size
  | .ref p => (∃ xs, SqL K H p xs ∧ n = xs.length) ∨ ∃ xs, SqT K H p xs ∧ n = xs.length
  | _ => False
end
end L2

namespace L2
open PySem PySem.Spec PyProof.Rows

/-! ### an instance, its attributes a map -/
structure ObjM (h : Heap) (x dx C : Addr) (mA : Str → Option Value) : Prop where
  obj : h.get? x = some (PySem.W.instObj C dx)
  ns : h.Ns1 dx mA
  ne : dx ≠ x

section
variable {prog : Program} {w : World} {A : Around} {E : Value → Shared → Prop} {s : Shared} {K : PySem.W.Frag} {x dx C f : Addr} {mA : Str → Option Value} {name : Str} {v : Value}

end

/-! ### the attributes as a list of pairs -/
def putF (f : Str) (v : V) : List (Str × V) → List (Str × V)
  | [] => [(f, v)]
  | (g, x) :: r => if g = f then (g, v) :: r else (g, x) :: putF f v r
section
variable {P : Program} {w : World} {H H' : Hp} {h h' : Heap} {a C dx : Addr} {fs fs' : List (Str × V)}
end

/-! ### what of the text a class must have -/
structure Cls (K : PySem.W.Frag) (C : Addr) : Prop where
  pg : PySem.W.plainGet K C Str.empty = true
  hd : PySem.W.hasDictIn K C = true
  po : PySem.W.plainOver K C = true
  sa : PySem.W.findIn K (.ref C) "__setattr__" = some (some (.builtin "object.__setattr__"))
theorem Cls.get {K : PySem.W.Frag} {C : Addr} (c : Cls K C) (f : Str) : PySem.W.plainGet K C f = true := c.pg
/-- no class of it has the name -/
def NoAttr (K : PySem.W.Frag) (C : Addr) (f : Str) : Prop := PySem.W.findIn K (.ref C) f = some none
/-- a constant of the class -/
structure Con (K : PySem.W.Frag) (C : Addr) (f : Str) (v : V) (u : Value) : Prop where
  at_ : PySem.W.findIn K (.ref C) f = some (some u)
  rel : RelV v u
  get : PySem.W.specialIn K u "__get__" = some none
  cp : PySem.W.copiedNames.contains f = false
/-- a method: a plain def of the class or of one above it -/
structure Meth (K : PySem.W.Frag) (C : Addr) (m : Str) (f : Addr) : Prop where
  at_ : PySem.W.findIn K (.ref C) m = some (some (.ref f))
  fn : PySem.W.isFn K (.ref f) = true
  kp : PySem.W.keepIn K (.ref f) = true

section
variable {X : Cx} {pins : List (Addr × Obj)} {σ : St} {H : Hp} {s : Shared} {a C dx : Addr} {fs : List (Str × V)} {f : Str} {v : V} {A : Around} {E : Value → Shared → Prop}

/-- a new instance, tracked, without attributes -/
theorem Inv.made (I : Inv X pins σ H s) : Inv X pins σ (upd (upd H s.heap.objs.size (.own (s.heap.objs.size + 1))) (s.heap.objs.size + 1) (.ins C s.heap.objs.size []))
    { s with heap := (s.heap.push PySem.W.emptyDict).push (PySem.W.instObj C s.heap.objs.size) } := by
  have e1 : (s.heap.push PySem.W.emptyDict).get? s.heap.objs.size = some PySem.W.emptyDict := Heap.get?_push_size s.heap rfl
  have e2 : ((s.heap.push PySem.W.emptyDict).push (PySem.W.instObj C s.heap.objs.size)).get? (s.heap.objs.size + 1) = some (PySem.W.instObj C s.heap.objs.size) := by
    have := Heap.get?_push_size (s.heap.push PySem.W.emptyDict) (o := PySem.W.instObj C s.heap.objs.size) rfl
    rwa [Heap.size_push] at this
  have e3 : (s.heap.push PySem.W.emptyDict).Ns s.heap.objs.size (fun _ => none) := ⟨PySem.W.emptyDict, #[], _, e1, rfl, (fun e he => absurd he (by simp)), fun _ => rfl⟩
  have I1 := I.laid (a := s.heap.objs.size) (o := .own (s.heap.objs.size + 1)) (h' := s.heap.push PySem.W.emptyDict) (t' := s.toks) (fun b u q => Heap.get?_push_of_some _ q) (Nat.le_refl _) ⟨_, e1⟩
  refine I1.laid (a := s.heap.objs.size + 1) (o := .ins C s.heap.objs.size []) (t' := s.toks) (fun b u q => Heap.get?_push_of_some _ q) (Nat.le_of_eq (Heap.size_push _ _)) ?_
  have ne : s.heap.objs.size ≠ s.heap.objs.size + 1 := Nat.ne_of_lt (Nat.lt_succ_self _)
  refine ⟨by rw [upd_ne ne, upd_same], Nat.zero_le _, ne, e2, fun _ => none, (Heap.Ns1.of_empty e3).at fun o q => Heap.get?_push_of_some _ q, fun _ => True.intro, fun y hy => absurd rfl hy⟩

end

/-! ### readings and rules -/
/-- e.f, an attribute of the instance -/
def tFld (K : PySem.W.Frag) (ta : TE) (f : Str) : TE := fun σ H Q => ta σ H fun x H1 => ∃ a C dx fs v, x = .ref a ∧ H1 a = some (.ins C dx fs) ∧ Cls K C ∧ NoAttr K C f ∧ fs.lookup f = some v ∧ Q v H1
/-- e.f, a constant of the class -/
def tCon (K : PySem.W.Frag) (ta : TE) (f : Str) : TE := fun σ H Q => ta σ H fun x H1 => ∃ a C dx fs v u, x = .ref a ∧ H1 a = some (.ins C dx fs) ∧ Cls K C ∧ Con K C f v u ∧ fs.lookup f = none ∧ Q v H1
/-- e.f = value -/
def sFld (K : PySem.W.Frag) (ta tv : TE) (f : Str) : TS := fun D σ H => tv σ H fun y H1 => ta σ H1 fun x H2 => ∃ a C dx fs, x = .ref a ∧ H2 a = some (.ins C dx fs) ∧ Cls K C ∧ NoAttr K C f ∧ fs.length < 1000 ∧
  D.nx σ (upd H2 a (.ins C dx (putF f y fs)))
/-- an augmented operator on two values -/
def InOp (X : Cx) (op : Operator) (rd : V → V → Hp → VK → Prop) : Prop :=
  ∀ (pins : List (Addr × Obj)) (s : Shared) (σ : St) (H : Hp) (x y : V) (u v : Value) (Q : VK), Inv X pins σ H s → RelV x u → RelV y v → rd x y H Q → wpAny (model X.prog X.w) X.A (inplaceOp op u v) (EP X pins σ Q) X.xe s
/-- e.f op= value -/
def sFldAug (K : PySem.W.Frag) (ta tv : TE) (rd : V → V → Hp → VK → Prop) (f : Str) : TS := fun D σ H => ta σ H fun x H1 => ∃ a C dx fs v, x = .ref a ∧ H1 a = some (.ins C dx fs) ∧ Cls K C ∧ NoAttr K C f ∧ fs.lookup f = some v ∧
  tv σ H1 fun y H2 => rd v y H2 fun z H3 => ∃ dx' fs', H3 a = some (.ins C dx' fs') ∧ fs'.length < 1000 ∧ D.nx σ (upd H3 a (.ins C dx' (putF f z fs')))

section
variable {X : Cx} {o e value : Expr} {f : Str} {pos pos' tpos : Pos} {ta tv : TE}
def rAdd : V → V → Hp → VK → Prop := fun x y H Q => ∃ i j, x = .int i ∧ y = .int j ∧ Q (.int (i + j)) H
def rSub : V → V → Hp → VK → Prop := fun x y H Q => ∃ i j, x = .int i ∧ y = .int j ∧ Q (.int (i - j)) H
end

/-! ### isinstance -/
section
variable {X : Cx} {pins : List (Addr × Obj)} {σ : St} {H : Hp} {s : Shared} {A : Around} {E : Value → Shared → Prop} {Q : Value → Shared → Prop} {c : Value} {b : Bool}
/-- the type of a value, as the fragment's deciders take it; for an instance its class -/
inductive TyOf (K : PySem.W.Frag) (H : Hp) : V → Value → Prop where
  | non : TyOf K H .non (.type "NoneType")
  | bl (x : Bool) : TyOf K H (.bl x) (.type "bool")
  | int (i : Int) : TyOf K H (.int i) (.type "int")
  | str (x : Str) : TyOf K H (.str x) (.type "str")
  | flt (x : UInt64) : TyOf K H (.flt x) (.type "float")
  | lst {a : Addr} {xs : List V} (e : H a = some (.lst xs)) : TyOf K H (.ref a) (.type "list")
  | frz {a : Addr} {o : Obj} {xs : List V} (e : H a = some (.frz o (.lst xs))) : TyOf K H (.ref a) (.type "list")
  | tup {a : Addr} {xs : List V} (e : H a = some (.tup xs)) : TyOf K H (.ref a) (.type "tuple")
  | dK {a : Addr} {kvs : List (Key × V)} (e : H a = some (.dK kvs)) : TyOf K H (.ref a) (.type "dict")
  | dT {a : Addr} {kvs : List (List Key × V)} (e : H a = some (.dT kvs)) : TyOf K H (.ref a) (.type "dict")
  | ins {a C dx : Addr} {fs : List (Str × V)} (e : H a = some (.ins C dx fs)) (cl : Cls K C) (ha : PySem.W.findIn K (.ref C) "__class__" = some (some (.builtin "object.__class__")))
      (hn : PySem.W.specialIn K (.builtin "object.__class__") "__get__" = some (some (.builtin "getset_descriptor.__get__"))) (htk : PySem.W.takesIn K (.builtin "object.__class__") = some true)
      (hm : PySem.W.mroIn K C (.type "object") = some true) : TyOf K H (.ref a) (.ref C)
end
end L2

namespace L2
open PySem PySem.Spec PyProof.Rows

/-! ### room -/
structure Room (k : Nat) (A : Around) : Prop where
  hd : A.handled = none
  dp : A.depth + 3 * k + 5 < recursionLimit
  un : A.units + 16 * k + 200 < cLine
theorem Room.mono {j k : Nat} {A : Around} (r : Room k A) (h : j ≤ k) : Room j A := ⟨r.hd, by have := r.dp; omega, by have := r.un; omega⟩
theorem Room.deeper {k : Nat} {A : Around} (r : Room (k + 1) A) (env : Env) : Room k (A.deeper env) :=
  ⟨r.hd, by have := r.dp; show A.depth + 1 + 3 * k + 5 < _; omega, by have := r.un; show A.units + 3 + 16 * k + 200 < _; omega⟩
theorem Room.in1 {k : Nat} {A : Around} (r : Room (k + 1) A) : Room k A.in1 :=
  ⟨r.hd, by have := r.dp; show A.depth + 3 * k + 5 < _; omega, by have := r.un; show A.units + 1 + 16 * k + 200 < _; omega⟩
theorem Room.depth {k : Nat} {A : Around} (r : Room k A) : A.depth < recursionLimit := by have := r.dp; omega
theorem Room.units {k : Nat} {A : Around} (r : Room k A) : A.units + 64 < cLine := by have := r.un; omega
/-! ### argument lists and displays -/
def tNil : TA := fun _ H Q => Q [] H
def tCons (ta : TE) (tr : TA) : TA := fun σ H Q => ta σ H fun x H1 => tr σ H1 fun xs H2 => Q (x :: xs) H2
section
variable {X : Cx} {e : Expr} {es : List Expr} {te : TE} {t : TA} {pos : Pos}
theorem pa_nil : PA X [] tNil := fun _ _ _ _ H Q I h => Calls.spliced_nil ⟨[], H, I, .nil, h⟩
theorem pa_cons (ha : PE X e te) (hr : PA X es t) (hs : starEach (e :: es) X.env = (false, eval e X.env) :: starEach es X.env := by rfl) : PA X (e :: es) (tCons te t) := by
  intro pos pins s σ H Q I h
  rw [hs]
  show wpAny _ _ (spliced ((false, eval e X.env) :: backTo pos (starEach es X.env))) _ _ s
  refine Calls.spliced_cons (thn (ha pins s σ H _ I h) fun u s1 ⟨x, H1, I1, r1, q1⟩ => ?_)
  exact thn (hr pos pins s1 σ H1 _ I1 q1) fun us s2 ⟨xs, H2, I2, r2, q2⟩ => ⟨x :: xs, H2, I2, .cons r1 r2, q2⟩

/-- a tuple, a list of written items -/
def tTup (t : TA) : TE := fun σ H Q => t σ H fun xs H1 => xs.length ≤ sizeLine ∧ ∀ p, H1 p = none → Q (.ref p) (upd H1 p (.tup xs))
def tLst (t : TA) : TE := fun σ H Q => t σ H fun xs H1 => xs.length ≤ sizeLine ∧ ∀ p, H1 p = none → Q (.ref p) (upd H1 p (.lst xs))
theorem pe_tup {x1} (h : PA X es t) : PE X (.Tuple es x1 pos) (tTup t) := by
  intro pins s σ H Q I hq
  refine wpAny_Tuple_spliced (thn (h pos pins s σ H _ I hq) fun us s1 ⟨xs, H1, I1, r, z, q⟩ => ⟨by rw [← r.length]; exact z, ?_⟩)
  have hf : H1 s1.heap.objs.size = none := I1.hok.fresh (Nat.le_refl _)
  refine ⟨.ref s1.heap.objs.size, upd H1 s1.heap.objs.size (.tup xs), I1.laid (t' := s1.toks) (fun b u e => Heap.get?_push_of_some _ e) (Nat.le_refl _) ?_, rfl, q _ hf⟩
  exact ⟨z, us, r, ⟨_, Heap.get?_push_size _ rfl, rfl, _, rfl⟩⟩
theorem pe_lst (h : PA X es t) : PE X (.List es pos) (tLst t) := by
  intro pins s σ H Q I hq
  refine wpAny_List_spliced (thn (h pos pins s σ H _ I hq) fun us s1 ⟨xs, H1, I1, r, z, q⟩ => ⟨by rw [← r.length]; exact z, ?_⟩)
  have hf : H1 s1.heap.objs.size = none := I1.hok.fresh (Nat.le_refl _)
  refine ⟨.ref s1.heap.objs.size, upd H1 s1.heap.objs.size (.lst xs), I1.laid (t' := s1.toks) (fun b u e => Heap.get?_push_of_some _ e) (Nat.le_refl _) ?_, rfl, q _ hf⟩
  exact ⟨z, us, 0, r, Heap.get?_push_size _ rfl⟩
end

/-! ### what a def promises -/
/-- a def's promise: the bound arguments in the parameters' order, the heap, the wanted end, the wanted exception -/
abbrev Sp := List V → Hp → VK → XK → Prop
/-- how an exception lies behind a call (file 08 gives it): the callers' frames, abstract heap and state ahead of the call, the wish, the exception, the state -/
abbrev CXT := List Env → Hp → Shared → XK → Value → Shared → Prop

/-- the state at a call -/
structure Env0 (P : Program) (w : World) (K : PySem.W.Frag) (mg : Str → Option Value) (base : Heap) (A : Around) (outer : List Env) (s : Shared) (H : Hp) : Prop where
  frames : A.frames = some outer
  mod : Mod K mg base
  bs : ∀ b o, base.get? b = some o → s.heap.get? b = some o ∧ H b = none
  bsz : base.objs.size ≤ s.heap.objs.size
  funs : s.heap.FunFrames base outer
  frf : ∀ b ∈ frs outer, H b = none
  hok : HOk P w H s.heap
  bare : AllBare s.gens
/-- a call's end -/
def CE (outer : List Env) (P : Program) (w : World) (H : Hp) (s : Shared) (Q : VK) (u : Value) (s' : Shared) : Prop :=
  ∃ v H', s'.os = s.os ∧ AllBare s'.gens ∧ Un (frs outer) [] H H' s.heap s'.heap ∧ HOk P w H' s'.heap ∧ RelV v u ∧ Q v H'
def CR (CX : CXT) (outer : List Env) (P : Program) (w : World) (H : Hp) (s : Shared) (Q : VK) (E : XK) (r : Result) (s' : Shared) : Prop :=
  match r with
  | .ok (.ret u) => CE outer P w H s Q u s'
  | .ok _ => False
  | .error e => CX outer H s E e s'
structure FnOk (P : Program) (w : World) (K : PySem.W.Frag) (mg : Str → Option Value) (base : Heap) (CX : CXT) (k : Nat) (f : Addr) (fd : FuncData) (ps : List Str) (sp : Sp) : Prop where
  len : ∀ vs H Q E, sp vs H Q E → vs.length = ps.length
  run : ∀ (A : Around) (outer : List Env) (s : Shared) (H : Hp) (args : Args) (us : List Value) (vs : List V) (Q : VK) (E : XK), Room k A → Env0 P w K mg base A outer s H → BindsTo s fd args (ps.zip us) → Vals vs us → sp vs H Q E →
    codeAny (model P w) A (.call (.ref f) args) (CR CX outer P w H s Q E) s
theorem FnOk.mono {P : Program} {w : World} {K : PySem.W.Frag} {mg : Str → Option Value} {base : Heap} {CX : CXT} {j k : Nat} {f : Addr} {fd : FuncData} {ps : List Str} {sp : Sp} (F : FnOk P w K mg base CX j f fd ps sp) (h : j ≤ k) :
    FnOk P w K mg base CX k f fd ps sp := ⟨F.len, fun A outer s H args us vs Q E hr => F.run A outer s H args us vs Q E (hr.mono h)⟩
theorem Env0.in1 {P : Program} {w : World} {K : PySem.W.Frag} {mg : Str → Option Value} {base : Heap} {A : Around} {outer : List Env} {s : Shared} {H : Hp} (e : Env0 P w K mg base A outer s H) :
    Env0 P w K mg base A.in1 outer s H := ⟨e.frames, e.mod, e.bs, e.bsz, e.funs, e.frf, e.hok, e.bare⟩

section
variable {X : Cx} {pins : List (Addr × Obj)} {σ : St} {H : Hp} {s s' : Shared}
/-- from a body: what a callee wants -/
theorem Inv.env0 (I : Inv X pins σ H s) : Env0 X.prog X.w X.K X.mg X.base X.A X.stack s H :=
  ⟨I.ok.frames, I.ok.mod, I.bs, Nat.le_trans I.ok.bsz I.sz, I.stack, I.stkFree, I.hok, I.bare⟩
/-- behind a call -/
theorem Inv.after {Q : VK} {u : Value} (I : Inv X pins σ H s) (h : CE X.stack X.prog X.w H s Q u s') : EP X pins σ Q u s' := by
  obtain ⟨v, H', os, bare, un, hok, r, q⟩ := h
  obtain ⟨hh, g, d, t, os'⟩ := s'
  obtain rfl : os' = s.os := os
  exact ⟨v, H', I.call (h' := hh) (g' := g) (d' := d) (t' := t) (ch := []) un hok bare (fun b z => absurd z (by simp)), r, q⟩
end

/-! ### calls -/
/-- f(..): the written arguments, then the defaults dvs; E: what is wanted of an exception -/
def tCall (sp : Sp) (dvs : List V) (E : XK) (t : TA) : TE := fun σ H Q => t σ H fun vs H1 => sp (vs ++ dvs) H1 Q E
/-- o.m(..) of an instance of the class at C -/
def tMeth (C : Addr) (m : Str) (sp : Sp) (dvs : List V) (E : XK) (ta : TE) (t : TA) : TE := fun σ H Q => ta σ H fun x H1 => ∃ a dx fs, x = .ref a ∧ H1 a = some (.ins C dx fs) ∧ fs.lookup m = none ∧
  t σ H1 fun vs H2 => sp (x :: (vs ++ dvs)) H2 Q E
/-- C(..): a new instance and its dict, then __init__ -/
def tMake (C : Addr) (sp : Sp) (dvs : List V) (E : XK) (t : TA) : TE := fun σ H Q => t σ H fun vs H1 => ∀ x dx, H1 x = none → H1 dx = none → dx ≠ x →
  sp (.ref x :: (vs ++ dvs)) (upd (upd H1 dx (.own x)) x (.ins C dx [])) (fun v H2 => v = .non ∧ Q (.ref x) H2) E

/-- how the parameters are bound: us the positional arguments, kw the keywords' values by name, ds the defaults that fill up -/
def Binds (K : PySem.W.Frag) (fd : FuncData) (ps : List Str) (ds : List Value) : Prop :=
  ∀ (s : Shared) (us : List Value), K.In s.heap → (us ++ ds).length = ps.length → BindsTo s fd ⟨us, []⟩ (ps.zip (us ++ ds))
/-- every parameter is given -/
theorem Binds.all {K : PySem.W.Frag} {fd : FuncData} {ps : List Str} (h : ∀ us : List Value, us.length = ps.length → bindArgs fd ⟨us, []⟩ = pure (ps.zip us)) : Binds K fd ps [] := fun s us _ hl => by
  rw [List.append_nil] at hl ⊢
  exact .of_eq (h us hl)

/-- an exception of a callee reaches what this body wants of exceptions -/
def Passes (CX : CXT) (X : Cx) (E : XK) : Prop := ∀ (pins : List (Addr × Obj)) (σ : St) (H : Hp) (s : Shared) (e : Value) (s' : Shared), Inv X pins σ H s → CX X.stack H s E e s' → X.xe e s'

section
variable {X : Cx} {CX : CXT} {k : Nat} {f C : Addr} {fd : FuncData} {ps : List Str} {sp : Sp} {dvs : List V} {ds : List Value} {E : XK} {x m : Str} {p pos apos : Pos} {e o : Expr} {es : List Expr} {ta : TE} {t : TA}

/-- the callee runs -/
theorem run_fn {pins : List (Addr × Obj)} {σ : St} {H : Hp} {s : Shared} {Q : VK} {us : List Value} {vs : List V} (F : FnOk X.prog X.w X.K X.mg X.base CX k f fd ps sp) (hr : Room k X.A) (hb : Binds X.K fd ps ds) (hd : Vals dvs ds) (hx : Passes CX X E)
    (I : Inv X pins σ H s) (r : Vals vs us) (h : sp (vs ++ dvs) H Q E) : wpAny (model X.prog X.w) X.A (call (.ref f) us) (EP X pins σ Q) X.xe s := by
  have r2 : Vals (vs ++ dvs) (us ++ ds) := r.append hd
  have hl : (us ++ ds).length = ps.length := by rw [← r2.length]; exact F.len _ _ _ _ h
  refine wpAny_call (codeAny_mono (F.run X.A X.stack s H ⟨us, []⟩ (us ++ ds) (vs ++ dvs) Q E hr I.env0 (hb s us I.kIn hl) r2 h) fun r s' hq => ?_)
  cases r with
  | error e => exact hx pins σ H s e s' I hq
  | ok fl =>
    cases fl with
    | ret u => exact I.after hq
    | next => exact False.elim hq
    | brk => exact False.elim hq
    | cont => exact False.elim hq

theorem pe_call (F : FnOk X.prog X.w X.K X.mg X.base CX k f fd ps sp) (hr : Room k X.A) (hg : Gl X x) (hm : X.mg x = some (.ref f)) (hk : PySem.W.keepIn X.K (.ref f) = true) (hb : Binds X.K fd ps ds) (hd : Vals dvs ds) (hx : Passes CX X E)
    (ha : PA X (e :: es) t) (hdb : (x == ("__debug__" : Str)) = false := by decide) (he : starEach (e :: es) X.env = (false, eval e X.env) :: starEach es X.env := by rfl) (hpl : (backTo pos (starEach es X.env)).any (·.1) = false := by rfl) :
    PE X (.Call (.Name x p) (e :: es) [] pos) (tCall sp dvs E t) := by
  intro pins s σ H Q I h
  refine wpAny_Call_Name_kw (ld_glob I hg hm ?_ hdb)
  refine PySem.W.callWith_K (h₀ := X.base) I.ok.mod.kin hk (thn (ha pos pins s σ H _ I h) fun us s1 ⟨vs, H1, I1, r, q⟩ => ⟨I1.kIn, ?_⟩) he hpl
  exact run_fn F hr hb hd hx I1 r q
/-- what a class must have to be made -/
structure Mk (K : PySem.W.Frag) (C f : Addr) : Prop where
  makes : PySem.W.makesIn K C = true
  init : PySem.W.findIn K (.ref C) "__init__" = some (some (.ref f))
  fn : PySem.W.isFn K (.ref f) = true
  kp : PySem.W.keepIn K (.ref C) = true

end

/-! ### keywords -/
/-- the values of the keywords, from the left -/
def PK (X : Cx) (kws : List Keyword) (t : TA) : Prop :=
  ∀ (pos : Pos) (pins : List (Addr × Obj)) (s : Shared) (σ : St) (H : Hp) (Q : List V → Hp → Prop), Inv X pins σ H s → t σ H Q → wpAny (model X.prog X.w) X.A (evalAll ((backToKw pos (keywordEach kws X.env)).map (·.2))) (AP X pins σ Q) X.xe s
section
variable {X : Cx} {CX : CXT} {k : Nat} {f C : Addr} {fd : FuncData} {ps ks : List Str} {sp : Sp} {E : XK} {x m : Str} {p pos apos kpos : Pos} {e o : Expr} {es : List Expr} {kws : List Keyword} {te ta : TE} {t tk : TA} {nm : Option Str}
/-- how a call with keywords binds: g puts the positional values us and the keywords' values ws (names ks) in the parameters' order, defaults among them -/
structure KBinds (K : PySem.W.Frag) (fd : FuncData) (ps ks : List Str) (g : List Value → List Value → List Value) (gV : List V → List V → List V) : Prop where
  to : ∀ (s : Shared) (us ws : List Value), K.In s.heap → (g us ws).length = ps.length → BindsTo s fd ⟨us, ks.zip ws⟩ (ps.zip (g us ws))
  rel : ∀ {vs : List V} {us : List Value} {zs : List V} {ws : List Value}, Vals vs us → Vals zs ws → Vals (gV vs zs) (g us ws)
def tCallK (sp : Sp) (gV : List V → List V → List V) (E : XK) (t tk : TA) : TE := fun σ H Q => t σ H fun vs H1 => tk σ H1 fun zs H2 => sp (gV vs zs) H2 Q E
variable {g : List Value → List Value → List Value} {gV : List V → List V → List V}
end

/-! ### a def's body keeps its promise -/
/-- names: the parameters first -/
structure FnScope (N P : List Str) (sc : Scope) : Prop where
  kind : sc.kind = .function
  co : sc.isCoroutine = false
  gen : sc.isGenerator = false
  nd : N.Nodup
  pre : N.take P.length = P
  par : ∀ x ∈ P, sc.names.lookup x = some .local ∨ sc.names.lookup x = some .cell
  nofree : ∀ y ∈ sc.names, y.2 ≠ .free

theorem bindL_out {kindOf : Str → Option NameKind} {x : Str} : ∀ {binds : List (Str × Value)} {m : Str → Option Value}, (∀ v, (x, v) ∉ binds) → bindL kindOf binds m x = m x
  | [], _, _ => rfl
  | (n, v) :: r, m, h => by
    unfold bindL
    rw [bindL_out fun w hw => h w (List.mem_cons_of_mem _ hw)]
    split
    · have : x ≠ n := by rintro rfl; exact h v List.mem_cons_self
      simp [this]
    · rfl
theorem bindC_out {kindOf : Str → Option NameKind} {x : Str} : ∀ {binds : List (Str × Value)} {m : Str → Option Value}, (∀ v, (x, v) ∉ binds) → bindC kindOf binds m x = m x
  | [], _, _ => rfl
  | (n, v) :: r, m, h => by
    unfold bindC
    rw [bindC_out fun w hw => h w (List.mem_cons_of_mem _ hw)]
    split
    · rfl
    · have : x ≠ n := by rintro rfl; exact h v List.mem_cons_self
      simp [this]
theorem bindL_get {kindOf : Str → Option NameKind} {x : Str} {v : Value} : ∀ {P : List Str} {vs : List Value} {i : Nat} {m : Str → Option Value}, P.Nodup → P[i]? = some x → vs[i]? = some v → kindOf x = some .local →
    bindL kindOf (P.zip vs) m x = some v
  | [], _, _, _, _, h, _, _ => by simp at h
  | _ :: _, [], _, _, _, _, h, _ => by simp at h
  | p :: P, w :: vs, 0, m, nd, h1, h2, hk => by
    simp at h1 h2; subst h1; subst h2
    show bindL kindOf ((p, w) :: P.zip vs) m p = _
    unfold bindL
    rw [bindL_out fun v hv => (List.nodup_cons.mp nd).1 (List.of_mem_zip hv).1, if_pos hk]
    simp
  | p :: P, w :: vs, i + 1, m, nd, h1, h2, hk => by
    show bindL kindOf ((p, w) :: P.zip vs) m x = _
    unfold bindL
    exact bindL_get (i := i) (List.nodup_cons.mp nd).2 (by simpa using h1) (by simpa using h2) hk
theorem bindC_get {kindOf : Str → Option NameKind} {x : Str} {v : Value} : ∀ {P : List Str} {vs : List Value} {i : Nat} {m : Str → Option Value}, P.Nodup → P[i]? = some x → vs[i]? = some v → kindOf x ≠ some .local →
    bindC kindOf (P.zip vs) m x = some v
  | [], _, _, _, _, h, _, _ => by simp at h
  | _ :: _, [], _, _, _, _, h, _ => by simp at h
  | p :: P, w :: vs, 0, m, nd, h1, h2, hk => by
    simp at h1 h2; subst h1; subst h2
    show bindC kindOf ((p, w) :: P.zip vs) m p = _
    unfold bindC
    rw [bindC_out fun v hv => (List.nodup_cons.mp nd).1 (List.of_mem_zip hv).1, if_neg hk]
    simp
  | p :: P, w :: vs, i + 1, m, nd, h1, h2, hk => by
    show bindC kindOf ((p, w) :: P.zip vs) m x = _
    unfold bindC
    exact bindC_get (i := i) (List.nodup_cons.mp nd).2 (by simpa using h1) (by simpa using h2) hk

/-- the names' values at the entry -/
def start (N : List Str) (vs : List V) : St := vs.map some ++ List.replicate (N.length - vs.length) none

/-- the context of a def's body, at its entry; an exception leaves the frame, then lies as CX says -/
def cxOf (CX : CXT) (P : Program) (w : World) (K : PySem.W.Frag) (mg : Str → Option Value) (base : Heap) (N : List Str) (qual : Str) (scope : Scope) (f : Addr) (cd : Value) (A : Around) (outer : List Env) (s : Shared) (H : Hp) (E : XK) : Cx where
  prog := P
  w := w
  K := K
  mg := mg
  base := base
  A := A.deeper (envOfC qual scope s.heap.objs.size f cd)
  N := N
  s₀ := s
  H₀ := H
  env := envOfC qual scope s.heap.objs.size f cd
  outer := outer
  stack := envOfC qual scope s.heap.objs.size f cd :: outer
  ex := []
  calm := true
  fn := fun _ => true
  pn := []
  xe := fun e s' => wpAny (model P w) (A.deeper (envOfC qual scope s.heap.objs.size f cd)) (leaving (envOfC qual scope s.heap.objs.size f cd) e) (fun _ s'' => CX outer H s E e s'') (fun e' s'' => CX outer H s E e' s'') s'

theorem cell_has {sc : Scope} {n : Nat} {x : Str} (h : sc.names.lookup x = some .cell) : ∃ c, (cellsFrom n sc.names []).lookup x = some c := by
  have q := PySem.W.cellsFrom_some sc.names n [] (.inl h)
  exact Option.isSome_iff_exists.mp q

theorem inv_start {CX : CXT} {P : Program} {w : World} {K : PySem.W.Frag} {mg : Str → Option Value} {base : Heap} {N ps : List Str} {qual : Str} {scope : Scope} {f : Addr} {cd : Value} {A : Around} {outer : List Env} {s s1 : Shared} {H : Hp} {E : XK} {us : List Value} {vs : List V}
    (S : FnScope N ps scope) (hd : A.handled = none) (e0 : Env0 P w K mg base A outer s H) (hl : vs.length = ps.length) (r : Vals vs us)
    (x : InCallC s s.heap.objs.size (bindL (envOfC qual scope s.heap.objs.size f cd).kindOf (ps.zip us) fun _ => none) (cellsFrom (s.heap.objs.size + 1) scope.names []) (bindC (envOfC qual scope s.heap.objs.size f cd).kindOf (ps.zip us) fun _ => none) s1) :
    Inv (cxOf CX P w K mg base N qual scope f cd A outer s H E) [] (start N vs) H s1 := by
  have hpl : ps.length ≤ N.length := by have := congrArg List.length S.pre; rw [List.length_take] at this; omega
  obtain ⟨h1, tk, rfl, hk⟩ := x.done
  have noA : ∀ b : Addr, b ∉ (cxOf CX P w K mg base N qual scope f cd A outer s H E).ex := fun b z => absurd (show b ∈ ([] : List Addr) from z) (by simp)
  refine ⟨⟨e0.mod, S.kind, rfl, rfl, Nat.le_refl _, fun y z c h1 h2 => ?_, fun y hy => ?_, fun y c _ h => ?_, fun _ => hd, Around.frames_deeper e0.frames, .inr ⟨rfl, rfl⟩, fun b z => absurd z (noA b), e0.bs, e0.bsz, fun b _ _ => noA b, fun b z => absurd z (noA b), e0.funs, e0.frf⟩,
    rfl, e0.bare, Un.kept hk, ⟨_, x.toInCall.ns, fun i y v h1 h2 h3 => ?_⟩, fun y c h => ⟨_, x.cell y c h⟩, e0.hok.fresh (Nat.le_refl _), fun y c h => ?_, fun p hp => absurd (show p ∈ ([] : List (Addr × Obj)) from hp) (by simp), e0.hok.kept hk, ?_⟩
  · exact name_of_addr x.apart (PySem.mem_of_lookup h1) (PySem.mem_of_lookup h2)
  · have hy : scope.names.lookup y = some .cell ∨ scope.names.lookup y = some .free := hy
    rcases hy with hy | hy
    · exact cell_has hy
    · exact absurd rfl (S.nofree _ (PySem.mem_of_lookup hy))
  · exact Nat.le_of_lt (x.above y c (PySem.mem_of_lookup h))
  · have hi : i < vs.length := by
      unfold start at h2
      by_cases hi : i < vs.length
      · exact hi
      · rw [List.getElem?_append_right (by simpa using hi)] at h2
        rw [List.getElem?_replicate] at h2
        split at h2 <;> cases h2
    have ha : vs[i]? = some v := by
      unfold start at h2
      rw [List.getElem?_append_left (by simpa using hi), List.getElem?_map] at h2
      cases e : vs[i]? with
      | none => rw [e] at h2; cases h2
      | some a => rw [e] at h2; cases h2; rfl
    obtain ⟨u, hu, rv⟩ := r.get ha
    have hp : ps[i]? = some y := by
      rw [← S.pre, List.getElem?_take_of_lt (by omega)]; exact h1
    have ndP : ps.Nodup := by rw [← S.pre]; exact S.nd.sublist (List.take_sublist _ _)
    refine ⟨u, rv, ?_⟩
    rcases S.par y (List.mem_of_getElem? hp) with k | k
    · exact .inl ⟨k, bindL_get ndP hp hu k⟩
    · obtain ⟨c, e⟩ := cell_has (n := s.heap.objs.size + 1) k
      refine .inr ⟨.inl k, c, e, ?_⟩
      have q := x.cell y c e
      rw [bindC_get ndP hp hu (by show scope.names.lookup y ≠ _; rw [k]; decide)] at q
      exact q
  · exact e0.hok.fresh (Nat.le_of_lt (x.above y c (PySem.mem_of_lookup h)))
  · unfold start
    show _ = N.length
    rw [List.length_append, List.length_map, List.length_replicate]
    omega

/-- THE RULE: a def (or a method) of the text, by its body. The body's reading t is chosen for each entry; it is run at the parameters' values -/
theorem fn_of {CX : CXT} {P : Program} {w : World} {K : PySem.W.Frag} {mg : Str → Option Value} {base : Heap} {k : Nat} {f : Addr} {name qual : Str} {params : Arguments} {body : List Stmt} {scope : Scope} {dV kV doc pm cdv ct oc : Value} {an od : Option Addr}
    {osl : Array (Option Value)} {N ps : List Str} {sp : Sp} (lk : K.lookup f = some ⟨oc, od, .func (PySem.W.fnOf name qual params body scope dV kV doc pm an cdv ct), osl⟩) (hcd : PySem.W.codeIn K cdv qual = true) (S : FnScope N ps scope)
    (len : ∀ vs H Q E, sp vs H Q E → vs.length = ps.length)
    (hbody : ∀ (A : Around) (outer : List Env) (s : Shared) (H : Hp) (vs : List V) (Q : VK) (E : XK), Room k (A.deeper (envOfC qual scope s.heap.objs.size f cdv)) → sp vs H Q E →
      ∃ t, PSs (cxOf CX P w K mg base N qual scope f cdv A outer s H E) body t ∧ t { nx := fun _ H' => Q .non H', rt := Q } (start N vs) H) :
    FnOk P w K mg base CX (k + 1) f (PySem.W.fnOf name qual params body scope dV kV doc pm an cdv ct) ps sp := by
  refine ⟨len, fun A outer s H args us vs Q E hr e0 hb r hsp => ?_⟩
  have hl := len _ _ _ _ hsp
  have KX : K.In s.heap := e0.mod.kin.keeps fun b o e => (e0.bs b o e).1
  have lim : s.heap.NoLimit := e0.mod.nolimit.keeps fun b o e => (e0.bs b o e).1
  have hkind : ∀ y ∈ ps.zip us, scope.names.lookup y.1 = some .local ∨ (scope.names.lookup y.1 = some .cell ∧ ((cellsFrom (s.heap.objs.size + 1) scope.names []).lookup y.1).isSome = true) := fun ⟨n, v⟩ hy => by
    rcases S.par n (List.of_mem_zip hy).1 with q | q
    · exact .inl q
    · exact .inr ⟨q, PySem.W.cellsFrom_some _ _ _ (.inl q)⟩
  refine codeAny_call_function hr.depth (KX _ _ lk) rfl S.co S.gen rfl (PySem.W.codeRec_of KX hcd) (hb _ _ _ _ ?_)
  refine wpAny_newFunctionEnv_cells S.kind hkind fun env he s1 x => ?_
  subst he
  refine ⟨lim.keeps x.toInCall.keep, codeAny_func ?_⟩
  obtain ⟨t, ht, hq⟩ := hbody A outer s H vs Q E (hr.deeper _) hsp
  have I : Inv (cxOf CX P w K mg base N qual scope f cdv A outer s H E) [] (start N vs) H s1 := inv_start S hr.hd e0 hl r x
  refine wpAny_mono (ht [] s1 (start N vs) H _ I hq) (fun fl s' hs => ?_) fun e s' hs => hs
  have fin : ∀ {σ' : St} {H' : Hp} {v : V} {u : Value}, Inv (cxOf CX P w K mg base N qual scope f cdv A outer s H E) [] σ' H' s' → RelV v u → Q v H' → CE outer P w H s Q u s' :=
    fun {σ' H' v u} J rv q => ⟨v, H', J.os, J.bare, J.base, J.hok, rv, q⟩
  cases fl with
  | ret u =>
    obtain ⟨v, σ', H', J, rv, q⟩ := hs
    exact fin J rv q
  | next =>
    obtain ⟨σ', H', J, q⟩ := hs
    exact fin (v := V.non) (u := Value.none) J rfl q
  | brk =>
    obtain ⟨_, _, _, q⟩ := hs
    exact False.elim q
  | cont =>
    obtain ⟨_, _, _, q⟩ := hs
    exact False.elim q
end L2

namespace L2
open PySem PySem.Spec PyProof.Rows
section
variable {X : Cx} {x : Str} {p pos : Pos} {e : Expr} {es : List Expr} {t : TA} {id T : String} {r : List V → Hp → VK → Prop}

def tCB (r : List V → Hp → VK → Prop) (t : TA) : TE := fun σ H Q => t σ H fun vs H1 => r vs H1 Q
/-- f(e, ..), f a built-in function -/
theorem pe_callB (hc : CallR X (.builtin id) r) (hg : Gl X x) (hm : X.mg x = none) (hv : bootBuiltins x = some (.builtin id)) (ha : PA X (e :: es) t) (hn : x ≠ "__name__" := by decide) (hdb : (x == ("__debug__" : Str)) = false := by decide)
    (he : starEach (e :: es) X.env = (false, eval e X.env) :: starEach es X.env := by rfl) (hpl : (backTo pos (starEach es X.env)).any (·.1) = false := by rfl) : PE X (.Call (.Name x p) (e :: es) [] pos) (tCB r t) := by
  intro pins s σ H Q I h
  refine wpAny_Call_Name_kw (ld_blt I hg hm hv ?_ hn hdb)
  exact PyProof.Rows.callWith_builtin1 (thn (ha pos pins s σ H _ I h) fun us s1 ⟨vs, H1, I1, r1, q1⟩ => hc pins s1 σ H1 vs us Q I1 r1 q1) he hpl
/-- T(e, ..), T a built-in type -/
theorem pe_callTy (hc : CallR X (.type T) r) (hg : Gl X x) (hm : X.mg x = none) (hv : bootBuiltins x = some (.type T)) (ha : PA X (e :: es) t) (hn : x ≠ "__name__" := by decide) (hdb : (x == ("__debug__" : Str)) = false := by decide)
    (he : starEach (e :: es) X.env = (false, eval e X.env) :: starEach es X.env := by rfl) (hpl : (backTo pos (starEach es X.env)).any (·.1) = false := by rfl) : PE X (.Call (.Name x p) (e :: es) [] pos) (tCB r t) := by
  intro pins s σ H Q I h
  refine wpAny_Call_Name_kw (ld_blt I hg hm hv ?_ hn hdb)
  exact PyProof.Rows.callWith_type1 (thn (ha pos pins s σ H _ I h) fun us s1 ⟨vs, H1, I1, r1, q1⟩ => hc pins s1 σ H1 vs us Q I1 r1 q1) he hpl
end
end L2

namespace HT
open PySem PyProof.Rows

/-- t < u of tuples of ints -/
def lexLt : List Int → List Int → Bool
  | [], [] => false
  | [], _ :: _ => true
  | _ :: _, [] => false
  | x :: xs, y :: ys => if x = y then lexLt xs ys else decide (x < y)
section
open PySem.SeqAt
open PySem.AutoSeq1 (wpAny_loadPart')
open PySem.MeetsSeq PySem.MeetsSeq2 PySem.MeetsSeq3

end

section
variable {prog : Program} {w : World} {A : Around} {E : Value → Shared → Prop} {s : Shared}

/-! ### t[a:b], not the whole -/
/-- a slice's bound as a place among n (d where it is left out) -/
def sIx (n d : Nat) : Option Int → Nat
  | none => d
  | some v => if v < 0 then (v + (n : Int)).toNat else min v.toNat n
end
end HT

namespace L2
open PySem PySem.Spec PyProof.Rows

/-! ### the parts of a slice -/
abbrev TO := St → Hp → (Option Int → Hp → Prop) → Prop
/-- a slice's part (left out, or an int) -/
def PO (X : Cx) (e : Option Expr) (t : TO) : Prop :=
  ∀ (pins : List (Addr × Obj)) (s : Shared) (σ : St) (H : Hp) (Q : Option Int → Hp → Prop), Inv X pins σ H s → t σ H Q →
    wpAny (model X.prog X.w) X.A (evalPart e X.env) (fun u s' => ∃ o H', Inv X pins σ H' s' ∧ IsPart u o ∧ Q o H') X.xe s
def tNoPart : TO := fun _ H Q => Q none H
def tPart (t : TE) : TO := fun σ H Q => t σ H fun x H1 => ∃ i, x = .int i ∧ Q (some i) H1

theorem intsAre_of {ns : List Int} : ∀ {us : List Value}, Vals (ns.map V.int) us → IntsAre us ns := by
  induction ns with
  | nil => intro us r; rw [List.map_nil] at r; cases r; exact .nil
  | cons n ns ih =>
    intro us r
    rw [List.map_cons] at r
    cases r with
    | cons r1 r2 =>
      obtain ⟨t, e⟩ := r1
      subst e
      exact .cons n t (ih r2)

section
variable {X : Cx} {e : Expr} {te : TE} {lo hi : Option Expr} {tl th : TO} {pos p2 : Pos}

theorem po_none : PO X none tNoPart := by
  intro pins s σ H Q I h
  rw [evalPart_none]
  exact wpAny_pure ⟨none, H, I, .none, h⟩
theorem po_some (h : PE X e te) : PO X (some e) (tPart te) := by
  intro pins s σ H Q I hw
  rw [evalPart_some]
  refine thn (h pins s σ H _ I hw) fun u s1 ⟨x, H1, I1, r1, q1⟩ => ?_
  obtain ⟨i, rfl, q⟩ := q1
  obtain ⟨t, rfl⟩ := r1
  exact ⟨some i, H1, I1, .int i t, q⟩

/-- what a slice of a value is, by values: the slice object stands at sl -/
def SlR (X : Cx) (r : V → Option Int → Option Int → Hp → VK → Prop) : Prop :=
  ∀ (pins : List (Addr × Obj)) (s : Shared) (σ : St) (H : Hp) (x : V) (v vl vu : Value) (lo hi : Option Int) (sl : Addr) (Q : VK), Inv X pins σ H s → RelV x v → s.heap.IsSliceOf sl vl vu .none → IsPart vl lo → IsPart vu hi → r x lo hi H Q →
    ∃ T id, typeLookup (.type T) "__getitem__" = pure (some (.builtin id)) ∧ s.TypeIs v T ∧ wpAny (model X.prog X.w) X.A (getItem v (.ref sl)) (EP X pins σ Q) X.xe s
theorem SlR.or {r r' : V → Option Int → Option Int → Hp → VK → Prop} (h : SlR X r) (h' : SlR X r') : SlR X (fun x lo hi H Q => r x lo hi H Q ∨ r' x lo hi H Q) := by
  intro pins s σ H x v vl vu lo hi sl Q I rx hs pl pu q
  rcases q with q | q
  · exact h pins s σ H x v vl vu lo hi sl Q I rx hs pl pu q
  · exact h' pins s σ H x v vl vu lo hi sl Q I rx hs pl pu q
def tSl (r : V → Option Int → Option Int → Hp → VK → Prop) (te : TE) (tl th : TO) : TE := fun σ H Q => te σ H fun x H1 => tl σ H1 fun l H2 => th σ H2 fun u H3 => r x l u H3 Q
/-- a[lo:hi], any a -/
theorem pe_slice {r : V → Option Int → Option Int → Hp → VK → Prop} (hr : SlR X r) (he : PE X e te) (hl : PO X lo tl) (hu : PO X hi th) : PE X (.Subscript e (.Slice lo hi none p2) pos) (tSl r te tl th) := by
  intro pins s σ H Q I h
  refine Subscript_ (thn (he pins s σ H _ I h) fun v s1 ⟨x, H1, I1, r1, q1⟩ => ?_)
  refine wpAny_Slice (thn (hl pins s1 σ H1 _ I1 q1) fun vl s2 ⟨l, H2, I2, pl, q2⟩ => thn (hu pins s2 σ H2 _ I2 q2) fun vu s3 ⟨u, H3, I3, pu, q3⟩ => ?_)
  rw [evalPart_none]
  refine wpAny_pure ?_
  have I4 : Inv X pins σ H3 { s3 with heap := s3.heap.push { cls := .type "slice", data := .fields #[vl, vu, .none] } } := I3.kept (t' := s3.toks) fun b ob q => Heap.get?_push_of_some _ q
  obtain ⟨T, id, hT, ht, hg⟩ := hr pins { s3 with heap := s3.heap.push { cls := .type "slice", data := .fields #[vl, vu, .none] } } σ H3 x v vl vu l u s3.heap.objs.size Q I4 r1 (Heap.IsSliceOf.new ..) pl pu q3
  show wpAny (model X.prog X.w) X.A (subscriptTail e (.Slice lo hi none p2) v (.ref s3.heap.objs.size)) (EP X pins σ Q) X.xe { s3 with heap := s3.heap.push { cls := .type "slice", data := .fields #[vl, vu, .none] } }
  exact tail_any (ops := [.ref s3.heap.objs.size, v]) ht hT hg (by with_unfolding_all rfl)

/-- the items of xs[lo:hi] -/
def cutV (xs : List V) (lo hi : Option Int) : List V := (xs.drop (HT.sIx xs.length 0 lo)).take (HT.sIx xs.length xs.length hi - HT.sIx xs.length 0 lo)
theorem cutV_length (xs : List V) (lo hi : Option Int) : (cutV xs lo hi).length ≤ xs.length := by
  unfold cutV
  rw [List.length_take, List.length_drop]
  omega
/-- t[lo:hi], not the whole of it (the whole would be t itself) -/
def rSlT (K : PySem.W.Frag) : V → Option Int → Option Int → Hp → VK → Prop := fun x lo hi H Q => ∃ a xs, x = .ref a ∧ SqT K H a xs ∧
  ¬ (HT.sIx xs.length 0 lo = 0 ∧ HT.sIx xs.length xs.length hi = xs.length) ∧ ∀ p, H p = none → Q (.ref p) (upd H p (.tup (cutV xs lo hi)))
/-! ### t < u, t + u -/
def rLtT (K : PySem.W.Frag) : R2 := fun x y H Q => ∃ a b ns ms, x = .ref a ∧ y = .ref b ∧ SqT K H a (ns.map V.int) ∧ SqT K H b (ms.map V.int) ∧ Q (.bl (HT.lexLt ns ms)) H
/-- t + u, t not empty: u empty gives t itself -/
def rCatT (K : PySem.W.Frag) : R2 := fun x y H Q => ∃ a b xs ys, x = .ref a ∧ y = .ref b ∧ SqT K H a xs ∧ SqT K H b ys ∧ xs ≠ [] ∧ xs.length + ys.length ≤ sizeLine ∧
  (ys = [] → Q (.ref a) H) ∧ (ys ≠ [] → ∀ p, H p = none → Q (.ref p) (upd H p (.tup (xs ++ ys))))
end
end L2

namespace L2
open PySem PySem.Spec PyProof.Rows

/-! ### places -/
/-- the place that an index of any sign means -/
def ixN (n : Nat) (i : Int) : Option Nat := if 0 ≤ i then (if i < n then some i.toNat else none) else if -(n : Int) ≤ i then some (i + n).toNat else none
def atI {α : Type} (xs : List α) (i : Int) : Option α := (ixN xs.length i).bind fun j => xs[j]?
theorem ixN_seq {n : Nat} {i : Int} {j : Nat} (h : ixN n i = some j) : seqIndex? i n = some j ∧ j < n ∧ -(n : Int) ≤ i ∧ i < n := by
  unfold ixN at h
  by_cases h0 : 0 ≤ i
  · rw [if_pos h0] at h
    by_cases h1 : i < n
    · rw [if_pos h1] at h
      have e : i.toNat = j := Option.some.inj h
      exact ⟨by rw [seqIndex_of h0 h1, e], by omega, by omega, h1⟩
    · rw [if_neg h1] at h; cases h
  · rw [if_neg h0] at h
    by_cases h1 : -(n : Int) ≤ i
    · rw [if_pos h1] at h
      have e : (i + n).toNat = j := Option.some.inj h
      exact ⟨by rw [seqIndex_neg (by omega) h1, e], by omega, h1, by omega⟩
    · rw [if_neg h1] at h; cases h
theorem atI_get {α : Type} {xs : List α} {i : Int} {v : α} (h : atI xs i = some v) : ∃ j, seqIndex? i xs.length = some j ∧ xs[j]? = some v ∧ j < xs.length ∧ -(xs.length : Int) ≤ i ∧ i < xs.length := by
  unfold atI at h
  cases e : ixN xs.length i with
  | none => rw [e] at h; cases h
  | some j =>
    rw [e] at h
    obtain ⟨h1, h2, h3, h4⟩ := ixN_seq e
    exact ⟨j, h1, h, h2, h3, h4⟩
/-! ### what may be subscripted -/
/-- what stands as an index of a plain subscript -/
def PlainIx (b : Expr) : Prop := ∀ o i, subscripted b false o i = operate [o, i] (getItem o i)
/-- a subscript by values -/
def IxR (X : Cx) (r : R2) : Prop :=
  ∀ (value slice : Expr) (pins : List (Addr × Obj)) (s : Shared) (σ : St) (H : Hp) (x y : V) (v u : Value) (Q : VK), Inv X pins σ H s → RelV x v → RelV y u → r x y H Q →
    subscripted slice false v u = operate [v, u] (getItem v u) → wpAny (model X.prog X.w) X.A (subscriptTail value slice v u) (EP X pins σ Q) X.xe s
/-- a call of a builtin's method by values: the receiver, the arguments -/
def MtR (X : Cx) (id : String) (r : V → List V → Hp → VK → Prop) : Prop :=
  ∀ (pins : List (Addr × Obj)) (s : Shared) (σ : St) (H : Hp) (x : V) (xs : List V) (v : Value) (us : List Value) (Q : VK), Inv X pins σ H s → RelV x v → Vals xs us → r x xs H Q →
    wpAny (model X.prog X.w) X.A (call (.builtin id) (v :: us)) (EP X pins σ Q) X.xe s
section
variable {X : Cx} {a b : Expr} {ta tb : TE} {pos : Pos}
theorem IxR.or {r r' : R2} (h : IxR X r) (h' : IxR X r') : IxR X (fun x y H Q => r x y H Q ∨ r' x y H Q) := by
  intro value slice pins s σ H x y v u Q I rx ry q hs
  rcases q with q | q
  · exact h value slice pins s σ H x y v u Q I rx ry q hs
  · exact h' value slice pins s σ H x y v u Q I rx ry q hs
theorem MtR.or {id : String} {r r' : V → List V → Hp → VK → Prop} (h : MtR X id r) (h' : MtR X id r') : MtR X id (fun x xs H Q => r x xs H Q ∨ r' x xs H Q) := by
  intro pins s σ H x xs v us Q I rx rs q
  rcases q with q | q
  · exact h pins s σ H x xs v us Q I rx rs q
  · exact h' pins s σ H x xs v us Q I rx rs q
/-- a[b] -/
theorem pe_ix {r : R2} (hr : IxR X r) (ha : PE X a ta) (hb : PE X b tb) (hs : PlainIx b) : PE X (.Subscript a b pos) (tOp r ta tb) := by
  intro pins s σ H Q I h
  exact Subscript_ (binT ha hb I h fun v u s2 x y H2 I2 rx ry q => hr a b pins s2 σ H2 x y v u Q I2 rx ry q (hs _ _))

def rIxL (K : PySem.W.Frag) : R2 := fun x y H Q => ∃ p xs i v, x = .ref p ∧ y = .int i ∧ SqL K H p xs ∧ atI xs i = some v ∧ Q v H
def rIxT (K : PySem.W.Frag) : R2 := fun x y H Q => ∃ p xs i v, x = .ref p ∧ y = .int i ∧ SqT K H p xs ∧ atI xs i = some v ∧ Q v H
def rIxS : R2 := fun x y H Q => ∃ z i c, x = .str z ∧ y = .int i ∧ z.length ≤ sizeLine ∧ atI z.cps.toList i = some c ∧ Q (.str ⟨#[c]⟩) H
theorem ix_list : IxR X (rIxL X.K) := by
  intro value slice pins s σ H x y v u Q I rx ry h hs
  obtain ⟨p, xs, i, z, rfl, rfl, hq, he, q⟩ := h
  cases rx
  obtain ⟨t, rfl⟩ := ry
  obtain ⟨its, r, pl, hz⟩ := I.list hq
  obtain ⟨j, h1, h2, h3, h4, h5⟩ := atI_get he
  obtain ⟨w, ew, rw'⟩ := r.get h2
  have hl := r.length
  have hn := line63
  have fin : EP X pins σ Q w s := ⟨z, H, I, rw', q⟩
  by_cases h0 : 0 ≤ i
  · have hj : i.toNat = j := by
      rw [seqIndex_of h0 h5] at h1
      exact Option.some.inj h1
    exact item_listR pl.isList h0 (by omega) (by rw [hj]; simpa using ew) fin hs
  · have hj : (i + (its.toArray.size : Int)).toNat = j := by
      rw [seqIndex_neg (by omega) h4] at h1
      rw [List.size_toArray, ← hl]
      exact Option.some.inj h1
    exact subscriptTail_builtinR (x := w) pl.isList.typeIs slot_list_getitem.lookup
      (wpAny_getItem_list_neg (Q := fun r s' => r = w ∧ EP X pins σ Q r s') pl.isList (by omega) (by rw [List.size_toArray] <;> omega) (by omega) (by rw [hj]; simpa using ew) ⟨rfl, fin⟩) hs
theorem ix_tup : IxR X (rIxT X.K) := by
  intro value slice pins s σ H x y v u Q I rx ry h hs
  obtain ⟨p, xs, i, z, rfl, rfl, hq, he, q⟩ := h
  cases rx
  obtain ⟨t, rfl⟩ := ry
  obtain ⟨its, r, pl, hz⟩ := I.tuple hq
  obtain ⟨j, h1, h2, h3, h4, h5⟩ := atI_get he
  obtain ⟨w, ew, rw'⟩ := r.get h2
  have hl := r.length
  have hn := line63
  have fin : EP X pins σ Q w s := ⟨z, H, I, rw', q⟩
  exact subscriptTail_builtinR (x := w) pl.typeIs slot_tuple_getitem.lookup
    (getItem_tuple (j := j) (Q := fun r s' => r = w ∧ EP X pins σ Q r s') pl (by omega) (by omega) (by rw [List.size_toArray, ← hl]; exact h1) (by simpa using ew) ⟨rfl, fin⟩) hs
/-- list, tuple or str -/
def rIx (K : PySem.W.Frag) : R2 := fun x y H Q => rIxL K x y H Q ∨ rIxT K x y H Q ∨ rIxS x y H Q
/-! ### xs[i] = v, any sign -/
/-- the list's object behind a store -/
theorem mapSeq_set (its : List Value) (n j : Nat) (u : Value) : Obj.mapSeq (·.setIfInBounds j u) { cls := .type "list", data := .seq its.toArray n } = { cls := .type "list", data := .seq (its.set j u).toArray n } := by
  simp [Obj.mapSeq]
theorem Inv.lst {pins : List (Addr × Obj)} {σ : St} {H : Hp} {s : Shared} {p : Addr} {xs : List V} (I : Inv X pins σ H s) (h : H p = some (.lst xs)) :
    ∃ (its : List Value) (n : Nat), Vals xs its ∧ s.heap.get? p = some { cls := .type "list", data := .seq its.toArray n } ∧ xs.length ≤ sizeLine := by
  obtain ⟨z, its, n, r, e⟩ := I.hok p _ h
  exact ⟨its, n, r, e, z⟩
/-- the list at p is written by an update of its object -/
theorem Inv.lstUpd {pins : List (Addr × Obj)} {σ : St} {H : Hp} {s : Shared} {p : Addr} {xs ys : List V} {its its' : List Value} {n n' : Nat} {f : Obj → Obj} (I : Inv X pins σ H s) (h : H p = some (.lst xs))
    (ho : s.heap.get? p = some { cls := .type "list", data := .seq its.toArray n }) (hf : f { cls := .type "list", data := .seq its.toArray n } = { cls := .type "list", data := .seq its'.toArray n' }) (r : Vals ys its') (hz : ys.length ≤ sizeLine) (t : Nat) :
    Inv X pins σ (upd H p (.lst ys)) { s with heap := s.heap.update p f, toks := t } := by
  have e : (s.heap.update p f).get? p = some { cls := .type "list", data := .seq its'.toArray n' } := by
    rw [Heap.get?_update_self f ho (by rw [hf] <;> rfl), hf]
  refine I.write (x := p) (e := p) (by rw [h]; trivial) (.inl rfl) (fun b u hb q => (Heap.get?_update_other _ _ (Ne.symm hb)).trans q) ⟨_, e⟩ ?_
  exact ⟨hz, its', n', r, e⟩
def rSetL : V → V → V → Hp → (Hp → Prop) → Prop := fun o i v H Q => ∃ p xs k j, o = .ref p ∧ i = .int k ∧ H p = some (.lst xs) ∧ ixN xs.length k = some j ∧ Q (upd H p (.lst (xs.set j v)))
theorem set_list : PSet X rSetL := by
  intro pins s σ H o i v ov iv u Q I ro ri rv h
  obtain ⟨p, xs, k, j, rfl, rfl, hp, hj, q⟩ := h
  cases ro
  obtain ⟨t, rfl⟩ := ri
  obtain ⟨its, n, r, ho, hz⟩ := I.lst hp
  obtain ⟨h1, h2, h3, h4⟩ := ixN_seq hj
  have hl := r.length
  have hn := line63
  have I' : Inv X pins σ (upd H p (.lst (xs.set j v))) { s with heap := s.heap.update p (Obj.mapSeq (·.setIfInBounds j u)) } :=
    I.lstUpd hp ho (mapSeq_set its n j u) (r.set rv j) (by rw [List.length_set]; exact hz) s.toks
  by_cases h0 : 0 ≤ k
  · have hk : k.toNat = j := by
      rw [seqIndex_of h0 h4] at h1
      exact Option.some.inj h1
    exact PySem.W.ki_setAt ho h0 (by omega) (by rw [List.size_toArray, ← hl]; exact h4) (by rw [hk]; exact ⟨_, I', q⟩)
  · have hk : (k + (its.toArray.size : Int)).toNat = j := by
      rw [seqIndex_neg (by omega) h3] at h1
      rw [List.size_toArray, ← hl]
      exact Option.some.inj h1
    exact PySem.W.ki_setBack ho (by omega) (by rw [List.size_toArray, ← hl]; exact h3) (by omega) (by rw [hk]; exact ⟨_, I', q⟩)

/-! ### slices -/
theorem slice_bounds (lo hi : Option Int) (n : Nat) : (sliceBounds lo hi none n).1 = ((HT.sIx n 0 lo : Nat) : Int) ∧ (sliceBounds lo hi none n).2.1 = ((HT.sIx n n hi : Nat) : Int) ∧ (sliceBounds lo hi none n).2.2 = 1 := by
  refine ⟨?_, ?_, rfl⟩
  · cases lo with
    | none => simp [sliceBounds, HT.sIx]
    | some i =>
      simp only [sliceBounds, HT.sIx, Option.getD_none, show (1 : Int) > 0 by decide, if_true]
      by_cases h : i < 0
      · simp only [h, if_true] <;> omega
      · simp only [h, if_false] <;> omega
  · cases hi with
    | none => simp [sliceBounds, HT.sIx]
    | some i =>
      simp only [sliceBounds, HT.sIx, Option.getD_none, show (1 : Int) > 0 by decide, if_true]
      by_cases h : i < 0
      · simp only [h, if_true] <;> omega
      · simp only [h, if_false] <;> omega
theorem slicePick_cut (its : List Value) (lo hi : Option Int) : slicePick its.toArray lo hi none = ((its.drop (HT.sIx its.length 0 lo)).take (HT.sIx its.length its.length hi - HT.sIx its.length 0 lo)).toArray := by
  obtain ⟨h1, h2, h3⟩ := slice_bounds lo hi its.toArray.size
  unfold slicePick
  rw [h1, h2, h3]
  simp only [sliceRange_one, pick_run, List.size_toArray] <;> rfl
/-- xs[lo:hi] of a list: a new list -/
def rSlL (K : PySem.W.Frag) : V → Option Int → Option Int → Hp → VK → Prop := fun x lo hi H Q => ∃ a xs, x = .ref a ∧ SqL K H a xs ∧ ∀ p, H p = none → Q (.ref p) (upd H p (.lst (cutV xs lo hi)))
theorem sl_list : SlR X (rSlL X.K) := by
  intro pins s σ H x v vl vu lo hi sl Q I rx hs pl pu h
  obtain ⟨a, xs, rfl, hx, q⟩ := h
  cases rx
  obtain ⟨its, r, ht, hz⟩ := I.list hx
  have hlen := r.length
  refine ⟨"list", _, slot_list_getitem.lookup, ht.isList.typeIs, ?_⟩
  refine wpAny_getItem_list_slice ht.isList hs pl pu .none (by simp) ?_ (by rw [List.size_toArray] <;> omega)
  rw [slicePick_cut, ← hlen]
  refine ⟨.ref s.heap.objs.size, _, I.laid (t' := s.toks) (o := .lst (cutV xs lo hi)) (fun b ob q => Heap.get?_push_of_some _ q) (Nat.le_refl _) ?_, rfl, q _ (I.hok.fresh (Nat.le_refl _))⟩
  exact ⟨Nat.le_trans (cutV_length xs lo hi) hz, _, 0, (r.drop (HT.sIx xs.length 0 lo)).take (HT.sIx xs.length xs.length hi - HT.sIx xs.length 0 lo), Heap.get?_push_size _ rfl⟩

/-! ### in, not in: flat items -/
def flatV : V → Bool
  | .non => true
  | .bl _ => true
  | .int _ => true
  | .str _ => true
  | _ => false
/-- == of flat values -/
def eqV : V → V → Bool
  | .non, .non => true
  | .bl a, .bl b => a == b
  | .bl a, .int b => (if a then 1 else 0) == b
  | .int a, .bl b => a == (if b then 1 else 0)
  | .int a, .int b => a == b
  | .str a, .str b => a == b
  | _, _ => false
theorem eqAt_V {A : Around} {s : Shared} {y x : V} {u v : Value} (ry : RelV y u) (rx : RelV x v) (fy : flatV y = true) (fx : flatV x = true) : SeqAt.EqAt A s u v (eqV y x) := by
  cases y with
  | non =>
    cases ry
    cases x with
    | non => cases rx; exact SeqAt.EqAt.same _
    | bl b => cases rx; exact SeqAt.EqAt.none_bool b
    | int b => obtain ⟨t, rfl⟩ := rx; exact SeqAt.EqAt.none_int b t
    | str b => obtain ⟨t, rfl⟩ := rx; exact SeqAt.EqAt.none_str b t
    | _ => exact absurd (show false = true from fx) Bool.false_ne_true
  | bl a =>
    cases ry
    cases x with
    | non => cases rx; exact SeqAt.EqAt.bool_none a
    | bl b => cases rx; exact SeqAt.EqAt.bool_bool a b
    | int b => obtain ⟨t, rfl⟩ := rx; exact SeqAt.EqAt.bool_int a b t
    | str b => obtain ⟨t, rfl⟩ := rx; exact SeqAt.EqAt.bool_str a b t
    | _ => exact absurd (show false = true from fx) Bool.false_ne_true
  | int a =>
    obtain ⟨t', rfl⟩ := ry
    cases x with
    | non => cases rx; exact SeqAt.EqAt.int_none a t'
    | bl b => cases rx; exact SeqAt.EqAt.int_bool a t' b
    | int b => obtain ⟨t, rfl⟩ := rx; exact SeqAt.EqAt.int_int a t' b t
    | str b => obtain ⟨t, rfl⟩ := rx; exact SeqAt.EqAt.int_str a t' b t
    | _ => exact absurd (show false = true from fx) Bool.false_ne_true
  | str a =>
    obtain ⟨t', rfl⟩ := ry
    cases x with
    | non => cases rx; exact SeqAt.EqAt.str_none a t'
    | bl b => cases rx; exact SeqAt.EqAt.str_bool a t' b
    | int b => obtain ⟨t, rfl⟩ := rx; exact SeqAt.EqAt.str_int a t' b t
    | str b => obtain ⟨t, rfl⟩ := rx; exact SeqAt.EqAt.str_str a t' b t
    | _ => exact absurd (show false = true from fx) Bool.false_ne_true
  | _ => exact absurd (show false = true from fy) Bool.false_ne_true
/-- the items' answers, read off the values (a value's own answer does not lean on its token) -/
def eqU (x : V) (u : Value) : Bool := match u with
  | .none => eqV .non x
  | .bool b => eqV (.bl b) x
  | .int i _ => eqV (.int i) x
  | .str z _ => eqV (.str z) x
  | _ => false
def inV (x : V) (xs : List V) : Bool := xs.any fun y => eqV y x
/-- x in a list or tuple of flat items -/
def rIn (K : PySem.W.Frag) (neg : Bool) : R2 := fun x y H Q => ∃ p xs, y = .ref p ∧ (SqL K H p xs ∨ SqT K H p xs) ∧ flatV x = true ∧ xs.all flatV = true ∧ Q (.bl (if neg then !inV x xs else inV x xs)) H
/-! ### len, list(x), tuple(x) of any list or tuple that is read -/
theorem call_len_seq : CallR X (.builtin "len") (fun xs H Q => ∃ p ys, xs = [.ref p] ∧ (SqL X.K H p ys ∨ SqT X.K H p ys) ∧ Q (.int ys.length) H) := by
  intro pins s σ H xs us Q I r h
  obtain ⟨p, ys, rfl, hq, q⟩ := h
  obtain ⟨u, rfl, rx⟩ := vals1 r
  cases rx
  have hn := line63
  rcases hq with hq | hq
  · obtain ⟨its, r', pl, hz⟩ := I.list hq
    have hlen := r'.length
    exact Calls.call_len_list pl.isList (by simp only [List.size_toArray] <;> omega) ⟨.int ys.length, H, I.tok _, ⟨s.toks + 1, by rw [List.size_toArray, hlen]⟩, q⟩
  · obtain ⟨its, r', pl, hz⟩ := I.tuple hq
    have hlen := r'.length
    exact len_tuple pl (by simp only [List.size_toArray] <;> omega) ⟨.int ys.length, H, I.tok _, ⟨s.toks + 1, by rw [List.size_toArray, hlen]⟩, q⟩
theorem CallR.or {f : Value} {r r' : List V → Hp → VK → Prop} (h : CallR X f r) (h' : CallR X f r') : CallR X f (fun xs H Q => r xs H Q ∨ r' xs H Q) := by
  intro pins s σ H xs us Q I rs q
  rcases q with q | q
  · exact h pins s σ H xs us Q I rs q
  · exact h' pins s σ H xs us Q I rs q
theorem call_list_of : CallR X (.type "list") (fun xs H Q => ∃ p ys, xs = [.ref p] ∧ (SqL X.K H p ys ∨ SqT X.K H p ys) ∧ ∀ l, H l = none → Q (.ref l) (upd H l (.lst ys))) := by
  intro pins s σ H xs us Q I r h
  obtain ⟨p, ys, rfl, hq, q⟩ := h
  obtain ⟨u, rfl, rx⟩ := vals1 r
  cases rx
  have fin : ∀ (its : List Value), Vals ys its → ys.length ≤ sizeLine → ∀ (h' : Heap) (c' : Nat), (∀ b o', s.heap.get? b = some o' → h'.get? b = some o') →
      h'.get? s.heap.objs.size = some { cls := .type "list", dict := none, data := .seq its.toArray c', slots := #[] } → EP X pins σ Q (.ref s.heap.objs.size) { s with heap := h' } := fun its r' hz h' c' kp e =>
    ⟨.ref s.heap.objs.size, _, I.laid (t' := s.toks) kp (Nat.le_refl _) (show ObjOk X.prog X.w _ h' _ (.lst ys) from ⟨hz, its, c', r', e⟩), rfl, q _ (I.hok.fresh (Nat.le_refl _))⟩
  rcases hq with hq | hq
  · obtain ⟨its, r', pl, hz⟩ := I.list hq
    have hlen := r'.length
    obtain ⟨o, ho, hc, n, hd⟩ := pl.isList
    exact call_list_seq p (.inl rfl) ho hc hd (fun h' c' kp e => fin its r' hz h' c' kp e) (by simp only [List.size_toArray] <;> omega)
  · obtain ⟨its, r', pl, hz⟩ := I.tuple hq
    have hlen := r'.length
    obtain ⟨o, ho, hc, n, hd⟩ := pl
    exact call_list_seq p (.inr rfl) ho hc hd (fun h' c' kp e => fin its r' hz h' c' kp e) (by simp only [List.size_toArray] <;> omega)
/-! ### the call of a builtin's method: o.m(..) -/
/-- the value is of that builtin type -/
def tyV (K : PySem.W.Frag) (T : String) (x : V) (H : Hp) : Prop := match x with
  | .str _ => T = "str"
  | .int _ => T = "int"
  | .ref p => (T = "list" ∧ ∃ xs, SqL K H p xs) ∨ (T = "tuple" ∧ ∃ o, K.lookup p = some o ∧ o.cls = .type "tuple" ∧ o.dict = none) ∨
      (T = "dict" ∧ ((∃ kvs, H p = some (.dK kvs)) ∨ ∃ kvs, H p = some (.dT kvs))) ∨ (T = "set" ∧ ∃ S n, H p = some (.set S n))
  | _ => False
theorem tyV_is {pins : List (Addr × Obj)} {σ : St} {H : Hp} {s : Shared} {T : String} {x : V} {v : Value} (I : Inv X pins σ H s) (r : RelV x v) (ty : tyV X.K T x H) :
    s.TypeIs v T ∧ ∀ a, v = .ref a → ∃ ob, s.heap.get? a = some ob ∧ ob.dict = none := by
  cases x with
  | str z =>
    obtain ⟨t, rfl⟩ := r
    cases (show T = "str" from ty)
    exact ⟨typeIs_str s z t, fun _ e => nomatch e⟩
  | int i =>
    obtain ⟨t, rfl⟩ := r
    cases (show T = "int" from ty)
    exact ⟨typeIs_int s i t, fun _ e => nomatch e⟩
  | ref p =>
    cases r
    rcases ty with ⟨rfl, xs, hq⟩ | ⟨rfl, o, hk, hc, hd⟩ | ⟨rfl, hk⟩ | ⟨rfl, S, n, hk⟩
    · obtain ⟨its, _, pl, _⟩ := I.list hq
      refine ⟨pl.isList.typeIs, fun a e => ?_⟩
      cases e
      obtain ⟨o, n, e, c, hd, _⟩ := pl
      exact ⟨o, e, hd⟩
    · refine ⟨⟨o, I.kIn p o hk, hc⟩, fun a e => ?_⟩
      cases e
      exact ⟨o, I.kIn _ o hk, hd⟩
    · have z : ∃ o, s.heap.get? p = some o ∧ o.ExactDict := by
        rcases hk with ⟨kvs, hk⟩ | ⟨kvs, hk⟩
        · obtain ⟨_, _, _, _, o, _, _, e, ex, _⟩ := I.hok p _ hk
          exact ⟨o, e, ex⟩
        · obtain ⟨_, _, _, _, o, _, _, e, ex, _⟩ := I.hok p _ hk
          exact ⟨o, e, ex⟩
      obtain ⟨o, e, ex⟩ := z
      refine ⟨⟨o, e, ex.1⟩, fun a e2 => ?_⟩
      cases e2
      exact ⟨o, e, ex.2.1⟩
    · obtain ⟨o, _, _, _, e, ex, _⟩ := I.hok p _ hk
      refine ⟨⟨o, e, ex.1⟩, fun a e2 => ?_⟩
      cases e2
      exact ⟨o, e, ex.2.1⟩
  | _ => exact False.elim ty
def tBM0 (K : PySem.W.Frag) (T : String) (r : V → List V → Hp → VK → Prop) (to : TE) : TE := fun σ H Q => to σ H fun x H1 => tyV K T x H1 ∧ r x [] H1 Q
def tBM (K : PySem.W.Frag) (T : String) (r : V → List V → Hp → VK → Prop) (to : TE) (t : TA) : TE := fun σ H Q => to σ H fun x H1 => tyV K T x H1 ∧ t σ H1 fun xs H2 => r x xs H2 Q
variable {o e : Expr} {es : List Expr} {to : TE} {t : TA} {name : Str} {apos cpos : Pos} {T id : String} {r : V → List V → Hp → VK → Prop}
theorem pe_bm0 (pa : PlainAttrs T) (slot : Slot T name id) (hty : typeOf (.builtin id) = pure (.type "method_descriptor")) (hm : MtR X id r) (ho : PE X o to)
    (hbase : attributeBase o name X.env (eval o X.env) = eval o X.env := by rfl) (hline : (apos.endLine == cpos.line) = true := by rfl) : PE X (.Call (.Attribute o name apos) [] [] cpos) (tBM0 X.K T r to) := by
  intro pins s σ H Q I h
  refine wpAny_Call_method0_late hbase hline (thn (ho pins s σ H _ I h) fun v s1 ⟨x, H1, I1, r1, ty, q1⟩ => ?_)
  obtain ⟨h1, h2⟩ := tyV_is I1 r1 ty
  exact ⟨T, id, pa, slot, hty, h1, h2, Calls.callWith_builtin rfl (PySem.evalArgs_none (hm pins s1 σ H1 x [] v [] Q I1 r1 .nil q1))⟩
theorem pe_bm (pa : PlainAttrs T) (slot : Slot T name id) (hty : typeOf (.builtin id) = pure (.type "method_descriptor")) (hm : MtR X id r) (ho : PE X o to) (ha : PA X (e :: es) t)
    (hbase : attributeBase o name X.env (eval o X.env) = eval o X.env := by rfl)
    (hfew : ((backTo cpos (starEach (e :: es) X.env)).all (fun x => !x.1) && (backToKw cpos (keywordEach [] X.env)).all (fun x => x.1.isSome)
      && decide ((e :: es).length + ([] : List Keyword).length + (if ([] : List Keyword).isEmpty then 0 else 1) < 30)) = true := by rfl)
    (hline : (apos.endLine == cpos.line) = true := by rfl) (hs : starEach (e :: es) X.env = (false, eval e X.env) :: starEach es X.env := by rfl) (hplain : (backTo cpos (starEach es X.env)).any (·.1) = false := by rfl) :
    PE X (.Call (.Attribute o name apos) (e :: es) [] cpos) (tBM X.K T r to t) := by
  intro pins s σ H Q I h
  refine wpAny_Call_method_late hbase hfew hline rfl (thn (ho pins s σ H _ I h) fun v s1 ⟨x, H1, I1, r1, ty, q1⟩ => ?_)
  obtain ⟨h1, h2⟩ := tyV_is I1 r1 ty
  refine ⟨T, id, pa, slot, hty, h1, h2, ?_⟩
  have hA := ha cpos pins s1 σ H1 _ I1 q1
  rw [hs] at hA ⊢
  refine Calls.callWith_builtin (by show (false || (backTo cpos (starEach es X.env)).any (·.1)) = false; rw [hplain] <;> rfl) (Calls.evalArgs_plain ?_)
  exact thn hA fun us s2 ⟨vs, H2, I2, r2, q2⟩ => hm pins s2 σ H2 x vs v us Q I2 r1 r2 q2
/- xs.append(e), list.index on a module's tuple .. are MtR facts of 06m -/
end
end L2

namespace L2
open PySem PySem.Spec PyProof.Rows

def MtM (X : Cx) (id : String) (r : V → List V → Hp → VK → Prop) : Prop :=
  ∀ (pins : List (Addr × Obj)) (s : Shared) (σ : St) (H : Hp) (x : V) (xs : List V) (v : Value) (us : List Value) (Q : VK), Inv X pins σ H s → RelV x v → Vals xs us → r x xs H Q →
    wpAny (model X.prog X.w) X.A (call (.builtin id) (v :: us)) (EP X pins σ Q) X.xe s

/-! ### lists of values -/
theorem Vals.one : ∀ {x : V} {us : List Value}, Vals [x] us → ∃ u, us = [u] ∧ RelV x u
  | _, _, .cons r .nil => ⟨_, rfl, r⟩
theorem Vals.two : ∀ {x y : V} {us : List Value}, Vals [x, y] us → ∃ u v, us = [u, v] ∧ RelV x u ∧ RelV y v
  | _, _, _, .cons r (.cons q .nil) => ⟨_, _, rfl, r, q⟩
theorem Vals.zero : ∀ {us : List Value}, Vals [] us → us = []
  | _, .nil => rfl
theorem Vals.dropLast {xs : List V} {us : List Value} (h : Vals xs us) : Vals xs.dropLast us.dropLast := by
  induction h with
  | nil => exact .nil
  | cons r t ih =>
    cases t with
    | nil => exact .nil
    | cons q t' => exact .cons r ih
theorem Vals.eraseIdx : ∀ {xs : List V} {us : List Value} (i : Nat), Vals xs us → Vals (xs.eraseIdx i) (us.eraseIdx i)
  | _, _, _, .nil => .nil
  | _, _, 0, .cons _ t => t
  | _, _, i + 1, .cons r t => .cons r (Vals.eraseIdx i t)
theorem Vals.reverse {xs : List V} {us : List Value} (h : Vals xs us) : Vals xs.reverse us.reverse := by
  induction h with
  | nil => exact .nil
  | cons r t ih => rw [List.reverse_cons, List.reverse_cons]; exact Vals.append ih (.cons r .nil)
theorem erase_last {α : Type} (l : List α) : l.eraseIdx (l.length - 1) = l.dropLast := by
  induction l with
  | nil => rfl
  | cons a r ih =>
    cases r with
    | nil => rfl
    | cons b r =>
      have e : (a :: b :: r).length - 1 = ((b :: r).length - 1) + 1 := by
        have h1 : (a :: b :: r).length = r.length + 2 := rfl
        have h2 : (b :: r).length = r.length + 1 := rfl
        omega
      rw [e, List.eraseIdx_cons_succ, ih]
      all_goals rfl
section
variable {X : Cx} {pins : List (Addr × Obj)} {σ : St} {H : Hp} {s : Shared} {l b : Addr} {xs ys zs : List V}

/-! ### the two steps: a tracked list is rewritten, a new list is laid -/
theorem Inv.lset {its its' : List Value} {n : Nat} {f : Array Value → Array Value} {t' : Nat} (I : Inv X pins σ H s) (hH : H l = some (.lst xs))
    (e : s.heap.get? l = some { cls := .type "list", data := .seq its.toArray n }) (hf : f its.toArray = its'.toArray) (hv : Vals ys its') (hz : ys.length ≤ sizeLine) :
    Inv X pins σ (upd H l (.lst ys)) { s with heap := s.heap.update l (Obj.mapSeq f), toks := t' } := by
  have q := PySem.IsL.update e f
  rw [hf] at q
  refine I.write (x := l) (e := l) (by rw [hH]; exact trivial) (.inl rfl) (fun b' u hb hu => (Heap.get?_update_other s.heap (Obj.mapSeq f) (Ne.symm hb)).trans hu) ⟨_, q⟩ ?_
  exact ⟨hz, its', _, hv, q⟩
theorem Inv.lnew {its : List Value} {t' : Nat} (I : Inv X pins σ H s) (hv : Vals ys its) (hz : ys.length ≤ sizeLine) :
    Inv X pins σ (upd H s.heap.objs.size (.lst ys)) { s with heap := s.heap.push { cls := .type "list", data := .seq its.toArray }, toks := t' } :=
  I.laid (fun _ _ q => Heap.get?_push_of_some _ q) (Nat.le_refl _) ⟨hz, its, 0, hv, Heap.get?_push_size _ rfl⟩
theorem Inv.fresh (I : Inv X pins σ H s) : H s.heap.objs.size = none := I.hok.fresh (Nat.le_refl _)
theorem Inv.lstM (I : Inv X pins σ H s) (hH : H l = some (.lst xs)) : xs.length ≤ sizeLine ∧ ∃ (its : List Value) (n : Nat), Vals xs its ∧ xs.length = its.length ∧ s.heap.get? l = some { cls := .type "list", data := .seq its.toArray n } := by
  obtain ⟨z, its, n, r, e⟩ := I.hok l _ hH
  exact ⟨z, its, n, r, r.length, e⟩

end

section
variable {X : Cx}

/-! ### methods -/
def rAppend : V → List V → Hp → VK → Prop := fun x vs H Q => ∃ l xs y, x = .ref l ∧ vs = [y] ∧ H l = some (.lst xs) ∧ xs.length < sizeLine ∧ Q .non (upd H l (.lst (xs ++ [y])))
theorem mt_append : MtM X "list.append" rAppend := by
  intro pins s σ H x vs v us Q I rx rv h
  obtain ⟨l, xs, y, rfl, rfl, hH, hz, q⟩ := h
  cases rx
  obtain ⟨u, rfl, ru⟩ := rv.one
  obtain ⟨z, its, n, r, hl, e⟩ := I.lstM hH
  refine call_meets F.slot_list_append ⟨_, e, rfl⟩ F.entry_list_append (F.args_list_append_2 _ _) (PySem.list_append l its.toArray n u (by rw [List.size_toArray]; omega)) ⟨e, ?_⟩
  refine ⟨.non, _, I.lset (its' := its ++ [u]) hH e (by simp) (r.append (.cons ru .nil)) ?_, rfl, q⟩
  rw [List.length_append, List.length_singleton]
  omega

def rExtend : V → List V → Hp → VK → Prop := fun x vs H Q => ∃ l b xs zs, x = .ref l ∧ vs = [.ref b] ∧ H l = some (.lst xs) ∧ H b = some (.lst zs) ∧ xs.length + zs.length ≤ sizeLine ∧ Q .non (upd H l (.lst (xs ++ zs)))
def rPop : V → List V → Hp → VK → Prop := fun x vs H Q => ∃ l xs y, x = .ref l ∧ vs = [] ∧ H l = some (.lst xs) ∧ xs[xs.length - 1]? = some y ∧ Q y (upd H l (.lst xs.dropLast))
theorem mt_pop : MtM X "list.pop" rPop := by
  intro pins s σ H x vs v us Q I rx rv h
  obtain ⟨l, xs, y, rfl, rfl, hH, hy, q⟩ := h
  cases rx
  have hus := rv.zero
  subst hus
  obtain ⟨z, its, n, r, hl, e⟩ := I.lstM hH
  obtain ⟨u, hu, ru⟩ := r.get hy
  have hy' : its.toArray[its.toArray.size - 1]? = some u := by
    show its.toArray[its.length - 1]? = some u
    rw [← Array.getElem?_toList, ← hl]
    exact hu
  refine call_meets F.slot_list_pop ⟨_, e, rfl⟩ F.entry_list_pop (F.args_list_pop_1 _) (MeetsSeq.list_pop_last l its.toArray n u hy' (by rw [List.size_toArray]; omega)) ⟨e, ?_⟩
  refine ⟨y, _, I.lset (its' := its.dropLast) hH e ?_ r.dropLast ?_, ru, q⟩
  · show its.toArray.eraseIdxIfInBounds (its.toArray.size - 1) = its.dropLast.toArray
    rw [List.size_toArray, List.eraseIdxIfInBounds_toArray, erase_last]
  · rw [List.length_dropLast]
    omega

def rPopAt : V → List V → Hp → VK → Prop := fun x vs H Q => ∃ l xs i k y, x = .ref l ∧ vs = [.int i] ∧ H l = some (.lst xs) ∧ -(2 ^ 63) ≤ i ∧ i < 2 ^ 63 ∧ seqIndex? i xs.length = some k ∧ xs[k]? = some y ∧ Q y (upd H l (.lst (xs.eraseIdx k)))
def rReverse : V → List V → Hp → VK → Prop := fun x vs H Q => ∃ l xs, x = .ref l ∧ vs = [] ∧ H l = some (.lst xs) ∧ Q .non (upd H l (.lst xs.reverse))
def rClear : V → List V → Hp → VK → Prop := fun x vs H Q => ∃ l xs, x = .ref l ∧ vs = [] ∧ H l = some (.lst xs) ∧ Q .non (upd H l (.lst []))
/-! ### list + list, list += list, list * int -/
def rCat : R2 := fun x y H Q => ∃ l b xs zs, x = .ref l ∧ y = .ref b ∧ H l = some (.lst xs) ∧ H b = some (.lst zs) ∧ xs.length + zs.length ≤ sizeLine ∧ ∀ p, H p = none → Q (.ref p) (upd H p (.lst (xs ++ zs)))
theorem op_cat : OpR X (binaryOp .Add) rCat := by
  intro pins s σ H x y v u Q I rx ry h
  obtain ⟨l, b, xs, zs, rfl, rfl, hH, hB, hz, q⟩ := h
  cases rx
  cases ry
  obtain ⟨z, its, n, r, hl, e⟩ := I.lstM hH
  obtain ⟨z2, its2, n2, r2, hl2, e2⟩ := I.lstM hB
  refine PySem.P.add_list e e2 ?_ (by rw [List.size_toArray, List.size_toArray]; omega)
  have ea : its.toArray ++ its2.toArray = (its ++ its2).toArray := by simp
  rw [ea]
  exact ⟨.ref _, _, I.lnew (t' := s.toks) (r.append r2) (by rw [List.length_append]; omega), rfl, q _ I.fresh⟩
/-- a list times an int (a negative one is nothing) -/
def rRep : R2 := fun x y H Q => ∃ l k xs, x = .ref l ∧ y = .int k ∧ H l = some (.lst xs) ∧ -(2 ^ 63) ≤ k ∧ k < 2 ^ 63 ∧ xs.length * k.toNat ≤ sizeLine ∧
  ∀ p, H p = none → Q (.ref p) (upd H p (.lst (List.replicate k.toNat xs).flatten))
/-! ### del xs[i] -/
end

/-! ### xs[a:b] = ys -/
section
variable {prog : Program} {w : World} {A : Around} {E : Value → Shared → Prop} {s : Shared}
end

section
variable {X : Cx}
end
end L2

namespace Att
open PySem PySem.W PySem.Calls PyProof.Rows

/-! ### the script -/
theorem ints_of_wellAll {P : Params} {h : Heap} : ∀ (ns : List Int) (vs : List Value), WellAll P h vs (ns.map WData.int) → IntsAre vs ns := by
  intro ns
  induction ns with
  | nil =>
    intro vs w
    rw [List.map_nil] at w
    cases w
    exact .nil
  | cons n ns ih =>
    intro vs w
    rw [List.map_cons] at w
    cases w with
    | cons a b =>
      cases a
      exact .cons _ _ (ih _ b)

theorem script_of {l : OpenLaw} {n : Nat} (hn : l.most = some n) {P : Params} {h : Heap} {args : List WData} {vals : List Value}
    (hpre : l.row.toRowW.claim.pre args = true) (hwl : WellAll P h vals args) :
    ∃ a vs ns, vals = [Value.ref a] ∧ args = [WData.list (ns.map WData.int)] ∧ h.get? a = some { cls := .type "list", data := .seq vs.toArray } ∧ IntsAre vs ns ∧ ns.length ≤ n := by
  have hsh : WShape.hasAll [] args [.list .int] = true := (pre_splitW hpre).1
  have hc : l.pre.holds [] { args := args } = true := (pre_splitW hpre).2
  obtain ⟨d, r, rfl, h1, h2⟩ := hasAllW_cons hsh
  obtain rfl := hasAllW_nil h2
  obtain ⟨xs, rfl, h3⟩ := hasW_list h1
  obtain ⟨ns, rfl⟩ := items_int h3
  have hlen : ns.length ≤ n := by
    unfold OpenLaw.pre at hc
    have h4 : (WTm.not (.lt (.lit (.int (n : Int))) (.len (.arg 0)))).holds [] { args := [.list (ns.map .int)] } = true := by
      have h4 := (holds_andW hc).1
      rw [hn] at h4
      exact h4
    have h5 := condW_of h4 (w_not (w_lt w_lit (w_len_list (w_arg rfl))))
    rw [List.length_map] at h5
    refine Nat.le_of_not_lt fun q => ?_
    have q' : (n : Int) < ((ns.length : Nat) : Int) := by omega
    first
      | (rw [decide_eq_true q'] at h5; exact absurd h5 (by decide))
      | (simp at h5; omega)
  cases hwl with
  | cons w1 w2 =>
    cases w2
    cases w1 with
    | list ho hall => exact ⟨_, _, ns, rfl, rfl, ho, ints_of_wellAll ns _ hall, hlen⟩

theorem post_true (l : OpenLaw) (args : List WData) : l.row.toRowW.claim.post args (.bool true) args = true :=
  postW_of (r := l.row.toRowW) (X := (true == true))
    (show WShape.has [] (.bool true) .bool = true by first | rfl | decide | simp [WShape.has, WShape.arms, WShape.armsAll])
    (show (WTm.eq .res (.lit (.bool true))).value [] { args := args, res := some (.bool true), after := args } = some (.bool (true == true)) from w_eq_bool (w_res rfl) w_lit) rfl

/-! ### the attachment: holds_open's last premise (the goal 'hc' behind k_head) from a wpAny of the law's body -/
/-- the same from a codeAny of the CALL (for a layer whose function contracts speak of calls) -/
theorem attach_call {l : OpenLaw} {n : Nat} {q : Program} {loose : List Str} {XP : (Str → Option Value) → Heap → Prop} {YP : World → Heap → Prop} {d : DefRec}
    (hn : l.most = some n) (hdf : d.params.defaults = [])
    (call : ∀ (w : World) (s₀ s₁ : Shared) (mg mb : Str → Option Value) (fa : Addr) (o : Obj) (pm cd doc : Value) (a : Addr) (vs : List Value) (ns : List Int),
      Ground q loose [] XP w s₀ mg mb s₁.heap → YP w s₁.heap →
      s₁.heap.get? fa = some o → o.data = .func (docDef d.name d.params d.body d.scope pm cd doc) → s₁.heap.CodeRec cd d.name → mg d.name = some (.ref fa) →
      s₁.heap.get? a = some { cls := .type "list", data := .seq vs.toArray } → IntsAre vs ns → ns.length ≤ n → s₁.gens = #[] →
      codeAny (model l.prog w) callerA (.call (.ref fa) ⟨[.ref a], []⟩) (fun r s' => r = .ok (.ret (.bool true)) ∧ OldK s₁.heap s'.heap ∧ s'.os = s₁.os ∧ AllBare s'.gens) s₁) :
    WalkO q loose XP YP l.row.toRowW d [] (fun f vs => PySem.call f vs) := by
  intro w s₀ s₁ mg mb G Y fa o pm cd doc dV kV ho hd hcd hD hmg hg args vals as hpre hlay hrd hwl hlo
  obtain rfl : dV = .none := Dflts.none hD hdf
  obtain rfl : kV = .none := Dflts.noKw hD
  obtain ⟨a, vs, ns, rfl, rfl, hobj, hints, hlen⟩ := script_of hn hpre hwl
  refine enter_call (codeAny_mono (call w s₀ s₁ mg mb fa o pm cd doc a vs ns G Y ho (fd_plain hd) hcd hmg hobj hints hlen hg) fun r s' hq => ?_)
  obtain ⟨rfl, h2, h3, h4⟩ := hq
  exact ⟨.inl ⟨.bool true, .bool true, [], rfl, fun _ => rfl, .bool true, post_true l _, fun _ => ⟨List.Pairwise.nil, fun _ hm => (nomatch hm)⟩⟩, h2, h3, h4⟩

/-! ### rules over ANY heap (no ledger) from facts about the written part K: the library's own take a ledger (News) for what they write -/
section
variable {prog : Program} {w : World} {A : Around} {E : Value → Shared → Prop} {s : Shared} {K : Frag}

/-! the whole heap as the ledger: makes every rule that writes through a ledger a rule over any heap -/
def noObjs (h : Heap) : Heap := { h with objs := #[] }
def ledger (h : Heap) (L d : Addr) : List (Addr × Obj) := (List.range h.objs.size).filterMap fun a => if a = L ∨ a = d then none else (h.get? a).map fun o => (a, o)
end
end Att

namespace L2
open PySem PySem.Spec PyProof.Rows

theorem vals_ints : ∀ {vs : List Value} {ns : List Int}, IntsAre vs ns → Vals (ns.map V.int) vs
  | _, _, .nil => .nil
  | _, _, .cons n t h => .cons ⟨t, rfl⟩ (vals_ints h)

/-- nothing is tracked but the script, known to the object (or it is an object of the module) -/
def Only (H : Hp) : Prop := ∀ b, H b = none ∨ ∃ o xs, H b = some (.frz o (.lst xs))

/-- THE HEAD: the law's promise, at the heap behind the top. F, the promise of the law's def, may use that base is part of the heap (so K.In base, base.Ns mainGlobals mg stand in Mod) -/
theorem law_call {P : Program} {w : World} {K : PySem.W.Frag} {mg mb : Str → Option Value} {CX : CXT} {k : Nat} {fa a : Addr} {fd : FuncData} {x : Str} {sp : Sp} {s₁ : Shared} {vs : List Value} {ns : List Int}
    (KX : K.In s₁.heap) (hns : s₁.heap.Ns mainGlobals mg) (hb : s₁.heap.Ns builtinsNs mb) (hbb : ∀ x : Str, x ≠ "__name__" → mb x = bootBuiltins x) (hlim : s₁.heap.NoLimit) (hg : s₁.gens = #[])
    (ha : s₁.heap.get? a = some { cls := .type "list", data := .seq vs.toArray }) (hi : IntsAre vs ns) (hl : ns.length ≤ sizeLine) (hr : Room k callerA)
    (F : ∀ base : Heap, K.In base → base.Ns mainGlobals mg → FnOk P w K mg base CX k fa fd [x] sp) (hbind : ∀ (s : Shared) (u : Value), BindsTo s fd ⟨[u], []⟩ [(x, u)])
    (hsp : ∀ H : Hp, Only H → SqL K H a (ns.map V.int) → sp [.ref a] H (fun v _ => v = .bl true) fun _ _ _ => False)
    (hCX : ∀ H e s', CX [] H s₁ (fun _ _ _ => False) e s' → False) :
    codeAny (model P w) callerA (.call (.ref fa) ⟨[.ref a], []⟩) (fun r s' => r = .ok (.ret (.bool true)) ∧ OldK s₁.heap s'.heap ∧ s'.os = s₁.os ∧ AllBare s'.gens) s₁ := by
  have rv := vals_ints hi
  have lenV := hi.length
  -- from an abstract heap in which nothing but the script may be tracked
  have core : ∀ H : Hp, Only H → SqL K H a (ns.map V.int) → HOk P w H s₁.heap → (∀ b, H b ≠ none → b = a) → (H a ≠ none → K.lookup a = none) →
      codeAny (model P w) callerA (.call (.ref fa) ⟨[.ref a], []⟩) (fun r s' => r = .ok (.ret (.bool true)) ∧ OldK s₁.heap s'.heap ∧ s'.os = s₁.os ∧ AllBare s'.gens) s₁ := by
    intro H hO hS hok hA hK
    have base_of : ∀ {b : Addr} {o : Obj}, s₁.heap.get? b = some o → H b = none → (hidT s₁.heap H).get? b = some o := fun e n => hidT_get e n
    have noA : ∀ {b : Addr} {o : Obj} {es : Array DictEntry} {ep : Nat}, s₁.heap.get? b = some o → o.data = .dict es ep → H b = none := fun {b o es ep} e d => by
      cases q : H b with
      | none => rfl
      | some u =>
        have e' : b = a := hA b (by rw [q]; simp)
        subst e'
        rw [ha] at e; cases e
        have d' : Data.seq vs.toArray _ = Data.dict es ep := d
        cases d'
    have nsK : ∀ {b : Addr} {m : Str → Option Value}, s₁.heap.Ns b m → (hidT s₁.heap H).Ns b m := fun {b m} ⟨o, es, ep, e, d, r⟩ => ⟨o, es, ep, base_of e (noA e d), d, r⟩
    have hKb : K.In (hidT s₁.heap H) := fun b o e => base_of (KX b o e) (by
      cases q : H b with
      | none => rfl
      | some u =>
        have e' : b = a := hA b (by rw [q]; simp)
        subst e'
        rw [hK (by rw [q]; simp)] at e; cases e)
    have hM : Mod K mg (hidT s₁.heap H) := ⟨hKb, nsK hns, ⟨mb, nsK hb, hbb⟩, let ⟨mc, h1, h2⟩ := hlim; ⟨mc, nsK h1, h2⟩⟩
    have e0 : Env0 P w K mg (hidT s₁.heap H) callerA [] s₁ H := ⟨rfl, hM, fun b o e => of_hidT e, Nat.le_of_eq (hidT_size _ _), trivial, fun b hb => absurd (show b ∈ ([] : List Addr) from hb) (by simp), hok, .of_eq hg⟩
    refine codeAny_mono ((F _ hKb (nsK hns)).run callerA [] s₁ H ⟨[.ref a], []⟩ [.ref a] [.ref a] _ _ hr e0 (hbind s₁ (.ref a)) (.cons rfl .nil) (hsp H hO hS)) fun r s' h => ?_
    cases r with
    | error e => exact (hCX H e s' h).elim
    | ok fl =>
      cases fl with
      | next => exact False.elim h
      | brk => exact False.elim h
      | cont => exact False.elim h
      | ret u =>
        obtain ⟨v, H', os, bare, un, hok', r', q⟩ := h
        have q' : v = .bl true := q
        subst q'
        obtain rfl : u = Value.bool true := r'
        refine ⟨rfl, OldK.of_keep fun b o e => ?_, os, bare⟩
        cases q : H b with
        | none => exact un.keep b o e q (by intro z; exact absurd (show b ∈ ([] : List Addr) from z) (by simp)) (by simp)
        | some u =>
          rcases hO b with z | ⟨ob, xs, z⟩
          · rw [q] at z; cases z
          · have z2 := un.frzs b ob _ z
            obtain ⟨e1, _⟩ := hok b _ z
            obtain ⟨e2, _⟩ := hok' b _ z2
            rw [e] at e1; cases e1
            exact e2
  cases hk : K.lookup a with
  | some o =>
    -- the script is one of the module's own objects
    have e := KX a o hk
    rw [ha] at e
    cases e
    refine core (fun _ => none) (fun _ => .inl rfl) (.inr ⟨_, vs.toArray, _, hk, rfl, rfl, rfl, by rw [List.size_toArray, lenV]; exact hl, by simpa using rv⟩) (fun b u z => by have z' : (none : Option HO) = some u := z; cases z') (fun b z => absurd rfl z) fun z => absurd rfl z
  | none =>
    refine core (fun b => if b = a then some (.frz { cls := .type "list", data := .seq vs.toArray } (.lst (ns.map V.int))) else none) (fun b => ?_) (.inl (.inr ⟨{ cls := .type "list", data := .seq vs.toArray }, if_pos rfl⟩)) (fun b u z => ?_) (fun b z => ?_) fun _ => hk
    · by_cases hb : b = a
      · exact .inr ⟨_, _, if_pos hb⟩
      · exact .inl (if_neg hb)
    · by_cases hb : b = a
      · have z' := (if_pos hb).symm.trans z
        cases z'
        subst hb
        exact ⟨ha, by rw [List.length_map]; exact hl, vs, _, rv, ha⟩
      · have z' := (if_neg hb).symm.trans z
        cases z'
    · by_cases hb : b = a
      · exact hb
      · exact absurd (if_neg hb) z
end L2

namespace L2
open PySem PySem.Spec PyProof.Rows

abbrev KOf {K : PySem.W.Frag} {h : Heap} (_ : K.In h) : PySem.W.Frag := K

/-- the goal that k_head leaves (case hc), from the law's promise. F gives the function object fd (K's own) once, then the promise over every base -/
theorem walk_of {l : PySem.W.OpenLaw} {n k : Nat} {q : Program} {loose : List Str} {XP : (Str → Option Value) → Heap → Prop} {YP : World → Heap → Prop} {d : DefRec} {K : Params → PySem.W.Frag} {CX : World → CXT} {sp : World → Sp} {x : Str}
    (hn : l.most = some n) (hn2 : n ≤ sizeLine) (hdf : d.params.defaults = []) (hr : Room k callerA)
    (hY : ∀ (w : World) (h : Heap), YP w h → (K w.params).In h)
    (F : ∀ (w : World) (mg : Str → Option Value) (fa : Addr) (h : Heap), (K w.params).In h → h.Ns mainGlobals mg → mg d.name = some (.ref fa) →
      ∃ fd : FuncData, (∀ (s : Shared) (u : Value), BindsTo s fd ⟨[u], []⟩ [(x, u)]) ∧
        ∀ base : Heap, (K w.params).In base → base.Ns mainGlobals mg → FnOk l.prog w (K w.params) mg base (CX w) k fa fd [x] (sp w))
    (hsp : ∀ (w : World) (H : Hp) (a : Addr) (ns : List Int), ns.length ≤ n → Only H → SqL (K w.params) H a (ns.map V.int) → sp w [.ref a] H (fun v _ => v = .bl true) fun _ _ _ => False)
    (hCX : ∀ (w : World) (H : Hp) (s : Shared) (e : Value) (s' : Shared), CX w [] H s (fun _ _ _ => False) e s' → False) :
    PySem.W.WalkO q loose XP YP l.row.toRowW d [] (fun f vs => PySem.call f vs) := by
  refine Att.attach_call hn hdf fun w s₀ s₁ mg mb fa o pm cd doc a vs ns G Y ho hd hcd hmg hobj hints hlen hg => ?_
  have KX := hY w _ Y
  obtain ⟨fd, hb, hF⟩ := F w mg fa _ KX G.T.g hmg
  exact law_call KX G.T.g G.T.b G.T.builtins G.T.nolimit hg hobj hints (Nat.le_trans hlen hn2) hr hF hb (fun H hO hS => hsp w H a ns hlen hO hS) fun H e s' => hCX w H s₁ e s'
end L2


/-! SHORT WORDS over the layer: a def of the text, its body, what a loop and a test want. -/
namespace L2
open PySem PySem.Spec PyProof.Rows

/-! ### the text by places -/
/-- the j-th statement of a class's body -/
def inClass (s : Stmt) (j : Nat) : Stmt := match s with
  | .ClassDef _ _ _ body _ _ _ _ _ _ _ => body.getD j (.Pass ⟨0, 0, 0, 0⟩)
  | _ => .Pass ⟨0, 0, 0, 0⟩
def defArgs (s : Stmt) : Arguments := match s with
  | .FunctionDef _ a _ _ _ _ _ _ _ _ => a
  | _ => { posonlyargs := [], args := [], vararg := none, kwonlyargs := [], kw_defaults := [], kwarg := none, defaults := [] }
def defBody (s : Stmt) : List Stmt := match s with
  | .FunctionDef _ _ b _ _ _ _ _ _ _ => b
  | _ => []
def defScope (s : Stmt) : Scope := match s with
  | .FunctionDef _ _ _ _ _ _ sc _ _ _ => sc
  | _ => { kind := .function, names := [], isGenerator := false, isCoroutine := false }

/-! ### no exception leaves a def -/
abbrev CX0 : CXT := fun _ _ _ _ _ _ => False
abbrev E0 : XK := fun _ _ _ => False
theorem pass0 {X : Cx} : Passes CX0 X E0 := fun _ _ _ _ _ _ _ h => h.elim

/-! ### a def (or method) of the text as it stands behind the top -/
structure Fun (K : PySem.W.Frag) (x qual : Str) (st : Stmt) (f : Addr) (fd : FuncData) : Prop where
  ex : ∃ (oc : Value) (od : Option Addr) (kV doc pm : Value) (an : Option Addr) (cdv ct : Value) (osl : Array (Option Value)),
    fd = PySem.W.fnOf x qual (defArgs st) (defBody st) (defScope st) .none kV doc pm an cdv ct ∧ K.lookup f = some ⟨oc, od, .func fd, osl⟩ ∧ PySem.W.codeIn K cdv qual = true
  kp : PySem.W.keepIn K (.ref f) = true
section
variable {P : Program} {w : World} {K : PySem.W.Frag} {mg : Str → Option Value} {base : Heap}
/-- THE RULE for a def: its body as a term of rules, and the reading of that term -/
theorem Fun.ok {x qual : Str} {st : Stmt} {f : Addr} {fd : FuncData} {N ps : List Str} {k : Nat} {sp : Sp} (F : Fun K x qual st f fd) (S : FnScope N ps (defScope st)) (len : ∀ vs H Q E, sp vs H Q E → vs.length = ps.length)
    (hbody : ∀ (cdv : Value) (A : Around) (outer : List Env) (s : Shared) (H : Hp) (vs : List V) (Q : VK) (E : XK), Room k (A.deeper (envOfC qual (defScope st) s.heap.objs.size f cdv)) → sp vs H Q E →
      ∃ t, PSs (cxOf CX0 P w K mg base N qual (defScope st) f cdv A outer s H E).nox (defBody st) t ∧ t { nx := fun _ H' => Q .non H', rt := Q } (start N vs) H) : FnOk P w K mg base CX0 (k + 1) f fd ps sp := by
  obtain ⟨oc, od, kV, doc, pm, an, cdv, ct, osl, rfl, lk, hcd⟩ := F.ex
  refine fn_of lk hcd S len fun A outer s H vs Q E hr hsp => ?_
  obtain ⟨t, h, q⟩ := hbody cdv A outer s H vs Q E hr hsp
  exact ⟨t, h.nox, q⟩
/-- how its arguments bind (no defaults): h is «fun _ _ _ _ _ _ us hl => match us, hl with | [_, _], _ => rfl», one _ a parameter -/
theorem Fun.binds {x qual : Str} {st : Stmt} {f : Addr} {fd : FuncData} {ps : List Str} (F : Fun K x qual st f fd)
    (h : ∀ (kV doc pm : Value) (an : Option Addr) (cdv ct : Value) (us : List Value), us.length = ps.length → bindArgs (PySem.W.fnOf x qual (defArgs st) (defBody st) (defScope st) .none kV doc pm an cdv ct) ⟨us, []⟩ = pure (ps.zip us)) : Binds K fd ps [] := by
  obtain ⟨oc, od, kV, doc, pm, an, cdv, ct, osl, rfl, lk, hcd⟩ := F.ex
  exact .all (h kV doc pm an cdv ct)
theorem fun_mk {x qual : Str} {st : Stmt} {f : Addr} {oc : Value} {od an : Option Addr} {osl : Array (Option Value)} {kV doc pm cdv ct : Value} (l : K.lookup f = some ⟨oc, od, .func (PySem.W.fnOf x qual (defArgs st) (defBody st) (defScope st) .none kV doc pm an cdv ct), osl⟩)
    (c : PySem.W.codeIn K cdv qual = true) (k : PySem.W.keepIn K (.ref f) = true) : Fun K x qual st f (PySem.W.fnOf x qual (defArgs st) (defBody st) (defScope st) .none kV doc pm an cdv ct) := ⟨⟨oc, od, kV, doc, pm, an, cdv, ct, osl, rfl, l, c⟩, k⟩
end
theorem hu_of {A : Around} {k : Nat} (hr : Room k A) : A.units + 1 < cLine := Nat.lt_of_le_of_lt (Nat.add_le_add_left (by decide : 1 ≤ 64) _) hr.units
theorem small1000 {n : Nat} (h : n ≤ 1000) : n < sizeLine := Nat.lt_of_le_of_lt h (by decide)

/-! ### expressions in short: the name that stands in the i-th slot -/
section
variable {X : Cx}
theorem pv (i : Nat) {x : Str} {pos : Pos} (hN : X.N[i]? = some x := by rfl) (hv : Vis X.env.scope x := by first | exact Or.inl rfl | exact Or.inr (Or.inl rfl) | exact Or.inr (Or.inr rfl)) (hd : (x == ("__debug__" : Str)) = false := by decide)
    (hcd : (x == ("__classdict__" : Str)) = false := by decide) : PE X (.Name x pos) (tVar i) := pe_var hN hv hd hcd
end

/-! ### tests -/
theorem iteF {A B : Prop} (h : B) : if false = true then A else B := by
  rw [if_neg Bool.false_ne_true]
  exact h
theorem iteT {A B : Prop} (h : A) : if true = true then A else B := by
  rw [if_pos rfl]
  exact h
theorem ite2 {c A B : Prop} [Decidable c] (h1 : c → A) (h2 : ¬ c → B) : if c then A else B := by
  by_cases h : c
  · rw [if_pos h]
    exact h1 h
  · rw [if_neg h]
    exact h2 h
theorem iteNS {c A B : Prop} [Decidable c] (hc : c) (h : B) : if (!decide c) = true then A else B := by
  rw [decide_eq_true hc]
  exact iteF h

/-! ### heaps -/
/-- all that was tracked is as it was -/
def Same (H H' : Hp) : Prop := ∀ b o, H b = some o → H' b = some o
theorem Same.refl (H : Hp) : Same H H := fun _ _ h => h
theorem Same.trans {H H1 H2 : Hp} (a : Same H H1) (b : Same H1 H2) : Same H H2 := fun c o h => b c o (a c o h)
theorem Same.free {H H' : Hp} (e : Same H H') {l : Addr} (h : H' l = Option.none) : H l = Option.none := by
  cases q : H l with
  | none => rfl
  | some o =>
    rw [e l o q] at h
    cases h
theorem Same.seq {K : PySem.W.Frag} {H H' : Hp} {a : Addr} {xs : List V} (e : Same H H') (h : SqL K H a xs) : SqL K H' a xs := by
  rcases h with (h | ⟨o, h⟩) | h
  · exact .inl (.inl (e _ _ h))
  · exact .inl (.inr ⟨o, e _ _ h⟩)
  · exact .inr h

end L2
/-! a comprehension over the hand layer -/
namespace L2
open PySem PySem.Spec PyProof.Rows

/-! ### the cells of a block -/
theorem closure_names {env : Env} : ∀ (names : List (Str × NameKind)) (acc : List (Str × Addr)), (∀ y ∈ names, y.2 = .free → ∃ c, env.cells.lookup y.1 = some c) →
    ∃ cl, (forIn names acc (fun (x : Str × NameKind) (cs : List (Str × Addr)) => if (x.2 == NameKind.free) = true then (do let c ← cellOf env x.1; pure (ForInStep.yield ((x.1, c) :: cs))) else pure (ForInStep.yield cs)) : Sem (List (Str × Addr))) = pure cl ∧
      (∀ x c, cl.lookup x = some c → env.cells.lookup x = some c ∨ acc.lookup x = some c) ∧ (∀ x c, acc.lookup x = some c → ∃ c', cl.lookup x = some c') ∧ ∀ y ∈ names, y.2 = .free → ∃ c, cl.lookup y.1 = some c
  | [], acc, _ => ⟨acc, rfl, fun _ _ h => .inr h, fun _ c h => ⟨c, h⟩, fun _ h => nomatch h⟩
  | (n, k) :: r, acc, h => by
    rw [List.forIn_cons]
    by_cases hk : k = .free
    · subst hk
      obtain ⟨c, hc⟩ := h (n, .free) List.mem_cons_self rfl
      obtain ⟨cl, h1, h2, h3, h4⟩ := closure_names r ((n, c) :: acc) fun y hy => h y (List.mem_cons_of_mem _ hy)
      refine ⟨cl, ?_, fun x d e => ?_, fun x d e => ?_, fun y hy e => ?_⟩
      · have e1 : cellOf env n = pure c := by unfold cellOf; rw [hc]
        simp only [beq_self_eq_true, if_true, e1, pure_bind]
        exact h1
      · rcases h2 x d e with z | z
        · exact .inl z
        · rw [List.lookup_cons] at z
          split at z
          · rename_i hx
            cases z
            have : x = n := eq_of_beq hx
            subst this
            exact .inl hc
          · exact .inr z
      · refine h3 x (if x == n then c else d) ?_
        rw [List.lookup_cons]
        cases hx : x == n with
        | true => simp [hx]
        | false => simp [hx, e]
      · rcases List.mem_cons.mp hy with z | z
        · subst z
          exact h3 n c (by simp [List.lookup_cons])
        · exact h4 y z e
    · have hb : (k == NameKind.free) = false := by simpa using hk
      obtain ⟨cl, h1, h2, h3, h4⟩ := closure_names r acc fun y hy => h y (List.mem_cons_of_mem _ hy)
      refine ⟨cl, ?_, h2, h3, fun y hy e => ?_⟩
      · simp only [hb, Bool.false_eq_true, if_false, pure_bind]
        exact h1
      · rcases List.mem_cons.mp hy with z | z
        · subst z
          exact absurd e hk
        · exact h4 y z e
theorem closure_ok {scope : Scope} {env : Env} (h : ∀ y ∈ scope.names, y.2 = .free → ∃ c, env.cells.lookup y.1 = some c) :
    ∃ cl, closureFor scope env = pure cl ∧ (∀ x c, cl.lookup x = some c → env.cells.lookup x = some c) ∧ ∀ y ∈ scope.names, y.2 = .free → ∃ c, cl.lookup y.1 = some c := by
  obtain ⟨cl, h1, h2, h3, h4⟩ := closure_names scope.names [] h
  refine ⟨cl, ?_, fun x c e => (h2 x c e).elim id fun z => (by cases z), h4⟩
  unfold closureFor
  refine Eq.trans ?_ h1
  refine Eq.trans (bind_pure _) ?_
  rfl

theorem lookup_relabel_free {env : Env} : ∀ {names : List (Str × NameKind)} {x : Str}, names.lookup x = some .free →
    (names.map fun (n, k) => if (k == NameKind.free && env.scope.kind == .function && env.kindOf n == some .cell) then (n, NameKind.cell) else (n, k)).lookup x = some .cell ∨
    (names.map fun (n, k) => if (k == NameKind.free && env.scope.kind == .function && env.kindOf n == some .cell) then (n, NameKind.cell) else (n, k)).lookup x = some .free
  | [], _, h => by simp at h
  | (n, k) :: r, x, h => by
    have ih := @lookup_relabel_free env r x
    show List.lookup x ((if (k == NameKind.free && env.scope.kind == .function && env.kindOf n == some .cell) = true then (n, NameKind.cell) else (n, k)) :: _) = _ ∨ List.lookup x ((if (k == NameKind.free && env.scope.kind == .function && env.kindOf n == some .cell) = true then (n, NameKind.cell) else (n, k)) :: _) = _
    by_cases hc : (k == NameKind.free && env.scope.kind == .function && env.kindOf n == some .cell) = true
    · rw [if_pos hc]
      cases hx : x == n with
      | true => simp only [List.lookup_cons, hx]; exact .inl trivial
      | false =>
        simp only [List.lookup_cons, hx] at h ⊢
        exact ih h
    · rw [if_neg hc]
      cases hx : x == n with
      | true =>
        simp only [List.lookup_cons, hx] at h ⊢
        exact .inr h
      | false =>
        simp only [List.lookup_cons, hx] at h ⊢
        exact ih h
theorem mem_relabel {env : Env} {names : List (Str × NameKind)} (hn : ∀ y ∈ names, y.2 ≠ .cell) {x : Str} {k : NameKind} (hk : k = .cell ∨ k = .free)
    (h : (names.map fun (n, k) => if (k == NameKind.free && env.scope.kind == .function && env.kindOf n == some .cell) then (n, NameKind.cell) else (n, k)).lookup x = some k) : (x, NameKind.free) ∈ names := by
  obtain ⟨⟨n, k'⟩, hm, e⟩ := List.mem_map.mp (PySem.mem_of_lookup h)
  simp only at e
  split at e
  · rename_i hc
    rw [Bool.and_eq_true, Bool.and_eq_true] at hc
    have : k' = .free := eq_of_beq hc.1.1
    subst this
    injection e with e1 _
    subst e1
    exact hm
  · injection e with e1 e2
    subst e1 e2
    rcases hk with z | z
    · exact absurd z (hn _ hm)
    · subst z; exact hm

/-! ### the block's context -/
/-- the context of a comprehension's block -/
def cxComp (X : Cx) (N : List Str) (scope : Scope) (cl : List (Str × Addr)) (C : Addr) (fp : List Addr) (s : Shared) (H : Hp) : Cx where
  prog := X.prog
  w := X.w
  K := X.K
  mg := X.mg
  base := X.base
  A := X.A
  N := N
  s₀ := s
  H₀ := H
  env := compEnvC scope cl C X.env
  outer := X.stack
  stack := X.stack
  ex := fp
  fn := fun _ => false
  calm := X.calm
  pn := []
  xe := fun _ _ => False
/-- the names of a block: own of them its own, then names of the def around it (its slots fr) -/
structure CompScope (sc : Scope) (XN N : List Str) (own : Nat) (fr : List Nat) (scope : Scope) : Prop where
  kind : scope.kind = .function
  nocell : ∀ y ∈ scope.names, y.2 ≠ .cell
  free : ∀ y ∈ scope.names, y.2 = .free → sc.names.lookup y.1 = some .cell ∨ sc.names.lookup y.1 = some .free
  loc : ∀ y ∈ scope.names, y.2 = .local → scope.names.lookup y.1 = some .local
  names : N.drop own = fr.filterMap fun i => XN[i]?
  frl : ∀ i ∈ fr, i < XN.length
  len : own ≤ N.length
  vis : ∀ x ∈ N.drop own, scope.names.lookup x = some .free
def σf (fr : List Nat) (σ : St) : St := fr.map fun i => σ.getD i none
def σc (own : Nat) (fr : List Nat) (σ : St) : St := List.replicate own none ++ σf fr σ

section
variable {X : Cx} {pins : List (Addr × Obj)} {σ : St} {H : Hp} {s : Shared} {N : List Str} {own : Nat} {fr : List Nat} {scope : Scope}

theorem filterMap_all {XN : List Str} : ∀ {fr : List Nat}, (∀ i ∈ fr, i < XN.length) → ∀ (j : Nat), (fr.filterMap fun i => XN[i]?)[j]? = (fr[j]?).bind fun i => XN[i]?
  | [], _, j => by simp
  | i :: r, h, j => by
    have hi : i < XN.length := h i List.mem_cons_self
    rw [List.filterMap_cons, List.getElem?_eq_getElem hi]
    cases j with
    | zero => simp [hi]
    | succ j => simpa using filterMap_all (fun k hk => h k (List.mem_cons_of_mem _ hk)) j

theorem inv_comp {cl : List (Str × Addr)} {fp : List Addr} {h' : Heap} (I : Inv X pins σ H s) (S : CompScope X.env.scope X.N N own fr scope) (hcl : ∀ x c, cl.lookup x = some c → X.env.cells.lookup x = some c)
    (hcf : ∀ y ∈ scope.names, y.2 = .free → ∃ c, cl.lookup y.1 = some c) (hfp : ∀ b ∈ fp, FpOk X pins H b) (hfo : ∀ b ∈ fp, ∃ o, s.heap.get? b = some o)
    (hns : h'.Ns s.heap.objs.size fun _ => none) (hk : ∀ b o, s.heap.get? b = some o → h'.get? b = some o) :
    Inv (cxComp X N scope cl s.heap.objs.size fp s H) [] (σc own fr σ) H { s with heap := h' } := by
  have kindE : ∀ x, (Env.kindOf (compEnvC scope cl s.heap.objs.size X.env) x) = (relabel scope X.env).names.lookup x := fun x => rfl
  have memF : ∀ x, (Env.kindOf (compEnvC scope cl s.heap.objs.size X.env) x = some .cell ∨ Env.kindOf (compEnvC scope cl s.heap.objs.size X.env) x = some .free) → (x, NameKind.free) ∈ scope.names := fun x hx => by
    rcases hx with z | z
    · exact mem_relabel (env := X.env) S.nocell (.inl rfl) z
    · exact mem_relabel (env := X.env) S.nocell (.inr rfl) z
  refine ⟨⟨I.ok.mod, S.kind, I.ok.glob, I.ok.blt, Nat.le_refl _, fun x y c h1 h2 => I.ok.inj x y c (hcl x c h1) (hcl y c h2), fun x hx => hcf (x, .free) (memF x hx) rfl, fun x c h => absurd (show false = true from h) (by decide), I.ok.hd, I.ok.frames, .inl rfl, fun b hb => ?_, I.bs, Nat.le_trans I.ok.bsz I.sz, fun b o e hb => ?_, fun b hb z => ?_, I.stack, I.stkFree⟩,
    rfl, I.bare, Un.kept hk, ⟨_, hns, fun i x v e1 e2 e3 => ?_⟩, fun x c e => ?_, I.hok.fresh (Nat.le_refl _), fun x c e => I.freeC x c (hcl x c e), fun p hp => absurd (show p ∈ ([] : List (Addr × Obj)) from hp) (by simp), I.hok.kept hk, ?_⟩
  · obtain ⟨o, ho⟩ := hfo b hb
    exact ⟨Nat.ne_of_lt (Heap.lt_size ho), fun x c e => (hfp b hb).2.2.2.2.1 x c (hcl x c e)⟩
  · rcases (hfp b hb).2.2.2.1 with z | z
    · exact I.ok.noex b o e z
    · exact absurd (Nat.lt_of_lt_of_le (Heap.lt_size (I.ok.bs b o e).1) z) (Nat.lt_irrefl _)
  · rcases List.mem_cons.mp (I.stkSub b z) with q | q
    · exact (hfp b hb).2.1 q
    · exact (hfp b hb).2.2.1 q
  · have hi : own ≤ i := by
      rcases Nat.lt_or_ge i own with z | z
      · have e2' : (σc own fr σ)[i]? = some (some v) := e2
        unfold σc at e2'
        rw [List.getElem?_append_left (by simpa using z), List.getElem?_replicate] at e2'
        split at e2' <;> cases e2'
      · exact z
    have e2' : (σf fr σ)[i - own]? = some (some v) := by
      have e2' : (σc own fr σ)[i]? = some (some v) := e2
      unfold σc at e2'
      rw [List.getElem?_append_right (by simpa using hi)] at e2'
      simpa using e2'
    have e1' : (N.drop own)[i - own]? = some x := by
      have e1' : N[i]? = some x := e1
      rw [List.getElem?_drop]
      rw [show own + (i - own) = i by omega]
      exact e1'
    have hv : scope.names.lookup x = some .free := S.vis x (List.mem_of_getElem? e1')
    have hx : X.env.scope.names.lookup x = some .cell ∨ X.env.scope.names.lookup x = some .free := S.free (x, .free) (PySem.mem_of_lookup hv) rfl
    rw [S.names, filterMap_all S.frl] at e1'
    unfold σf at e2'
    rw [List.getElem?_map] at e2'
    cases q : fr[i - own]? with
    | none => rw [q] at e2'; cases e2'
    | some j =>
      rw [q] at e1' e2'
      have e1'' : X.N[j]? = some x := e1'
      have e2'' : σ.getD j none = some v := Option.some.inj e2'
      have e3' : σ[j]? = some (some v) := by
        rw [List.getD_eq_getElem?_getD] at e2''
        cases z : σ[j]? with
        | none => rw [z] at e2''; cases e2''
        | some y => rw [z] at e2''; exact congrArg some e2''
      obtain ⟨m, hn, hl⟩ := I.loc
      obtain ⟨u, r, l⟩ := hl j x v e1'' e3' (.inr hx)
      refine ⟨u, r, .inr ⟨lookup_relabel_free (env := X.env) hv, ?_⟩⟩
      rcases l with ⟨k, _⟩ | ⟨_, c, hc, z⟩
      · have k' : X.env.scope.names.lookup x = some .local := k
        rw [k'] at hx
        rcases hx with z | z <;> cases z
      · obtain ⟨c', hc'⟩ := hcf (x, .free) (PySem.mem_of_lookup hv) rfl
        have := hcl x c' hc'
        rw [hc] at this
        cases this
        exact ⟨c, hc', z.keeps hk⟩
  · obtain ⟨v, z⟩ := I.cell x c (hcl x c e)
    exact ⟨v, z.keeps hk⟩
  · show (σc own fr σ).length = N.length
    unfold σc σf
    have h1 := congrArg List.length S.names
    have h2 : (fr.filterMap fun i => X.N[i]?).length = fr.length := by
      have : ∀ (l : List Nat), (∀ i ∈ l, i < X.N.length) → (l.filterMap fun i => X.N[i]?).length = l.length := by
        intro l
        induction l with
        | nil => intro _; rfl
        | cons i r ih =>
          intro h
          rw [List.filterMap_cons, List.getElem?_eq_getElem (h i List.mem_cons_self)]
          simp [ih fun k hk => h k (List.mem_cons_of_mem _ hk)]
      exact this fr S.frl
    rw [List.length_drop, h2] at h1
    rw [List.length_append, List.length_replicate, List.length_map]
    have := S.len
    omega
end

section
variable {prog : Program} {w : World} {A : Around} {R : Result → Shared → Prop} {s : Shared}
theorem compLoop_any {elt target iter : Expr} {ifs : List Expr} {scope : Scope} {pos : Pos} {it acc : Value} {env : Env} (I : Nat → Shared → Prop)
    (turn : ∀ n s, I n s → wpAny (model prog w) A (pyNext it) (fun r s₁ => match r with
      | none => R (.ok .next) s₁
      | some v => wpAny (model prog w) A (letOwnedTupleGo target it v) (fun _ s' => wpAny (model prog w) A (assign target env v) (fun _ s₂ =>
          wpAny (model prog w) A (forIn ifs true fun c r => if r = true then do let ok ← isTrue c env (eval c env); pure (ForInStep.yield ok) else pure (ForInStep.yield r)) (fun ok s₃ =>
            if ok = true then wpAny (model prog w) A (eval elt env) (fun x s₄ =>
              wpAny (model prog w) A (call (.builtin "list.append") [acc, x]) (fun _ s₅ => ∃ m, m < n ∧ I m s₅) (fun _ _ => False) s₄) (fun _ _ => False) s₃
            else ∃ m, m < n ∧ I m s₃) (fun _ _ => False) s₂) (fun _ _ => False) s') (fun _ _ => False) s₁) (fun _ _ => False) s)
    (n : Nat) (h : I n s) : codeAny (model prog w) A (.compLoop (.ListComp elt [⟨target, iter, ifs, 0⟩] scope pos) 0 it acc env) R s := by
  refine codeAny_loop rfl I (fun n s hI => ?_) n h
  show wpAny _ A ((compTurn (.ListComp elt [⟨target, iter, ifs, 0⟩] scope pos) 0 it acc env).onRaise (fun x => do noteFrame x env; theTreesLotGoes x)) _ _ s
  refine wpAny_noted ?_
  rw [compTurn_list]
  refine wpAny_bind (wpAny_standAt (wpAny_bind (wpAny_mono (turn n s hI) (fun r s₁ h₁ => ?_) fun _ _ z => False.elim z)))
  cases r with
  | none => exact wpAny_pure h₁
  | some v =>
    refine wpAny_bind (wpAny_mono h₁ (fun _ s' h' => ?_) fun _ _ z => False.elim z)
    refine wpAny_bind (wpAny_mono h' (fun _ s₂ h₂ => wpAny_bind (wpAny_mono h₂ (fun ok s₃ h₃ => ?_) fun _ _ z => False.elim z)) fun _ _ z => False.elim z)
    cases ok with
    | false => exact wpAny_pure ⟨rfl, h₃⟩
    | true =>
      exact wpAny_bind (wpAny_bind (wpAny_mono h₃ (fun x s₄ h₄ => wpAny_bind (wpAny_mono h₄ (fun _ s₅ h₅ => wpAny_pure (wpAny_pure ⟨rfl, h₅⟩)) fun _ _ z => False.elim z)) fun _ _ z => False.elim z))
end

/-- what a comprehension wants of its turns: the new list at a, its items ys so far -/
def CompW (J : It) (a : Addr) (own : Nat) (fr : List Nat) (g : TG) (tf : TT) (te : TE) (σ : St) (H1 : Hp) (Q : VK) : Prop :=
  ∃ (n : Nat) (Pv : Nat → List V → Hp → Prop), Pv 0 [] (upd H1 a (.lst [])) ∧ ∀ i ys H2, i ≤ n → H2 a = some (.lst ys) → Pv i ys H2 →
    (J.stop i H2 ∧ Q (.ref a) H2) ∨ (i < n ∧ J.go i H2 ∧ ∀ x H3, J.yld i H2 x H3 → g x (σc own fr σ) H3 fun σ4 H4 => (∃ ow, ow.length = own ∧ σ4 = ow ++ σf fr σ) ∧ tf σ4 H4 fun b H5 =>
      if b = true then te σ4 H5 fun y H6 => H6 a = some (.lst ys) ∧ ys.length < sizeLine ∧ Pv (i + 1) (ys ++ [y]) (upd H6 a (.lst (ys ++ [y])))
      else H5 a = some (.lst ys) ∧ Pv (i + 1) ys H5)

/-- the tests of a block -/
def PFs (X : Cx) (ifs : List Expr) (t : TT) : Prop :=
  ∀ (pins : List (Addr × Obj)) (s : Shared) (σ : St) (H : Hp) (Q : Bool → Hp → Prop), Inv X pins σ H s → t σ H Q →
    wpAny (model X.prog X.w) X.A (forIn ifs true fun c r => if r = true then do let ok ← isTrue c X.env (eval c X.env); pure (ForInStep.yield ok) else pure (ForInStep.yield r)) (TP X pins σ Q) X.xe s
def tNoIf : TT := fun _ H Q => Q true H
theorem pf_nil {X : Cx} : PFs X [] tNoIf := fun pins s σ H Q I h => wpAny_tests_nil ⟨H, I, h⟩
theorem pf_one {X : Cx} {c : Expr} {t : TT} (h : PT X c t) : PFs X [c] t := fun pins s σ H Q I hw => wpAny_tests_one (h pins s σ H Q I hw)

section
variable {X : Cx} {pins : List (Addr × Obj)} {σ : St} {H : Hp} {s : Shared} {N : List Str} {own : Nat} {fr : List Nat} {scope : Scope} {cl : List (Str × Addr)} {elt tg iter : Expr} {ifs : List Expr} {pos : Pos}
  {it : Addr} {fp : List Addr} {tn : Nat → Heap → Prop} {J : It} {g : TG} {tf : TT} {te : TE} {Q : VK} {E : Value → Shared → Prop}

theorem comp_block {RR : Value → Addr → Result → Shared → Prop} (hc : X.calm = true) (S : CompScope X.env.scope X.N N own fr scope) (hcl : ∀ x c, cl.lookup x = some c → X.env.cells.lookup x = some c)
    (hcf : ∀ y ∈ scope.names, y.2 = .free → ∃ c, cl.lookup y.1 = some c)
    (hg : ∀ C s H, PG (cxComp X N scope cl C fp s H) tg g) (hf : ∀ C s H, PFs (cxComp X N scope cl C fp s H) ifs tf) (he : ∀ C s H, PE (cxComp X N scope cl C fp s H) elt te)
    (I : Inv X pins σ H s) (T : Turn X.prog X.w X.K tg J fp it tn) (st : tn 0 s.heap) (hfp : ∀ b ∈ fp, FpOk X pins H b) (hw : ∀ a, H a = none → CompW J a own fr g tf te σ H Q)
    (hRR : ∀ a C s' H', Inv X pins σ H' s' → Q (.ref a) H' → FpOk X pins H' C → (∃ m, s'.heap.Ns C m) → RR (.ref a) C (.ok .next) s') :
    wpAny (model X.prog X.w) X.A (newList []) (fun acc s₃ => wpAny (model X.prog X.w) X.A (newFunctionEnv scope X.env.globals cl [] X.env.qual none .none (some X.env)) (fun cenv s₄ =>
      codeAny (model X.prog X.w) X.A (.compStart (.ListComp elt [⟨tg, iter, ifs, 0⟩] scope pos) 0 (.ref it) acc { cenv with scope := relabel scope X.env }) (RR acc cenv.locals) s₄) E s₃) E s := by
  refine wpAny_newObj_type (wpAny_newFunctionEnv S.nocell (by intro y hy; simp at hy) (fun h₁ hns₁ hsb₁ => ?_) S.kind)
  dsimp only at hns₁ hsb₁ ⊢
  have I3 : Inv X pins σ (upd H s.heap.objs.size (.lst [])) { s with heap := s.heap.push { cls := .type "list", dict := none, data := .seq ([] : List Value).toArray } } := I.lnew (ys := []) (t' := s.toks) .nil (Nat.zero_le _)
  have hfo : ∀ b ∈ fp, ∃ o, s.heap.get? b = some o := fun b hb => let ⟨o, ho, _⟩ := T.obj _ _ st b hb; ⟨o, ho⟩
  have hlt : ∀ b ∈ fp, b < s.heap.objs.size := fun b hb => let ⟨o, ho⟩ := hfo b hb; Heap.lt_size ho
  have fp3 : ∀ b ∈ fp, FpOk X pins (upd H s.heap.objs.size (.lst [])) b := fun b hb => ⟨by rw [upd_ne (Nat.ne_of_lt (hlt b hb))]; exact (hfp b hb).1, (hfp b hb).2⟩
  obtain ⟨n0, W, w0, turn⟩ := hw s.heap.objs.size I.fresh
  generalize hs3 : ({ s with heap := s.heap.push { cls := .type "list", dict := none, data := .seq ([] : List Value).toArray } } : Shared) = s3 at I3
  have eh : s3.heap = s.heap.push { cls := .type "list", dict := none, data := .seq ([] : List Value).toArray } := by rw [← hs3]
  rw [← eh] at hns₁ hsb₁ ⊢
  have hk : ∀ b o, s3.heap.get? b = some o → h₁.get? b = some o := fun b o e => hsb₁.extBut b o (Nat.ne_of_lt (Heap.lt_size e)) (Heap.get?_push_of_some _ e)
  have hk0 : ∀ b o, s.heap.get? b = some o → s3.heap.get? b = some o := fun b o e => by rw [eh]; exact Heap.get?_push_of_some _ e
  have J0 : Inv (cxComp X N scope cl s3.heap.objs.size fp s3 (upd H s.heap.objs.size (.lst []))) [] (σc own fr σ) (upd H s.heap.objs.size (.lst [])) { s3 with heap := h₁ } :=
    inv_comp I3 S hcl hcf fp3 (fun b hb => let ⟨o, ho⟩ := hfo b hb; ⟨o, hk0 b o ho⟩) hns₁ hk
  have st0 : tn 0 h₁ := T.keep _ _ _ st fun b _ o e => hk b o (hk0 b o e)
  have stat : ∀ {H' : Hp}, (∀ b ∈ fp, H' b = none) → ∀ b ∈ fp, FpOk (cxComp X N scope cl s3.heap.objs.size fp s3 (upd H s.heap.objs.size (.lst []))) [] H' b := fun hn b hb =>
    ⟨hn b hb, (J0.ok.exf b hb).1, J0.ok.exfs b hb, .inl hb, (J0.ok.exf b hb).2, fun p hp => absurd (show p ∈ ([] : List (Addr × Obj)) from hp) (by simp)⟩
  have loop : ∀ s4 : Shared, s4 = { s3 with heap := h₁ } → codeAny (model X.prog X.w) X.A (.compLoop (.ListComp elt [⟨tg, iter, ifs, 0⟩] scope pos) 0 (.ref it) (.ref s.heap.objs.size) (compEnvC scope cl s3.heap.objs.size X.env))
      (RR (.ref s.heap.objs.size) s3.heap.objs.size) s4 := by
    rintro s4 rfl
    refine compLoop_any (fun n s' => ∃ i ow H' ys, Inv (cxComp X N scope cl s3.heap.objs.size fp s3 (upd H s.heap.objs.size (.lst []))) [] (ow ++ σf fr σ) H' s' ∧ ow.length = own ∧ tn i s'.heap ∧ (∀ b ∈ fp, H' b = none) ∧ H' s.heap.objs.size = some (.lst ys) ∧ (n = n0 - i ∧ i ≤ n0) ∧ W i ys H') ?_ n0
      ⟨0, List.replicate own none, _, [], J0, by simp, st0, fun b hb => (fp3 b hb).1, upd_same, ⟨rfl, Nat.zero_le _⟩, w0⟩
    rintro n s5 ⟨i, ow, H5, ys, I5, hlo, st5, fr5, ha5, ⟨rfl, hi5⟩, w5⟩
    rcases turn i ys H5 hi5 ha5 w5 with ⟨stop, qn⟩ | ⟨hin, go, step⟩
    · refine thn (T.done (cxComp X N scope cl s3.heap.objs.size fp s3 (upd H s.heap.objs.size (.lst []))) rfl rfl rfl hc i [] s5 _ H5 (fun _ _ => False) I5 (stat fr5) st5 stop) fun r s6 ⟨hr, I6⟩ => ?_
      subst hr
      have IX : Inv X pins σ H5 s6 := I3.call' I6.os I6.base I6.hok I6.bare fun b hb => let ⟨_, f2, _, f4, f5, f6⟩ := fp3 b hb; ⟨f4, f2, f5, f6⟩
      refine hRR _ _ s6 H5 IX qn (I3.fpOk (Nat.le_refl _) I6.free) ?_
      obtain ⟨m, hn, _⟩ := I6.loc
      exact ⟨m, hn⟩
    · refine thn (T.item (cxComp X N scope cl s3.heap.objs.size fp s3 (upd H s.heap.objs.size (.lst []))) rfl rfl rfl hc i [] s5 _ H5 (fun _ _ => False) I5 (stat fr5) st5 go) fun r s6 ⟨u, hr, h6⟩ => ?_
      subst hr
      refine thn h6 fun _ s7 ⟨x, H7, I7, r7, y7, st7, fr7⟩ => ?_
      have I7' := (I7.pinned (stat fr7) (T.obj _ _ st7)).weak (σ' := σc own fr σ) (by unfold σc; simp [hlo]) (fun j v e => by
        unfold σc at e
        rcases Nat.lt_or_ge j own with z | z
        · rw [List.getElem?_append_left (by simpa using z), List.getElem?_replicate] at e
          split at e <;> cases e
        · rw [List.getElem?_append_right (by simpa using z)] at e
          rw [List.getElem?_append_right (by rw [hlo]; exact z), hlo]
          simpa using e)
      refine thn (hg _ _ _ _ s7 _ H7 x u _ I7' r7 (step x H7 y7)) fun _ s8 ⟨σ8, H8, I8, ⟨ow8, hl8, e8⟩, q8⟩ => ?_
      refine thn (hf _ _ _ _ s8 _ H8 _ I8 q8) fun ok s9 ⟨H9, I9, q9⟩ => ?_
      have again : ∀ {H' : Hp} {s' : Shared}, Inv (cxComp X N scope cl s3.heap.objs.size fp s3 (upd H s.heap.objs.size (.lst []))) ([] ++ pinsAt fp s7.heap) σ8 H' s' → ∀ {ys' : List V}, H' s.heap.objs.size = some (.lst ys') → W (i + 1) ys' H' →
          ∃ m, m < n0 - i ∧ ∃ i ow H' ys, Inv (cxComp X N scope cl s3.heap.objs.size fp s3 (upd H s.heap.objs.size (.lst []))) [] (ow ++ σf fr σ) H' s' ∧ ow.length = own ∧ tn i s'.heap ∧ (∀ b ∈ fp, H' b = none) ∧ H' s.heap.objs.size = some (.lst ys) ∧ (m = n0 - i ∧ i ≤ n0) ∧ W i ys H' := fun {H' s'} I' {ys'} ha hw' => by
        refine ⟨n0 - (i + 1), by omega, i + 1, ow8, H', ys', e8 ▸ I'.unpinned, hl8, T.keep _ _ _ st7 fun b hb o e => (I'.pin (b, o) (List.mem_append_right _ (List.mem_append_right _ (mem_pinsAt hb e)))).1, fun b hb => ?_, ha, ⟨rfl, hin⟩, hw'⟩
        obtain ⟨o, e, _⟩ := T.obj _ _ st7 b hb
        exact (I'.pin (b, o) (List.mem_append_right _ (List.mem_append_right _ (mem_pinsAt hb e)))).2.1
      cases ok with
      | false =>
        have q9' : H9 s.heap.objs.size = some (.lst ys) ∧ W (i + 1) ys H9 := by simpa using q9
        obtain ⟨ha, hw'⟩ := q9'
        show if false = true then _ else _
        rw [if_neg (by decide)]
        exact again I9 ha hw'
      | true =>
        rw [if_pos rfl] at q9
        show if true = true then _ else _
        rw [if_pos rfl]
        refine thn (he _ _ _ _ s9 _ H9 _ I9 q9) fun y s10 ⟨v10, H10, I10, r10, ha10, hz10, hw'⟩ => ?_
        refine thn (mt_append _ s10 _ H10 (.ref s.heap.objs.size) [v10] (.ref s.heap.objs.size) [y] (fun _ H' => H' = upd H10 s.heap.objs.size (.lst (ys ++ [v10]))) I10 rfl (.cons r10 .nil) ⟨_, ys, v10, rfl, rfl, ha10, hz10, rfl⟩) fun _ s11 ⟨_, H11, I11, _, e11⟩ => ?_
        subst e11
        exact again I11 upd_same hw'
  exact codeAny_compStart_list (loop _ (by rw [← hs3]; rfl)) (T.self X.A 0 _ _ _ st0 (loop _ (by rw [← hs3]; rfl)))
end

def tComp (own : Nat) (fr : List Nat) (wi : TI) (g : TG) (tf : TT) (te : TE) : TE := fun σ H Q => wi σ H fun J H1 => ∀ a, H1 a = none → CompW J a own fr g tf te σ H1 Q
section
variable {X : Cx} {sc : Scope} {XN N : List Str} {own : Nat} {fr : List Nat} {scope : Scope} {elt tg iter : Expr} {ifs : List Expr} {pos : Pos} {wi : TI} {g : TG} {tf : TT} {te : TE}
theorem pe_comp (hc : X.calm = true) (S : CompScope sc XN N own fr scope) (hi : PI X tg iter wi)
    (hg : ∀ cl C fp s H, PG (cxComp X N scope cl C fp s H) tg g) (hf : ∀ cl C fp s H, PFs (cxComp X N scope cl C fp s H) ifs tf) (he : ∀ cl C fp s H, PE (cxComp X N scope cl C fp s H) elt te)
    (hs : ∀ x, foldedSetIterable iter X.env x = pure x := by intro _; rfl) (hsc : X.env.scope = sc := by rfl) (hxn : X.N = XN := by rfl) : PE X (.ListComp elt [⟨tg, iter, ifs, 0⟩] scope pos) (tComp own fr wi g tf te) := by
  subst hsc hxn
  intro pins s σ H Q I h
  obtain ⟨cl, c1, c2, c3⟩ := closure_ok (scope := scope) (env := X.env) fun y hy e => I.ok.has y.1 (S.free y hy e)
  rw [eval_ListComp]
  refine wpAny_comprehension_free (use := none) rfl hs c1 S.kind S.loc (thn (hi pins s σ H _ I h) fun xv s1 h1 => thn h1 fun itv s2 h2 => ?_)
  obtain ⟨it, fp, tn, J, H2, e, I2, T, st2, f2, hw⟩ := h2
  subst e
  refine comp_block hc S c2 c3 (fun C s H => hg cl C fp s H) (fun C s H => hf cl C fp s H) (fun C s H => he cl C fp s H) I2 T st2 f2 hw fun a C s' H' I' q fC ⟨m, hn⟩ => ?_
  refine ⟨m, hn, fun h' hs' => ?_⟩
  obtain ⟨f0, f1, _, f3, f4, f5⟩ := fC
  exact ⟨.ref a, H', I'.turned (t' := s'.toks) (fun b o hb e => hs'.extBut b o hb e) f0 f1 f3 f4 f5, rfl, q⟩
end

/-! ### the forms one uses -/
theorem comp_list {K : PySem.W.Frag} {l a : Addr} {xs : List V} {own : Nat} {fr : List Nat} {g : TG} {tf : TT} {te : TE} {σ : St} {H1 : Hp} {Q : VK} (Pv : Nat → List V → Hp → Prop)
    (h0 : Pv 0 [] (upd H1 a (.lst []))) (hl : ∀ i ys H, i ≤ xs.length → H a = some (.lst ys) → Pv i ys H → SqL K H l xs)
    (hs : ∀ i x ys H3, xs[i]? = some x → H3 a = some (.lst ys) → Pv i ys H3 → g x (σc own fr σ) H3 fun σ4 H4 => (∃ ow, ow.length = own ∧ σ4 = ow ++ σf fr σ) ∧ tf σ4 H4 fun b H5 =>
      if b = true then te σ4 H5 fun y H6 => H6 a = some (.lst ys) ∧ ys.length < sizeLine ∧ Pv (i + 1) (ys ++ [y]) (upd H6 a (.lst (ys ++ [y]))) else H5 a = some (.lst ys) ∧ Pv (i + 1) ys H5)
    (hd : ∀ ys H, H a = some (.lst ys) → Pv xs.length ys H → Q (.ref a) H) : CompW (Itl K l) a own fr g tf te σ H1 Q := by
  refine ⟨xs.length, Pv, h0, fun i ys H hi ha p => ?_⟩
  have q := hl i ys H hi ha p
  by_cases hlt : i < xs.length
  · refine .inr ⟨hlt, ⟨xs, xs[i], q, by simp [hlt]⟩, fun x H' y => ?_⟩
    obtain ⟨e, y⟩ := y
    subst e
    exact hs i x ys _ (y xs q) ha p
  · have e : i = xs.length := by omega
    subst e
    exact .inl ⟨⟨xs, q, Nat.le_refl _⟩, hd ys H ha p⟩
theorem comp_range {lo : Int} {n : Nat} {a : Addr} {own : Nat} {fr : List Nat} {g : TG} {tf : TT} {te : TE} {σ : St} {H1 : Hp} {Q : VK} (Pv : Nat → List V → Hp → Prop)
    (h0 : Pv 0 [] (upd H1 a (.lst [])))
    (hs : ∀ i ys H3, i < n → H3 a = some (.lst ys) → Pv i ys H3 → g (.int (lo + i)) (σc own fr σ) H3 fun σ4 H4 => (∃ ow, ow.length = own ∧ σ4 = ow ++ σf fr σ) ∧ tf σ4 H4 fun b H5 =>
      if b = true then te σ4 H5 fun y H6 => H6 a = some (.lst ys) ∧ ys.length < sizeLine ∧ Pv (i + 1) (ys ++ [y]) (upd H6 a (.lst (ys ++ [y]))) else H5 a = some (.lst ys) ∧ Pv (i + 1) ys H5)
    (hd : ∀ ys H, H a = some (.lst ys) → Pv n ys H → Q (.ref a) H) : CompW (Itr lo n) a own fr g tf te σ H1 Q := by
  refine ⟨n, Pv, h0, fun i ys H hi ha p => ?_⟩
  by_cases hlt : i < n
  · refine .inr ⟨hlt, hlt, fun x H' y => ?_⟩
    obtain ⟨e, y⟩ := y
    subst e y
    exact hs i ys _ hlt ha p
  · have e : i = n := by omega
    subst e
    exact .inl ⟨Nat.le_refl _, hd ys H ha p⟩
end L2
/-! further words over the hand layer: isinstance, sum, all, any, == of lists, [::-1], is True, // of any size -/
namespace L2
open PySem PySem.Spec PyProof.Rows
section
variable {X : Cx}

/-! ### isinstance -/
def TyV (K : PySem.W.Frag) (T : String) (x : V) (H : Hp) (b : Bool) : Prop := match x with
  | .non => b = false
  | .bl _ => b = (T == "bool" || T == "int")
  | .int _ => b = (T == "int")
  | .str _ => b = (T == "str")
  | .ref a => (∃ xs, SqL K H a xs ∧ b = (T == "list")) ∨ (∃ xs, SqT K H a xs ∧ b = (T == "tuple")) ∨ (∃ kvs, H a = some (.dK kvs) ∧ b = (T == "dict"))
  | _ => False
theorem isi_none {prog : Program} {w : World} {A : Around} {E : Value → Shared → Prop} {s : Shared} {Q : Value → Shared → Prop} {T : String} (hne : (Value.type "NoneType" == Value.type T) = false) (hty : typeOf (.type T) = pure (.type "type"))
    (hsub : isSubtype (.type "NoneType") (.type T) = pure false) (h : Q (.bool false) { s with toks := s.toks + 1 }) : wpAny (model prog w) A (call (.builtin "isinstance") [.none, .type T]) Q E s :=
  call_isinstance (S := fun _ R s => R (.ok (.ret (.bool false))) { s with toks := s.toks + 1 }) (fun _ _ _ _ s hs => by
    obtain ⟨h, g, d, t, os⟩ := s
    exact isinstance_outer (isinstance_nested_false_none hne hty hsub hs)) h
theorem Inv.lcls {pins : List (Addr × Obj)} {σ : St} {H : Hp} {s : Shared} {a : Addr} {xs : List V} (I : Inv X pins σ H s) (h : SqL X.K H a xs) : ∃ o, s.heap.get? a = some o ∧ o.cls = .type "list" := by
  obtain ⟨its, r, pl, hz⟩ := I.list h
  obtain ⟨o, ho, hc, _⟩ := pl.isList
  exact ⟨o, ho, hc⟩
theorem Inv.tcls {pins : List (Addr × Obj)} {σ : St} {H : Hp} {s : Shared} {a : Addr} {xs : List V} (I : Inv X pins σ H s) (h : SqT X.K H a xs) : ∃ o, s.heap.get? a = some o ∧ o.cls = .type "tuple" := by
  obtain ⟨its, r, ⟨o, ho, hc, _⟩, hz⟩ := I.tuple h
  exact ⟨o, ho, hc⟩
theorem Inv.dcls {pins : List (Addr × Obj)} {σ : St} {H : Hp} {s : Shared} {a : Addr} {kvs : List (Key × V)} (I : Inv X pins σ H s) (h : H a = some (.dK kvs)) : ∃ o, s.heap.get? a = some o ∧ o.cls = .type "dict" := by
  obtain ⟨_, _, vs, _, dd⟩ := I.hok a _ h
  obtain ⟨o, ho, hc⟩ := dd.typeIs
  exact ⟨o, ho, hc⟩
theorem call_isi_int : CallR X (.builtin "isinstance") (fun xs H Q => ∃ x b, xs = [x, .ty "int"] ∧ TyV X.K "int" x H b ∧ Q (.bl b) H) := by
  intro pins s σ H xs us Q I r h
  obtain ⟨x, b, rfl, hx, q⟩ := h
  obtain ⟨u, w', rfl, rx, ry⟩ := vals2 r
  cases ry
  cases x with
  | non => cases rx; cases hx; exact isi_none (by decide +kernel) F.isi_meta_int F.sub_NoneType_int ⟨.bl _, H, I.tok _, rfl, q⟩
  | bl k => cases rx; cases hx; exact IsiPair.bool_int ⟨.bl _, H, I, rfl, q⟩
  | int i => obtain ⟨t, rfl⟩ := rx; cases hx; exact IsiPair.int_int ⟨.bl _, H, I, rfl, q⟩
  | str i => obtain ⟨t, rfl⟩ := rx; cases hx; exact IsiPair.str_int ⟨.bl _, H, I.tok _, rfl, q⟩
  | ref a =>
    cases rx
    rcases hx with ⟨xs, hx, rfl⟩ | ⟨xs, hx, rfl⟩ | ⟨xs, hx, rfl⟩
    · obtain ⟨o, ho, hc⟩ := I.lcls hx; exact IsiPair.list_int ho hc ⟨.bl _, H, I.tok _, rfl, q⟩
    · obtain ⟨o, ho, hc⟩ := I.tcls hx; exact IsiPair.tuple_int ho hc ⟨.bl _, H, I.tok _, rfl, q⟩
    · obtain ⟨o, ho, hc⟩ := I.dcls hx; exact IsiPair.dict_int ho hc ⟨.bl _, H, I.tok _, rfl, q⟩
  | _ => exact False.elim hx
theorem call_isi_bool : CallR X (.builtin "isinstance") (fun xs H Q => ∃ x b, xs = [x, .ty "bool"] ∧ TyV X.K "bool" x H b ∧ Q (.bl b) H) := by
  intro pins s σ H xs us Q I r h
  obtain ⟨x, b, rfl, hx, q⟩ := h
  obtain ⟨u, w', rfl, rx, ry⟩ := vals2 r
  cases ry
  cases x with
  | non => cases rx; cases hx; exact isi_none (by decide +kernel) F.isi_meta_bool F.sub_NoneType_bool ⟨.bl _, H, I.tok _, rfl, q⟩
  | bl k => cases rx; cases hx; exact IsiPair.bool_bool ⟨.bl _, H, I, rfl, q⟩
  | int i => obtain ⟨t, rfl⟩ := rx; cases hx; exact IsiPair.int_bool ⟨.bl _, H, I.tok _, rfl, q⟩
  | str i => obtain ⟨t, rfl⟩ := rx; cases hx; exact IsiPair.str_bool ⟨.bl _, H, I.tok _, rfl, q⟩
  | ref a =>
    cases rx
    rcases hx with ⟨xs, hx, rfl⟩ | ⟨xs, hx, rfl⟩ | ⟨xs, hx, rfl⟩
    · obtain ⟨o, ho, hc⟩ := I.lcls hx; exact IsiPair.list_bool ho hc ⟨.bl _, H, I.tok _, rfl, q⟩
    · obtain ⟨o, ho, hc⟩ := I.tcls hx; exact IsiPair.tuple_bool ho hc ⟨.bl _, H, I.tok _, rfl, q⟩
    · obtain ⟨o, ho, hc⟩ := I.dcls hx; exact IsiPair.dict_bool ho hc ⟨.bl _, H, I.tok _, rfl, q⟩
  | _ => exact False.elim hx
theorem call_isi_str : CallR X (.builtin "isinstance") (fun xs H Q => ∃ x b, xs = [x, .ty "str"] ∧ TyV X.K "str" x H b ∧ Q (.bl b) H) := by
  intro pins s σ H xs us Q I r h
  obtain ⟨x, b, rfl, hx, q⟩ := h
  obtain ⟨u, w', rfl, rx, ry⟩ := vals2 r
  cases ry
  cases x with
  | non => cases rx; cases hx; exact isi_none (by decide +kernel) F.isi_meta_str F.sub_NoneType_str ⟨.bl _, H, I.tok _, rfl, q⟩
  | bl k => cases rx; cases hx; exact IsiPair.bool_str ⟨.bl _, H, I.tok _, rfl, q⟩
  | int i => obtain ⟨t, rfl⟩ := rx; cases hx; exact IsiPair.int_str ⟨.bl _, H, I.tok _, rfl, q⟩
  | str i => obtain ⟨t, rfl⟩ := rx; cases hx; exact IsiPair.str_str ⟨.bl _, H, I, rfl, q⟩
  | ref a =>
    cases rx
    rcases hx with ⟨xs, hx, rfl⟩ | ⟨xs, hx, rfl⟩ | ⟨xs, hx, rfl⟩
    · obtain ⟨o, ho, hc⟩ := I.lcls hx; exact IsiPair.list_str ho hc ⟨.bl _, H, I.tok _, rfl, q⟩
    · obtain ⟨o, ho, hc⟩ := I.tcls hx; exact IsiPair.tuple_str ho hc ⟨.bl _, H, I.tok _, rfl, q⟩
    · obtain ⟨o, ho, hc⟩ := I.dcls hx; exact IsiPair.dict_str ho hc ⟨.bl _, H, I.tok _, rfl, q⟩
  | _ => exact False.elim hx
theorem call_isi_list : CallR X (.builtin "isinstance") (fun xs H Q => ∃ x b, xs = [x, .ty "list"] ∧ TyV X.K "list" x H b ∧ Q (.bl b) H) := by
  intro pins s σ H xs us Q I r h
  obtain ⟨x, b, rfl, hx, q⟩ := h
  obtain ⟨u, w', rfl, rx, ry⟩ := vals2 r
  cases ry
  cases x with
  | non => cases rx; cases hx; exact isi_none (by decide +kernel) F.isi_meta_list F.sub_NoneType_list ⟨.bl _, H, I.tok _, rfl, q⟩
  | bl k => cases rx; cases hx; exact IsiPair.bool_list ⟨.bl _, H, I.tok _, rfl, q⟩
  | int i => obtain ⟨t, rfl⟩ := rx; cases hx; exact IsiPair.int_list ⟨.bl _, H, I.tok _, rfl, q⟩
  | str i => obtain ⟨t, rfl⟩ := rx; cases hx; exact IsiPair.str_list ⟨.bl _, H, I.tok _, rfl, q⟩
  | ref a =>
    cases rx
    rcases hx with ⟨xs, hx, rfl⟩ | ⟨xs, hx, rfl⟩ | ⟨xs, hx, rfl⟩
    · obtain ⟨o, ho, hc⟩ := I.lcls hx; exact IsiPair.list_list ho hc ⟨.bl _, H, I, rfl, q⟩
    · obtain ⟨o, ho, hc⟩ := I.tcls hx; exact IsiPair.tuple_list ho hc ⟨.bl _, H, I.tok _, rfl, q⟩
    · obtain ⟨o, ho, hc⟩ := I.dcls hx; exact IsiPair.dict_list ho hc ⟨.bl _, H, I.tok _, rfl, q⟩
  | _ => exact False.elim hx
theorem call_isi_tuple : CallR X (.builtin "isinstance") (fun xs H Q => ∃ x b, xs = [x, .ty "tuple"] ∧ TyV X.K "tuple" x H b ∧ Q (.bl b) H) := by
  intro pins s σ H xs us Q I r h
  obtain ⟨x, b, rfl, hx, q⟩ := h
  obtain ⟨u, w', rfl, rx, ry⟩ := vals2 r
  cases ry
  cases x with
  | non => cases rx; cases hx; exact isi_none (by decide +kernel) F.isi_meta_tuple F.sub_NoneType_tuple ⟨.bl _, H, I.tok _, rfl, q⟩
  | bl k => cases rx; cases hx; exact IsiPair.bool_tuple ⟨.bl _, H, I.tok _, rfl, q⟩
  | int i => obtain ⟨t, rfl⟩ := rx; cases hx; exact IsiPair.int_tuple ⟨.bl _, H, I.tok _, rfl, q⟩
  | str i => obtain ⟨t, rfl⟩ := rx; cases hx; exact IsiPair.str_tuple ⟨.bl _, H, I.tok _, rfl, q⟩
  | ref a =>
    cases rx
    rcases hx with ⟨xs, hx, rfl⟩ | ⟨xs, hx, rfl⟩ | ⟨xs, hx, rfl⟩
    · obtain ⟨o, ho, hc⟩ := I.lcls hx; exact IsiPair.list_tuple ho hc ⟨.bl _, H, I.tok _, rfl, q⟩
    · obtain ⟨o, ho, hc⟩ := I.tcls hx; exact IsiPair.tuple_tuple ho hc ⟨.bl _, H, I, rfl, q⟩
    · obtain ⟨o, ho, hc⟩ := I.dcls hx; exact IsiPair.dict_tuple ho hc ⟨.bl _, H, I.tok _, rfl, q⟩
  | _ => exact False.elim hx
theorem call_isi_dict : CallR X (.builtin "isinstance") (fun xs H Q => ∃ x b, xs = [x, .ty "dict"] ∧ TyV X.K "dict" x H b ∧ Q (.bl b) H) := by
  intro pins s σ H xs us Q I r h
  obtain ⟨x, b, rfl, hx, q⟩ := h
  obtain ⟨u, w', rfl, rx, ry⟩ := vals2 r
  cases ry
  cases x with
  | non => cases rx; cases hx; exact isi_none (by decide +kernel) F.isi_meta_dict F.sub_NoneType_dict ⟨.bl _, H, I.tok _, rfl, q⟩
  | bl k => cases rx; cases hx; exact IsiPair.bool_dict ⟨.bl _, H, I.tok _, rfl, q⟩
  | int i => obtain ⟨t, rfl⟩ := rx; cases hx; exact IsiPair.int_dict ⟨.bl _, H, I.tok _, rfl, q⟩
  | str i => obtain ⟨t, rfl⟩ := rx; cases hx; exact IsiPair.str_dict ⟨.bl _, H, I.tok _, rfl, q⟩
  | ref a =>
    cases rx
    rcases hx with ⟨xs, hx, rfl⟩ | ⟨xs, hx, rfl⟩ | ⟨xs, hx, rfl⟩
    · obtain ⟨o, ho, hc⟩ := I.lcls hx; exact IsiPair.list_dict ho hc ⟨.bl _, H, I.tok _, rfl, q⟩
    · obtain ⟨o, ho, hc⟩ := I.tcls hx; exact IsiPair.tuple_dict ho hc ⟨.bl _, H, I.tok _, rfl, q⟩
    · obtain ⟨o, ho, hc⟩ := I.dcls hx; exact IsiPair.dict_dict ho hc ⟨.bl _, H, I, rfl, q⟩
  | _ => exact False.elim hx
/-- the tuple (list, tuple), known to the object -/
def ltObj : Obj := { cls := .type "tuple", data := .seq [Value.type "list", Value.type "tuple"].toArray }
def ltO : HO := .frz ltObj (.tup [.ty "list", .ty "tuple"])
def LtV (K : PySem.W.Frag) (x : V) (H : Hp) (b : Bool) : Prop := match x with
  | .non => b = false
  | .bl _ => b = false
  | .int _ => b = false
  | .str _ => b = false
  | .ref a => (∃ xs, SqL K H a xs ∧ b = true) ∨ (∃ xs, SqT K H a xs ∧ b = true) ∨ (∃ kvs, H a = some (.dK kvs) ∧ b = false)
  | _ => False
theorem pe_lt {l t : Expr} {k : Nat} {pos : Pos} (hl : PE X l (tC (.ty "list"))) (ht : PE X t (tC (.ty "tuple"))) (h1 : starEach [l, t] X.env = (false, eval l X.env) :: starEach [t] X.env := by rfl) (h2 : starEach [t] X.env = (false, eval t X.env) :: starEach [] X.env := by rfl) :
    PE X (.Tuple [l, t] k pos) (fun _ H Q => ∀ p, H p = none → Q (.ref p) (upd H p ltO)) := by
  intro pins s σ H Q I hq
  refine wpAny_Tuple_spliced (thn ((pa_cons hl (pa_cons ht pa_nil h2) h1) pos pins s σ H (fun vs H1 => vs = [.ty "list", .ty "tuple"] ∧ H1 = H) I ⟨rfl, rfl⟩) fun us s1 ⟨xs, H1, I1, r, e1, e2⟩ => ?_)
  subst e1 e2
  obtain ⟨u, w', rfl, rx, ry⟩ := vals2 r
  cases rx
  cases ry
  refine ⟨by show 2 ≤ sizeLine; decide, ?_⟩
  refine ⟨.ref s1.heap.objs.size, _, I1.laid (t' := s1.toks) (o := ltO) (fun b ob q => Heap.get?_push_of_some _ q) (Nat.le_refl _) ?_, rfl, hq _ (I1.hok.fresh (Nat.le_refl _))⟩
  exact ⟨Heap.get?_push_size _ rfl, by show 2 ≤ sizeLine; decide, [Value.type "list", Value.type "tuple"], .cons rfl (.cons rfl .nil), IsTup.new _ _⟩
theorem call_isi_lt : CallR X (.builtin "isinstance") (fun xs H Q => ∃ x t b, xs = [x, .ref t] ∧ H t = some ltO ∧ LtV X.K x H b ∧ Q (.bl b) H) := by
  intro pins s σ H xs us Q I r h
  obtain ⟨x, t, b, rfl, hH, hx, q⟩ := h
  obtain ⟨u, w', rfl, rx, ry⟩ := vals2 r
  cases ry
  have ht : s.heap.get? t = some ltObj := (I.hok t _ hH).1
  cases x with
  | non =>
    cases rx; cases hx
    exact IsiPair.tupleOf (Tx := "NoneType") (cs := [.type "list", .type "tuple"]) (vs := [false, false]) ⟨Answers.of_false_none (by decide +kernel) F.isi_meta_list F.sub_NoneType_list, Answers.of_false_none (by decide +kernel) F.isi_meta_tuple F.sub_NoneType_tuple, trivial⟩ rfl ht fun tk => ⟨.bl _, H, I.tok _, rfl, q⟩
  | bl k =>
    cases rx; cases hx
    exact IsiPair.tupleOf (Tx := "bool") (cs := [.type "list", .type "tuple"]) (vs := [false, false]) ⟨Answers.of_false_bool (by decide +kernel) F.isi_meta_list F.sub_bool_list, Answers.of_false_bool (by decide +kernel) F.isi_meta_tuple F.sub_bool_tuple, trivial⟩ rfl ht fun tk => ⟨.bl _, H, I.tok _, rfl, q⟩
  | int i =>
    obtain ⟨t', rfl⟩ := rx; cases hx
    exact IsiPair.tupleOf (Tx := "int") (cs := [.type "list", .type "tuple"]) (vs := [false, false]) ⟨Answers.of_false_int (by decide +kernel) F.isi_meta_list F.sub_int_list, Answers.of_false_int (by decide +kernel) F.isi_meta_tuple F.sub_int_tuple, trivial⟩ (typeIs_int _ _ _) ht fun tk => ⟨.bl _, H, I.tok _, rfl, q⟩
  | str i =>
    obtain ⟨t', rfl⟩ := rx; cases hx
    exact IsiPair.tupleOf (Tx := "str") (cs := [.type "list", .type "tuple"]) (vs := [false, false]) ⟨Answers.of_false_str (by decide +kernel) F.isi_meta_list F.sub_str_list, Answers.of_false_str (by decide +kernel) F.isi_meta_tuple F.sub_str_tuple, trivial⟩ (typeIs_str _ _ _) ht fun tk => ⟨.bl _, H, I.tok _, rfl, q⟩
  | ref a =>
    cases rx
    rcases hx with ⟨xs, hx, rfl⟩ | ⟨xs, hx, rfl⟩ | ⟨xs, hx, rfl⟩
    · obtain ⟨o, ho, hc⟩ := I.lcls hx
      exact IsiPair.tupleOf (Tx := "list") (cs := [.type "list", .type "tuple"]) (vs := [true, false]) ⟨Answers.of_true F.isi_meta_list F.sub_list_list, Answers.of_false_list (by decide +kernel) F.isi_meta_tuple F.sub_list_tuple, trivial⟩ ⟨o, ho, hc⟩ ht fun tk => ⟨.bl _, H, I.tok _, rfl, q⟩
    · obtain ⟨o, ho, hc⟩ := I.tcls hx
      exact IsiPair.tupleOf (Tx := "tuple") (cs := [.type "list", .type "tuple"]) (vs := [false, true]) ⟨Answers.of_false_tuple (by decide +kernel) F.isi_meta_list F.sub_tuple_list, Answers.of_true F.isi_meta_tuple F.sub_tuple_tuple, trivial⟩ ⟨o, ho, hc⟩ ht fun tk => ⟨.bl _, H, I.tok _, rfl, q⟩
    · obtain ⟨o, ho, hc⟩ := I.dcls hx
      exact IsiPair.tupleOf (Tx := "dict") (cs := [.type "list", .type "tuple"]) (vs := [false, false]) ⟨Answers.of_false_dict (by decide +kernel) F.isi_meta_list F.sub_dict_list, Answers.of_false_dict (by decide +kernel) F.isi_meta_tuple F.sub_dict_tuple, trivial⟩ ⟨o, ho, hc⟩ ht fun tk => ⟨.bl _, H, I.tok _, rfl, q⟩
  | _ => exact False.elim hx

/-! ### sum, all, any -/
theorem call_sumL (hc : X.calm = true) : CallR X (.builtin "sum") (fun xs H Q => ∃ (p : Addr) (ns : List Int), xs = [.ref p] ∧ SqL X.K H p (ns.map V.int) ∧ Q (.int ns.sum) H) := by
  intro pins s σ H xs us Q I r h
  obtain ⟨p, ns, rfl, hq, q⟩ := h
  obtain ⟨u, rfl, rx⟩ := vals1 r
  cases rx
  obtain ⟨its, rv, pl, hz⟩ := I.list hq
  have hi : IntsAre its ns := intsAre_of rv
  have hall := hi.allInts
  have e0 := hi.numsOf
  obtain ⟨xs, ex⟩ := hall.items
  have e1 : numsOf (intItems xs).toList = ns := by rw [← ex]; exact e0
  rw [nums_intItems] at e1
  have hl := pl.isList
  rw [ex] at hl
  refine sum_intListG (I.ok.hd hc) hl fun h' tk t' hk => ⟨.int ns.sum, H, I.kept hk, ⟨t', ?_⟩, q⟩
  rw [preSum_eq, List.take_of_length_le (by simp), e1]
theorem truth_bools {prog : Program} {w : World} {A : Around} {bs : List Bool} {its : List Value} (rv : Vals (bs.map V.bl) its) : TruthOf prog w A (fun i v => its.toArray[i]? = some v) fun i => bs.getD i false := by
  intro i v s Q E hP hQ
  have hi : its[i]? = some v := by simpa using hP
  have hl := rv.length
  rw [List.length_map] at hl
  have hlt : i < bs.length := by rw [hl]; exact (List.getElem?_eq_some_iff.mp hi).1
  obtain ⟨u, hu, ru⟩ := rv.get (i := i) (x := V.bl (bs.getD i false)) (by rw [List.getElem?_map, List.getD_eq_getElem?_getD, List.getElem?_eq_getElem hlt]; rfl)
  rw [hi] at hu
  cases hu
  cases ru
  exact wpAny_truthy_bool hQ
theorem range_all (bs : List Bool) : (List.range bs.length).all (fun i => bs.getD i false) = bs.all id := by
  induction bs with
  | nil => rfl
  | cons b r ih =>
    rw [List.length_cons, List.range_succ_eq_map, List.all_cons, List.all_cons, List.all_map]
    rw [← ih]
    rfl
theorem call_allL (hc : X.calm = true) : CallR X (.builtin "all") (fun xs H Q => ∃ (p : Addr) (bs : List Bool), xs = [.ref p] ∧ SqL X.K H p (bs.map V.bl) ∧ Q (.bl (bs.all id)) H) := by
  intro pins s σ H xs us Q I r h
  obtain ⟨p, bs, rfl, hq, q⟩ := h
  obtain ⟨u, rfl, rx⟩ := vals1 r
  cases rx
  obtain ⟨its, rv, pl, hz⟩ := I.list hq
  have hlt : p < s.heap.objs.size := by obtain ⟨_, e, _⟩ := pl.isList; exact Heap.lt_size e
  have hll := rv.length
  rw [List.length_map] at hll
  refine call_all_walk (wpAny_pyIter_list pl.isList ?_)
  refine ⟨s.heap.objs.size, _, _, _, _, _, fun i => bs.getD i false, rfl, Walks.list (A := X.A.in1) (I.ok.hd hc) _ p (Nat.ne_of_lt hlt) its.toArray, ⟨⟨_, Heap.get?_push_size _ rfl, rfl, rfl⟩, pl.isList.at fun o e => Heap.get?_push_of_some _ e⟩, truth_bools rv, fun h' tk hk => ?_⟩
  refine ⟨.bl (bs.all id), H, I.kept fun b o e => hk b o (by simpa using Nat.ne_of_lt (Heap.lt_size e)) (Heap.get?_push_of_some _ e), ?_, q⟩
  show Value.bool _ = Value.bool _
  rw [List.size_toArray, ← hll, range_all]
/-! ### == and != of lists and tuples of flat items -/
def eqVs : List V → List V → Bool
  | [], [] => true
  | x :: xs, y :: ys => eqV x y && eqVs xs ys
  | _, _ => false
theorem eqVs_len : ∀ {xs ys : List V}, xs.length ≠ ys.length → eqVs xs ys = false
  | [], [], h => absurd rfl h
  | [], _ :: _, _ => rfl
  | _ :: _, [], _ => rfl
  | x :: xs, y :: ys, h => by
    have := eqVs_len (xs := xs) (ys := ys) (fun e => h (by simp [e]))
    simp [eqVs, this]
theorem eqVs_range : ∀ {xs ys : List V}, xs.length = ys.length → (List.range xs.length).all (fun i => eqV (xs.getD i .non) (ys.getD i .non)) = eqVs xs ys
  | [], [], _ => rfl
  | [], _ :: _, h => by simp at h
  | _ :: _, [], h => by simp at h
  | x :: xs, y :: ys, h => by
    have ih := eqVs_range (xs := xs) (ys := ys) (by simpa using h)
    rw [List.length_cons, List.range_succ_eq_map, List.all_cons, List.all_map]
    show (eqV x y && (List.range xs.length).all fun i => eqV (xs.getD i .non) (ys.getD i .non)) = (eqV x y && eqVs xs ys)
    rw [ih]
theorem vals_at {A : Around} {s : Shared} {xs ys : List V} {us ws : List Value} (r : Vals xs us) (r' : Vals ys ws) (fx : xs.all flatV = true) (fy : ys.all flatV = true) (j : Nat) (h1 : j < us.toArray.size) (h2 : j < ws.toArray.size) :
    SeqAt.EqAt A s us.toArray[j] ws.toArray[j] (eqV (xs.getD j .non) (ys.getD j .non)) := by
  have l1 := r.length
  have l2 := r'.length
  have k1 : j < xs.length := by rw [l1]; simpa using h1
  have k2 : j < ys.length := by rw [l2]; simpa using h2
  obtain ⟨u, hu, ru⟩ := r.get (i := j) (x := xs.getD j .non) (by rw [List.getD_eq_getElem?_getD, List.getElem?_eq_getElem k1]; rfl)
  obtain ⟨w', hw, rw'⟩ := r'.get (i := j) (x := ys.getD j .non) (by rw [List.getD_eq_getElem?_getD, List.getElem?_eq_getElem k2]; rfl)
  have e1 : us.toArray[j] = u := by
    obtain ⟨_, e⟩ := List.getElem?_eq_some_iff.mp hu
    simpa using e
  have e2 : ws.toArray[j] = w' := by
    obtain ⟨_, e⟩ := List.getElem?_eq_some_iff.mp hw
    simpa using e
  rw [e1, e2]
  refine eqAt_V ru rw' (List.all_eq_true.mp fx _ ?_) (List.all_eq_true.mp fy _ ?_)
  · rw [List.getD_eq_getElem?_getD, List.getElem?_eq_getElem k1]; exact List.getElem_mem k1
  · rw [List.getD_eq_getElem?_getD, List.getElem?_eq_getElem k2]; exact List.getElem_mem k2
def rEqL (K : PySem.W.Frag) (neg : Bool) : R2 := fun x y H Q => ∃ p q xs ys, x = .ref p ∧ y = .ref q ∧ SqL K H p xs ∧ SqL K H q ys ∧ xs.all flatV = true ∧ ys.all flatV = true ∧ Q (.bl (if neg then !eqVs xs ys else eqVs xs ys)) H
theorem op_eqL (hu : X.A.units < cLine) : OpR X (compareOp .Eq) (rEqL X.K false) := by
  intro pins s σ H x y v u Q I rx ry h
  obtain ⟨p, q, xs, ys, rfl, rfl, hx, hy, fx, fy, k⟩ := h
  cases rx
  cases ry
  obtain ⟨us, r1, p1, z1⟩ := I.list hx
  obtain ⟨ws, r2, p2, z2⟩ := I.list hy
  by_cases hl : xs.length = ys.length
  · refine SeqAt.eq_listAt p1.isList p2.isList (by simp [← r1.length, ← r2.length, hl]) hu (fun j h1 h2 => vals_at r1 r2 fx fy j h1 h2) ⟨.bl (eqVs xs ys), H, I, ?_, k⟩
    show Value.bool _ = Value.bool _
    rw [List.size_toArray, ← r1.length, eqVs_range hl]
  · refine SeqAt.eq_list_lengthsAt p1.isList p2.isList (by simp [← r1.length, ← r2.length, hl]) hu ⟨.bl (eqVs xs ys), H, I, ?_, k⟩
    rw [eqVs_len hl]; rfl
theorem op_neL (hu : X.A.units < cLine) : OpR X (compareOp .NotEq) (rEqL X.K true) := by
  intro pins s σ H x y v u Q I rx ry h
  obtain ⟨p, q, xs, ys, rfl, rfl, hx, hy, fx, fy, k⟩ := h
  cases rx
  cases ry
  obtain ⟨us, r1, p1, z1⟩ := I.list hx
  obtain ⟨ws, r2, p2, z2⟩ := I.list hy
  by_cases hl : xs.length = ys.length
  · refine SeqAt.RcNeAt.lists p1.isList p2.isList (by simp [← r1.length, ← r2.length, hl]) hu (fun j h1 h2 => vals_at r1 r2 fx fy j h1 h2) _ _ _ _ ⟨.bl (!eqVs xs ys), H, I, ?_, k⟩
    show Value.bool _ = Value.bool _
    rw [List.size_toArray, ← r1.length, eqVs_range hl]
  · refine SeqAt.RcNeAt.lists_lengths p1.isList p2.isList (by simp [← r1.length, ← r2.length, hl]) hu _ _ _ _ ⟨.bl (!eqVs xs ys), H, I, ?_, k⟩
    rw [eqVs_len hl]; rfl

/-! ### xs[::-1] -/
theorem sliceRev (n : Nat) : sliceRange (sliceBounds none none (some (-1)) n).1 (sliceBounds none none (some (-1)) n).2.1 (sliceBounds none none (some (-1)) n).2.2 = (List.range n).map fun k => n - 1 - k := by
  have e : sliceBounds none none (some (-1)) n = ((n : Int) - 1, -1, -1) := by simp [sliceBounds]
  rw [e]
  unfold sliceRange
  simp only [show ¬ ((-1 : Int) > 0) by decide, if_false]
  by_cases hn : n = 0
  · subst hn; simp
  · have h1 : (n : Int) - 1 > -1 := by omega
    rw [if_pos h1]
    have h2 : (((n : Int) - 1 - -1 - -1 - 1) / (- -1)).toNat = n := by
      rw [show (n : Int) - 1 - -1 - -1 - 1 = n by omega, show (- -1 : Int) = 1 by decide, Int.ediv_one]
      exact Int.toNat_natCast n
    rw [h2]
    refine List.map_congr_left fun k hk => ?_
    have := List.mem_range.mp hk
    omega
theorem fm_congr {α β : Type} {f g : α → Option β} : ∀ {l : List α}, (∀ x ∈ l, f x = g x) → l.filterMap f = l.filterMap g
  | [], _ => rfl
  | x :: r, h => by rw [List.filterMap_cons, List.filterMap_cons, h x List.mem_cons_self, fm_congr fun y hy => h y (List.mem_cons_of_mem _ hy)]
theorem pick_rev' {α : Type} : ∀ zs : List α, (List.range zs.length).filterMap (fun k => zs.reverse[zs.length - 1 - k]?) = zs
  | [] => rfl
  | z :: r => by
    rw [List.length_cons, List.range_succ_eq_map, List.filterMap_cons, List.filterMap_map]
    have h0 : (z :: r).reverse[r.length + 1 - 1 - 0]? = some z := by simp
    rw [h0]
    have h1 : List.filterMap ((fun k => (z :: r).reverse[r.length + 1 - 1 - k]?) ∘ Nat.succ) (List.range r.length) = List.filterMap (fun k => r.reverse[r.length - 1 - k]?) (List.range r.length) := by
      apply fm_congr
      intro k hk
      have hk := List.mem_range.mp hk
      show (z :: r).reverse[r.length + 1 - 1 - (k + 1)]? = r.reverse[r.length - 1 - k]?
      rw [List.reverse_cons, List.getElem?_append_left (by simp; omega)]
      rw [show r.length + 1 - 1 - (k + 1) = r.length - 1 - k by omega]
    rw [h1, pick_rev' r]
theorem pick_rev {α : Type} (xs : List α) : ((List.range xs.length).map fun k => xs.length - 1 - k).filterMap (fun i => xs[i]?) = xs.reverse := by
  have := pick_rev' xs.reverse
  rw [List.length_reverse, List.reverse_reverse] at this
  rw [List.filterMap_map]
  exact this
theorem slicePick_rev (its : List Value) : slicePick its.toArray none none (some (-1)) = its.reverse.toArray := by
  unfold slicePick
  rw [List.size_toArray, sliceRev]
  congr 1
  have := pick_rev its
  simpa using this
def tRev (K : PySem.W.Frag) (te tst : TE) : TE := fun σ H Q => te σ H fun x H1 => tst σ H1 fun y H2 => y = .int (-1) ∧ ∃ p xs, x = .ref p ∧ SqL K H2 p xs ∧ ∀ l, H2 l = none → Q (.ref l) (upd H2 l (.lst xs.reverse))
theorem pe_rev {e st : Expr} {te tst : TE} {pos p2 : Pos} (he : PE X e te) (hst : PE X st tst) (ht : ∀ o r, letTemporaryGo e o r = pure () := by intro _ _; rfl) : PE X (.Subscript e (.Slice none none (some st) p2) pos) (tRev X.K te tst) := by
  intro pins s σ H Q I h
  refine wpAny_Subscript_Slice_step (T := "list") slot_list_getitem.lookup (thn (he pins s σ H _ I h) fun v s1 ⟨x, H1, I1, r1, q1⟩ => ?_) ht
  refine wpAny_Slice ?_
  rw [evalPart_none, evalPart_some]
  refine wpAny_pure (wpAny_pure (thn (hst pins s1 σ H1 _ I1 q1) fun vs s2 ⟨y, H2, I2, r2, q2⟩ => ?_))
  obtain ⟨rfl, p, xs, rfl, hx, q⟩ := q2
  obtain ⟨t, rfl⟩ := r2
  cases r1
  have I3 : Inv X pins σ H2 { s2 with heap := s2.heap.push { cls := .type "slice", data := .fields #[.none, .none, .int (-1) t] } } := I2.kept (t' := s2.toks) fun b ob q => Heap.get?_push_of_some _ q
  obtain ⟨its, rv, pl, hz⟩ := I3.list hx
  refine ⟨pl.isList.typeIs, ?_⟩
  refine wpAny_getItem_list_slice pl.isList (Heap.IsSliceOf.new ..) .none .none (.int (-1) t) (by decide) ?_ (by rw [List.size_toArray, ← rv.length]; exact hz)
  rw [slicePick_rev]
  refine ⟨.ref _, _, I3.laid (t' := s2.toks) (o := .lst xs.reverse) (fun b ob q => Heap.get?_push_of_some _ q) (Nat.le_refl _) ?_, rfl, q _ (I3.hok.fresh (Nat.le_refl _))⟩
  exact ⟨by rw [List.length_reverse]; exact hz, _, 0, rv.reverse, Heap.get?_push_size _ rfl⟩

/-! ### is True, is not True; // by greater numbers -/
theorem op_isnotB : OpR X (compareOp .IsNot) (fun x y H Q => ∃ b, y = .bl b ∧ Q (.bl (!decide (x = .bl b))) H) := by
  intro pins s σ H x y v u Q I rx ry h
  obtain ⟨b, rfl, q⟩ := h
  cases ry
  cases x with
  | non => cases rx; exact wpAny_isNot_plain rfl ⟨.bl _, H, I, (by simp [RelV]), q⟩
  | bl k => cases rx; exact wpAny_isNot_plain rfl ⟨.bl _, H, I, (by cases k <;> cases b <;> rfl), q⟩
  | int i => obtain ⟨t, rfl⟩ := rx; exact wpAny_isNot_plain rfl ⟨.bl _, H, I, (by simp [RelV]), q⟩
  | str i => obtain ⟨t, rfl⟩ := rx; exact wpAny_isNot_plain rfl ⟨.bl _, H, I, (by simp [RelV]), q⟩
  | byt i => obtain ⟨t, rfl⟩ := rx; exact wpAny_isNot_plain rfl ⟨.bl _, H, I, (by simp [RelV]), q⟩
  | flt i => obtain ⟨t, rfl⟩ := rx; exact wpAny_isNot_plain rfl ⟨.bl _, H, I, (by simp [RelV]), q⟩
  | ref i => cases rx; exact wpAny_isNot_plain rfl ⟨.bl _, H, I, (by simp [RelV]), q⟩
  | ty i => cases rx; exact wpAny_isNot_plain rfl ⟨.bl _, H, I, (by simp [RelV]), q⟩
/-- below 2 ^ 1024 -/
def BigOk (j : Int) : Prop := j.natAbs < 2 ^ 1024
theorem BigOk.log {j : Int} (h : BigOk j) : j.natAbs.log2 < 9000 := by
  by_cases h0 : j.natAbs = 0
  · rw [h0]; decide +kernel
  · have : j.natAbs.log2 < 1024 := (Nat.log2_lt h0).mpr h
    omega
theorem big {j : Int} (h1 : -(2 ^ 70) < j) (h2 : j < 2 ^ 70) : BigOk j := by
  have e : (2 : Int) ^ 70 = ((2 ^ 70 : Nat) : Int) := by decide +kernel
  rw [e] at h1 h2
  have h3 : j.natAbs < 2 ^ 70 := by omega
  exact Nat.lt_of_lt_of_le h3 (Nat.pow_le_pow_right (by decide) (by decide))
theorem op_mulB : OpR X (binaryOp .Mult) (rI (fun i j => BigOk i ∧ BigOk j) fun i j => .int (i * j)) := opI fun i j _ _ _ _ _ hc q => by
  have bits : ∀ {x : Int}, BigOk x → Builtin.Int.intBits x ≤ 2 ^ 20 := fun {x} h => by
    unfold Builtin.Int.intBits
    split
    · exact Nat.zero_le _
    · rename_i h0
      have h0' : x.natAbs ≠ 0 := fun z => h0 (by simpa using z)
      have : x.natAbs.log2 < 1024 := (Nat.log2_lt h0').mpr h
      omega
  exact mul_int q (.of_bits (bits hc.1) (bits hc.2))
theorem op_fdivL : OpR X (binaryOp .FloorDiv) (rI (fun _ j => 0 < j ∧ BigOk j) fun i j => .int (i / j)) := opI fun i j _ _ _ _ _ hc q => by
  have h1 : (0 : Int) < j := hc.1
  exact floordiv_int (by omega) (by rw [Int.fdiv_eq_ediv_of_nonneg i (by omega)]; exact q) (.inl (PyProof.noPylong_of_log2 hc.2.log))
end
end L2
/-! defs by their names, the deck that the laws draw from -/
namespace L2
open PySem PySem.Spec PyProof.Rows

def isStar : Expr → Bool
  | .Starred .. => true
  | _ => false
theorem star_cons {e : Expr} {rest : List Expr} {env : Env} (h : isStar e = false) : starEach (e :: rest) env = (false, eval e env) :: starEach rest env := by
  cases e <;> first | rfl | exact Bool.noConfusion h
/-- an argument list, one more ahead -/
theorem pa_c {X : Cx} {e : Expr} {es : List Expr} {te : TE} {t : TA} (ha : PE X e te) (hr : PA X es t) (h : isStar e = false := by rfl) : PA X (e :: es) (tCons te t) := pa_cons ha hr (star_cons h)
/-- a def of the text that keeps a promise, by its name -/
def Good (P : Program) (w : World) (K : PySem.W.Frag) (mg : Str → Option Value) (base : Heap) (k : Nat) (x : Str) (ps : List Str) (sp : Sp) : Prop :=
  ∃ (f : Addr) (fd : FuncData), FnOk P w K mg base CX0 k f fd ps sp ∧ Binds K fd ps [] ∧ mg x = some (.ref f) ∧ PySem.W.keepIn K (.ref f) = true
section
variable {X : Cx} {k : Nat} {x : Str} {ps : List Str} {sp : Sp} {e : Expr} {es : List Expr} {t : TA} {p pos : Pos}
theorem pe_fn (G : Good X.prog X.w X.K X.mg X.base k x ps sp) (hr : Room k X.A) (hg : Gl X x) (ha : PA X (e :: es) t) (hdb : (x == ("__debug__" : Str)) = false := by decide)
    (hst : isStar e = false := by rfl) (hpl : (backTo pos (starEach es X.env)).any (·.1) = false := by rfl) : PE X (.Call (.Name x p) (e :: es) [] pos) (tCall sp [] E0 t) := by
  obtain ⟨f, fd, F, b, m, kp⟩ := G
  exact pe_call F hr hg m kp b .nil pass0 ha hdb (star_cons hst) hpl
end
/-- a def as the top has made it -/
def Has (K : PySem.W.Frag) (mg : Str → Option Value) (x : Str) (st : Stmt) : Prop := ∃ (f : Addr) (fd : FuncData), Fun K x x st f fd ∧ mg x = some (.ref f)
theorem Has.good {P : Program} {w : World} {K : PySem.W.Frag} {mg : Str → Option Value} {base : Heap} {x : Str} {st : Stmt} {N ps : List Str} {k : Nat} {sp : Sp} (h : Has K mg x st) (S : FnScope N ps (defScope st))
    (hb : ∀ (kV doc pm : Value) (an : Option Addr) (cdv ct : Value) (us : List Value), us.length = ps.length → bindArgs (PySem.W.fnOf x x (defArgs st) (defBody st) (defScope st) .none kV doc pm an cdv ct) ⟨us, []⟩ = pure (ps.zip us))
    (len : ∀ vs H Q E, sp vs H Q E → vs.length = ps.length)
    (hbody : ∀ (f : Addr) (cdv : Value) (A : Around) (outer : List Env) (s : Shared) (H : Hp) (vs : List V) (Q : VK) (E : XK), Room k (A.deeper (envOfC x (defScope st) s.heap.objs.size f cdv)) → sp vs H Q E →
      ∃ t, PSs (cxOf CX0 P w K mg base N x (defScope st) f cdv A outer s H E).nox (defBody st) t ∧ t { nx := fun _ H' => Q .non H', rt := Q } (start N vs) H) : Good P w K mg base (k + 1) x ps sp := by
  obtain ⟨f, fd, F, m⟩ := h
  exact ⟨f, fd, F.ok S len fun cdv A outer s H vs Q E hr q => hbody f cdv A outer s H vs Q E hr q, F.binds hb, m, F.kp⟩
theorem has_mk {K : PySem.W.Frag} {h : Heap} {mg : Str → Option Value} {x : Str} {st : Stmt} {f : Addr} {oc : Value} {od an : Option Addr} {osl : Array (Option Value)} {kV doc pm cdv ct : Value} (X : K.In h) (G : h.Ns mainGlobals mg)
    (a : PySem.W.nsIn K mainGlobals x = some (some (.ref f))) (l : K.lookup f = some ⟨oc, od, .func (PySem.W.fnOf x x (defArgs st) (defBody st) (defScope st) .none kV doc pm an cdv ct), osl⟩)
    (c : PySem.W.codeIn K cdv x = true) (k : PySem.W.keepIn K (.ref f) = true) : Has K mg x st := ⟨f, _, fun_mk l c k, PySem.W.mg_of X G a⟩
/-- Python's own names are not the text's -/
structure Own (mg : Str → Option Value) : Prop where
  len : mg "len" = none
  range : mg "range" = none
  isinstance : mg "isinstance" = none
  int_ : mg "int" = none
  bool_ : mg "bool" = none
  str_ : mg "str" = none
  list_ : mg "list" = none
  tuple_ : mg "tuple" = none
  dict_ : mg "dict" = none
  sum : mg "sum" = none
  min : mg "min" = none
  max : mg "max" = none
  all : mg "all" = none
  any : mg "any" = none
  abs : mg "abs" = none
  zip : mg "zip" = none
  sorted : mg "sorted" = none
  set_ : mg "set" = none
  enumerate : mg "enumerate" = none
theorem own_mk {K : PySem.W.Frag} {h : Heap} {mg : Str → Option Value} (X : K.In h) (G : h.Ns mainGlobals mg) (z1 : PySem.W.nsIn K mainGlobals "len" = some none) (z2 : PySem.W.nsIn K mainGlobals "range" = some none)
    (z3 : PySem.W.nsIn K mainGlobals "isinstance" = some none) (z4 : PySem.W.nsIn K mainGlobals "int" = some none) (z5 : PySem.W.nsIn K mainGlobals "bool" = some none) (z6 : PySem.W.nsIn K mainGlobals "str" = some none)
    (z7 : PySem.W.nsIn K mainGlobals "list" = some none) (z8 : PySem.W.nsIn K mainGlobals "tuple" = some none) (z9 : PySem.W.nsIn K mainGlobals "dict" = some none) (z10 : PySem.W.nsIn K mainGlobals "sum" = some none)
    (z11 : PySem.W.nsIn K mainGlobals "min" = some none) (z12 : PySem.W.nsIn K mainGlobals "max" = some none) (z13 : PySem.W.nsIn K mainGlobals "all" = some none) (z14 : PySem.W.nsIn K mainGlobals "any" = some none)
    (z15 : PySem.W.nsIn K mainGlobals "abs" = some none) (z16 : PySem.W.nsIn K mainGlobals "zip" = some none) (z17 : PySem.W.nsIn K mainGlobals "sorted" = some none) (z18 : PySem.W.nsIn K mainGlobals "set" = some none)
    (z19 : PySem.W.nsIn K mainGlobals "enumerate" = some none) : Own mg :=
  ⟨PySem.W.mg_none_of X G z1, PySem.W.mg_none_of X G z2, PySem.W.mg_none_of X G z3, PySem.W.mg_none_of X G z4, PySem.W.mg_none_of X G z5, PySem.W.mg_none_of X G z6, PySem.W.mg_none_of X G z7, PySem.W.mg_none_of X G z8, PySem.W.mg_none_of X G z9, PySem.W.mg_none_of X G z10,
   PySem.W.mg_none_of X G z11, PySem.W.mg_none_of X G z12, PySem.W.mg_none_of X G z13, PySem.W.mg_none_of X G z14, PySem.W.mg_none_of X G z15, PySem.W.mg_none_of X G z16, PySem.W.mg_none_of X G z17, PySem.W.mg_none_of X G z18, PySem.W.mg_none_of X G z19⟩

theorem noIfT {σ : St} {H : Hp} {A B : Hp → Prop} (h : A H) : tNoIf σ H fun b H5 => if b = true then A H5 else B H5 := by
  show if true = true then A H else B H
  rw [if_pos rfl]
  exact h

/-! ### a deck at p, its cells at c -/
structure DeckAt (H : Hp) (p c : Addr) : Prop where
  ne : p ≠ c
  dk : ∃ S k : Int, H p = some (.lst [.ref c, .int S, .int k])
  cs : ∃ ns : List Int, H c = some (.lst (ns.map V.int)) ∧ ns.length ≤ 64
/-- all that stood but the deck stands -/
structure On (p c : Addr) (H H' : Hp) : Prop where
  d : DeckAt H' p c
  e : ∀ b o, H b = some o → b ≠ p → b ≠ c → H' b = some o
section
variable {p c a : Addr} {H H1 H2 : Hp} {o : HO}
theorem DeckAt.on (d : DeckAt H p c) : On p c H H := ⟨d, fun _ _ h _ _ => h⟩
theorem DeckAt.nep (d : DeckAt H p c) (h : H a = none) : a ≠ p := fun z => by
  obtain ⟨S, k, e⟩ := d.dk
  rw [z, e] at h; cases h
theorem DeckAt.nec (d : DeckAt H p c) (h : H a = none) : a ≠ c := fun z => by
  obtain ⟨ns, e, _⟩ := d.cs
  rw [z, e] at h; cases h
theorem DeckAt.alloc (d : DeckAt H p c) (h : H a = none) : DeckAt (upd H a o) p c := by
  obtain ⟨S, k, e⟩ := d.dk
  obtain ⟨ns, e', l⟩ := d.cs
  exact ⟨d.ne, ⟨S, k, by rw [upd_ne (d.nep h).symm]; exact e⟩, ns, by rw [upd_ne (d.nec h).symm]; exact e', l⟩
theorem On.trans (x : On p c H H1) (y : On p c H1 H2) : On p c H H2 := ⟨y.d, fun b o h hp hc => y.e b o (x.e b o h hp hc) hp hc⟩
theorem On.free (x : On p c H H1) (d : DeckAt H p c) (h : H1 a = none) : H a = none := by
  cases q : H a with
  | none => rfl
  | some u => rw [x.e a u q (x.d.nep h) (x.d.nec h)] at h; cases h
theorem On.alloc (x : On p c H H1) (h : H1 a = none) : On p c H (upd H1 a o) :=
  ⟨x.d.alloc h, fun b u q hp hc => by rw [upd_ne (ne_of_none (x.e b u q hp hc) h)]; exact x.e b u q hp hc⟩
/-- what is no list is not the deck's -/
theorem On.tup (x : On p c H H1) (d : DeckAt H p c) {t : Addr} {xs : List V} (h : H t = some (.tup xs)) : H1 t = some (.tup xs) := by
  obtain ⟨S, k, e⟩ := d.dk
  obtain ⟨ns, e', l⟩ := d.cs
  exact x.e t _ h (ne_of h e (by intro z; cases z)) (ne_of h e' (by intro z; cases z))
end
/-! ### promises of the laws' own defs -/
def spMixed : Sp := fun vs H Q _ => ∃ n k : Int, vs = [.int n, .int k] ∧ ∀ r : Int, Q (.int r) H
def spDeck (K : PySem.W.Frag) : Sp := fun vs H Q _ => ∃ (a : Addr) (ns : List Int), vs = [.ref a] ∧ SqL K H a (ns.map V.int) ∧ ∀ (p c : Addr) (H' : Hp), H p = none → H c = none → DeckAt H' p c → Same H H' → Q (.ref p) H'
def spTake : Sp := fun vs H Q _ => ∃ (p c : Addr) (m : Int), vs = [.ref p, .int m] ∧ DeckAt H p c ∧ 0 < m ∧ BigOk m ∧ ∀ (r : Int) (H' : Hp), 0 ≤ r → r < m → On p c H H' → Q (.int r) H'
/-- |n| < 10 ^ 60 -/
def spFar : Sp := fun vs H Q _ => ∃ (p c : Addr), vs = [.ref p] ∧ DeckAt H p c ∧ ∀ (r : Int) (H' : Hp), -(10 ^ 60) < r → r < 10 ^ 60 → On p c H H' → Q (.int r) H'
/-- a run as the laws draw it -/
structure RunD (lo hi st : Int) : Prop where
  lo1 : -(10 ^ 58) ≤ lo
  lo2 : lo ≤ 10 ^ 58
  ex : ∃ s n : Int, 1 ≤ s ∧ s ≤ 10 ^ 20 ∧ 0 ≤ n ∧ n < 10 ^ 18 ∧ hi = lo + s * n ∧ st = s * (if 1 < n then 1 else n)
def spRun : Sp := fun vs H Q _ => ∃ (p c : Addr), vs = [.ref p] ∧ DeckAt H p c ∧ ∀ (t : Addr) (lo hi st : Int) (H' : Hp), H t = none → H' t = some (.tup [.int lo, .int hi, .int st]) → RunD lo hi st → On p c H H' → Q (.ref t) H'
end L2
/-! tuples: + of any two, [::-1]; an empty dict -/
namespace L2
open PySem PySem.Spec PyProof.Rows
section
variable {X : Cx}
theorem SqT.same {K : PySem.W.Frag} {H H' : Hp} {a : Addr} {xs : List V} (e : Same H H') (h : SqT K H a xs) : SqT K H' a xs := by
  rcases h with (h | ⟨o, h⟩) | h
  · exact .inl (.inl (e _ _ h))
  · exact .inl (.inr ⟨o, e _ _ h⟩)
  · exact .inr h
theorem same_new {H : Hp} {a : Addr} {o : HO} (h : H a = none) : Same H (upd H a o) := fun b u q => by rw [upd_ne (ne_of_none q h)]; exact q
/-- t + u, any two -/
def rCatG (K : PySem.W.Frag) : R2 := fun x y H Q => ∃ a b xs ys, x = .ref a ∧ y = .ref b ∧ SqT K H a xs ∧ SqT K H b ys ∧ xs.length + ys.length ≤ sizeLine ∧ ∀ r H', SqT K H' r (xs ++ ys) → Same H H' → Q (.ref r) H'
def tRevT (K : PySem.W.Frag) (te tst : TE) : TE := fun σ H Q => te σ H fun x H1 => tst σ H1 fun y H2 => y = .int (-1) ∧ ∃ p xs, x = .ref p ∧ SqT K H2 p xs ∧ ∀ l, H2 l = none → Q (.ref l) (upd H2 l (.tup xs.reverse))
/-- constants, all at once -/
def litV : Expr → Option V
  | .Constant (.int i) _ _ => some (.int i)
  | .Constant (.bool b) _ _ => some (.bl b)
  | .Constant .none _ _ => some .non
  | .Constant (.str x) _ _ => some (.str x)
  | _ => none
def litsV : List Expr → Option (List V)
  | [] => some []
  | e :: es => match litV e, litsV es with
    | some v, some vs => some (v :: vs)
    | _, _ => none
/-- constants and tuples of constants, the first n of a display -/
inductive DC where
  | v (v : V)
  | t (vs : List V)
def dcOf : Expr → Option DC
  | .Tuple es _ _ => (litsV es).map DC.t
  | .Constant c a b => (litV (.Constant c a b)).map DC.v
  | _ => none
def tDC : List DC → TA → TA
  | [], t => t
  | .v v :: r, t => tCons (tC v) (tDC r t)
  | .t vs :: r, t => tCons (tTup fun _ H Q => Q vs H) (tDC r t)
def dcsOf : Nat → List Expr → Option (List DC)
  | 0, _ => some []
  | _ + 1, [] => none
  | n + 1, e :: es => match dcOf e, dcsOf n es with
    | some d, some ds => some (d :: ds)
    | _, _ => none
/-- the items of a display, kept from the eyes of Lean's elaborator (PA would be run there) -/
structure QA (X : Cx) (es : List Expr) (t : TA) : Prop where
  p : PA X es t
theorem qa_nil : QA X [] tNil := ⟨pa_nil⟩
theorem qa_c {e : Expr} {es : List Expr} {te : TE} {t : TA} (ha : PE X e te) (hr : QA X es t) (h : isStar e = false := by rfl) : QA X (e :: es) (tCons te t) := ⟨pa_c ha hr.p h⟩
theorem pe_lstQ {es : List Expr} {t : TA} {pos : Pos} (h : QA X es t) : PE X (.List es pos) (tLst t) := pe_lst h.p
theorem pe_tupQ {es : List Expr} {t : TA} {k : Nat} {pos : Pos} (h : QA X es t) : PE X (.Tuple es k pos) (tTup t) := pe_tup h.p
/-- {} -/
theorem Inv.big {pins : List (Addr × Obj)} {σ : St} {H : Hp} {s : Shared} (I : Inv X pins σ H s) : sysModules < s.heap.objs.size := by
  have h : mainGlobals < s.heap.objs.size := (I.mod.glob.keeps I.bk).lt
  exact Nat.lt_trans (by decide) h
def tDNewK : TE := fun _ H Q => ∀ p, H p = none → Q (.ref p) (upd H p (.dK []))
end
end L2
/-! zip over two lists or tuples -/
namespace L2
open PySem PySem.Spec PyProof.Rows
section
variable {prog : Program} {w : World} {A : Around} {E : Value → Shared → Prop} {s : Shared}
/-- the next one of a tuple's iterator, asked as zip asks it -/
theorem nextT_item {j t : Addr} {k : Nat} {vs : Array Value} {v : Value} {Q : Value → Shared → Prop} (hj : s.heap.IsTupleIter j t k) (ht : s.heap.IsTuple t vs) (hv : vs[k]? = some v)
    (q : ∀ h', h'.IsTupleIter j t (k + 1) → Heap.SameBut j s.heap h' → Q v { s with heap := h' }) : wpAny (model prog w) A (Builtin.SmallTypes.nextOf (.ref j)) Q E s := by
  obtain ⟨oj, ej, cj, dj⟩ := id hj
  obtain ⟨ot, et, _, nt, dt⟩ := id ht
  unfold Builtin.SmallTypes.nextOf
  refine wpAny_bind (wpAny_callSpecial?_slot (name := Str.ofString "__next__") hj.typeIs F.slot_tuple_iterator_next (wpAny_call_entry F.slot_tuple_iterator_next hj.typeIs F.entry_tuple_iterator_next ?_ (F.args_tuple_iterator_next_1 _)))
  refine wpAny_bind (m := field (.ref j) 0) (wpAny_field ej dj (x := .ref t) rfl ?_)
  have nn : ¬ ((Value.ref t == Value.none) = true) := Bool.false_ne_true
  show wpAny (model prog w) A.in1 (if (Value.ref t == Value.none) = true then _ else _) _ _ s
  rw [if_neg nn]
  refine wpAny_bind (m := field (.ref j) 1) (wpAny_field ej dj (x := .int k 0) rfl (wpAny_bind (m := seqItems? (.ref t)) (wpAny_seqItems et dt ?_)))
  simp only [Int.toNat_natCast, hv]
  refine wpAny_bind (wpAny_setField ej dj (by simp) (wpAny_pure ⟨v, rfl, wpAny_pure (q _ ⟨_, Heap.get?_update_self _ ej (Obj.isFreed_of_fields (Obj.data_mapFields dj _)), (Obj.cls_mapFields ..).trans cj, ?_⟩ (Heap.SameBut.update ..))⟩))
  rw [Obj.data_mapFields dj]
  simp [rawInt]
theorem nextT_end {j t : Addr} {k : Nat} {vs : Array Value} {Q : Value → Shared → Prop} (hh : A.handled = none) (hj : s.heap.IsTupleIter j t k) (ht : s.heap.IsTuple t vs) (hv : vs[k]? = none)
    (q : ∀ h' e, Heap.ExtBut j s.heap h' → (∃ o, h'.get? e = some o ∧ o.cls = .type "StopIteration") → E (.ref e) { s with heap := h' }) : wpAny (model prog w) A (Builtin.SmallTypes.nextOf (.ref j)) Q E s := by
  obtain ⟨oj, ej, cj, dj⟩ := id hj
  obtain ⟨ot, et, _, nt, dt⟩ := id ht
  unfold Builtin.SmallTypes.nextOf
  refine wpAny_bind (wpAny_callSpecial?_slot (name := Str.ofString "__next__") hj.typeIs F.slot_tuple_iterator_next (wpAny_call_entry F.slot_tuple_iterator_next hj.typeIs F.entry_tuple_iterator_next ?_ (F.args_tuple_iterator_next_1 _)))
  refine wpAny_bind (m := field (.ref j) 0) (wpAny_field ej dj (x := .ref t) rfl ?_)
  have nn : ¬ ((Value.ref t == Value.none) = true) := Bool.false_ne_true
  show wpAny (model prog w) A.in1 (if (Value.ref t == Value.none) = true then _ else _) _ _ s
  rw [if_neg nn]
  refine wpAny_bind (m := field (.ref j) 1) (wpAny_field ej dj (x := .int k 0) rfl (wpAny_bind (m := seqItems? (.ref t)) (wpAny_seqItems et dt ?_)))
  simp only [Int.toNat_natCast, hv]
  refine wpAny_bind (wpAny_rule (wpAny_bind (wpAny_setField ej dj (by simp) (wpAny_bind (m := newExc (.type "StopIteration") []) ?_))))
  unfold newExc newTuple
  refine wpAny_bind (wpAny_newObj_type (wpAny_bind (m := firstArgMember _ _) (wpAny_of_eq (a := Value.none) (by first | rfl | (simp only [firstArgMember]; rfl)) (wpAny_newObj_type ?_ (by size_fits)))) (by size_fits))
  unfold raiseNew
  refine wpAny_bind (wpAny_handled ?_)
  rw [show A.in1.handled = none from hh]
  exact wpAny_bind (wpAny_pure (wpAny_throw (q _ _ (((Heap.SameBut.update ..).extBut.push _).push _) ⟨_, Heap.get?_push_size _ rfl, rfl⟩)))
/-- an iterator i over what stands at l, asked by zip: its state, and what stands at l -/
structure Step (prog : Program) (w : World) (i l : Addr) (it : Nat → Heap → Prop) (sq : Heap → Array Value → Prop) : Prop where
  obj : ∀ k h, it k h → ∃ o, h.get? i = some o ∧ ∀ v, o.data ≠ .cell v
  itk : ∀ k h h', it k h → (∀ o, h.get? i = some o → h'.get? i = some o) → it k h'
  sqk : ∀ h h' vs, sq h vs → (∀ o, h.get? l = some o → h'.get? l = some o) → sq h' vs
  item : ∀ (A : Around) (E : Value → Shared → Prop) (s : Shared) (k : Nat) (vs : Array Value) (v : Value) (Q : Value → Shared → Prop), it k s.heap → sq s.heap vs → vs[k]? = some v →
    (∀ h', it (k + 1) h' → Heap.SameBut i s.heap h' → Q v { s with heap := h' }) → wpAny (model prog w) A (Builtin.SmallTypes.nextOf (.ref i)) Q E s
  done : ∀ (A : Around) (E : Value → Shared → Prop) (s : Shared) (k : Nat) (vs : Array Value) (Q : Value → Shared → Prop), A.handled = none → it k s.heap → sq s.heap vs → vs[k]? = none →
    (∀ h' e, Heap.ExtBut i s.heap h' → (∃ o, h'.get? e = some o ∧ o.cls = .type "StopIteration") → E (.ref e) { s with heap := h' }) → wpAny (model prog w) A (Builtin.SmallTypes.nextOf (.ref i)) Q E s
theorem step_list (i l : Addr) : Step prog w i l (fun k h => h.IsListIter i l k) (fun h vs => h.IsList l vs) where
  obj := fun k h x => let ⟨o, e, _, d⟩ := x; ⟨o, e, fun v z => by rw [d] at z; cases z⟩
  itk := fun k h h' x f => let ⟨o, e, r⟩ := x; ⟨o, f o e, r⟩
  sqk := fun h h' vs x f => let ⟨o, e, r⟩ := x; ⟨o, f o e, r⟩
  item := fun A E s k vs v Q a b c q => wpAny_nextOf_list_item a b c q
  done := fun A E s k vs Q hh a b c q => wpAny_nextOf_list_end hh a b c q
theorem step_tup (i l : Addr) : Step prog w i l (fun k h => h.IsTupleIter i l k) (fun h vs => h.IsTuple l vs) where
  obj := fun k h x => let ⟨o, e, _, d⟩ := x; ⟨o, e, fun v z => by rw [d] at z; cases z⟩
  itk := fun k h h' x f => let ⟨o, e, r⟩ := x; ⟨o, f o e, r⟩
  sqk := fun h h' vs x f => let ⟨o, e, r⟩ := x; ⟨o, f o e, r⟩
  item := fun A E s k vs v Q a b c q => nextT_item a b c q
  done := fun A E s k vs Q hh a b c q => nextT_end hh a b c q

section
variable {z TI TO i1 i2 l1 l2 : Addr} {it1 it2 : Nat → Heap → Prop} {sq1 sq2 : Heap → Array Value → Prop}
/-- zip's own next, both have one -/
theorem zn_item (S1 : Step prog w i1 l1 it1 sq1) (S2 : Step prog w i2 l2 it2 sq2) (D : ZipApart z TI TO i1 i2 l1 l2) {k1 k2 : Nat} {xs ys : Array Value} {x y a b : Value} {Q : Value → Shared → Prop}
    (hz : IsZip s.heap z TI TO .none) (hI : IsPair s.heap TI (.ref i1) (.ref i2)) (hO : IsPair s.heap TO a b) (j1 : it1 k1 s.heap) (j2 : it2 k2 s.heap) (q1 : sq1 s.heap xs) (q2 : sq2 s.heap ys)
    (hx : xs[k1]? = some x) (hy : ys[k2]? = some y)
    (q : ∀ h', IsZip h' z TI TO (rawInt s.heap.objs.size) → IsPair h' TO x y → it1 (k1 + 1) h' → it2 (k2 + 1) h' → IsPair h' s.heap.objs.size x y → h'.objs.size = s.heap.objs.size + 1 →
      (∀ c o, c ≠ z → c ≠ TO → c ≠ i1 → c ≠ i2 → s.heap.get? c = some o → h'.get? c = some o) → Q (.ref s.heap.objs.size) { s with heap := h' }) :
    wpAny (model prog w) A (Builtin.«zip.__next__» ⟨[.ref z], []⟩) (fun f s' => ∃ v, f = .done (.ret v) ∧ Q v s') E s := by
  refine wpAny_bind (m := field (.ref z) 2) (wpAny_field hz rfl (x := .bool false) rfl (wpAny_bind (m := field (.ref z) 3) (wpAny_field hz rfl (x := .ref TI) rfl (wpAny_bind (wpAny_seqItems hI rfl ?_)))))
  refine wpAny_bind (m := Builtin.SmallTypes.ownedTupleIsFree (.ref z)) (wpAny_bind (wpAny_field hz rfl (x := .none) rfl (wpAny_pure ?_)))
  simp only [if_true]
  refine wpAny_bind (wpAny_rule (wpAny_bind (wpAny_field hz rfl (x := .ref TO) rfl (wpAny_bind (wpAny_setField_rec hz (by simp) fun h1 hz1 s1 => ?_)))))
  have hz1 : IsZip h1 z TI TO .ellipsis := hz1
  refine wpAny_bind ?_
  simp only [List.zipIdx_cons, List.zipIdx_nil, List.forIn_cons, List.forIn_nil]
  have e1 : ∀ c o, c ≠ z → s.heap.get? c = some o → h1.get? c = some o := fun c o hc e => s1.extBut _ _ hc e
  refine wpAny_bind (wpAny_bind (wpAny_onRaise (wpAny_bind (m := Builtin.SmallTypes.nextOf (.ref i1)) (S1.item _ _ _ k1 xs x _ (S1.itk _ _ _ j1 fun o e => e1 _ o D.i1z e) (S1.sqk _ _ _ q1 fun o e => e1 _ o D.l1z e) hx fun h2 j1' s2 => wpAny_pure ?_))))
  have e2 : ∀ c o, c ≠ z → c ≠ i1 → s.heap.get? c = some o → h2.get? c = some o := fun c o c1 c2 e => s2.extBut _ _ c2 (e1 c o c1 e)
  have hO2 : IsPair h2 TO a b := e2 _ _ D.TOz D.TOi1 hO
  refine wpAny_bind (wpAny_seqItems hO2 rfl (wpAny_bind (wpAny_updateSeq_pair hO2 fun h3 hO3 s3 => wpAny_bind (wpAny_letGo (wpAny_pure ?_)))))
  have hO3 : IsPair h3 TO x b := hO3
  have e3 : ∀ c o, c ≠ z → c ≠ i1 → c ≠ TO → s.heap.get? c = some o → h3.get? c = some o := fun c o c1 c2 c3 e => s3.extBut _ _ c3 (e2 c o c1 c2 e)
  refine wpAny_bind (wpAny_bind (wpAny_onRaise (wpAny_bind (m := Builtin.SmallTypes.nextOf (.ref i2)) (S2.item _ _ _ k2 ys y _ (S2.itk _ _ _ j2 fun o e => e3 _ o D.i2z D.i12.symm D.TOi2.symm e) (S2.sqk _ _ _ q2 fun o e => e3 _ o D.l2z D.l2i1 D.l2TO e) hy fun h4 j2' s4 => wpAny_pure ?_))))
  have hO4 : IsPair h4 TO x b := s4.extBut _ _ D.TOi2 hO3
  refine wpAny_bind (wpAny_seqItems hO4 rfl (wpAny_bind (wpAny_updateSeq_pair hO4 fun h5 hO5 s5 => wpAny_bind (wpAny_letGo (wpAny_pure (wpAny_pure ?_))))))
  have hO5 : IsPair h5 TO x y := hO5
  refine wpAny_bind (wpAny_seqItems hO5 rfl (wpAny_bind (wpAny_newTuple ?_)))
  have hs5 : h5.objs.size = s.heap.objs.size := by rw [s5.1, s4.1, s3.1, s2.1, s1.1]
  have hz5 : IsZip h5 z TI TO .ellipsis := s5.extBut _ _ D.TOz.symm (s4.extBut _ _ D.i2z.symm (s3.extBut _ _ D.TOz.symm (s2.extBut _ _ D.i1z.symm hz1)))
  have e5 : ∀ c o, c ≠ z → c ≠ TO → c ≠ i1 → c ≠ i2 → s.heap.get? c = some o → h5.get? c = some o := fun c o c1 c2 c3 c4 e => s5.extBut _ _ c2 (s4.extBut _ _ c4 (e3 c o c1 c3 c2 e))
  have lz : z < h5.objs.size := Heap.lt_size hz5
  refine wpAny_bind (m := Builtin.SmallTypes.ownedTupleHandOut (.ref z) (.ref h5.objs.size)) ?_
  unfold Builtin.SmallTypes.ownedTupleHandOut
  have hz6 : IsZip (h5.push { cls := .type "tuple", data := .seq #[x, y] }) z TI TO .ellipsis := Heap.get?_push_of_some _ hz5
  refine wpAny_bind (wpAny_setField_rec hz6 (by simp) fun h7 hz7 s7 => ?_)
  have hz7 : IsZip h7 z TI TO (rawInt h5.objs.size) := hz7
  refine wpAny_setField_rec hz7 (by simp) fun h8 hz8 s8 => ?_
  have hz8 : IsZip h8 z TI TO (rawInt h5.objs.size) := hz8
  have e8 : ∀ c o, c ≠ z → h5.get? c = some o → h8.get? c = some o := fun c o c1 e => s8.extBut _ _ c1 (s7.extBut _ _ c1 (Heap.get?_push_of_some _ e))
  have p8 : IsPair h8 h5.objs.size x y := s8.extBut _ _ (Nat.ne_of_gt lz) (s7.extBut _ _ (Nat.ne_of_gt lz) (Heap.get?_push_size _ rfl))
  have n8 : h8.objs.size = h5.objs.size + 1 := by rw [s8.1, s7.1, Heap.size_push]
  rw [hs5] at hz8 p8 n8
  refine wpAny_pure ⟨_, rfl, ?_⟩
  show Q (Value.ref h5.objs.size) _
  rw [hs5]
  exact q h8 hz8 (e8 _ _ D.TOz hO5) (S1.itk _ _ _ j1' fun o e => e8 _ o D.i1z (s5.extBut _ _ D.TOi1.symm (s4.extBut _ _ D.i12 (s3.extBut _ _ D.TOi1.symm e)))) (S2.itk _ _ _ j2' fun o e => e8 _ o D.i2z (s5.extBut _ _ D.TOi2.symm e)) p8 n8
    fun c o c1 c2 c3 c4 e => e8 c o c1 (e5 c o c1 c2 c3 c4 e)
/-- zip's own next, one of both has none -/
theorem zn_end (S1 : Step prog w i1 l1 it1 sq1) (S2 : Step prog w i2 l2 it2 sq2) (D : ZipApart z TI TO i1 i2 l1 l2) (hh : A.handled = none) {k1 k2 : Nat} {xs ys : Array Value} {a b : Value} {Q : Fin → Shared → Prop}
    (hz : IsZip s.heap z TI TO .none) (hI : IsPair s.heap TI (.ref i1) (.ref i2)) (hO : IsPair s.heap TO a b) (j1 : it1 k1 s.heap) (j2 : it2 k2 s.heap) (q1 : sq1 s.heap xs) (q2 : sq2 s.heap ys)
    (hn : xs[k1]? = none ∨ ys[k2]? = none)
    (q : ∀ h' e, (∀ c o, c ≠ z → c ≠ TO → c ≠ i1 → c ≠ i2 → s.heap.get? c = some o → h'.get? c = some o) → (∃ o, h'.get? e = some o ∧ o.cls = .type "StopIteration") → E (.ref e) { s with heap := h' }) :
    wpAny (model prog w) A (Builtin.«zip.__next__» ⟨[.ref z], []⟩) Q E s := by
  refine wpAny_bind (m := field (.ref z) 2) (wpAny_field hz rfl (x := .bool false) rfl (wpAny_bind (m := field (.ref z) 3) (wpAny_field hz rfl (x := .ref TI) rfl (wpAny_bind (wpAny_seqItems hI rfl ?_)))))
  refine wpAny_bind (m := Builtin.SmallTypes.ownedTupleIsFree (.ref z)) (wpAny_bind (wpAny_field hz rfl (x := .none) rfl (wpAny_pure ?_)))
  simp only [if_true]
  refine wpAny_bind (wpAny_rule (wpAny_bind (wpAny_field hz rfl (x := .ref TO) rfl (wpAny_bind (wpAny_setField_rec hz (by simp) fun h1 hz1 s1 => ?_)))))
  have hz1 : IsZip h1 z TI TO .ellipsis := hz1
  refine wpAny_bind ?_
  simp only [List.zipIdx_cons, List.zipIdx_nil, List.forIn_cons, List.forIn_nil]
  have e1 : ∀ c o, c ≠ z → s.heap.get? c = some o → h1.get? c = some o := fun c o hc e => s1.extBut _ _ hc e
  have ez : ∀ {h : Heap} {e : Addr} {o : Obj}, IsZip h z TI TO .ellipsis → h.get? e = some o → o.cls = .type "StopIteration" → e ≠ z := fun hz ho hc x => by
    subst x
    rw [hz] at ho
    cases ho
    simp at hc
  cases hx : xs[k1]? with
  | none =>
    refine wpAny_bind (wpAny_bind (wpAny_onRaise (wpAny_bind (m := Builtin.SmallTypes.nextOf (.ref i1)) (S1.done _ _ _ k1 xs _ hh (S1.itk _ _ _ j1 fun o e => e1 _ o D.i1z e) (S1.sqk _ _ _ q1 fun o e => e1 _ o D.l1z e) hx fun h2 e s2 he => ?_))))
    obtain ⟨oe, ho, hc⟩ := he
    have hz2 : IsZip h2 z TI TO .ellipsis := s2 _ _ D.i1z.symm hz1
    exact wpAny_setField_rec hz2 (by simp) fun h3 _ s3 => q h3 e (fun c o c1 _ c3 _ u => s3.extBut _ _ c1 (s2 _ _ c3 (e1 c o c1 u))) ⟨oe, s3.extBut _ _ (ez hz2 ho hc) ho, hc⟩
  | some x =>
    have hy : ys[k2]? = none := by
      rcases hn with h | h
      · rw [hx] at h; cases h
      · exact h
    refine wpAny_bind (wpAny_bind (wpAny_onRaise (wpAny_bind (m := Builtin.SmallTypes.nextOf (.ref i1)) (S1.item _ _ _ k1 xs x _ (S1.itk _ _ _ j1 fun o e => e1 _ o D.i1z e) (S1.sqk _ _ _ q1 fun o e => e1 _ o D.l1z e) hx fun h2 j1' s2 => wpAny_pure ?_))))
    have e2 : ∀ c o, c ≠ z → c ≠ i1 → s.heap.get? c = some o → h2.get? c = some o := fun c o c1 c2 e => s2.extBut _ _ c2 (e1 c o c1 e)
    have hO2 : IsPair h2 TO a b := e2 _ _ D.TOz D.TOi1 hO
    refine wpAny_bind (wpAny_seqItems hO2 rfl (wpAny_bind (wpAny_updateSeq_pair hO2 fun h3 hO3 s3 => wpAny_bind (wpAny_letGo (wpAny_pure ?_)))))
    have e3 : ∀ c o, c ≠ z → c ≠ i1 → c ≠ TO → s.heap.get? c = some o → h3.get? c = some o := fun c o c1 c2 c3 e => s3.extBut _ _ c3 (e2 c o c1 c2 e)
    refine wpAny_bind (wpAny_bind (wpAny_onRaise (wpAny_bind (m := Builtin.SmallTypes.nextOf (.ref i2)) (S2.done _ _ _ k2 ys _ hh (S2.itk _ _ _ j2 fun o e => e3 _ o D.i2z D.i12.symm D.TOi2.symm e) (S2.sqk _ _ _ q2 fun o e => e3 _ o D.l2z D.l2i1 D.l2TO e) hy fun h4 e s4 he => ?_))))
    obtain ⟨oe, ho, hc⟩ := he
    have hz4 : IsZip h4 z TI TO .ellipsis := s4 _ _ D.i2z.symm (s3.extBut _ _ D.TOz.symm (s2.extBut _ _ D.i1z.symm hz1))
    exact wpAny_setField_rec hz4 (by simp) fun h5 _ s5 => q h5 e (fun c o c1 c2 c3 c4 u => s5.extBut _ _ c1 (s4 _ _ c4 (e3 c o c1 c3 c2 u))) ⟨oe, s5.extBut _ _ (ez hz4 ho hc) ho, hc⟩
end
/-- the heap behind zip(a, b) of two tuples -/
abbrev zT1 (hp : Heap) (a b : Addr) : Heap := hp.push { cls := .type "tuple_iterator", data := .fields #[.ref a, .int 0 0] }
abbrev zT2 (hp : Heap) (a b : Addr) : Heap := (zT1 hp a b).push { cls := .type "tuple_iterator", data := .fields #[.ref b, .int 0 0] }
abbrev zT3 (hp : Heap) (a b : Addr) : Heap := (zT2 hp a b).push { cls := .type "tuple", data := .seq #[.ref hp.objs.size, .ref (zT1 hp a b).objs.size] }
abbrev zT4 (hp : Heap) (a b : Addr) : Heap := (zT3 hp a b).push { cls := .type "tuple", data := .seq #[.none, .none] }
abbrev zT5 (hp : Heap) (a b : Addr) : Heap := (zT4 hp a b).push { cls := .type "zip", data := .fields #[.none, .bool false, .bool false, .ref (zT2 hp a b).objs.size, .ref (zT3 hp a b).objs.size] }
theorem zipT_new (a b : Addr) (xs ys : Array Value) : Meets (Builtin.«zip.__new__» ⟨[.type "zip", .ref a, .ref b], []⟩) (fun _ R s => s.heap.IsTuple a xs ∧ s.heap.IsTuple b ys ∧ R (.ok (.ret (.ref (zT4 s.heap a b).objs.size))) { s with heap := zT5 s.heap a b }) :=
  .of_wp fun prog w A R s h => by
    obtain ⟨hp, g, d, tk, os⟩ := s
    obtain ⟨ha, hb, h⟩ := h
    have sz := sub_zip
    have ha : Heap.IsTuple (Shared.heap ⟨hp, g, d, tk, os⟩) a xs := ha
    have hb : Heap.IsTuple (Shared.heap ⟨hp.push { cls := .type "tuple_iterator", data := .fields #[.ref a, .int 0 0] }, g, d, tk, os⟩) b ys := Heap.IsTuple.push hb _
    wp_walk using wpAny_pyIter_tuple ha, wpAny_pyIter_tuple hb
    exact ⟨_, rfl, h⟩
theorem call_zipT {a b : Addr} {xs ys : Array Value} {Q : Value → Shared → Prop} (ha : s.heap.IsTuple a xs) (hb : s.heap.IsTuple b ys)
    (q : ∀ h', IsZip h' (s.heap.objs.size + 4) (s.heap.objs.size + 2) (s.heap.objs.size + 3) .none → IsPair h' (s.heap.objs.size + 2) (.ref s.heap.objs.size) (.ref (s.heap.objs.size + 1)) → IsPair h' (s.heap.objs.size + 3) .none .none →
      h'.IsTupleIter s.heap.objs.size a 0 → h'.IsTupleIter (s.heap.objs.size + 1) b 0 → h'.objs.size = s.heap.objs.size + 5 → (∀ c o, s.heap.get? c = some o → h'.get? c = some o) → Q (.ref (s.heap.objs.size + 4)) { s with heap := h' }) :
    wpAny (model prog w) A (call (.type "zip") [.ref a, .ref b]) Q E s := by
  refine callType_new F.called_zip (by decide) (F.typeCall_zip_2 _ _) (F.newCall_zip_2 _ _) (fun o => F.args_object_init_3 o _ _) F.entry_zip_new (zipT_new a b xs ys) ⟨ha, hb, ?_⟩
  have n1 : (zT1 s.heap a b).objs.size = s.heap.objs.size + 1 := Heap.size_push ..
  have n2 : (zT2 s.heap a b).objs.size = s.heap.objs.size + 2 := by rw [Heap.size_push, n1]
  have n3 : (zT3 s.heap a b).objs.size = s.heap.objs.size + 3 := by rw [Heap.size_push, n2]
  have n4 : (zT4 s.heap a b).objs.size = s.heap.objs.size + 4 := by rw [Heap.size_push, n3]
  have n5 : (zT5 s.heap a b).objs.size = s.heap.objs.size + 5 := by rw [Heap.size_push, n4]
  have p5 : (zT5 s.heap a b).get? (zT4 s.heap a b).objs.size = some _ := Heap.get?_push_size _ rfl
  have p4 : (zT5 s.heap a b).get? (zT3 s.heap a b).objs.size = some _ := Heap.get?_push_of_some _ (Heap.get?_push_size _ rfl)
  have p3 : (zT5 s.heap a b).get? (zT2 s.heap a b).objs.size = some _ := Heap.get?_push_of_some _ (Heap.get?_push_of_some _ (Heap.get?_push_size _ rfl))
  have p2 : (zT5 s.heap a b).get? (zT1 s.heap a b).objs.size = some _ := Heap.get?_push_of_some _ (Heap.get?_push_of_some _ (Heap.get?_push_of_some _ (Heap.get?_push_size _ rfl)))
  have p1 : (zT5 s.heap a b).get? s.heap.objs.size = some _ := Heap.get?_push_of_some _ (Heap.get?_push_of_some _ (Heap.get?_push_of_some _ (Heap.get?_push_of_some _ (Heap.get?_push_size _ rfl))))
  show _ ∧ _
  rw [n2, n3, n4] at p5
  rw [n1, n2] at p3
  rw [n3] at p4
  rw [n1] at p2
  rw [n4]
  exact ⟨⟨_, p5, rfl⟩, q _ p5 p3 p4 ⟨_, p1, rfl, rfl⟩ ⟨_, p2, rfl, rfl⟩ n5 fun c o e => Heap.get?_push_of_some _ (Heap.get?_push_of_some _ (Heap.get?_push_of_some _ (Heap.get?_push_of_some _ (Heap.get?_push_of_some _ e))))⟩
end

section
variable {X : Cx} {pins : List (Addr × Obj)} {σ : St} {H : Hp} {s : Shared} {h' : Heap}
/-- several objects of an iterator turn -/
theorem Inv.turnedL {t' : Nat} {ch : List Addr} (I : Inv X pins σ H s) (hf : ∀ b ∈ ch, FpOk X pins H b) (k : ∀ b o, b ∉ ch → s.heap.get? b = some o → h'.get? b = some o) : Inv X pins σ H { s with heap := h', toks := t' } := by
  have nit : ∀ b u, H b = some u → b ∉ ch := fun b u e z => by rw [(hf b z).1] at e; cases e
  refine I.step (g' := s.gens) (d' := s.drawn) (ch := ch) (fun b hb => ?_) (fun b o _ _ hc e _ => k b o hc e) (fun b o _ _ hc e _ => ⟨o.slots, k b o hc e⟩) (fun _ _ _ _ n => n)
    (fun b o hc e => ⟨o, k b o hc e⟩) (fun _ _ e => e) (fun _ _ _ e => e) (fun b ps e => ⟨#[], by rw [e]; simp⟩) (fun m hm => ?_) (fun b u e => ?_) I.bare
  · obtain ⟨_, f1, _, f3, f4, f5⟩ := hf b hb
    exact ⟨f3, f1, f4, f5⟩
  · obtain ⟨o, es, ep, ho, r⟩ := hm
    exact ⟨o, es, ep, k _ o (fun z => (hf _ z).2.1 rfl) ho, r⟩
  · refine (I.hok b u e).stay (fun c v hc q => k c v ?_ q) (fun _ q => q) fun _ _ q => q
    rcases hc with z | z
    · rw [z]; exact nit b u e
    · exact nit c _ z
end

/-- a list (false) or a tuple (true) -/
def SqX (t : Bool) (K : PySem.W.Frag) (H : Hp) (a : Addr) (xs : List V) : Prop := match t with
  | false => SqL K H a xs
  | true => SqT K H a xs
/-- zip(a, b) of two lists or of two tuples: pairs, while both have one -/
def Itz (t : Bool) (K : PySem.W.Frag) (a b : Addr) : It :=
  ⟨fun i H => ∃ xs ys x y, SqX t K H a xs ∧ SqX t K H b ys ∧ xs[i]? = some x ∧ ys[i]? = some y,
   fun i H v H' => ∃ p x y, v = .ref p ∧ H p = none ∧ H' = upd H p (.tup [x, y]) ∧ (∀ xs, SqX t K H a xs → xs[i]? = some x) ∧ ∀ ys, SqX t K H b ys → ys[i]? = some y,
   fun i H => ∃ xs ys, SqX t K H a xs ∧ SqX t K H b ys ∧ (xs.length ≤ i ∨ ys.length ≤ i)⟩
def itX (t : Bool) (i a : Addr) (k : Nat) (h : Heap) : Prop := match t with
  | false => h.IsListIter i a k
  | true => h.IsTupleIter i a k
def sqX (t : Bool) (a : Addr) (h : Heap) (vs : Array Value) : Prop := match t with
  | false => h.IsList a vs
  | true => h.IsTuple a vs
theorem step_X {prog : Program} {w : World} (t : Bool) (i a : Addr) : Step prog w i a (itX t i a) (sqX t a) := by
  cases t
  · exact step_list i a
  · exact step_tup i a
section
variable {X : Cx} {pins : List (Addr × Obj)} {σ : St} {H : Hp} {s : Shared}
theorem Inv.sqX {t : Bool} {a : Addr} {xs : List V} (I : Inv X pins σ H s) (h : SqX t X.K H a xs) : ∃ vs : List Value, Vals xs vs ∧ L2.sqX t a s.heap vs.toArray ∧ xs.length ≤ sizeLine := by
  cases t
  · obtain ⟨its, r, p, hz⟩ := I.list h
    exact ⟨its, r, p.isList, hz⟩
  · obtain ⟨its, r, p, hz⟩ := I.tuple h
    exact ⟨its, r, p, hz⟩
theorem Inv.sqX_inj {t : Bool} {a : Addr} {xs ys : List V} (I : Inv X pins σ H s) (h : SqX t X.K H a xs) (h' : SqX t X.K H a ys) : xs = ys := by
  cases t
  · exact I.list_inj h h'
  · exact I.tuple_inj h h'
end
theorem turn_zip {P : Program} {w : World} {K : PySem.W.Frag} {es : List Expr} {ek : Nat} {pos : Pos} (t : Bool) (a b z TI TO i1 i2 : Addr) (D : ZipApart z TI TO i1 i2 a b) :
    Turn P w K (.Tuple es ek pos) (Itz t K a b) [z, TI, TO, i1, i2] z (fun i h => IsZip h z TI TO .none ∧ IsPair h TI (.ref i1) (.ref i2) ∧ (∃ x y, IsPair h TO x y) ∧ itX t i1 a i h ∧ itX t i2 b i h) where
  mem := by simp
  obj := fun i h st c hc => by
    obtain ⟨hz, hI, ⟨x, y, hO⟩, j1, j2⟩ := st
    simp only [List.mem_cons, List.not_mem_nil, or_false] at hc
    rcases hc with e | e | e | e | e <;> subst e
    · exact ⟨_, hz, fun v u => by cases u⟩
    · exact ⟨_, hI, fun v u => by cases u⟩
    · exact ⟨_, hO, fun v u => by cases u⟩
    · exact (step_X (prog := P) (w := w) t _ a).obj _ _ j1
    · exact (step_X (prog := P) (w := w) t _ b).obj _ _ j2
  keep := fun i h h' st k => by
    obtain ⟨hz, hI, ⟨x, y, hO⟩, j1, j2⟩ := st
    exact ⟨k z (by simp) _ hz, k TI (by simp) _ hI, ⟨x, y, k TO (by simp) _ hO⟩, (step_X (prog := P) (w := w) t i1 a).itk _ _ _ j1 fun o e => k i1 (by simp) o e, (step_X (prog := P) (w := w) t i2 b).itk _ _ _ j2 fun o e => k i2 (by simp) o e⟩
  item := by
    intro X hP hw hK hc i pins s σ H E I hf st hg
    subst hP hw hK
    obtain ⟨xs, ys, x, y, qa, qb, hx, hy⟩ := hg
    obtain ⟨hz, hI, ⟨x0, y0, hO⟩, j1, j2⟩ := st
    obtain ⟨va, ra, pa, za⟩ := I.sqX qa
    obtain ⟨vb, rb, pb, zb⟩ := I.sqX qb
    obtain ⟨u, hu, ru⟩ := ra.get hx
    obtain ⟨v, hv, rv⟩ := rb.get hy
    have hT : s.TypeIs (.ref z) "zip" := ⟨_, hz, rfl⟩
    unfold pyNext
    refine wpAny_bind (wpAny_attempt (wpAny_callSpecial?_slot (name := Str.ofString "__next__") hT F.slot_zip_next (wpAny_call_entry F.slot_zip_next hT F.entry_zip_next (zn_item (step_X t i1 a) (step_X t i2 b) D hz hI hO j1 j2 pa pb (x := u) (y := v) (by simpa using hu) (by simpa using hv)
      fun h' a1 a2 a3 a4 a5 a6 a7 => wpAny_pure ⟨_, rfl, ?_⟩) (F.args_zip_next_1 _))))
    refine wpAny_letOwnedTupleGo_zip (s := { s with heap := h' }) a1 fun h2 b1 b2 => ?_
    have hn : ∀ c ∈ [z, TI, TO, i1, i2], c ≠ s.heap.objs.size := fun c hc' e => by
      obtain ⟨o, ho, _⟩ : ∃ o, s.heap.get? c = some o ∧ True := by
        simp only [List.mem_cons, List.not_mem_nil, or_false] at hc'
        rcases hc' with q | q | q | q | q
        · exact ⟨_, q ▸ hz, trivial⟩
        · exact ⟨_, q ▸ hI, trivial⟩
        · exact ⟨_, q ▸ hO, trivial⟩
        · obtain ⟨o, ho, _⟩ := (step_X (prog := X.prog) (w := X.w) t i1 a).obj _ _ j1; exact ⟨o, q ▸ ho, trivial⟩
        · obtain ⟨o, ho, _⟩ := (step_X (prog := X.prog) (w := X.w) t i2 b).obj _ _ j2; exact ⟨o, q ▸ ho, trivial⟩
      exact absurd (Heap.lt_size ho) (by rw [e]; exact Nat.lt_irrefl _)
    have I0 : Inv X pins σ (upd H s.heap.objs.size (.tup [x, y])) { s with heap := s.heap.push { cls := .type "tuple", data := .seq #[u, v] } } :=
      I.laid (t' := s.toks) (fun c o e => Heap.get?_push_of_some _ e) (Nat.le_refl _) ⟨by show 2 ≤ sizeLine; decide, [u, v], .cons ru (.cons rv .nil), IsTup.new _ _⟩
    have hf0 : ∀ c ∈ [z, TI, TO, i1, i2], FpOk X pins (upd H s.heap.objs.size (.tup [x, y])) c := fun c hc' => ⟨by rw [upd_ne (hn c hc')]; exact (hf c hc').1, (hf c hc').2⟩
    have I1 : Inv X pins σ (upd H s.heap.objs.size (.tup [x, y])) { s with heap := h2 } := Inv.turnedL (s := { s with heap := s.heap.push { cls := .type "tuple", data := .seq #[u, v] } }) (t' := s.toks) (ch := [z, TI, TO, i1, i2]) I0 hf0 fun c o hc' e => by
      simp only [List.mem_cons, List.not_mem_nil, or_false, not_or] at hc'
      obtain ⟨c1, c2, c3, c4, c5⟩ := hc'
      by_cases hcn : c = s.heap.objs.size
      · subst hcn
        have e' : (s.heap.push { cls := .type "tuple", data := .seq #[u, v] }).get? s.heap.objs.size = some o := e
        rw [Heap.get?_push_size _ rfl] at e'
        cases e'
        exact b2.extBut _ _ c1 a5
      · refine b2.extBut _ _ c1 (a7 c o c1 c3 c4 c5 ?_)
        have e' : (s.heap.push { cls := .type "tuple", data := .seq #[u, v] }).get? c = some o := e
        rw [Heap.get?_push_ne _ _ _ hcn] at e'
        exact e'
    refine ⟨.ref s.heap.objs.size, _, I1, rfl, ⟨_, x, y, rfl, I.hok.fresh (Nat.le_refl _), rfl, fun xs' h => by rw [I.sqX_inj h qa]; exact hx, fun ys' h => by rw [I.sqX_inj h qb]; exact hy⟩, ⟨b1, ?_, ⟨u, v, b2.extBut _ _ D.TOz a2⟩, ?_, ?_⟩, fun c hc' => (hf0 c hc').1⟩
    · exact b2.extBut _ _ D.TIz (a7 _ _ D.TIz D.TITO D.TIi1 D.TIi2 hI)
    · exact (step_X (prog := X.prog) (w := X.w) t i1 a).itk _ _ _ a3 fun o e => b2.extBut _ _ D.i1z e
    · exact (step_X (prog := X.prog) (w := X.w) t i2 b).itk _ _ _ a4 fun o e => b2.extBut _ _ D.i2z e
  done := by
    intro X hP hw hK hc i pins s σ H E I hf st hg
    subst hP hw hK
    obtain ⟨xs, ys, qa, qb, hl⟩ := hg
    obtain ⟨hz, hI, ⟨x0, y0, hO⟩, j1, j2⟩ := st
    obtain ⟨va, ra, pa, za⟩ := I.sqX qa
    obtain ⟨vb, rb, pb, zb⟩ := I.sqX qb
    have la := ra.length
    have lb := rb.length
    have hT : s.TypeIs (.ref z) "zip" := ⟨_, hz, rfl⟩
    unfold pyNext
    refine wpAny_bind (wpAny_attempt (wpAny_callSpecial?_slot (name := Str.ofString "__next__") hT F.slot_zip_next (wpAny_call_entry F.slot_zip_next hT F.entry_zip_next (zn_end (step_X t i1 a) (step_X t i2 b) D (show X.A.in1.handled = none from I.ok.hd hc) hz hI hO j1 j2 pa pb
      (hl.elim (fun h => .inl (by simp; omega)) fun h => .inr (by simp; omega)) fun h' e k he => ?_) (F.args_zip_next_1 _))))
    obtain ⟨o, ho, hce⟩ := he
    refine wpAny_bind (wpAny_isInstance (T := "StopIteration") (b := true) ⟨o, ho, hce⟩ isSubtype_stop (wpAny_pure ⟨rfl, I.turnedL (t' := s.toks) hf fun c o hc' e => ?_⟩))
    simp only [List.mem_cons, List.not_mem_nil, or_false, not_or] at hc'
    exact k c o hc'.1 hc'.2.2.1 hc'.2.2.2.1 hc'.2.2.2.2 e
  self := fun _ _ _ _ _ st h => wpAny_pyIter_zip st.1 h
theorem zapart {n a b : Nat} (ha : a < n) (hb : b < n) : ZipApart (n + 4) (n + 2) (n + 3) n (n + 1) a b := by
  constructor <;> (intro (e : (_ : Nat) = _); omega)
theorem boot_zip' : bootBuiltins "zip" = some (.type "zip") := by decide +kernel
section
variable {X : Cx}
def iZip (K : PySem.W.Frag) (ta : TA) : TI := fun σ H R => ta σ H fun vs H1 => ∃ (t : Bool) (a b : Addr), vs = [.ref a, .ref b] ∧ (∃ xs, SqX t K H1 a xs) ∧ (∃ ys, SqX t K H1 b ys) ∧ R (Itz t K a b) H1
theorem pi_zip {a b : Expr} {ta : TA} {es : List Expr} {ek : Nat} {p pos pos' : Pos} (hg : Gl X "zip") (hm : X.mg "zip" = none) (ha : PA X [a, b] ta) (hs : starEach [a, b] X.env = [(false, eval a X.env), (false, eval b X.env)] := by rfl) (hs2 : starEach [b] X.env = [(false, eval b X.env)] := by rfl) :
    PI X (.Tuple es ek pos') (.Call (.Name "zip" p) [a, b] [] pos) (iZip X.K ta) := by
  intro pins s σ H R I h
  refine Call_ (ld_blt I hg hm boot_zip' (PyProof.Rows.callWith_type1 (thn (ha pos pins s σ H _ I h) fun us s1 ⟨vs, H1, I1, r1, q1⟩ => ?_) (by rw [hs, hs2]) (by rw [hs2]; rfl)))
  obtain ⟨t, a, b, e, ⟨xs, hx⟩, ⟨ys, hy⟩, q⟩ := q1
  subst e
  obtain ⟨u, w', rfl, rx, ry⟩ := vals2 r1
  cases rx
  cases ry
  obtain ⟨va, ra, pa, za⟩ := I1.sqX hx
  obtain ⟨vb, rb, pb, zb⟩ := I1.sqX hy
  have la : a < s1.heap.objs.size := by
    cases t
    · obtain ⟨o, e, _⟩ := pa; exact Heap.lt_size e
    · obtain ⟨o, e, _⟩ := pa; exact Heap.lt_size e
  have lb : b < s1.heap.objs.size := by
    cases t
    · obtain ⟨o, e, _⟩ := pb; exact Heap.lt_size e
    · obtain ⟨o, e, _⟩ := pb; exact Heap.lt_size e
  have fin : ∀ h' : Heap, IsZip h' (s1.heap.objs.size + 4) (s1.heap.objs.size + 2) (s1.heap.objs.size + 3) .none → IsPair h' (s1.heap.objs.size + 2) (.ref s1.heap.objs.size) (.ref (s1.heap.objs.size + 1)) → IsPair h' (s1.heap.objs.size + 3) .none .none →
      itX t s1.heap.objs.size a 0 h' → itX t (s1.heap.objs.size + 1) b 0 h' → h'.objs.size = s1.heap.objs.size + 5 → (∀ c o, s1.heap.get? c = some o → h'.get? c = some o) →
      wpAny (model X.prog X.w) X.A (pyIter (.ref (s1.heap.objs.size + 4))) (PIE X pins σ (.Tuple es ek pos') R) X.xe { s1 with heap := h' } := by
    intro h' hz hI hO j1 j2 _ k
    refine wpAny_pyIter_zip hz ?_
    refine ⟨_, [s1.heap.objs.size + 4, s1.heap.objs.size + 2, s1.heap.objs.size + 3, s1.heap.objs.size, s1.heap.objs.size + 1], _, _, H1, rfl, I1.kept (t' := s1.toks) k, turn_zip t a b _ _ _ _ _ ?_, ⟨hz, hI, ⟨_, _, hO⟩, j1, j2⟩, fun c hc => ?_, q⟩
    · exact zapart la lb
    · have : s1.heap.objs.size ≤ c := by
        simp only [List.mem_cons, List.not_mem_nil, or_false] at hc
        rcases hc with e | e | e | e | e <;> (rw [e]; first | exact Nat.le_refl _ | exact Nat.le_add_right _ _)
      exact I1.fpOk this (I1.hok.fresh this)
  cases t
  · exact call_zip_2 pa pb fin
  · exact call_zipT pa pb fin
end
theorem SqL.same {K : PySem.W.Frag} {H H' : Hp} {a : Addr} {xs : List V} (e : Same H H') (h : SqL K H a xs) : SqL K H' a xs := by
  rcases h with (h | ⟨o, h⟩) | h
  · exact .inl (.inl (e _ _ h))
  · exact .inl (.inr ⟨o, e _ _ h⟩)
  · exact .inr h
theorem SqX.same {t : Bool} {K : PySem.W.Frag} {H H' : Hp} {a : Addr} {xs : List V} (e : Same H H') (h : SqX t K H a xs) : SqX t K H' a xs := by
  cases t
  · exact SqL.same e h
  · exact SqT.same e h
theorem SqX.or {t : Bool} {K : PySem.W.Frag} {H : Hp} {a : Addr} {xs : List V} (h : SqX t K H a xs) : SqL K H a xs ∨ SqT K H a xs := by
  cases t
  · exact .inl h
  · exact .inr h
theorem comp_zip {t : Bool} {K : PySem.W.Frag} {a b l : Addr} {xs ys : List V} {own : Nat} {fr : List Nat} {g : TG} {tf : TT} {te : TE} {σ : St} {H1 : Hp} {Q : VK} (n : Nat) (hn1 : n = xs.length) (hn2 : n = ys.length) (Pv : Nat → List V → Hp → Prop)
    (h0 : Pv 0 [] (upd H1 l (.lst []))) (hl : ∀ i zs H, i ≤ n → H l = some (.lst zs) → Pv i zs H → SqX t K H a xs ∧ SqX t K H b ys)
    (hs : ∀ i x y zs H3 p, xs[i]? = some x → ys[i]? = some y → H3 l = some (.lst zs) → Pv i zs H3 → H3 p = none → g (.ref p) (σc own fr σ) (upd H3 p (.tup [x, y])) fun σ4 H4 => (∃ ow, ow.length = own ∧ σ4 = ow ++ σf fr σ) ∧ tf σ4 H4 fun b H5 =>
      if b = true then te σ4 H5 fun y H6 => H6 l = some (.lst zs) ∧ zs.length < sizeLine ∧ Pv (i + 1) (zs ++ [y]) (upd H6 l (.lst (zs ++ [y]))) else H5 l = some (.lst zs) ∧ Pv (i + 1) zs H5)
    (hd : ∀ zs H, H l = some (.lst zs) → Pv n zs H → Q (.ref l) H) : CompW (Itz t K a b) l own fr g tf te σ H1 Q := by
  refine ⟨n, Pv, h0, fun i zs H hi ha p => ?_⟩
  obtain ⟨qa, qb⟩ := hl i zs H hi ha p
  by_cases hlt : i < n
  · have l1 : i < xs.length := by omega
    have l2 : i < ys.length := by omega
    refine .inr ⟨hlt, ⟨xs, ys, xs[i], ys[i], qa, qb, by simp [l1], by simp [l2]⟩, fun v H' y => ?_⟩
    obtain ⟨p', x, y, rfl, np, rfl, hx, hy⟩ := y
    exact hs i x y zs H p' (hx xs qa) (hy ys qb) ha p np
  · have e : i = n := by omega
    subst e
    exact .inl ⟨⟨xs, ys, qa, qb, .inl (by omega)⟩, hd zs H ha p⟩

/-! ### values as trees: leaves, lists, tuples -/
inductive Tr where
  | leaf (v : V)
  | seq (t : Bool) (xs : List Tr)
noncomputable instance : DecidableEq Tr := fun _ _ => Classical.propDecidable _
/-- x is the tree T, less than d deep -/
def AtD (K : PySem.W.Frag) (H : Hp) : Nat → V → Tr → Prop
  | 0, _, _ => False
  | d + 1, x, T => (flatV x = true ∧ T = .leaf x) ∨ ∃ t a xs Ts, x = .ref a ∧ SqX t K H a xs ∧ T = .seq t Ts ∧ xs.length = Ts.length ∧ xs.length ≤ sizeLine ∧ ∀ (i : Nat) (x' : V) (T' : Tr), xs[i]? = some x' → Ts[i]? = some T' → AtD K H d x' T'
theorem AtD.same {K : PySem.W.Frag} {H H' : Hp} (e : Same H H') : ∀ {d : Nat} {x : V} {T : Tr}, AtD K H d x T → AtD K H' d x T
  | 0, _, _, h => False.elim h
  | d + 1, x, T, h => by
    rcases h with h | ⟨t, a, xs, Ts, h1, h2, h3, h4, h4', h5⟩
    · exact .inl h
    · exact .inr ⟨t, a, xs, Ts, h1, h2.same e, h3, h4, h4', fun i x' T' e1 e2 => (h5 i x' T' e1 e2).same e⟩
def tyB (T : String) : V → Bool
  | .bl _ => T == "bool" || T == "int"
  | .int _ => T == "int"
  | .str _ => T == "str"
  | _ => false
def tyT (T : String) : Tr → Bool
  | .leaf v => tyB T v
  | .seq true _ => T == "tuple"
  | .seq false _ => T == "list"
def ltT : Tr → Bool
  | .leaf _ => false
  | .seq _ _ => true
theorem ty_flat {K : PySem.W.Frag} {T : String} {x : V} {H : Hp} (f : flatV x = true) : TyV K T x H (tyB T x) := by
  cases x <;> first | rfl | exact absurd f Bool.false_ne_true
theorem lt_flat {K : PySem.W.Frag} {x : V} {H : Hp} (f : flatV x = true) : LtV K x H false := by
  cases x <;> first | rfl | exact absurd f Bool.false_ne_true
theorem ty_at {K : PySem.W.Frag} {T : String} {x : V} {H : Hp} {U : Tr} {d : Nat} (h : AtD K H (d + 1) x U) : TyV K T x H (tyT T U) := by
  rcases h with ⟨f, rfl⟩ | ⟨t, a, xs, Ts, rfl, q, rfl, _⟩
  · exact ty_flat f
  · cases t
    · exact .inl ⟨xs, q, rfl⟩
    · exact .inr (.inl ⟨xs, q, rfl⟩)
theorem lt_at {K : PySem.W.Frag} {x : V} {H : Hp} {U : Tr} {d : Nat} (h : AtD K H (d + 1) x U) : LtV K x H (ltT U) := by
  rcases h with ⟨f, rfl⟩ | ⟨t, a, xs, Ts, rfl, q, rfl, _⟩
  · exact lt_flat f
  · cases t
    · exact .inl ⟨xs, q, rfl⟩
    · exact .inr (.inl ⟨xs, q, rfl⟩)
theorem ty_neT {T : String} {x y : Tr} (h : tyT T x ≠ tyT T y) : decide (x = y) = false := decide_eq_false fun e => h (by rw [e])
theorem leaf_eq {v u : V} : decide (Tr.leaf v = Tr.leaf u) = decide (v = u) := by
  rw [Bool.eq_iff_iff, decide_eq_true_iff, decide_eq_true_iff]
  exact ⟨fun h => by injection h, fun h => by rw [h]⟩
theorem seq_eq {t : Bool} {Ts Us : List Tr} (hl : Ts.length = Us.length) : decide (Tr.seq t Ts = Tr.seq t Us) = (((List.range Ts.length).map fun k => decide (Ts[k]? = Us[k]?)).all id) := by
  rw [Bool.eq_iff_iff, decide_eq_true_iff, List.all_map, List.all_eq_true]
  constructor
  · intro h k _
    injection h with _ h
    simp [h]
  · intro h
    have : Ts = Us := List.ext_getElem? fun k => by
      by_cases hk : k < Ts.length
      · exact of_decide_eq_true (h k (List.mem_range.mpr hk))
      · rw [List.getElem?_eq_none (by omega), List.getElem?_eq_none (by omega)]
    rw [this]
/-- two trees whose kinds are alike, one of them a list or a tuple -/
theorem two_seqs {K : PySem.W.Frag} {H : Hp} {d : Nat} {x y : V} {T U : Tr} (ax : AtD K H (d + 1) x T) (ay : AtD K H (d + 1) y U) (h : ltT T = true ∨ ltT U = true) (e1 : tyT "list" T = tyT "list" U) (e2 : tyT "tuple" T = tyT "tuple" U) :
    ∃ t a b xs ys Ts Us, x = .ref a ∧ y = .ref b ∧ SqX t K H a xs ∧ SqX t K H b ys ∧ T = .seq t Ts ∧ U = .seq t Us ∧ xs.length = Ts.length ∧ ys.length = Us.length ∧ xs.length ≤ sizeLine ∧
      (∀ (i : Nat) (x' : V) (T' : Tr), xs[i]? = some x' → Ts[i]? = some T' → AtD K H d x' T') ∧ ∀ (i : Nat) (x' : V) (T' : Tr), ys[i]? = some x' → Us[i]? = some T' → AtD K H d x' T' := by
  have lf : ∀ {v : V}, flatV v = true → tyB "list" v = false ∧ tyB "tuple" v = false := fun {v} f => by
    cases v <;> first | exact ⟨rfl, rfl⟩ | exact absurd f Bool.false_ne_true
  rcases ax with ⟨fx, rfl⟩ | ⟨t, a, xs, Ts, rfl, qa, rfl, la, za, ha⟩
  · rcases ay with ⟨fy, rfl⟩ | ⟨t, b, ys, Us, rfl, qb, rfl, lb, _, hb⟩
    · rcases h with h | h <;> exact absurd h Bool.false_ne_true
    · exfalso
      have l := lf fx
      cases t
      · exact absurd (show false = true from l.1.symm.trans e1) Bool.false_ne_true
      · exact absurd (show false = true from l.2.symm.trans e2) Bool.false_ne_true
  · rcases ay with ⟨fy, rfl⟩ | ⟨t', b, ys, Us, rfl, qb, rfl, lb, _, hb⟩
    · exfalso
      have l := lf fy
      cases t
      · exact absurd (show true = false from e1.trans l.1) (by decide)
      · exact absurd (show true = false from e2.trans l.2) (by decide)
    · have : t = t' := by
        cases t <;> cases t' <;> first | rfl | exact absurd (show true = false from e1) (by decide) | exact absurd (show false = true from e1) (by decide)
      subst this
      exact ⟨t, a, b, xs, ys, Ts, Us, rfl, rfl, qa, qb, rfl, rfl, la, lb, za, ha, hb⟩
theorem dB {a b : Bool} : decide (V.bl a = V.bl b) = decide (a = b) := by cases a <;> cases b <;> rfl
def spSameT (K : PySem.W.Frag) (d : Nat) : Sp := fun vs H Q _ => ∃ x y T U, vs = [x, y] ∧ AtD K H d x T ∧ AtD K H d y U ∧ ∀ H', Same H H' → Q (.bl (decide (T = U))) H'
theorem Same.alloc {H H1 : Hp} {a : Addr} {o : HO} (x : Same H H1) (h : H1 a = none) : Same H (upd H1 a o) := fun b u e => by rw [upd_ne (ne_of_none (x b u e) h)]; exact x b u e
theorem scal_flat {x y : V} (fx : flatV x = true) (fy : flatV y = true) (hx : ¬ tyB "bool" x = true) (hy : ¬ tyB "bool" y = true) : scal x y = true := by
  cases x <;> first | exact absurd fx Bool.false_ne_true | exact absurd rfl hx | (cases y <;> first | rfl | exact absurd fy Bool.false_ne_true | exact absurd rfl hy)

/-! ### min, max of a list of numbers -/
section
variable {X : Cx}
/-- a tuple of targets in a comprehension's block -/
theorem pg_tupK {K : PySem.W.Frag} {es : List Expr} {k : Nat} {pos : Pos} {t : TGs} (n : Nat) (hK : X.K = K) (hc : X.calm = true) (h : PGs X es t)
    (hn : (assignEach es X.env).length = n) (hst : (assignEach es X.env).findIdx? (·.1) = none) : PG X (.Tuple es k pos) (gTup K n t) := by
  subst hK
  exact pg_tup hc h hn hst
theorem call_min1 (hc : X.calm = true) : CallR X (.builtin "min") (fun xs H Q => ∃ (p : Addr) (ns : List Int), xs = [.ref p] ∧ SqL X.K H p (ns.map V.int) ∧ 0 < ns.length ∧ ∀ M, M ∈ ns → (∀ a ∈ ns, M ≤ a) → Q (.int M) H) := by
  intro pins s σ H xs us Q I r h
  obtain ⟨p, ns, rfl, hq, hn, q⟩ := h
  obtain ⟨u, rfl, rx⟩ := vals1 r
  cases rx
  obtain ⟨its, rv, pl, hz⟩ := I.list hq
  have hi : IntsAre its ns := intsAre_of rv
  obtain ⟨zs, ez⟩ := hi.allInts.items
  have en : ns = zs.toList.map (·.1) := by rw [← hi.numsOf, ← nums_intItems, ← ez]
  have hz0 : 0 < zs.size := by rw [en, List.length_map, Array.length_toList] at hn; exact hn
  have hl := pl.isList
  rw [ez] at hl
  refine min_intList (I.ok.hd hc) hl hz0 fun v h' tk hv hk => ?_
  obtain ⟨t, rfl⟩ := intItems_at hv
  obtain ⟨h1, h2⟩ := argBest_lt (numAt zs) (zs.size - 1)
  refine ⟨.int _, H, I.kept hk, ⟨t, rfl⟩, q _ ?_ fun a ha => ?_⟩
  · rw [en, numAt_eq]
    exact getD_mem (by rw [List.length_map, Array.length_toList]; omega)
  · rw [en] at ha
    obtain ⟨j, hj, rfl⟩ := mem_getD ha
    rw [List.length_map, Array.length_toList] at hj
    have := h2 j (by omega)
    rw [numAt_eq zs j] at this
    exact this
theorem call_max1 (hc : X.calm = true) : CallR X (.builtin "max") (fun xs H Q => ∃ (p : Addr) (ns : List Int), xs = [.ref p] ∧ SqL X.K H p (ns.map V.int) ∧ 0 < ns.length ∧ ∀ M, M ∈ ns → (∀ a ∈ ns, a ≤ M) → Q (.int M) H) := by
  intro pins s σ H xs us Q I r h
  obtain ⟨p, ns, rfl, hq, hn, q⟩ := h
  obtain ⟨u, rfl, rx⟩ := vals1 r
  cases rx
  obtain ⟨its, rv, pl, hz⟩ := I.list hq
  have hi : IntsAre its ns := intsAre_of rv
  obtain ⟨zs, ez⟩ := hi.allInts.items
  have en : ns = zs.toList.map (·.1) := by rw [← hi.numsOf, ← nums_intItems, ← ez]
  have hz0 : 0 < zs.size := by rw [en, List.length_map, Array.length_toList] at hn; exact hn
  have hl := pl.isList
  rw [ez] at hl
  refine max_intList (I.ok.hd hc) hl hz0 fun v h' tk hv hk => ?_
  obtain ⟨t, rfl⟩ := intItems_at hv
  obtain ⟨h1, h2⟩ := argBest_gt (numAt zs) (zs.size - 1)
  refine ⟨.int _, H, I.kept hk, ⟨t, rfl⟩, q _ ?_ fun a ha => ?_⟩
  · rw [en, numAt_eq]
    exact getD_mem (by rw [List.length_map, Array.length_toList]; omega)
  · rw [en] at ha
    obtain ⟨j, hj, rfl⟩ := mem_getD ha
    rw [List.length_map, Array.length_toList] at hj
    have := h2 j (by omega)
    rw [numAt_eq zs j] at this
    exact this
end
end L2
/-! ranges of any size, with a step -/
namespace L2
open PySem PySem.Spec PyProof.Rows
/-- lo, lo + c, .. (n of them) -/
def Itg (lo c : Int) (n : Nat) : It := ⟨fun i _ => i < n, fun i H x H' => H' = H ∧ x = .int (lo + i * c), fun i _ => n ≤ i⟩
/-- how many numbers range(i, j, c) has, c > 0 -/
def rgN (i j c : Int) : Nat := (if i < j then (j - i - 1) / c + 1 else 0).toNat
section
variable {X : Cx} {tg : Expr}
def iRng3 (ta : TA) : TI := fun σ H R => ta σ H fun vs H1 => ∃ i j k : Int, vs = [.int i, .int j, .int k] ∧ 0 < k ∧ BigOk k ∧ R (Itg i k (rgN i j k)) H1
def iRng2L (ta : TA) : TI := fun σ H R => ta σ H fun vs H1 => ∃ i j : Int, vs = [.int i, .int j] ∧ R (Itg i 1 (rgN i j 1)) H1
end
end L2
/-! sorted; == of None and tuples -/
namespace L2
open PySem PySem.Spec PyProof.Rows
theorem vals_ofInts {us : List Value} {ns : List Int} (h : IntsAre us ns) : Vals (ns.map V.int) us := by
  induction h with
  | nil => exact .nil
  | cons n t _ ih => exact .cons ⟨t, rfl⟩ ih
section
variable {X : Cx}
theorem call_sortedI : CallR X (.builtin "sorted") (fun xs H Q => ∃ (p : Addr) (ns : List Int), xs = [.ref p] ∧ SqL X.K H p (ns.map V.int) ∧ ns.length < 64 ∧
    ∀ (ns' : List Int) (l : Addr), ns'.Perm ns → ns'.Pairwise (· ≤ ·) → H l = none → Q (.ref l) (upd H l (.lst (ns'.map V.int)))) := by
  intro pins s σ H xs us Q I r h
  obtain ⟨p, ns, rfl, hq, h64, q⟩ := h
  obtain ⟨u, rfl, rx⟩ := vals1 r
  cases rx
  obtain ⟨its, rv, pl, hz⟩ := I.list hq
  have hi : IntsAre its ns := intsAre_of rv
  have hll := rv.length
  rw [List.length_map] at hll
  refine sorted_ints pl.isList hi (by omega) fun out ns' a1 a2 a3 => ?_
  obtain ⟨e, he⟩ := sortedAll_at s.heap its out
  have hlen := a2.length_eq
  refine ⟨.ref (s.heap.objs.size + 1), _, I.laid (t' := s.toks) (fun b o e => sortedAll_old e) (Nat.le_succ _) (show ObjOk X.prog X.w _ _ _ (.lst (ns'.map V.int)) from ⟨?_, out.toList, e, vals_ofInts a1, he⟩), rfl, q ns' _ a2 a3 (I.hok.fresh (Nat.le_succ _))⟩
  rw [List.length_map, hlen]
  exact Nat.le_of_lt (Nat.lt_trans h64 (by decide))
/-- len, within a comprehension -/
def rLen (K : PySem.W.Frag) : List V → Hp → VK → Prop := fun xs H Q => ∃ p ys, xs = [.ref p] ∧ (SqL K H p ys ∨ SqT K H p ys) ∧ Q (.int ys.length) H
theorem call_lenK {K : PySem.W.Frag} (hK : X.K = K) : CallR X (.builtin "len") (rLen K) := by
  subst hK
  exact call_len_seq
/-- None, or a tuple of flat things -/
def OV (K : PySem.W.Frag) (H : Hp) (x : V) (o : Option (List V)) : Prop := (x = .non ∧ o = none) ∨ ∃ p xs, x = .ref p ∧ SqT K H p xs ∧ xs.all flatV = true ∧ o = some xs
def eqO : Option (List V) → Option (List V) → Bool
  | none, none => true
  | some xs, some ys => eqVs xs ys
  | _, _ => false
def rEqO (K : PySem.W.Frag) (neg : Bool) : R2 := fun x y H Q => ∃ o o', OV K H x o ∧ OV K H y o' ∧ Q (.bl (if neg then !eqO o o' else eqO o o')) H
theorem eqVs_min : ∀ {xs ys : List V}, ((List.range (min xs.length ys.length)).all (fun i => eqV (xs.getD i .non) (ys.getD i .non)) && xs.length == ys.length) = eqVs xs ys := by
  intro xs ys
  by_cases hl : xs.length = ys.length
  · rw [hl, Nat.min_self, ← hl, eqVs_range hl]
    simp
  · rw [eqVs_len hl]
    simp [hl]
theorem op_eqO (hu : X.A.units < cLine) : OpR X (compareOp .Eq) (rEqO X.K false) := by
  intro pins s σ H x y v u Q I rx ry h
  obtain ⟨o, o', hx, hy, k⟩ := h
  rcases hx with ⟨rfl, rfl⟩ | ⟨p, xs, rfl, hp, fx, rfl⟩
  · cases rx
    rcases hy with ⟨rfl, rfl⟩ | ⟨q, ys, rfl, hq, fy, rfl⟩
    · cases ry
      exact SeqAt.RcAt.none_none _ _ _ _ ⟨.bl true, H, I, rfl, k⟩
    · cases ry
      obtain ⟨ws, r2, p2, z2⟩ := I.tuple hq
      exact SeqAt.RcAt.none_tuple p2 hu _ _ _ _ ⟨.bl false, H, I, rfl, k⟩
  · cases rx
    obtain ⟨us, r1, p1, z1⟩ := I.tuple hp
    rcases hy with ⟨rfl, rfl⟩ | ⟨q, ys, rfl, hq, fy, rfl⟩
    · cases ry
      exact SeqAt.RcAt.tuple_none p1 hu _ _ _ _ ⟨.bl false, H, I, rfl, k⟩
    · cases ry
      obtain ⟨ws, r2, p2, z2⟩ := I.tuple hq
      refine SeqAt.RcAt.tuples p1 p2 hu (fun j h1 h2 => vals_at r1 r2 fx fy j h1 h2) _ _ _ _ ⟨.bl (eqVs xs ys), H, I, ?_, k⟩
      show Value.bool _ = Value.bool _
      rw [List.size_toArray, List.size_toArray, ← r1.length, ← r2.length, eqVs_min]
theorem op_neO (hu : X.A.units < cLine) : OpR X (compareOp .NotEq) (rEqO X.K true) := by
  intro pins s σ H x y v u Q I rx ry h
  obtain ⟨o, o', hx, hy, k⟩ := h
  rcases hx with ⟨rfl, rfl⟩ | ⟨p, xs, rfl, hp, fx, rfl⟩
  · cases rx
    rcases hy with ⟨rfl, rfl⟩ | ⟨q, ys, rfl, hq, fy, rfl⟩
    · cases ry
      exact SeqAt.RcNeAt.none_none _ _ _ _ ⟨.bl false, H, I, rfl, k⟩
    · cases ry
      obtain ⟨ws, r2, p2, z2⟩ := I.tuple hq
      exact SeqAt.RcNeAt.none_tuple p2 hu _ _ _ _ ⟨.bl true, H, I, rfl, k⟩
  · cases rx
    obtain ⟨us, r1, p1, z1⟩ := I.tuple hp
    rcases hy with ⟨rfl, rfl⟩ | ⟨q, ys, rfl, hq, fy, rfl⟩
    · cases ry
      exact SeqAt.RcNeAt.tuple_none p1 hu _ _ _ _ ⟨.bl true, H, I, rfl, k⟩
    · cases ry
      obtain ⟨ws, r2, p2, z2⟩ := I.tuple hq
      refine SeqAt.RcNeAt.tuples p1 p2 hu (fun j h1 h2 => vals_at r1 r2 fx fy j h1 h2) _ _ _ _ ⟨.bl (!eqVs xs ys), H, I, ?_, k⟩
      show Value.bool _ = Value.bool _
      rw [List.size_toArray, List.size_toArray, ← r1.length, ← r2.length, eqVs_min]
end
end L2
namespace RunM
/-- whether a run has a number -/
def hasR (lo hi st x : Int) : Bool := decide (lo ≤ x) && (decide (x ≤ hi) && (decide (x = lo) || decide ((x - lo) % st = 0)))
theorem hasR_iff {lo hi st x : Int} : hasR lo hi st x = true ↔ lo ≤ x ∧ x ≤ hi ∧ st ∣ (x - lo) := by
  unfold hasR
  rw [Bool.and_eq_true, Bool.and_eq_true, Bool.or_eq_true, decide_eq_true_eq, decide_eq_true_eq, decide_eq_true_eq, decide_eq_true_eq]
  constructor
  · rintro ⟨h1, h2, h3⟩
    refine ⟨h1, h2, ?_⟩
    rcases h3 with h3 | h3
    · rw [h3, Int.sub_self]; exact Int.dvd_zero _
    · exact Int.dvd_of_emod_eq_zero h3
  · rintro ⟨h1, h2, h3⟩
    exact ⟨h1, h2, .inr (Int.emod_eq_zero_of_dvd h3)⟩
structure RunOk (lo hi st : Int) : Prop where
  nn : 0 ≤ st
  z : st = 0 → lo = hi
  p : 0 < st → lo < hi ∧ st ∣ (hi - lo)
theorem RunOk.le {lo hi st : Int} (r : RunOk lo hi st) : lo ≤ hi := by
  rcases Int.lt_or_le 0 st with h | h
  · exact Int.le_of_lt (r.p h).1
  · have := r.nn
    rw [r.z (by omega)]
    exact Int.le_refl _
/-- what run_has tells -/
theorem hasR_of {lo hi st x : Int} (r : RunOk lo hi st) : hasR lo hi st x = if st = 0 then decide (x = lo) else (decide (lo ≤ x) && (decide (x ≤ hi) && decide ((x - lo) % st = 0))) := by
  split
  · rename_i h
    subst h
    have hz := r.z rfl
    subst hz
    unfold hasR
    by_cases e : x = lo
    · subst e; simp
    · have : ¬ (lo ≤ x ∧ x ≤ lo) := fun ⟨a, b⟩ => e (by omega)
      rw [decide_eq_false e, Bool.false_or]
      by_cases h1 : lo ≤ x
      · have h2 : ¬ x ≤ lo := fun h2 => this ⟨h1, h2⟩
        simp [h2]
      · simp [h1]
  · unfold hasR
    by_cases e : x = lo
    · subst e; simp
    · simp [e]
/-- what the first tells of the second: the first of its three numbers that the other has not -/
def partR (a b : Int × Int × Int) : Option Int := [a.1, a.2.1, a.1 + a.2.2].find? fun x => !hasR b.1 b.2.1 b.2.2 x
theorem part_none {a b : Int × Int × Int} : partR a b = none ↔ hasR b.1 b.2.1 b.2.2 a.1 = true ∧ hasR b.1 b.2.1 b.2.2 a.2.1 = true ∧ hasR b.1 b.2.1 b.2.2 (a.1 + a.2.2) = true := by
  unfold partR
  rw [List.find?_eq_none]
  simp
theorem steps {lo hi st k : Int} (r : RunOk lo hi st) (h0 : 0 ≤ k) (h1 : k ≤ (hi - lo) / (if st > 1 then st else 1)) : lo ≤ lo + st * k ∧ lo + st * k ≤ hi := by
  have hn := r.nn
  have hm : 0 ≤ st * k := Int.mul_nonneg hn h0
  refine ⟨by omega, ?_⟩
  by_cases hs : st = 0
  · subst hs
    have := r.z rfl
    simp; omega
  · have e : (if st > 1 then st else 1) = st := by split <;> omega
    rw [e] at h1
    have h2 : st * k ≤ st * ((hi - lo) / st) := Int.mul_le_mul_of_nonneg_left h1 hn
    have h3 : st * ((hi - lo) / st) ≤ hi - lo := Int.mul_ediv_self_le hs
    omega
theorem ok_of {lo hi st : Int} (h1 : 1 ≤ st) (h2 : lo < hi) (h3 : st ∣ (hi - lo)) : RunOk lo hi st := ⟨by omega, fun z => by omega, fun _ => ⟨h2, h3⟩⟩
theorem ok_one (lo : Int) : RunOk lo lo 0 := ⟨Int.le_refl _, fun _ => rfl, fun h => absurd h (by decide)⟩
theorem drawn {lo s n : Int} (hs : 1 ≤ s) (hn : 0 ≤ n) : RunOk lo (lo + s * n) (s * (if 1 < n then 1 else n)) := by
  by_cases h0 : n = 0
  · subst h0
    simp only [Int.mul_zero, Int.add_zero, show ¬ ((1 : Int) < 0) by decide, if_false]
    exact ok_one lo
  · have e : s * (if 1 < n then 1 else n) = s := by
      split
      · exact Int.mul_one s
      · rw [show n = 1 by omega, Int.mul_one]
    rw [e]
    have : 0 < s * n := Int.mul_pos (by omega) (by omega)
    exact ok_of hs (by omega) (by rw [show lo + s * n - lo = s * n by omega]; exact Int.dvd_mul_right _ _)
theorem drawn_le {s n : Int} (hs : 1 ≤ s) (hn : 0 ≤ n) : s * (if 1 < n then 1 else n) ≤ s ∧ 0 ≤ s * (if 1 < n then 1 else n) := by
  split
  · rw [Int.mul_one]; omega
  · have : n = 0 ∨ n = 1 := by omega
    rcases this with e | e <;> subst e
    · simp; omega
    · rw [Int.mul_one]; omega
end RunM
namespace GcdM
open RunM
/-- the greatest divisor, as a whole number -/
def g (a b : Int) : Int := ((Int.gcd a b : Nat) : Int)
theorem g_nonneg (a b : Int) : 0 ≤ g a b := Int.natCast_nonneg _
theorem g_dvd {d a b : Int} : d ∣ g a b ↔ d ∣ a ∧ d ∣ b := by
  unfold g
  constructor
  · intro h
    exact ⟨Int.dvd_trans h (Int.gcd_dvd_left ..), Int.dvd_trans h (Int.gcd_dvd_right ..)⟩
  · rintro ⟨h1, h2⟩
    exact Int.dvd_coe_gcd h1 h2
theorem g_zero (a : Int) (h : 0 ≤ a) : g a 0 = a := by
  unfold g
  rw [Int.gcd_zero_right]
  omega
theorem eq_of_dvd {a b : Int} (ha : 0 ≤ a) (hb : 0 ≤ b) (h : ∀ d : Int, d ∣ a ↔ d ∣ b) : a = b := by
  have h1 : a ∣ b := (h a).mp (Int.dvd_refl _)
  have h2 : b ∣ a := (h b).mpr (Int.dvd_refl _)
  exact Int.dvd_antisymm ha hb h1 h2
/-- one turn of the divisor's loop -/
theorem g_turn {a b : Int} (hb : 0 < b) : g b (a % b) = g a b := by
  refine eq_of_dvd (g_nonneg _ _) (g_nonneg _ _) fun d => ?_
  rw [g_dvd, g_dvd]
  constructor
  · rintro ⟨h1, h2⟩
    refine ⟨?_, h1⟩
    have := Int.dvd_add (Int.dvd_trans h1 (Int.dvd_mul_right b (a / b))) h2
    rw [Int.mul_ediv_add_emod] at this
    exact this
  · rintro ⟨h1, h2⟩
    refine ⟨h2, ?_⟩
    have := Int.dvd_sub h1 (Int.dvd_trans h2 (Int.dvd_mul_right b (a / b)))
    rw [show a - b * (a / b) = a % b by have := Int.mul_ediv_add_emod a b; omega] at this
    exact this
/-- the step of a list: all its differences from lo -/
def stepOf (lo : Int) (ns : List Int) : Int := ns.foldl (fun s n => g (n - lo) s) 0
theorem step_dvd {lo d : Int} : ∀ {ns : List Int} {s : Int}, d ∣ ns.foldl (fun s n => g (n - lo) s) s ↔ d ∣ s ∧ ∀ n ∈ ns, d ∣ (n - lo)
  | [], s => by simp
  | n :: r, s => by
    rw [List.foldl_cons, step_dvd, g_dvd]
    constructor
    · rintro ⟨⟨h1, h2⟩, h3⟩
      refine ⟨h2, fun m hm => ?_⟩
      rcases List.mem_cons.mp hm with e | e
      · rw [e]; exact h1
      · exact h3 m e
    · rintro ⟨h1, h2⟩
      exact ⟨⟨h2 n List.mem_cons_self, h1⟩, fun m hm => h2 m (List.mem_cons_of_mem _ hm)⟩
theorem step_nonneg {lo : Int} : ∀ {ns : List Int} {s : Int}, 0 ≤ s → 0 ≤ ns.foldl (fun s n => g (n - lo) s) s
  | [], s, h => h
  | n :: r, s, _ => step_nonneg (ns := r) (g_nonneg _ _)
theorem run_dvd {lo hi st d m : Int} (ok : RunOk lo hi st) : (d ∣ (lo - m) ∧ d ∣ (hi - m) ∧ d ∣ (lo + st - m)) ↔ d ∣ (lo - m) ∧ d ∣ st := by
  constructor
  · rintro ⟨h1, _, h3⟩
    refine ⟨h1, ?_⟩
    have := Int.dvd_sub h3 h1
    rw [show lo + st - m - (lo - m) = st by omega] at this
    exact this
  · rintro ⟨h1, h2⟩
    refine ⟨h1, ?_, ?_⟩
    · by_cases hs : st = 0
      · rw [← ok.z hs]; exact h1
      · have hp : 0 < st := by have := ok.nn; omega
        have := Int.dvd_add h1 (Int.dvd_trans h2 (ok.p hp).2)
        rw [show lo - m + (hi - lo) = hi - m by omega] at this
        exact this
    · have := Int.dvd_add h1 h2
      rw [show lo - m + st = lo + st - m by omega] at this
      exact this
/-- the step of two runs joined -/
theorem joined_step {lo hi st lo' hi' st' : Int} (ok : RunOk lo hi st) (ok' : RunOk lo' hi' st') :
    stepOf (if lo' < lo then lo' else lo) [lo, hi, lo + st, lo', hi', lo' + st'] = g (g st st') (lo - lo') := by
  refine eq_of_dvd (step_nonneg (Int.le_refl 0)) (g_nonneg _ _) fun d => ?_
  unfold stepOf
  rw [step_dvd, g_dvd, g_dvd]
  have key : ∀ m : Int, (m = lo ∨ m = lo') → ((d ∣ (0 : Int) ∧ ∀ n ∈ [lo, hi, lo + st, lo', hi', lo' + st'], d ∣ (n - m)) ↔ (d ∣ st ∧ d ∣ st') ∧ d ∣ (lo - lo')) := by
    intro m hm
    have r1 := @run_dvd lo hi st d m ok
    have r2 := @run_dvd lo' hi' st' d m ok'
    constructor
    · rintro ⟨_, h⟩
      have a1 := r1.mp ⟨h lo (by simp), h hi (by simp), h (lo + st) (by simp)⟩
      have a2 := r2.mp ⟨h lo' (by simp), h hi' (by simp), h (lo' + st') (by simp)⟩
      refine ⟨⟨a1.2, a2.2⟩, ?_⟩
      have := Int.dvd_sub a1.1 a2.1
      rw [show lo - m - (lo' - m) = lo - lo' by omega] at this
      exact this
    · rintro ⟨⟨h1, h2⟩, h3⟩
      have b1 : d ∣ (lo - m) := by
        rcases hm with e | e
        · rw [e, Int.sub_self]; exact Int.dvd_zero _
        · rw [e]; exact h3
      have b2 : d ∣ (lo' - m) := by
        rcases hm with e | e
        · rw [e]
          have := Int.dvd_neg.mpr h3
          rw [show -(lo - lo') = lo' - lo by omega] at this
          exact this
        · rw [e, Int.sub_self]; exact Int.dvd_zero _
      have a1 := r1.mpr ⟨b1, h1⟩
      have a2 := r2.mpr ⟨b2, h2⟩
      refine ⟨Int.dvd_zero _, fun n hn => ?_⟩
      simp only [List.mem_cons, List.not_mem_nil, or_false] at hn
      rcases hn with e | e | e | e | e | e <;> rw [e]
      · exact a1.1
      · exact a1.2.1
      · exact a1.2.2
      · exact a2.1
      · exact a2.2.1
      · exact a2.2.2
  split
  · exact key lo' (.inr rfl)
  · exact key lo (.inl rfl)
theorem tell_le {lo hi st : Int} (ok : RunOk lo hi st) : lo ≤ hi ∧ lo + st ≤ hi := by
  refine ⟨ok.le, ?_⟩
  by_cases hs : st = 0
  · rw [hs, ← ok.z hs]; omega
  · have hp : 0 < st := by have := ok.nn; omega
    have := ok.p hp
    have := Int.le_of_dvd (by omega) this.2
    omega

theorem g_comm (a b : Int) : g a b = g b a := by unfold g; rw [Int.gcd_comm]
theorem g_neg (a b : Int) : g a (-b) = g a b := by unfold g; rw [Int.gcd_neg]
theorem mod_less {a b : Int} (hb : 0 < b) : 0 ≤ a % b ∧ (a % b).toNat < b.toNat := by
  have h1 := Int.emod_nonneg a (show b ≠ 0 by omega)
  have h2 := Int.emod_lt_of_pos a hb
  omega
abbrev R3 := Int × Int × Int
def Ok (a : R3) : Prop := RunOk a.1 a.2.1 a.2.2
def joinR (a b : R3) : R3 := (if b.1 < a.1 then b.1 else a.1, if b.2.1 > a.2.1 then b.2.1 else a.2.1, g (g a.2.2 b.2.2) (a.1 - b.1))
/-- b is within a -/
structure Sub (b a : R3) : Prop where
  lo : a.1 ≤ b.1
  hi : b.2.1 ≤ a.2.1
  far : a.2.2 ∣ (b.1 - a.1)
  st : a.2.2 ∣ b.2.2
theorem join_comm (a b : R3) : joinR a b = joinR b a := by
  unfold joinR
  have h1 : (if b.1 < a.1 then b.1 else a.1) = (if a.1 < b.1 then a.1 else b.1) := by split <;> split <;> omega
  have h2 : (if b.2.1 > a.2.1 then b.2.1 else a.2.1) = (if a.2.1 > b.2.1 then a.2.1 else b.2.1) := by split <;> split <;> omega
  rw [h1, h2, g_comm a.2.2 b.2.2, show a.1 - b.1 = -(b.1 - a.1) by omega, g_neg]
theorem sub_left {a b : R3} : Sub a (joinR a b) := by
  have h := (g_dvd (d := g (g a.2.2 b.2.2) (a.1 - b.1))).mp (Int.dvd_refl _)
  have h2 := g_dvd.mp h.1
  refine ⟨?_, ?_, ?_, h2.1⟩
  · show (if b.1 < a.1 then b.1 else a.1) ≤ a.1
    split <;> omega
  · show a.2.1 ≤ (if b.2.1 > a.2.1 then b.2.1 else a.2.1)
    split <;> omega
  · show g (g a.2.2 b.2.2) (a.1 - b.1) ∣ (a.1 - (if b.1 < a.1 then b.1 else a.1))
    split
    · exact h.2
    · rw [Int.sub_self]; exact Int.dvd_zero _
theorem sub_right {a b : R3} : Sub b (joinR a b) := by
  rw [join_comm]
  exact sub_left
theorem join_sub {a b : R3} (h : Ok a) (s : Sub b a) : joinR a b = a := by
  unfold joinR
  have h1 := s.lo
  have h2 := s.hi
  rw [if_neg (by omega), if_neg (by omega)]
  have e : g (g a.2.2 b.2.2) (a.1 - b.1) = a.2.2 := by
    refine eq_of_dvd (g_nonneg _ _) h.nn fun d => ?_
    rw [g_dvd, g_dvd]
    constructor
    · rintro ⟨⟨x, _⟩, _⟩
      exact x
    · intro x
      refine ⟨⟨x, Int.dvd_trans x s.st⟩, ?_⟩
      rw [show a.1 - b.1 = -(b.1 - a.1) by omega]
      exact Int.dvd_neg.mpr (Int.dvd_trans x s.far)
  rw [e]
theorem hi_dvd {a : R3} (h : Ok a) {d : Int} (x : d ∣ a.2.2) : d ∣ (a.2.1 - a.1) := by
  by_cases hs : a.2.2 = 0
  · rw [← h.z hs, Int.sub_self]; exact Int.dvd_zero _
  · have hp : 0 < a.2.2 := by have := h.nn; omega
    exact Int.dvd_trans x (h.p hp).2
theorem join_ok {a b : R3} (ha : Ok a) (hb : Ok b) : Ok (joinR a b) := by
  have s1 : Sub a (joinR a b) := sub_left
  have s2 : Sub b (joinR a b) := sub_right
  have la := ha.le
  have lb := hb.le
  refine ⟨g_nonneg _ _, fun z => ?_, fun z => ?_⟩
  · have z1 : a.2.2 = 0 := by have := s1.st; rw [z] at this; exact Int.zero_dvd.mp this
    have z2 : b.2.2 = 0 := by have := s2.st; rw [z] at this; exact Int.zero_dvd.mp this
    have z3 := s1.far
    have z4 := s2.far
    rw [z] at z3 z4
    have z3 := Int.zero_dvd.mp z3
    have z4 := Int.zero_dvd.mp z4
    have e1 := ha.z z1
    have e2 := hb.z z2
    show (joinR a b).1 = (if b.2.1 > a.2.1 then b.2.1 else a.2.1)
    split <;> omega
  · have l1 := s1.lo
    have l2 := s2.lo
    have l3 := s1.hi
    have l4 := s2.hi
    have hd : (joinR a b).2.2 ∣ ((joinR a b).2.1 - (joinR a b).1) := by
      have m1 := Int.dvd_add (hi_dvd ha s1.st) s1.far
      have m2 := Int.dvd_add (hi_dvd hb s2.st) s2.far
      rw [show a.2.1 - a.1 + (a.1 - (joinR a b).1) = a.2.1 - (joinR a b).1 by omega] at m1
      rw [show b.2.1 - b.1 + (b.1 - (joinR a b).1) = b.2.1 - (joinR a b).1 by omega] at m2
      have : (joinR a b).2.1 = a.2.1 ∨ (joinR a b).2.1 = b.2.1 := by
        show (if b.2.1 > a.2.1 then b.2.1 else a.2.1) = a.2.1 ∨ (if b.2.1 > a.2.1 then b.2.1 else a.2.1) = b.2.1
        split
        · exact .inr rfl
        · exact .inl rfl
      rcases this with e | e <;> rw [e]
      · exact m1
      · exact m2
    refine ⟨?_, hd⟩
    rcases Int.lt_or_le (joinR a b).1 (joinR a b).2.1 with h | h
    · exact h
    · exfalso
      have z1 : a.2.2 = 0 := by
        by_cases hz : a.2.2 = 0
        · exact hz
        · have := (ha.p (by have := ha.nn; omega)).1
          omega
      have z2 : b.2.2 = 0 := by
        by_cases hz : b.2.2 = 0
        · exact hz
        · have := (hb.p (by have := hb.nn; omega)).1
          omega
      have e : (joinR a b).2.2 = g (g a.2.2 b.2.2) (a.1 - b.1) := rfl
      have ez : a.1 - b.1 = 0 := by
        have e1 := ha.z z1
        have e2 := hb.z z2
        omega
      rw [e, z1, z2, ez] at z
      have : g (g 0 0) 0 = 0 := rfl
      omega
theorem sub_has {b a : R3} (hb : Ok b) (s : Sub b a) : hasR a.1 a.2.1 a.2.2 b.1 = true ∧ hasR a.1 a.2.1 a.2.2 b.2.1 = true ∧ hasR a.1 a.2.1 a.2.2 (b.1 + b.2.2) = true := by
  have t := tell_le hb
  have n := hb.nn
  have h1 := s.lo
  have h2 := s.hi
  rw [hasR_iff, hasR_iff, hasR_iff]
  refine ⟨⟨by omega, by omega, s.far⟩, ⟨by omega, by omega, ?_⟩, ⟨by omega, by omega, ?_⟩⟩
  · have := Int.dvd_add (hi_dvd hb s.st) s.far
    rw [show b.2.1 - b.1 + (b.1 - a.1) = b.2.1 - a.1 by omega] at this
    exact this
  · have := Int.dvd_add s.far s.st
    rw [show b.1 - a.1 + b.2.2 = b.1 + b.2.2 - a.1 by omega] at this
    exact this
theorem sub_part {b a : R3} (hb : Ok b) (s : Sub b a) : partR b a = none := part_none.mpr (sub_has hb s)
theorem sub_refl (a : R3) : Sub a a := ⟨Int.le_refl _, Int.le_refl _, by rw [Int.sub_self]; exact Int.dvd_zero _, Int.dvd_refl _⟩
theorem joined_is {a b : R3} (ha : Ok a) (hb : Ok b) {m M : Int} (hm : m ∈ [a.1, a.2.1, a.1 + a.2.2, b.1, b.2.1, b.1 + b.2.2]) (hm' : ∀ x ∈ [a.1, a.2.1, a.1 + a.2.2, b.1, b.2.1, b.1 + b.2.2], m ≤ x)
    (hM : M ∈ [a.1, a.2.1, a.1 + a.2.2, b.1, b.2.1, b.1 + b.2.2]) (hM' : ∀ x ∈ [a.1, a.2.1, a.1 + a.2.2, b.1, b.2.1, b.1 + b.2.2], x ≤ M) :
    (m, M, stepOf m [a.1, a.2.1, a.1 + a.2.2, b.1, b.2.1, b.1 + b.2.2]) = joinR a b := by
  have ta := tell_le ha
  have tb := tell_le hb
  have na := ha.nn
  have nb := hb.nn
  have e1 : m = if b.1 < a.1 then b.1 else a.1 := by
    have y1 := hm' a.1 (by simp)
    have y2 := hm' b.1 (by simp)
    simp only [List.mem_cons, List.not_mem_nil, or_false] at hm
    split <;> omega
  have e2 : M = if b.2.1 > a.2.1 then b.2.1 else a.2.1 := by
    have y1 := hM' a.2.1 (by simp)
    have y2 := hM' b.2.1 (by simp)
    simp only [List.mem_cons, List.not_mem_nil, or_false] at hM
    split <;> omega
  have e3 := joined_step ha hb
  rw [← e1] at e3
  unfold joinR
  rw [e3, ← e1, ← e2]
end GcdM
namespace MetM
open RunM GcdM
def mem (a : R3) (x : Int) : Prop := a.1 ≤ x ∧ x ≤ a.2.1 ∧ a.2.2 ∣ (x - a.1)
def MetR (a b : R3) : Option R3 → Prop
  | none => ∀ x, ¬ (mem a x ∧ mem b x)
  | some r => Ok r ∧ ∀ x, mem r x ↔ mem a x ∧ mem b x
theorem mem_has {a : R3} {x : Int} : hasR a.1 a.2.1 a.2.2 x = true ↔ mem a x := hasR_iff
theorem mem_lo {a : R3} (h : Ok a) : mem a a.1 := mem_has.mp (sub_has h (sub_refl a)).1
theorem mem_hi {a : R3} (h : Ok a) : mem a a.2.1 := mem_has.mp (sub_has h (sub_refl a)).2.1
theorem mem_st {a : R3} (h : Ok a) : mem a (a.1 + a.2.2) := mem_has.mp (sub_has h (sub_refl a)).2.2
theorem run_ext {a b : R3} (ha : Ok a) (hb : Ok b) (h : ∀ x, mem a x ↔ mem b x) : a = b := by
  have e1 : a.1 = b.1 := by
    have h1 := ((h _).mp (mem_lo ha)).1
    have h2 := ((h _).mpr (mem_lo hb)).1
    omega
  have e2 : a.2.1 = b.2.1 := by
    have h1 := ((h _).mp (mem_hi ha)).2.1
    have h2 := ((h _).mpr (mem_hi hb)).2.1
    omega
  have e3 : a.2.2 = b.2.2 := by
    have h1 := ((h _).mp (mem_st ha)).2.2
    have h2 := ((h _).mpr (mem_st hb)).2.2
    rw [e1, show b.1 + a.2.2 - b.1 = a.2.2 by omega] at h1
    rw [e1, show b.1 + b.2.2 - b.1 = b.2.2 by omega] at h2
    exact Int.dvd_antisymm ha.nn hb.nn h2 h1
  obtain ⟨x, y, z⟩ := a
  obtain ⟨x', y', z'⟩ := b
  simp only at e1 e2 e3
  rw [e1, e2, e3]
theorem met_fun {a b : R3} : ∀ {o o' : Option R3}, MetR a b o → MetR a b o' → o = o'
  | none, none, _, _ => rfl
  | none, some r, h, h' => absurd ((h'.2 _).mp (mem_lo h'.1)) (h _)
  | some r, none, h, h' => absurd ((h.2 _).mp (mem_lo h.1)) (h' _)
  | some r, some r', h, h' => by rw [run_ext h.1 h'.1 fun x => (h.2 x).trans (h'.2 x).symm]
theorem met_comm {a b : R3} : ∀ {o : Option R3}, MetR a b o → MetR b a o
  | none, h => fun x ⟨h1, h2⟩ => h x ⟨h2, h1⟩
  | some r, h => ⟨h.1, fun x => (h.2 x).trans And.comm⟩
theorem mem_one {a : R3} (h : Ok a) (z : a.2.2 = 0) {x : Int} : mem a x ↔ x = a.1 := by
  constructor
  · rintro ⟨_, _, h3⟩
    rw [z] at h3
    have := Int.zero_dvd.mp h3
    omega
  · rintro rfl
    exact mem_lo h
/-- one number alone, met -/
theorem met_one {a b : R3} (ha : Ok a) (z : a.2.2 = 0) : MetR a b (if hasR b.1 b.2.1 b.2.2 a.1 = true then some a else none) := by
  split
  · rename_i h
    have h := mem_has.mp h
    refine ⟨ha, fun x => ⟨fun m => ⟨m, ?_⟩, fun m => m.1⟩⟩
    rw [(mem_one ha z).mp m]
    exact h
  · rename_i h
    rintro x ⟨h1, h2⟩
    rw [(mem_one ha z).mp h1] at h2
    exact h (mem_has.mpr h2)
theorem core {a b : R3} {m L l2 h2 lo hi : Int} (hL : 0 < L) (hm : ∀ x, mem a x ∧ mem b x ↔ l2 ≤ x ∧ x ≤ h2 ∧ L ∣ (x - m)) (lo1 : l2 ≤ lo) (lo2 : lo < l2 + L) (lo3 : L ∣ (lo - m)) (hi1 : hi ≤ h2) (hi2 : h2 < hi + L) (hi3 : L ∣ (hi - m)) (hle : lo ≤ hi) :
    MetR a b (some (lo, hi, if lo < hi then L else 0)) := by
  have hd : L ∣ (hi - lo) := by
    have := Int.dvd_sub hi3 lo3
    rw [show hi - m - (lo - m) = hi - lo by omega] at this
    exact this
  have key : ∀ x, l2 ≤ x → x ≤ h2 → L ∣ (x - m) → lo ≤ x ∧ x ≤ hi := fun x x1 x2 x3 => by
    constructor
    · rcases Int.lt_or_le x lo with z | z
      · have := Int.dvd_sub lo3 x3
        rw [show lo - m - (x - m) = lo - x by omega] at this
        have := Int.le_of_dvd (by omega) this
        omega
      · exact z
    · rcases Int.lt_or_le hi x with z | z
      · have := Int.dvd_sub x3 hi3
        rw [show x - m - (hi - m) = x - hi by omega] at this
        have := Int.le_of_dvd (by omega) this
        omega
      · exact z
  by_cases h : lo < hi
  · rw [if_pos h]
    refine ⟨ok_of hL h hd, fun x => ?_⟩
    rw [hm]
    constructor
    · rintro ⟨h1, h2, h3⟩
      dsimp only at h1 h2 h3
      refine ⟨by omega, by omega, ?_⟩
      have := Int.dvd_add h3 lo3
      rw [show x - lo + (lo - m) = x - m by omega] at this
      exact this
    · rintro ⟨h1, h2, h3⟩
      obtain ⟨k1, k2⟩ := key x h1 h2 h3
      refine ⟨k1, k2, ?_⟩
      have := Int.dvd_sub h3 lo3
      rw [show x - m - (lo - m) = x - lo by omega] at this
      exact this
  · rw [if_neg h]
    have e : hi = lo := by omega
    subst e
    refine ⟨ok_one hi, fun x => ?_⟩
    rw [hm, mem_one (a := (hi, hi, 0)) (ok_one hi) rfl]
    constructor
    · rintro rfl
      exact ⟨lo1, hi1, lo3⟩
    · rintro ⟨h1, h2, h3⟩
      have := key x h1 h2 h3
      show x = hi
      omega
theorem core_none {a b : R3} {m L l2 h2 lo : Int} (hL : 0 < L) (hm : ∀ x, mem a x ∧ mem b x ↔ l2 ≤ x ∧ x ≤ h2 ∧ L ∣ (x - m)) (lo2 : lo < l2 + L) (lo3 : L ∣ (lo - m)) (h : h2 < lo) : MetR a b none := by
  intro x hx
  obtain ⟨h1, h2, h3⟩ := (hm x).mp hx
  have := Int.dvd_sub lo3 h3
  rw [show lo - m - (x - m) = lo - x by omega] at this
  have := Int.le_of_dvd (by omega) this
  omega
theorem g_pos {a b : Int} (ha : 0 < a) : 0 < g a b := by
  have h0 := g_nonneg a b
  rcases Int.lt_or_le 0 (g a b) with h | h
  · exact h
  · have e : g a b = 0 := by omega
    have := (g_dvd (d := g a b)).mp (Int.dvd_refl _)
    rw [e] at this
    have := Int.zero_dvd.mp this.1
    omega
theorem g_le {a b : Int} (ha : 0 < a) : g a b ≤ a := Int.le_of_dvd ha (g_dvd.mp (Int.dvd_refl _)).1
theorem g_left (a b : Int) : g a b ∣ a := (g_dvd.mp (Int.dvd_refl _)).1
theorem g_right (a b : Int) : g a b ∣ b := (g_dvd.mp (Int.dvd_refl _)).2
theorem g_one {a b : Int} (ha : 0 < a) : g (a / g a b) (b / g a b) = 1 := by
  have hd := g_pos (b := b) ha
  refine eq_of_dvd (g_nonneg _ _) (by decide) fun e => ?_
  rw [g_dvd]
  constructor
  · rintro ⟨h1, h2⟩
    have k1 := Int.mul_dvd_mul_right (g a b) h1
    have k2 := Int.mul_dvd_mul_right (g a b) h2
    rw [Int.ediv_mul_cancel (g_left a b)] at k1
    rw [Int.ediv_mul_cancel (g_right a b)] at k2
    have k3 : e * g a b ∣ 1 * g a b := by rw [Int.one_mul]; exact g_dvd.mpr ⟨k1, k2⟩
    exact Int.dvd_of_mul_dvd_mul_right (by omega) k3
  · intro h
    exact ⟨Int.dvd_trans h (Int.one_dvd _), Int.dvd_trans h (Int.one_dvd _)⟩
/-- the least common multiple -/
theorem lcm_dvd {a b y : Int} (ha : 0 < a) (hb : 0 < b) : a / g a b * b ∣ y ↔ a ∣ y ∧ b ∣ y := by
  have hd := g_pos (b := b) ha
  have ea : a / g a b * g a b = a := Int.ediv_mul_cancel (g_left a b)
  have eb : b / g a b * g a b = b := Int.ediv_mul_cancel (g_right a b)
  constructor
  · intro h
    refine ⟨Int.dvd_trans ⟨b / g a b, ?_⟩ h, Int.dvd_trans (Int.dvd_mul_left ..) h⟩
    calc a / g a b * b = a / g a b * (b / g a b * g a b) := by rw [eb]
      _ = a / g a b * g a b * (b / g a b) := by rw [Int.mul_comm (b / g a b), Int.mul_assoc]
      _ = a * (b / g a b) := by rw [ea]
  · rintro ⟨h1, h2⟩
    have h3 := Int.coe_lcm_dvd h1 h2
    have e : ((Int.lcm a b : Nat) : Int) = a / g a b * b := by
      have e1 : (g a b) * ((Int.lcm a b : Nat) : Int) = a * b := by
        have := Int.gcd_mul_lcm a b
        unfold g
        have p : 0 < a * b := Int.mul_pos ha hb
        have q : (((Int.gcd a b * Int.lcm a b : Nat)) : Int) = ((a * b).natAbs : Int) := by rw [this, Int.natAbs_mul]
        rw [Int.natCast_mul] at q
        omega
      have e2 : g a b * ((Int.lcm a b : Nat) : Int) = g a b * (a / g a b * b) := by
        rw [e1, ← Int.mul_assoc, Int.mul_comm (g a b) (a / g a b), ea]
      exact Int.eq_of_mul_eq_mul_left (by omega) e2
    rw [← e]
    exact h3
theorem lcm_pos {a b : Int} (ha : 0 < a) (hb : 0 < b) : 0 < a / g a b * b :=
  Int.mul_pos (by have := Int.le_ediv_of_mul_le (a := 1) (g_pos (b := b) ha) (by rw [Int.one_mul]; exact g_le ha); omega) hb
/-- both, by a number that both steps lead to -/
theorem both {a b : R3} {m : Int} (ha : 0 < a.2.2) (hb : 0 < b.2.2) (h1 : a.2.2 ∣ (m - a.1)) (h2 : b.2.2 ∣ (m - b.1)) (x : Int) :
    mem a x ∧ mem b x ↔ (if b.1 > a.1 then b.1 else a.1) ≤ x ∧ x ≤ (if b.2.1 < a.2.1 then b.2.1 else a.2.1) ∧ a.2.2 / g a.2.2 b.2.2 * b.2.2 ∣ (x - m) := by
  rw [lcm_dvd ha hb]
  have k1 : a.2.2 ∣ (x - a.1) ↔ a.2.2 ∣ (x - m) := by
    constructor
    · intro h
      have := Int.dvd_sub h h1
      rw [show x - a.1 - (m - a.1) = x - m by omega] at this
      exact this
    · intro h
      have := Int.dvd_add h h1
      rw [show x - m + (m - a.1) = x - a.1 by omega] at this
      exact this
  have k2 : b.2.2 ∣ (x - b.1) ↔ b.2.2 ∣ (x - m) := by
    constructor
    · intro h
      have := Int.dvd_sub h h2
      rw [show x - b.1 - (m - b.1) = x - m by omega] at this
      exact this
    · intro h
      have := Int.dvd_add h h2
      rw [show x - m + (m - b.1) = x - b.1 by omega] at this
      exact this
  unfold mem
  rw [k1, k2]
  constructor
  · rintro ⟨⟨x1, x2, x3⟩, y1, y2, y3⟩
    refine ⟨?_, ?_, x3, y3⟩ <;> split <;> omega
  · rintro ⟨z1, z2, x3, y3⟩
    refine ⟨⟨?_, ?_, x3⟩, ?_, ?_, y3⟩ <;> revert z1 z2 <;> split <;> split <;> omega
theorem up_dvd {L m l : Int} : L ∣ (l + (m - l) % L - m) := by
  rw [show l + (m - l) % L - m = -((m - l) - (m - l) % L) by omega]
  refine Int.dvd_neg.mpr ?_
  rw [show (m - l) - (m - l) % L = L * ((m - l) / L) by have := Int.mul_ediv_add_emod (m - l) L; omega]
  exact Int.dvd_mul_right _ _
theorem down_dvd {L m h : Int} : L ∣ (h - (h - m) % L - m) := by
  rw [show h - (h - m) % L - m = (h - m) - (h - m) % L by omega]
  rw [show (h - m) - (h - m) % L = L * ((h - m) / L) by have := Int.mul_ediv_add_emod (h - m) L; omega]
  exact Int.dvd_mul_right _ _
/-- the end of steps_met -/
def endR (a b : R3) (m L : Int) : Option R3 :=
  let l2 := if b.1 > a.1 then b.1 else a.1
  let h2 := if b.2.1 < a.2.1 then b.2.1 else a.2.1
  let lo := l2 + (m - l2) % L
  let hi := h2 - (h2 - m) % L
  if lo > h2 then none else some (lo, hi, if lo < hi then L else 0)
theorem end_met {a b : R3} {m : Int} (ha : 0 < a.2.2) (hb : 0 < b.2.2) (h1 : a.2.2 ∣ (m - a.1)) (h2 : b.2.2 ∣ (m - b.1)) : MetR a b (endR a b m (a.2.2 / g a.2.2 b.2.2 * b.2.2)) := by
  have hL := lcm_pos ha hb
  have hm := both ha hb h1 h2
  unfold endR
  generalize a.2.2 / g a.2.2 b.2.2 * b.2.2 = L at hL hm
  generalize (if b.1 > a.1 then b.1 else a.1) = l2 at hm
  generalize (if b.2.1 < a.2.1 then b.2.1 else a.2.1) = h2 at hm
  have n1 := Int.emod_nonneg (m - l2) (show L ≠ 0 by omega)
  have n2 := Int.emod_lt_of_pos (m - l2) hL
  have n3 := Int.emod_nonneg (h2 - m) (show L ≠ 0 by omega)
  have n4 := Int.emod_lt_of_pos (h2 - m) hL
  dsimp only
  split
  · rename_i h
    exact core_none hL hm (by omega) (up_dvd (l := l2)) h
  · rename_i h
    refine core hL hm (by omega) (by omega) up_dvd (by omega) (by omega) down_dvd ?_
    rcases Int.lt_or_le (h2 - (h2 - m) % L) (l2 + (m - l2) % L) with z | z
    · have := Int.dvd_sub (up_dvd (L := L) (m := m) (l := l2)) (down_dvd (L := L) (m := m) (h := h2))
      rw [show l2 + (m - l2) % L - m - (h2 - (h2 - m) % L - m) = l2 + (m - l2) % L - (h2 - (h2 - m) % L) by omega] at this
      have := Int.le_of_dvd (by omega) this
      omega
    · exact z
theorem first_none {a b : R3} (ha : 0 < a.2.2) (h : (b.1 - a.1) % g a.2.2 b.2.2 ≠ 0) : MetR a b none := by
  rintro x ⟨h1, h2⟩
  refine h (Int.emod_eq_zero_of_dvd ?_)
  have := Int.dvd_sub (Int.dvd_trans (g_left a.2.2 b.2.2) h1.2.2) (Int.dvd_trans (g_right a.2.2 b.2.2) h2.2.2)
  rw [show x - a.1 - (x - b.1) = b.1 - a.1 by omega] at this
  exact this
/-- the meeting -/
theorem first_ok {s s' gap i : Int} (hs : 0 < s) (h : gap % g s s' = 0) (hs' : 0 < s') (hi : s' / g s s' ∣ (i * (s / g s s') - 1)) : s' ∣ (gap / g s s' * i % (s' / g s s') * s - gap) := by
  have hd := g_pos (b := s') hs
  generalize hg : g s s' = d at *
  have es : s / d * d = s := Int.ediv_mul_cancel (hg ▸ g_left s s')
  have es' : s' / d * d = s' := Int.ediv_mul_cancel (hg ▸ g_right s s')
  have eg : gap / d * d = gap := Int.ediv_mul_cancel (Int.dvd_of_emod_eq_zero h)
  generalize s / d = n at *
  generalize s' / d = M at *
  generalize gap / d = k at *
  obtain ⟨z, hz⟩ := hi
  have em := Int.mul_ediv_add_emod (k * i) M
  generalize k * i % M = pl at *
  generalize k * i / M = w at *
  subst es es' eg
  refine ⟨k * z - w * n, ?_⟩
  have e1 : pl = k * i - M * w := by omega
  have e2 : i * n = M * z + 1 := by omega
  rw [e1]
  calc (k * i - M * w) * (n * d) - k * d = k * d * (i * n) - M * w * n * d - k * d := by grind
    _ = k * d * (M * z + 1) - M * w * n * d - k * d := by rw [e2]
    _ = M * d * (k * z - w * n) := by grind
/-- the inverse by Euclid's way: rest, factor, last rest, last factor -/
structure EI (n M r f lr lf : Int) : Prop where
  r0 : 0 ≤ r
  lt : r < lr
  le : lr ≤ M
  c1 : M ∣ (f * n - r)
  c2 : M ∣ (lf * n - lr)
  gg : g lr r = g n M
  sg : ∃ s F L : Int, (s = 1 ∨ s = -1) ∧ f = s * F ∧ lf = -(s * L) ∧ 1 ≤ F ∧ 0 ≤ L ∧ lr * F + r * L = M
theorem EI.start {n M : Int} (hM : 0 < M) : EI n M (n % M) 1 M 0 := by
  refine ⟨Int.emod_nonneg n (by omega), Int.emod_lt_of_pos n hM, Int.le_refl _, ?_, ?_, g_turn hM, 1, 1, 0, .inl rfl, rfl, rfl, by decide, by decide, by omega⟩
  · rw [show 1 * n - n % M = M * (n / M) by have := Int.mul_ediv_add_emod n M; omega]
    exact Int.dvd_mul_right _ _
  · rw [show 0 * n - M = -M by omega]
    exact Int.dvd_neg.mpr (Int.dvd_refl _)
theorem EI.turn {n M r f lr lf : Int} (h : EI n M r f lr lf) (hr : r ≠ 0) : EI n M (lr - lr / r * r) (lf - lr / r * f) r f := by
  have r0 := h.r0
  have lt := h.lt
  have hp : 0 < r := by omega
  have e : lr - lr / r * r = lr % r := by have := Int.mul_ediv_add_emod lr r; rw [Int.mul_comm] at this; omega
  have n1 := Int.emod_nonneg lr hr
  have n2 := Int.emod_lt_of_pos lr hp
  have hq : 1 ≤ lr / r := Int.le_ediv_of_mul_le hp (by omega)
  refine ⟨by omega, by omega, by have := h.le; omega, ?_, h.c1, ?_, ?_⟩
  · have := Int.dvd_sub h.c2 (Int.dvd_trans h.c1 (Int.dvd_mul_left (lr / r) (f * n - r)))
    rw [show (lf - lr / r * f) * n - (lr - lr / r * r) = lf * n - lr - lr / r * (f * n - r) by grind]
    exact this
  · rw [e, g_turn hp]
    exact h.gg
  · obtain ⟨s, F, L, hs, e1, e2, hF, hL, e3⟩ := h.sg
    refine ⟨-s, L + lr / r * F, F, by omega, by rw [e1, e2]; grind, by rw [e1]; grind, ?_, by omega, ?_⟩
    · have : 0 ≤ (lr / r - 1) * F := Int.mul_nonneg (by omega) (by omega)
      have e4 : lr / r * F = (lr / r - 1) * F + F := by grind
      omega
    · rw [← e3]
      grind
theorem EI.small {n M r f lr lf : Int} (h : EI n M r f lr lf) : f.natAbs ≤ M.natAbs := by
  obtain ⟨s, F, L, hs, e1, e2, hF, hL, e3⟩ := h.sg
  have r0 := h.r0
  have lt := h.lt
  have p1 : 0 ≤ r * L := Int.mul_nonneg r0 hL
  have p2 : 0 ≤ (lr - 1) * F := Int.mul_nonneg (by omega) (by omega)
  have e4 : lr * F = (lr - 1) * F + F := by grind
  rcases hs with z | z <;> rw [z] at e1 <;> omega
theorem EI.last {n M f lr lf : Int} (hM : 0 < M) (h : EI n M 0 f lr lf) (h1 : g n M = 1) : M ∣ (lf % M * n - 1) := by
  have e : lr = 1 := by
    have := h.gg
    rw [g_zero lr (by have := h.lt; omega), h1] at this
    exact this
  have c := h.c2
  rw [e] at c
  have e2 : lf % M = lf - M * (lf / M) := by have := Int.mul_ediv_add_emod lf M; omega
  rw [show lf % M * n - 1 = lf * n - 1 - M * (lf / M * n) by rw [e2]; grind]
  exact Int.dvd_sub c (Int.dvd_mul_right _ _)

/-- the law's way: the numbers of both, one by one -/
def listedR : List Int → Option R3
  | [] => none
  | [x] => some (x, x, 0)
  | x :: y :: r => some (x, (x :: y :: r).getLast (by simp), y - x)
end MetM
namespace CutM
open RunM GcdM MetM
/-- the run of a set of numbers -/
structure IsR (S : Int → Prop) (r : R3) : Prop where
  lo : S r.1
  lo' : ∀ n, S n → r.1 ≤ n
  hi : S r.2.1
  hi' : ∀ n, S n → n ≤ r.2.1
  nn : 0 ≤ r.2.2
  dv : ∀ d, d ∣ r.2.2 ↔ ∀ n, S n → d ∣ (n - r.1)
theorem isR_of {ns : List Int} {m M : Int} (h1 : m ∈ ns) (h2 : ∀ x ∈ ns, m ≤ x) (h3 : M ∈ ns) (h4 : ∀ x ∈ ns, x ≤ M) : IsR (· ∈ ns) (m, M, stepOf m ns) := by
  refine ⟨h1, h2, h3, h4, step_nonneg (Int.le_refl 0), fun d => ?_⟩
  show d ∣ stepOf m ns ↔ _
  unfold stepOf
  rw [step_dvd]
  exact ⟨fun h => h.2, fun h => ⟨Int.dvd_zero _, h⟩⟩
theorem IsR.ok {S : Int → Prop} {r : R3} (h : IsR S r) : Ok r := by
  have key : r.2.1 = r.1 → r.2.2 = 0 := fun e => by
    have : (0 : Int) ∣ r.2.2 := (h.dv 0).mpr fun n hn => by
      have h1 := h.lo' n hn
      have h2 := h.hi' n hn
      rw [show n - r.1 = 0 by omega]
      exact Int.dvd_zero _
    exact Int.zero_dvd.mp this
  refine ⟨h.nn, fun z => ?_, fun z => ⟨?_, (h.dv _).mp (Int.dvd_refl _) _ h.hi⟩⟩
  · have := (h.dv 0).mp (by rw [z]; exact Int.dvd_zero _) _ h.hi
    have := Int.zero_dvd.mp this
    omega
  · have h1 := h.lo' _ h.hi
    rcases Int.lt_or_le r.1 r.2.1 with q | q
    · exact q
    · have := key (by omega)
      omega
theorem IsR.inR {S : Int → Prop} {r : R3} (h : IsR S r) {n : Int} (hn : S n) : mem r n := ⟨h.lo' n hn, h.hi' n hn, (h.dv _).mp (Int.dvd_refl _) n hn⟩
theorem R3.ext {a b : R3} (h1 : a.1 = b.1) (h2 : a.2.1 = b.2.1) (h3 : a.2.2 = b.2.2) : a = b := by
  obtain ⟨x, y, z⟩ := a
  obtain ⟨x', y', z'⟩ := b
  simp only at h1 h2 h3
  rw [h1, h2, h3]
theorem IsR.unique {S : Int → Prop} {r r' : R3} (h : IsR S r) (h' : IsR S r') : r = r' := by
  have e1 : r.1 = r'.1 := by
    have := h.lo' _ h'.lo
    have := h'.lo' _ h.lo
    omega
  have e2 : r.2.1 = r'.2.1 := by
    have := h.hi' _ h'.hi
    have := h'.hi' _ h.hi
    omega
  refine R3.ext e1 e2 (eq_of_dvd h.nn h'.nn fun d => ?_)
  rw [h.dv, h'.dv, e1]
theorem IsR.congr {S T : Int → Prop} {r : R3} (h : IsR S r) (e : ∀ n, S n ↔ T n) : IsR T r :=
  ⟨(e _).mp h.lo, fun n hn => h.lo' n ((e n).mpr hn), (e _).mp h.hi, fun n hn => h.hi' n ((e n).mpr hn), h.nn, fun d => (h.dv d).trans ⟨fun k n hn => k n ((e n).mpr hn), fun k n hn => k n ((e n).mp hn)⟩⟩
theorem IsR.join {S T : Int → Prop} {a b : R3} (ha : IsR S a) (hb : IsR T b) : IsR (fun n => S n ∨ T n) (joinR a b) := by
  have s1 : Sub a (joinR a b) := sub_left
  have s2 : Sub b (joinR a b) := sub_right
  have l1 := s1.lo
  have l2 := s2.lo
  have l3 := s1.hi
  have l4 := s2.hi
  refine ⟨?_, fun n hn => ?_, ?_, fun n hn => ?_, g_nonneg _ _, fun d => ?_⟩
  · show S (if b.1 < a.1 then b.1 else a.1) ∨ T (if b.1 < a.1 then b.1 else a.1)
    split
    · exact .inr hb.lo
    · exact .inl ha.lo
  · rcases hn with z | z
    · have := ha.lo' n z
      omega
    · have := hb.lo' n z
      omega
  · show S (if b.2.1 > a.2.1 then b.2.1 else a.2.1) ∨ T (if b.2.1 > a.2.1 then b.2.1 else a.2.1)
    split
    · exact .inr hb.hi
    · exact .inl ha.hi
  · rcases hn with z | z
    · have := ha.hi' n z
      omega
    · have := hb.hi' n z
      omega
  · show d ∣ g (g a.2.2 b.2.2) (a.1 - b.1) ↔ _
    rw [g_dvd, g_dvd, ha.dv, hb.dv]
    have el : (joinR a b).1 = a.1 ∨ (joinR a b).1 = b.1 := by
      show (if b.1 < a.1 then b.1 else a.1) = a.1 ∨ (if b.1 < a.1 then b.1 else a.1) = b.1
      split
      · exact .inr rfl
      · exact .inl rfl
    constructor
    · rintro ⟨⟨h1, h2⟩, h3⟩
      have k1 : d ∣ (a.1 - (joinR a b).1) := by
        rcases el with e | e <;> rw [e]
        · rw [Int.sub_self]; exact Int.dvd_zero _
        · exact h3
      have k2 : d ∣ (b.1 - (joinR a b).1) := by
        rcases el with e | e <;> rw [e]
        · rw [show b.1 - a.1 = -(a.1 - b.1) by omega]; exact Int.dvd_neg.mpr h3
        · rw [Int.sub_self]; exact Int.dvd_zero _
      intro n hn
      rcases hn with z | z
      · have := Int.dvd_add (h1 n z) k1
        rw [show n - a.1 + (a.1 - (joinR a b).1) = n - (joinR a b).1 by omega] at this
        exact this
      · have := Int.dvd_add (h2 n z) k2
        rw [show n - b.1 + (b.1 - (joinR a b).1) = n - (joinR a b).1 by omega] at this
        exact this
    · intro h
      have k1 := h _ (.inl ha.lo)
      have k2 := h _ (.inr hb.lo)
      refine ⟨⟨fun n hn => ?_, fun n hn => ?_⟩, ?_⟩
      · have := Int.dvd_sub (h n (.inl hn)) k1
        rw [show n - (joinR a b).1 - (a.1 - (joinR a b).1) = n - a.1 by omega] at this
        exact this
      · have := Int.dvd_sub (h n (.inr hn)) k2
        rw [show n - (joinR a b).1 - (b.1 - (joinR a b).1) = n - b.1 by omega] at this
        exact this
      · have := Int.dvd_sub k1 k2
        rw [show a.1 - (joinR a b).1 - (b.1 - (joinR a b).1) = a.1 - b.1 by omega] at this
        exact this
theorem sub_mem {a b : R3} (s : Sub a b) {x : Int} (h : mem a x) : mem b x := by
  have h1 := s.lo
  have h2 := s.hi
  refine ⟨by have := h.1; omega, by have := h.2.1; omega, ?_⟩
  have := Int.dvd_add (Int.dvd_trans s.st h.2.2) s.far
  rw [show x - a.1 + (a.1 - b.1) = x - b.1 by omega] at this
  exact this
theorem mem_sub {a b : R3} (ha : Ok a) (h : ∀ x, mem a x → mem b x) : Sub a b := by
  have h1 := h _ (mem_lo ha)
  have h2 := h _ (mem_hi ha)
  have h3 := h _ (mem_st ha)
  refine ⟨h1.1, h2.2.1, h1.2.2, ?_⟩
  have := Int.dvd_sub h3.2.2 h1.2.2
  rw [show a.1 + a.2.2 - b.1 - (a.1 - b.1) = a.2.2 by omega] at this
  exact this
theorem sub_anti {a b : R3} (ha : Ok a) (hb : Ok b) (h1 : Sub a b) (h2 : Sub b a) : a = b := run_ext ha hb fun x => ⟨sub_mem h1, sub_mem h2⟩
theorem sub_trans {a b c : R3} (ha : Ok a) (h1 : Sub a b) (h2 : Sub b c) : Sub a c := mem_sub ha fun x h => sub_mem h2 (sub_mem h1 h)
theorem part_sub {a b : R3} (ha : Ok a) : partR a b = none ↔ Sub a b := by
  constructor
  · intro h
    obtain ⟨h1, h2, h3⟩ := part_none.mp h
    have h1 := mem_has.mp h1
    have h2 := mem_has.mp h2
    have h3 := mem_has.mp h3
    refine ⟨h1.1, h2.2.1, h1.2.2, ?_⟩
    have := Int.dvd_sub h3.2.2 h1.2.2
    rw [show a.1 + a.2.2 - b.1 - (a.1 - b.1) = a.2.2 by omega] at this
    exact this
  · exact sub_part ha
theorem IsR.least {S : Int → Prop} {r c : R3} (h : IsR S r) (hc : ∀ n, S n → mem c n) : Sub r c := by
  have h1 := hc _ h.lo
  have h2 := hc _ h.hi
  refine ⟨h1.1, h2.2.1, h1.2.2, (h.dv _).mpr fun n hn => ?_⟩
  have := Int.dvd_sub (hc n hn).2.2 h1.2.2
  rw [show n - c.1 - (r.1 - c.1) = n - r.1 by omega] at this
  exact this
theorem join_least {a b c : R3} (h1 : Sub a c) (h2 : Sub b c) : Sub (joinR a b) c := by
  have l1 := h1.lo
  have l2 := h2.lo
  have l3 := h1.hi
  have l4 := h2.hi
  refine ⟨?_, ?_, ?_, ?_⟩
  · show c.1 ≤ (if b.1 < a.1 then b.1 else a.1)
    split <;> omega
  · show (if b.2.1 > a.2.1 then b.2.1 else a.2.1) ≤ c.2.1
    split <;> omega
  · show c.2.2 ∣ ((if b.1 < a.1 then b.1 else a.1) - c.1)
    split
    · exact h2.far
    · exact h1.far
  · show c.2.2 ∣ g (g a.2.2 b.2.2) (a.1 - b.1)
    rw [g_dvd, g_dvd]
    refine ⟨⟨h1.st, h2.st⟩, ?_⟩
    have := Int.dvd_sub h1.far h2.far
    rw [show a.1 - c.1 - (b.1 - c.1) = a.1 - b.1 by omega] at this
    exact this
theorem join_assoc {a b c : R3} (ha : Ok a) (hb : Ok b) (hc : Ok c) : joinR a (joinR b c) = joinR (joinR a b) c := by
  have o1 := join_ok hb hc
  have o2 := join_ok ha hb
  refine sub_anti (join_ok ha o1) (join_ok o2 hc) (join_least ?_ (join_least ?_ sub_right)) (join_least (join_least sub_left ?_) ?_)
  · exact sub_trans ha sub_left sub_left
  · exact sub_trans hb sub_right sub_left
  · exact sub_trans hb sub_left sub_right
  · exact sub_trans hc sub_right sub_right
theorem join_turn {a b c : R3} (ha : Ok a) (hb : Ok b) (hc : Ok c) : joinR (joinR c a) b = joinR (joinR a b) c := by
  rw [← join_assoc hc ha hb, join_comm]
theorem join_is {a b : R3} (ha : Ok a) (hb : Ok b) : joinR a b = b ↔ Sub a b := by
  constructor
  · intro h
    have : Sub a (joinR a b) := sub_left
    rw [h] at this
    exact this
  · intro h
    rw [join_comm]
    exact join_sub hb h
theorem met_is {a b : R3} {o : Option R3} (ha : Ok a) (h : MetR a b o) : o = some a ↔ Sub a b := by
  constructor
  · intro e
    rw [e] at h
    exact mem_sub ha fun x hx => ((h.2 x).mp hx).2
  · intro s
    exact met_fun h (o' := some a) ⟨ha, fun x => ⟨fun m => ⟨m, sub_mem s m⟩, fun m => m.1⟩⟩
theorem met_join {a b : R3} (ha : Ok a) : MetR a (joinR a b) (some a) := ⟨ha, fun x => ⟨fun m => ⟨m, sub_mem sub_left m⟩, fun m => m.1⟩⟩
theorem met_back {a b r : R3} (ha : Ok a) (h : MetR a b (some r)) : joinR r a = a := (join_is h.1 ha).mpr (mem_sub h.1 fun x hx => ((h.2 x).mp hx).1)
/-- three runs met -/
def Met3 (a b c : R3) : Option R3 → Prop
  | none => ∀ x, ¬ (mem a x ∧ mem b x ∧ mem c x)
  | some r => Ok r ∧ ∀ x, mem r x ↔ mem a x ∧ mem b x ∧ mem c x
theorem met3_fun {a b c : R3} : ∀ {o o' : Option R3}, Met3 a b c o → Met3 a b c o' → o = o'
  | none, none, _, _ => rfl
  | none, some r, h, h' => absurd ((h'.2 _).mp (mem_lo h'.1)) (h _)
  | some r, none, h, h' => absurd ((h.2 _).mp (mem_lo h.1)) (h' _)
  | some r, some r', h, h' => by rw [run_ext h.1 h'.1 fun x => (h.2 x).trans (h'.2 x).symm]
theorem met3_turn {a b c : R3} : ∀ {o : Option R3}, Met3 a b c o → Met3 c a b o
  | none, h => fun x ⟨h1, h2, h3⟩ => h x ⟨h2, h3, h1⟩
  | some _, h => ⟨h.1, fun x => (h.2 x).trans ⟨fun ⟨h1, h2, h3⟩ => ⟨h3, h1, h2⟩, fun ⟨h1, h2, h3⟩ => ⟨h2, h3, h1⟩⟩⟩
theorem met3_none {a b c : R3} (h : MetR a b none) : Met3 a b c none := fun x ⟨h1, h2, _⟩ => h x ⟨h1, h2⟩
theorem met3_some {a b c r : R3} (h : MetR a b (some r)) : ∀ {o : Option R3}, MetR r c o → Met3 a b c o
  | none, h' => fun x ⟨h1, h2, h3⟩ => h' x ⟨(h.2 x).mpr ⟨h1, h2⟩, h3⟩
  | some _, h' => ⟨h'.1, fun x => (h'.2 x).trans ⟨fun ⟨k1, k2⟩ => ⟨((h.2 x).mp k1).1, ((h.2 x).mp k1).2, k2⟩, fun ⟨k1, k2, k3⟩ => ⟨(h.2 x).mpr ⟨k1, k2⟩, k3⟩⟩⟩
/-- one number more -/
theorem more_is {ns : List Int} {x : Int} {r r' : R3} (h : IsR (· ∈ ns) r) (h' : IsR (· ∈ ns ++ [x]) r') : Sub r r' ∧ mem r' x ∧ (r' = r ↔ mem r x) ∧ (Sub r' r ↔ r' = r) := by
  have s : Sub r r' := h.least fun n hn => h'.inR (List.mem_append_left _ hn)
  have m : mem r' x := h'.inR (List.mem_append_right _ (by simp))
  refine ⟨s, m, ⟨fun e => e ▸ m, fun hx => ?_⟩, ⟨fun z => sub_anti h'.ok h.ok z s, fun e => by rw [e]; exact sub_refl r⟩⟩
  refine sub_anti h'.ok h.ok (h'.least fun n hn => ?_) s
  rcases List.mem_append.mp hn with z | z
  · exact h.inR z
  · have : n = x := by simpa using z
    rw [this]
    exact hx
end CutM
namespace My
open PySem L2 PyProof.Rows
def top (i : Nat) : Stmt := PySem.Challenge.pw_leastform_k16_whole_runs_by_any_cuts.main.body.getD i (.Pass ⟨0, 0, 0, 0⟩)
abbrev sdivisor_of : Stmt := top 4
abbrev srun_of : Stmt := top 5
abbrev srun_has : Stmt := top 6
abbrev stelling_numbers : Stmt := top 7
abbrev srun_parted : Stmt := top 8
abbrev srun_within : Stmt := top 9
abbrev srun_joined : Stmt := top 10
abbrev sinverse_of : Stmt := top 11
abbrev sfirst_meeting : Stmt := top 12
abbrev ssteps_met : Stmt := top 13
abbrev srun_met : Stmt := top 14
abbrev s_law_mixed : Stmt := top 16
abbrev s_law_deck : Stmt := top 17
abbrev s_law_take : Stmt := top 18
abbrev s_law_far : Stmt := top 19
abbrev s_law_run : Stmt := top 20
abbrev s_law_has : Stmt := top 21
abbrev s_law_copy : Stmt := top 22
abbrev s_law_same : Stmt := top 23
abbrev s_law_numbers : Stmt := top 24
abbrev s_law_cut : Stmt := top 25
abbrev s_law_met_all : Stmt := top 26
abbrev s_law_lattice : Stmt := top 27
abbrev slaw : Stmt := top 28
/-! ### the deck's defs -/
section
variable {P : Program} {w : World} {K : PySem.W.Frag} {mg : Str → Option Value} {base : Heap}
theorem _root_.L2.On.put {p c : Addr} {H : Hp} (d : DeckAt H p c) (S k : Int) : On p c H (upd H p (.lst [.ref c, .int S, .int k])) := by
  obtain ⟨ns, e', l⟩ := d.cs
  exact ⟨⟨d.ne, ⟨S, k, upd_same⟩, ns, by rw [upd_ne d.ne.symm]; exact e', l⟩, fun b o h hp _ => by rw [upd_ne hp]; exact h⟩
theorem _root_.L2.On.cut {p c : Addr} {H : Hp} (d : DeckAt H p c) (ns : List Int) (h : ns.length ≤ 64) : On p c H (upd H c (.lst (ns.map V.int))) := by
  obtain ⟨S, k, e⟩ := d.dk
  exact ⟨⟨d.ne, ⟨S, k, by rw [upd_ne d.ne]; exact e⟩, ns, upd_same, h⟩, fun b o h _ hc => by rw [upd_ne hc]; exact h⟩
theorem flat_ints (ns : List Int) : (ns.map V.int).all flatV = true := by
  rw [List.all_map]
  exact List.all_eq_true.mpr fun _ _ => rfl
theorem eqVs_nil (ns : List Int) : eqVs (ns.map V.int) [] = ns.isEmpty := by cases ns <;> rfl

theorem sc_mixed : FnScope ["_law_number", "_law_k"] ["_law_number", "_law_k"] (defScope s_law_mixed) := ⟨rfl, rfl, rfl, by decide +kernel, rfl, by decide +kernel, by decide +kernel⟩
theorem g_mixed (h : Has K mg "_law_mixed" s_law_mixed) : Good P w K mg base 1 "_law_mixed" ["_law_number", "_law_k"] spMixed := by
  refine h.good sc_mixed (fun _ _ _ _ _ _ us hl => match us, hl with | [_, _], _ => rfl) (fun vs H Q E q => ?_) (fun f cdv A outer s H vs Q E hr q => ?_)
  · obtain ⟨n, k, rfl, _⟩ := q
    rfl
  · obtain ⟨n, k, rfl, q⟩ := q
    have nd := sc_mixed.nd
    refine ⟨_, (pss_cons (ps_set (i := 0) nd rfl (by first | exact Or.inl rfl | exact Or.inr rfl) (pe_op op_mod (pe_op op_mul (pe_op op_add (pe_op op_add (pe_op op_mod (pv 0) pe_int) (pe_op op_mul pe_int (pv 1))) pe_int) pe_int) pe_int))
      (pss_cons (ps_set (i := 0) nd rfl (by first | exact Or.inl rfl | exact Or.inr rfl) (pe_op op_mod (pe_op op_add (pe_op op_add (pe_op op_mul (pv 0) (pv 0)) (pe_op op_mul pe_int (pv 1))) pe_int) pe_int))
      (pss_one (ps_ret (pe_op op_fdiv (pe_op op_mod (pe_op op_mul (pe_op op_add (pe_op op_mul (pe_op op_mod (pv 0) pe_int) pe_int) (pe_op op_fdiv (pv 0) pe_int)) pe_int) pe_int) pe_int))))), ?_⟩
    refine ⟨_, rfl, _, _, rfl, rfl, (by show (0 : Int) < _; decide), _, rfl, _, _, rfl, rfl, .inl ⟨by decide, by decide⟩, _, _, rfl, rfl, _, _, rfl, rfl, _, _, rfl, rfl, .inr ⟨by decide, by decide⟩, _, _, rfl, rfl, (by show (0 : Int) < _; decide), ?_⟩
    refine ⟨_, rfl, _, rfl, _, _, rfl, rfl, ?c, _, rfl, _, _, rfl, rfl, .inl ⟨by decide, by decide⟩, _, _, rfl, rfl, _, _, rfl, rfl, _, _, rfl, rfl, (by show (0 : Int) < _; decide), ?_⟩
    case c =>
      refine .inl ⟨?_, ?_⟩
      · exact Int.lt_of_lt_of_le (by decide) (Int.emod_nonneg _ (by decide))
      · exact Int.lt_trans (Int.emod_lt_of_pos _ (by decide)) (by decide)
    refine ⟨_, rfl, _, _, rfl, rfl, (by show (0 : Int) < _; decide), _, _, rfl, rfl, .inr ⟨by decide, by decide⟩, _, rfl, _, _, rfl, rfl, ⟨by decide, by decide⟩, _, _, rfl, rfl, _, _, rfl, rfl, .inr ⟨by decide, by decide⟩, _, _, rfl, rfl, (by show (0 : Int) < _; decide), _, _, rfl, rfl, ⟨by decide, by decide⟩, ?_⟩
    exact q _

theorem sc_deck : FnScope ["_law_script", "_law_cells"] ["_law_script"] (defScope s_law_deck) := ⟨rfl, rfl, rfl, by decide +kernel, rfl, by decide +kernel, by decide +kernel⟩
theorem cut63 (ns : List Int) : cutV (ns.map V.int) none (some 63) = (ns.take 63).map V.int := by
  unfold cutV
  have e1 : HT.sIx (ns.map V.int).length 0 none = 0 := rfl
  rw [e1, List.drop_zero, Nat.sub_zero, List.map_take]
  by_cases h : ns.length ≤ 63
  · rw [List.take_of_length_le (by simp [HT.sIx] <;> omega), List.take_of_length_le (by simpa using h)]
  · congr 1
    simp [HT.sIx] <;> omega
theorem g_deck (h : Has K mg "_law_deck" s_law_deck) (B : Own mg) : Good P w K mg base 1 "_law_deck" ["_law_script"] (spDeck K) := by
  refine h.good sc_deck (fun _ _ _ _ _ _ us hl => match us, hl with | [_], _ => rfl) (fun vs H Q E q => ?_) (fun f cdv A outer s H vs Q E hr q => ?_)
  · obtain ⟨a, ns, rfl, _⟩ := q
    rfl
  · obtain ⟨a, ns, rfl, hS, q⟩ := q
    have nd := sc_deck.nd
    refine ⟨_, (pss_cons (ps_set (i := 1) nd rfl (by first | exact Or.inl rfl | exact Or.inr rfl) (pe_callTy call_list_of rfl B.list_ boot_list (pa_c (pe_slice sl_list (pv 0) po_none (po_some pe_int)) pa_nil)))
      (pss_one (ps_ret (@pe_lstQ _ _ _ _ (@qa_c _ _ _ _ _ (pe_rev (pv 1) (pe_un un_neg pe_int)) (@qa_c _ _ _ _ _ (pe_op op_add (pe_callB (call_sumL rfl) rfl B.sum boot_sum (pa_c (pv 1) pa_nil)) (pe_op op_mul pe_int (pe_callB call_len_seq rfl B.len PySem.boot_len (pa_c (pv 1) pa_nil)))) (@qa_c _ _ _ _ _ pe_int qa_nil rfl) rfl) rfl))))), ?_⟩
    refine ⟨_, rfl, _, rfl, a, _, rfl, hS, fun l1 h1 => ?_⟩
    have e1 : upd H l1 (.lst (cutV (ns.map V.int) none (some 63))) = upd H l1 (.lst ((ns.take 63).map V.int)) := by rw [cut63]
    rw [e1]
    refine ⟨l1, _, rfl, .inl (SqL.of upd_same), fun l2 h2 => ?_⟩
    refine ⟨_, rfl, _, rfl, rfl, l2, _, rfl, SqL.of upd_same, fun l3 h3 => ?_⟩
    have n23 : l2 ≠ l3 := ne_of_none upd_same h3
    refine ⟨_, rfl, l2, ns.take 63, rfl, SqL.of (by rw [upd_ne n23]; exact upd_same), _, rfl, l2, _, rfl, .inl (SqL.of (by rw [upd_ne n23]; exact upd_same)), _, _, rfl, rfl, .inl ⟨by decide, by decide⟩, _, _, rfl, rfl, (by show 3 ≤ sizeLine; decide), fun l4 h4 => ?_⟩
    have n34 : l3 ≠ l4 := ne_of_none upd_same h4
    have f1 : ∀ b o, H b = some o → upd H l1 (.lst ((ns.take 63).map V.int)) b = some o := fun b o e => by rw [upd_ne (ne_of_none e h1)]; exact e
    have s1 : Same H (upd H l1 (.lst ((ns.take 63).map V.int))) := f1
    have s2 : Same H (upd (upd H l1 (.lst ((ns.take 63).map V.int))) l2 (.lst ((ns.take 63).map V.int))) := fun b o e => by rw [upd_ne (ne_of_none (s1 b o e) h2)]; exact s1 b o e
    have s3 : Same H (upd (upd (upd H l1 (.lst ((ns.take 63).map V.int))) l2 (.lst ((ns.take 63).map V.int))) l3 (.lst ((ns.take 63).map V.int).reverse)) := fun b o e => by rw [upd_ne (ne_of_none (s2 b o e) h3)]; exact s2 b o e
    refine q l4 l3 _ (s3.free h4) (s2.free h3) ⟨n34.symm, ⟨_, _, upd_same⟩, (ns.take 63).reverse, ?_, ?_⟩ fun b o e => ?_
    · rw [upd_ne n34, upd_same, List.map_reverse]
    · rw [List.length_reverse, List.length_take]; omega
    · rw [upd_ne (ne_of_none (s3 b o e) h4)]; exact s3 b o e

theorem sc_take : FnScope ["_law_deck_here", "_law_most", "_law_cell"] ["_law_deck_here", "_law_most"] (defScope s_law_take) := ⟨rfl, rfl, rfl, by decide +kernel, rfl, by decide +kernel, by decide +kernel⟩
theorem g_take (h : Has K mg "_law_take" s_law_take) (G_law_mixed : Good P w K mg base 1 "_law_mixed" ["_law_number", "_law_k"] spMixed) : Good P w K mg base 2 "_law_take" ["_law_deck_here", "_law_most"] spTake := by
  refine h.good sc_take (fun _ _ _ _ _ _ us hl => match us, hl with | [_, _], _ => rfl) (fun vs H Q E q => ?_) (fun f cdv A outer s H vs Q E hr q => ?_)
  · obtain ⟨p, c, m, rfl, _⟩ := q
    rfl
  · obtain ⟨p, c, m, rfl, d, hm, hB, q⟩ := q
    have nd := sc_take.nd
    have hu := Nat.lt_of_succ_lt (hu_of hr)
    obtain ⟨hne, ⟨S, k, hp⟩, ns, hc, hl⟩ := id d
    refine ⟨_, (pss_cons (ps_asg (pe_op op_add (pe_ix ix_list (pv 0) pe_int (fun _ _ => rfl)) pe_int) (pg_sub (pv 0) pe_int set_list))
      (pss_cons (ps_if (pt_cmpR (op_eqL hu) (pe_ix ix_list (pv 0) pe_int (fun _ _ => rfl)) (@pe_lstQ _ _ _ _ qa_nil) (nomark _))
        (pss_one (ps_ret (pe_op op_mod (pe_fn G_law_mixed (hr.mono (by first | decide | omega)) rfl (pa_c (pe_ix ix_list (pv 0) pe_int (fun _ _ => rfl)) (pa_c (pe_ix ix_list (pv 0) pe_int (fun _ _ => rfl)) pa_nil))) (pv 1))))
        pss_nil)
      (pss_cons (ps_set (i := 2) nd rfl (by first | exact Or.inl rfl | exact Or.inr rfl) (pe_bm0 PySem.F.plainAttrs_list PySem.F.slot_list_pop PySem.F.type_list_pop mt_pop (pe_ix ix_list (pv 0) pe_int (fun _ _ => rfl))))
      (pss_cons (ps_if (pt_cmpR op_lt (pv 2) (pe_op op_pow pe_int pe_int) (nomark _))
        (pss_one (ps_ret (pe_op op_mod (pe_fn G_law_mixed (hr.mono (by first | decide | omega)) rfl (pa_c (pv 2) (pa_c (pe_ix ix_list (pv 0) pe_int (fun _ _ => rfl)) pa_nil))) (pv 1))))
        pss_nil)
      (pss_cons (ps_expr (pe_bm PySem.F.plainAttrs_list PySem.F.slot_list_append PySem.F.type_list_append mt_append (pe_ix ix_list (pv 0) pe_int (fun _ _ => rfl)) (pa_c (pe_op op_fdivL (pv 2) (pv 1)) pa_nil)))
      (pss_one (ps_ret (pe_op op_mod (pv 2) (pv 1))))))))), ?_⟩
    -- deck[2] = deck[2] + 1
    refine ⟨_, rfl, p, _, _, _, rfl, rfl, SqL.of hp, rfl, _, _, rfl, rfl, _, rfl, p, _, _, 2, rfl, rfl, hp, rfl, ?_⟩
    have o1 : On p c H (upd H p (.lst [.ref c, .int S, .int (k + 1)])) := On.put d S (k + 1)
    have hc1 : upd H p (.lst [.ref c, .int S, .int (k + 1)]) c = some (.lst (ns.map V.int)) := by rw [upd_ne hne.symm]; exact hc
    -- if deck[0] == []
    refine ⟨_, rfl, p, _, _, _, rfl, rfl, SqL.of upd_same, rfl, Nat.zero_le _, fun l hfree => ?_⟩
    have npl : p ≠ l := (o1.d.nep hfree).symm
    have ncl : c ≠ l := (o1.d.nec hfree).symm
    have o2 := o1.alloc (o := .lst []) hfree
    have hp2 : upd (upd H p (.lst [.ref c, .int S, .int (k + 1)])) l (.lst []) p = some (.lst [.ref c, .int S, .int (k + 1)]) := by rw [upd_ne npl]; exact upd_same
    have hc2 : upd (upd H p (.lst [.ref c, .int S, .int (k + 1)])) l (.lst []) c = some (.lst (ns.map V.int)) := by rw [upd_ne ncl]; exact hc1
    refine ⟨c, l, _, [], rfl, rfl, SqL.of hc2, SqL.of upd_same, flat_ints ns, rfl, _, rfl, ?_⟩
    rw [show (if false = true then !eqVs (ns.map V.int) [] else eqVs (ns.map V.int) []) = ns.isEmpty from eqVs_nil ns]
    have fin : ∀ r H', On p c H H' → Q (.int (r % m)) H' := fun r H' o => q (r % m) H' (Int.emod_nonneg _ (by omega)) (Int.emod_lt_of_pos _ hm) o
    rcases List.eq_nil_or_concat ns with e | ⟨init, z, e⟩
    · subst e
      refine iteT ?_
      refine ⟨_, rfl, p, _, _, _, rfl, rfl, SqL.of hp2, rfl, _, rfl, p, _, _, _, rfl, rfl, SqL.of hp2, rfl, _, _, rfl, fun r => ?_⟩
      exact ⟨_, rfl, _, _, rfl, rfl, hm, fin r _ o2⟩
    · rw [List.concat_eq_append] at e
      subst e
      rw [show (init ++ [z]).isEmpty = false by simp]
      refine iteF ?_
      have hlast : ((init ++ [z]).map V.int)[((init ++ [z]).map V.int).length - 1]? = some (.int z) := by simp
      have hdrop : ((init ++ [z]).map V.int).dropLast = init.map V.int := by simp
      -- cell = deck[0].pop()
      refine ⟨_, rfl, p, _, _, _, rfl, rfl, SqL.of hp2, rfl, .inl ⟨rfl, _, SqL.of hc2⟩, c, _, _, rfl, rfl, hc2, hlast, ?_⟩
      rw [hdrop]
      have hli : init.length ≤ 63 := by rw [List.length_append, List.length_singleton] at hl; omega
      have o3 := o2.trans (On.cut o2.d init (by omega))
      have hp3 : upd (upd (upd H p (.lst [.ref c, .int S, .int (k + 1)])) l (.lst [])) c (.lst (init.map V.int)) p = some (.lst [.ref c, .int S, .int (k + 1)]) := by rw [upd_ne hne]; exact hp2
      -- if cell < 10 ** 18
      refine ⟨_, rfl, _, _, rfl, rfl, ⟨by decide, by decide, by decide⟩, _, _, rfl, rfl, _, rfl, ?_⟩
      refine ite2 (fun _ => ?_) (fun _ => ?_)
      · refine ⟨_, rfl, _, rfl, p, _, _, _, rfl, rfl, SqL.of hp3, rfl, _, _, rfl, fun r => ?_⟩
        exact ⟨_, rfl, _, _, rfl, rfl, hm, fin r _ o3⟩
      · refine ⟨_, rfl, p, _, _, _, rfl, rfl, SqL.of hp3, rfl, .inl ⟨rfl, _, SqL.of upd_same⟩, _, rfl, _, rfl, _, _, rfl, rfl, ⟨hm, hB⟩, c, _, _, rfl, rfl, upd_same, small1000 (by rw [List.length_map]; omega), ?_⟩
        rw [show init.map V.int ++ [V.int (z / m)] = (init ++ [z / m]).map V.int by simp]
        have o4 := o3.trans (On.cut o3.d (init ++ [z / m]) (by rw [List.length_append, List.length_singleton]; omega))
        exact ⟨_, rfl, _, rfl, _, _, rfl, rfl, hm, fin z _ o4⟩
end
/-! ### drawn numbers and runs -/
section
variable {P : Program} {w : World} {K : PySem.W.Frag} {mg : Str → Option Value} {base : Heap}
theorem sc_far : FnScope ["_law_deck_here", "_law_number", "_law_k"] ["_law_deck_here"] (defScope s_law_far) := ⟨rfl, rfl, rfl, by decide +kernel, rfl, by decide +kernel, by decide +kernel⟩
theorem g_far (h : Has K mg "_law_far" s_law_far) (B : Own mg) (G_law_take : Good P w K mg base 2 "_law_take" ["_law_deck_here", "_law_most"] spTake) : Good P w K mg base 3 "_law_far" ["_law_deck_here"] spFar := by
  refine h.good sc_far (fun _ _ _ _ _ _ us hl => match us, hl with | [_], _ => rfl) (fun vs H Q E q => ?_) (fun f cdv A outer s H vs Q E hr q => ?_)
  · obtain ⟨p, c, rfl, _⟩ := q
    rfl
  · obtain ⟨p, c, rfl, d, q⟩ := q
    have nd := sc_far.nd
    refine ⟨_, (pss_cons (ps_set (i := 1) nd rfl (by first | exact Or.inl rfl | exact Or.inr rfl) pe_int)
      (pss_cons (ps_for PassesOwn.never rfl (pi_range1 rfl B.range (pa_c pe_int pa_nil)) (pg_name (i := 2) nd rfl (by first | exact Or.inl rfl | exact Or.inr rfl))
        (pss_one (ps_set (i := 1) nd rfl (by first | exact Or.inl rfl | exact Or.inr rfl) (pe_op op_add (pe_op op_mul (pv 1) (pe_op op_pow pe_int pe_int)) (pe_fn G_law_take (hr.mono (by first | decide | omega)) rfl (pa_c (pv 0) (pa_c (pe_op op_pow pe_int pe_int) pa_nil)))))))
      (pss_one (ps_ret (pe_op op_add (pe_op op_sub (pe_op op_mod (pv 1) (pe_op op_sub (pe_op op_mul pe_int (pe_op op_pow pe_int pe_int)) pe_int)) (pe_op op_pow pe_int pe_int)) pe_int))))), ?_⟩
    refine ⟨8, rfl, by decide, by decide, for_range (n := 8) (fun _ σ H1 => ∃ (n : Int) (v : Option V), σ = [some (.ref p), some (.int n), v] ∧ On p c H H1) ⟨0, none, rfl, d.on⟩ ?_ ?_⟩
    · rintro i σ H1 hi ⟨n, v, rfl, o1⟩
      refine ⟨_, rfl, _, _, rfl, rfl, ⟨by decide, by decide, by decide⟩, _, _, rfl, rfl, .inr ⟨by decide, by decide⟩, _, rfl, _, _, rfl, rfl, ⟨by decide, by decide, by decide⟩, p, c, _, rfl, o1.d, by decide, big (by decide) (by decide), fun r H2 _ _ o2 => ?_⟩
      exact ⟨_, _, rfl, rfl, _, _, rfl, o1.trans o2⟩
    · rintro σ H1 ⟨n, v, rfl, o1⟩
      refine ⟨_, rfl, _, _, rfl, rfl, ⟨by decide, by decide, by decide⟩, _, _, rfl, rfl, .inl ⟨by decide, by decide⟩, _, _, rfl, rfl, _, _, rfl, rfl, (by show (0 : Int) < _; decide +kernel), _, _, rfl, rfl, ⟨by decide, by decide, by decide⟩, _, _, rfl, rfl, _, _, rfl, rfl, ?_⟩
      have e : (10 : Int) ^ (60 : Int).toNat = 10 ^ 60 := rfl
      have hz : (0 : Int) < 2 * 10 ^ 60 - 1 := by decide +kernel
      have h1 := Int.emod_nonneg n (show (2 * (10 : Int) ^ 60 - 1) ≠ 0 by omega)
      have h2 := Int.emod_lt_of_pos n hz
      exact q _ H1 (by rw [e]; omega) (by rw [e]; omega) o1
theorem menu4 {a b c e r : Int} (h0 : 0 ≤ r) (h4 : r < 4) : ∃ m, atI [V.int a, V.int b, V.int c, V.int e] r = some (.int m) ∧ (m = a ∨ m = b ∨ m = c ∨ m = e) := by
  have : r = 0 ∨ r = 1 ∨ r = 2 ∨ r = 3 := by omega
  rcases this with e | e | e | e <;> subst e
  · exact ⟨_, rfl, .inl rfl⟩
  · exact ⟨_, rfl, .inr (.inl rfl)⟩
  · exact ⟨_, rfl, .inr (.inr (.inl rfl))⟩
  · exact ⟨_, rfl, .inr (.inr (.inr rfl))⟩
theorem sc_run : FnScope ["_law_deck_here", "_law_low", "_law_step", "_law_many"] ["_law_deck_here"] (defScope s_law_run) := ⟨rfl, rfl, rfl, by decide +kernel, rfl, by decide +kernel, by decide +kernel⟩
theorem g_run (h : Has K mg "_law_run" s_law_run) (B : Own mg) (G_law_take : Good P w K mg base 2 "_law_take" ["_law_deck_here", "_law_most"] spTake) (G_law_far : Good P w K mg base 3 "_law_far" ["_law_deck_here"] spFar) :
    Good P w K mg base 4 "_law_run" ["_law_deck_here"] spRun := by
  refine h.good sc_run (fun _ _ _ _ _ _ us hl => match us, hl with | [_], _ => rfl) (fun vs H Q E q => ?_) (fun f cdv A outer s H vs Q E hr q => ?_)
  · obtain ⟨p, c, rfl, _⟩ := q
    rfl
  · obtain ⟨p, c, rfl, d, q⟩ := q
    have nd := sc_run.nd
    refine ⟨_, (pss_cons (ps_set (i := 1) nd rfl (by first | exact Or.inl rfl | exact Or.inr rfl) (pe_op op_sub (pe_fn G_law_take (hr.mono (by first | decide | omega)) rfl (pa_c (pv 0) (pa_c pe_int pa_nil))) pe_int))
      (pss_cons (ps_if (pt_cmpR op_eq (pe_fn G_law_take (hr.mono (by first | decide | omega)) rfl (pa_c (pv 0) (pa_c pe_int pa_nil))) pe_int (nomark _))
        (pss_one (ps_set (i := 1) nd rfl (by first | exact Or.inl rfl | exact Or.inr rfl) (pe_op op_fdiv (pe_fn G_law_far (hr.mono (by first | decide | omega)) rfl (pa_c (pv 0) pa_nil)) pe_int)))
        pss_nil)
      (pss_cons (ps_set (i := 2) nd rfl (by first | exact Or.inl rfl | exact Or.inr rfl) (pe_op op_add pe_int (pe_fn G_law_take (hr.mono (by first | decide | omega)) rfl (pa_c (pv 0) (pa_c (pe_ix ix_list (@pe_lstQ _ _ _ _ (@qa_c _ _ _ _ _ pe_int (@qa_c _ _ _ _ _ pe_int (@qa_c _ _ _ _ _ pe_int (@qa_c _ _ _ _ _ (pe_op op_pow pe_int pe_int) qa_nil rfl) rfl) rfl) rfl)) (pe_fn G_law_take (hr.mono (by first | decide | omega)) rfl (pa_c (pv 0) (pa_c pe_int pa_nil))) (fun _ _ => rfl)) pa_nil)))))
      (pss_cons (ps_set (i := 3) nd rfl (by first | exact Or.inl rfl | exact Or.inr rfl) (pe_fn G_law_take (hr.mono (by first | decide | omega)) rfl (pa_c (pv 0) (pa_c (pe_ix ix_list (@pe_lstQ _ _ _ _ (@qa_c _ _ _ _ _ pe_int (@qa_c _ _ _ _ _ pe_int (@qa_c _ _ _ _ _ pe_int (@qa_c _ _ _ _ _ (pe_op op_pow pe_int pe_int) qa_nil rfl) rfl) rfl) rfl)) (pe_fn G_law_take (hr.mono (by first | decide | omega)) rfl (pa_c (pv 0) (pa_c pe_int pa_nil))) (fun _ _ => rfl)) pa_nil))))
      (pss_one (ps_ret (@pe_tupQ _ _ _ _ _ (@qa_c _ _ _ _ _ (pv 1) (@qa_c _ _ _ _ _ (pe_op op_add (pv 1) (pe_op op_mul (pv 2) (pv 3))) (@qa_c _ _ _ _ _ (pe_op op_mul (pv 2) (pe_callB (call_min2 rfl) rfl B.min boot_min (pa_c (pv 3) (pa_c pe_int pa_nil)))) qa_nil rfl) rfl) rfl)))))))), ?_⟩
    refine ⟨_, rfl, p, c, _, rfl, d, by decide, big (by decide) (by decide), fun r1 H1 a1 b1 o1 => ?_⟩
    refine ⟨_, _, rfl, rfl, _, rfl, p, c, _, rfl, o1.d, by decide, big (by decide) (by decide), fun r2 H2 _ _ o2 => ?_⟩
    have o12 := o1.trans o2
    refine ⟨rfl, _, rfl, ?_⟩
    refine ite2 (fun _ => ?_) (fun _ => ?_)
    · refine ⟨_, rfl, p, c, rfl, o12.d, fun r3 H3 a3 b3 o3 => ?_⟩
      refine ⟨_, _, rfl, rfl, ⟨by decide, by decide⟩, ?_⟩
      have oo := o12.trans o3
      have l1 : -(10 ^ 58) ≤ r3 / 1000 := by omega
      have l2 : r3 / 1000 ≤ 10 ^ 58 := by omega
      refine ⟨_, rfl, _, _, rfl, rfl, ⟨by decide, by decide, by decide⟩, by show 4 ≤ sizeLine; decide, fun l hl => ?_⟩
      have o4 := oo.alloc (o := .lst [.int 4, .int 12, .int 60, .int (10 ^ (20 : Int).toNat)]) hl
      refine ⟨_, rfl, p, c, _, rfl, o4.d, by decide, big (by decide) (by decide), fun r5 H5 a5 b5 o5 => ?_⟩
      have o45 := o4.trans o5
      obtain ⟨m, hm, hmm⟩ := menu4 (a := 4) (b := 12) (c := 60) (e := 10 ^ (20 : Int).toNat) a5 b5
      have e20 : (10 : Int) ^ (20 : Int).toNat = 10 ^ 20 := rfl
      have m1 : 1 ≤ m := by rw [e20] at hmm; omega
      have m2 : m ≤ 10 ^ 20 := by rw [e20] at hmm; omega
      refine ⟨l, _, _, _, rfl, rfl, SqL.of (o5.e l _ upd_same (oo.d.nep hl) (oo.d.nec hl)), hm, ?_⟩
      refine ⟨p, c, m, rfl, o45.d, by omega, big (by omega) (by omega), fun r6 H6 a6 b6 o6 => ?_⟩
      have o7 := o45.trans o6
      refine ⟨_, _, rfl, rfl, ?_⟩
      refine ⟨_, rfl, _, _, rfl, rfl, ⟨by decide, by decide, by decide⟩, by show 4 ≤ sizeLine; decide, fun l8 hl8 => ?_⟩
      have o8 := o7.alloc (o := .lst [.int 2, .int 5, .int 30, .int (10 ^ (18 : Int).toNat)]) hl8
      refine ⟨_, rfl, p, c, _, rfl, o8.d, by decide, big (by decide) (by decide), fun r9 H9 a9 b9 o9 => ?_⟩
      have o89 := o8.trans o9
      obtain ⟨n, hn, hnn⟩ := menu4 (a := 2) (b := 5) (c := 30) (e := 10 ^ (18 : Int).toNat) a9 b9
      have e18 : (10 : Int) ^ (18 : Int).toNat = 10 ^ 18 := rfl
      have n1 : 1 ≤ n := by rw [e18] at hnn; omega
      have n2 : n ≤ 10 ^ 18 := by rw [e18] at hnn; omega
      refine ⟨l8, _, _, _, rfl, rfl, SqL.of (o9.e l8 _ upd_same (o7.d.nep hl8) (o7.d.nec hl8)), hn, ?_⟩
      refine ⟨p, c, n, rfl, o89.d, by omega, big (by omega) (by omega), fun r10 H10 a10 b10 o10 => ?_⟩
      have oA := o89.trans o10
      have hmin1 : -(2 ^ 64) < (if 1 < r10 then 1 else r10) := by split <;> omega
      have hmin2 : (if 1 < r10 then 1 else r10) < (2 ^ 64 : Int) := by split <;> omega
      refine ⟨_, rfl, _, rfl, _, rfl, _, rfl, _, _, rfl, rfl, .inr ⟨by omega, by omega⟩, _, _, rfl, rfl, _, rfl, _, rfl, _, _, rfl, _, _, rfl, rfl, .inr ⟨hmin1, hmin2⟩, by show 3 ≤ sizeLine; decide, fun t ht => ?_⟩
      exact q t _ _ _ _ (oA.free d ht) upd_same ⟨l1, l2, 1 + r6, r10, by omega, by omega, a10, by omega, rfl, rfl⟩ (oA.alloc ht)
    · have oo := o12
      have l1 : -(10 ^ 58) ≤ r1 - 20 := by omega
      have l2 : r1 - 20 ≤ 10 ^ 58 := by omega
      refine ⟨_, rfl, _, _, rfl, rfl, ⟨by decide, by decide, by decide⟩, by show 4 ≤ sizeLine; decide, fun l hl => ?_⟩
      have o4 := oo.alloc (o := .lst [.int 4, .int 12, .int 60, .int (10 ^ (20 : Int).toNat)]) hl
      refine ⟨_, rfl, p, c, _, rfl, o4.d, by decide, big (by decide) (by decide), fun r5 H5 a5 b5 o5 => ?_⟩
      have o45 := o4.trans o5
      obtain ⟨m, hm, hmm⟩ := menu4 (a := 4) (b := 12) (c := 60) (e := 10 ^ (20 : Int).toNat) a5 b5
      have e20 : (10 : Int) ^ (20 : Int).toNat = 10 ^ 20 := rfl
      have m1 : 1 ≤ m := by rw [e20] at hmm; omega
      have m2 : m ≤ 10 ^ 20 := by rw [e20] at hmm; omega
      refine ⟨l, _, _, _, rfl, rfl, SqL.of (o5.e l _ upd_same (oo.d.nep hl) (oo.d.nec hl)), hm, ?_⟩
      refine ⟨p, c, m, rfl, o45.d, by omega, big (by omega) (by omega), fun r6 H6 a6 b6 o6 => ?_⟩
      have o7 := o45.trans o6
      refine ⟨_, _, rfl, rfl, ?_⟩
      refine ⟨_, rfl, _, _, rfl, rfl, ⟨by decide, by decide, by decide⟩, by show 4 ≤ sizeLine; decide, fun l8 hl8 => ?_⟩
      have o8 := o7.alloc (o := .lst [.int 2, .int 5, .int 30, .int (10 ^ (18 : Int).toNat)]) hl8
      refine ⟨_, rfl, p, c, _, rfl, o8.d, by decide, big (by decide) (by decide), fun r9 H9 a9 b9 o9 => ?_⟩
      have o89 := o8.trans o9
      obtain ⟨n, hn, hnn⟩ := menu4 (a := 2) (b := 5) (c := 30) (e := 10 ^ (18 : Int).toNat) a9 b9
      have e18 : (10 : Int) ^ (18 : Int).toNat = 10 ^ 18 := rfl
      have n1 : 1 ≤ n := by rw [e18] at hnn; omega
      have n2 : n ≤ 10 ^ 18 := by rw [e18] at hnn; omega
      refine ⟨l8, _, _, _, rfl, rfl, SqL.of (o9.e l8 _ upd_same (o7.d.nep hl8) (o7.d.nec hl8)), hn, ?_⟩
      refine ⟨p, c, n, rfl, o89.d, by omega, big (by omega) (by omega), fun r10 H10 a10 b10 o10 => ?_⟩
      have oA := o89.trans o10
      have hmin1 : -(2 ^ 64) < (if 1 < r10 then 1 else r10) := by split <;> omega
      have hmin2 : (if 1 < r10 then 1 else r10) < (2 ^ 64 : Int) := by split <;> omega
      refine ⟨_, rfl, _, rfl, _, rfl, _, rfl, _, _, rfl, rfl, .inr ⟨by omega, by omega⟩, _, _, rfl, rfl, _, rfl, _, rfl, _, _, rfl, _, _, rfl, rfl, .inr ⟨hmin1, hmin2⟩, by show 3 ≤ sizeLine; decide, fun t ht => ?_⟩
      exact q t _ _ _ _ (oA.free d ht) upd_same ⟨l1, l2, 1 + r6, r10, by omega, by omega, a10, by omega, rfl, rfl⟩ (oA.alloc ht)
end
/-! ### has, in the law and in the program -/
open RunM
/-- (lo, hi, st) stands at t -/
abbrev RunAt (H : Hp) (t : Addr) (lo hi st : Int) : Prop := H t = some (.tup [.int lo, .int hi, .int st])
def spHas : Sp := fun vs H Q _ => ∃ (t : Addr) (lo hi st x : Int), vs = [.ref t, .int x] ∧ RunAt H t lo hi st ∧ RunOk lo hi st ∧ Q (.bl (hasR lo hi st x)) H
theorem dI {i j : Int} : decide (V.int i = V.int j) = decide (i = j) := by
  by_cases h : i = j
  · subst h; simp
  · rw [decide_eq_false h, decide_eq_false fun z => h (V.int.inj z)]
section
variable {P : Program} {w : World} {K : PySem.W.Frag} {mg : Str → Option Value} {base : Heap}
theorem sc_rhas : FnScope ["run", "number"] ["run", "number"] (defScope srun_has) := ⟨rfl, rfl, rfl, by decide +kernel, rfl, by decide +kernel, by decide +kernel⟩
theorem g_rhas (h : Has K mg "run_has" srun_has) : Good P w K mg base 1 "run_has" ["run", "number"] spHas := by
  refine h.good sc_rhas (fun _ _ _ _ _ _ us hl => match us, hl with | [_, _], _ => rfl) (fun vs H Q E q => ?_) (fun f cdv A outer s H vs Q E hr q => ?_)
  · obtain ⟨t, lo, hi, st, x, rfl, _⟩ := q
    rfl
  · obtain ⟨t, lo, hi, st, x, rfl, ht, ok, q⟩ := q
    have nd := sc_rhas.nd
    rw [hasR_of ok] at q
    refine ⟨_, (pss_cons (ps_if (pt_cmpR op_eq (pe_ix ix_tup (pv 0) pe_int (fun _ _ => rfl)) pe_int (nomark _))
        (pss_one (ps_ret (pe_cmpR op_eq (pv 1) (pe_ix ix_tup (pv 0) pe_int (fun _ _ => rfl)) (nomark _))))
        pss_nil)
      (pss_one (ps_ret (pe_and (pe_chain op_le op_le (pe_ix ix_tup (pv 0) pe_int (fun _ _ => rfl)) (pv 1) (pe_ix ix_tup (pv 0) pe_int (fun _ _ => rfl))) (pe_one (pe_cmpR op_eq (pe_op op_mod (pe_op op_sub (pv 1) (pe_ix ix_tup (pv 0) pe_int (fun _ _ => rfl))) (pe_ix ix_tup (pv 0) pe_int (fun _ _ => rfl))) pe_int (nomark _))))))), ?_⟩
    refine ⟨_, rfl, t, _, _, _, rfl, rfl, SqT.of ht, rfl, rfl, _, rfl, ?_⟩
    refine ite2 (fun h1 => ?_) (fun h1 => ?_)
    · rw [dI] at h1
      have h1 : st = 0 := of_decide_eq_true h1
      rw [if_pos h1] at q
      refine ⟨_, rfl, _, rfl, t, _, _, _, rfl, rfl, SqT.of ht, rfl, rfl, ?_⟩
      show Q _ _
      rw [dI]
      exact q
    · rw [dI] at h1
      have h1 : ¬ st = 0 := fun z => h1 (decide_eq_true z)
      rw [if_neg h1] at q
      have hs : 0 < st := by have := ok.nn; omega
      refine ⟨_, rfl, t, _, _, _, rfl, rfl, SqT.of ht, rfl, _, rfl, _, _, rfl, rfl, _, rfl, ?_⟩
      refine ite2 (fun h2 => ?_) (fun h2 => ?_)
      · have h2 : lo ≤ x := of_decide_eq_true h2
        refine ⟨_, rfl, t, _, _, _, rfl, rfl, SqT.of ht, rfl, _, _, rfl, rfl, _, rfl, ?_⟩
        refine ite2 (fun h3 => ?_) (fun h3 => ?_)
        · have h3 : x ≤ hi := of_decide_eq_true h3
          refine ⟨_, rfl, _, rfl, t, _, _, _, rfl, rfl, SqT.of ht, rfl, _, _, rfl, rfl, _, rfl, t, _, _, _, rfl, rfl, SqT.of ht, rfl, _, _, rfl, rfl, hs, rfl, ?_⟩
          show Q _ _
          rw [dI]
          simpa [h2, h3] using q
        · have h3 : ¬ x ≤ hi := fun z => h3 (decide_eq_true z)
          show Q _ _
          simpa [h2, h3] using q
      · have h2 : ¬ lo ≤ x := fun z => h2 (decide_eq_true z)
        refine ⟨_, rfl, ?_⟩
        refine iteF ?_
        show Q _ _
        simpa [h2] using q
/-! ### the three numbers, parted, within -/
def spTell : Sp := fun vs H Q _ => ∃ (t : Addr) (lo hi st : Int), vs = [.ref t] ∧ RunAt H t lo hi st ∧ ∀ l, H l = none → Q (.ref l) (upd H l (.lst [.int lo, .int hi, .int (lo + st)]))
theorem sc_tell : FnScope ["run"] ["run"] (defScope stelling_numbers) := ⟨rfl, rfl, rfl, by decide +kernel, rfl, by decide +kernel, by decide +kernel⟩
theorem g_tell (h : Has K mg "telling_numbers" stelling_numbers) : Good P w K mg base 1 "telling_numbers" ["run"] spTell := by
  refine h.good sc_tell (fun _ _ _ _ _ _ us hl => match us, hl with | [_], _ => rfl) (fun vs H Q E q => ?_) (fun f cdv A outer s H vs Q E hr q => ?_)
  · obtain ⟨t, lo, hi, st, rfl, _⟩ := q
    rfl
  · obtain ⟨t, lo, hi, st, rfl, ht, q⟩ := q
    have nd := sc_tell.nd
    refine ⟨_, (pss_one (ps_ret (@pe_lstQ _ _ _ _ (@qa_c _ _ _ _ _ (pe_ix ix_tup (pv 0) pe_int (fun _ _ => rfl)) (@qa_c _ _ _ _ _ (pe_ix ix_tup (pv 0) pe_int (fun _ _ => rfl)) (@qa_c _ _ _ _ _ (pe_op op_add (pe_ix ix_tup (pv 0) pe_int (fun _ _ => rfl)) (pe_ix ix_tup (pv 0) pe_int (fun _ _ => rfl))) qa_nil rfl) rfl) rfl)))), ?_⟩
    exact ⟨_, rfl, t, _, _, _, rfl, rfl, SqT.of ht, rfl, _, rfl, t, _, _, _, rfl, rfl, SqT.of ht, rfl, _, rfl, t, _, _, _, rfl, rfl, SqT.of ht, rfl, _, rfl, t, _, _, _, rfl, rfl, SqT.of ht, rfl, _, _, rfl, rfl, by show 3 ≤ sizeLine; decide, fun l hl => q l hl⟩
def optV : Option Int → V
  | some i => .int i
  | none => .non
def spParted : Sp := fun vs H Q _ => ∃ (t u : Addr) (lo hi st lo' hi' st' : Int), vs = [.ref t, .ref u] ∧ RunAt H t lo hi st ∧ RunAt H u lo' hi' st' ∧ RunOk lo' hi' st' ∧
  ∀ H', Same H H' → Q (optV (partR (lo, hi, st) (lo', hi', st'))) H'
theorem sc_parted : FnScope ["one", "other", "number"] ["one", "other"] (defScope srun_parted) := ⟨rfl, rfl, rfl, by decide +kernel, rfl, by decide +kernel, by decide +kernel⟩
theorem find_step {f : Int → Bool} {xs : List Int} {i : Nat} {x : Int} (h : xs[i]? = some x) : xs.find? f = if (xs.take i).all (fun y => !f y) = true then (if f x = true then some x else (xs.drop (i + 1)).find? f) else (xs.take i).find? f := by
  have hd : xs.drop i = x :: xs.drop (i + 1) := by
    obtain ⟨hlt, e⟩ := List.getElem?_eq_some_iff.mp h
    rw [List.drop_eq_getElem_cons hlt, e]
  have e : xs = xs.take i ++ (x :: xs.drop (i + 1)) := by rw [← hd, List.take_append_drop]
  split
  · rename_i ha
    conv => lhs; rw [e]
    rw [List.find?_append]
    have : (xs.take i).find? f = none := List.find?_eq_none.mpr fun y hy => by simpa using List.all_eq_true.mp ha y hy
    rw [this, Option.none_or, List.find?_cons]
    cases hf : f x <;> simp
  · rename_i ha
    conv => lhs; rw [e]
    rw [List.find?_append]
    cases hq : (xs.take i).find? f with
    | some y => rfl
    | none =>
      refine absurd (List.all_eq_true.mpr fun y hy => ?_) ha
      simpa using List.find?_eq_none.mp hq y hy
theorem g_parted (h : Has K mg "run_parted" srun_parted) (Gtelling_numbers : Good P w K mg base 1 "telling_numbers" ["run"] spTell) (Grun_has : Good P w K mg base 1 "run_has" ["run", "number"] spHas) : Good P w K mg base 2 "run_parted" ["one", "other"] spParted := by
  refine h.good sc_parted (fun _ _ _ _ _ _ us hl => match us, hl with | [_, _], _ => rfl) (fun vs H Q E q => ?_) (fun f cdv A outer s H vs Q E hr q => ?_)
  · obtain ⟨t, u, lo, hi, st, lo', hi', st', rfl, _⟩ := q
    rfl
  · obtain ⟨t, u, lo, hi, st, lo', hi', st', rfl, ht, hu', ok', q⟩ := q
    have nd := sc_parted.nd
    refine ⟨_, (pss_cons (ps_for PassesOwn.never rfl (pi_list (pe_fn Gtelling_numbers (hr.mono (by first | decide | omega)) rfl (pa_c (pv 0) pa_nil))) (pg_name (i := 2) nd rfl (by first | exact Or.inl rfl | exact Or.inr rfl))
        (pss_one (ps_if (pt_not (pt_val (pe_fn Grun_has (hr.mono (by first | decide | omega)) rfl (pa_c (pv 1) (pa_c (pv 2) pa_nil)))))
          (pss_one (ps_ret (pv 2)))
          pss_nil)))
      (pss_one (ps_ret pe_non))), ?_⟩
    refine ⟨_, rfl, t, lo, hi, st, rfl, ht, fun l hl => ?_⟩
    have s1 : Same H (upd H l (.lst [.int lo, .int hi, .int (lo + st)])) := fun b o e => by rw [upd_ne (ne_of_none e hl)]; exact e
    have q' := q _ s1
    refine ⟨l, rfl, ⟨_, SqL.of upd_same⟩, for_list (K := K) (a := l) (xs := [lo, hi, lo + st].map V.int) (fun i σ H1 => H1 = upd H l (.lst [.int lo, .int hi, .int (lo + st)]) ∧ (([lo, hi, lo + st].take i).all fun y => hasR lo' hi' st' y) = true ∧ ∃ v, σ = [some (.ref t), some (.ref u), v])
      ⟨rfl, rfl, none, rfl⟩ (fun i σ H1 _ ⟨e, _⟩ => by rw [e]; exact SqL.of upd_same) ?_ ?_⟩
    · rintro i x σ H1 hx ⟨rfl, ha, v, rfl⟩
      rw [List.getElem?_map] at hx
      cases hzi : [lo, hi, lo + st][i]? with
      | none => rw [hzi] at hx; cases hx
      | some z =>
        rw [hzi] at hx
        have hx : V.int z = x := Option.some.inj hx
        subst hx
        refine ⟨_, rfl, _, rfl, u, lo', hi', st', z, rfl, s1 _ _ hu', ok', ?_⟩
        refine ⟨_, rfl, ?_⟩
        refine ite2 (fun hz => ?_) (fun hz => ?_)
        · have hz : hasR lo' hi' st' z = false := by simpa using hz
          refine ⟨_, rfl, ?_⟩
          have e : partR (lo, hi, st) (lo', hi', st') = some z := by
            unfold partR
            rw [find_step hzi, if_pos (by simpa using ha), if_pos (by simp [hz])]
          rw [e] at q'
          exact q'
        · have hz : hasR lo' hi' st' z = true := by simpa using hz
          refine ⟨rfl, ?_, _, rfl⟩
          rw [List.take_add_one, hzi, List.all_append, ha]
          simp [hz]
    · rintro σ H1 ⟨rfl, ha, v, rfl⟩
      have e : partR (lo, hi, st) (lo', hi', st') = none := by
        rw [part_none]
        simpa using ha
      rw [e] at q'
      exact q'
def spWithin : Sp := fun vs H Q _ => ∃ (t u : Addr) (lo hi st lo' hi' st' : Int), vs = [.ref t, .ref u] ∧ RunAt H t lo hi st ∧ RunAt H u lo' hi' st' ∧ RunOk lo' hi' st' ∧
  ∀ H', Same H H' → Q (.bl (partR (lo, hi, st) (lo', hi', st')).isNone) H'
theorem sc_within : FnScope ["one", "other"] ["one", "other"] (defScope srun_within) := ⟨rfl, rfl, rfl, by decide +kernel, rfl, by decide +kernel, by decide +kernel⟩
theorem optV_none (o : Option Int) : decide (optV o = V.non) = o.isNone := by cases o <;> simp [optV]
theorem g_within (h : Has K mg "run_within" srun_within) (Grun_parted : Good P w K mg base 2 "run_parted" ["one", "other"] spParted) : Good P w K mg base 3 "run_within" ["one", "other"] spWithin := by
  refine h.good sc_within (fun _ _ _ _ _ _ us hl => match us, hl with | [_, _], _ => rfl) (fun vs H Q E q => ?_) (fun f cdv A outer s H vs Q E hr q => ?_)
  · obtain ⟨t, u, lo, hi, st, lo', hi', st', rfl, _⟩ := q
    rfl
  · obtain ⟨t, u, lo, hi, st, lo', hi', st', rfl, ht, hu', ok', q⟩ := q
    have nd := sc_within.nd
    refine ⟨_, (pss_one (ps_ret (pe_cmpR op_isN (pe_fn Grun_parted (hr.mono (by first | decide | omega)) rfl (pa_c (pv 0) (pa_c (pv 1) pa_nil))) pe_non (nomark _)))), ?_⟩
    refine ⟨_, rfl, _, rfl, t, u, lo, hi, st, lo', hi', st', rfl, ht, hu', ok', fun H1 s1 => ?_⟩
    refine ⟨rfl, ?_⟩
    show Q _ _
    rw [optV_none]
    exact q H1 s1
end
open GcdM
/-! ### the greatest divisor; the run of numbers; runs joined -/
abbrev RAt (H : Hp) (t : Addr) (a : R3) : Prop := H t = some (.tup [.int a.1, .int a.2.1, .int a.2.2])
def spDiv : Sp := fun vs H Q _ => ∃ a b : Int, vs = [.int a, .int b] ∧ 0 ≤ a ∧ 0 ≤ b ∧ Q (.int (g a b)) H
def spLDiv : Sp := fun vs H Q _ => ∃ a b : Int, vs = [.int a, .int b] ∧ Q (.int (g a b)) H
section
variable {P : Program} {w : World} {K : PySem.W.Frag} {mg : Str → Option Value} {base : Heap}
theorem sc_div : FnScope ["one", "other", "rest"] ["one", "other"] (defScope sdivisor_of) := ⟨rfl, rfl, rfl, by decide +kernel, rfl, by decide +kernel, by decide +kernel⟩
theorem g_div (h : Has K mg "divisor_of" sdivisor_of) : Good P w K mg base 1 "divisor_of" ["one", "other"] spDiv := by
  refine h.good sc_div (fun _ _ _ _ _ _ us hl => match us, hl with | [_, _], _ => rfl) (fun vs H Q E q => ?_) (fun f cdv A outer s H vs Q E hr q => ?_)
  · obtain ⟨a, b, rfl, _⟩ := q
    rfl
  · obtain ⟨a, b, rfl, ha, hb, q⟩ := q
    have nd := sc_div.nd
    refine ⟨_, (pss_cons (ps_while PassesOwn.never (pt_cmpR op_ne (pv 1) pe_int (nomark _))
        (pss_cons (ps_set (i := 2) nd rfl (by first | exact Or.inl rfl | exact Or.inr rfl) (pe_op op_mod (pv 0) (pv 1)))
        (pss_cons (ps_set (i := 0) nd rfl (by first | exact Or.inl rfl | exact Or.inr rfl) (pv 1))
        (pss_one (ps_set (i := 1) nd rfl (by first | exact Or.inl rfl | exact Or.inr rfl) (pv 2))))))
      (pss_one (ps_ret (pv 0)))), ?_⟩
    refine while_by (fun σ H' => ∃ (x y : Int) (v : Option V), σ = [some (.int x), some (.int y), v] ∧ H' = H ∧ 0 ≤ x ∧ 0 ≤ y ∧ g x y = g a b)
      (fun σ _ => match σ with | [_, some (.int y), _] => y.toNat | _ => 0) ⟨a, b, none, rfl, rfl, ha, hb, rfl⟩ ?_ ?_
    · rintro σ H' ⟨x, y, v, rfl, rfl, hx, hy, e⟩
      refine ⟨_, rfl, rfl, _, rfl, ?_⟩
      refine ite2 (fun h1 => ?_) (fun h1 => ?_)
      · rw [dI] at h1
        have h1 : ¬ y = 0 := by simpa using h1
        have hy' : 0 < y := by omega
        have hm := mod_less (a := x) hy'
        exact ⟨_, rfl, _, rfl, _, _, rfl, rfl, hy', _, rfl, _, rfl, ⟨y, x % y, _, rfl, rfl, hy, hm.1, (g_turn hy').trans e⟩, hm.2⟩
      · rw [dI] at h1
        have h1 : y = 0 := by simpa using h1
        subst h1
        rw [g_zero x hx] at e
        refine ⟨_, rfl, ?_⟩
        rw [e]
        exact q
    · rintro σ H Q Q' hq ⟨v, e, s, b, eb, q⟩
      exact ⟨v, e, s, b, eb, hq _ _ q⟩
end
/-! ### the law's same, for trees of lists and tuples -/
section
variable {P : Program} {w : World} {K : PySem.W.Frag} {mg : Str → Option Value} {base : Heap}
theorem sc_same : FnScope ["_law_one", "_law_other"] ["_law_one", "_law_other"] (defScope s_law_same) := ⟨rfl, rfl, rfl, by decide +kernel, rfl, by decide +kernel, by decide +kernel⟩
theorem g_same0 (h : Has K mg "_law_same" s_law_same) : Good P w K mg base 1 "_law_same" ["_law_one", "_law_other"] (spSameT K 0) := by
  refine h.good sc_same (fun _ _ _ _ _ _ us hl => match us, hl with | [_, _], _ => rfl) (fun vs H Q E q => ?_) (fun f cdv A outer s H vs Q E hr q => ?_)
  · obtain ⟨x, y, T, U, rfl, _⟩ := q
    rfl
  · obtain ⟨x, y, T, U, _, f, _⟩ := q
    exact False.elim f
theorem g_sameS {d : Nat} (h : Has K mg "_law_same" s_law_same) (B : Own mg) (G_law_same : Good P w K mg base (d + 1) "_law_same" ["_law_one", "_law_other"] (spSameT K d)) : Good P w K mg base (d + 2) "_law_same" ["_law_one", "_law_other"] (spSameT K (d + 1)) := by
  refine h.good sc_same (fun _ _ _ _ _ _ us hl => match us, hl with | [_, _], _ => rfl) (fun vs H Q E q => ?_) (fun f cdv A outer s H vs Q E hr q => ?_)
  · obtain ⟨x, y, T, U, rfl, _⟩ := q
    rfl
  · obtain ⟨x, y, T, U, rfl, ax, ay, q⟩ := q
    have nd := sc_same.nd
    refine ⟨_, (pss_cons (ps_if (PW.pt (pw_or (pt_val (pe_callB call_isi_bool rfl B.isinstance boot_isinstance (pa_c (pv 0) (pa_c (pe_bltn (v := .ty "bool") rfl B.bool_ boot_bool rfl) pa_nil)))) (pw_or1 (pt_val (pe_callB call_isi_bool rfl B.isinstance boot_isinstance (pa_c (pv 1) (pa_c (pe_bltn (v := .ty "bool") rfl B.bool_ boot_bool rfl) pa_nil)))))))
        (pss_one (ps_ret (pe_and (pe_callB call_isi_bool rfl B.isinstance boot_isinstance (pa_c (pv 0) (pa_c (pe_bltn (v := .ty "bool") rfl B.bool_ boot_bool rfl) pa_nil))) (pe_and (pe_callB call_isi_bool rfl B.isinstance boot_isinstance (pa_c (pv 1) (pa_c (pe_bltn (v := .ty "bool") rfl B.bool_ boot_bool rfl) pa_nil))) (pe_one (pe_cmpR op_eq (pv 0) (pv 1) (nomark _)))))))
        pss_nil)
      (pss_cons (ps_if (PW.pt (pw_or (pt_val (pe_callB call_isi_lt rfl B.isinstance boot_isinstance (pa_c (pv 0) (pa_c (pe_lt (pe_bltn (v := .ty "list") rfl B.list_ boot_list rfl) (pe_bltn (v := .ty "tuple") rfl B.tuple_ boot_tuple rfl)) pa_nil)))) (pw_or1 (pt_val (pe_callB call_isi_lt rfl B.isinstance boot_isinstance (pa_c (pv 1) (pa_c (pe_lt (pe_bltn (v := .ty "list") rfl B.list_ boot_list rfl) (pe_bltn (v := .ty "tuple") rfl B.tuple_ boot_tuple rfl)) pa_nil)))))))
        (pss_cons (ps_if (PW.pt (pw_or (pt_cmpR op_ne (pe_callB call_isi_list rfl B.isinstance boot_isinstance (pa_c (pv 0) (pa_c (pe_bltn (v := .ty "list") rfl B.list_ boot_list rfl) pa_nil))) (pe_callB call_isi_list rfl B.isinstance boot_isinstance (pa_c (pv 1) (pa_c (pe_bltn (v := .ty "list") rfl B.list_ boot_list rfl) pa_nil))) (nomark _)) (pw_or1 (pt_cmpR op_ne (pe_callB call_isi_tuple rfl B.isinstance boot_isinstance (pa_c (pv 0) (pa_c (pe_bltn (v := .ty "tuple") rfl B.tuple_ boot_tuple rfl) pa_nil))) (pe_callB call_isi_tuple rfl B.isinstance boot_isinstance (pa_c (pv 1) (pa_c (pe_bltn (v := .ty "tuple") rfl B.tuple_ boot_tuple rfl) pa_nil))) (nomark _)))))
          (pss_one (ps_ret pe_bl))
          pss_nil)
        (pss_one (ps_ret (pe_and (pe_cmpR op_eq (pe_callB call_len_seq rfl B.len PySem.boot_len (pa_c (pv 0) pa_nil)) (pe_callB call_len_seq rfl B.len PySem.boot_len (pa_c (pv 1) pa_nil)) (nomark _)) (pe_one (pe_callB (call_allL rfl) rfl B.all boot_all (pa_c (pe_comp (sc := defScope s_law_same) (XN := ["_law_one", "_law_other"]) (N := ["_law_a", "_law_b"]) (own := 2) (fr := []) rfl ⟨rfl, by decide +kernel, by decide +kernel, by decide +kernel, rfl, by decide +kernel, by decide, by decide +kernel⟩ (pi_zip rfl B.zip (pa_c (pv 0) (pa_c (pv 1) pa_nil))) (fun _ _ _ _ _ => (@pg_tupK _ K _ _ _ _ 2 rfl rfl (pgs_cons (pg_name (i := 0) (show (["_law_a", "_law_b"] : List Str).Nodup by decide +kernel) rfl (by first | exact Or.inl rfl | exact Or.inr rfl)) (pgs_cons (pg_name (i := 1) (show (["_law_a", "_law_b"] : List Str).Nodup by decide +kernel) rfl (by first | exact Or.inl rfl | exact Or.inr rfl)) pgs_nil)) rfl rfl)) (fun _ _ _ _ _ => pf_nil) (fun _ _ _ _ _ => (pe_fn G_law_same (hr.mono (by first | decide | omega)) rfl (pa_c (pv 0) (pa_c (pv 1) pa_nil))))) pa_nil)))))))
        pss_nil)
      (pss_cons (ps_if (PW.pt (pw_or (pt_val (pe_callB call_isi_dict rfl B.isinstance boot_isinstance (pa_c (pv 0) (pa_c (pe_bltn (v := .ty "dict") rfl B.dict_ boot_dict rfl) pa_nil)))) (pw_or1 (pt_val (pe_callB call_isi_dict rfl B.isinstance boot_isinstance (pa_c (pv 1) (pa_c (pe_bltn (v := .ty "dict") rfl B.dict_ boot_dict rfl) pa_nil))))))) pss_never
        pss_nil)
      (pss_cons (ps_if (PW.pt (pw_or (pt_cmpR op_ne (pe_callB call_isi_int rfl B.isinstance boot_isinstance (pa_c (pv 0) (pa_c (pe_bltn (v := .ty "int") rfl B.int_ boot_int rfl) pa_nil))) (pe_callB call_isi_int rfl B.isinstance boot_isinstance (pa_c (pv 1) (pa_c (pe_bltn (v := .ty "int") rfl B.int_ boot_int rfl) pa_nil))) (nomark _)) (pw_or1 (pt_cmpR op_ne (pe_callB call_isi_str rfl B.isinstance boot_isinstance (pa_c (pv 0) (pa_c (pe_bltn (v := .ty "str") rfl B.str_ boot_str rfl) pa_nil))) (pe_callB call_isi_str rfl B.isinstance boot_isinstance (pa_c (pv 1) (pa_c (pe_bltn (v := .ty "str") rfl B.str_ boot_str rfl) pa_nil))) (nomark _)))))
        (pss_one (ps_ret pe_bl))
        pss_nil)
      (pss_one (ps_ret (pe_cmpR op_eq (pv 0) (pv 1) (nomark _)))))))), ?_⟩
    have fin : ∀ {b : Bool} {H' : Hp}, Same H H' → decide (T = U) = b → Q (.bl b) H' := fun s' e => by
      have := q _ s'
      rw [e] at this
      exact this
    refine ⟨_, rfl, _, _, rfl, ty_at ax, _, rfl, ?_⟩
    refine ite2 (fun h1 => iteT ?_) (fun h1 => ?_)
    · refine ⟨_, rfl, _, _, rfl, ty_at ax, _, rfl, ?_⟩
      rw [if_pos h1]
      refine ⟨_, rfl, _, _, rfl, ty_at ay, _, rfl, ?_⟩
      refine ite2 (fun h2 => ?_) (fun h2 => ?_)
      · rcases ax with ⟨fx, rfl⟩ | ⟨t, a, xs, Ts, _, _, rfl, _⟩
        · rcases ay with ⟨fy, rfl⟩ | ⟨t, a, xs, Ts, _, _, rfl, _⟩
          · cases x <;> first | exact absurd h1 Bool.false_ne_true | skip
            cases y <;> first | exact absurd h2 Bool.false_ne_true | skip
            exact ⟨_, rfl, _, rfl, rfl, fin (Same.refl H) leaf_eq⟩
          · cases t <;> exact absurd (show false = true from h2) (by decide)
        · cases t <;> exact absurd (show false = true from h1) (by decide)
      · exact fin (Same.refl H) (ty_neT (T := "bool") fun e => h2 (e ▸ h1))
    · refine ⟨_, rfl, _, _, rfl, ty_at ay, _, rfl, ?_⟩
      refine ite2 (fun h2 => ?_) (fun h2 => ?_)
      · refine ⟨_, rfl, _, _, rfl, ty_at ax, _, rfl, ?_⟩
        rw [if_neg h1]
        exact fin (Same.refl H) (ty_neT (T := "bool") fun e => h1 (e ▸ h2))
      · refine ⟨_, rfl, fun p1 n1 => ⟨_, p1, ltT T, rfl, upd_same, lt_at (ax.same (same_new n1)), _, rfl, ?_⟩⟩
        have s1 := (Same.refl H).alloc (o := ltO) n1
        refine ite2 (fun l1 => iteT ?_) (fun l1 => ?_)
        · have sx := s1
          have hlt : ltT T = true ∨ ltT U = true := .inl l1
          refine ⟨_, rfl, _, _, rfl, ty_at (ax.same sx), _, rfl, _, _, rfl, ty_at (ay.same sx), rfl, _, rfl, ?_⟩
          refine ite2 (fun h3 => iteT ?_) (fun h3 => ?_)
          · exact fin sx (ty_neT (T := "list") (by simpa [dB] using h3))
          · refine ⟨_, rfl, _, _, rfl, ty_at (ax.same sx), _, rfl, _, _, rfl, ty_at (ay.same sx), rfl, _, rfl, ?_⟩
            refine ite2 (fun h4 => ?_) (fun h4 => ?_)
            · exact fin sx (ty_neT (T := "tuple") (by simpa [dB] using h4))
            · obtain ⟨t, a, b, xs, ys, Ts, Us, rfl, rfl, qa, qb, rfl, rfl, la, lb, hsz, ha, hb⟩ := two_seqs (ax.same sx) (ay.same sx) hlt (by simpa [dB] using h3) (by simpa [dB] using h4)
              refine ⟨_, rfl, a, xs, rfl, qa.or, _, rfl, b, ys, rfl, qb.or, rfl, _, rfl, ?_⟩
              refine ite2 (fun h5 => ?_) (fun h5 => ?_)
              · have hl : xs.length = ys.length := by
                  have h5 := of_decide_eq_true h5
                  injection h5 with h5
                  exact Int.ofNat.inj h5
                refine ⟨_, rfl, _, rfl, t, a, b, rfl, ⟨_, qa⟩, ⟨_, qb⟩, fun l nl => ?_⟩
                refine comp_zip (K := K) xs.length rfl hl (fun i zs H' => Same _ H' ∧ zs = ((List.range i).map fun k => decide (Ts[k]? = Us[k]?)).map V.bl)
                  ⟨same_new nl, rfl⟩ (fun i zs H' _ _ p => ⟨qa.same p.1, qb.same p.1⟩) ?_ ?_
                · rintro i x y zs H3 p hx hy hz ⟨s3, rfl⟩ np
                  have i1 : i < xs.length := (List.getElem?_eq_some_iff.mp hx).1
                  have i2 : i < Ts.length := by omega
                  have i3 : i < Us.length := by omega
                  refine ⟨p, [x, y], rfl, SqT.of upd_same, rfl, _, _, rfl, _, _, rfl, rfl, ⟨[_, _], rfl, rfl⟩, noIfT ⟨_, rfl, _, rfl, x, y, Ts[i], Us[i], rfl, (ha i x _ hx (List.getElem?_eq_getElem i2)).same (s3.alloc np), (hb i y _ hy (List.getElem?_eq_getElem i3)).same (s3.alloc np), fun H6 s6 => ⟨?_, ?_, ?_, ?_⟩⟩⟩
                  · exact s6 l _ (by rw [upd_ne (ne_of_none hz np)]; exact hz)
                  · simp only [List.length_map, List.length_range]
                    omega
                  · intro c u e
                    rw [upd_ne (ne_of_none e nl)]
                    exact s6 c u ((s3.alloc np) c u e)
                  · have e : decide (Ts[i] = Us[i]) = decide (Ts[i]? = Us[i]?) := by
                      rw [Bool.eq_iff_iff, decide_eq_true_iff, decide_eq_true_iff, List.getElem?_eq_getElem i2, List.getElem?_eq_getElem i3]
                      exact ⟨fun h => by rw [h], fun h => Option.some.inj h⟩
                    rw [List.range_succ, List.map_append, List.map_append, e]
                    rfl
                · rintro zs H3 hz ⟨s3, rfl⟩
                  refine ⟨l, _, rfl, SqL.of hz, fin (sx.trans s3) ?_⟩
                  rw [seq_eq (by omega), la]
              · exact fin sx (decide_eq_false fun e => h5 (by injection e with _ e; subst e; simp [la, lb]))
        · refine ⟨_, rfl, fun p2 n2 => ⟨_, p2, ltT U, rfl, upd_same, lt_at (ay.same (s1.alloc n2)), _, rfl, ?_⟩⟩
          have s2 := s1.alloc (o := ltO) n2
          refine ite2 (fun l2 => ?_) (fun l2 => ?_)
          · have sx := s2
            have hlt : ltT T = true ∨ ltT U = true := .inr l2
            refine ⟨_, rfl, _, _, rfl, ty_at (ax.same sx), _, rfl, _, _, rfl, ty_at (ay.same sx), rfl, _, rfl, ?_⟩
            refine ite2 (fun h3 => iteT ?_) (fun h3 => ?_)
            · exact fin sx (ty_neT (T := "list") (by simpa [dB] using h3))
            · refine ⟨_, rfl, _, _, rfl, ty_at (ax.same sx), _, rfl, _, _, rfl, ty_at (ay.same sx), rfl, _, rfl, ?_⟩
              refine ite2 (fun h4 => ?_) (fun h4 => ?_)
              · exact fin sx (ty_neT (T := "tuple") (by simpa [dB] using h4))
              · obtain ⟨t, a, b, xs, ys, Ts, Us, rfl, rfl, qa, qb, rfl, rfl, la, lb, hsz, ha, hb⟩ := two_seqs (ax.same sx) (ay.same sx) hlt (by simpa [dB] using h3) (by simpa [dB] using h4)
                refine ⟨_, rfl, a, xs, rfl, qa.or, _, rfl, b, ys, rfl, qb.or, rfl, _, rfl, ?_⟩
                refine ite2 (fun h5 => ?_) (fun h5 => ?_)
                · have hl : xs.length = ys.length := by
                    have h5 := of_decide_eq_true h5
                    injection h5 with h5
                    exact Int.ofNat.inj h5
                  refine ⟨_, rfl, _, rfl, t, a, b, rfl, ⟨_, qa⟩, ⟨_, qb⟩, fun l nl => ?_⟩
                  refine comp_zip (K := K) xs.length rfl hl (fun i zs H' => Same _ H' ∧ zs = ((List.range i).map fun k => decide (Ts[k]? = Us[k]?)).map V.bl)
                    ⟨same_new nl, rfl⟩ (fun i zs H' _ _ p => ⟨qa.same p.1, qb.same p.1⟩) ?_ ?_
                  · rintro i x y zs H3 p hx hy hz ⟨s3, rfl⟩ np
                    have i1 : i < xs.length := (List.getElem?_eq_some_iff.mp hx).1
                    have i2 : i < Ts.length := by omega
                    have i3 : i < Us.length := by omega
                    refine ⟨p, [x, y], rfl, SqT.of upd_same, rfl, _, _, rfl, _, _, rfl, rfl, ⟨[_, _], rfl, rfl⟩, noIfT ⟨_, rfl, _, rfl, x, y, Ts[i], Us[i], rfl, (ha i x _ hx (List.getElem?_eq_getElem i2)).same (s3.alloc np), (hb i y _ hy (List.getElem?_eq_getElem i3)).same (s3.alloc np), fun H6 s6 => ⟨?_, ?_, ?_, ?_⟩⟩⟩
                    · exact s6 l _ (by rw [upd_ne (ne_of_none hz np)]; exact hz)
                    · simp only [List.length_map, List.length_range]
                      omega
                    · intro c u e
                      rw [upd_ne (ne_of_none e nl)]
                      exact s6 c u ((s3.alloc np) c u e)
                    · have e : decide (Ts[i] = Us[i]) = decide (Ts[i]? = Us[i]?) := by
                        rw [Bool.eq_iff_iff, decide_eq_true_iff, decide_eq_true_iff, List.getElem?_eq_getElem i2, List.getElem?_eq_getElem i3]
                        exact ⟨fun h => by rw [h], fun h => Option.some.inj h⟩
                      rw [List.range_succ, List.map_append, List.map_append, e]
                      rfl
                  · rintro zs H3 hz ⟨s3, rfl⟩
                    refine ⟨l, _, rfl, SqL.of hz, fin (sx.trans s3) ?_⟩
                    rw [seq_eq (by omega), la]
                · exact fin sx (decide_eq_false fun e => h5 (by injection e with _ e; subst e; simp [la, lb]))
          · rcases ax with ⟨fx, rfl⟩ | ⟨t, a, xs, Ts, _, _, rfl, _⟩
            · rcases ay with ⟨fy, rfl⟩ | ⟨t, a, xs, Ts, _, _, rfl, _⟩
              · have dx : tyB "dict" x = false := by cases x <;> first | rfl | exact absurd fx Bool.false_ne_true
                have dy : tyB "dict" y = false := by cases y <;> first | rfl | exact absurd fy Bool.false_ne_true
                refine ⟨_, rfl, _, _, rfl, ty_flat fx, _, rfl, ?_⟩
                rw [dx]
                refine iteF ⟨_, rfl, _, _, rfl, ty_flat fy, _, rfl, ?_⟩
                rw [dy]
                refine iteF ?_
                refine ⟨_, rfl, _, _, rfl, ty_flat fx, _, rfl, _, _, rfl, ty_flat fy, rfl, _, rfl, ?_⟩
                refine ite2 (fun h3 => iteT ?_) (fun h3 => ?_)
                · exact fin s2 (ty_neT (T := "int") (by show tyB "int" x ≠ tyB "int" y; simpa [dB] using h3))
                · refine ⟨_, rfl, _, _, rfl, ty_flat fx, _, rfl, _, _, rfl, ty_flat fy, rfl, _, rfl, ?_⟩
                  refine ite2 (fun h4 => ?_) (fun h4 => ?_)
                  · exact fin s2 (ty_neT (T := "str") (by show tyB "str" x ≠ tyB "str" y; simpa [dB] using h4))
                  · exact ⟨_, rfl, _, rfl, scal_flat fx fy h1 h2, fin s2 leaf_eq⟩
              · exact absurd rfl l2
            · exact absurd rfl l1
end
open GcdM MetM
/-! ### runs met -/
theorem bigX {j : Int} (h1 : -(10 ^ 200) ≤ j) (h2 : j ≤ 10 ^ 200) : BigOk j := by
  have e : (10 : Int) ^ 200 = ((10 ^ 200 : Nat) : Int) := by decide +kernel
  rw [e] at h1 h2
  have h3 : j.natAbs ≤ 10 ^ 200 := by omega
  exact Nat.lt_of_le_of_lt h3 (by decide +kernel)
theorem BigOk.mono {j k : Int} (h : BigOk k) (h' : j.natAbs ≤ k.natAbs) : BigOk j := Nat.lt_of_le_of_lt h' h
def Sm (a : R3) : Prop := -(10 ^ 80) ≤ a.1 ∧ a.1 ≤ 10 ^ 80 ∧ a.2.2 ≤ 10 ^ 80
def ValO (H : Hp) (v : V) : Option R3 → Prop
  | none => v = .non
  | some r => ∃ t, v = .ref t ∧ RAt H t r
theorem ValO.same {H H' : Hp} {v : V} (s : Same H H') : ∀ {o : Option R3}, ValO H v o → ValO H' v o
  | none, h => h
  | some _, ⟨t, e, h⟩ => ⟨t, e, s _ _ h⟩
section
variable {P : Program} {w : World} {K : PySem.W.Frag} {mg : Str → Option Value} {base : Heap}
def spInv : Sp := fun vs H Q _ => ∃ n M : Int, vs = [.int n, .int M] ∧ 0 < M ∧ BigOk M ∧ g n M = 1 ∧ ∀ r : Int, 0 ≤ r → r < M → M ∣ (r * n - 1) → Q (.int r) H
theorem sc_inv : FnScope ["number", "modulus", "rest", "factor", "last_rest", "last_factor", "quotient", "new_rest", "new_factor"] ["number", "modulus"] (defScope sinverse_of) := ⟨rfl, rfl, rfl, by decide +kernel, rfl, by decide +kernel, by decide +kernel⟩
theorem g_inv (h : Has K mg "inverse_of" sinverse_of) : Good P w K mg base 1 "inverse_of" ["number", "modulus"] spInv := by
  refine h.good sc_inv (fun _ _ _ _ _ _ us hl => match us, hl with | [_, _], _ => rfl) (fun vs H Q E q => ?_) (fun f cdv A outer s H vs Q E hr q => ?_)
  · obtain ⟨n, M, rfl, _⟩ := q
    rfl
  · obtain ⟨n, M, rfl, hM, bM, hg, q⟩ := q
    have nd := sc_inv.nd
    refine ⟨_, (pss_cons (ps_set (i := 2) nd rfl (by first | exact Or.inl rfl | exact Or.inr rfl) (pe_op op_mod (pv 0) (pv 1)))
      (pss_cons (ps_set (i := 3) nd rfl (by first | exact Or.inl rfl | exact Or.inr rfl) pe_int)
      (pss_cons (ps_set (i := 4) nd rfl (by first | exact Or.inl rfl | exact Or.inr rfl) (pv 1))
      (pss_cons (ps_set (i := 5) nd rfl (by first | exact Or.inl rfl | exact Or.inr rfl) pe_int)
      (pss_cons (ps_while PassesOwn.never (pt_cmpR op_ne (pv 2) pe_int (nomark _))
        (pss_cons (ps_set (i := 6) nd rfl (by first | exact Or.inl rfl | exact Or.inr rfl) (pe_op op_fdivL (pv 4) (pv 2)))
        (pss_cons (ps_set (i := 7) nd rfl (by first | exact Or.inl rfl | exact Or.inr rfl) (pe_op op_sub (pv 4) (pe_op op_mulB (pv 6) (pv 2))))
        (pss_cons (ps_set (i := 8) nd rfl (by first | exact Or.inl rfl | exact Or.inr rfl) (pe_op op_sub (pv 5) (pe_op op_mulB (pv 6) (pv 3))))
        (pss_cons (ps_set (i := 4) nd rfl (by first | exact Or.inl rfl | exact Or.inr rfl) (pv 2))
        (pss_cons (ps_set (i := 5) nd rfl (by first | exact Or.inl rfl | exact Or.inr rfl) (pv 3))
        (pss_cons (ps_set (i := 2) nd rfl (by first | exact Or.inl rfl | exact Or.inr rfl) (pv 7))
        (pss_one (ps_set (i := 3) nd rfl (by first | exact Or.inl rfl | exact Or.inr rfl) (pv 8))))))))))
      (pss_one (ps_ret (pe_op op_mod (pv 5) (pv 1))))))))), ?_⟩
    refine ⟨_, rfl, _, rfl, _, _, rfl, rfl, hM, _, rfl, ?_⟩
    refine while_by (fun σ H' => ∃ (r f lr lf : Int) (v6 v7 v8 : Option V), σ = [some (.int n), some (.int M), some (.int r), some (.int f), some (.int lr), some (.int lf), v6, v7, v8] ∧ H' = H ∧ EI n M r f lr lf)
      (fun σ _ => match σ with | [_, _, some (.int r), _, _, _, _, _, _] => r.toNat | _ => 0) ⟨_, _, _, _, none, none, none, rfl, rfl, EI.start hM⟩ ?_ ?_
    · rintro σ H' ⟨r, f, lr, lf, v6, v7, v8, rfl, rfl, e⟩
      refine ⟨_, rfl, rfl, _, rfl, ?_⟩
      have r0 := e.r0
      have lt := e.lt
      have le := e.le
      refine ite2 (fun h1 => ?_) (fun h1 => ?_)
      · rw [dI] at h1
        have h1 : ¬ r = 0 := by simpa using h1
        have hp : 0 < r := by omega
        have q0 : 0 ≤ lr / r := Int.ediv_nonneg (by omega) (by omega)
        have q1 : lr / r ≤ lr := Int.ediv_le_self _ (by omega)
        have br : BigOk r := BigOk.mono bM (by omega)
        have bq : BigOk (lr / r) := BigOk.mono bM (by omega)
        have bf : BigOk f := BigOk.mono bM e.small
        have e' := e.turn h1
        refine ⟨_, rfl, _, rfl, _, _, rfl, rfl, ⟨hp, br⟩, _, rfl, _, rfl, _, rfl, _, _, rfl, rfl, ⟨bq, br⟩, _, _, rfl, rfl, _, rfl, _, rfl, _, rfl, _, _, rfl, rfl, ⟨bq, bf⟩, _, _, rfl, rfl, _, rfl, _, rfl, _, rfl, _, rfl, ⟨_, _, _, _, _, _, _, rfl, rfl, e'⟩, ?_⟩
        show (lr - lr / r * r).toNat < r.toNat
        have l2 := e'.lt
        have l3 := e'.r0
        omega
      · rw [dI] at h1
        have h1 : r = 0 := by simpa using h1
        subst h1
        have hq := e.last hM hg
        exact ⟨_, rfl, _, rfl, _, _, rfl, rfl, hM, q _ (Int.emod_nonneg _ (by omega)) (Int.emod_lt_of_pos _ hM) hq⟩
    · rintro σ H Q Q' hq ⟨v, e, s, b, eb, q⟩
      exact ⟨v, e, s, b, eb, hq _ _ q⟩
def spFirst : Sp := fun vs H Q _ => ∃ (t u : Addr) (a b : R3), vs = [.ref t, .ref u] ∧ RAt H t a ∧ RAt H u b ∧ 0 < a.2.2 ∧ 0 < b.2.2 ∧ Sm a ∧ Sm b ∧
  (MetR a b none → Q .non H) ∧ ∀ m : Int, a.2.2 ∣ (m - a.1) → b.2.2 ∣ (m - b.1) → Q (.int m) H
theorem sc_first : FnScope ["one", "other", "divisor", "gap", "modulus", "places"] ["one", "other"] (defScope sfirst_meeting) := ⟨rfl, rfl, rfl, by decide +kernel, rfl, by decide +kernel, by decide +kernel⟩
theorem g_first (h : Has K mg "first_meeting" sfirst_meeting) (Gdivisor_of : Good P w K mg base 1 "divisor_of" ["one", "other"] spDiv) (Ginverse_of : Good P w K mg base 1 "inverse_of" ["number", "modulus"] spInv) : Good P w K mg base 2 "first_meeting" ["one", "other"] spFirst := by
  refine h.good sc_first (fun _ _ _ _ _ _ us hl => match us, hl with | [_, _], _ => rfl) (fun vs H Q E q => ?_) (fun f cdv A outer s H vs Q E hr q => ?_)
  · obtain ⟨t, u, a, b, rfl, _⟩ := q
    rfl
  · obtain ⟨t, u, a, b, rfl, ht, hu', p, p', sa, sb, q1, q2⟩ := q
    have nd := sc_first.nd
    refine ⟨_, (pss_cons (ps_set (i := 2) nd rfl (by first | exact Or.inl rfl | exact Or.inr rfl) (pe_fn Gdivisor_of (hr.mono (by first | decide | omega)) rfl (pa_c (pe_ix ix_tup (pv 0) pe_int (fun _ _ => rfl)) (pa_c (pe_ix ix_tup (pv 1) pe_int (fun _ _ => rfl)) pa_nil))))
      (pss_cons (ps_set (i := 3) nd rfl (by first | exact Or.inl rfl | exact Or.inr rfl) (pe_op op_sub (pe_ix ix_tup (pv 1) pe_int (fun _ _ => rfl)) (pe_ix ix_tup (pv 0) pe_int (fun _ _ => rfl))))
      (pss_cons (ps_if (pt_cmpR op_ne (pe_op op_mod (pv 3) (pv 2)) pe_int (nomark _))
        (pss_one (ps_ret pe_non))
        pss_nil)
      (pss_cons (ps_set (i := 4) nd rfl (by first | exact Or.inl rfl | exact Or.inr rfl) (pe_op op_fdivL (pe_ix ix_tup (pv 1) pe_int (fun _ _ => rfl)) (pv 2)))
      (pss_cons (ps_set (i := 5) nd rfl (by first | exact Or.inl rfl | exact Or.inr rfl) (pe_op op_mod (pe_op op_mulB (pe_op op_fdivL (pv 3) (pv 2)) (pe_fn Ginverse_of (hr.mono (by first | decide | omega)) rfl (pa_c (pe_op op_fdivL (pe_ix ix_tup (pv 0) pe_int (fun _ _ => rfl)) (pv 2)) (pa_c (pv 4) pa_nil)))) (pv 4)))
      (pss_one (ps_ret (pe_op op_add (pe_ix ix_tup (pv 0) pe_int (fun _ _ => rfl)) (pe_op op_mulB (pv 5) (pe_ix ix_tup (pv 0) pe_int (fun _ _ => rfl))))))))))), ?_⟩
    obtain ⟨sa1, sa2, sa3⟩ := sa
    obtain ⟨sb1, sb2, sb3⟩ := sb
    have hd := g_pos (b := b.2.2) p
    have hd2 : g a.2.2 b.2.2 ≤ a.2.2 := g_le p
    have bd : BigOk (g a.2.2 b.2.2) := bigX (by omega) (by omega)
    have hd3 : 1 ≤ b.2.2 / g a.2.2 b.2.2 := Int.le_ediv_of_mul_le hd (by rw [Int.one_mul]; exact Int.le_of_dvd p' (g_right _ _))
    have hd4 : b.2.2 / g a.2.2 b.2.2 ≤ b.2.2 := Int.ediv_le_self _ (by omega)
    have hM : 0 < b.2.2 / g a.2.2 b.2.2 := by omega
    have bM : BigOk (b.2.2 / g a.2.2 b.2.2) := bigX (by omega) (by omega)
    refine ⟨_, rfl, t, _, _, _, rfl, rfl, SqT.of ht, rfl, _, rfl, u, _, _, _, rfl, rfl, SqT.of hu', rfl, _, _, rfl, by omega, by omega, ?_⟩
    refine ⟨_, rfl, u, _, _, _, rfl, rfl, SqT.of hu', rfl, _, rfl, t, _, _, _, rfl, rfl, SqT.of ht, rfl, _, _, rfl, rfl, ?_⟩
    refine ⟨_, rfl, _, rfl, _, _, rfl, rfl, hd, rfl, _, rfl, ?_⟩
    refine ite2 (fun h1 => ?_) (fun h1 => ?_)
    · rw [dI] at h1
      exact q1 (first_none p (by simpa using h1))
    · rw [dI] at h1
      have h1 : (b.1 - a.1) % g a.2.2 b.2.2 = 0 := by simpa using h1
      have bg : BigOk ((b.1 - a.1) / g a.2.2 b.2.2) := by
        have e := Int.ediv_mul_cancel (Int.dvd_of_emod_eq_zero h1)
        have : ((b.1 - a.1) / g a.2.2 b.2.2).natAbs ≤ (b.1 - a.1).natAbs := by
          rw [← e, Int.natAbs_mul]
          rw [Int.mul_ediv_cancel _ (by omega)]
          exact Nat.le_mul_of_pos_right _ (by omega)
        exact BigOk.mono (bigX (j := b.1 - a.1) (by omega) (by omega)) this
      refine ⟨_, rfl, u, _, _, _, rfl, rfl, SqT.of hu', rfl, _, rfl, _, _, rfl, rfl, ⟨hd, bd⟩, ?_⟩
      refine ⟨_, rfl, _, rfl, _, _, rfl, rfl, ⟨hd, bd⟩, _, rfl, t, _, _, _, rfl, rfl, SqT.of ht, rfl, _, rfl, _, _, rfl, rfl, ⟨hd, bd⟩, _, rfl, _, _, rfl, hM, bM, g_one p, fun i i0 i1 hi => ?_⟩
      have bi : BigOk i := bigX (by omega) (by omega)
      have pl0 := Int.emod_nonneg ((b.1 - a.1) / g a.2.2 b.2.2 * i) (show b.2.2 / g a.2.2 b.2.2 ≠ 0 by omega)
      have pl1 := Int.emod_lt_of_pos ((b.1 - a.1) / g a.2.2 b.2.2 * i) hM
      refine ⟨_, _, rfl, rfl, ⟨bg, bi⟩, _, rfl, _, _, rfl, rfl, hM, ?_⟩
      refine ⟨_, rfl, t, _, _, _, rfl, rfl, SqT.of ht, rfl, _, rfl, _, rfl, t, _, _, _, rfl, rfl, SqT.of ht, rfl, _, _, rfl, rfl, ⟨bigX (by omega) (by omega), bigX (by omega) (by omega)⟩, _, _, rfl, rfl, ?_⟩
      have hk := first_ok p h1 p' hi
      refine q2 _ ?_ ?_
      · rw [show ∀ z : Int, a.1 + z * a.2.2 - a.1 = z * a.2.2 from fun z => by omega]
        exact Int.dvd_mul_left ..
      · rw [show ∀ z : Int, a.1 + z * a.2.2 - b.1 = z * a.2.2 - (b.1 - a.1) from fun z => by omega]
        exact hk
def spMetP : Sp := fun vs H Q _ => ∃ (t u : Addr) (a b : R3), vs = [.ref t, .ref u] ∧ RAt H t a ∧ RAt H u b ∧ 0 < a.2.2 ∧ 0 < b.2.2 ∧ Sm a ∧ Sm b ∧
  ∀ (v : V) (H' : Hp) (o : Option R3), Same H H' → MetR a b o → ValO H' v o → Q v H'
theorem sc_steps : FnScope ["one", "other", "meeting", "step", "lo", "hi"] ["one", "other"] (defScope ssteps_met) := ⟨rfl, rfl, rfl, by decide +kernel, rfl, by decide +kernel, by decide +kernel⟩
theorem g_steps (h : Has K mg "steps_met" ssteps_met) (B : Own mg) (Gdivisor_of : Good P w K mg base 1 "divisor_of" ["one", "other"] spDiv) (Gfirst_meeting : Good P w K mg base 2 "first_meeting" ["one", "other"] spFirst) : Good P w K mg base 3 "steps_met" ["one", "other"] spMetP := by
  refine h.good sc_steps (fun _ _ _ _ _ _ us hl => match us, hl with | [_, _], _ => rfl) (fun vs H Q E q => ?_) (fun f cdv A outer s H vs Q E hr q => ?_)
  · obtain ⟨t, u, a, b, rfl, _⟩ := q
    rfl
  · obtain ⟨t, u, a, b, rfl, ht, hu', p, p', sa, sb, q⟩ := q
    have nd := sc_steps.nd
    refine ⟨_, (pss_cons (ps_set (i := 2) nd rfl (by first | exact Or.inl rfl | exact Or.inr rfl) (pe_fn Gfirst_meeting (hr.mono (by first | decide | omega)) rfl (pa_c (pv 0) (pa_c (pv 1) pa_nil))))
      (pss_cons (ps_if (pt_cmpR op_isN (pv 2) pe_non (nomark _))
        (pss_one (ps_ret pe_non))
        pss_nil)
      (pss_cons (ps_set (i := 3) nd rfl (by first | exact Or.inl rfl | exact Or.inr rfl) (pe_op op_mulB (pe_op op_fdivL (pe_ix ix_tup (pv 0) pe_int (fun _ _ => rfl)) (pe_fn Gdivisor_of (hr.mono (by first | decide | omega)) rfl (pa_c (pe_ix ix_tup (pv 0) pe_int (fun _ _ => rfl)) (pa_c (pe_ix ix_tup (pv 1) pe_int (fun _ _ => rfl)) pa_nil)))) (pe_ix ix_tup (pv 1) pe_int (fun _ _ => rfl))))
      (pss_cons (ps_set (i := 4) nd rfl (by first | exact Or.inl rfl | exact Or.inr rfl) (pe_callB (call_max2 rfl) rfl B.max boot_max (pa_c (pe_ix ix_tup (pv 0) pe_int (fun _ _ => rfl)) (pa_c (pe_ix ix_tup (pv 1) pe_int (fun _ _ => rfl)) pa_nil))))
      (pss_cons (ps_set (i := 5) nd rfl (by first | exact Or.inl rfl | exact Or.inr rfl) (pe_callB (call_min2 rfl) rfl B.min boot_min (pa_c (pe_ix ix_tup (pv 0) pe_int (fun _ _ => rfl)) (pa_c (pe_ix ix_tup (pv 1) pe_int (fun _ _ => rfl)) pa_nil))))
      (pss_cons (ps_set (i := 4) nd rfl (by first | exact Or.inl rfl | exact Or.inr rfl) (pe_op op_add (pv 4) (pe_op op_mod (pe_op op_sub (pv 2) (pv 4)) (pv 3))))
      (pss_cons (ps_if (pt_cmpR op_gt (pv 4) (pv 5) (nomark _))
        (pss_one (ps_ret pe_non))
        pss_nil)
      (pss_cons (ps_set (i := 5) nd rfl (by first | exact Or.inl rfl | exact Or.inr rfl) (pe_op op_sub (pv 5) (pe_op op_mod (pe_op op_sub (pv 5) (pv 2)) (pv 3))))
      (pss_one (ps_ret (@pe_tupQ _ _ _ _ _ (@qa_c _ _ _ _ _ (pv 4) (@qa_c _ _ _ _ _ (pv 5) (@qa_c _ _ _ _ _ (pe_ifExp (pt_cmpR op_lt (pv 4) (pv 5) (nomark _)) (pv 3) pe_int) qa_nil rfl) rfl) rfl)))))))))))), ?_⟩
    refine ⟨_, rfl, _, rfl, t, u, a, b, rfl, ht, hu', p, p', sa, sb, fun hn => ?_, fun m h1 h2 => ?_⟩
    · refine ⟨_, rfl, rfl, _, rfl, ?_⟩
      refine ite2 (fun _ => ?_) (fun h => absurd (decide_eq_true rfl) h)
      exact q .non H none (Same.refl H) hn rfl
    · obtain ⟨sa1, sa2, sa3⟩ := sa
      obtain ⟨sb1, sb2, sb3⟩ := sb
      have hd := g_pos (b := b.2.2) p
      have hd2 : g a.2.2 b.2.2 ≤ a.2.2 := g_le p
      have bd : BigOk (g a.2.2 b.2.2) := bigX (by omega) (by omega)
      have hL := lcm_pos p p'
      have em := end_met p p' h1 h2
      have hd3 : 0 ≤ a.2.2 / g a.2.2 b.2.2 := Int.ediv_nonneg (by omega) (by omega)
      have hd4 : a.2.2 / g a.2.2 b.2.2 ≤ a.2.2 := Int.ediv_le_self _ (by omega)
      refine ⟨_, rfl, rfl, _, rfl, ?_⟩
      refine ite2 (fun h => absurd (of_decide_eq_true h) (by intro z; cases z)) (fun _ => ?_)
      refine ⟨_, rfl, t, _, _, _, rfl, rfl, SqT.of ht, rfl, _, rfl, t, _, _, _, rfl, rfl, SqT.of ht, rfl, _, rfl, u, _, _, _, rfl, rfl, SqT.of hu', rfl, _, _, rfl, by omega, by omega, _, _, rfl, rfl, ⟨hd, bd⟩, _, rfl, u, _, _, _, rfl, rfl, SqT.of hu', rfl, _, _, rfl, rfl, ⟨bigX (by omega) (by omega), bigX (by omega) (by omega)⟩, ?_⟩
      refine ⟨_, rfl, t, _, _, _, rfl, rfl, SqT.of ht, rfl, _, rfl, u, _, _, _, rfl, rfl, SqT.of hu', rfl, _, _, rfl, ?_⟩
      refine ⟨_, rfl, t, _, _, _, rfl, rfl, SqT.of ht, rfl, _, rfl, u, _, _, _, rfl, rfl, SqT.of hu', rfl, _, _, rfl, ?_⟩
      refine ⟨_, rfl, _, rfl, _, rfl, _, _, rfl, rfl, _, rfl, _, _, rfl, rfl, hL, _, _, rfl, rfl, ?_⟩
      refine ⟨_, rfl, _, rfl, _, _, rfl, rfl, _, rfl, ?_⟩
      unfold endR at em
      dsimp only at em
      refine ite2 (fun h3 => ?_) (fun h3 => ?_)
      · have h3 := of_decide_eq_true h3
        rw [if_pos h3] at em
        exact q .non H none (Same.refl H) em rfl
      · have h3 : ¬ _ := fun z => h3 (decide_eq_true z)
        rw [if_neg h3] at em
        refine ⟨_, rfl, _, rfl, _, rfl, _, _, rfl, rfl, _, rfl, _, _, rfl, rfl, hL, _, _, rfl, rfl, ?_⟩
        refine ⟨_, rfl, _, rfl, _, rfl, _, rfl, _, _, rfl, rfl, _, rfl, ?_⟩
        refine ite2 (fun h4 => ?_) (fun h4 => ?_)
        · rw [if_pos (of_decide_eq_true h4)] at em
          exact ⟨_, rfl, by show 3 ≤ sizeLine; decide, fun r nr => q (.ref r) _ _ (same_new nr) em ⟨r, rfl, upd_same⟩⟩
        · rw [if_neg fun z => h4 (decide_eq_true z)] at em
          exact ⟨by show 3 ≤ sizeLine; decide, fun r nr => q (.ref r) _ _ (same_new nr) em ⟨r, rfl, upd_same⟩⟩
def spMet : Sp := fun vs H Q _ => ∃ (t u : Addr) (a b : R3), vs = [.ref t, .ref u] ∧ RAt H t a ∧ RAt H u b ∧ GcdM.Ok a ∧ GcdM.Ok b ∧ Sm a ∧ Sm b ∧
  ∀ (v : V) (H' : Hp) (o : Option R3), Same H H' → MetR a b o → ValO H' v o → Q v H'
theorem sc_met : FnScope ["one", "other"] ["one", "other"] (defScope srun_met) := ⟨rfl, rfl, rfl, by decide +kernel, rfl, by decide +kernel, by decide +kernel⟩
theorem g_met (h : Has K mg "run_met" srun_met) (Grun_has : Good P w K mg base 1 "run_has" ["run", "number"] spHas) (Gsteps_met : Good P w K mg base 3 "steps_met" ["one", "other"] spMetP) : Good P w K mg base 4 "run_met" ["one", "other"] spMet := by
  refine h.good sc_met (fun _ _ _ _ _ _ us hl => match us, hl with | [_, _], _ => rfl) (fun vs H Q E q => ?_) (fun f cdv A outer s H vs Q E hr q => ?_)
  · obtain ⟨t, u, a, b, rfl, _⟩ := q
    rfl
  · obtain ⟨t, u, a, b, rfl, ht, hu', oka, okb, sa, sb, q⟩ := q
    have nd := sc_met.nd
    refine ⟨_, (pss_cons (ps_if (pt_cmpR op_eq (pe_ix ix_tup (pv 0) pe_int (fun _ _ => rfl)) pe_int (nomark _))
        (pss_one (ps_ret (pe_ifExp (pt_val (pe_fn Grun_has (hr.mono (by first | decide | omega)) rfl (pa_c (pv 1) (pa_c (pe_ix ix_tup (pv 0) pe_int (fun _ _ => rfl)) pa_nil)))) (pv 0) pe_non)))
        pss_nil)
      (pss_cons (ps_if (pt_cmpR op_eq (pe_ix ix_tup (pv 1) pe_int (fun _ _ => rfl)) pe_int (nomark _))
        (pss_one (ps_ret (pe_ifExp (pt_val (pe_fn Grun_has (hr.mono (by first | decide | omega)) rfl (pa_c (pv 0) (pa_c (pe_ix ix_tup (pv 1) pe_int (fun _ _ => rfl)) pa_nil)))) (pv 1) pe_non)))
        pss_nil)
      (pss_one (ps_ret (pe_fn Gsteps_met (hr.mono (by first | decide | omega)) rfl (pa_c (pv 0) (pa_c (pv 1) pa_nil))))))), ?_⟩
    refine ⟨_, rfl, t, _, _, _, rfl, rfl, SqT.of ht, rfl, rfl, _, rfl, ?_⟩
    refine ite2 (fun h1 => ?_) (fun h1 => ?_)
    · rw [dI] at h1
      have em := met_one (b := b) oka (of_decide_eq_true h1)
      refine ⟨_, rfl, _, rfl, t, _, _, _, rfl, rfl, SqT.of ht, rfl, u, _, _, _, _, rfl, hu', okb, _, rfl, ?_⟩
      refine ite2 (fun h2 => ?_) (fun h2 => ?_)
      · rw [if_pos h2] at em
        exact ⟨_, rfl, q _ _ _ (Same.refl H) em ⟨t, rfl, ht⟩⟩
      · rw [if_neg h2] at em
        exact q _ _ _ (Same.refl H) em rfl
    · rw [dI] at h1
      have h1 : ¬ a.2.2 = 0 := fun z => h1 (decide_eq_true z)
      refine ⟨_, rfl, u, _, _, _, rfl, rfl, SqT.of hu', rfl, rfl, _, rfl, ?_⟩
      refine ite2 (fun h2 => ?_) (fun h2 => ?_)
      · rw [dI] at h2
        have em := met_one (b := a) okb (of_decide_eq_true h2)
        refine ⟨_, rfl, _, rfl, u, _, _, _, rfl, rfl, SqT.of hu', rfl, t, _, _, _, _, rfl, ht, oka, _, rfl, ?_⟩
        refine ite2 (fun h3 => ?_) (fun h3 => ?_)
        · rw [if_pos h3] at em
          exact ⟨_, rfl, q _ _ _ (Same.refl H) (met_comm em) ⟨u, rfl, hu'⟩⟩
        · rw [if_neg h3] at em
          exact q _ _ _ (Same.refl H) (met_comm em) rfl
      · rw [dI] at h2
        have h2 : ¬ b.2.2 = 0 := fun z => h2 (decide_eq_true z)
        exact ⟨_, rfl, _, rfl, t, u, a, b, rfl, ht, hu', by have := oka.nn; omega, by have := okb.nn; omega, sa, sb, q⟩
end
open RunM GcdM
section
variable {P : Program} {w : World} {K : PySem.W.Frag} {mg : Str → Option Value} {base : Heap}
def spRunOf (K : PySem.W.Frag) : Sp := fun vs H Q _ => ∃ (l : Addr) (ns : List Int), vs = [.ref l] ∧ SqL K H l (ns.map V.int) ∧ 0 < ns.length ∧
  ∀ (m M : Int) (t : Addr), m ∈ ns → (∀ x ∈ ns, m ≤ x) → M ∈ ns → (∀ x ∈ ns, x ≤ M) → H t = none → Q (.ref t) (upd H t (.tup [.int m, .int M, .int (stepOf m ns)]))
theorem sc_runof : FnScope ["numbers", "lo", "step", "number"] ["numbers"] (defScope srun_of) := ⟨rfl, rfl, rfl, by decide +kernel, rfl, by decide +kernel, by decide +kernel⟩
theorem g_runof (h : Has K mg "run_of" srun_of) (B : Own mg) (Gdivisor_of : Good P w K mg base 1 "divisor_of" ["one", "other"] spDiv) : Good P w K mg base 2 "run_of" ["numbers"] (spRunOf K) := by
  refine h.good sc_runof (fun _ _ _ _ _ _ us hl => match us, hl with | [_], _ => rfl) (fun vs H Q E q => ?_) (fun f cdv A outer s H vs Q E hr q => ?_)
  · obtain ⟨l, ns, rfl, _⟩ := q
    rfl
  · obtain ⟨l, ns, rfl, hl, hn, q⟩ := q
    have nd := sc_runof.nd
    refine ⟨_, (pss_cons (ps_if (pt_cmpR op_eq (pe_callB call_len_seq rfl B.len PySem.boot_len (pa_c (pv 0) pa_nil)) pe_int (nomark _)) pss_never
        pss_nil)
      (pss_cons (ps_set (i := 1) nd rfl (by first | exact Or.inl rfl | exact Or.inr rfl) (pe_callB (call_min1 rfl) rfl B.min boot_min (pa_c (pv 0) pa_nil)))
      (pss_cons (ps_set (i := 2) nd rfl (by first | exact Or.inl rfl | exact Or.inr rfl) pe_int)
      (pss_cons (ps_for PassesOwn.never rfl (pi_list (pv 0)) (pg_name (i := 3) nd rfl (by first | exact Or.inl rfl | exact Or.inr rfl))
        (pss_one (ps_set (i := 2) nd rfl (by first | exact Or.inl rfl | exact Or.inr rfl) (pe_fn Gdivisor_of (hr.mono (by first | decide | omega)) rfl (pa_c (pe_op op_sub (pv 3) (pv 1)) (pa_c (pv 2) pa_nil))))))
      (pss_one (ps_ret (@pe_tupQ _ _ _ _ _ (@qa_c _ _ _ _ _ (pv 1) (@qa_c _ _ _ _ _ (pe_callB (call_max1 rfl) rfl B.max boot_max (pa_c (pv 0) pa_nil)) (@qa_c _ _ _ _ _ (pv 2) qa_nil rfl) rfl) rfl)))))))), ?_⟩
    refine ⟨_, rfl, l, _, rfl, .inl hl, rfl, _, rfl, ?_⟩
    refine ite2 (fun h1 => ?_) (fun _ => ?_)
    · exfalso
      have h1 := of_decide_eq_true h1
      injection h1 with h1
      rw [List.length_map] at h1
      omega
    refine ⟨_, rfl, l, ns, rfl, hl, hn, fun m hm hm' => ?_⟩
    refine ⟨_, rfl, l, rfl, ⟨_, hl⟩, for_list (K := K) (a := l) (xs := ns.map V.int) (fun i σ H' => H' = H ∧ ∃ v, σ = [some (.ref l), some (.int m), some (.int (stepOf m (ns.take i))), v])
      ⟨rfl, none, rfl⟩ (fun i σ H' _ ⟨e, _⟩ => by rw [e]; exact hl) ?_ ?_⟩
    · rintro i x σ H' hx ⟨rfl, v, rfl⟩
      rw [List.getElem?_map] at hx
      cases hi : ns[i]? with
      | none => rw [hi] at hx; cases hx
      | some n =>
        rw [hi] at hx
        have hx : V.int n = x := Option.some.inj hx
        subst hx
        have hle := hm' n (List.mem_of_getElem? hi)
        refine ⟨_, rfl, _, rfl, _, _, rfl, rfl, _, rfl, _, _, rfl, by omega, step_nonneg (Int.le_refl 0), rfl, some (V.int n), ?_⟩
        show _ = [some (V.ref l), some (V.int m), some (V.int (stepOf m (ns.take (i + 1)))), some (V.int n)]
        rw [show stepOf m (ns.take (i + 1)) = g (n - m) (stepOf m (ns.take i)) by
          unfold stepOf
          rw [List.take_add_one, hi, List.foldl_append]
          rfl]
        rfl
    · rintro σ H' ⟨rfl, v, rfl⟩
      rw [show ns.take (ns.map V.int).length = ns by rw [List.length_map, List.take_length]]
      exact ⟨_, rfl, _, rfl, l, ns, rfl, hl, hn, fun M hM hM' => ⟨_, rfl, by show 3 ≤ sizeLine; decide, fun t nt => q m M t hm hm' hM hM' nt⟩⟩
def spJoin : Sp := fun vs H Q _ => ∃ (t u : Addr) (a b : R3), vs = [.ref t, .ref u] ∧ RAt H t a ∧ RAt H u b ∧ Ok a ∧ Ok b ∧ ∀ (r : Addr) (H' : Hp), H r = none → Same H H' → RAt H' r (joinR a b) → Q (.ref r) H'
theorem sc_joined : FnScope ["one", "other"] ["one", "other"] (defScope srun_joined) := ⟨rfl, rfl, rfl, by decide +kernel, rfl, by decide +kernel, by decide +kernel⟩
theorem g_joined (h : Has K mg "run_joined" srun_joined) (Gtelling_numbers : Good P w K mg base 1 "telling_numbers" ["run"] spTell) (Grun_of : Good P w K mg base 2 "run_of" ["numbers"] (spRunOf K)) : Good P w K mg base 3 "run_joined" ["one", "other"] spJoin := by
  refine h.good sc_joined (fun _ _ _ _ _ _ us hl => match us, hl with | [_, _], _ => rfl) (fun vs H Q E q => ?_) (fun f cdv A outer s H vs Q E hr q => ?_)
  · obtain ⟨t, u, a, b, rfl, _⟩ := q
    rfl
  · obtain ⟨t, u, a, b, rfl, ht, hu', oka, okb, q⟩ := q
    have nd := sc_joined.nd
    refine ⟨_, (pss_one (ps_ret (pe_fn Grun_of (hr.mono (by first | decide | omega)) rfl (pa_c (pe_op op_cat (pe_fn Gtelling_numbers (hr.mono (by first | decide | omega)) rfl (pa_c (pv 0) pa_nil)) (pe_fn Gtelling_numbers (hr.mono (by first | decide | omega)) rfl (pa_c (pv 1) pa_nil))) pa_nil)))), ?_⟩
    refine ⟨_, rfl, t, a.1, a.2.1, a.2.2, rfl, ht, fun l1 n1 => ?_⟩
    have s1 := (Same.refl H).alloc (o := .lst [.int a.1, .int a.2.1, .int (a.1 + a.2.2)]) n1
    refine ⟨_, rfl, u, b.1, b.2.1, b.2.2, rfl, s1 _ _ hu', fun l2 n2 => ?_⟩
    have s2 := s1.alloc (o := .lst [.int b.1, .int b.2.1, .int (b.1 + b.2.2)]) n2
    refine ⟨l1, l2, _, _, rfl, rfl, by rw [upd_ne (ne_of_none upd_same n2)]; exact upd_same, upd_same, by show 6 ≤ sizeLine; decide, fun l3 n3 => ?_⟩
    have s3 := s2.alloc (o := .lst ([.int a.1, .int a.2.1, .int (a.1 + a.2.2)] ++ [.int b.1, .int b.2.1, .int (b.1 + b.2.2)])) n3
    refine ⟨l3, [a.1, a.2.1, a.1 + a.2.2, b.1, b.2.1, b.1 + b.2.2], rfl, SqL.of upd_same, by show 0 < 6; decide, fun m M r hm hm' hM hM' nr => ?_⟩
    have e := joined_is oka okb hm hm' hM hM'
    refine q r _ (s3.free nr) (s3.alloc nr) ?_
    rw [← e]
    exact upd_same
end
/-! ### what the laws on runs share -/
open RunM GcdM
theorem _root_.L2.RunD.ok {lo hi st : Int} (r : RunD lo hi st) : RunOk lo hi st ∧ st ≤ 10 ^ 20 := by
  obtain ⟨s, n, s1, s2, n1, n2, e1, e2⟩ := r.ex
  subst e1 e2
  exact ⟨drawn s1 n1, Int.le_trans (drawn_le s1 n1).1 s2⟩
theorem take_step {α : Type} {xs : List α} {i : Nat} {x : α} (p : α → Bool) (h : xs[i]? = some x) : (xs.take (i + 1)).filter p = (xs.take i).filter p ++ (if p x = true then [x] else []) := by
  rw [List.take_add_one, h, List.filter_append]
  cases hp : p x <;> simp [hp]
def spLaw (K : PySem.W.Frag) : Sp := fun vs H Q _ => ∃ (a : Addr) (ns : List Int), vs = [.ref a] ∧ SqL K H a (ns.map V.int) ∧ ns.length ≤ 63 ∧ ∀ H', Q (.bl true) H'
theorem _root_.L2.On.lst {p c : Addr} {H H1 : Hp} (x : On p c H H1) {l : Addr} {xs : List V} (h : H l = some (.lst xs)) (hp : l ≠ p) (hc : l ≠ c) : H1 l = some (.lst xs) := x.e l _ h hp hc
theorem _root_.L2.Same.on {p c : Addr} {H H1 H2 : Hp} (x : On p c H H1) (s : Same H1 H2) : On p c H H2 := by
  obtain ⟨⟨ne, ⟨S, k, e⟩, ns, e', l⟩, k2⟩ := x
  exact ⟨⟨ne, ⟨S, k, s _ _ e⟩, ns, s _ _ e', l⟩, fun b o h hp hc => s _ _ (k2 b o h hp hc)⟩
/-- a run as the law's same sees it -/
def trR (a : R3) : Tr := .seq true [.leaf (.int a.1), .leaf (.int a.2.1), .leaf (.int a.2.2)]
theorem at_run {K : PySem.W.Frag} {H : Hp} {t : Addr} {a : R3} (h : RAt H t a) : AtD K H 2 (.ref t) (trR a) := by
  refine .inr ⟨true, t, _, _, rfl, SqT.of h, rfl, rfl, by show 3 ≤ sizeLine; decide, fun i x T h1 h2 => ?_⟩
  match i, h1, h2 with
  | 0, h1, h2 => cases h1; cases h2; exact .inl ⟨rfl, rfl⟩
  | 1, h1, h2 => cases h1; cases h2; exact .inl ⟨rfl, rfl⟩
  | 2, h1, h2 => cases h1; cases h2; exact .inl ⟨rfl, rfl⟩
theorem at_new {H : Hp} {a : Addr} {o : HO} (_ : H a = none) : upd H a o a = some o := upd_same
/-! ### numbers drawn, and cut -/
open RunM GcdM MetM CutM
theorem share {J : Hp → Prop} {G : Prop} (B : Hp → Prop) (main : (∀ H, J H → B H) → G) (rest : ∀ H, J H → B H) : G := main rest
theorem _root_.L2.On.putN {p c a : Addr} {H H1 : Hp} {o : HO} (x : On p c H H1) (d : DeckAt H p c) (h : H a = none) : On p c H (upd H1 a o) := by
  have hp := d.nep h
  have hc := d.nec h
  obtain ⟨⟨ne, ⟨S, k, e⟩, ns, e', l⟩, k2⟩ := x
  exact ⟨⟨ne, ⟨S, k, by rw [upd_ne hp.symm]; exact e⟩, ns, by rw [upd_ne hc.symm]; exact e', l⟩, fun b u q hp hc => by rw [upd_ne (ne_of_none q h)]; exact k2 b u q hp hc⟩
theorem cut_from {ns : List Int} {k : Int} (h0 : 0 ≤ k) (h1 : k ≤ ns.length) : cutV (ns.map V.int) (some k) none = (ns.drop k.toNat).map V.int := by
  unfold cutV
  have e1 : HT.sIx (ns.map V.int).length 0 (some k) = k.toNat := by
    show (if k < 0 then _ else min k.toNat (ns.map V.int).length) = _
    rw [if_neg (by omega), List.length_map]
    omega
  rw [e1, show HT.sIx (ns.map V.int).length (ns.map V.int).length none = (ns.map V.int).length from rfl, List.map_drop, List.take_of_length_le]
  rw [List.length_drop]
  omega
theorem cut_to {ns : List Int} {k : Int} (h0 : 0 ≤ k) (h1 : k ≤ ns.length) : cutV (ns.map V.int) none (some k) = (ns.take k.toNat).map V.int := by
  unfold cutV
  have e1 : HT.sIx (ns.map V.int).length (ns.map V.int).length (some k) = k.toNat := by
    show (if k < 0 then _ else min k.toNat (ns.map V.int).length) = _
    rw [if_neg (by omega), List.length_map]
    omega
  rw [e1, show HT.sIx (ns.map V.int).length 0 none = 0 from rfl, List.drop_zero, Nat.sub_zero, List.map_take]
theorem cut_mid {ns : List Int} {i j : Int} (h0 : 0 ≤ i) (h1 : i ≤ j) (h2 : j ≤ ns.length) : cutV (ns.map V.int) (some i) (some j) = ((ns.drop i.toNat).take (j.toNat - i.toNat)).map V.int := by
  unfold cutV
  have e1 : HT.sIx (ns.map V.int).length (ns.map V.int).length (some j) = j.toNat := by
    show (if j < 0 then _ else min j.toNat (ns.map V.int).length) = _
    rw [if_neg (by omega), List.length_map]
    omega
  have e2 : HT.sIx (ns.map V.int).length 0 (some i) = i.toNat := by
    show (if i < 0 then _ else min i.toNat (ns.map V.int).length) = _
    rw [if_neg (by omega), List.length_map]
    omega
  rw [e1, e2, List.map_take, List.map_drop]
theorem four_parts {ns : List Int} {a b c : Nat} (h1 : a ≤ b) (h2 : b ≤ c) (x : Int) : x ∈ ns ↔ x ∈ ns.take a ∨ x ∈ (ns.drop a).take (b - a) ∨ x ∈ (ns.drop b).take (c - b) ∨ x ∈ ns.drop c := by
  have e : ns = ns.take a ++ ((ns.drop a).take (b - a) ++ ((ns.drop b).take (c - b) ++ ns.drop c)) := by
    have e1 : (ns.drop b).take (c - b) ++ ns.drop c = ns.drop b := by
      have := List.take_append_drop (c - b) (ns.drop b)
      rw [List.drop_drop, show b + (c - b) = c by omega] at this
      exact this
    have e2 : (ns.drop a).take (b - a) ++ ns.drop b = ns.drop a := by
      have := List.take_append_drop (b - a) (ns.drop a)
      rw [List.drop_drop, show a + (b - a) = b by omega] at this
      exact this
    rw [e1, e2, List.take_append_drop]
  conv => lhs; rw [e]
  simp only [List.mem_append]
section
variable {P : Program} {w : World} {K : PySem.W.Frag} {mg : Str → Option Value} {base : Heap}
def Num (n : Int) : Prop := -(10 ^ 60) ≤ n ∧ n ≤ 10 ^ 60
def spNums : Sp := fun vs H Q _ => ∃ (p c : Addr), vs = [.ref p] ∧ DeckAt H p c ∧ ∀ (l : Addr) (ns : List Int) (H' : Hp), l ≠ p → l ≠ c → H' l = some (.lst (ns.map V.int)) → 0 < ns.length → ns.length ≤ 24 → (∀ n ∈ ns, Num n) → On p c H H' → Q (.ref l) H'
theorem sc_nums : FnScope ["_law_deck_here", "_law_run_here", "_law_way", "_law_found", "_law_k"] ["_law_deck_here"] (defScope s_law_numbers) := ⟨rfl, rfl, rfl, by decide +kernel, rfl, by decide +kernel, by decide +kernel⟩
theorem g_nums (h : Has K mg "_law_numbers" s_law_numbers) (B : Own mg) (G_law_take : Good P w K mg base 2 "_law_take" ["_law_deck_here", "_law_most"] spTake) (G_law_far : Good P w K mg base 3 "_law_far" ["_law_deck_here"] spFar) (G_law_run : Good P w K mg base 4 "_law_run" ["_law_deck_here"] spRun) :
    Good P w K mg base 5 "_law_numbers" ["_law_deck_here"] spNums := by
  refine h.good sc_nums (fun _ _ _ _ _ _ us hl => match us, hl with | [_], _ => rfl) (fun vs H Q E q => ?_) (fun f cdv A outer s H vs Q E hr q => ?_)
  · obtain ⟨p, c, rfl, _⟩ := q
    rfl
  · obtain ⟨p, c, rfl, d, q⟩ := q
    have nd := sc_nums.nd
    refine ⟨_, (pss_cons (ps_set (i := 1) nd rfl (by first | exact Or.inl rfl | exact Or.inr rfl) (pe_fn G_law_run (hr.mono (by first | decide | omega)) rfl (pa_c (pv 0) pa_nil)))
      (pss_cons (ps_set (i := 2) nd rfl (by first | exact Or.inl rfl | exact Or.inr rfl) (pe_fn G_law_take (hr.mono (by first | decide | omega)) rfl (pa_c (pv 0) (pa_c pe_int pa_nil))))
      (pss_cons (ps_set (i := 3) nd rfl (by first | exact Or.inl rfl | exact Or.inr rfl) (@pe_lstQ _ _ _ _ qa_nil))
      (pss_cons (ps_for PassesOwn.never rfl (pi_range1 rfl B.range (pa_c (pe_op op_add pe_int (pe_fn G_law_take (hr.mono (by first | decide | omega)) rfl (pa_c (pv 0) (pa_c pe_int pa_nil)))) pa_nil)) (pg_name (i := 4) nd rfl (by first | exact Or.inl rfl | exact Or.inr rfl))
        (pss_one (ps_if (pt_cmpR op_eq (pv 2) pe_int (nomark _))
          (pss_one (ps_expr (pe_bm PySem.F.plainAttrs_list PySem.F.slot_list_append PySem.F.type_list_append mt_append (pv 3) (pa_c (pe_op op_fdiv (pe_fn G_law_far (hr.mono (by first | decide | omega)) rfl (pa_c (pv 0) pa_nil)) pe_int) pa_nil))))
          (pss_one (ps_if (pt_cmpR op_eq (pv 2) pe_int (nomark _))
            (pss_one (ps_expr (pe_bm PySem.F.plainAttrs_list PySem.F.slot_list_append PySem.F.type_list_append mt_append (pv 3) (pa_c (pe_op op_sub (pe_fn G_law_take (hr.mono (by first | decide | omega)) rfl (pa_c (pv 0) (pa_c pe_int pa_nil))) pe_int) pa_nil))))
            (pss_one (ps_expr (pe_bm PySem.F.plainAttrs_list PySem.F.slot_list_append PySem.F.type_list_append mt_append (pv 3) (pa_c (pe_op op_add (pe_ix ix_tup (pv 1) pe_int (fun _ _ => rfl)) (pe_op op_mul (pe_ix ix_tup (pv 1) pe_int (fun _ _ => rfl)) (pe_fn G_law_take (hr.mono (by first | decide | omega)) rfl (pa_c (pv 0) (pa_c pe_int pa_nil))))) pa_nil)))))))))
      (pss_one (ps_ret (pv 3))))))), ?_⟩
    refine ⟨_, rfl, p, c, rfl, d, fun t lo hi st H1 _ ht r1 o1 => ?_⟩
    refine ⟨_, rfl, p, c, _, rfl, o1.d, by decide, big (by decide) (by decide), fun way H2 _ _ o2 => ?_⟩
    have ht2 : RAt H2 t (lo, hi, st) := o2.tup o1.d ht
    have lo1 := r1.lo1
    have lo2 := r1.lo2
    have st1 := r1.ok.1.nn
    have st2 := r1.ok.2
    refine ⟨Nat.zero_le _, fun l nl => ?_⟩
    have lp := o2.d.nep nl
    have lc := o2.d.nec nl
    have o3 := o2.d.on.alloc (o := .lst []) nl
    refine ⟨_, rfl, p, c, _, rfl, o3.d, by decide, big (by decide) (by decide), fun r H3 r0 r24 o4 => ?_⟩
    refine ⟨_, _, rfl, rfl, 1 + r, rfl, by omega, by omega, ?_⟩
    have ol := o3.trans o4
    have hl3 : H3 l = some (.lst []) := o4.lst (at_new nl) lp lc
    refine for_range (n := (1 + r).toNat) (fun i σ H5 => On p c H2 H5 ∧ ∃ (ns : List Int) (v : Option V), H5 l = some (.lst (ns.map V.int)) ∧ ns.length = i ∧ (∀ n ∈ ns, Num n) ∧ σ = [some (.ref p), some (.ref t), some (.int way), some (.ref l), v])
      ⟨ol, [], none, hl3, rfl, (fun n hn => nomatch hn), rfl⟩ ?_ ?_
    · rintro i σ H5 hik ⟨o5, ns, v, hl5, hlen, hns, rfl⟩
      have fin : ∀ (n : Int) (H6 : Hp), Num n → On p c H5 H6 → H6 l = some (.lst (ns.map V.int)) → On p c H2 (upd H6 l (.lst (ns.map V.int ++ [V.int n]))) ∧ ∃ (ns' : List Int) (v : Option V), upd H6 l (.lst (ns.map V.int ++ [V.int n])) l = some (.lst (ns'.map V.int)) ∧ ns'.length = i + 1 ∧ (∀ n ∈ ns', Num n) ∧ [some (V.ref p), some (.ref t), some (.int way), some (.ref l), some (V.int (0 + (i : Int)))] = [some (V.ref p), some (.ref t), some (.int way), some (.ref l), v] := fun n H6 hn o6 h6 => by
        refine ⟨(o5.trans o6).putN o2.d nl, ns ++ [n], _, ?_, ?_, ?_, rfl⟩
        · rw [upd_same, List.map_append]; rfl
        · rw [List.length_append, hlen]; rfl
        · intro m hm
          rcases List.mem_append.mp hm with z | z
          · exact hns m z
          · have : m = n := by simpa using z
            rw [this]; exact hn
      have hsm : (ns.map V.int).length < sizeLine := by rw [List.length_map, hlen]; exact small1000 (by omega)
      refine ⟨_, rfl, rfl, _, rfl, ?_⟩
      refine ite2 (fun _ => ?_) (fun _ => ?_)
      · refine ⟨_, rfl, .inl ⟨rfl, _, SqL.of hl5⟩, _, rfl, p, c, rfl, o5.d, fun r6 H6 a6 b6 o6 => ?_⟩
        have h6 := o6.lst hl5 lp lc
        exact ⟨_, _, rfl, rfl, ⟨by decide, by decide⟩, l, _, _, rfl, rfl, h6, hsm, fin _ H6 ⟨by omega, by omega⟩ o6 h6⟩
      · refine ⟨_, rfl, rfl, _, rfl, ?_⟩
        refine ite2 (fun _ => ?_) (fun _ => ?_)
        · refine ⟨_, rfl, .inl ⟨rfl, _, SqL.of hl5⟩, _, rfl, p, c, _, rfl, o5.d, by decide, big (by decide) (by decide), fun r6 H6 a6 b6 o6 => ?_⟩
          have h6 := o6.lst hl5 lp lc
          exact ⟨_, _, rfl, rfl, l, _, _, rfl, rfl, h6, hsm, fin _ H6 ⟨by omega, by omega⟩ o6 h6⟩
        · have ht5 : RAt H5 t (lo, hi, st) := o5.tup o2.d ht2
          refine ⟨_, rfl, .inl ⟨rfl, _, SqL.of hl5⟩, _, rfl, t, _, _, _, rfl, rfl, SqT.of ht5, rfl, _, rfl, t, _, _, _, rfl, rfl, SqT.of ht5, rfl, _, rfl, p, c, _, rfl, o5.d, by decide, big (by decide) (by decide), fun r6 H6 a6 b6 o6 => ?_⟩
          have h6 := o6.lst hl5 lp lc
          have m0 : 0 ≤ st * r6 := Int.mul_nonneg st1 a6
          have m1 : st * r6 ≤ 10 ^ 20 * r6 := Int.mul_le_mul_of_nonneg_right st2 a6
          exact ⟨_, _, rfl, rfl, .inr ⟨by omega, by omega⟩, _, _, rfl, rfl, l, _, _, rfl, rfl, h6, hsm, fin _ H6 ⟨by show _ ≤ lo + st * r6; omega, by show lo + st * r6 ≤ _; omega⟩ o6 h6⟩
    · rintro σ H5 ⟨o5, ns, v, hl5, hlen, hns, rfl⟩
      exact ⟨_, rfl, q l ns H5 lp lc hl5 (by omega) (by omega) hns ((o1.trans o2).trans o5)⟩
/-- parts of numbers: each at its own place -/
def PartsAt (H : Hp) (ps : List (Addr × List Int)) : Prop := ∀ q ∈ ps, H q.1 = some (.lst (q.2.map V.int)) ∧ q.2 ≠ [] ∧ q.2.length ≤ 24
def spCut (K : PySem.W.Frag) : Sp := fun vs H Q _ => ∃ (p c l : Addr) (ns : List Int), vs = [.ref p, .ref l] ∧ DeckAt H p c ∧ l ≠ p ∧ l ≠ c ∧ H l = some (.lst (ns.map V.int)) ∧ 0 < ns.length ∧ ns.length ≤ 24 ∧
  ∀ (r : Addr) (ps : List (Addr × List Int)) (H' : Hp), r ≠ p → r ≠ c → H' r = some (.lst (ps.map fun q => V.ref q.1)) → ps.length ≤ 4 → PartsAt H' ps → (∀ n, n ∈ ns ↔ ∃ q ∈ ps, n ∈ q.2) → On p c H H' → Q (.ref r) H'
theorem sc_cut : FnScope ["_law_deck_here", "_law_numbers_here", "_law_turn", "_law_places", "_law_parts"] ["_law_deck_here", "_law_numbers_here"] (defScope s_law_cut) := ⟨rfl, rfl, rfl, by decide +kernel, rfl, by decide +kernel, by decide +kernel⟩
theorem three_of {ys : List V} {P : Int → Prop} (hl : ys.length = 3) (h : ∀ y ∈ ys, ∃ n, y = .int n ∧ P n) : ∃ ns : List Int, ys = ns.map V.int ∧ ns.length = 3 ∧ ∀ n ∈ ns, P n := by
  match ys, hl with
  | [x, y, z], _ =>
    obtain ⟨a, rfl, pa⟩ := h x (by simp)
    obtain ⟨b, rfl, pb⟩ := h y (by simp)
    obtain ⟨c, rfl, pc⟩ := h z (by simp)
    exact ⟨[a, b, c], rfl, rfl, by simp [pa, pb, pc]⟩
theorem g_cut (h : Has K mg "_law_cut" s_law_cut) (B : Own mg) (G_law_take : Good P w K mg base 2 "_law_take" ["_law_deck_here", "_law_most"] spTake) : Good P w K mg base 3 "_law_cut" ["_law_deck_here", "_law_numbers_here"] (spCut K) := by
  refine h.good sc_cut (fun _ _ _ _ _ _ us hl => match us, hl with | [_, _], _ => rfl) (fun vs H Q E q => ?_) (fun f cdv A outer s H vs Q E hr q => ?_)
  · obtain ⟨p, c, l, ns, rfl, _⟩ := q
    rfl
  · obtain ⟨p, c, l, ns, rfl, d, lp, lc, hl, hn0, hn24, q⟩ := q
    have nd := sc_cut.nd
    have hu := Nat.lt_of_succ_lt (hu_of hr)
    refine ⟨_, (pss_cons (ps_set (i := 2) nd rfl (by first | exact Or.inl rfl | exact Or.inr rfl) (pe_fn G_law_take (hr.mono (by first | decide | omega)) rfl (pa_c (pv 0) (pa_c (pe_callB call_len_seq rfl B.len PySem.boot_len (pa_c (pv 1) pa_nil)) pa_nil))))
      (pss_cons (ps_set (i := 1) nd rfl (by first | exact Or.inl rfl | exact Or.inr rfl) (pe_op op_cat (pe_slice sl_list (pv 1) (po_some (pv 2)) po_none) (pe_slice sl_list (pv 1) po_none (po_some (pv 2)))))
      (pss_cons (ps_set (i := 3) nd rfl (by first | exact Or.inl rfl | exact Or.inr rfl) (pe_callB call_sortedI rfl B.sorted boot_sorted (pa_c (pe_comp (sc := defScope s_law_cut) (XN := ["_law_deck_here", "_law_numbers_here", "_law_turn", "_law_places", "_law_parts"]) (N := ["_law_k", "_law_deck_here", "_law_numbers_here"]) (own := 1) (fr := [0, 1]) rfl ⟨rfl, by decide +kernel, by decide +kernel, by decide +kernel, rfl, by decide +kernel, by decide, by decide +kernel⟩ (pi_range1 rfl B.range (pa_c pe_int pa_nil)) (fun _ _ _ _ _ => (pg_name (i := 0) (show (["_law_k", "_law_deck_here", "_law_numbers_here"] : List Str).Nodup by decide +kernel) rfl (by first | exact Or.inl rfl | exact Or.inr rfl))) (fun _ _ _ _ _ => pf_nil) (fun _ _ _ _ _ => (pe_fn G_law_take (hr.mono (by first | decide | omega)) rfl (pa_c (pv 1) (pa_c (pe_op op_add (pe_callB (call_lenK (K := K) rfl) rfl B.len PySem.boot_len (pa_c (pv 2) pa_nil)) pe_int) pa_nil))))) pa_nil)))
      (pss_cons (ps_set (i := 4) nd rfl (by first | exact Or.inl rfl | exact Or.inr rfl) (@pe_lstQ _ _ _ _ (@qa_c _ _ _ _ _ (pe_slice sl_list (pv 1) po_none (po_some (pe_ix ix_list (pv 3) pe_int (fun _ _ => rfl)))) (@qa_c _ _ _ _ _ (pe_slice sl_list (pv 1) (po_some (pe_ix ix_list (pv 3) pe_int (fun _ _ => rfl))) (po_some (pe_ix ix_list (pv 3) pe_int (fun _ _ => rfl)))) (@qa_c _ _ _ _ _ (pe_slice sl_list (pv 1) (po_some (pe_ix ix_list (pv 3) pe_int (fun _ _ => rfl))) (po_some (pe_ix ix_list (pv 3) pe_int (fun _ _ => rfl)))) (@qa_c _ _ _ _ _ (pe_slice sl_list (pv 1) (po_some (pe_ix ix_list (pv 3) pe_int (fun _ _ => rfl))) po_none) qa_nil rfl) rfl) rfl) rfl)))
      (pss_one (ps_ret (pe_comp (sc := defScope s_law_cut) (XN := ["_law_deck_here", "_law_numbers_here", "_law_turn", "_law_places", "_law_parts"]) (N := ["_law_part"]) (own := 1) (fr := []) rfl ⟨rfl, by decide +kernel, by decide +kernel, by decide +kernel, rfl, by decide +kernel, by decide, by decide +kernel⟩ (pi_list (pv 4)) (fun _ _ _ _ _ => (pg_name (i := 0) (show (["_law_part"] : List Str).Nodup by decide +kernel) rfl (by first | exact Or.inl rfl | exact Or.inr rfl))) (fun _ _ _ _ _ => pf_one (pt_cmpR (r := rEqL K true) (op_neL hu) (pv 0) (@pe_lstQ _ _ _ _ qa_nil) (nomark _))) (fun _ _ _ _ _ => (pv 0))))))))), ?_⟩
    -- turn
    have hlm : (ns.map V.int).length = ns.length := List.length_map ..
    refine ⟨_, rfl, _, rfl, l, _, rfl, .inl (SqL.of hl), p, c, _, rfl, d, by rw [hlm]; omega, big (by rw [hlm]; omega) (by rw [hlm]; omega), fun k H1 k0 k1 o1 => ?_⟩
    rw [hlm] at k1
    have hl1 := o1.lst hl lp lc
    refine ⟨_, rfl, _, rfl, _, rfl, l, _, rfl, SqL.of hl1, fun p1 n1 => ?_⟩
    rw [cut_from k0 (by omega)]
    have s1 := same_new (o := .lst ((ns.drop k.toNat).map V.int)) n1
    refine ⟨_, rfl, _, rfl, _, rfl, l, _, rfl, SqL.of (s1 _ _ hl1), fun p2 n2 => ?_⟩
    rw [cut_to k0 (by omega)]
    have s2 := same_new (o := .lst ((ns.take k.toNat).map V.int)) n2
    have hms : ∀ n, n ∈ ns ↔ n ∈ ns.drop k.toNat ++ ns.take k.toNat := fun n => by
      conv => lhs; rw [← List.take_append_drop k.toNat ns]
      simp only [List.mem_append]
      exact Or.comm
    have hml : (ns.drop k.toNat ++ ns.take k.toNat).length = ns.length := by
      rw [List.length_append, List.length_drop, List.length_take]
      omega
    refine ⟨p1, p2, _, _, rfl, rfl, s2 _ _ (at_new n1), at_new n2, ?_, fun p3 n3 => ?_⟩
    · rw [List.length_map, List.length_map, ← List.length_append, hml]
      exact Nat.le_of_lt (small1000 (by omega))
    rw [← List.map_append]
    generalize ns.drop k.toNat ++ ns.take k.toNat = ms at hms hml
    have s3 := same_new (o := .lst (ms.map V.int)) n3
    have s13 := (s1.trans s2).trans s3
    have o3 := Same.on o1 s13
    have hm3 := at_new (o := .lst (ms.map V.int)) n3
    have p3p := (Same.on o1 (s1.trans s2)).d.nep n3
    have p3c := (Same.on o1 (s1.trans s2)).d.nec n3
    clear s1 s2 s3 s13
    -- places
    refine ⟨3, rfl, by decide, by decide, fun a2 na2 => ?_⟩
    have a2p := o3.d.nep na2
    have a2c := o3.d.nec na2
    refine comp_range (lo := 0) (n := 3) (fun i ys H' => On p c _ H' ∧ ys.length = i ∧ ∀ y ∈ ys, ∃ n : Int, y = .int n ∧ 0 ≤ n ∧ n ≤ ms.length) ⟨o3.d.on.alloc na2, rfl, (fun y hy => nomatch hy)⟩ ?_ ?_
    · rintro i ys H7 hi h7a ⟨o7, hl7, hy7⟩
      refine ⟨⟨[_], rfl, rfl⟩, noIfT ?_⟩
      have hm7 := o7.lst hm3 p3p p3c
      refine ⟨_, rfl, _, rfl, p3, _, rfl, .inl (SqL.of hm7), _, _, rfl, rfl, p, c, _, rfl, o7.d, by rw [List.length_map]; omega, big (by rw [List.length_map]; omega) (by rw [List.length_map]; omega), fun r9 H9 a9 b9 o9 => ⟨?_, ?_, ?_, ?_, ?_⟩⟩
      · exact o9.e a2 _ h7a a2p a2c
      · exact small1000 (by omega)
      · exact (o7.trans o9).putN o3.d na2
      · rw [List.length_append, List.length_singleton, hl7]
      · intro y hy
        rcases List.mem_append.mp hy with z | z
        · exact hy7 y z
        · exact ⟨r9, by simpa using z, by omega, by rw [List.length_map] at b9; omega⟩
    rintro ys H5 h5a ⟨o5, hl5, hy5⟩
    obtain ⟨ks, rfl, hk3, hks⟩ := three_of hl5 hy5
    refine ⟨a2, ks, rfl, SqL.of h5a, by omega, fun ks' l6 hp6 hs6 n6 => ?_⟩
    have hm5 := o5.lst hm3 p3p p3c
    have o35 := o3.trans o5
    have hbd : ∀ n ∈ ks', 0 ≤ n ∧ n ≤ (ms.length : Int) := fun n hn => hks n (hp6.mem_iff.mp hn)
    have hl6 := at_new (o := .lst (ks'.map V.int)) n6
    have hm6 := same_new (o := .lst (ks'.map V.int)) n6 _ _ hm5
    have o6 := o35.alloc (o := .lst (ks'.map V.int)) n6
    have hk3' : ks'.length = 3 := by rw [hp6.length_eq, hk3]
    obtain ⟨k1, k2, k3, rfl⟩ : ∃ a b c, ks' = [a, b, c] := match ks', hk3' with | [a, b, c], _ => ⟨a, b, c, rfl⟩
    have g1 := hbd k1 (by simp)
    have g2 := hbd k2 (by simp)
    have g3 := hbd k3 (by simp)
    have g12 : k1 ≤ k2 := List.rel_of_pairwise_cons hs6 (by simp)
    have g23 : k2 ≤ k3 := List.rel_of_pairwise_cons (List.Pairwise.of_cons hs6) (by simp)
    clear hm5 o5 o35 hl5 hy5 hks hp6 hs6 hbd h5a o3 hm3
    -- parts
    refine ⟨_, rfl, _, rfl, l6, _, _, _, rfl, rfl, SqL.of hl6, rfl, _, rfl, p3, _, rfl, SqL.of hm6, fun q1 m1 => ?_⟩
    rw [cut_to g1.1 g1.2]
    have t1 := same_new (o := .lst ((ms.take k1.toNat).map V.int)) m1
    refine ⟨_, rfl, _, rfl, l6, _, _, _, rfl, rfl, SqL.of (t1 _ _ hl6), rfl, _, rfl, _, rfl, l6, _, _, _, rfl, rfl, SqL.of (t1 _ _ hl6), rfl, _, rfl, p3, _, rfl, SqL.of (t1 _ _ hm6), fun q2 m2 => ?_⟩
    rw [cut_mid g1.1 g12 g2.2]
    have t2 := t1.trans (same_new (o := .lst (((ms.drop k1.toNat).take (k2.toNat - k1.toNat)).map V.int)) m2)
    refine ⟨_, rfl, _, rfl, l6, _, _, _, rfl, rfl, SqL.of (t2 _ _ hl6), rfl, _, rfl, _, rfl, l6, _, _, _, rfl, rfl, SqL.of (t2 _ _ hl6), rfl, _, rfl, p3, _, rfl, SqL.of (t2 _ _ hm6), fun q3 m3 => ?_⟩
    rw [cut_mid g2.1 g23 g3.2]
    have t3 := t2.trans (same_new (o := .lst (((ms.drop k2.toNat).take (k3.toNat - k2.toNat)).map V.int)) m3)
    refine ⟨_, rfl, _, rfl, l6, _, _, _, rfl, rfl, SqL.of (t3 _ _ hl6), rfl, _, rfl, p3, _, rfl, SqL.of (t3 _ _ hm6), fun q4 m4 => ?_⟩
    rw [cut_from g3.1 g3.2]
    have t4 := t3.trans (same_new (o := .lst ((ms.drop k3.toNat).map V.int)) m4)
    refine ⟨by show 4 ≤ sizeLine; decide, fun lq nlq => ?_⟩
    have t5 := t4.trans (same_new (o := .lst [.ref q1, .ref q2, .ref q3, .ref q4]) nlq)
    have u5 := same_new (o := .lst [.ref q1, .ref q2, .ref q3, .ref q4]) nlq
    have u4 := same_new (o := .lst ((ms.drop k3.toNat).map V.int)) m4
    have u3 := same_new (o := .lst (((ms.drop k2.toNat).take (k3.toNat - k2.toNat)).map V.int)) m3
    have u2 := same_new (o := .lst (((ms.drop k1.toNat).take (k2.toNat - k1.toNat)).map V.int)) m2
    have w1 := u5 _ _ (u4 _ _ (u3 _ _ (u2 _ _ (at_new (o := .lst ((ms.take k1.toNat).map V.int)) m1))))
    have w2 := u5 _ _ (u4 _ _ (u3 _ _ (at_new (o := .lst (((ms.drop k1.toNat).take (k2.toNat - k1.toNat)).map V.int)) m2)))
    have w3 := u5 _ _ (u4 _ _ (at_new (o := .lst (((ms.drop k2.toNat).take (k3.toNat - k2.toNat)).map V.int)) m3))
    have w4 := u5 _ _ (at_new (o := .lst ((ms.drop k3.toNat).map V.int)) m4)
    have wl := at_new (o := .lst [.ref q1, .ref q2, .ref q3, .ref q4]) nlq
    have oq := Same.on o6 t5
    have hfour := four_parts (ns := ms) (a := k1.toNat) (b := k2.toNat) (c := k3.toNat) (by omega) (by omega)
    have hlen : ∀ {xs : List Int}, (∀ x ∈ xs, True) → xs.length ≤ ms.length → xs.length ≤ 24 := fun _ h => by omega
    have e1 : (ms.take k1.toNat).length ≤ 24 := by rw [List.length_take]; omega
    have e2 : ((ms.drop k1.toNat).take (k2.toNat - k1.toNat)).length ≤ 24 := by rw [List.length_take, List.length_drop]; omega
    have e3 : ((ms.drop k2.toNat).take (k3.toNat - k2.toNat)).length ≤ 24 := by rw [List.length_take, List.length_drop]; omega
    have e4 : (ms.drop k3.toNat).length ≤ 24 := by rw [List.length_drop]; omega
    clear t1 t2 t3 t4 t5 u2 u3 u4 u5 hl6 hm6 o6 hlen
    generalize ms.take k1.toNat = P1 at *
    generalize (ms.drop k1.toNat).take (k2.toNat - k1.toNat) = P2 at *
    generalize (ms.drop k2.toNat).take (k3.toNat - k2.toNat) = P3 at *
    generalize ms.drop k3.toNat = P4 at *
    let pr : List (Addr × List Int) := [(q1, P1), (q2, P2), (q3, P3), (q4, P4)]
    refine ⟨_, rfl, lq, rfl, ⟨_, SqL.of wl⟩, fun a3 na3 => ?_⟩
    have a3p := oq.d.nep na3
    have a3c := oq.d.nec na3
    have wl : _ = some (HO.lst (pr.map fun (q : Addr × List Int) => V.ref q.1)) := wl
    refine comp_list (K := K) (xs := pr.map fun (q : Addr × List Int) => V.ref q.1) (fun i ys H' => Same _ H' ∧ ys = ((pr.take i).filter fun q => !q.2.isEmpty).map fun q => V.ref q.1)
      ⟨same_new na3, rfl⟩ (fun i ys H3 _ _ ⟨e, _⟩ => SqL.of (e _ _ wl)) ?_ ?_
    · rintro i x ys H8 hx h8a ⟨s8, rfl⟩
      rw [List.getElem?_map] at hx
      cases hi' : pr[i]? with
      | none => rw [hi'] at hx; cases hx
      | some z =>
        rw [hi'] at hx
        have hx : V.ref z.1 = x := Option.some.inj hx
        subst hx
        have hz : H8 z.1 = some (.lst (z.2.map V.int)) := by
          have := List.mem_of_getElem? hi'
          simp only [pr, List.mem_cons, List.not_mem_nil, or_false] at this
          rcases this with e | e | e | e <;> subst e
          · exact s8 _ _ w1
          · exact s8 _ _ w2
          · exact s8 _ _ w3
          · exact s8 _ _ w4
        have hts := take_step (fun q : Addr × List Int => !q.2.isEmpty) hi'
        refine ⟨⟨[_], rfl, rfl⟩, _, rfl, Nat.zero_le _, fun le ne => ?_⟩
        have s9 := same_new (o := .lst []) ne
        refine ⟨z.1, le, _, [], rfl, rfl, SqL.of (s9 _ _ hz), SqL.of (at_new ne), flat_ints _, rfl, _, rfl, ?_⟩
        rw [show (if true = true then !eqVs (z.2.map V.int) [] else eqVs (z.2.map V.int) []) = !z.2.isEmpty from by rw [eqVs_nil]; rfl]
        have s89 := s8.trans s9
        refine ite2 (fun h4 => ?_) (fun h4 => ?_)
        · refine ⟨_, rfl, s9 _ _ h8a, ?_, ?_, ?_⟩
          · rw [List.length_map]
            exact Nat.lt_of_le_of_lt (List.length_filter_le _ _) (Nat.lt_of_le_of_lt (List.length_take_le' _ _) (by show 4 < sizeLine; decide))
          · intro b o e
            rw [upd_ne (ne_of_none e na3)]
            exact s89 b o e
          · rw [hts, if_pos h4, List.map_append]
            rfl
        · refine ⟨s9 _ _ h8a, s89, ?_⟩
          rw [hts, if_neg h4, List.append_nil]
    · rintro ys H8 h8a ⟨s8, rfl⟩
      rw [show pr.take (pr.map fun q => V.ref q.1).length = pr from rfl] at h8a
      refine q a3 (pr.filter fun q => !q.2.isEmpty) H8 a3p a3c h8a (Nat.le_trans (List.length_filter_le _ _) (by show 4 ≤ 4; decide)) (fun z hz => ?_) (fun n => ?_) (Same.on oq s8)
      · obtain ⟨h1, h2⟩ := List.mem_filter.mp hz
        have h2 : z.2 ≠ [] := by
          intro e
          rw [e] at h2
          cases h2
        simp only [pr, List.mem_cons, List.not_mem_nil, or_false] at h1
        rcases h1 with e | e | e | e <;> subst e
        · exact ⟨s8 _ _ w1, h2, e1⟩
        · exact ⟨s8 _ _ w2, h2, e2⟩
        · exact ⟨s8 _ _ w3, h2, e3⟩
        · exact ⟨s8 _ _ w4, h2, e4⟩
      · rw [hms n, hfour n]
        have key : ∀ (z : Addr × List Int), z ∈ pr → n ∈ z.2 → ∃ q ∈ pr.filter (fun q => !q.2.isEmpty), n ∈ q.2 := fun z hz hn => ⟨z, List.mem_filter.mpr ⟨hz, by cases h : z.2 with | nil => rw [h] at hn; cases hn | cons _ _ => rfl⟩, hn⟩
        constructor
        · rintro (h | h | h | h)
          · exact key (q1, P1) (by simp [pr]) h
          · exact key (q2, P2) (by simp [pr]) h
          · exact key (q3, P3) (by simp [pr]) h
          · exact key (q4, P4) (by simp [pr]) h
        · rintro ⟨z, hz, hn⟩
          have h1 := (List.mem_filter.mp hz).1
          simp only [pr, List.mem_cons, List.not_mem_nil, or_false] at h1
          rcases h1 with e | e | e | e <;> subst e
          · exact .inl hn
          · exact .inr (.inl hn)
          · exact .inr (.inr (.inl hn))
          · exact .inr (.inr (.inr hn))
end
/-! ### the lattice of runs -/
open RunM GcdM MetM CutM
def V3 (a : R3) : List V := [.int a.1, .int a.2.1, .int a.2.2]
def oV (o : Option R3) : Option (List V) := o.map V3
theorem eqVs_V3 (a b : R3) : eqVs (V3 a) (V3 b) = decide (a = b) := by
  obtain ⟨x, y, z⟩ := a
  obtain ⟨x', y', z'⟩ := b
  show (eqV (.int x) (.int x') && (eqV (.int y) (.int y') && (eqV (.int z) (.int z') && true))) = _
  have e : ∀ i j : Int, eqV (.int i) (.int j) = decide (i = j) := fun i j => by
    by_cases h : i = j
    · subst h; simp [eqV]
    · simp [eqV, h]
  rw [e, e, e]
  by_cases h1 : x = x' <;> by_cases h2 : y = y' <;> by_cases h3 : z = z' <;> simp [h1, h2, h3]
theorem eqO_oV : ∀ o o' : Option R3, eqO (oV o) (oV o') = decide (o = o')
  | none, none => rfl
  | none, some _ => rfl
  | some _, none => rfl
  | some a, some b => by
    show eqVs (V3 a) (V3 b) = _
    rw [eqVs_V3]
    by_cases h : a = b <;> simp [h]
theorem neO_val (o o' : Option R3) : (if true = true then !eqO (oV o) (oV o') else eqO (oV o) (oV o')) = !decide (o = o') := by rw [if_pos rfl, eqO_oV]
theorem eqO_val (o o' : Option R3) : (if false = true then !eqO (oV o) (oV o') else eqO (oV o) (oV o')) = decide (o = o') := by rw [if_neg Bool.false_ne_true, eqO_oV]
theorem ov {K : PySem.W.Frag} {H : Hp} {v : V} : ∀ {o : Option R3}, ValO H v o → OV K H v (oV o)
  | none, h => .inl ⟨h, rfl⟩
  | some a, ⟨t, e, h⟩ => .inr ⟨t, _, e, SqT.of h, rfl, rfl⟩
def Bq (a : R3) : Prop := -(10 ^ 79) ≤ a.1 ∧ a.2.1 ≤ 10 ^ 79
theorem bq_sm {a : R3} (ok : GcdM.Ok a) (h : Bq a) : Sm a := by
  have h1 := h.1
  have h2 := h.2
  have t := tell_le ok
  exact ⟨by omega, by omega, by omega⟩
theorem bq_join {a b : R3} (ha : Bq a) (hb : Bq b) : Bq (joinR a b) := by
  obtain ⟨a1, a2⟩ := ha
  obtain ⟨b1, b2⟩ := hb
  constructor
  · show _ ≤ if b.1 < a.1 then b.1 else a.1
    split <;> omega
  · show (if b.2.1 > a.2.1 then b.2.1 else a.2.1) ≤ _
    split <;> omega
theorem bq_met {a b r : R3} (ha : Bq a) (h : MetR a b (some r)) : Bq r := by
  have h1 := ((h.2 _).mp (mem_lo h.1)).1.1
  have h2 := ((h.2 _).mp (mem_hi h.1)).1.2.1
  obtain ⟨a1, a2⟩ := ha
  exact ⟨by omega, by omega⟩
theorem inner1 {a b : R3} (ha : GcdM.Ok a) (hb : GcdM.Ok b) : (partR a b).isNone = decide (some (joinR a b) = some b) := by
  rw [Bool.eq_iff_iff, Option.isNone_iff_eq_none, part_sub ha, decide_eq_true_iff, Option.some.injEq, join_is ha hb]
theorem inner2 {a b : R3} {o : Option R3} (ha : GcdM.Ok a) (h : MetR a b o) : (partR a b).isNone = decide (o = some a) := by
  rw [Bool.eq_iff_iff, Option.isNone_iff_eq_none, part_sub ha, decide_eq_true_iff, met_is ha h]
section
variable {P : Program} {w : World} {K : PySem.W.Frag} {mg : Str → Option Value} {base : Heap}
def spMet3 : Sp := fun vs H Q _ => ∃ (t u v : Addr) (a b c : R3), vs = [.ref t, .ref u, .ref v] ∧ RAt H t a ∧ RAt H u b ∧ RAt H v c ∧ GcdM.Ok a ∧ GcdM.Ok b ∧ GcdM.Ok c ∧ Bq a ∧ Bq b ∧ Bq c ∧
  ∀ (x : V) (H' : Hp) (o : Option R3), Same H H' → Met3 a b c o → ValO H' x o → Q x H'
theorem sc_met3 : FnScope ["_law_one", "_law_other", "_law_third", "_law_found"] ["_law_one", "_law_other", "_law_third"] (defScope s_law_met_all) := ⟨rfl, rfl, rfl, by decide +kernel, rfl, by decide +kernel, by decide +kernel⟩
theorem g_met3 (h : Has K mg "_law_met_all" s_law_met_all) (Grun_met : Good P w K mg base 4 "run_met" ["one", "other"] spMet) : Good P w K mg base 5 "_law_met_all" ["_law_one", "_law_other", "_law_third"] spMet3 := by
  refine h.good sc_met3 (fun _ _ _ _ _ _ us hl => match us, hl with | [_, _, _], _ => rfl) (fun vs H Q E q => ?_) (fun f cdv A outer s H vs Q E hr q => ?_)
  · obtain ⟨t, u, v, a, b, c, rfl, _⟩ := q
    rfl
  · obtain ⟨t, u, v, a, b, c, rfl, ht, hu', hv, oka, okb, okc, ba, bb, bc, q⟩ := q
    have nd := sc_met3.nd
    refine ⟨_, (pss_cons (ps_set (i := 3) nd rfl (by first | exact Or.inl rfl | exact Or.inr rfl) (pe_fn Grun_met (hr.mono (by first | decide | omega)) rfl (pa_c (pv 0) (pa_c (pv 1) pa_nil))))
      (pss_cons (ps_if (pt_cmpR op_isN (pv 3) pe_non (nomark _))
        (pss_one (ps_ret pe_non))
        pss_nil)
      (pss_one (ps_ret (pe_fn Grun_met (hr.mono (by first | decide | omega)) rfl (pa_c (pv 3) (pa_c (pv 2) pa_nil))))))), ?_⟩
    refine ⟨_, rfl, _, rfl, t, u, a, b, rfl, ht, hu', oka, okb, bq_sm oka ba, bq_sm okb bb, fun x H1 o s1 m1 v1 => ?_⟩
    refine ⟨_, rfl, rfl, _, rfl, ?_⟩
    cases o with
    | none =>
      have v1 : x = .non := v1
      subst v1
      refine ite2 (fun _ => ?_) (fun h => absurd (decide_eq_true rfl) h)
      exact q .non H1 none s1 (met3_none m1) rfl
    | some r =>
      obtain ⟨r', rfl, hr'⟩ := v1
      refine ite2 (fun h => absurd (of_decide_eq_true h) (by intro z; cases z)) (fun _ => ?_)
      exact ⟨_, rfl, _, rfl, r', v, r, c, rfl, hr', s1 _ _ hv, m1.1, okc, bq_sm m1.1 (bq_met ba m1), bq_sm okc bc, fun y H2 o2 s2 m2 v2 => q y H2 o2 (s1.trans s2) (met3_some m1 m2) v2⟩
def spLat : Sp := fun vs H Q _ => ∃ (t u v : Addr) (a b c : R3), vs = [.ref t, .ref u, .ref v] ∧ RAt H t a ∧ RAt H u b ∧ RAt H v c ∧ GcdM.Ok a ∧ GcdM.Ok b ∧ GcdM.Ok c ∧ Bq a ∧ Bq b ∧ Bq c ∧ ∀ H', Same H H' → Q (.bl true) H'
theorem sc_lat : FnScope ["_law_one", "_law_other", "_law_third", "_law_due", "_law_some", "_law_both", "_law_inner"] ["_law_one", "_law_other", "_law_third"] (defScope s_law_lattice) := ⟨rfl, rfl, rfl, by decide +kernel, rfl, by decide +kernel, by decide +kernel⟩
theorem g_lat (h : Has K mg "_law_lattice" s_law_lattice) (Grun_met : Good P w K mg base 4 "run_met" ["one", "other"] spMet) (Grun_joined : Good P w K mg base 3 "run_joined" ["one", "other"] spJoin) (Grun_within : Good P w K mg base 3 "run_within" ["one", "other"] spWithin)
    (G_law_met_all : Good P w K mg base 5 "_law_met_all" ["_law_one", "_law_other", "_law_third"] spMet3) : Good P w K mg base 6 "_law_lattice" ["_law_one", "_law_other", "_law_third"] spLat := by
  refine h.good sc_lat (fun _ _ _ _ _ _ us hl => match us, hl with | [_, _, _], _ => rfl) (fun vs H Q E q => ?_) (fun f cdv A outer s H vs Q E hr q => ?_)
  · obtain ⟨t, u, v, a, b, c, rfl, _⟩ := q
    rfl
  · obtain ⟨t, u, v, a, b, c, rfl, ht, hu', hv, oka, okb, okc, ba, bb, bc, q⟩ := q
    have nd := sc_lat.nd
    have hu := Nat.lt_of_succ_lt (hu_of hr)
    refine ⟨_, (pss_cons (ps_set (i := 3) nd rfl (by first | exact Or.inl rfl | exact Or.inr rfl) (pe_fn Grun_joined (hr.mono (by first | decide | omega)) rfl (pa_c (pe_fn Grun_joined (hr.mono (by first | decide | omega)) rfl (pa_c (pv 0) (pa_c (pv 1) pa_nil))) (pa_c (pv 2) pa_nil))))
      (pss_cons (ps_if (PW.pt (pw_or (pt_cmpR (op_neO hu) (pe_fn Grun_joined (hr.mono (by first | decide | omega)) rfl (pa_c (pv 0) (pa_c (pe_fn Grun_joined (hr.mono (by first | decide | omega)) rfl (pa_c (pv 1) (pa_c (pv 2) pa_nil))) pa_nil))) (pv 3) (nomark _)) (pw_or1 (pt_cmpR (op_neO hu) (pe_fn Grun_joined (hr.mono (by first | decide | omega)) rfl (pa_c (pe_fn Grun_joined (hr.mono (by first | decide | omega)) rfl (pa_c (pv 2) (pa_c (pv 0) pa_nil))) (pa_c (pv 1) pa_nil))) (pv 3) (nomark _)))))
        (pss_one (ps_ret pe_bl))
        pss_nil)
      (pss_cons (ps_set (i := 4) nd rfl (by first | exact Or.inl rfl | exact Or.inr rfl) (@pe_lstQ _ _ _ _ (@qa_c _ _ _ _ _ (pe_fn G_law_met_all (hr.mono (by first | decide | omega)) rfl (pa_c (pv 0) (pa_c (pv 1) (pa_c (pv 2) pa_nil)))) (@qa_c _ _ _ _ _ (pe_fn G_law_met_all (hr.mono (by first | decide | omega)) rfl (pa_c (pv 2) (pa_c (pv 0) (pa_c (pv 1) pa_nil)))) (@qa_c _ _ _ _ _ (pe_fn G_law_met_all (hr.mono (by first | decide | omega)) rfl (pa_c (pv 1) (pa_c (pv 2) (pa_c (pv 0) pa_nil)))) qa_nil rfl) rfl) rfl)))
      (pss_cons (ps_if (PW.pt (pw_or (pt_cmpR (op_neO hu) (pe_ix ix_list (pv 4) pe_int (fun _ _ => rfl)) (pe_ix ix_list (pv 4) pe_int (fun _ _ => rfl)) (nomark _)) (pw_or1 (pt_cmpR (op_neO hu) (pe_ix ix_list (pv 4) pe_int (fun _ _ => rfl)) (pe_ix ix_list (pv 4) pe_int (fun _ _ => rfl)) (nomark _)))))
        (pss_one (ps_ret pe_bl))
        pss_nil)
      (pss_cons (ps_set (i := 5) nd rfl (by first | exact Or.inl rfl | exact Or.inr rfl) (pe_fn Grun_met (hr.mono (by first | decide | omega)) rfl (pa_c (pv 0) (pa_c (pv 1) pa_nil))))
      (pss_cons (ps_if (PW.pt (pw_or (pt_cmpR (op_neO hu) (pe_fn Grun_met (hr.mono (by first | decide | omega)) rfl (pa_c (pv 0) (pa_c (pe_fn Grun_joined (hr.mono (by first | decide | omega)) rfl (pa_c (pv 0) (pa_c (pv 1) pa_nil))) pa_nil))) (pv 0) (nomark _)) (pw_or1 (PW.pt (pw_and (pt_cmpR op_notN (pv 5) pe_non (nomark _)) (pw_and1 (pt_cmpR (op_neO hu) (pe_fn Grun_joined (hr.mono (by first | decide | omega)) rfl (pa_c (pv 5) (pa_c (pv 0) pa_nil))) (pv 0) (nomark _))))))))
        (pss_one (ps_ret pe_bl))
        pss_nil)
      (pss_cons (ps_set (i := 6) nd rfl (by first | exact Or.inl rfl | exact Or.inr rfl) (pe_fn Grun_within (hr.mono (by first | decide | omega)) rfl (pa_c (pv 0) (pa_c (pv 1) pa_nil))))
      (pss_one (ps_ret (pe_and (pe_cmpR op_eq (pv 6) (pe_cmpR (op_eqO hu) (pe_fn Grun_joined (hr.mono (by first | decide | omega)) rfl (pa_c (pv 0) (pa_c (pv 1) pa_nil))) (pv 1) (nomark _)) (nomark _)) (pe_one (pe_cmpR op_eq (pv 6) (pe_cmpR (op_eqO hu) (pv 5) (pv 0) (nomark _)) (nomark _))))))))))))), ?_⟩
    have ojab := join_ok oka okb
    -- due
    refine ⟨_, rfl, _, rfl, t, u, a, b, rfl, ht, hu', oka, okb, fun r1 H1 _ s1 h1 => ⟨_, rfl, r1, v, joinR a b, c, rfl, h1, s1 _ _ hv, ojab, okc, fun r2 H2 _ s2 h2 => ?_⟩⟩
    have z2 := s1.trans s2
    -- joined otherwise
    refine ⟨_, rfl, _, rfl, _, rfl, u, v, b, c, rfl, z2 _ _ hu', z2 _ _ hv, okb, okc, fun r3 H3 _ s3 h3 => ⟨t, r3, a, joinR b c, rfl, s3 _ _ (z2 _ _ ht), h3, oka, join_ok okb okc, fun r4 H4 _ s4 h4 => ?_⟩⟩
    have z4 := (z2.trans s3).trans s4
    refine ⟨_, rfl, oV (some (joinR a (joinR b c))), oV (some (joinR (joinR a b) c)), ov ⟨r4, rfl, h4⟩, ov ⟨r2, rfl, s4 _ _ (s3 _ _ h2)⟩, _, rfl, ?_⟩
    rw [neO_val]
    refine iteNS (by rw [join_assoc oka okb okc]) ?_
    refine ⟨_, rfl, _, rfl, v, t, c, a, rfl, z4 _ _ hv, z4 _ _ ht, okc, oka, fun r5 H5 _ s5 h5 => ⟨_, rfl, r5, u, joinR c a, b, rfl, h5, s5 _ _ (z4 _ _ hu'), join_ok okc oka, okb, fun r6 H6 _ s6 h6 => ?_⟩⟩
    have z6 := (z4.trans s5).trans s6
    refine ⟨_, rfl, oV (some (joinR (joinR c a) b)), oV (some (joinR (joinR a b) c)), ov ⟨r6, rfl, h6⟩, ov ⟨r2, rfl, s6 _ _ (s5 _ _ (s4 _ _ (s3 _ _ h2)))⟩, _, rfl, ?_⟩
    rw [neO_val]
    refine iteNS (by rw [join_turn oka okb okc]) ?_
    clear h1 h2 h3 h4 h5 h6
    -- met
    refine ⟨_, rfl, _, rfl, _, rfl, t, u, v, a, b, c, rfl, z6 _ _ ht, z6 _ _ hu', z6 _ _ hv, oka, okb, okc, ba, bb, bc, fun x7 H7 o7 s7 m7 v7 => ?_⟩
    have z7 := z6.trans s7
    refine ⟨_, rfl, _, rfl, _, rfl, v, t, u, c, a, b, rfl, z7 _ _ hv, z7 _ _ ht, z7 _ _ hu', okc, oka, okb, bc, ba, bb, fun x8 H8 o8 s8 m8 v8 => ?_⟩
    have z8 := z7.trans s8
    refine ⟨_, rfl, _, rfl, _, rfl, u, v, t, b, c, a, rfl, z8 _ _ hu', z8 _ _ hv, z8 _ _ ht, okb, okc, oka, bb, bc, ba, fun x9 H9 o9 s9 m9 v9 => ?_⟩
    have z9 := z8.trans s9
    refine ⟨by show 3 ≤ sizeLine; decide, fun ls nls => ?_⟩
    have s10 := same_new (o := .lst [x7, x8, x9]) nls
    have hls := at_new (o := .lst [x7, x8, x9]) nls
    have z10 := z9.trans s10
    have w7 := v7.same ((s8.trans s9).trans s10)
    have w8 := v8.same (s9.trans s10)
    have w9 := v9.same s10
    have e78 : o7 = o8 := met3_fun (met3_turn m7) m8
    have e89 : o8 = o9 := met3_fun (met3_turn m8) m9
    refine ⟨_, rfl, ls, _, _, _, rfl, rfl, SqL.of hls, rfl, _, rfl, ls, _, _, _, rfl, rfl, SqL.of hls, rfl, oV o7, oV o8, ov w7, ov w8, _, rfl, ?_⟩
    rw [neO_val]
    refine iteNS e78 ?_
    refine ⟨_, rfl, ls, _, _, _, rfl, rfl, SqL.of hls, rfl, _, rfl, ls, _, _, _, rfl, rfl, SqL.of hls, rfl, oV o8, oV o9, ov w8, ov w9, _, rfl, ?_⟩
    rw [neO_val]
    refine iteNS e89 ?_
    clear w7 w8 w9 v7 v8 v9 m7 m8 m9 hls
    -- both
    refine ⟨_, rfl, _, rfl, t, u, a, b, rfl, z10 _ _ ht, z10 _ _ hu', oka, okb, bq_sm oka ba, bq_sm okb bb, fun x11 H11 o11 s11 m11 v11 => ?_⟩
    have z11 := z10.trans s11
    refine ⟨_, rfl, _, rfl, _, rfl, t, u, a, b, rfl, z11 _ _ ht, z11 _ _ hu', oka, okb, fun r12 H12 _ s12 h12 => ⟨t, r12, a, joinR a b, rfl, s12 _ _ (z11 _ _ ht), h12, oka, ojab, bq_sm oka ba, bq_sm ojab (bq_join ba bb), fun x13 H13 o13 s13 m13 v13 => ?_⟩⟩
    have z13 := (z11.trans s12).trans s13
    have v11 := v11.same (s12.trans s13)
    refine ⟨_, rfl, oV o13, oV (some a), ov v13, ov ⟨t, rfl, z13 _ _ ht⟩, _, rfl, ?_⟩
    rw [neO_val]
    refine iteNS (met_fun m13 (met_join oka)) ?_
    refine' share (J := fun H' => Same H13 H') _ (fun rest => ?main) ?rest
    case main =>
      refine ⟨_, rfl, rfl, _, rfl, ?_⟩
      have vv : (x11 = .non) ∨ ∃ r r', o11 = some r ∧ x11 = .ref r' ∧ RAt H13 r' r := by
        cases o11 with
        | none => exact .inl v11
        | some r =>
          obtain ⟨r', e, hr'⟩ := v11
          exact .inr ⟨r, r', rfl, e, hr'⟩
      rcases vv with e | ⟨r, r', e1, e2, hr'⟩
      rotate_left
      · have m11' : MetR a b (some r) := e1 ▸ m11
        refine ite2 (fun _ => ?_) (fun h => absurd (by simp [e2]) h)
        refine ⟨_, rfl, _, rfl, r', t, r, a, by rw [e2]; rfl, hr', z13 _ _ ht, m11'.1, oka, fun r14 H14 _ s14 h14 => ?_⟩
        refine ⟨_, rfl, oV (some (joinR r a)), oV (some a), ov ⟨r14, rfl, h14⟩, ov ⟨t, rfl, s14 _ _ (z13 _ _ ht)⟩, _, rfl, ?_⟩
        rw [neO_val]
        refine iteNS (by rw [met_back oka m11']) ?_
        exact rest H14 s14
      · refine iteNS e ?_
        exact iteF (rest H13 (Same.refl _))
    case rest =>
      intro H14 s14
      have z14 := z13.trans s14
      have v11 := v11.same s14
      refine ⟨_, rfl, _, rfl, t, u, _, _, _, _, _, _, rfl, z14 _ _ ht, z14 _ _ hu', okb, fun H15 s15 => ?_⟩
      have z15 := z14.trans s15
      refine ⟨_, rfl, _, rfl, _, rfl, t, u, a, b, rfl, z15 _ _ ht, z15 _ _ hu', oka, okb, fun r16 H16 _ s16 h16 => ?_⟩
      have z16 := z15.trans s16
      refine ⟨_, rfl, oV (some (joinR a b)), oV (some b), ov ⟨r16, rfl, h16⟩, ov ⟨u, rfl, z16 _ _ hu'⟩, ?_⟩
      rw [eqO_val]
      refine ⟨rfl, _, rfl, ?_⟩
      rw [decide_eq_true (show V.bl (partR (a.1, a.2.1, a.2.2) (b.1, b.2.1, b.2.2)).isNone = V.bl (decide (some (joinR a b) = some b)) from congrArg V.bl (inner1 oka okb))]
      refine iteT ?_
      refine ⟨_, rfl, _, rfl, _, rfl, oV o11, oV (some a), ov (v11.same (s15.trans s16)), ov ⟨t, rfl, z16 _ _ ht⟩, ?_⟩
      rw [eqO_val]
      refine ⟨rfl, ?_⟩
      rw [decide_eq_true (show V.bl (partR (a.1, a.2.1, a.2.2) (b.1, b.2.1, b.2.2)).isNone = V.bl (decide (o11 = some a)) from congrArg V.bl (inner2 oka m11))]
      exact q _ z16
end
/-! ### the law -/
open RunM GcdM MetM CutM
theorem runD_bq {lo hi st : Int} (r : RunD lo hi st) : Bq (lo, hi, st) := by
  have h1 := r.lo1
  have h2 := r.lo2
  obtain ⟨s, n, s1, s2, n1, n2, e1, e2⟩ := r.ex
  have m1 : s * n ≤ 10 ^ 20 * n := Int.mul_le_mul_of_nonneg_right s2 n1
  exact ⟨by show _ ≤ lo; omega, by show hi ≤ _; omega⟩
section
variable {P : Program} {w : World} {K : PySem.W.Frag} {mg : Str → Option Value} {base : Heap}
theorem sc_law : FnScope ["_law_script", "_law_deck_here", "_law_numbers_here", "_law_run_here", "_law_here", "_law_part", "_law_k", "_law_number", "_law_more", "_law_runs"] ["_law_script"] (defScope slaw) := ⟨rfl, rfl, rfl, by decide +kernel, rfl, by decide +kernel, by decide +kernel⟩
theorem ok_law {f : Addr} {fd : FuncData} (F : Fun K "law" "law" slaw f fd) (B : Own mg) (G_law_deck : Good P w K mg base 1 "_law_deck" ["_law_script"] (spDeck K)) (G_law_take : Good P w K mg base 2 "_law_take" ["_law_deck_here", "_law_most"] spTake) (G_law_run : Good P w K mg base 4 "_law_run" ["_law_deck_here"] spRun)
    (G_law_numbers : Good P w K mg base 5 "_law_numbers" ["_law_deck_here"] spNums) (G_law_cut : Good P w K mg base 3 "_law_cut" ["_law_deck_here", "_law_numbers_here"] (spCut K)) (G_law_same : Good P w K mg base 3 "_law_same" ["_law_one", "_law_other"] (spSameT K 2))
    (Grun_of : Good P w K mg base 2 "run_of" ["numbers"] (spRunOf K)) (Grun_has : Good P w K mg base 1 "run_has" ["run", "number"] spHas) (Grun_joined : Good P w K mg base 3 "run_joined" ["one", "other"] spJoin) (Grun_within : Good P w K mg base 3 "run_within" ["one", "other"] spWithin)
    (G_law_lattice : Good P w K mg base 6 "_law_lattice" ["_law_one", "_law_other", "_law_third"] spLat) : FnOk P w K mg base CX0 7 f fd ["_law_script"] (spLaw K) := by
  refine F.ok sc_law (fun vs H Q E q => ?_) (fun cdv A outer s H vs Q E hr q => ?_)
  · obtain ⟨a, ns, rfl, _⟩ := q
    rfl
  · obtain ⟨aa, ns0, rfl, hS, hlen, q⟩ := q
    have nd := sc_law.nd
    have hu := Nat.lt_of_succ_lt (hu_of hr)
    refine ⟨_, (pss_cons (ps_set (i := 1) nd rfl (by first | exact Or.inl rfl | exact Or.inr rfl) (pe_fn G_law_deck (hr.mono (by first | decide | omega)) rfl (pa_c (pv 0) pa_nil)))
      (pss_cons (ps_set (i := 2) nd rfl (by first | exact Or.inl rfl | exact Or.inr rfl) (pe_fn G_law_numbers (hr.mono (by first | decide | omega)) rfl (pa_c (pv 1) pa_nil)))
      (pss_cons (ps_set (i := 3) nd rfl (by first | exact Or.inl rfl | exact Or.inr rfl) (pe_fn Grun_of (hr.mono (by first | decide | omega)) rfl (pa_c (pv 2) pa_nil)))
      (pss_cons (ps_set (i := 4) nd rfl (by first | exact Or.inl rfl | exact Or.inr rfl) pe_non)
      (pss_cons (ps_for PassesOwn.never rfl (pi_list (pe_fn G_law_cut (hr.mono (by first | decide | omega)) rfl (pa_c (pv 1) (pa_c (pe_callTy call_list_of rfl B.list_ boot_list (pa_c (pv 2) pa_nil)) pa_nil)))) (pg_name (i := 5) nd rfl (by first | exact Or.inl rfl | exact Or.inr rfl))
        (pss_one (ps_set (i := 4) nd rfl (by first | exact Or.inl rfl | exact Or.inr rfl) (pe_ifExp (pt_cmpR op_isN (pv 4) pe_non (nomark _)) (pe_fn Grun_of (hr.mono (by first | decide | omega)) rfl (pa_c (pv 5) pa_nil)) (pe_fn Grun_joined (hr.mono (by first | decide | omega)) rfl (pa_c (pv 4) (pa_c (pe_fn Grun_of (hr.mono (by first | decide | omega)) rfl (pa_c (pv 5) pa_nil)) pa_nil)))))))
      (pss_cons (ps_if (pt_not (pt_val (pe_fn G_law_same (hr.mono (by first | decide | omega)) rfl (pa_c (pv 4) (pa_c (pv 3) pa_nil)))))
        (pss_one (ps_ret pe_bl))
        pss_nil)
      (pss_cons (ps_for PassesOwn.never rfl (pi_range1 rfl B.range (pa_c pe_int pa_nil)) (pg_name (i := 6) nd rfl (by first | exact Or.inl rfl | exact Or.inr rfl))
        (pss_cons (ps_set (i := 7) nd rfl (by first | exact Or.inl rfl | exact Or.inr rfl) (pe_op op_add (pe_op op_add (pe_ix ix_tup (pv 3) pe_int (fun _ _ => rfl)) (pe_op op_mul (pe_ix ix_tup (pv 3) pe_int (fun _ _ => rfl)) (pe_op op_sub (pe_fn G_law_take (hr.mono (by first | decide | omega)) rfl (pa_c (pv 1) (pa_c pe_int pa_nil))) pe_int))) (pe_callTy call_int1 rfl B.int_ boot_int (pa_c (pe_cmpR op_eq (pe_fn G_law_take (hr.mono (by first | decide | omega)) rfl (pa_c (pv 1) (pa_c pe_int pa_nil))) pe_int (nomark _)) pa_nil))))
        (pss_cons (ps_set (i := 8) nd rfl (by first | exact Or.inl rfl | exact Or.inr rfl) (pe_fn Grun_of (hr.mono (by first | decide | omega)) rfl (pa_c (pe_op op_cat (pv 2) (@pe_lstQ _ _ _ _ (@qa_c _ _ _ _ _ (pv 7) qa_nil rfl))) pa_nil)))
        (pss_cons (ps_if (PW.pt (pw_or (pt_cmpR op_ne (pe_cmpR (op_eqO hu) (pv 8) (pv 3) (nomark _)) (pe_fn Grun_has (hr.mono (by first | decide | omega)) rfl (pa_c (pv 3) (pa_c (pv 7) pa_nil))) (nomark _)) (pw_or1 (pt_cmpR op_isnotB (pe_fn Grun_within (hr.mono (by first | decide | omega)) rfl (pa_c (pv 3) (pa_c (pv 8) pa_nil))) pe_bl (nomark _)))))
          (pss_one (ps_ret pe_bl))
          pss_nil)
        (pss_one (ps_if (PW.pt (pw_or (pt_cmpR op_ne (pe_fn Grun_within (hr.mono (by first | decide | omega)) rfl (pa_c (pv 8) (pa_c (pv 3) pa_nil))) (pe_cmpR (op_eqO hu) (pv 8) (pv 3) (nomark _)) (nomark _)) (pw_or1 (pt_not (pt_val (pe_fn Grun_has (hr.mono (by first | decide | omega)) rfl (pa_c (pv 8) (pa_c (pv 7) pa_nil))))))))
          (pss_one (ps_ret pe_bl))
          pss_nil))))))
      (pss_cons (ps_set (i := 9) nd rfl (by first | exact Or.inl rfl | exact Or.inr rfl) (@pe_lstQ _ _ _ _ (@qa_c _ _ _ _ _ (pv 3) (@qa_c _ _ _ _ _ (pe_fn G_law_run (hr.mono (by first | decide | omega)) rfl (pa_c (pv 1) pa_nil)) (@qa_c _ _ _ _ _ (@pe_tupQ _ _ _ _ _ (@qa_c _ _ _ _ _ (pe_ix ix_tup (pv 3) pe_int (fun _ _ => rfl)) (@qa_c _ _ _ _ _ (pe_ix ix_tup (pv 3) pe_int (fun _ _ => rfl)) (@qa_c _ _ _ _ _ pe_int qa_nil rfl) rfl) rfl)) (@qa_c _ _ _ _ _ (pe_fn G_law_run (hr.mono (by first | decide | omega)) rfl (pa_c (pv 1) pa_nil)) (@qa_c _ _ _ _ _ (pe_fn G_law_run (hr.mono (by first | decide | omega)) rfl (pa_c (pv 1) pa_nil)) qa_nil rfl) rfl) rfl) rfl) rfl)))
      (pss_cons (ps_for PassesOwn.never rfl (pi_range1 rfl B.range (pa_c pe_int pa_nil)) (pg_name (i := 6) nd rfl (by first | exact Or.inl rfl | exact Or.inr rfl))
        (pss_one (ps_if (pt_not (pt_val (pe_fn G_law_lattice (hr.mono (by first | decide | omega)) rfl (pa_c (pe_ix ix_list (pv 9) (pv 6) (fun _ _ => rfl)) (pa_c (pe_ix ix_list (pv 9) (pe_op op_mod (pe_op op_add (pv 6) pe_int) pe_int) (fun _ _ => rfl)) (pa_c (pe_ix ix_list (pv 9) (pe_op op_mod (pe_op op_add (pv 6) pe_int) pe_int) (fun _ _ => rfl)) pa_nil))))))
          (pss_one (ps_ret pe_bl))
          pss_nil)))
      (pss_one (ps_ret pe_bl))))))))))), ?_⟩
    refine ⟨_, rfl, aa, ns0, rfl, hS, fun p c H1 np nc d1 s1 => ?_⟩
    refine ⟨_, rfl, p, c, rfl, d1, fun l ns H2 lp lc hl hn0 hn24 hnum o2 => ?_⟩
    refine ⟨_, rfl, l, ns, rfl, SqL.of hl, hn0, fun m M t hm hm' hM hM' nt => ?_⟩
    let a : R3 := (m, M, stepOf m ns)
    have ia : IsR (· ∈ ns) a := isR_of hm hm' hM hM'
    have ba : Bq a := ⟨by have := (hnum m hm).1; show _ ≤ m; omega, by have := (hnum M hM).2; show M ≤ _; omega⟩
    have s3 := same_new (o := .tup [.int m, .int M, .int (stepOf m ns)]) nt
    have ht3 : RAt _ t a := at_new (o := .tup [.int m, .int M, .int (stepOf m ns)]) nt
    have hl3 := s3 _ _ hl
    have o3 := Same.on o2 s3
    clear hm hm' hM hM' hl s3 o2 s1 d1
    have oka := ia.ok
    -- the cuts
    refine ⟨_, rfl, _, rfl, l, _, rfl, .inl (SqL.of hl3), fun l2 n2 => ?_⟩
    have s4 := same_new (o := .lst (ns.map V.int)) n2
    have o4 := Same.on o3 s4
    refine ⟨p, c, l2, ns, rfl, o4.d, o3.d.nep n2, o3.d.nec n2, at_new n2, hn0, hn24, fun r ps H5 rp rc hr5 hps hpa hmem o5 => ?_⟩
    have ht5 : RAt H5 t a := o5.tup o4.d (s4 _ _ ht3)
    have hl5 := o5.lst (s4 _ _ hl3) lp lc
    have o45 := o4.trans o5
    clear ht3 hl3 o3 s4 o4 o5 n2 nt
    refine ⟨r, rfl, ⟨_, SqL.of hr5⟩, for_list (K := K) (a := r) (xs := ps.map fun (q : Addr × List Int) => V.ref q.1) (fun i σ H6 => Same H5 H6 ∧ ∃ (x : V) (v5 : Option V), σ = [some (.ref aa), some (.ref p), some (.ref l), some (.ref t), some x, v5, none, none, none, none] ∧
        ((i = 0 ∧ x = .non) ∨ ∃ u b, x = .ref u ∧ RAt H6 u b ∧ IsR (fun n => ∃ q ∈ ps.take i, n ∈ q.2) b))
      ⟨Same.refl _, .non, none, rfl, .inl ⟨rfl, rfl⟩⟩ (fun j σ H6 _ ⟨s6, _⟩ => SqL.of (s6 _ _ hr5)) ?_ ?_⟩
    · rintro i x σ H6 hx ⟨s6, y, v5, rfl, hy⟩
      rw [List.getElem?_map] at hx
      cases hi' : ps[i]? with
      | none => rw [hi'] at hx; cases hx
      | some z =>
        rw [hi'] at hx
        have hx : V.ref z.1 = x := Option.some.inj hx
        subst hx
        obtain ⟨hz1, hz2, hz3⟩ := hpa z (List.mem_of_getElem? hi')
        have hz0 : 0 < z.2.length := List.length_pos_iff.mpr hz2
        have htk : ps.take (i + 1) = ps.take i ++ [z] := by rw [List.take_add_one, hi']; rfl
        refine ⟨_, rfl, rfl, _, rfl, ?_⟩
        rcases hy with ⟨rfl, rfl⟩ | ⟨u, b, rfl, hb, ib⟩
        · refine ite2 (fun _ => ?_) (fun h => absurd (decide_eq_true rfl) h)
          refine ⟨_, rfl, z.1, z.2, rfl, SqL.of (s6 _ _ hz1), hz0, fun m' M' u' e1 e2 e3 e4 nu => ?_⟩
          refine ⟨s6.trans (same_new nu), _, _, rfl, .inr ⟨u', (m', M', stepOf m' z.2), rfl, at_new nu, (isR_of e1 e2 e3 e4).congr fun n => ?_⟩⟩
          rw [htk]
          simp
        · refine ite2 (fun h => absurd (of_decide_eq_true h) (by intro z; cases z)) (fun _ => ?_)
          refine ⟨_, rfl, _, rfl, z.1, z.2, rfl, SqL.of (s6 _ _ hz1), hz0, fun m' M' u' e1 e2 e3 e4 nu => ?_⟩
          have i' := isR_of e1 e2 e3 e4
          refine ⟨u, u', b, (m', M', stepOf m' z.2), rfl, same_new nu _ _ hb, at_new nu, ib.ok, i'.ok, fun r3 H7 _ s7 h7 => ?_⟩
          refine ⟨(s6.trans (same_new nu)).trans s7, _, _, rfl, .inr ⟨r3, _, rfl, h7, (ib.join i').congr fun n => ?_⟩⟩
          rw [htk]
          constructor
          · rintro (⟨w, hw, hn⟩ | hn)
            · exact ⟨w, List.mem_append_left _ hw, hn⟩
            · exact ⟨z, List.mem_append_right _ (by simp), hn⟩
          · rintro ⟨w, hw, hn⟩
            rcases List.mem_append.mp hw with k | k
            · exact .inl ⟨w, k, hn⟩
            · have : w = z := by simpa using k
              subst this
              exact .inr hn
    rintro σ H6 ⟨s6, y, v5, rfl, hy⟩
    have hy : ∃ u, y = .ref u ∧ RAt H6 u a := by
      rcases hy with ⟨z, _⟩ | ⟨u, b, rfl, hb, ib⟩
      · exfalso
        rw [List.length_map] at z
        have : ps = [] := List.eq_nil_of_length_eq_zero z
        match ns, hn0 with
        | n :: _, _ =>
          obtain ⟨w, hw, _⟩ := (hmem n).mp List.mem_cons_self
          rw [this] at hw
          cases hw
      · refine ⟨u, rfl, ?_⟩
        have e : b = a := by
          refine IsR.unique (ib.congr fun n => ?_) ia
          rw [List.length_map, List.take_length]
          exact (hmem n).symm
        rw [← e]
        exact hb
    obtain ⟨u, rfl, hu6⟩ := hy
    refine ⟨_, rfl, _, rfl, .ref u, .ref t, trR a, trR a, rfl, at_run hu6, at_run (s6 _ _ ht5), fun H7 s7 => ⟨_, rfl, iteNS rfl ?_⟩⟩
    have s67 := s6.trans s7
    have o7 := Same.on o45 s67
    have ht7 : RAt H7 t a := s67 _ _ ht5
    have hl7 := s67 _ _ hl5
    clear hu6 s6 s7 s67 ht5 hl5 o45 hpa hmem hr5
    -- one number more
    refine ⟨6, rfl, by decide, by decide, for_range (n := 6) (fun _ σ H8 => On p c H7 H8 ∧ ∃ v5 v6 v7 v8 : Option V, σ = [some (.ref aa), some (.ref p), some (.ref l), some (.ref t), some (.ref u), v5, v6, v7, v8, none])
      ⟨o7.d.on, _, _, _, _, rfl⟩ ?_ ?_⟩
    · rintro i σ H8 _ ⟨o8, v5, v6, v7, v8, rfl⟩
      have ht8 : RAt H8 t a := o8.tup o7.d ht7
      refine ⟨_, rfl, t, _, _, _, rfl, rfl, SqT.of ht8, rfl, _, rfl, t, _, _, _, rfl, rfl, SqT.of ht8, rfl, _, rfl, p, c, _, rfl, o8.d, by decide, big (by decide) (by decide), fun r1 H9 a1 b1 o9 => ?_⟩
      refine ⟨_, _, rfl, rfl, _, _, rfl, rfl, .inr ⟨by omega, by omega⟩, _, _, rfl, rfl, _, rfl, p, c, _, rfl, o9.d, by decide, big (by decide) (by decide), fun r2 H10 a2 b2 o10 => ⟨rfl, .inr ⟨_, rfl, _, _, rfl, rfl, ?_⟩⟩⟩
      have o810 := (o8.trans o9).trans o10
      have ht10 : RAt H10 t a := o810.tup o7.d ht7
      have hl10 := o810.lst hl7 lp lc
      let x : Int := a.1 + a.2.2 * (r1 - 1) + (if decide (V.int r2 = V.int 1) = true then 1 else 0)
      refine ⟨_, rfl, _, rfl, by show 1 ≤ sizeLine; decide, fun l1 n1 => ?_⟩
      have s11 := same_new (o := .lst [.int x]) n1
      refine ⟨l, l1, _, _, rfl, rfl, s11 _ _ hl10, at_new n1, ?_, fun l3 n3 => ?_⟩
      · rw [List.length_map]
        exact Nat.le_of_lt (small1000 (by show ns.length + 1 ≤ 1000; omega))
      have e3 : ns.map V.int ++ [V.int x] = (ns ++ [x]).map V.int := by rw [List.map_append]; rfl
      have hl3' : upd (upd H10 l1 (.lst [.int x])) l3 (.lst (ns.map V.int ++ [V.int x])) l3 = some (.lst ((ns ++ [x]).map V.int)) := by rw [← e3]; exact upd_same
      have s12 := s11.trans (same_new (o := .lst (ns.map V.int ++ [V.int x])) n3)
      refine ⟨l3, ns ++ [x], rfl, SqL.of hl3', by rw [List.length_append]; omega, fun m' M' u' e1 e2 e3 e4 nu => ?_⟩
      let b : R3 := (m', M', stepOf m' (ns ++ [x]))
      have im : IsR (· ∈ ns ++ [x]) b := isR_of e1 e2 e3 e4
      obtain ⟨k1, k2, k3, k4⟩ := more_is ia im
      have s13 := s12.trans (same_new (o := .tup [.int m', .int M', .int (stepOf m' (ns ++ [x]))]) nu)
      have hm13 : RAt _ u' b := at_new (o := .tup [.int m', .int M', .int (stepOf m' (ns ++ [x]))]) nu
      have ht13 := s13 _ _ ht10
      have o13 := Same.on o810 s13
      have okb := im.ok
      have f1 : decide (some b = some a) = hasR a.1 a.2.1 a.2.2 x := by
        rw [Bool.eq_iff_iff, decide_eq_true_iff, Option.some.injEq, k3, mem_has]
      have f2 : (partR b a).isNone = decide (some b = some a) := by
        rw [Bool.eq_iff_iff, Option.isNone_iff_eq_none, part_sub okb, decide_eq_true_iff, Option.some.injEq, k4]
      have f3 : (partR a b).isNone = true := by rw [sub_part oka k1]; rfl
      have f4 : hasR b.1 b.2.1 b.2.2 x = true := mem_has.mpr k2
      refine ⟨_, rfl, _, rfl, oV (some b), oV (some a), ov ⟨u', rfl, hm13⟩, ov ⟨t, rfl, ht13⟩, ?_⟩
      rw [eqO_val]
      refine ⟨_, rfl, _, rfl, t, _, _, _, _, rfl, ht13, oka, rfl, _, rfl, ?_⟩
      refine iteNS (congrArg V.bl f1) ?_
      refine ⟨_, rfl, _, rfl, t, u', _, _, _, _, _, _, rfl, ht13, hm13, okb, fun H14 s14 => ⟨true, rfl, _, rfl, ?_⟩⟩
      rw [show (partR (a.1, a.2.1, a.2.2) (b.1, b.2.1, b.2.2)).isNone = true from f3]
      refine iteF ?_
      refine ⟨_, rfl, _, rfl, u', t, _, _, _, _, _, _, rfl, s14 _ _ hm13, s14 _ _ ht13, oka, fun H15 s15 => ?_⟩
      have s145 := s14.trans s15
      refine ⟨_, rfl, _, rfl, oV (some b), oV (some a), ov ⟨u', rfl, s145 _ _ hm13⟩, ov ⟨t, rfl, s145 _ _ ht13⟩, ?_⟩
      rw [eqO_val]
      refine ⟨rfl, _, rfl, ?_⟩
      refine iteNS (congrArg V.bl f2) ?_
      refine ⟨_, rfl, _, rfl, u', _, _, _, _, rfl, s145 _ _ hm13, okb, _, rfl, ?_⟩
      rw [show hasR b.1 b.2.1 b.2.2 (a.1 + a.2.2 * (r1 - 1) + (if decide (V.int r2 = V.int 1) = true then 1 else 0)) = true from f4]
      refine iteF ?_
      exact ⟨Same.on o13 s145, _, _, _, _, rfl⟩
    rintro σ H8 ⟨o8, v5, v6, v7, v8, rfl⟩
    have ht8 : RAt H8 t a := o8.tup o7.d ht7
    have o78 := o7.trans o8
    clear hl7 ht7 o7 o8
    -- the runs
    refine ⟨_, rfl, _, rfl, p, c, rfl, o78.d, fun t1 lo1 hi1 st1 H9 _ ht1 r9 o9 => ?_⟩
    have ht9 : RAt H9 t a := o9.tup o78.d ht8
    refine ⟨_, rfl, t, _, _, _, rfl, rfl, SqT.of ht9, rfl, _, rfl, t, _, _, _, rfl, rfl, SqT.of ht9, rfl, by show 3 ≤ sizeLine; decide, fun t2 n2 => ?_⟩
    have s10 := same_new (o := .tup [.int a.1, .int a.1, .int 0]) n2
    have o10 := Same.on (o78.trans o9) s10
    have h2 := at_new (o := .tup [.int a.1, .int a.1, .int 0]) n2
    refine ⟨_, rfl, p, c, rfl, o10.d, fun t3 lo3 hi3 st3 H11 _ ht3 r11 o11 => ?_⟩
    refine ⟨_, rfl, p, c, rfl, o11.d, fun t4 lo4 hi4 st4 H12 _ ht4 r12 o12 => ⟨by show 5 ≤ sizeLine; decide, fun lr nlr => ?_⟩⟩
    have s13 := same_new (o := .lst [.ref t, .ref t1, .ref t2, .ref t3, .ref t4]) nlr
    have hlr := at_new (o := .lst [.ref t, .ref t1, .ref t2, .ref t3, .ref t4]) nlr
    have g0 : RAt _ t a := s13 _ _ (o12.tup o11.d (o11.tup o10.d (s10 _ _ ht9)))
    have g1 : RAt _ t1 (lo1, hi1, st1) := s13 _ _ (o12.tup o11.d (o11.tup o10.d (s10 _ _ ht1)))
    have g2 : RAt _ t2 (a.1, a.1, 0) := s13 _ _ (o12.tup o11.d (o11.tup o10.d h2))
    have g3 : RAt _ t3 (lo3, hi3, st3) := s13 _ _ (o12.tup o11.d ht3)
    have g4 : RAt _ t4 (lo4, hi4, st4) := s13 _ _ ht4
    have b2 : Bq (a.1, a.1, 0) := ⟨ba.1, by have := ba.2; have := oka.le; show a.1 ≤ _; omega⟩
    have pick : ∀ j : Int, 0 ≤ j → j < 5 → ∃ (u : Addr) (b : R3), atI [V.ref t, .ref t1, .ref t2, .ref t3, .ref t4] j = some (.ref u) ∧ RAt (upd H12 lr (.lst [.ref t, .ref t1, .ref t2, .ref t3, .ref t4])) u b ∧ GcdM.Ok b ∧ Bq b := fun j j0 j5 => by
      have : j = 0 ∨ j = 1 ∨ j = 2 ∨ j = 3 ∨ j = 4 := by omega
      rcases this with e | e | e | e | e <;> subst e
      · exact ⟨t, a, rfl, g0, oka, ba⟩
      · exact ⟨t1, _, rfl, g1, r9.ok.1, runD_bq r9⟩
      · exact ⟨t2, _, rfl, g2, ok_one a.1, b2⟩
      · exact ⟨t3, _, rfl, g3, r11.ok.1, runD_bq r11⟩
      · exact ⟨t4, _, rfl, g4, r12.ok.1, runD_bq r12⟩
    refine ⟨5, rfl, by decide, by decide, for_range (n := 5) (fun _ σ H14 => Same (upd H12 lr (.lst [.ref t, .ref t1, .ref t2, .ref t3, .ref t4])) H14 ∧ ∃ v5 v6 v7 v8 : Option V, σ = [some (.ref aa), some (.ref p), some (.ref l), some (.ref t), some (.ref u), v5, v6, v7, v8, some (.ref lr)])
      ⟨Same.refl _, _, _, _, _, rfl⟩ ?_ ?_⟩
    · rintro i σ H14 hi ⟨s14, v5, v6, v7, v8, rfl⟩
      obtain ⟨ua, xa, ea, ha, oa, bqa⟩ := pick (0 + (i : Int)) (by omega) (by omega)
      obtain ⟨ub, xb, eb, hb, ob, bqb⟩ := pick ((0 + (i : Int) + 1) % 5) (by omega) (by omega)
      obtain ⟨uc, xc, ec, hc, oc, bqc⟩ := pick ((0 + (i : Int) + 2) % 5) (by omega) (by omega)
      have hlr' := s14 _ _ hlr
      refine ⟨_, rfl, _, rfl, lr, _, _, _, rfl, rfl, SqL.of hlr', ea, _, rfl, _, rfl, _, _, rfl, rfl, _, _, rfl, rfl, (show (0 : Int) < 5 by decide), lr, _, _, _, rfl, rfl, SqL.of hlr', eb, _, rfl, _, rfl, _, _, rfl, rfl, _, _, rfl, rfl, (show (0 : Int) < 5 by decide), lr, _, _, _, rfl, rfl, SqL.of hlr', ec, ?_⟩
      refine ⟨ua, ub, uc, xa, xb, xc, rfl, s14 _ _ ha, s14 _ _ hb, s14 _ _ hc, oa, ob, oc, bqa, bqb, bqc, fun H15 s15 => ⟨_, rfl, iteF ?_⟩⟩
      exact ⟨s14.trans s15, _, _, _, _, rfl⟩
    · rintro σ H14 ⟨s14, v5, v6, v7, v8, rfl⟩
      exact q H14
end
open PySem
theorem all_mk {l : PySem.W.OpenLaw} {w : World} {K : PySem.W.Frag} {h : Heap} {mg : Str → Option Value} {fa : Addr} (X : K.In h) (G : h.Ns mainGlobals mg) (hfa : mg "law" = some (.ref fa)) {f0 : Addr} {od0 an0 : Option Addr} {sl0 : Array (Option Value)} {oc0 kV0 dc0 pm0 cd0 ct0 : Value} {f1 : Addr} {od1 an1 : Option Addr} {sl1 : Array (Option Value)} {oc1 kV1 dc1 pm1 cd1 ct1 : Value} {f2 : Addr} {od2 an2 : Option Addr} {sl2 : Array (Option Value)} {oc2 kV2 dc2 pm2 cd2 ct2 : Value} {f3 : Addr} {od3 an3 : Option Addr} {sl3 : Array (Option Value)} {oc3 kV3 dc3 pm3 cd3 ct3 : Value} {f4 : Addr} {od4 an4 : Option Addr} {sl4 : Array (Option Value)} {oc4 kV4 dc4 pm4 cd4 ct4 : Value} {f5 : Addr} {od5 an5 : Option Addr} {sl5 : Array (Option Value)} {oc5 kV5 dc5 pm5 cd5 ct5 : Value} {f6 : Addr} {od6 an6 : Option Addr} {sl6 : Array (Option Value)} {oc6 kV6 dc6 pm6 cd6 ct6 : Value} {f7 : Addr} {od7 an7 : Option Addr} {sl7 : Array (Option Value)} {oc7 kV7 dc7 pm7 cd7 ct7 : Value} {f8 : Addr} {od8 an8 : Option Addr} {sl8 : Array (Option Value)} {oc8 kV8 dc8 pm8 cd8 ct8 : Value} {f9 : Addr} {od9 an9 : Option Addr} {sl9 : Array (Option Value)} {oc9 kV9 dc9 pm9 cd9 ct9 : Value} {f10 : Addr} {od10 an10 : Option Addr} {sl10 : Array (Option Value)} {oc10 kV10 dc10 pm10 cd10 ct10 : Value} {f11 : Addr} {od11 an11 : Option Addr} {sl11 : Array (Option Value)} {oc11 kV11 dc11 pm11 cd11 ct11 : Value} {f12 : Addr} {od12 an12 : Option Addr} {sl12 : Array (Option Value)} {oc12 kV12 dc12 pm12 cd12 ct12 : Value} {f13 : Addr} {od13 an13 : Option Addr} {sl13 : Array (Option Value)} {oc13 kV13 dc13 pm13 cd13 ct13 : Value} {f14 : Addr} {od14 an14 : Option Addr} {sl14 : Array (Option Value)} {oc14 kV14 dc14 pm14 cd14 ct14 : Value} {f15 : Addr} {od15 an15 : Option Addr} {sl15 : Array (Option Value)} {oc15 kV15 dc15 pm15 cd15 ct15 : Value} {f16 : Addr} {od16 an16 : Option Addr} {sl16 : Array (Option Value)} {oc16 kV16 dc16 pm16 cd16 ct16 : Value} {f17 : Addr} {od17 an17 : Option Addr} {sl17 : Array (Option Value)} {oc17 kV17 dc17 pm17 cd17 ct17 : Value} {f18 : Addr} {od18 an18 : Option Addr} {sl18 : Array (Option Value)} {oc18 kV18 dc18 pm18 cd18 ct18 : Value} {f19 : Addr} {od19 an19 : Option Addr} {sl19 : Array (Option Value)} {oc19 kV19 dc19 pm19 cd19 ct19 : Value} {f20 : Addr} {od20 an20 : Option Addr} {sl20 : Array (Option Value)} {oc20 kV20 dc20 pm20 cd20 ct20 : Value} {f21 : Addr} {od21 an21 : Option Addr} {sl21 : Array (Option Value)} {oc21 kV21 dc21 pm21 cd21 ct21 : Value}
    (a0 : PySem.W.nsIn K mainGlobals "divisor_of" = some (some (.ref f0))) (l0 : K.lookup f0 = some ⟨oc0, od0, .func (PySem.W.fnOf "divisor_of" "divisor_of" (defArgs sdivisor_of) (defBody sdivisor_of) (defScope sdivisor_of) .none kV0 dc0 pm0 an0 cd0 ct0), sl0⟩) (c0 : PySem.W.codeIn K cd0 "divisor_of" = true) (k0 : PySem.W.keepIn K (.ref f0) = true)
    (a1 : PySem.W.nsIn K mainGlobals "run_of" = some (some (.ref f1))) (l1 : K.lookup f1 = some ⟨oc1, od1, .func (PySem.W.fnOf "run_of" "run_of" (defArgs srun_of) (defBody srun_of) (defScope srun_of) .none kV1 dc1 pm1 an1 cd1 ct1), sl1⟩) (c1 : PySem.W.codeIn K cd1 "run_of" = true) (k1 : PySem.W.keepIn K (.ref f1) = true)
    (a2 : PySem.W.nsIn K mainGlobals "run_has" = some (some (.ref f2))) (l2 : K.lookup f2 = some ⟨oc2, od2, .func (PySem.W.fnOf "run_has" "run_has" (defArgs srun_has) (defBody srun_has) (defScope srun_has) .none kV2 dc2 pm2 an2 cd2 ct2), sl2⟩) (c2 : PySem.W.codeIn K cd2 "run_has" = true) (k2 : PySem.W.keepIn K (.ref f2) = true)
    (a3 : PySem.W.nsIn K mainGlobals "telling_numbers" = some (some (.ref f3))) (l3 : K.lookup f3 = some ⟨oc3, od3, .func (PySem.W.fnOf "telling_numbers" "telling_numbers" (defArgs stelling_numbers) (defBody stelling_numbers) (defScope stelling_numbers) .none kV3 dc3 pm3 an3 cd3 ct3), sl3⟩) (c3 : PySem.W.codeIn K cd3 "telling_numbers" = true) (k3 : PySem.W.keepIn K (.ref f3) = true)
    (a4 : PySem.W.nsIn K mainGlobals "run_parted" = some (some (.ref f4))) (l4 : K.lookup f4 = some ⟨oc4, od4, .func (PySem.W.fnOf "run_parted" "run_parted" (defArgs srun_parted) (defBody srun_parted) (defScope srun_parted) .none kV4 dc4 pm4 an4 cd4 ct4), sl4⟩) (c4 : PySem.W.codeIn K cd4 "run_parted" = true) (k4 : PySem.W.keepIn K (.ref f4) = true)
    (a5 : PySem.W.nsIn K mainGlobals "run_within" = some (some (.ref f5))) (l5 : K.lookup f5 = some ⟨oc5, od5, .func (PySem.W.fnOf "run_within" "run_within" (defArgs srun_within) (defBody srun_within) (defScope srun_within) .none kV5 dc5 pm5 an5 cd5 ct5), sl5⟩) (c5 : PySem.W.codeIn K cd5 "run_within" = true) (k5 : PySem.W.keepIn K (.ref f5) = true)
    (a6 : PySem.W.nsIn K mainGlobals "run_joined" = some (some (.ref f6))) (l6 : K.lookup f6 = some ⟨oc6, od6, .func (PySem.W.fnOf "run_joined" "run_joined" (defArgs srun_joined) (defBody srun_joined) (defScope srun_joined) .none kV6 dc6 pm6 an6 cd6 ct6), sl6⟩) (c6 : PySem.W.codeIn K cd6 "run_joined" = true) (k6 : PySem.W.keepIn K (.ref f6) = true)
    (a7 : PySem.W.nsIn K mainGlobals "inverse_of" = some (some (.ref f7))) (l7 : K.lookup f7 = some ⟨oc7, od7, .func (PySem.W.fnOf "inverse_of" "inverse_of" (defArgs sinverse_of) (defBody sinverse_of) (defScope sinverse_of) .none kV7 dc7 pm7 an7 cd7 ct7), sl7⟩) (c7 : PySem.W.codeIn K cd7 "inverse_of" = true) (k7 : PySem.W.keepIn K (.ref f7) = true)
    (a8 : PySem.W.nsIn K mainGlobals "first_meeting" = some (some (.ref f8))) (l8 : K.lookup f8 = some ⟨oc8, od8, .func (PySem.W.fnOf "first_meeting" "first_meeting" (defArgs sfirst_meeting) (defBody sfirst_meeting) (defScope sfirst_meeting) .none kV8 dc8 pm8 an8 cd8 ct8), sl8⟩) (c8 : PySem.W.codeIn K cd8 "first_meeting" = true) (k8 : PySem.W.keepIn K (.ref f8) = true)
    (a9 : PySem.W.nsIn K mainGlobals "steps_met" = some (some (.ref f9))) (l9 : K.lookup f9 = some ⟨oc9, od9, .func (PySem.W.fnOf "steps_met" "steps_met" (defArgs ssteps_met) (defBody ssteps_met) (defScope ssteps_met) .none kV9 dc9 pm9 an9 cd9 ct9), sl9⟩) (c9 : PySem.W.codeIn K cd9 "steps_met" = true) (k9 : PySem.W.keepIn K (.ref f9) = true)
    (a10 : PySem.W.nsIn K mainGlobals "run_met" = some (some (.ref f10))) (l10 : K.lookup f10 = some ⟨oc10, od10, .func (PySem.W.fnOf "run_met" "run_met" (defArgs srun_met) (defBody srun_met) (defScope srun_met) .none kV10 dc10 pm10 an10 cd10 ct10), sl10⟩) (c10 : PySem.W.codeIn K cd10 "run_met" = true) (k10 : PySem.W.keepIn K (.ref f10) = true)
    (a11 : PySem.W.nsIn K mainGlobals "_law_mixed" = some (some (.ref f11))) (l11 : K.lookup f11 = some ⟨oc11, od11, .func (PySem.W.fnOf "_law_mixed" "_law_mixed" (defArgs s_law_mixed) (defBody s_law_mixed) (defScope s_law_mixed) .none kV11 dc11 pm11 an11 cd11 ct11), sl11⟩) (c11 : PySem.W.codeIn K cd11 "_law_mixed" = true) (k11 : PySem.W.keepIn K (.ref f11) = true)
    (a12 : PySem.W.nsIn K mainGlobals "_law_deck" = some (some (.ref f12))) (l12 : K.lookup f12 = some ⟨oc12, od12, .func (PySem.W.fnOf "_law_deck" "_law_deck" (defArgs s_law_deck) (defBody s_law_deck) (defScope s_law_deck) .none kV12 dc12 pm12 an12 cd12 ct12), sl12⟩) (c12 : PySem.W.codeIn K cd12 "_law_deck" = true) (k12 : PySem.W.keepIn K (.ref f12) = true)
    (a13 : PySem.W.nsIn K mainGlobals "_law_take" = some (some (.ref f13))) (l13 : K.lookup f13 = some ⟨oc13, od13, .func (PySem.W.fnOf "_law_take" "_law_take" (defArgs s_law_take) (defBody s_law_take) (defScope s_law_take) .none kV13 dc13 pm13 an13 cd13 ct13), sl13⟩) (c13 : PySem.W.codeIn K cd13 "_law_take" = true) (k13 : PySem.W.keepIn K (.ref f13) = true)
    (a14 : PySem.W.nsIn K mainGlobals "_law_far" = some (some (.ref f14))) (l14 : K.lookup f14 = some ⟨oc14, od14, .func (PySem.W.fnOf "_law_far" "_law_far" (defArgs s_law_far) (defBody s_law_far) (defScope s_law_far) .none kV14 dc14 pm14 an14 cd14 ct14), sl14⟩) (c14 : PySem.W.codeIn K cd14 "_law_far" = true) (k14 : PySem.W.keepIn K (.ref f14) = true)
    (a15 : PySem.W.nsIn K mainGlobals "_law_run" = some (some (.ref f15))) (l15 : K.lookup f15 = some ⟨oc15, od15, .func (PySem.W.fnOf "_law_run" "_law_run" (defArgs s_law_run) (defBody s_law_run) (defScope s_law_run) .none kV15 dc15 pm15 an15 cd15 ct15), sl15⟩) (c15 : PySem.W.codeIn K cd15 "_law_run" = true) (k15 : PySem.W.keepIn K (.ref f15) = true)
    (a16 : PySem.W.nsIn K mainGlobals "_law_same" = some (some (.ref f16))) (l16 : K.lookup f16 = some ⟨oc16, od16, .func (PySem.W.fnOf "_law_same" "_law_same" (defArgs s_law_same) (defBody s_law_same) (defScope s_law_same) .none kV16 dc16 pm16 an16 cd16 ct16), sl16⟩) (c16 : PySem.W.codeIn K cd16 "_law_same" = true) (k16 : PySem.W.keepIn K (.ref f16) = true)
    (a17 : PySem.W.nsIn K mainGlobals "_law_numbers" = some (some (.ref f17))) (l17 : K.lookup f17 = some ⟨oc17, od17, .func (PySem.W.fnOf "_law_numbers" "_law_numbers" (defArgs s_law_numbers) (defBody s_law_numbers) (defScope s_law_numbers) .none kV17 dc17 pm17 an17 cd17 ct17), sl17⟩) (c17 : PySem.W.codeIn K cd17 "_law_numbers" = true) (k17 : PySem.W.keepIn K (.ref f17) = true)
    (a18 : PySem.W.nsIn K mainGlobals "_law_cut" = some (some (.ref f18))) (l18 : K.lookup f18 = some ⟨oc18, od18, .func (PySem.W.fnOf "_law_cut" "_law_cut" (defArgs s_law_cut) (defBody s_law_cut) (defScope s_law_cut) .none kV18 dc18 pm18 an18 cd18 ct18), sl18⟩) (c18 : PySem.W.codeIn K cd18 "_law_cut" = true) (k18 : PySem.W.keepIn K (.ref f18) = true)
    (a19 : PySem.W.nsIn K mainGlobals "_law_met_all" = some (some (.ref f19))) (l19 : K.lookup f19 = some ⟨oc19, od19, .func (PySem.W.fnOf "_law_met_all" "_law_met_all" (defArgs s_law_met_all) (defBody s_law_met_all) (defScope s_law_met_all) .none kV19 dc19 pm19 an19 cd19 ct19), sl19⟩) (c19 : PySem.W.codeIn K cd19 "_law_met_all" = true) (k19 : PySem.W.keepIn K (.ref f19) = true)
    (a20 : PySem.W.nsIn K mainGlobals "_law_lattice" = some (some (.ref f20))) (l20 : K.lookup f20 = some ⟨oc20, od20, .func (PySem.W.fnOf "_law_lattice" "_law_lattice" (defArgs s_law_lattice) (defBody s_law_lattice) (defScope s_law_lattice) .none kV20 dc20 pm20 an20 cd20 ct20), sl20⟩) (c20 : PySem.W.codeIn K cd20 "_law_lattice" = true) (k20 : PySem.W.keepIn K (.ref f20) = true)
    (a21 : PySem.W.nsIn K mainGlobals "law" = some (some (.ref f21))) (l21 : K.lookup f21 = some ⟨oc21, od21, .func (PySem.W.fnOf "law" "law" (defArgs slaw) (defBody slaw) (defScope slaw) .none kV21 dc21 pm21 an21 cd21 ct21), sl21⟩) (c21 : PySem.W.codeIn K cd21 "law" = true) (k21 : PySem.W.keepIn K (.ref f21) = true)
    (z0 : PySem.W.nsIn K mainGlobals "len" = some none) (z1 : PySem.W.nsIn K mainGlobals "range" = some none) (z2 : PySem.W.nsIn K mainGlobals "isinstance" = some none) (z3 : PySem.W.nsIn K mainGlobals "int" = some none) (z4 : PySem.W.nsIn K mainGlobals "bool" = some none) (z5 : PySem.W.nsIn K mainGlobals "str" = some none) (z6 : PySem.W.nsIn K mainGlobals "list" = some none) (z7 : PySem.W.nsIn K mainGlobals "tuple" = some none) (z8 : PySem.W.nsIn K mainGlobals "dict" = some none) (z9 : PySem.W.nsIn K mainGlobals "sum" = some none) (z10 : PySem.W.nsIn K mainGlobals "min" = some none) (z11 : PySem.W.nsIn K mainGlobals "max" = some none) (z12 : PySem.W.nsIn K mainGlobals "all" = some none) (z13 : PySem.W.nsIn K mainGlobals "any" = some none) (z14 : PySem.W.nsIn K mainGlobals "abs" = some none) (z15 : PySem.W.nsIn K mainGlobals "zip" = some none) (z16 : PySem.W.nsIn K mainGlobals "sorted" = some none) (z17 : PySem.W.nsIn K mainGlobals "set" = some none) (z18 : PySem.W.nsIn K mainGlobals "enumerate" = some none) :
    ∃ fd : FuncData, (∀ (s : Shared) (v : Value), BindsTo s fd ⟨[v], []⟩ [("_law_script", v)]) ∧ ∀ base : Heap, K.In base → base.Ns mainGlobals mg → FnOk l.prog w K mg base CX0 7 fa fd ["_law_script"] (spLaw K) := by
  have e := hfa.symm.trans (PySem.W.mg_of X G a21)
  cases e
  have B : Own mg := own_mk X G z0 z1 z2 z3 z4 z5 z6 z7 z8 z9 z10 z11 z12 z13 z14 z15 z16 z17 z18
  have hdivisor_of : Has K mg "divisor_of" sdivisor_of := has_mk (st := sdivisor_of) X G a0 l0 c0 k0
  have hrun_of : Has K mg "run_of" srun_of := has_mk (st := srun_of) X G a1 l1 c1 k1
  have hrun_has : Has K mg "run_has" srun_has := has_mk (st := srun_has) X G a2 l2 c2 k2
  have htelling_numbers : Has K mg "telling_numbers" stelling_numbers := has_mk (st := stelling_numbers) X G a3 l3 c3 k3
  have hrun_parted : Has K mg "run_parted" srun_parted := has_mk (st := srun_parted) X G a4 l4 c4 k4
  have hrun_within : Has K mg "run_within" srun_within := has_mk (st := srun_within) X G a5 l5 c5 k5
  have hrun_joined : Has K mg "run_joined" srun_joined := has_mk (st := srun_joined) X G a6 l6 c6 k6
  have hinverse_of : Has K mg "inverse_of" sinverse_of := has_mk (st := sinverse_of) X G a7 l7 c7 k7
  have hfirst_meeting : Has K mg "first_meeting" sfirst_meeting := has_mk (st := sfirst_meeting) X G a8 l8 c8 k8
  have hsteps_met : Has K mg "steps_met" ssteps_met := has_mk (st := ssteps_met) X G a9 l9 c9 k9
  have hrun_met : Has K mg "run_met" srun_met := has_mk (st := srun_met) X G a10 l10 c10 k10
  have h_law_mixed : Has K mg "_law_mixed" s_law_mixed := has_mk (st := s_law_mixed) X G a11 l11 c11 k11
  have h_law_deck : Has K mg "_law_deck" s_law_deck := has_mk (st := s_law_deck) X G a12 l12 c12 k12
  have h_law_take : Has K mg "_law_take" s_law_take := has_mk (st := s_law_take) X G a13 l13 c13 k13
  have h_law_far : Has K mg "_law_far" s_law_far := has_mk (st := s_law_far) X G a14 l14 c14 k14
  have h_law_run : Has K mg "_law_run" s_law_run := has_mk (st := s_law_run) X G a15 l15 c15 k15
  have h_law_same : Has K mg "_law_same" s_law_same := has_mk (st := s_law_same) X G a16 l16 c16 k16
  have h_law_numbers : Has K mg "_law_numbers" s_law_numbers := has_mk (st := s_law_numbers) X G a17 l17 c17 k17
  have h_law_cut : Has K mg "_law_cut" s_law_cut := has_mk (st := s_law_cut) X G a18 l18 c18 k18
  have h_law_met_all : Has K mg "_law_met_all" s_law_met_all := has_mk (st := s_law_met_all) X G a19 l19 c19 k19
  have h_law_lattice : Has K mg "_law_lattice" s_law_lattice := has_mk (st := s_law_lattice) X G a20 l20 c20 k20
  refine ⟨PySem.W.fnOf "law" "law" (defArgs slaw) (defBody slaw) (defScope slaw) .none kV21 dc21 pm21 an21 cd21 ct21, fun s v => .of_eq rfl, fun base _ _ => ?_⟩
  have G1 : Good l.prog w K mg base 1 "_law_mixed" ["_law_number", "_law_k"] spMixed := g_mixed h_law_mixed
  have G2 : Good l.prog w K mg base 2 "_law_take" ["_law_deck_here", "_law_most"] spTake := g_take h_law_take G1
  have G3 : Good l.prog w K mg base 3 "_law_far" ["_law_deck_here"] spFar := g_far h_law_far B G2
  have G4 : Good l.prog w K mg base 4 "_law_run" ["_law_deck_here"] spRun := g_run h_law_run B G2 G3
  have G5 : Good l.prog w K mg base 4 "run_met" ["one", "other"] spMet := g_met hrun_met (g_rhas hrun_has) (g_steps hsteps_met B (g_div hdivisor_of) (g_first hfirst_meeting (g_div hdivisor_of) (g_inv hinverse_of)))
  have G6 : Good l.prog w K mg base 3 "_law_same" ["_law_one", "_law_other"] (spSameT K 2) := g_sameS h_law_same B (g_sameS h_law_same B (g_same0 h_law_same))
  have G7 : Good l.prog w K mg base 2 "run_of" ["numbers"] (spRunOf K) := g_runof hrun_of B (g_div hdivisor_of)
  have G8 : Good l.prog w K mg base 3 "run_joined" ["one", "other"] spJoin := g_joined hrun_joined (g_tell htelling_numbers) G7
  have G9 : Good l.prog w K mg base 3 "run_within" ["one", "other"] spWithin := g_within hrun_within (g_parted hrun_parted (g_tell htelling_numbers) (g_rhas hrun_has))
  exact ok_law (fun_mk (st := slaw) l21 c21 k21) B (g_deck h_law_deck B) G2 G4 (g_nums h_law_numbers B G2 G3 G4) (g_cut h_law_cut B G2) G6 G7 (g_rhas hrun_has) G8 G9 (g_lat h_law_lattice G5 G8 G9 (g_met3 h_law_met_all G5))
theorem walk {l : PySem.W.OpenLaw} {q : Program} {loose : List Str} {XP : (Str → Option Value) → Heap → Prop} {YP : World → Heap → Prop} {d : DefRec} {K : Params → PySem.W.Frag} (hn : l.most = some 63) (hdf : d.params.defaults = [])
    (hY : ∀ (w : World) (h : Heap), YP w h → (K w.params).In h)
    (F : ∀ (w : World) (mg : Str → Option Value) (fa : Addr) (h : Heap), (K w.params).In h → h.Ns mainGlobals mg → mg d.name = some (.ref fa) →
      ∃ fd : FuncData, (∀ (s : Shared) (u : Value), BindsTo s fd ⟨[u], []⟩ [("_law_script", u)]) ∧ ∀ base : Heap, (K w.params).In base → base.Ns mainGlobals mg → FnOk l.prog w (K w.params) mg base CX0 7 fa fd ["_law_script"] (spLaw (K w.params))) :
    PySem.W.WalkO q loose XP YP l.row.toRowW d [] (fun f vs => PySem.call f vs) :=
  L2.walk_of (n := 63) (k := 7) (x := "_law_script") (CX := fun _ => CX0) (sp := fun w => spLaw (K w.params)) hn (by decide) hdf ⟨rfl, by decide, by decide⟩ hY F (fun _ _ a ns hl _ hS => ⟨a, ns, rfl, hS, hl, fun _ => rfl⟩) fun _ _ _ _ _ z => z
end My
open PySem PySem.W PyProof.Rows
set_option maxRecDepth 100000 in
set_option maxHeartbeats 0 in
theorem PySem.Challenge.cw_leastform_k16_whole_runs_by_any_cuts_holds : PySem.Challenge.rw_leastform_k16_whole_runs_by_any_cuts.Holds := by
  w_on; o_law; k_head; (case hw => w_witness2)
  k_fill
  refine My.walk (l := PySem.Challenge.rw_leastform_k16_whole_runs_by_any_cuts) rfl rfl (fun w h Y => PySem.W.kIn_of Y) ?F
  case F =>
    intro w mg fa h KX G hmg
    refine' My.all_mk KX G hmg ?a0 ?l0 ?c0 ?k0 ?a1 ?l1 ?c1 ?k1 ?a2 ?l2 ?c2 ?k2 ?a3 ?l3 ?c3 ?k3 ?a4 ?l4 ?c4 ?k4 ?a5 ?l5 ?c5 ?k5 ?a6 ?l6 ?c6 ?k6 ?a7 ?l7 ?c7 ?k7 ?a8 ?l8 ?c8 ?k8 ?a9 ?l9 ?c9 ?k9 ?a10 ?l10 ?c10 ?k10 ?a11 ?l11 ?c11 ?k11 ?a12 ?l12 ?c12 ?k12 ?a13 ?l13 ?c13 ?k13 ?a14 ?l14 ?c14 ?k14 ?a15 ?l15 ?c15 ?k15 ?a16 ?l16 ?c16 ?k16 ?a17 ?l17 ?c17 ?k17 ?a18 ?l18 ?c18 ?k18 ?a19 ?l19 ?c19 ?k19 ?a20 ?l20 ?c20 ?k20 ?a21 ?l21 ?c21 ?k21 ?z0 ?z1 ?z2 ?z3 ?z4 ?z5 ?z6 ?z7 ?z8 ?z9 ?z10 ?z11 ?z12 ?z13 ?z14 ?z15 ?z16 ?z17 ?z18
    (case a0 => k_is)
    (case l0 => k_is)
    (case c0 => k_is)
    (case k0 => k_is)
    (case a1 => k_is)
    (case l1 => k_is)
    (case c1 => k_is)
    (case k1 => k_is)
    (case a2 => k_is)
    (case l2 => k_is)
    (case c2 => k_is)
    (case k2 => k_is)
    (case a3 => k_is)
    (case l3 => k_is)
    (case c3 => k_is)
    (case k3 => k_is)
    (case a4 => k_is)
    (case l4 => k_is)
    (case c4 => k_is)
    (case k4 => k_is)
    (case a5 => k_is)
    (case l5 => k_is)
    (case c5 => k_is)
    (case k5 => k_is)
    (case a6 => k_is)
    (case l6 => k_is)
    (case c6 => k_is)
    (case k6 => k_is)
    (case a7 => k_is)
    (case l7 => k_is)
    (case c7 => k_is)
    (case k7 => k_is)
    (case a8 => k_is)
    (case l8 => k_is)
    (case c8 => k_is)
    (case k8 => k_is)
    (case a9 => k_is)
    (case l9 => k_is)
    (case c9 => k_is)
    (case k9 => k_is)
    (case a10 => k_is)
    (case l10 => k_is)
    (case c10 => k_is)
    (case k10 => k_is)
    (case a11 => k_is)
    (case l11 => k_is)
    (case c11 => k_is)
    (case k11 => k_is)
    (case a12 => k_is)
    (case l12 => k_is)
    (case c12 => k_is)
    (case k12 => k_is)
    (case a13 => k_is)
    (case l13 => k_is)
    (case c13 => k_is)
    (case k13 => k_is)
    (case a14 => k_is)
    (case l14 => k_is)
    (case c14 => k_is)
    (case k14 => k_is)
    (case a15 => k_is)
    (case l15 => k_is)
    (case c15 => k_is)
    (case k15 => k_is)
    (case a16 => k_is)
    (case l16 => k_is)
    (case c16 => k_is)
    (case k16 => k_is)
    (case a17 => k_is)
    (case l17 => k_is)
    (case c17 => k_is)
    (case k17 => k_is)
    (case a18 => k_is)
    (case l18 => k_is)
    (case c18 => k_is)
    (case k18 => k_is)
    (case a19 => k_is)
    (case l19 => k_is)
    (case c19 => k_is)
    (case k19 => k_is)
    (case a20 => k_is)
    (case l20 => k_is)
    (case c20 => k_is)
    (case k20 => k_is)
    (case a21 => k_is)
    (case l21 => k_is)
    (case c21 => k_is)
    (case k21 => k_is)
    (case z0 => k_is)
    (case z1 => k_is)
    (case z2 => k_is)
    (case z3 => k_is)
    (case z4 => k_is)
    (case z5 => k_is)
    (case z6 => k_is)
    (case z7 => k_is)
    (case z8 => k_is)
    (case z9 => k_is)
    (case z10 => k_is)
    (case z11 => k_is)
    (case z12 => k_is)
    (case z13 => k_is)
    (case z14 => k_is)
    (case z15 => k_is)
    (case z16 => k_is)
    (case z17 => k_is)
    (case z18 => k_is)
#print axioms PySem.Challenge.cw_leastform_k16_whole_runs_by_any_cuts_holds
