import PyProof.Rows.All
import Wide.All
import OpenK.AllK
import Wide.FinOn
import Lean
import PyProof.EqAt
import PyProof.EqKinds
import PyProof.TupleCall
import PyProof.NeKinds
import PyProof.IsiTupleOf
import PyProof.IsiHeapPairs
import PyProof.IsiPairs
import PyProof.ConsumeWalk
import PyProof.Rows.SumAny
import PyProof.FitsBits
import PyProof.Rows.SeqMore
import PyProof.ZipIter
import PyProof.TupleIter
import PyProof.LongRange
import PyProof.Rows.Range3
import PyProof.Rows.SortWalk
import PyProof.Rows.SortStr
import PyProof.WalkLemmas
import PyProof.CallFns
import PyProof.Seq
import OpenK.KOwn
import KE.KIsAll
import KE.RegKIsAll
import PyProof.ExcArgsOwn
import PySem.Challenge.RW_leastform_k11_the_run_of_numbers
set_option Elab.async false
set_option linter.all false
set_option maxRecDepth 100000
set_option maxHeartbeats 4000000
/-! THE HAND LAYER, for ints, bools, texts, own classes, LISTS and tuples (index, slices, in, append, pop ..), calls, loops. Paste it whole ahead of your own text; what your proof does not reach may be deleted. -/
namespace L2
open PySem PySem.Spec PyProof.Rows

/-- a key: an int or a str -/
abbrev Key := Sum Int Str
def keyIs : Key → Value → Bool
  | .inl k, v => Value.isInt k v
  | .inr x, v => Value.isStrOf x v
def keyH (w : World) : Key → Int
  | .inl k => hashInt k
  | .inr x => hashStr w x
theorem keyIs_shape : ∀ {k : Key} {v : Value}, keyIs k v = true → (∃ i t, k = Sum.inl i ∧ v = Value.int i t) ∨ (∃ x t, k = Sum.inr x ∧ v = Value.str x t)
  | .inl i, v, h => by
    obtain ⟨t, e⟩ := Value.isInt_shape (k := i) (v := v) h
    exact .inl ⟨i, t, rfl, e⟩
  | .inr x, v, h => by
    obtain ⟨t, e⟩ := Value.isStrOf_shape (x := x) (v := v) h
    exact .inr ⟨x, t, rfl, e⟩
theorem key_ll (a b : Int) : decide ((Sum.inl a : Key) = Sum.inl b) = (a == b) := by
  by_cases e : a = b
  · subst e; simp
  · have h : ¬ (Sum.inl a : Key) = Sum.inl b := fun q => e (Sum.inl.inj q)
    rw [decide_eq_false h]
    exact (beq_eq_false_iff_ne.mpr e).symm
theorem key_rr (a b : Str) : decide ((Sum.inr a : Key) = Sum.inr b) = decide (a = b) := by
  by_cases e : a = b
  · subst e; simp
  · have h : ¬ (Sum.inr a : Key) = Sum.inr b := fun q => e (Sum.inr.inj q)
    rw [decide_eq_false h, decide_eq_false e]
theorem key_lr (a : Int) (b : Str) : decide ((Sum.inl a : Key) = Sum.inr b) = false := decide_eq_false (fun q => nomatch q)
theorem key_rl (a : Str) (b : Int) : decide ((Sum.inr a : Key) = Sum.inl b) = false := decide_eq_false (fun q => nomatch q)

def mixKind (prog : Program) (w : World) : PySem.KeyKind prog w Key where
  is := keyIs
  hash := keyH w
  inj := fun v a b ha hb => by
    rcases keyIs_shape ha with ⟨i, t, rfl, rfl⟩ | ⟨x, t, rfl, rfl⟩
    · rcases keyIs_shape hb with ⟨j, u, rfl, e⟩ | ⟨y, u, rfl, e⟩
      · injection e with e1 _; rw [e1]
      · exact nomatch e
    · rcases keyIs_shape hb with ⟨j, u, rfl, e⟩ | ⟨y, u, rfl, e⟩
      · exact nomatch e
      · injection e with e1 _; rw [e1]
  byValue := fun k v h => by
    rcases keyIs_shape h with ⟨i, t, rfl, rfl⟩ | ⟨x, t, rfl, rfl⟩ <;> rfl
  pyHash := fun hv h => by
    rcases keyIs_shape hv with ⟨i, t, rfl, rfl⟩ | ⟨x, t, rfl, rfl⟩
    · exact wpAny_pyHash_int h
    · exact wpAny_pyHash_str h
  eqBool := fun hu hv h => by
    rcases keyIs_shape hu with ⟨i, t, rfl, rfl⟩ | ⟨x, t, rfl, rfl⟩
    · rcases keyIs_shape hv with ⟨j, u, rfl, rfl⟩ | ⟨y, u, rfl, rfl⟩
      · rw [key_ll] at h; exact wpAny_eqBool_int h
      · rw [key_lr] at h; exact SeqAt.EqAt.int_str i t y u _ _ _ _ h
    · rcases keyIs_shape hv with ⟨j, u, rfl, rfl⟩ | ⟨y, u, rfl, rfl⟩
      · rw [key_rl] at h; exact SeqAt.EqAt.str_int x t j u _ _ _ _ h
      · rw [key_rr] at h; exact wpAny_eqBool_str h
  «strs» := fun k x t v h => by
    rcases keyIs_shape h with ⟨i, u, rfl, e⟩ | ⟨y, u, rfl, e⟩
    · exact nomatch e
    · injection e with e1 _
      subst e1
      cases v <;> rfl

end L2

namespace L2
open PySem PySem.Spec PyProof.Rows

/-- a value, without the heap -/
inductive V where
  | non | bl (b : Bool) | int (i : Int) | str (x : Str) | byt (b : Array UInt8) | flt (b : UInt64) | ref (a : Addr) | ty (n : String)
  deriving DecidableEq

def RelV : V → Value → Prop
  | .non, u => u = Value.none
  | .bl b, u => u = Value.bool b
  | .int i, u => ∃ t, u = Value.int i t
  | .str x, u => ∃ t, u = Value.str x t
  | .byt b, u => ∃ t, u = Value.bytes b t
  | .flt b, u => ∃ t, u = Value.float b t
  | .ref a, u => u = Value.ref a
  | .ty n, u => u = Value.type n

abbrev Vals : List V → List Value → Prop := Paired RelV
theorem Vals.length {xs : List V} {us : List Value} (r : Vals xs us) : xs.length = us.length := Paired.length r
theorem Vals.get : ∀ {xs : List V} {us : List Value} {i : Nat} {x : V}, Vals xs us → xs[i]? = some x → ∃ u, us[i]? = some u ∧ RelV x u
  | _, _, _, _, .nil, e => by simp at e
  | _, _, 0, _, .cons r _, e => by simp at e; subst e; exact ⟨_, rfl, r⟩
  | _, _, i + 1, x, .cons _ t, e => by
    obtain ⟨u, h1, h2⟩ := Vals.get (i := i) (x := x) t (by simpa using e)
    exact ⟨u, by simpa using h1, h2⟩
theorem Vals.set {x : V} {u : Value} (r : RelV x u) : ∀ {xs : List V} {us : List Value} (i : Nat), Vals xs us → Vals (xs.set i x) (us.set i u)
  | _, _, _, .nil => .nil
  | _, _, 0, .cons _ t => .cons r t
  | _, _, i + 1, .cons q t => .cons q (Vals.set r i t)
theorem Vals.append : ∀ {xs ys : List V} {us ws : List Value}, Vals xs us → Vals ys ws → Vals (xs ++ ys) (us ++ ws)
  | _, _, _, _, .nil, s => s
  | _, _, _, _, .cons r t, s => .cons r (Vals.append t s)
theorem Vals.take : ∀ {xs : List V} {us : List Value} (n : Nat), Vals xs us → Vals (xs.take n) (us.take n)
  | _, _, 0, _ => .nil
  | _, _, _ + 1, .nil => .nil
  | _, _, n + 1, .cons r t => .cons r (Vals.take n t)
theorem Vals.drop : ∀ {xs : List V} {us : List Value} (n : Nat), Vals xs us → Vals (xs.drop n) (us.drop n)
  | _, _, 0, r => r
  | _, _, _ + 1, .nil => .nil
  | _, _, n + 1, .cons _ t => Vals.drop n t
def RelO : Option V → Option Value → Prop
  | some v, some u => RelV v u
  | none, none => True
  | _, _ => False
def KV {κ : Type} : List (κ × V) → List (κ × Value) → Prop := Paired fun (p : κ × V) (q : κ × Value) => p.1 = q.1 ∧ RelV p.2 q.2

/-- a key of a dict (00_mix): an int or a text -/
def kV : Key → V
  | .inl i => .int i
  | .inr x => .str x

/-- what stands at a tracked address -/
inductive HO where
  /-- a list -/
  | lst (xs : List V)
  /-- a tuple (never changes) -/
  | tup (xs : List V)
  /-- a dict whose keys are ints and texts; one whose keys are tuples of ints and texts (the empty one is both) -/
  | dK (kvs : List (Key × V)) | dT (kvs : List (List Key × V))
  /-- a set of ints: its members, its size -/
  | set (S : Int → Bool) (n : Nat)
  /-- an instance of the class at C, its dict at dx, its attributes -/
  | ins (C dx : Addr) (fs : List (Str × V))
  /-- the dict of the instance at x -/
  | own (x : Addr)
  /-- the dict of an exception -/
  | xd (fs : List (Str × V))
  /-- a bound method, f of x -/
  | met (f x : Addr)
  /-- a range object lo, lo + 1, .. below hi -/
  | rng (lo hi : Int)
  /-- a thing that is known to the object (the script; a dict while a loop walks it): read, never written while it is so -/
  | frz (o : Obj) (u : HO)
  /-- a code object's table -/
  | tbl (ps : Array Value)
  /-- any other thing, by what is true of its one object (a def of one's own: SetO a S n := HO.ext fun h => ..) -/
  | ext (φ : Heap → Prop)

abbrev Hp := Addr → Option HO
def upd (H : Hp) (a : Addr) (o : HO) : Hp := fun b => if b = a then some o else H b
theorem upd_same {H : Hp} {a : Addr} {o : HO} : upd H a o a = some o := by unfold upd; rw [if_pos rfl]
theorem upd_ne {H : Hp} {a b : Addr} {o : HO} (h : b ≠ a) : upd H a o b = H b := by unfold upd; rw [if_neg h]
theorem upd_upd {H : Hp} {a : Addr} {o u : HO} : upd (upd H a o) a u = upd H a u := by
  funext b; unfold upd; split <;> rfl
/-- two objects of different content stand apart -/
theorem ne_of {H : Hp} {a b : Addr} {o u : HO} (h : H a = some o) (h' : H b = some u) (d : o ≠ u) : a ≠ b := by
  intro e; subst e; rw [h] at h'; exact d (Option.some.inj h')
theorem ne_of_none {H : Hp} {a b : Addr} {o : HO} (h : H a = some o) (h' : H b = none) : a ≠ b := by
  intro e; subst e; rw [h] at h'; cases h'

section
variable (P : Program) (w : World)
def ObjOk (H : Hp) (h : Heap) (a : Addr) : HO → Prop
  | .lst xs => xs.length ≤ sizeLine ∧ ∃ (its : List Value) (n : Nat), Vals xs its ∧ h.get? a = some { cls := .type "list", data := .seq its.toArray n }
  | .tup xs => xs.length ≤ sizeLine ∧ ∃ its : List Value, Vals xs its ∧ IsTup h a its.toArray
  | .dK kvs => kvs.length ≤ sizeLine ∧ (a == sysModules) = false ∧ ∃ vs, KV kvs vs ∧ h.DictOf (mixKind P w) a vs
  | .dT kvs => kvs.length ≤ sizeLine ∧ (a == sysModules) = false ∧ ∃ xs : List (List Key × Addr × Value),
      Paired (fun (p : List Key × V) (q : List Key × Addr × Value) => p.1 = q.1 ∧ H q.2.1 = some (.tup (p.1.map kV)) ∧ RelV p.2 q.2.2) kvs xs ∧
      ∃ o es ep, h.get? a = some o ∧ o.ExactDict ∧ o.data = .dict es ep ∧ es.toList = xs.map (entryOfKey (tupleKind (mixKind P w))) ∧ (xs.map (·.1)).Nodup
  | .set S n => h.SetOf (intKind P w) a S n
  | .ins C dx fs => H dx = some (.own a) ∧ fs.length ≤ 1000 ∧ dx ≠ a ∧ h.get? a = some (PySem.W.instObj C dx) ∧
      ∃ mA, h.Ns1 dx mA ∧ (∀ f, RelO (fs.lookup f) (mA f)) ∧ PySem.Within mA (fs.map (·.1))
  | .own _ => ∃ o, h.get? a = some o
  | .xd fs => ∃ mA, h.Ns1 a mA ∧ ∀ f, RelO (fs.lookup f) (mA f)
  | .rng lo hi => ∃ t u v, h.get? a = some { cls := .type "range", data := .fields #[.int lo t, .int hi u, .int 1 v] }
  | .frz o u => h.get? a = some o ∧ ObjOk H h a u
  | .tbl ps => h.get? a = some { cls := .none, data := .fields ps }
  | .met f x => h.get? a = some (PySem.W.methodObj (.ref f) (.ref x))
  | .ext φ => φ h ∧ (∃ o, h.get? a = some o) ∧ ∀ h1 h2 : Heap, φ h1 → (∀ o, h1.get? a = some o → h2.get? a = some o) → φ h2
/-- the abstract heap is held -/
def HOk (H : Hp) (h : Heap) : Prop := ∀ a o, H a = some o → ObjOk P w H h a o
end

section
variable {P : Program} {w : World} {H H' : Hp} {h h' : Heap} {a : Addr} {o : HO}
theorem ObjOk.lt (x : ObjOk P w H h a o) : a < h.objs.size := by
  cases o with
  | lst xs => obtain ⟨_, _, _, _, e⟩ := x; exact Heap.lt_size e
  | tup xs => obtain ⟨_, _, _, p⟩ := x; exact p.lt
  | dK kvs => obtain ⟨_, _, _, _, o, _, _, e, _⟩ := x; exact Heap.lt_size e
  | dT kvs => obtain ⟨_, _, _, _, o, _, _, e, _⟩ := x; exact Heap.lt_size e
  | set S n => obtain ⟨o, _, _, _, e, _⟩ := x; exact Heap.lt_size e
  | ins C dx fs => obtain ⟨_, _, _, e, _⟩ := x; exact Heap.lt_size e
  | own y => obtain ⟨_, e⟩ := x; exact Heap.lt_size e
  | xd fs => obtain ⟨_, ⟨_, _, _, e, _⟩, _⟩ := x; exact Heap.lt_size e
  | rng lo hi => obtain ⟨_, _, _, e⟩ := x; exact Heap.lt_size e
  | frz ob u => obtain ⟨e, _⟩ := x; exact Heap.lt_size e
  | tbl ps => exact Heap.lt_size (show h.get? a = some _ from x)
  | met f y => exact Heap.lt_size (show h.get? a = some _ from x)
  | ext φ => obtain ⟨_, ⟨_, e⟩, _⟩ := x; exact Heap.lt_size e
theorem Paired.mapP {α β : Type} {F G : α → β → Prop} : ∀ {l₁ : List α} {l₂ : List β}, Paired F l₁ l₂ → (∀ a b, F a b → G a b) → Paired G l₁ l₂
  | _, _, .nil, _ => .nil
  | _, _, .cons r t, f => .cons (f _ _ r) (Paired.mapP t f)
/-- what an object's description leans on: its own object, its own dict, the tuples -/
theorem ObjOk.stay (x : ObjOk P w H h a o) (k : ∀ b u, (b = a ∨ H b = some (.own a)) → h.get? b = some u → h'.get? b = some u)
    (ho : ∀ b, H b = some (.own a) → H' b = some (.own a)) (ht : ∀ b xs, H b = some (.tup xs) → H' b = some (.tup xs)) : ObjOk P w H' h' a o := by
  induction o with
  | lst xs => obtain ⟨z, its, n, r, e⟩ := x; exact ⟨z, its, n, r, k _ _ (.inl rfl) e⟩
  | tup xs => obtain ⟨z, its, r, ob, e, c⟩ := x; exact ⟨z, its, r, ob, k _ _ (.inl rfl) e, c⟩
  | dK kvs => obtain ⟨z, y, vs, r, ob, es, ep, e, c⟩ := x; exact ⟨z, y, vs, r, ob, es, ep, k _ _ (.inl rfl) e, c⟩
  | dT kvs =>
    obtain ⟨z, y, xs, r, ob, es, ep, e, c⟩ := x
    exact ⟨z, y, xs, Paired.mapP r fun p q z => ⟨z.1, ht _ _ z.2.1, z.2.2⟩, ob, es, ep, k _ _ (.inl rfl) e, c⟩
  | set S n => obtain ⟨ob, es, ep, t, e, c⟩ := x; exact ⟨ob, es, ep, t, k _ _ (.inl rfl) e, c⟩
  | ins C dx fs =>
    obtain ⟨d, z, ne, e, mA, ⟨od, es, ep, e2, c⟩, r⟩ := x
    exact ⟨ho _ d, z, ne, k _ _ (.inl rfl) e, mA, ⟨od, es, ep, k _ _ (.inr d) e2, c⟩, r⟩
  | own y => obtain ⟨ob, e⟩ := x; exact ⟨ob, k _ _ (.inl rfl) e⟩
  | xd fs => obtain ⟨mA, ⟨od, es, ep, e, c⟩, r⟩ := x; exact ⟨mA, ⟨od, es, ep, k _ _ (.inl rfl) e, c⟩, r⟩
  | rng lo hi => obtain ⟨t, u, v, e⟩ := x; exact ⟨t, u, v, k _ _ (.inl rfl) e⟩
  | frz ob u ih => obtain ⟨e, q⟩ := x; exact ⟨k _ _ (.inl rfl) e, ih q⟩
  | tbl ps =>
    have e : h.get? a = some { cls := .none, data := .fields ps } := x
    show h'.get? a = some { cls := .none, data := .fields ps }
    exact k a _ (.inl rfl) e
  | met f y =>
    have e : h.get? a = some (PySem.W.methodObj (.ref f) (.ref y)) := x
    show h'.get? a = some (PySem.W.methodObj (.ref f) (.ref y))
    exact k a _ (.inl rfl) e
  | ext φ => obtain ⟨p, ⟨o, e⟩, st⟩ := x; exact ⟨st _ _ p fun o q => k _ _ (.inl rfl) q, ⟨o, k _ _ (.inl rfl) e⟩, st⟩
theorem HOk.lt (x : HOk P w H h) (e : H a = some o) : a < h.objs.size := (x a o e).lt
theorem HOk.fresh (x : HOk P w H h) (e : h.objs.size ≤ a) : H a = none := by
  cases q : H a with
  | none => rfl
  | some u => exact absurd (Nat.lt_of_lt_of_le (x.lt q) e) (Nat.lt_irrefl _)
/-- every object of the heap is kept -/
theorem HOk.kept (x : HOk P w H h) (k : ∀ b u, h.get? b = some u → h'.get? b = some u) : HOk P w H h' := fun a o e =>
  (x a o e).stay (fun b u _ q => k b u q) (fun _ q => q) fun _ _ q => q
/-- a new object is laid and tracked -/
theorem HOk.laid (x : HOk P w H h) (k : ∀ b u, h.get? b = some u → h'.get? b = some u) (hp : h.objs.size ≤ a) (new : ObjOk P w (upd H a o) h' a o) : HOk P w (upd H a o) h' := fun b u e => by
  have hn := x.fresh hp
  by_cases hb : b = a
  · subst hb; rw [upd_same] at e; cases e; exact new
  · rw [upd_ne hb] at e
    exact (x b u e).stay (fun c v _ q => k c v q) (fun c q => by rw [upd_ne (ne_of_none q hn)]; exact q) fun c xs q => by rw [upd_ne (ne_of_none q hn)]; exact q
end

/-- what may be read as u: it is u, or a known u -/
def Rd (H : Hp) (a : Addr) (u : HO) : Prop := H a = some u ∨ ∃ o, H a = some (.frz o u)
theorem Rd.of {H : Hp} {a : Addr} {u : HO} (h : H a = some u) : Rd H a u := .inl h
theorem Rd.ok {P : Program} {w : World} {H : Hp} {h : Heap} {a : Addr} {u : HO} (r : Rd H a u) (x : HOk P w H h) : ObjOk P w H h a u := by
  rcases r with r | ⟨o, r⟩
  · exact x a u r
  · obtain ⟨_, q⟩ := x a _ r
    exact q
/-- what may be written -/
def Mut : Option HO → Prop
  | some (.lst _) => True
  | some (.dK _) => True
  | some (.dT _) => True
  | some (.set _ _) => True
  | some (.ins _ _ _) => True
  | some (.ext _) => True
  | _ => False
section
variable {P : Program} {w : World} {H : Hp} {h h' : Heap} {x e : Addr} {o' : HO}
/-- the object at e is changed: x itself, or the dict of the instance x -/
theorem HOk.write (ok : HOk P w H h) (mu : Mut (H x)) (he : e = x ∨ H e = some (.own x)) (k : ∀ b u, b ≠ e → h.get? b = some u → h'.get? b = some u) (heo : ∃ u, h'.get? e = some u)
    (new : ObjOk P w (upd H x o') h' x o') : HOk P w (upd H x o') h' := fun b u q => by
  have nown : ∀ c y, H c = some (.own y) → c ≠ x := fun c y r z => by subst z; rw [r] at mu; exact mu
  have ntup : ∀ c xs, H c = some (.tup xs) → c ≠ x := fun c xs r z => by subst z; rw [r] at mu; exact mu
  by_cases hb : b = x
  · subst hb; rw [upd_same] at q; cases q; exact new
  · rw [upd_ne hb] at q
    by_cases hbe : b = e
    · have q' : H b = some (.own x) := by
        rcases he with z | z
        · exact absurd (hbe.trans z) hb
        · rw [hbe]; exact z
      rw [q] at q'; cases q'
      obtain ⟨v, hv⟩ := heo
      exact ⟨v, by rw [hbe]; exact hv⟩
    · refine (ok b u q).stay (fun c v hc r => k c v ?_ r) (fun c r => by rw [upd_ne (nown c b r)]; exact r) fun c xs r => by rw [upd_ne (ntup c xs r)]; exact r
      rcases hc with rfl | hc
      · exact hbe
      · rintro rfl
        rcases he with z | z
        · exact nown c b hc z
        · rw [hc] at z; cases z; exact hb rfl
end

/-! ### kept unless tracked; of the frames at fs (the callers') the slots may change (an exception that passes writes there); of the records at ex (iterators) nothing is said -/
structure Un (fs ex : List Addr) (H H' : Hp) (h h' : Heap) : Prop where
  keep : ∀ b o, h.get? b = some o → H b = none → b ∉ fs → b ∉ ex → h'.get? b = some o
  slot : ∀ b o, h.get? b = some o → H b = none → b ∈ fs → b ∉ ex → ∃ sl, h'.get? b = some { o with slots := sl }
  free : ∀ b o, h.get? b = some o → H b = none → b ∉ ex → H' b = none
  there : ∀ b o, h.get? b = some o → b ∉ ex → ∃ o', h'.get? b = some o'
  tups : ∀ b xs, H b = some (.tup xs) → H' b = some (.tup xs)
  frzs : ∀ b o u, H b = some (.frz o u) → H' b = some (.frz o u)
  tbls : ∀ b ps, H b = some (.tbl ps) → ∃ more, H' b = some (.tbl (ps ++ more))
section
variable {fs fs' ex ex' : List Addr} {H H1 H2 : Hp} {h h1 h2 h' : Heap} {a x e : Addr} {o : HO}
theorem Un.any (u : Un fs ex H H1 h h1) {b : Addr} {ob : Obj} (q : h.get? b = some ob) (n : H b = none) (hx : b ∉ ex) : ∃ sl, h1.get? b = some { ob with slots := sl } := by
  by_cases hb : b ∈ fs
  · exact u.slot b ob q n hb hx
  · exact ⟨ob.slots, u.keep b ob q n hb hx⟩
theorem Un.trans (a : Un fs ex H H1 h h1) (b : Un fs ex H1 H2 h1 h2) : Un fs ex H H2 h h2 where
  keep := fun c ob q n hc hx => b.keep c ob (a.keep c ob q n hc hx) (a.free c ob q n hx) hc hx
  slot := fun c ob q n hc hx => by
    obtain ⟨sl, e1⟩ := a.slot c ob q n hc hx
    obtain ⟨sl', e2⟩ := b.slot c _ e1 (a.free c ob q n hx) hc hx
    exact ⟨sl', e2⟩
  free := fun c ob q n hx => by
    obtain ⟨o', e1⟩ := a.there c ob q hx
    exact b.free c o' e1 (a.free c ob q n hx) hx
  there := fun c ob q hx => by
    obtain ⟨o', e1⟩ := a.there c ob q hx
    exact b.there c o' e1 hx
  tups := fun c xs q => b.tups c xs (a.tups c xs q)
  frzs := fun c ob xs q => b.frzs c ob xs (a.frzs c ob xs q)
  tbls := fun c ps q => by
    obtain ⟨m1, e1⟩ := a.tbls c ps q
    obtain ⟨m2, e2⟩ := b.tbls c _ e1
    exact ⟨m1 ++ m2, by rw [e2, Array.append_assoc]⟩
theorem Un.kept (k : ∀ b u, h.get? b = some u → h'.get? b = some u) : Un fs ex H H h h' :=
  ⟨fun b ob q _ _ _ => k b ob q, fun b ob q _ _ _ => ⟨ob.slots, k b ob q⟩, fun _ _ _ n _ => n, fun b ob q _ => ⟨ob, k b ob q⟩, fun _ _ q => q, fun _ _ _ q => q, fun _ ps q => ⟨#[], by rw [q]; simp⟩⟩
theorem Un.refl : Un fs ex H H h h := Un.kept fun _ _ q => q
theorem Un.laid (k : ∀ b u, h.get? b = some u → h'.get? b = some u) (hp : h.objs.size ≤ a) (hn : H a = none) : Un fs ex H (upd H a o) h h' where
  keep := fun b u q _ _ _ => k b u q
  slot := fun b u q _ _ _ => ⟨u.slots, k b u q⟩
  free := fun b u q n _ => by rw [upd_ne (Nat.ne_of_lt (Nat.lt_of_lt_of_le (Heap.lt_size q) hp))]; exact n
  there := fun b u q _ => ⟨u, k b u q⟩
  tups := fun b xs q => by rw [upd_ne (ne_of_none q hn)]; exact q
  frzs := fun b u xs q => by rw [upd_ne (ne_of_none q hn)]; exact q
  tbls := fun b ps q => ⟨#[], by rw [upd_ne (ne_of_none q hn), q]; simp⟩
theorem Un.write (mu : Mut (H x)) (he : e = x ∨ H e = some (.own x)) (k : ∀ b u, b ≠ e → h.get? b = some u → h'.get? b = some u) (heo : ∃ u, h'.get? e = some u) : Un fs ex H (upd H x o) h h' := by
  have hx : ∀ b, H b = none → b ≠ x := fun b n z => by subst z; rw [n] at mu; exact mu
  have hb : ∀ b, H b = none → b ≠ e := fun b n z => by
    subst z
    rcases he with r | r
    · exact hx b n r
    · rw [n] at r; cases r
  have hm : ∀ b u, H b = some u → ¬ Mut (some u) → b ≠ x := fun b u q nm z => by subst z; rw [q] at mu; exact nm mu
  refine ⟨fun b u q n _ _ => k b u (hb b n) q, fun b u q n _ _ => ⟨u.slots, k b u (hb b n) q⟩, fun b u q n _ => by rw [upd_ne (hx b n)]; exact n, fun b u q _ => ?_,
    fun b xs q => by rw [upd_ne (hm b _ q fun z => z)]; exact q, fun b u xs q => by rw [upd_ne (hm b _ q fun z => z)]; exact q, fun b ps q => ⟨#[], by rw [upd_ne (hm b _ q fun z => z), q]; simp⟩⟩
  by_cases hbe : b = e
  · subst hbe; exact heo
  · exact ⟨u, k b u hbe q⟩
theorem Un.mono (u : Un fs ex H H1 h h1) (hs : ∀ b ∈ fs, b ∈ fs') (hx : ∀ b ∈ ex, b ∈ ex') : Un fs' ex' H H1 h h1 :=
  ⟨fun b ob q n hb he => u.keep b ob q n (fun z => hb (hs b z)) fun z => he (hx b z), fun _ _ q n _ he => u.any q n fun z => he (hx _ z), fun b ob q n he => u.free b ob q n fun z => he (hx b z), fun b ob q he => u.there b ob q fun z => he (hx b z), u.tups, u.frzs, u.tbls⟩
end

/-! ### the heap without what is tracked -/
def trk (h : Heap) (H : Hp) : List Addr := (List.range h.objs.size).filter fun a => (H a).isSome
def hidT (h : Heap) (H : Hp) : Heap := PySem.W.hideAll h (trk h H)
theorem hidT_size (h : Heap) (H : Hp) : (hidT h H).objs.size = h.objs.size := PySem.W.hideAll_size _ _
theorem hidT_get {h : Heap} {H : Hp} {b : Addr} {o : Obj} (e : h.get? b = some o) (n : H b = none) : (hidT h H).get? b = some o :=
  PySem.W.hideAll_get _ e fun hm => by
    have q : (H b).isSome = true := (List.mem_filter.mp hm).2
    rw [n] at q; simp at q
theorem of_hidT {h : Heap} {H : Hp} {b : Addr} {o : Obj} (e : (hidT h H).get? b = some o) : h.get? b = some o ∧ H b = none := by
  have e' : h.get? b = some o := PySem.W.of_hideAll (trk h H) e
  refine ⟨e', ?_⟩
  cases q : H b with
  | none => rfl
  | some x =>
    have hm : b ∈ trk h H := List.mem_filter.mpr ⟨List.mem_range.mpr (Heap.lt_size e'), by simp [q]⟩
    have z : (hidT h H).get? b = none := PySem.W.hideAll_none (trk h H) hm
    rw [z] at e; cases e

/-! ### OpenK's ledger, filled with every new object but one -/
def allNews (g h : Heap) (L : Addr) : List (Addr × Obj) := (List.range h.objs.size).filterMap fun a => if a = L ∨ (g.get? a).isSome = true then none else (h.get? a).map fun o => (a, o)
def rest (g h : Heap) (L d : Addr) : List (Addr × Obj) := (allNews g h L).filter fun p => decide (p.1 ≠ d)
end L2

namespace L2
open PySem PySem.Spec PyProof.Rows

/-- the module's facts, over the base: the heap at the law's entry without what is tracked there -/
structure Mod (K : PySem.W.Frag) (mg : Str → Option Value) (base : Heap) : Prop where
  kin : K.In base
  glob : base.Ns mainGlobals mg
  blt : ∃ mb, base.Ns builtinsNs mb ∧ ∀ x : Str, x ≠ "__name__" → mb x = bootBuiltins x
  nolimit : base.NoLimit

/-- the context: a def's body (or a comprehension's block) running. base: fixed through the whole law; s₀, H₀: the entry; outer: the frames whose slots others may change (a def's callers); stack: all frames that run;
   ex: iterators that were made ahead of the entry and are walked here (a comprehension's); fn: the names whose cells were made at the entry (a def: all; a comprehension's block: its own); calm: not within an except suite; pn: pins that every state bears; xe: what is wanted of an exception that leaves the code -/
structure Cx where
  prog : Program
  w : World
  K : PySem.W.Frag
  mg : Str → Option Value
  base : Heap
  A : Around
  N : List Str
  s₀ : Shared
  H₀ : Hp
  env : Env
  outer : List Env
  stack : List Env
  ex : List Addr
  fn : Str → Bool
  calm : Bool
  pn : List (Addr × Obj)
  xe : Value → Shared → Prop
/-- the callers' frames -/
def frs (l : List Env) : List Addr := l.filterMap (·.frame)
abbrev Cx.fs (X : Cx) : List Addr := frs X.outer

def Vis (sc : Scope) (x : Str) : Prop := sc.names.lookup x = some .local ∨ sc.names.lookup x = some .cell ∨ sc.names.lookup x = some .free
def Loc (sc : Scope) (x : Str) : Prop := sc.names.lookup x = some .local ∨ sc.names.lookup x = some .cell
def Look (env : Env) (h : Heap) (m : Str → Option Value) (x : Str) (u : Value) : Prop :=
  (env.kindOf x = some .local ∧ m x = some u) ∨ ((env.kindOf x = some .cell ∨ env.kindOf x = some .free) ∧ ∃ c, env.cells.lookup x = some c ∧ h.IsCell c (some u))

structure Cx.Ok (X : Cx) : Prop where
  mod : Mod X.K X.mg X.base
  kind : X.env.scope.kind = .function
  glob : X.env.globals = mainGlobals
  blt : X.env.builtins = builtinsNs
  above : X.s₀.heap.objs.size ≤ X.env.locals
  inj : ∀ x y c, X.env.cells.lookup x = some c → X.env.cells.lookup y = some c → x = y
  has : ∀ x, (X.env.kindOf x = some .cell ∨ X.env.kindOf x = some .free) → ∃ c, X.env.cells.lookup x = some c
  cab : ∀ x c, X.fn x = true → X.env.cells.lookup x = some c → X.s₀.heap.objs.size ≤ c
  hd : X.calm = true → X.A.handled = none
  frames : X.A.frames = some X.stack
  stk : X.stack = X.outer ∨ (X.stack = X.env :: X.outer ∧ X.env.frame = some X.env.locals)
  exf : ∀ b ∈ X.ex, b ≠ X.env.locals ∧ ∀ x c, X.env.cells.lookup x = some c → c ≠ b
  bs : ∀ b o, X.base.get? b = some o → X.s₀.heap.get? b = some o ∧ X.H₀ b = none
  bsz : X.base.objs.size ≤ X.s₀.heap.objs.size
  noex : ∀ b o, X.base.get? b = some o → b ∉ X.ex
  exfs : ∀ b ∈ X.ex, b ∉ X.fs
  funs : X.s₀.heap.FunFrames X.base X.outer
  frf : ∀ b ∈ X.fs, X.H₀ b = none

structure Inv (X : Cx) (pins : List (Addr × Obj)) (σ : List (Option V)) (H : Hp) (s : Shared) : Prop where
  ok : X.Ok
  os : s.os = X.s₀.os
  bare : AllBare s.gens
  base : Un X.fs X.ex X.H₀ H X.s₀.heap s.heap
  loc : ∃ m, s.heap.Ns X.env.locals m ∧ ∀ (i : Nat) (x : Str) (v : V), X.N[i]? = some x → σ[i]? = some (some v) → Vis X.env.scope x → ∃ u, RelV v u ∧ Look X.env s.heap m x u
  cell : ∀ x c, X.env.cells.lookup x = some c → ∃ v, s.heap.IsCell c v
  free : H X.env.locals = none
  freeC : ∀ x c, X.env.cells.lookup x = some c → H c = none
  pin : ∀ p ∈ X.pn ++ pins, s.heap.get? p.1 = some p.2 ∧ H p.1 = none ∧ p.1 ≠ X.env.locals ∧ p.1 ∉ X.fs ∧ ∀ v, p.2.data ≠ .cell v
  hok : HOk X.prog X.w H s.heap
  len : σ.length = X.N.length

section
variable {X : Cx} {pins : List (Addr × Obj)} {σ : List (Option V)} {H H' : Hp} {s : Shared} {h' : Heap}

theorem Cx.Ok.nofr (ok : X.Ok) {b : Addr} {o : Obj} (e : X.base.get? b = some o) : b ∉ X.fs := fun hb => by
  have := (ok.funs.mem hb).1
  rw [e] at this; cases this
theorem Inv.bs (I : Inv X pins σ H s) : ∀ b o, X.base.get? b = some o → s.heap.get? b = some o ∧ H b = none := fun b o e =>
  ⟨I.base.keep b o (I.ok.bs b o e).1 (I.ok.bs b o e).2 (I.ok.nofr e) (I.ok.noex b o e), I.base.free b o (I.ok.bs b o e).1 (I.ok.bs b o e).2 (I.ok.noex b o e)⟩
theorem Inv.bk (I : Inv X pins σ H s) : ∀ b o, X.base.get? b = some o → s.heap.get? b = some o := fun b o e => (I.bs b o e).1
theorem Inv.mod (I : Inv X pins σ H s) : Mod X.K X.mg X.base := I.ok.mod
theorem Inv.kIn (I : Inv X pins σ H s) : X.K.In s.heap := I.ok.mod.kin.keeps I.bk
theorem Inv.nolimit (I : Inv X pins σ H s) : s.heap.NoLimit := I.ok.mod.nolimit.keeps I.bk
/-- the frame over the base: for OpenK's rules (K.In X.base is I.mod.kin) -/
theorem Inv.fr (I : Inv X pins σ H s) : ∃ m, Fr X.base X.env.locals s.heap m :=
  let ⟨m, hn, _⟩ := I.loc
  ⟨m, hn, I.bk, Nat.le_trans I.ok.bsz I.ok.above⟩
theorem Inv.lt (I : Inv X pins σ H s) : X.env.locals < s.heap.objs.size := let ⟨_, hn, _⟩ := I.loc; hn.lt
theorem Inv.sz (I : Inv X pins σ H s) : X.s₀.heap.objs.size ≤ s.heap.objs.size := Nat.le_trans I.ok.above (Nat.le_of_lt I.lt)
theorem Inv.nofs (I : Inv X pins σ H s) {a : Addr} (h : s.heap.objs.size ≤ a) : a ∉ X.fs := fun hb => by
  obtain ⟨_, o, ho, _⟩ := I.ok.funs.mem hb
  exact absurd (Nat.lt_of_lt_of_le (Heap.lt_size ho) (Nat.le_trans I.sz h)) (Nat.lt_irrefl _)
theorem Inv.cne (I : Inv X pins σ H s) : ∀ x c, X.env.cells.lookup x = some c → c ≠ X.env.locals := fun x c e z => by
  obtain ⟨v, o, ho, hd⟩ := I.cell x c e
  obtain ⟨m, ⟨o', es, ep, ho', hd', _⟩, _⟩ := I.loc
  rw [z, ho'] at ho; cases ho; rw [hd'] at hd; cases hd
theorem Inv.funs (I : Inv X pins σ H s) : s.heap.FunFrames X.base X.outer := by
  have all : ∀ (l : List Env), (∀ b ∈ frs l, b ∈ X.fs) → X.s₀.heap.FunFrames X.base l → s.heap.FunFrames X.base l := by
    intro l
    induction l with
    | nil => intro _ _; trivial
    | cons env r ih =>
      intro hs hl
      obtain ⟨hk, ⟨L, o, hf, hn, ho, hd⟩, hr⟩ := hl
      have hL : L ∈ X.fs := hs L (by unfold frs; rw [List.filterMap_cons, hf]; exact List.mem_cons_self)
      obtain ⟨sl, e⟩ := I.base.slot L o ho (I.ok.frf L hL) hL fun z => I.ok.exfs L z hL
      exact ⟨hk, ⟨L, _, hf, hn, e, hd⟩, ih (fun b hb => hs b (by unfold frs; rw [List.filterMap_cons, hf]; exact List.mem_cons_of_mem _ hb)) hr⟩
  exact all X.outer (fun _ hb => hb) I.ok.funs

/-- the frames that run, for a call -/
theorem Inv.stack (I : Inv X pins σ H s) : s.heap.FunFrames X.base X.stack := by
  rcases I.ok.stk with e | ⟨e, hf⟩
  · rw [e]; exact I.funs
  · rw [e]
    obtain ⟨m, hn, _⟩ := I.loc
    refine .cons (by rw [I.ok.kind]; decide) hf hn ?_ I.funs
    exact Heap.get?_none_of_le (Nat.le_trans I.ok.bsz I.ok.above)
theorem Inv.stkSub (I : Inv X pins σ H s) : ∀ b ∈ frs X.stack, b ∈ X.env.locals :: X.fs := fun b hb => by
  rcases I.ok.stk with e | ⟨e, hf⟩
  · rw [e] at hb; exact List.mem_cons_of_mem _ hb
  · rw [e] at hb
    unfold frs at hb
    rw [List.filterMap_cons, hf] at hb
    exact hb
theorem Inv.stkFree (I : Inv X pins σ H s) : ∀ b ∈ frs X.stack, H b = none := fun b hb => by
  rcases List.mem_cons.mp (I.stkSub b hb) with e | hb
  · rw [e]; exact I.free
  · obtain ⟨_, o, ho, _⟩ := I.ok.funs.mem hb
    exact I.base.free b o ho (I.ok.frf b hb) fun z => I.ok.exfs b z hb

/-- THE STEP: the untracked objects but the frame and the records at ch are kept (the callers' frames up to slots), the frame's map is kept, the new abstract heap is held -/
theorem Inv.step {g' : Array GenState} {t' : Nat} {d' : Drawn} {ch : List Addr} (I : Inv X pins σ H s)
    (hch : ∀ b ∈ ch, (b ∈ X.ex ∨ X.s₀.heap.objs.size ≤ b) ∧ b ≠ X.env.locals ∧ (∀ x c, X.env.cells.lookup x = some c → c ≠ b) ∧ ∀ p ∈ X.pn ++ pins, p.1 ≠ b)
    (keep : ∀ b o, b ≠ X.env.locals → b ∉ X.fs → b ∉ ch → s.heap.get? b = some o → H b = none → h'.get? b = some o)
    (slot : ∀ b o, b ≠ X.env.locals → b ∈ X.fs → b ∉ ch → s.heap.get? b = some o → H b = none → ∃ sl, h'.get? b = some { o with slots := sl }) (free : ∀ b o, b ∉ ch → s.heap.get? b = some o → H b = none → H' b = none)
    (there : ∀ b o, b ∉ ch → s.heap.get? b = some o → ∃ o', h'.get? b = some o')
    (tups : ∀ b xs, H b = some (.tup xs) → H' b = some (.tup xs)) (frzs : ∀ b o u, H b = some (.frz o u) → H' b = some (.frz o u)) (tbls : ∀ b ps, H b = some (.tbl ps) → ∃ more, H' b = some (.tbl (ps ++ more)))
    (ns : ∀ m, s.heap.Ns X.env.locals m → h'.Ns X.env.locals m) (hok : HOk X.prog X.w H' h') (hg : AllBare g') :
    Inv X pins σ H' { s with heap := h', gens := g', drawn := d', toks := t' } := by
  have neL : ∀ b o, X.s₀.heap.get? b = some o → b ≠ X.env.locals := fun b o e => Nat.ne_of_lt (Nat.lt_of_lt_of_le (Heap.lt_size e) I.ok.above)
  have neC : ∀ b o, X.s₀.heap.get? b = some o → b ∉ X.ex → b ∉ ch := fun b o e hx hb => by
    rcases (hch b hb).1 with z | z
    · exact hx z
    · exact absurd (Nat.lt_of_lt_of_le (Heap.lt_size e) z) (Nat.lt_irrefl _)
  have cellK : ∀ x c, X.env.cells.lookup x = some c → ∀ v, s.heap.IsCell c v → h'.IsCell c v := fun x c e v ⟨o, ho, hd⟩ => by
    have nch : c ∉ ch := fun z => (hch c z).2.2.1 x c e rfl
    by_cases hc : c ∈ X.fs
    · obtain ⟨sl, q⟩ := slot c o (I.cne x c e) hc nch ho (I.freeC x c e)
      exact ⟨_, q, hd⟩
    · exact ⟨o, keep c o (I.cne x c e) hc nch ho (I.freeC x c e), hd⟩
  refine ⟨I.ok, I.os, hg, ⟨fun b o e n hb hx => ?_, fun b o e n hb hx => ?_, fun b o e n hx => ?_, fun b o e hx => ?_, fun b xs e => tups b xs (I.base.tups b xs e), fun b o xs e => frzs b o xs (I.base.frzs b o xs e), fun b ps e => ?_⟩, ?_, fun x c e => ?_, ?_, fun x c e => ?_, fun p hp => ?_, hok, I.len⟩
  · exact keep b o (neL b o e) hb (neC b o e hx) (I.base.keep b o e n hb hx) (I.base.free b o e n hx)
  · obtain ⟨sl, e1⟩ := I.base.slot b o e n hb hx
    obtain ⟨sl', e2⟩ := slot b _ (neL b o e) hb (neC b o e hx) e1 (I.base.free b o e n hx)
    exact ⟨sl', e2⟩
  · obtain ⟨o', e1⟩ := I.base.there b o e hx
    exact free b o' (neC b o e hx) e1 (I.base.free b o e n hx)
  · obtain ⟨o', e1⟩ := I.base.there b o e hx
    exact there b o' (neC b o e hx) e1
  · obtain ⟨m1, e1⟩ := I.base.tbls b ps e
    obtain ⟨m2, e2⟩ := tbls b _ e1
    exact ⟨m1 ++ m2, by rw [e2, Array.append_assoc]⟩
  · obtain ⟨m, hn, hl⟩ := I.loc
    refine ⟨m, ns m hn, fun i x v e1 e2 e3 => ?_⟩
    obtain ⟨u, r, l⟩ := hl i x v e1 e2 e3
    refine ⟨u, r, ?_⟩
    rcases l with l | ⟨k, c, e, z⟩
    · exact .inl l
    · exact .inr ⟨k, c, e, cellK x c e _ z⟩
  · obtain ⟨v, z⟩ := I.cell x c e
    exact ⟨v, cellK x c e v z⟩
  · obtain ⟨m, ⟨o, _, _, ho, _⟩, _⟩ := I.loc
    exact free _ o (fun z => (hch _ z).2.1 rfl) ho I.free
  · obtain ⟨v, o, ho, hd⟩ := I.cell x c e
    exact free c o (fun z => (hch c z).2.2.1 x c e rfl) ho (I.freeC x c e)
  · obtain ⟨e, n, ne, nf, d⟩ := I.pin p hp
    have nch : p.1 ∉ ch := fun z => (hch p.1 z).2.2.2 p hp rfl
    exact ⟨keep p.1 p.2 ne nf nch e n, free p.1 p.2 nch e n, ne, nf, d⟩
/-- .. where the frame's own object is kept too -/
theorem Inv.un {t' : Nat} (I : Inv X pins σ H s) (u : Un X.fs [] H H' s.heap h') (hok : HOk X.prog X.w H' h') : Inv X pins σ H' { s with heap := h', toks := t' } := by
  obtain ⟨m, ⟨o, es, ep, ho, r⟩, _⟩ := id I.loc
  obtain ⟨sl, hL⟩ := u.any ho I.free (by simp)
  exact I.step (g' := s.gens) (d' := s.drawn) (ch := []) (fun _ z => nomatch z) (fun b o _ hb _ e n => u.keep b o e n hb (by simp)) (fun b o _ hb _ e n => u.slot b o e n hb (by simp)) (fun b o _ e n => u.free b o e n (by simp)) (fun b o _ e => u.there b o e (by simp)) u.tups u.frzs u.tbls (fun m' hm => by
    obtain ⟨o', es', ep', ho', r'⟩ := hm
    rw [ho] at ho'; cases ho'
    exact ⟨_, es', ep', hL, r'⟩) hok I.bare
/-- behind a call (or a comprehension's block): the slots of this frame may have changed too, the records at ch may have turned -/
theorem Inv.call {g' : Array GenState} {t' : Nat} {d' : Drawn} {ch : List Addr} (I : Inv X pins σ H s) (u : Un (frs X.stack) ch H H' s.heap h') (hok : HOk X.prog X.w H' h') (hg : AllBare g')
    (hch : ∀ b ∈ ch, (b ∈ X.ex ∨ X.s₀.heap.objs.size ≤ b) ∧ b ≠ X.env.locals ∧ (∀ x c, X.env.cells.lookup x = some c → c ≠ b) ∧ ∀ p ∈ X.pn ++ pins, p.1 ≠ b) :
    Inv X pins σ H' { s with heap := h', gens := g', drawn := d', toks := t' } := by
  obtain ⟨m, ⟨o, es, ep, ho, r⟩, _⟩ := id I.loc
  obtain ⟨sl, hL⟩ := u.any ho I.free fun z => (hch _ z).2.1 rfl
  exact I.step (ch := ch) hch (fun b o hL hb hc e n => u.keep b o e n (fun z => (List.mem_cons.mp (I.stkSub b z)).elim hL hb) hc) (fun b o _ _ hc e n => u.any e n hc) (fun b o hc e n => u.free b o e n hc) (fun b o hc e => u.there b o e hc) u.tups u.frzs u.tbls (fun m' hm => by
    obtain ⟨o', es', ep', ho', r'⟩ := hm
    rw [ho] at ho'; cases ho'
    exact ⟨_, es', ep', hL, r'⟩) hok hg
/-- an untracked record of ours (an iterator) has turned -/
theorem Inv.turned {t' : Nat} {it : Addr} (I : Inv X pins σ H s) (k : ∀ b o, b ≠ it → s.heap.get? b = some o → h'.get? b = some o) (hn : H it = none) (hL : it ≠ X.env.locals)
    (h1 : it ∈ X.ex ∨ X.s₀.heap.objs.size ≤ it) (h2 : ∀ x c, X.env.cells.lookup x = some c → c ≠ it) (h3 : ∀ p ∈ X.pn ++ pins, p.1 ≠ it) : Inv X pins σ H { s with heap := h', toks := t' } := by
  have nit : ∀ b u, H b = some u → b ≠ it := fun b u e z => by rw [z, hn] at e; cases e
  refine I.step (g' := s.gens) (d' := s.drawn) (ch := [it]) (fun b hb => ?_) (fun b o _ _ hc e _ => k b o (fun z => hc (by simp [z])) e) (fun b o _ _ hc e _ => ⟨o.slots, k b o (fun z => hc (by simp [z])) e⟩) (fun _ _ _ _ n => n)
    (fun b o hc e => ⟨o, k b o (fun z => hc (by simp [z])) e⟩) (fun _ _ e => e) (fun _ _ _ e => e) (fun b ps e => ⟨#[], by rw [e]; simp⟩) (fun m hm => ?_) (fun b u e => ?_) I.bare
  · have e : b = it := by simpa using hb
    subst e
    exact ⟨h1, hL, h2, h3⟩
  · obtain ⟨o, es, ep, ho, r⟩ := hm
    exact ⟨o, es, ep, k _ o (Ne.symm hL) ho, r⟩
  · refine (I.hok b u e).stay (fun c v hc q => k c v ?_ q) (fun _ q => q) fun _ _ q => q
    rcases hc with z | z
    · rw [z]; exact nit b u e
    · exact nit c _ z
theorem Inv.tok (I : Inv X pins σ H s) (t : Nat) : Inv X pins σ H { s with toks := t } := I.un (h' := s.heap) (t' := t) Un.refl I.hok
/-- all objects kept -/
theorem Inv.kept {t' : Nat} (I : Inv X pins σ H s) (k : ∀ b u, s.heap.get? b = some u → h'.get? b = some u) : Inv X pins σ H { s with heap := h', toks := t' } := I.un (Un.kept k) (I.hok.kept k)
/-- a new object laid and tracked -/
theorem Inv.laid {a : Addr} {o : HO} {t' : Nat} (I : Inv X pins σ H s) (k : ∀ b u, s.heap.get? b = some u → h'.get? b = some u) (hp : s.heap.objs.size ≤ a) (new : ObjOk X.prog X.w (upd H a o) h' a o) :
    Inv X pins σ (upd H a o) { s with heap := h', toks := t' } := I.un (Un.laid k hp (I.hok.fresh hp)) (I.hok.laid k hp new)
/-- an object written -/
theorem Inv.write {x e : Addr} {o : HO} {t' : Nat} (I : Inv X pins σ H s) (mu : Mut (H x)) (he : e = x ∨ H e = some (.own x)) (k : ∀ b u, b ≠ e → s.heap.get? b = some u → h'.get? b = some u) (heo : ∃ u, h'.get? e = some u)
    (new : ObjOk X.prog X.w (upd H x o) h' x o) : Inv X pins σ (upd H x o) { s with heap := h', toks := t' } := I.un (Un.write mu he k heo) (I.hok.write mu he k heo new)
/-- forgetting slots, pins -/
theorem Inv.weak {σ' : List (Option V)} (I : Inv X pins σ H s) (hl : σ'.length = σ.length) (w : ∀ (i : Nat) v, σ'[i]? = some (some v) → σ[i]? = some (some v)) : Inv X pins σ' H s :=
  ⟨I.ok, I.os, I.bare, I.base, let ⟨m, hn, hl'⟩ := I.loc; ⟨m, hn, fun i x v e1 e2 e3 => hl' i x v e1 (w i v e2) e3⟩, I.cell, I.free, I.freeC, I.pin, I.hok, hl.trans I.len⟩
theorem Inv.pins_of {pins' : List (Addr × Obj)} (I : Inv X pins σ H s) (h : ∀ p ∈ pins', s.heap.get? p.1 = some p.2 ∧ H p.1 = none ∧ p.1 ≠ X.env.locals ∧ p.1 ∉ X.fs ∧ ∀ v, p.2.data ≠ .cell v) : Inv X pins' σ H s :=
  ⟨I.ok, I.os, I.bare, I.base, I.loc, I.cell, I.free, I.freeC, fun p hp => (List.mem_append.mp hp).elim (fun z => I.pin p (List.mem_append_left _ z)) (h p), I.hok, I.len⟩

theorem nodup_ix {N : List Str} (hN : N.Nodup) {i j : Nat} {x : Str} (a : N[i]? = some x) (b : N[j]? = some x) : i = j := by
  obtain ⟨h1, e1⟩ := List.getElem?_eq_some_iff.mp a
  obtain ⟨h2, e2⟩ := List.getElem?_eq_some_iff.mp b
  exact (List.getElem_inj hN).mp (e1.trans e2.symm)

/-- a name is stored; what changed -/
theorem store_ok2 {M : Model} {A : Around} {E : Value → Shared → Prop} {i : Nat} {x : Str} {v : V} {u : Value} {Q : Unit → Shared → Prop} (I : Inv X pins σ H s) (hN : X.N.Nodup) (hi : X.N[i]? = some x) (hx : Loc X.env.scope x) (r : RelV v u)
    (h : ∀ s', Inv X pins (σ.set i (some v)) H s' → (∃ a, Heap.SameBut a s.heap s'.heap ∧ (a = X.env.locals ∨ X.env.cells.lookup x = some a)) → Q () s') (hf : X.fn x = true ∨ X.env.scope.names.lookup x = some .local := by first | exact .inl rfl | exact .inr rfl | assumption) : wpAny M A (storeName X.env x u) Q E s := by
  obtain ⟨m, hn, hl⟩ := id I.loc
  have hcls : (X.env.scope.kind == .class || (X.env.scope.kind == .module && X.env.locals != X.env.globals)) = false := by rw [I.ok.kind]; rfl
  have hiσ : i < σ.length := by rw [I.len]; exact (List.getElem?_eq_some_iff.mp hi).1
  have cne := I.cne
  have tracked : ∀ {a : Addr} {h' : Heap}, (∃ o, s.heap.get? a = some o ∧ H a = none) → Heap.SameBut a s.heap h' → HOk X.prog X.w H h' := fun {a h'} ha hs b ob e => by
    obtain ⟨_, _, hfree⟩ := ha
    refine (I.hok b ob e).stay (fun c w' hc q => (hs.2 c ?_).trans q) (fun _ q => q) fun _ _ q => q
    rintro rfl
    rcases hc with rfl | hc
    · rw [hfree] at e; cases e
    · rw [hfree] at hc; cases hc
  rcases hx with hk | hk
  · refine wpAny_storeName_local hk hn (fun h' hn' hs => ?_) hcls
    obtain ⟨oL, _, _, hoL, _⟩ := id hn
    refine h _ ⟨I.ok, I.os, I.bare, ⟨fun b o e n hb hx => ?_, fun b o e n hb hx => ?_, I.base.free, fun b o e hx => ?_, I.base.tups, I.base.frzs, I.base.tbls⟩, ⟨_, hn', fun j y v' e1 e2 e3 => ?_⟩, fun y c e => ?_, I.free, I.freeC, fun p hp => ?_, tracked ⟨oL, hoL, I.free⟩ hs, by simpa using I.len⟩ ⟨_, hs, .inl rfl⟩
    · exact (hs.2 b (Nat.ne_of_lt (Nat.lt_of_lt_of_le (Heap.lt_size e) I.ok.above))).trans (I.base.keep b o e n hb hx)
    · obtain ⟨sl, e1⟩ := I.base.slot b o e n hb hx
      exact ⟨sl, (hs.2 b (Nat.ne_of_lt (Nat.lt_of_lt_of_le (Heap.lt_size e) I.ok.above))).trans e1⟩
    · obtain ⟨o', e1⟩ := I.base.there b o e hx
      exact ⟨o', (hs.2 b (Nat.ne_of_lt (Nat.lt_of_lt_of_le (Heap.lt_size e) I.ok.above))).trans e1⟩
    · by_cases hj : j = i
      · subst hj
        rw [hi] at e1; cases e1
        rw [List.getElem?_set_self hiσ] at e2
        cases e2
        exact ⟨u, r, .inl ⟨hk, by simp⟩⟩
      · rw [List.getElem?_set_ne (Ne.symm hj)] at e2
        obtain ⟨u', r', q⟩ := hl j y v' e1 e2 e3
        refine ⟨u', r', ?_⟩
        rcases q with ⟨k, e⟩ | ⟨k, c, e, z⟩
        · refine .inl ⟨k, ?_⟩
          have : y ≠ x := fun e => hj (nodup_ix hN e1 (e ▸ hi))
          simp [this, e]
        · exact .inr ⟨k, c, e, z.sameBut hs (cne y c e)⟩
    · obtain ⟨w', z⟩ := I.cell y c e
      exact ⟨w', z.sameBut hs (cne y c e)⟩
    · obtain ⟨e, n, ne, nf, d⟩ := I.pin p hp
      exact ⟨(hs.2 p.1 ne).trans e, n, ne, nf, d⟩
  · have hfn : X.fn x = true := by
      rcases hf with z | z
      · exact z
      · rw [z] at hk; cases hk
    obtain ⟨c, hc⟩ := I.ok.has x (.inl hk)
    obtain ⟨w', z⟩ := I.cell x c hc
    refine wpAny_storeName_cell I.ok.kind hk hc z (fun h' hc' hs => ?_)
    obtain ⟨oc, hoc, hocd⟩ := id z
    refine h { s with heap := h' } ⟨I.ok, I.os, I.bare, ⟨fun b o e n hb hx => ?_, fun b o e n hb hx => ?_, I.base.free, fun b o e hx => ?_, I.base.tups, I.base.frzs, I.base.tbls⟩, ⟨m, hn.sameBut hs (Ne.symm (cne x c hc)), fun j y v' e1 e2 e3 => ?_⟩, fun y c' e => ?_, I.free, I.freeC, fun p hp => ?_, tracked ⟨oc, hoc, I.freeC x c hc⟩ hs, by simpa using I.len⟩ ⟨c, hs, .inr hc⟩
    · exact (hs.2 b (Nat.ne_of_lt (Nat.lt_of_lt_of_le (Heap.lt_size e) (I.ok.cab x c hfn hc)))).trans (I.base.keep b o e n hb hx)
    · obtain ⟨sl, e1⟩ := I.base.slot b o e n hb hx
      exact ⟨sl, (hs.2 b (Nat.ne_of_lt (Nat.lt_of_lt_of_le (Heap.lt_size e) (I.ok.cab x c hfn hc)))).trans e1⟩
    · obtain ⟨o', e1⟩ := I.base.there b o e hx
      exact ⟨o', (hs.2 b (Nat.ne_of_lt (Nat.lt_of_lt_of_le (Heap.lt_size e) (I.ok.cab x c hfn hc)))).trans e1⟩
    · by_cases hj : j = i
      · subst hj
        rw [hi] at e1; cases e1
        rw [List.getElem?_set_self hiσ] at e2
        cases e2
        exact ⟨u, r, .inr ⟨.inl hk, c, hc, hc'⟩⟩
      · rw [List.getElem?_set_ne (Ne.symm hj)] at e2
        obtain ⟨u', r', q⟩ := hl j y v' e1 e2 e3
        refine ⟨u', r', ?_⟩
        rcases q with q | ⟨k, c', e, z'⟩
        · exact .inl q
        · refine .inr ⟨k, c', e, z'.sameBut hs ?_⟩
          rintro rfl
          exact hj (nodup_ix hN e1 (I.ok.inj _ _ _ e hc ▸ hi))
    · by_cases hcc : c' = c
      · subst hcc; exact ⟨_, hc'⟩
      · obtain ⟨w2, z2⟩ := I.cell y c' e
        exact ⟨w2, z2.sameBut hs hcc⟩
    · obtain ⟨e, n, ne, nf, d⟩ := I.pin p hp
      refine ⟨(hs.2 p.1 ?_).trans e, n, ne, nf, d⟩
      intro q
      rw [q, hoc] at e
      have q' : oc = p.2 := Option.some.inj e
      exact d w' (by rw [← q']; exact hocd)
theorem store_ok {M : Model} {A : Around} {E : Value → Shared → Prop} {i : Nat} {x : Str} {v : V} {u : Value} {Q : Unit → Shared → Prop} (I : Inv X pins σ H s) (hN : X.N.Nodup) (hi : X.N[i]? = some x) (hx : Loc X.env.scope x) (r : RelV v u)
    (h : ∀ s', Inv X pins (σ.set i (some v)) H s' → Q () s') (hf : X.fn x = true ∨ X.env.scope.names.lookup x = some .local := by first | exact .inl rfl | exact .inr rfl | assumption) : wpAny M A (storeName X.env x u) Q E s :=
  store_ok2 I hN hi hx r (fun s' I' _ => h s' I') hf
/-- behind a call or a block, the state as it is -/
theorem Inv.call' {s' : Shared} {ch : List Addr} (I : Inv X pins σ H s) (ho : s'.os = s.os) (u : Un (frs X.stack) ch H H' s.heap s'.heap) (hok : HOk X.prog X.w H' s'.heap) (hg : AllBare s'.gens)
    (hch : ∀ b ∈ ch, (b ∈ X.ex ∨ X.s₀.heap.objs.size ≤ b) ∧ b ≠ X.env.locals ∧ (∀ x c, X.env.cells.lookup x = some c → c ≠ b) ∧ ∀ p ∈ X.pn ++ pins, p.1 ≠ b) : Inv X pins σ H' s' := by
  obtain ⟨h', g', d', t', o'⟩ := s'
  have e : o' = s.os := ho
  subst e
  exact I.call (g' := g') (t' := t') (d' := d') u hok hg hch
end

/-! ### the judgements -/
/-- an exception: its class, its own dict's address (where it has one), the abstract heap behind it -/
abbrev XK := Value → Option Addr → Hp → Prop
abbrev St := List (Option V)
abbrev VK := V → Hp → Prop
/-- an expression's reading; a test's; an argument list's -/
abbrev TE := St → Hp → VK → Prop
abbrev TT := St → Hp → (Bool → Hp → Prop) → Prop
abbrev TA := St → Hp → (List V → Hp → Prop) → Prop
/-- what is wanted behind a statement -/
structure Ends where
  nx : St → Hp → Prop
  rt : VK
  bk : St → Hp → Prop := fun _ _ => False
  ct : St → Hp → Prop := fun _ _ => False
abbrev TS := Ends → St → Hp → Prop

def EP (X : Cx) (pins : List (Addr × Obj)) (σ : St) (Q : VK) (u : Value) (s' : Shared) : Prop := ∃ v H', Inv X pins σ H' s' ∧ RelV v u ∧ Q v H'
def TP (X : Cx) (pins : List (Addr × Obj)) (σ : St) (Q : Bool → Hp → Prop) (b : Bool) (s' : Shared) : Prop := ∃ H', Inv X pins σ H' s' ∧ Q b H'
def AP (X : Cx) (pins : List (Addr × Obj)) (σ : St) (Q : List V → Hp → Prop) (us : List Value) (s' : Shared) : Prop := ∃ vs H', Inv X pins σ H' s' ∧ Vals vs us ∧ Q vs H'
def SP (X : Cx) (pins : List (Addr × Obj)) (D : Ends) (f : Flow) (s' : Shared) : Prop :=
  match f with
  | .next => ∃ σ' H', Inv X pins σ' H' s' ∧ D.nx σ' H'
  | .brk => ∃ σ' H', Inv X pins σ' H' s' ∧ D.bk σ' H'
  | .cont => ∃ σ' H', Inv X pins σ' H' s' ∧ D.ct σ' H'
  | .ret u => ∃ v σ' H', Inv X pins σ' H' s' ∧ RelV v u ∧ D.rt v H'

def PE (X : Cx) (e : Expr) (t : TE) : Prop :=
  ∀ (pins : List (Addr × Obj)) (s : Shared) (σ : St) (H : Hp) (Q : VK), Inv X pins σ H s → t σ H Q → wpAny (model X.prog X.w) X.A (eval e X.env) (EP X pins σ Q) X.xe s
def PT (X : Cx) (e : Expr) (t : TT) : Prop :=
  ∀ (pins : List (Addr × Obj)) (s : Shared) (σ : St) (H : Hp) (Q : Bool → Hp → Prop), Inv X pins σ H s → t σ H Q → wpAny (model X.prog X.w) X.A (isTrue e X.env (eval e X.env)) (TP X pins σ Q) X.xe s
/-- a test whatever its 'whole' is (and, or) -/
def PW (X : Cx) (e : Expr) (t : TT) : Prop :=
  ∀ (whole : Sem Value) (pins : List (Addr × Obj)) (s : Shared) (σ : St) (H : Hp) (Q : Bool → Hp → Prop), Inv X pins σ H s → t σ H Q → wpAny (model X.prog X.w) X.A (isTrue e X.env whole) (TP X pins σ Q) X.xe s
theorem PW.pt {X : Cx} {e : Expr} {t : TT} (h : PW X e t) : PT X e t := h _
/-- an argument list (no star), from the left -/
def PA (X : Cx) (es : List Expr) (t : TA) : Prop :=
  ∀ (pos : Pos) (pins : List (Addr × Obj)) (s : Shared) (σ : St) (H : Hp) (Q : List V → Hp → Prop), Inv X pins σ H s → t σ H Q → wpAny (model X.prog X.w) X.A (spliced (backTo pos (starEach es X.env))) (AP X pins σ Q) X.xe s
def PS (X : Cx) (st : Stmt) (t : TS) : Prop :=
  ∀ (pins : List (Addr × Obj)) (s : Shared) (σ : St) (H : Hp) (D : Ends), Inv X pins σ H s → t D σ H → wpAny (model X.prog X.w) X.A (exec st X.env) (SP X pins D) X.xe s
def PSs (X : Cx) (st : List Stmt) (t : TS) : Prop :=
  ∀ (pins : List (Addr × Obj)) (s : Shared) (σ : St) (H : Hp) (D : Ends), Inv X pins σ H s → t D σ H → wpAny (model X.prog X.w) X.A (execs st X.env) (SP X pins D) X.xe s
/-- weaken the end -/
theorem thn {α : Type} {t : Sem α} {Q Q' : α → Shared → Prop} {M : Model} {A : Around} {E : Value → Shared → Prop} {s : Shared} (h : wpAny M A t Q E s) (hQ : ∀ a s, Q a s → Q' a s) : wpAny M A t Q' E s := wpAny_mono h hQ fun _ _ x => x
end L2

namespace L2
open PySem PySem.Spec PyProof.Rows
section
variable {X : Cx}

/-! ### names and constants -/
def tVar (i : Nat) : TE := fun σ H Q => ∃ v, σ[i]? = some (some v) ∧ Q v H
def tC (v : V) : TE := fun _ H Q => Q v H
theorem pe_var {i : Nat} {x : Str} {pos : Pos} (hN : X.N[i]? = some x) (hv : Vis X.env.scope x) (hd : (x == ("__debug__" : Str)) = false := by decide) (hcd : (x == ("__classdict__" : Str)) = false := by decide) : PE X (.Name x pos) (tVar i) := by
  intro pins s σ H Q I h
  obtain ⟨v, e, h⟩ := h
  obtain ⟨m, hn, hl⟩ := I.loc
  obtain ⟨u, r, l⟩ := hl i x v hN e hv
  have fin : EP X pins σ Q u s := ⟨v, H, I, r, h⟩
  rcases l with ⟨hk, hm⟩ | ⟨hk, c, hc, hcell⟩
  · exact wpAny_Name (wpAny_loadName_local I.ok.kind hk hn hm fin) hd
  · rcases hk with hk | hk
    · exact wpAny_Name (wpAny_loadName_cell I.ok.kind hk hc hcell fin) hd
    · exact wpAny_Name (wpAny_loadName_free I.ok.kind hk hc hcell fin hcd) hd
theorem pe_int {i j pos} : PE X (.Constant (.int i) j pos) (tC (.int i)) := fun _ _ _ H _ I h => wpAny_Constant_int ⟨.int i, H, I.tok _, ⟨_, rfl⟩, h⟩
theorem pe_bl {b j pos} : PE X (.Constant (.bool b) j pos) (tC (.bl b)) := fun _ _ _ H _ I h => Constant_bool ⟨.bl b, H, I, rfl, h⟩
theorem pe_non {j pos} : PE X (.Constant .none j pos) (tC .non) := fun _ _ _ H _ I h => Constant_none ⟨.non, H, I, rfl, h⟩
theorem pe_str {x j pos} : PE X (.Constant (.str x) j pos) (tC (.str x)) := fun _ _ _ H _ I h => Calls.Constant_str ⟨.str x, H, I.tok _, ⟨_, rfl⟩, h⟩

/-- a global name of the def -/
def Gl (X : Cx) (x : Str) : Prop := X.env.kindOf x = some .globalImplicit
theorem ld_glob {E : Value → Shared → Prop} {pins : List (Addr × Obj)} {s : Shared} {σ : St} {H : Hp} {x : Str} {u : Value} {pos : Pos} {Q : Value → Shared → Prop} (I : Inv X pins σ H s) (hg : Gl X x) (hm : X.mg x = some u) (h : Q u s)
    (hd : (x == ("__debug__" : Str)) = false := by decide) : wpAny (model X.prog X.w) X.A (eval (.Name x pos) X.env) Q E s :=
  Calls.Name_function_global I.ok.kind hg (Calls.loadGlobal_global (by rw [I.ok.glob]; exact I.mod.glob.keeps I.bk) hm h) hd
theorem ld_blt {E : Value → Shared → Prop} {pins : List (Addr × Obj)} {s : Shared} {σ : St} {H : Hp} {x : Str} {u : Value} {pos : Pos} {Q : Value → Shared → Prop} (I : Inv X pins σ H s) (hg : Gl X x) (hm : X.mg x = none) (hv : bootBuiltins x = some u) (h : Q u s)
    (hn : x ≠ "__name__" := by decide) (hd : (x == ("__debug__" : Str)) = false := by decide) : wpAny (model X.prog X.w) X.A (eval (.Name x pos) X.env) Q E s := by
  obtain ⟨mb, h1, h2⟩ := I.mod.blt
  exact Calls.Name_function_global I.ok.kind hg (Calls.loadGlobal_builtin (by rw [I.ok.glob]; exact I.mod.glob.keeps I.bk) hm (by rw [I.ok.blt]; exact h1.keeps I.bk) ((h2 x hn).trans hv) h) hd
/-- a module's constant, a class, a function, as a value -/
theorem pe_glob {x : Str} {v : V} {u : Value} {pos : Pos} (hg : Gl X x) (hm : X.mg x = some u) (r : RelV v u) (hd : (x == ("__debug__" : Str)) = false := by decide) : PE X (.Name x pos) (tC v) :=
  fun _ _ _ H _ I h => ld_glob I hg hm ⟨v, H, I, r, h⟩ hd
theorem pe_bltn {x : Str} {v : V} {u : Value} {pos : Pos} (hg : Gl X x) (hm : X.mg x = none) (hv : bootBuiltins x = some u) (r : RelV v u) (hn : x ≠ "__name__" := by decide) (hd : (x == ("__debug__" : Str)) = false := by decide) : PE X (.Name x pos) (tC v) :=
  fun _ _ _ H _ I h => ld_blt I hg hm hv ⟨v, H, I, r, h⟩ hn hd

/-! ### arithmetic -/
/-- two ints -/
def t2I (ta tb : TE) (k : Int → Int → Hp → Prop) : St → Hp → Prop := fun σ H => ta σ H fun x H1 => tb σ H1 fun y H2 => ∃ i j, x = .int i ∧ y = .int j ∧ k i j H2
def tAdd (ta tb : TE) : TE := fun σ H Q => t2I ta tb (fun i j H2 => Q (.int (i + j)) H2) σ H
def tSub (ta tb : TE) : TE := fun σ H Q => t2I ta tb (fun i j H2 => Q (.int (i - j)) H2) σ H
/-- the left factor below 2^64 -/
def tMul (ta tb : TE) : TE := fun σ H Q => t2I ta tb (fun i j H2 => (-(2 ^ 64) < i ∧ i < 2 ^ 64) ∧ Q (.int (i * j)) H2) σ H
variable {a b : Expr} {ta tb : TE} {pos : Pos}
/-! ### comparisons -/
def PC (X : Cx) (op : CmpOp) (a b : Expr) (t : TE) : Prop :=
  ∀ (pins : List (Addr × Obj)) (s : Shared) (σ : St) (H : Hp) (Q : VK), Inv X pins σ H s → t σ H Q →
    wpAny (model X.prog X.w) X.A (eval a X.env) (fun v s₁ => wpAny (model X.prog X.w) X.A (eval b X.env) (fun u s₂ => wpAny (model X.prog X.w) X.A (compareOp op v u) (EP X pins σ Q) X.xe s₂) X.xe s₁) X.xe s
def tCmp (p : Int → Int → Bool) (ta tb : TE) : TE := fun σ H Q => t2I ta tb (fun i j H2 => Q (.bl (p i j)) H2) σ H
abbrev tLt : TE → TE → TE := tCmp fun i j => decide (i < j)
abbrev tLe : TE → TE → TE := tCmp fun i j => decide (i ≤ j)
abbrev tGt : TE → TE → TE := tCmp fun i j => decide (j < i)
abbrev tGe : TE → TE → TE := tCmp fun i j => decide (j ≤ i)
abbrev tEqI : TE → TE → TE := tCmp fun i j => decide (i = j)
abbrev tNeI : TE → TE → TE := tCmp fun i j => !decide (i = j)
/-- is None -/
def tIsN (ta : TE) : TE := fun σ H Q => ta σ H fun x H1 => Q (.bl (decide (x = .non))) H1
def tNotN (ta : TE) : TE := fun σ H Q => ta σ H fun x H1 => Q (.bl (!decide (x = .non))) H1
/-- a comparison as a value, as a test -/
def tB (t : TE) : TT := fun σ H Q => t σ H fun x H1 => ∃ c, x = .bl c ∧ Q c H1
/-- an expression whose value is a bool, as a test -/
theorem pt_val {e : Expr} {t : TE} (h : PE X e t) (he : ∀ whole, isTrue e X.env whole = (do let v ← whole; standAt e.pos; holding [v] (truthy v)) := by intro _; rfl) : PT X e (tB t) := by
  intro pins s σ H Q I hw
  refine isTrue_plain (thn (h pins s σ H _ I hw) fun v s1 ⟨x, H1, I1, r1, q1⟩ => ?_) (he _)
  obtain ⟨d, rfl, q⟩ := q1
  cases r1
  exact wpAny_truthy_bool ⟨H1, I1, q⟩

/-! ### and, or, not -/
variable {tA tB' : TT} {rest : List Expr}
def tAnd (t u : TT) : TT := fun σ H Q => t σ H fun c H1 => if c = true then u σ H1 Q else Q false H1
def tOr (t u : TT) : TT := fun σ H Q => t σ H fun c H1 => if c = true then Q true H1 else u σ H1 Q
def tNot (t : TT) : TT := fun σ H Q => t σ H fun c H1 => Q (!c) H1
theorem pw_and1 (ha : PT X a tA) : PW X (.BoolOp .And [a] pos) tA := by
  intro wh pins s σ H Q I h
  refine isTrue_and (thn (ha pins s σ H Q I h) fun c s1 e => ?_)
  cases c with
  | true => exact isTrue_and_nil e
  | false => exact e
theorem pw_or1 (ha : PT X a tA) : PW X (.BoolOp .Or [a] pos) tA := by
  intro wh pins s σ H Q I h
  refine isTrue_or (thn (ha pins s σ H Q I h) fun c s1 e => ?_)
  cases c with
  | false => exact isTrue_or_nil e
  | true => exact e
theorem pw_and (ha : PT X a tA) (hb : PW X (.BoolOp .And (b :: rest) pos) tB') : PW X (.BoolOp .And (a :: b :: rest) pos) (tAnd tA tB') := by
  intro wh pins s σ H Q I h
  refine isTrue_and (thn (ha pins s σ H _ I h) fun c s1 ⟨H1, I1, q1⟩ => ?_)
  cases c with
  | true => exact hb wh pins s1 σ H1 Q I1 q1
  | false => exact ⟨H1, I1, q1⟩
theorem pw_or (ha : PT X a tA) (hb : PW X (.BoolOp .Or (b :: rest) pos) tB') : PW X (.BoolOp .Or (a :: b :: rest) pos) (tOr tA tB') := by
  intro wh pins s σ H Q I h
  refine isTrue_or (thn (ha pins s σ H _ I h) fun c s1 ⟨H1, I1, q1⟩ => ?_)
  cases c with
  | true => exact ⟨H1, I1, q1⟩
  | false => exact hb wh pins s1 σ H1 Q I1 q1
theorem pt_not (ha : PT X a tA) : PT X (.UnaryOp .Not a pos) (tNot tA) := by
  intro pins s σ H Q I h
  exact isTrue_not (ha pins s σ H (fun c H1 => Q (!c) H1) I h)
/-- .. as values (bools) -/
def tAndV (ta tb : TE) : TE := fun σ H Q => ta σ H fun x H1 => ∃ c, x = .bl c ∧ if c = true then tb σ H1 Q else Q (.bl false) H1
def tOrV (ta tb : TE) : TE := fun σ H Q => ta σ H fun x H1 => ∃ c, x = .bl c ∧ if c = true then Q (.bl true) H1 else tb σ H1 Q
def tNotV (ta : TE) : TE := fun σ H Q => ta σ H fun x H1 => ∃ c, x = .bl c ∧ Q (.bl (!c)) H1
theorem pe_one {op} {t : TE} (h : PE X a t) : PE X (.BoolOp op [a] pos) t := fun pins s σ H Q I hw => BoolOp_one (h pins s σ H Q I hw)
theorem pe_and (ha : PE X a ta) (hb : PE X (.BoolOp .And (b :: rest) pos) tb) : PE X (.BoolOp .And (a :: b :: rest) pos) (tAndV ta tb) := by
  intro pins s σ H Q I h
  refine BoolOp_and (thn (ha pins s σ H _ I h) fun v s1 ⟨x, H1, I1, r1, q1⟩ => ?_)
  obtain ⟨c, rfl, q1⟩ := q1
  cases r1
  refine wpAny_truthy_bool ?_
  cases c with
  | true => exact hb pins s1 σ H1 Q I1 q1
  | false => exact ⟨.bl false, H1, I1, rfl, q1⟩
theorem pe_or (ha : PE X a ta) (hb : PE X (.BoolOp .Or (b :: rest) pos) tb) : PE X (.BoolOp .Or (a :: b :: rest) pos) (tOrV ta tb) := by
  intro pins s σ H Q I h
  refine BoolOp_or (thn (ha pins s σ H _ I h) fun v s1 ⟨x, H1, I1, r1, q1⟩ => ?_)
  obtain ⟨c, rfl, q1⟩ := q1
  cases r1
  refine wpAny_truthy_bool ?_
  cases c with
  | false => exact hb pins s1 σ H1 Q I1 q1
  | true => exact ⟨.bl true, H1, I1, rfl, q1⟩
/-- a if t else b -/
def tIf (t : TT) (ta tb : TE) : TE := fun σ H Q => t σ H fun c H1 => if c = true then ta σ H1 Q else tb σ H1 Q
end
end L2

namespace L2
open PySem PySem.Spec PyProof.Rows

/-! ### a list, a tuple that is read: tracked, frozen, or an object of the module -/
def SqL (K : PySem.W.Frag) (H : Hp) (a : Addr) (xs : List V) : Prop :=
  Rd H a (.lst xs) ∨
    ∃ (o : Obj) (its : Array Value) (n : Nat), K.lookup a = some o ∧ o.cls = .type "list" ∧ o.dict = none ∧ o.data = .seq its n ∧ its.size ≤ sizeLine ∧ Vals xs its.toList
def SqT (K : PySem.W.Frag) (H : Hp) (a : Addr) (xs : List V) : Prop :=
  Rd H a (.tup xs) ∨
    ∃ (o : Obj) (its : Array Value) (n : Nat), K.lookup a = some o ∧ o.cls = .type "tuple" ∧ o.data = .seq its n ∧ its.size ≤ sizeLine ∧ Vals xs its.toList
def absV : Value → Option V
  | .none => some .non
  | .bool b => some (.bl b)
  | .int i _ => some (.int i)
  | .str x _ => some (.str x)
  | .bytes b _ => some (.byt b)
  | .float b _ => some (.flt b)
  | .ref a => some (.ref a)
  | .type n => some (.ty n)
  | _ => none
theorem RelV.abs {x : V} {u : Value} (r : RelV x u) : absV u = some x := by
  cases x with
  | non => cases r; rfl
  | bl _ => cases r; rfl
  | int _ => obtain ⟨t, rfl⟩ := r; rfl
  | str _ => obtain ⟨t, rfl⟩ := r; rfl
  | byt _ => obtain ⟨t, rfl⟩ := r; rfl
  | flt _ => obtain ⟨t, rfl⟩ := r; rfl
  | ref _ => cases r; rfl
  | ty _ => cases r; rfl
theorem RelV.inj {x y : V} {u : Value} (r : RelV x u) (q : RelV y u) : x = y := Option.some.inj (r.abs.symm.trans q.abs)
theorem Vals.inj : ∀ {xs ys : List V} {us : List Value}, Vals xs us → Vals ys us → xs = ys
  | _, _, _, .nil, .nil => rfl
  | _, _, _, .cons r t, .cons r' t' => by rw [r.inj r', Vals.inj t t']
section
variable {X : Cx} {pins : List (Addr × Obj)} {σ : St} {H : Hp} {s : Shared} {a : Addr} {xs ys : List V}
theorem SqL.of {K : PySem.W.Frag} (h : H a = some (.lst xs)) : SqL K H a xs := .inl (.inl h)
theorem SqT.of {K : PySem.W.Frag} (h : H a = some (.tup xs)) : SqT K H a xs := .inl (.inl h)
theorem Inv.list (I : Inv X pins σ H s) (h : SqL X.K H a xs) : ∃ its : List Value, Vals xs its ∧ PlainL s.heap a its.toArray ∧ xs.length ≤ sizeLine := by
  rcases h with h | ⟨o, its, n, hk, hc, hd, hs, hz, r⟩
  · obtain ⟨z, its, n, r, e⟩ := h.ok I.hok
    exact ⟨its, r, ⟨_, n, e, rfl, rfl, rfl⟩, z⟩
  · refine ⟨its.toList, r, ⟨o, n, I.kIn a o hk, hc, hd, by simpa using hs⟩, ?_⟩
    have e := r.length
    simp only [Array.length_toList] at e
    omega
theorem Inv.tuple (I : Inv X pins σ H s) (h : SqT X.K H a xs) : ∃ its : List Value, Vals xs its ∧ IsTup s.heap a its.toArray ∧ xs.length ≤ sizeLine := by
  rcases h with h | ⟨o, its, n, hk, hc, hs, hz, r⟩
  · obtain ⟨z, its, r, p⟩ := h.ok I.hok
    exact ⟨its, r, p, z⟩
  · refine ⟨its.toList, r, ⟨o, I.kIn a o hk, hc, n, by simpa using hs⟩, ?_⟩
    have e := r.length
    simp only [Array.length_toList] at e
    omega
theorem Inv.list_inj (I : Inv X pins σ H s) (h : SqL X.K H a xs) (h' : SqL X.K H a ys) : xs = ys := by
  obtain ⟨its, r, ⟨o, n, e, _, _, d⟩, _⟩ := I.list h
  obtain ⟨its', r', ⟨o', n', e', _, _, d'⟩, _⟩ := I.list h'
  rw [e] at e'; cases e'
  rw [d] at d'
  injection d' with d1 _
  have : its = its' := by simpa using congrArg Array.toList d1
  subst this
  exact r.inj r'
theorem Inv.tuple_inj (I : Inv X pins σ H s) (h : SqT X.K H a xs) (h' : SqT X.K H a ys) : xs = ys := by
  obtain ⟨its, r, ⟨o, e, _, n, d⟩, _⟩ := I.tuple h
  obtain ⟨its', r', ⟨o', e', _, n', d'⟩, _⟩ := I.tuple h'
  rw [e] at e'; cases e'
  rw [d] at d'
  injection d' with d1 _
  have : its = its' := by simpa using congrArg Array.toList d1
  subst this
  exact r.inj r'
end

/-! ### another wish about exceptions -/
abbrev Cx.wish (X : Cx) (E : Value → Shared → Prop) : Cx := { X with xe := E }
/-- no exception leaves -/
abbrev Cx.nox (X : Cx) : Cx := X.wish fun _ _ => False
theorem Cx.Ok.wish {X : Cx} (ok : X.Ok) (E : Value → Shared → Prop) : (X.wish E).Ok :=
  ⟨ok.mod, ok.kind, ok.glob, ok.blt, ok.above, ok.inj, ok.has, ok.cab, ok.hd, ok.frames, ok.stk, ok.exf, ok.bs, ok.bsz, ok.noex, ok.exfs, ok.funs, ok.frf⟩
theorem Cx.Ok.unwish {X : Cx} {E : Value → Shared → Prop} (ok : (X.wish E).Ok) : X.Ok :=
  ⟨ok.mod, ok.kind, ok.glob, ok.blt, ok.above, ok.inj, ok.has, ok.cab, ok.hd, ok.frames, ok.stk, ok.exf, ok.bs, ok.bsz, ok.noex, ok.exfs, ok.funs, ok.frf⟩
section
variable {X : Cx} {pins : List (Addr × Obj)} {σ : St} {H : Hp} {s : Shared} {E : Value → Shared → Prop}
theorem Inv.wish (I : Inv X pins σ H s) (E : Value → Shared → Prop) : Inv (X.wish E) pins σ H s := ⟨I.ok.wish E, I.os, I.bare, I.base, I.loc, I.cell, I.free, I.freeC, I.pin, I.hok, I.len⟩
theorem Inv.unwish (I : Inv (X.wish E) pins σ H s) : Inv X pins σ H s := ⟨I.ok.unwish, I.os, I.bare, I.base, I.loc, I.cell, I.free, I.freeC, I.pin, I.hok, I.len⟩
theorem SP.unwish {D : Ends} {f : Flow} {s' : Shared} (h : SP (X.wish E) pins D f s') : SP X pins D f s' := by
  cases f with
  | next => obtain ⟨σ', H', I, q⟩ := h; exact ⟨σ', H', I.unwish, q⟩
  | brk => obtain ⟨σ', H', I, q⟩ := h; exact ⟨σ', H', I.unwish, q⟩
  | cont => obtain ⟨σ', H', I, q⟩ := h; exact ⟨σ', H', I.unwish, q⟩
  | ret u => obtain ⟨v, σ', H', I, r, q⟩ := h; exact ⟨v, σ', H', I.unwish, r, q⟩
theorem PE.nox {e : Expr} {t : TE} (h : PE X.nox e t) : PE X e t := fun pins s σ H Q I hw =>
  wpAny_mono (h pins s σ H Q (I.wish _) hw) (fun _ _ ⟨v, H', I', r, q⟩ => ⟨v, H', I'.unwish, r, q⟩) fun _ _ z => False.elim z
theorem PT.nox {e : Expr} {t : TT} (h : PT X.nox e t) : PT X e t := fun pins s σ H Q I hw =>
  wpAny_mono (h pins s σ H Q (I.wish _) hw) (fun _ _ ⟨H', I', q⟩ => ⟨H', I'.unwish, q⟩) fun _ _ z => False.elim z
theorem PSs.nox {st : List Stmt} {t : TS} (h : PSs X.nox st t) : PSs X st t := fun pins s σ H D I hw =>
  wpAny_mono (h pins s σ H D (I.wish _) hw) (fun _ _ q => q.unwish) fun _ _ z => False.elim z
end

/-! ### blocks and small statements -/
section
variable {X : Cx} {st : Stmt} {rest : List Stmt} {t u : TS} {e : Expr} {te : TE} {pos : Pos}
def tNext : TS := fun D σ H => D.nx σ H
def tSeq (t u : TS) : TS := fun D σ H => t { D with nx := u D } σ H
theorem pss_nil : PSs X [] tNext := fun _ _ σ H _ I h => wpAny_execs_nil ⟨σ, H, I, h⟩
theorem pss_cons (h1 : PS X st t) (h2 : PSs X rest u) : PSs X (st :: rest) (tSeq t u) := by
  intro pins s σ H D I h
  refine wpAny_execs_cons (thn (h1 pins s σ H { D with nx := u D } I h) fun f s1 q => ?_)
  cases f with
  | next =>
    obtain ⟨σ', H', I', q⟩ := q
    exact h2 pins s1 σ' H' D I' q
  | ret v => exact q
  | brk => exact q
  | cont => exact q
theorem pss_one (h1 : PS X st t) : PSs X [st] t := by
  intro pins s σ H D I h
  refine wpAny_execs_cons (thn (h1 pins s σ H D I h) fun f s1 q => ?_)
  cases f with
  | next => exact wpAny_execs_nil q
  | ret v => exact q
  | brk => exact q
  | cont => exact q
def tBreak : TS := fun D σ H => D.bk σ H
def tCont : TS := fun D σ H => D.ct σ H
/-- in a def's body nothing is shown -/
theorem Inv.quiet {pins : List (Addr × Obj)} {σ : St} {H : Hp} {s : Shared} (I : Inv X pins σ H s) : interactive X.env = false := by simp [interactive, I.ok.kind]
/-- an expression whose value is dropped -/
def tDrop (te : TE) : TS := fun D σ H => te σ H fun _ H1 => D.nx σ H1
theorem ps_expr (he : PE X e te) (hs : swapsWith e none pos.line X.env = pure false := by rfl) : PS X (.Expr e pos) (tDrop te) := by
  intro pins s σ H D I h
  exact wpAny_Expr_any (thn (he pins s σ H _ I h) fun v s1 ⟨x, H1, I1, r1, q1⟩ => ⟨σ, H1, I1, q1⟩) I.quiet hs
def tRet (te : TE) : TS := fun D σ H => te σ H D.rt
theorem ps_ret (he : PE X e te) : PS X (.Return (some e) pos) (tRet te) := by
  intro pins s σ H D I h
  exact wpAny_Return_some (thn (he pins s σ H _ I h) fun v s1 ⟨x, H1, I1, r1, q1⟩ => ⟨x, σ, H1, I1, r1, q1⟩)
def tRetN : TS := fun D _ H => D.rt .non H
def tIfS (c : TT) (t u : TS) : TS := fun D σ H => c σ H fun b H1 => if b = true then t D σ H1 else u D σ H1
theorem ps_if {c : Expr} {a b : List Stmt} {tc : TT} (hc : PT X c tc) (ha : PSs X a t) (hb : PSs X b u) : PS X (.If c a b pos) (tIfS tc t u) := by
  intro pins s σ H D I h
  refine wpAny_If (thn (hc pins s σ H _ I h) fun d s1 ⟨H1, I1, q1⟩ => ?_)
  cases d with
  | true => exact ha pins s1 σ H1 D I1 q1
  | false => exact hb pins s1 σ H1 D I1 q1
/-- code that the proof never comes to -/
def tNever : TS := fun _ _ _ => False
theorem pss_never {sts : List Stmt} : PSs X sts tNever := fun _ _ _ _ _ _ h => h.elim
end

/-! ### targets -/
abbrev TG := V → St → Hp → (St → Hp → Prop) → Prop
abbrev TGs := List V → St → Hp → (St → Hp → Prop) → Prop
def PG (X : Cx) (target : Expr) (t : TG) : Prop :=
  ∀ (pins : List (Addr × Obj)) (s : Shared) (σ : St) (H : Hp) (v : V) (u : Value) (Q : St → Hp → Prop), Inv X pins σ H s → RelV v u → t v σ H Q →
    wpAny (model X.prog X.w) X.A (assign target X.env u) (fun _ s' => ∃ σ' H', Inv X pins σ' H' s' ∧ Q σ' H') X.xe s
/-- several targets, one after another -/
def PGs (X : Cx) (ts : List Expr) (t : TGs) : Prop :=
  ∀ (pins : List (Addr × Obj)) (s : Shared) (σ : St) (H : Hp) (vs : List V) (us : List Value) (Q : St → Hp → Prop), Inv X pins σ H s → Vals vs us → t vs σ H Q →
    wpAny (model X.prog X.w) X.A (assignInOrder ((assignEach ts X.env).map (·.2)) us) (fun _ s' => ∃ σ' H', Inv X pins σ' H' s' ∧ Q σ' H') X.xe s
/-- o[i] = v, by values -/
abbrev TSet := V → V → V → Hp → (Hp → Prop) → Prop
def PSet (X : Cx) (t : TSet) : Prop :=
  ∀ (pins : List (Addr × Obj)) (s : Shared) (σ : St) (H : Hp) (o i v : V) (ov iv u : Value) (Q : Hp → Prop), Inv X pins σ H s → RelV o ov → RelV i iv → RelV v u → t o i v H Q →
    wpAny (model X.prog X.w) X.A (setItem ov iv u) (fun _ s' => ∃ H', Inv X pins σ H' s' ∧ Q H') X.xe s
/-- a op= b, by values -/
abbrev TIp := V → V → Hp → VK → Prop
def PIp (X : Cx) (op : Operator) (t : TIp) : Prop :=
  ∀ (pins : List (Addr × Obj)) (s : Shared) (σ : St) (H : Hp) (x y : V) (v u : Value) (Q : VK), Inv X pins σ H s → RelV x v → RelV y u → t x y H Q →
    wpAny (model X.prog X.w) X.A (inplaceOp op v u) (EP X pins σ Q) X.xe s
section
variable {X : Cx} {pos : Pos}
def gName (i : Nat) : TG := fun v σ H Q => Q (σ.set i (some v)) H
theorem pg_name {i : Nat} {x : Str} (hN : X.N.Nodup) (hi : X.N[i]? = some x) (hx : Loc X.env.scope x) (hf : X.fn x = true ∨ X.env.scope.names.lookup x = some .local := by first | exact .inl rfl | exact .inr rfl | assumption) : PG X (.Name x pos) (gName i) := by
  intro pins s σ H v u Q I r h
  exact wpAny_assign_Name (store_ok I hN hi hx r (fun s' I' => ⟨_, H, I', h⟩) hf)
def gNil : TGs := fun vs σ H Q => vs = [] ∧ Q σ H
def gCons (t : TG) (u : TGs) : TGs := fun vs σ H Q => ∃ v r, vs = v :: r ∧ t v σ H fun σ' H' => u r σ' H' Q
theorem pgs_nil : PGs X [] gNil := by
  intro pins s σ H vs us Q I r h
  obtain ⟨e, h⟩ := h
  subst e
  cases r
  exact assignInOrder_nil ⟨σ, H, I, h⟩
theorem pgs_cons {e : Expr} {es : List Expr} {t : TG} {u : TGs} (h1 : PG X e t) (h2 : PGs X es u)
    (hs : (assignEach (e :: es) X.env).map (·.2) = assign e X.env :: (assignEach es X.env).map (·.2) := by rfl) : PGs X (e :: es) (gCons t u) := by
  intro pins s σ H vs us Q I r h
  obtain ⟨v, vr, e1, h⟩ := h
  subst e1
  cases r with
  | cons r rr =>
    rw [hs]
    refine assignInOrder_cons (thn (h1 pins s σ H _ _ _ I r h) fun _ s1 ⟨σ1, H1, I1, q1⟩ => ?_)
    exact h2 pins s1 σ1 H1 _ _ Q I1 rr q1
/-- (a, b, ..) = a tuple of that length -/
def gTup (K : PySem.W.Frag) (n : Nat) (t : TGs) : TG := fun v σ H Q => ∃ a xs, v = .ref a ∧ SqT K H a xs ∧ xs.length = n ∧ t xs σ H Q
theorem pg_tup {es : List Expr} {k : Nat} {t : TGs} {n : Nat} (hc : X.calm = true) (h : PGs X es t)
    (hn : (assignEach es X.env).length = n := by rfl) (hst : (assignEach es X.env).findIdx? (·.1) = none := by rfl) : PG X (.Tuple es k pos) (gTup X.K n t) := by
  intro pins s σ H v u Q I r hw
  obtain ⟨a, xs, e1, hq, hl, hw⟩ := hw
  subst e1
  cases r
  obtain ⟨its, rv, ht, hz⟩ := I.tuple hq
  refine assign_Tuple_tuple (I.ok.hd hc) ht (by simp [hn, ← hl, rv.length]) hst fun h' hx => ?_
  have I1 : Inv X pins σ H { s with heap := h' } := I.kept (t' := s.toks) fun b o e => hx b o (Nat.ne_of_lt (Heap.lt_size e)) e
  exact h pins _ σ H xs _ Q I1 (by simpa using rv) hw
/-- o[i] = .. -/
def gSub (to ti : TE) (t : TSet) : TG := fun v σ H Q => to σ H fun o H1 => ti σ H1 fun i H2 => t o i v H2 fun H3 => Q σ H3
theorem pg_sub {o i : Expr} {to ti : TE} {t : TSet} (ho : PE X o to) (hi : PE X i ti) (hs : PSet X t)
    (ha : ∀ v, assign (.Subscript o i pos) X.env v = (do
      let ov ← holding [v] (eval o X.env)
      let iv ← holding [v, ov] (eval i X.env)
      standAt pos
      holding [v, ov, iv] (setItem ov iv v)
      release [v, ov, iv] []) := by intro _; rfl) : PG X (.Subscript o i pos) (gSub to ti t) := by
  intro pins s σ H v u Q I r h
  rw [ha]
  refine wpAny_bind (wpAny_holding (thn (ho pins s σ H _ I h) fun ov s1 ⟨x, H1, I1, r1, q1⟩ => ?_))
  refine wpAny_bind (wpAny_holding (thn (hi pins s1 σ H1 _ I1 q1) fun iv s2 ⟨y, H2, I2, r2, q2⟩ => ?_))
  refine wpAny_bind (wpAny_standAt (wpAny_bind (wpAny_holding (thn (hs pins s2 σ H2 x y v ov iv u _ I2 r1 r2 r q2) fun _ s3 ⟨H3, I3, q3⟩ => ?_))))
  exact wpAny_release ⟨σ, H3, I3, q3⟩
/-- target = value -/
def tAsg (te : TE) (g : TG) : TS := fun D σ H => te σ H fun x H1 => g x σ H1 D.nx
theorem ps_asg {tg e : Expr} {te : TE} {g : TG} (he : PE X e te) (hg : PG X tg g) (hs : swapsWithSole [tg] e pos.line X.env = pure false := by rfl) (hw : swappedStores [tg] e X.env = pure none := by rfl)
    (h1 : (assignEach [tg] X.env).map (·.2) = [assign tg X.env] := by rfl) : PS X (.Assign [tg] e pos) (tAsg te g) := by
  intro pins s σ H D I h
  refine wpAny_Assign_stores (thn (he pins s σ H _ I h) fun v s1 ⟨x, H1, I1, r1, q1⟩ => ?_) hs hw
  rw [h1]
  exact thn (hg pins s1 σ H1 x v _ I1 r1 q1) fun _ s2 q => q
/-- name = value -/
theorem ps_set {i : Nat} {x : Str} {e : Expr} {te : TE} {pos' : Pos} (hN : X.N.Nodup) (hi : X.N[i]? = some x) (hx : Loc X.env.scope x) (he : PE X e te) (hs : swapsWith e (some (.Name x pos')) pos.line X.env = pure false := by rfl) (hf : X.fn x = true ∨ X.env.scope.names.lookup x = some .local := by first | exact .inl rfl | exact .inr rfl | assumption) :
    PS X (.Assign [.Name x pos'] e pos) (tAsg te (gName i)) := by
  intro pins s σ H D I h
  refine wpAny_Assign_Name (thn (he pins s σ H _ I h) fun v s1 ⟨y, H1, I1, r1, q1⟩ => ?_) hs
  exact store_ok I1 hN hi hx r1 (fun s2 I2 => ⟨_, H1, I2, q1⟩) hf
/-- a, b = x, y with plain local names: stored from the right; the pair itself is not tracked (the opening rows as in PyProof/Rows/TupAssign.lean:23) -/
def tPar (i j : Nat) (ta : TA) : TS := fun D σ H => ta σ H fun vs H1 => ∃ v w, vs = [v, w] ∧ D.nx ((σ.set i (some v)).set j (some w)) H1
theorem ps_par {i j : Nat} {x y : Str} {a b : Expr} {ta : TA} {px py pt : Pos} {kt k2 pt2} (hc : X.calm = true) (hN : X.N.Nodup) (hi : X.N[i]? = some x) (hj : X.N[j]? = some y) (hij : i ≠ j)
    (hx : X.env.scope.names.lookup x = some .local) (hy : X.env.scope.names.lookup y = some .local) (ha : PA X [a, b] ta)
    (hw : swappedStores [.Tuple [.Name x px, .Name y py] kt pt] (.Tuple [a, b] k2 pt2) X.env = pure (some [x, y]))
    (hs : swapsWithSole [.Tuple [.Name x px, .Name y py] kt pt] (.Tuple [a, b] k2 pt2) pos.line X.env = pure false := by rfl) :
    PS X (.Assign [.Tuple [.Name x px, .Name y py] kt pt] (.Tuple [a, b] k2 pt2) pos) (tPar i j ta) := by
  intro pins s σ H D I h
  rw [exec_Assign_arm]
  refine wpAny_bind (wpAny_standAt ?_)
  rw [hs]
  refine wpAny_bind (wpAny_pure ?_)
  rw [if_neg (by decide)]
  refine wpAny_bind (Tuple_ (thn (ha _ pins s σ H _ I h) fun us s1 ⟨vs, H1, I1, r1, q1⟩ => ?_))
  obtain ⟨v, w, e1, q1⟩ := q1
  subst e1
  obtain ⟨u1, u2, rfl, rv, rw'⟩ : ∃ u1 u2, us = [u1, u2] ∧ RelV v u1 ∧ RelV w u2 := by
    cases r1 with
    | cons p q =>
      cases q with
      | cons p' q' =>
        cases q'
        exact ⟨_, _, rfl, p, p'⟩
  refine wpAny_newObj_type ?_ (by show 2 ≤ sizeLine; decide)
  have I2 : Inv X pins σ H1 { s1 with heap := s1.heap.push { cls := .type "tuple", data := .seq [u1, u2].toArray } } := I1.kept (t' := s1.toks) fun b o e => Heap.get?_push_of_some _ e
  rw [hw]
  refine wpAny_bind (wpAny_pure ?_)
  show wpAny (model X.prog X.w) X.A (do rule "assign.swapped-stores"; let items ← unpackItems (.ref s1.heap.objs.size) 2 none; assignInOrder [fun v => bindName X.env y v, fun v => bindName X.env x v] items.reverse; pure Flow.next) _ _ _
  refine wpAny_bind (wpAny_rule (wpAny_bind (unpackItems_tuple (items := #[u1, u2]) (I.ok.hd hc) (IsTup.new s1.heap _) fun h' hx' => ?_)))
  have I3 := I2.kept (h' := h') (t' := s1.toks) fun b o e => hx' b o (Nat.ne_of_lt (Heap.lt_size e)) e
  show wpAny _ _ (assignInOrder [fun v => bindName X.env y v, fun v => bindName X.env x v] [u2, u1] >>= fun _ => pure Flow.next) _ _ _
  refine wpAny_bind (assignInOrder_cons (wpAny_bindName (store_ok I3 hN hj (.inl hy) rw' (fun s2 I4 => ?_) (.inr hy))))
  refine assignInOrder_cons (wpAny_bindName (store_ok I4 hN hi (.inl hx) rv (fun s3 I5 => assignInOrder_nil (wpAny_pure ?_)) (.inr hx)))
  rw [List.set_comm _ _ (Ne.symm hij)] at I5
  exact ⟨_, H1, I5, q1⟩
/-- name op= e -/
def tAug (i : Nat) (te : TE) (ti : TIp) : TS := fun D σ H => ∃ x, σ[i]? = some (some x) ∧ te σ H fun y H1 => ti x y H1 fun z H2 => D.nx (σ.set i (some z)) H2
/-- o[i] op= e -/
def tAugS (to ti te : TE) (tget : V → V → Hp → VK → Prop) (tip : TIp) (tset : TSet) : TS := fun D σ H => to σ H fun o H1 => ti σ H1 fun i H2 => tget o i H2 fun x H3 => te σ H3 fun y H4 => tip x y H4 fun z H5 => tset o i z H5 fun H6 => D.nx σ H6
/-- o[i], by values -/
def PGet (X : Cx) (t : V → V → Hp → VK → Prop) : Prop :=
  ∀ (pins : List (Addr × Obj)) (s : Shared) (σ : St) (H : Hp) (o i : V) (ov iv : Value) (Q : VK), Inv X pins σ H s → RelV o ov → RelV i iv → t o i H Q →
    wpAny (model X.prog X.w) X.A (getItem ov iv) (EP X pins σ Q) X.xe s
/-- ints -/
def ipI (f : Int → Int → Int) : TIp := fun x y H Q => ∃ i j, x = .int i ∧ y = .int j ∧ Q (.int (f i j)) H
end

/-! ### while -/
section
variable {X : Cx} {pos : Pos}
/-- the invariant W with its measure -/
def tWhile (c : TT) (tb : TS) : TS := fun D σ H => ∃ W : Nat → St → Hp → Prop, (∃ m, W m σ H) ∧ ∀ m σ H, W m σ H →
  c σ H fun b H1 => if b = true then ∃ N : St → Hp → Prop, (∀ σ' H', N σ' H' → ∃ m', m' < m ∧ W m' σ' H') ∧ tb { D with nx := N, ct := N, bk := D.nx } σ H1 else D.nx σ H1
theorem ps_while {c : Expr} {body : List Stmt} {tc : TT} {tb : TS} (hp : PassesOwn (model X.prog X.w) X.A X.env X.xe) (hc : PT X c tc) (hb : PSs X body tb) : PS X (.While c body [] pos) (tWhile tc tb) := by
  intro pins s σ H D I h
  obtain ⟨W, ⟨m0, w0⟩, turn⟩ := h
  refine wpAny_While (codeAny_whileLoop (fun n s' => ∃ σ' H', Inv X pins σ' H' s' ∧ W n σ' H') ?_ m0 ⟨σ, H, I, w0⟩)
  rintro n s1 ⟨σ1, H1, I1, w1⟩
  refine wpAny_passesOwn hp (thn (hc pins s1 σ1 H1 _ I1 (turn n σ1 H1 w1)) fun b s2 ⟨H2, I2, q2⟩ => ?_)
  cases b with
  | true =>
    obtain ⟨N, hN, q2⟩ := q2
    rw [if_pos rfl]
    refine wpAny_passesOwn hp (thn (hb pins s2 σ1 H2 _ I2 q2) fun f s3 q3 => ?_)
    cases f with
    | next =>
      obtain ⟨σ3, H3, I3, n3⟩ := q3
      obtain ⟨m', hm, w3⟩ := hN σ3 H3 n3
      exact ⟨m', hm, σ3, H3, I3, w3⟩
    | cont =>
      obtain ⟨σ3, H3, I3, n3⟩ := q3
      obtain ⟨m', hm, w3⟩ := hN σ3 H3 n3
      exact ⟨m', hm, σ3, H3, I3, w3⟩
    | brk => exact q3
    | ret v => exact q3
  | false =>
    rw [if_neg Bool.false_ne_true]
    exact wpAny_execs_nil ⟨σ1, H2, I2, q2⟩
end

/-! ### what a loop or a comprehension walks -/
/-- at turn i: it yields x (the heap may grow), or it stops -/
structure It where
  go : Nat → Hp → Prop
  yld : Nat → Hp → V → Hp → Prop
  stop : Nat → Hp → Prop
/-- the iterator's own objects may turn: they are not the frame's, not pinned, younger than the entry (or a comprehension's own) -/
def FpOk (X : Cx) (pins : List (Addr × Obj)) (H : Hp) (b : Addr) : Prop :=
  H b = none ∧ b ≠ X.env.locals ∧ b ∉ X.fs ∧ (b ∈ X.ex ∨ X.s₀.heap.objs.size ≤ b) ∧ (∀ x c, X.env.cells.lookup x = some c → c ≠ b) ∧ ∀ p ∈ X.pn ++ pins, p.1 ≠ b
theorem Inv.fpOk {X : Cx} {pins : List (Addr × Obj)} {σ : St} {H H' : Hp} {s : Shared} {b : Addr} (I : Inv X pins σ H s) (hb : s.heap.objs.size ≤ b) (hn : H' b = none) : FpOk X pins H' b := by
  refine ⟨hn, Nat.ne_of_gt (Nat.lt_of_lt_of_le I.lt hb), I.nofs hb, .inr (Nat.le_trans I.sz hb), fun x c e z => ?_, fun p hp z => ?_⟩
  · obtain ⟨v, q⟩ := I.cell x c e
    exact absurd (Nat.lt_of_lt_of_le q.lt (by rw [z]; exact hb)) (Nat.lt_irrefl _)
  · exact absurd (Nat.lt_of_lt_of_le (Heap.lt_size (I.pin p hp).1) (by rw [z]; exact hb)) (Nat.lt_irrefl _)
structure Turn (P : Program) (w : World) (K : PySem.W.Frag) (tg : Expr) (J : It) (fp : List Addr) (it : Addr) (tn : Nat → Heap → Prop) : Prop where
  mem : it ∈ fp
  obj : ∀ i h, tn i h → ∀ b ∈ fp, ∃ o, h.get? b = some o ∧ ∀ v, o.data ≠ .cell v
  keep : ∀ i h h', tn i h → (∀ b ∈ fp, ∀ o, h.get? b = some o → h'.get? b = some o) → tn i h'
  item : ∀ (X : Cx), X.prog = P → X.w = w → X.K = K → X.calm = true → ∀ (i : Nat) (pins : List (Addr × Obj)) (s : Shared) (σ : St) (H : Hp) (E : Value → Shared → Prop), Inv X pins σ H s → (∀ b ∈ fp, FpOk X pins H b) → tn i s.heap → J.go i H →
    wpAny (model P w) X.A (pyNext (.ref it)) (fun r s1 => ∃ u, r = some u ∧
      wpAny (model P w) X.A (letOwnedTupleGo tg (.ref it) u) (fun _ s2 => ∃ x H', Inv X pins σ H' s2 ∧ RelV x u ∧ J.yld i H x H' ∧ tn (i + 1) s2.heap ∧ ∀ b ∈ fp, H' b = none) E s1) E s
  done : ∀ (X : Cx), X.prog = P → X.w = w → X.K = K → X.calm = true → ∀ (i : Nat) (pins : List (Addr × Obj)) (s : Shared) (σ : St) (H : Hp) (E : Value → Shared → Prop), Inv X pins σ H s → (∀ b ∈ fp, FpOk X pins H b) → tn i s.heap → J.stop i H →
    wpAny (model P w) X.A (pyNext (.ref it)) (fun r s1 => r = none ∧ Inv X pins σ H s1) E s
  self : ∀ (A : Around) (i : Nat) (s : Shared) (Q : Value → Shared → Prop) (E : Value → Shared → Prop), tn i s.heap → Q (.ref it) s → wpAny (model P w) A (pyIter (.ref it)) Q E s
abbrev TI := St → Hp → (It → Hp → Prop) → Prop
/-- an iterator has come -/
def PIE (X : Cx) (pins : List (Addr × Obj)) (σ : St) (tg : Expr) (R : It → Hp → Prop) (itv : Value) (s2 : Shared) : Prop :=
  ∃ (it : Addr) (fp : List Addr) (tn : Nat → Heap → Prop) (J : It) (H' : Hp), itv = .ref it ∧ Inv X pins σ H' s2 ∧ Turn X.prog X.w X.K tg J fp it tn ∧ tn 0 s2.heap ∧ (∀ b ∈ fp, FpOk X pins H' b) ∧ R J H'
def PI (X : Cx) (tg iter : Expr) (wi : TI) : Prop :=
  ∀ (pins : List (Addr × Obj)) (s : Shared) (σ : St) (H : Hp) (R : It → Hp → Prop), Inv X pins σ H s → wi σ H R →
    wpAny (model X.prog X.w) X.A (eval iter X.env) (fun v s1 => wpAny (model X.prog X.w) X.A (pyIter v) (PIE X pins σ tg R) X.xe s1) X.xe s

/-- the step ahead of the store is nothing for an iterator that keeps no tuple -/
theorem go_of {M : Model} {A : Around} {E : Value → Shared → Prop} {s : Shared} {tg : Expr} {it : Addr} {u : Value} {o : Obj} {n : String} {vs : Array Value} {Q : Unit → Shared → Prop} (ho : s.heap.get? it = some o) (hc : o.cls = .type n) (hd : o.data = .fields vs)
    (hn : ["enumerate", "zip", "dict_itemiterator", "dict_reverseitemiterator", "odict_iterator", "itertools.zip_longest", "itertools.pairwise"].contains n = false) (hQ : Q () s) : wpAny M A (letOwnedTupleGo tg (.ref it) u) Q E s := by
  unfold letOwnedTupleGo
  cases tg <;> first
    | exact wpAny_pure hQ
    | (cases u <;> first
        | exact wpAny_pure hQ
        | (refine wpAny_bind (wpAny_load ho ?_)
           rw [hc, hd]
           show wpAny M A (if (["enumerate", "zip", "dict_itemiterator", "dict_reverseitemiterator", "odict_iterator", "itertools.zip_longest", "itertools.pairwise"].contains n && vs[0]? == some (rawInt _)) = true then _ else _) Q E s
           rw [if_neg (by intro h; rw [hn, Bool.false_and] at h; cases h)]
           exact wpAny_pure hQ))

/-- the list at a, as it stands at each turn (a loop may append to it) -/
def Itl (K : PySem.W.Frag) (a : Addr) : It :=
  ⟨fun i H => ∃ xs x, SqL K H a xs ∧ xs[i]? = some x, fun i H x H' => H' = H ∧ ∀ xs, SqL K H a xs → xs[i]? = some x, fun i H => ∃ xs, SqL K H a xs ∧ xs.length ≤ i⟩
def Itt (K : PySem.W.Frag) (a : Addr) : It :=
  ⟨fun i H => ∃ xs x, SqT K H a xs ∧ xs[i]? = some x, fun i H x H' => H' = H ∧ ∀ xs, SqT K H a xs → xs[i]? = some x, fun i H => ∃ xs, SqT K H a xs ∧ xs.length ≤ i⟩
/-- lo, lo + 1, .. (n of them) -/
def Itr (lo : Int) (n : Nat) : It := ⟨fun i _ => i < n, fun i H x H' => H' = H ∧ x = .int (lo + i), fun i _ => n ≤ i⟩
theorem turn_list {P : Program} {w : World} {K : PySem.W.Frag} {tg : Expr} (a it : Addr) : Turn P w K tg (Itl K a) [it] it (fun i h => h.IsListIter it a i) where
  mem := by simp
  obj := fun i h st b hb => by
    have e : b = it := by simpa using hb
    subst e
    obtain ⟨o, e, c, d⟩ := st
    exact ⟨o, e, fun v z => by rw [d] at z; cases z⟩
  keep := fun i h h' st k => st.at fun o e => k it (by simp) o e
  item := by
    intro X hP hw hK hc i pins s σ H E I hf st hg
    subst hP hw hK
    obtain ⟨xs, x, hq, hx⟩ := hg
    obtain ⟨its, rv, p, hz⟩ := I.list hq
    obtain ⟨u, hu, ru⟩ := rv.get hx
    obtain ⟨f0, f1, f2, f3, f4, f5⟩ := hf it (by simp)
    refine wpAny_pyNext_list_item st p.isList (x := u) (by simpa using hu) fun h' st' sb => ?_
    have I1 : Inv X pins σ H { s with heap := h' } := I.turned (t' := s.toks) (fun b o hb e => (sb.2 b hb).trans e) f0 f1 f3 f4 f5
    obtain ⟨o, e, c, d⟩ := id st'
    exact ⟨u, rfl, go_of (s := { s with heap := h' }) e c d (by decide) ⟨x, H, I1, ru, ⟨rfl, fun ys hy => by rw [I.list_inj hy hq]; exact hx⟩, st', fun b hb => (hf b hb).1⟩⟩
  done := by
    intro X hP hw hK hc i pins s σ H E I hf st hg
    subst hP hw hK
    obtain ⟨xs, hq, hx⟩ := hg
    obtain ⟨its, rv, p, hz⟩ := I.list hq
    obtain ⟨f0, f1, f2, f3, f4, f5⟩ := hf it (by simp)
    have hl := rv.length
    exact wpAny_pyNext_list_end (I.ok.hd hc) st p.isList (by simp; omega) fun h' eb => ⟨rfl, I.turned (t' := s.toks) (fun b o hb e => eb b o hb e) f0 f1 f3 f4 f5⟩
  self := fun _ _ _ _ _ st h => wpAny_pyIter_listiter st h
theorem turn_range {P : Program} {w : World} {K : PySem.W.Frag} {tg : Expr} (it : Addr) (lo : Int) (n : Nat) : Turn P w K tg (Itr lo n) [it] it (fun i h => IsRangeIter h it (lo + (i : Nat) * 1) ((n : Int) - (i : Nat)) 1) where
  mem := by simp
  obj := fun i h st b hb => by
    have e : b = it := by simpa using hb
    subst e
    exact ⟨_, st, fun v z => by
      have z' : Data.fields _ = Data.cell v := z
      cases z'⟩
  keep := fun i h h' st k => k it (by simp) _ st
  item := by
    intro X hP hw hK hc i pins s σ H E I hf st hg
    subst hP hw hK
    obtain ⟨f0, f1, f2, f3, f4, f5⟩ := hf it (by simp)
    have W := Walks.range (prog := X.prog) (w := X.w) (I.ok.hd hc) it lo 1 n
    refine W.item i s _ _ hg st fun v h' tk hv st' kk => ?_
    obtain ⟨t, rfl⟩ := hv
    have I1 : Inv X pins σ H { s with heap := h', toks := tk } := I.turned (fun b o hb e => kk b o (by simpa using hb) e) f0 f1 f3 f4 f5
    refine ⟨_, rfl, go_of (s := { s with heap := h', toks := tk }) (n := "range_iterator") st' rfl rfl (by decide) ⟨.int (lo + i), H, I1, ⟨t, ?_⟩, ⟨rfl, rfl⟩, st', fun b hb => (hf b hb).1⟩⟩
    rw [Int.mul_one]
  done := by
    intro X hP hw hK hc i pins s σ H E I hf st hg
    subst hP hw hK
    obtain ⟨f0, f1, f2, f3, f4, f5⟩ := hf it (by simp)
    exact wpAny_pyNext_range_end (I.ok.hd hc) st (by have : n ≤ i := hg; omega) fun h' eb => ⟨rfl, I.turned (t' := s.toks) (fun b o hb e => eb b o hb e) f0 f1 f3 f4 f5⟩
  self := fun _ _ _ _ _ st h => wpAny_pyIter_rangeiter st h
end L2

namespace L2
open PySem PySem.Spec PyProof.Rows
section
variable {X : Cx} {tg : Expr}
def iList (K : PySem.W.Frag) (tl : TE) : TI := fun σ H R => tl σ H fun x H1 => ∃ a, x = .ref a ∧ (∃ xs, SqL K H1 a xs) ∧ R (Itl K a) H1
def iTup (K : PySem.W.Frag) (tl : TE) : TI := fun σ H R => tl σ H fun x H1 => ∃ a, x = .ref a ∧ (∃ xs, SqT K H1 a xs) ∧ R (Itt K a) H1
theorem pi_list {l : Expr} {tl : TE} (hl : PE X l tl) : PI X tg l (iList X.K tl) := by
  intro pins s σ H R I h
  refine thn (hl pins s σ H _ I h) fun v s1 ⟨x, H1, I1, r1, q1⟩ => ?_
  obtain ⟨a, e, ⟨xs, hq⟩, q⟩ := q1
  subst e
  cases r1
  obtain ⟨its, rv, p, hz⟩ := I1.list hq
  refine wpAny_pyIter_list p.isList ?_
  refine ⟨s1.heap.objs.size, [s1.heap.objs.size], _, _, H1, rfl, I1.kept (t' := s1.toks) fun b o e => Heap.get?_push_of_some _ e, turn_list a _, ⟨_, Heap.get?_push_size _ rfl, rfl, rfl⟩, fun b hb => ?_, q⟩
  have e : b = s1.heap.objs.size := by simpa using hb
  subst e
  exact I1.fpOk (Nat.le_refl _) (I1.hok.fresh (Nat.le_refl _))
/-- a range object just made, walked -/
theorem range_it {pins : List (Addr × Obj)} {σ : St} {H : Hp} {s : Shared} {R : It → Hp → Prop} {E : Value → Shared → Prop} {lo hi : Int} {t u v : Tok} {tk : Nat} (I : Inv X pins σ H s) (h1 : -(2 ^ 62) ≤ lo) (h2 : lo < 2 ^ 62) (h3 : -(2 ^ 62) ≤ hi) (h4 : hi < 2 ^ 62)
    (q : R (Itr lo (hi - lo).toNat) H) : wpAny (model X.prog X.w) X.A (pyIter (.ref s.heap.objs.size)) (PIE X pins σ tg R) E { s with heap := s.heap.push { cls := .type "range", data := .fields #[.int lo t, .int hi u, .int 1 v] }, toks := tk } := by
  refine wpAny_pyIter_range (IsRange.new ..) (small_one h1 h2 h3 h4) ?_
  have I1 : Inv X pins σ H { s with heap := s.heap.push { cls := .type "range", data := .fields #[.int lo t, .int hi u, .int 1 v] }, toks := tk } := I.kept fun b o e => Heap.get?_push_of_some _ e
  refine ⟨(s.heap.push { cls := .type "range", data := .fields #[.int lo t, .int hi u, .int 1 v] }).objs.size, [(s.heap.push { cls := .type "range", data := .fields #[.int lo t, .int hi u, .int 1 v] }).objs.size], _, _, H, rfl,
    I1.kept (t' := tk) fun b o e => Heap.get?_push_of_some _ e, turn_range _ lo (hi - lo).toNat, ?_, fun b hb => ?_, q⟩
  · have e1 : lo + ((0 : Nat) : Int) * 1 = lo := by simp
    have e2 : (((hi - lo).toNat : Nat) : Int) - ((0 : Nat) : Int) = Builtin.Range.rangeSize lo hi 1 := by rw [rangeSize_one]; split <;> omega
    show IsRangeIter _ _ (lo + ((0 : Nat) : Int) * 1) ((((hi - lo).toNat : Nat) : Int) - ((0 : Nat) : Int)) 1
    rw [e1, e2]
    exact Heap.get?_push_size _ rfl
  · have e : b = (s.heap.push { cls := .type "range", data := .fields #[.int lo t, .int hi u, .int 1 v] }).objs.size := by simpa using hb
    subst e
    exact I1.fpOk (Nat.le_refl _) (I1.hok.fresh (Nat.le_refl _))
def iRng1 (ta : TA) : TI := fun σ H R => ta σ H fun vs H1 => ∃ j : Int, vs = [.int j] ∧ -(2 ^ 62) ≤ j ∧ j < 2 ^ 62 ∧ R (Itr 0 j.toNat) H1
def iRng2 (ta : TA) : TI := fun σ H R => ta σ H fun vs H1 => ∃ i j : Int, vs = [.int i, .int j] ∧ (-(2 ^ 62) ≤ i ∧ i < 2 ^ 62 ∧ -(2 ^ 62) ≤ j ∧ j < 2 ^ 62) ∧ R (Itr i (j - i).toNat) H1
theorem pi_range1 {a : Expr} {ta : TA} {p pos : Pos} (hg : Gl X "range") (hm : X.mg "range" = none) (ha : PA X [a] ta) (hs : starEach [a] X.env = [(false, eval a X.env)] := by rfl) : PI X tg (.Call (.Name "range" p) [a] [] pos) (iRng1 ta) := by
  intro pins s σ H R I h
  refine Call_ (ld_blt I hg hm boot_range (PyProof.Rows.callWith_type1 (thn (ha pos pins s σ H _ I h) fun us s1 ⟨vs, H1, I1, r1, q1⟩ => ?_) hs rfl))
  obtain ⟨j, e, q1, q2, q⟩ := q1
  subst e
  cases r1 with
  | cons r rr =>
    cases rr
    obtain ⟨t, rfl⟩ := r
    exact call_range_1 (range_it I1 (by omega) (by omega) q1 q2 (by simpa using q))
/-! ### for -/
/-- W: the invariant by the turn and a measure; N: what the body is to reach -/
def tFor (wi : TI) (g : TG) (tb : TS) : TS := fun D σ H => wi σ H fun J H1 => ∃ W : Nat → Nat → St → Hp → Prop, (∃ m, W 0 m σ H1) ∧ ∀ i m σ H, W i m σ H →
  (J.stop i H ∧ D.nx σ H) ∨ (J.go i H ∧ ∃ N : St → Hp → Prop, (∀ σ' H', N σ' H' → ∃ m', m' < m ∧ W (i + 1) m' σ' H') ∧ ∀ x H', J.yld i H x H' → g x σ H' fun σ2 H2 => tb { D with nx := N, ct := N, bk := D.nx } σ2 H2)
/-- the records at fp as they stand -/
def pinsAt (fp : List Addr) (h : Heap) : List (Addr × Obj) := fp.filterMap fun b => (h.get? b).map fun o => (b, o)
theorem mem_pinsAt {fp : List Addr} {h : Heap} {b : Addr} {o : Obj} (hb : b ∈ fp) (e : h.get? b = some o) : (b, o) ∈ pinsAt fp h := List.mem_filterMap.mpr ⟨b, hb, by rw [e]; rfl⟩
theorem of_pinsAt {fp : List Addr} {h : Heap} {p : Addr × Obj} (hp : p ∈ pinsAt fp h) : p.1 ∈ fp ∧ h.get? p.1 = some p.2 := by
  obtain ⟨b, hb, e⟩ := List.mem_filterMap.mp hp
  cases q : h.get? b with
  | none => rw [q] at e; cases e
  | some o =>
    rw [q] at e
    have e' : (b, o) = p := Option.some.inj e
    subst e'
    exact ⟨hb, q⟩
theorem Inv.pinned {pins : List (Addr × Obj)} {σ : St} {H : Hp} {s : Shared} {fp : List Addr} (I : Inv X pins σ H s) (hf : ∀ b ∈ fp, FpOk X pins H b) (ho : ∀ b ∈ fp, ∃ o, s.heap.get? b = some o ∧ ∀ v, o.data ≠ .cell v) : Inv X (pins ++ pinsAt fp s.heap) σ H s :=
  I.pins_of fun p hp => (List.mem_append.mp hp).elim (fun z => I.pin p (List.mem_append_right _ z)) fun z => by
    obtain ⟨hb, e⟩ := of_pinsAt z
    obtain ⟨f0, f1, f2, _⟩ := hf p.1 hb
    obtain ⟨o, e', d⟩ := ho p.1 hb
    rw [e] at e'; cases e'
    exact ⟨e, f0, f1, f2, d⟩
theorem Inv.unpinned {pins pl : List (Addr × Obj)} {σ : St} {H : Hp} {s : Shared} (I : Inv X (pins ++ pl) σ H s) : Inv X pins σ H s := I.pins_of fun p hp => I.pin p (List.mem_append_right _ (List.mem_append_left _ hp))
theorem ps_for {iter : Expr} {body : List Stmt} {wi : TI} {g : TG} {tb : TS} {pos : Pos} (hp : PassesOwn (model X.prog X.w) X.A X.env X.xe) (hc : X.calm = true) (hi : PI X tg iter wi) (hg : PG X tg g) (hb : PSs X body tb)
    (hs : ∀ x, foldedSetIterable iter X.env x = pure x := by intro _; rfl) : PS X (.For tg iter body [] pos) (tFor wi g tb) := by
  intro pins s σ H D I h
  refine wpAny_For (thn (hi pins s σ H _ I h) fun v s1 h1 => thn h1 fun itv s2 h2 => ?_) hs
  obtain ⟨it, fp, tn, J, H2, e, I2, T, st2, f2, W, ⟨m0, w0⟩, turn⟩ := h2
  subst e
  -- what stays true of the iterator's objects through the loop
  have stat : ∀ {H' : Hp}, (∀ b ∈ fp, H' b = none) → ∀ b ∈ fp, FpOk X pins H' b := fun hn b hb => ⟨hn b hb, (f2 b hb).2⟩
  refine codeAny_forLoop_any (fun n s' => ∃ i σ' H', Inv X pins σ' H' s' ∧ tn i s'.heap ∧ (∀ b ∈ fp, H' b = none) ∧ W i n σ' H') ?_ m0 ⟨0, σ, H2, I2, st2, fun b hb => (f2 b hb).1, w0⟩
  rintro n s3 ⟨i, σ3, H3, I3, st3, fr3, w3⟩
  rcases turn i n σ3 H3 w3 with ⟨stop, qn⟩ | ⟨go, N, hN, step⟩
  · refine wpAny_passesOwn hp (thn (T.done X rfl rfl rfl hc i pins s3 σ3 H3 X.xe I3 (stat fr3) st3 stop) fun r s4 ⟨hr, I4⟩ => ?_)
    subst hr
    exact wpAny_execs_nil ⟨σ3, H3, I4, qn⟩
  · refine wpAny_passesOwn hp (thn (T.item X rfl rfl rfl hc i pins s3 σ3 H3 X.xe I3 (stat fr3) st3 go) fun r s4 ⟨u, hr, h4⟩ => ?_)
    subst hr
    refine wpAny_passesOwn hp (thn h4 fun _ s5 ⟨x, H5, I5, r5, y5, st5, fr5⟩ => ?_)
    have I5' := I5.pinned (stat fr5) (T.obj _ _ st5)
    refine wpAny_passesOwn hp (thn (hg _ s5 σ3 H5 x u _ I5' r5 (step x H5 y5)) fun _ s6 ⟨σ6, H6, I6, q6⟩ => ?_)
    refine wpAny_passesOwn hp (thn (hb _ s6 σ6 H6 _ I6 q6) fun f s7 q7 => ?_)
    have again : ∀ {σ7 : St} {H7 : Hp}, Inv X (pins ++ pinsAt fp s5.heap) σ7 H7 s7 → N σ7 H7 → ∃ m, m < n ∧ ∃ i σ' H', Inv X pins σ' H' s7 ∧ tn i s7.heap ∧ (∀ b ∈ fp, H' b = none) ∧ W i m σ' H' := fun {σ7 H7} I7 n7 => by
      obtain ⟨m', hm, w7⟩ := hN σ7 H7 n7
      refine ⟨m', hm, i + 1, σ7, H7, I7.unpinned, T.keep _ _ _ st5 fun b hb o e => (I7.pin (b, o) (List.mem_append_right _ (List.mem_append_right _ (mem_pinsAt hb e)))).1, fun b hb => ?_, w7⟩
      obtain ⟨o, e, d⟩ := T.obj _ _ st5 b hb
      exact (I7.pin (b, o) (List.mem_append_right _ (List.mem_append_right _ (mem_pinsAt hb e)))).2.1
    cases f with
    | next => obtain ⟨σ7, H7, I7, n7⟩ := q7; exact again I7 n7
    | cont => obtain ⟨σ7, H7, I7, n7⟩ := q7; exact again I7 n7
    | brk => obtain ⟨σ7, H7, I7, q7⟩ := q7; exact ⟨σ7, H7, I7.unpinned, q7⟩
    | ret v => obtain ⟨x7, σ7, H7, I7, r7, q7⟩ := q7; exact ⟨x7, σ7, H7, I7.unpinned, r7, q7⟩
end

/-! ### the forms one uses -/
/-- over a list that the body leaves as it is -/
theorem for_list {K : PySem.W.Frag} {a : Addr} {xs : List V} {g : TG} {tb : TS} {D : Ends} {σ : St} {H : Hp} (Pv : Nat → St → Hp → Prop) (h0 : Pv 0 σ H) (hl : ∀ i σ H, i ≤ xs.length → Pv i σ H → SqL K H a xs)
    (hs : ∀ i x σ H, xs[i]? = some x → Pv i σ H → g x σ H fun σ2 H2 => tb { D with nx := Pv (i + 1), ct := Pv (i + 1), bk := D.nx } σ2 H2) (hd : ∀ σ H, Pv xs.length σ H → D.nx σ H) :
    ∃ W : Nat → Nat → St → Hp → Prop, (∃ m, W 0 m σ H) ∧ ∀ i m σ H, W i m σ H →
      ((Itl K a).stop i H ∧ D.nx σ H) ∨ ((Itl K a).go i H ∧ ∃ N : St → Hp → Prop, (∀ σ' H', N σ' H' → ∃ m', m' < m ∧ W (i + 1) m' σ' H') ∧ ∀ x H', (Itl K a).yld i H x H' → g x σ H' fun σ2 H2 => tb { D with nx := N, ct := N, bk := D.nx } σ2 H2) := by
  refine ⟨fun i m σ H => m = xs.length - i ∧ i ≤ xs.length ∧ Pv i σ H, ⟨xs.length, by simp, Nat.zero_le _, h0⟩, ?_⟩
  rintro i m σ H ⟨rfl, hi, p⟩
  have q := hl i σ H hi p
  by_cases hlt : i < xs.length
  · refine .inr ⟨⟨xs, xs[i], q, by simp [hlt]⟩, Pv (i + 1), fun σ' H' p' => ⟨xs.length - (i + 1), by omega, rfl, hlt, p'⟩, fun x H' y => ?_⟩
    obtain ⟨e, y⟩ := y
    subst e
    exact hs i x σ _ (y xs q) p
  · have e : i = xs.length := by omega
    subst e
    exact .inl ⟨⟨xs, q, Nat.le_refl _⟩, hd σ H p⟩
theorem for_range {lo : Int} {n : Nat} {g : TG} {tb : TS} {D : Ends} {σ : St} {H : Hp} (Pv : Nat → St → Hp → Prop) (h0 : Pv 0 σ H)
    (hs : ∀ i σ H, i < n → Pv i σ H → g (.int (lo + i)) σ H fun σ2 H2 => tb { D with nx := Pv (i + 1), ct := Pv (i + 1), bk := D.nx } σ2 H2) (hd : ∀ σ H, Pv n σ H → D.nx σ H) :
    ∃ W : Nat → Nat → St → Hp → Prop, (∃ m, W 0 m σ H) ∧ ∀ i m σ H, W i m σ H →
      ((Itr lo n).stop i H ∧ D.nx σ H) ∨ ((Itr lo n).go i H ∧ ∃ N : St → Hp → Prop, (∀ σ' H', N σ' H' → ∃ m', m' < m ∧ W (i + 1) m' σ' H') ∧ ∀ x H', (Itr lo n).yld i H x H' → g x σ H' fun σ2 H2 => tb { D with nx := N, ct := N, bk := D.nx } σ2 H2) := by
  refine ⟨fun i m σ H => m = n - i ∧ i ≤ n ∧ Pv i σ H, ⟨n, by simp, Nat.zero_le _, h0⟩, ?_⟩
  rintro i m σ H ⟨rfl, hi, p⟩
  by_cases hlt : i < n
  · refine .inr ⟨hlt, Pv (i + 1), fun σ' H' p' => ⟨n - (i + 1), by omega, rfl, hlt, p'⟩, fun x H' y => ?_⟩
    obtain ⟨e, y⟩ := y
    subst e y
    exact hs i σ _ hlt p
  · have e : i = n := by omega
    subst e
    exact .inl ⟨Nat.le_refl _, hd σ H p⟩
/-- while, by a word and a measure of the state -/
theorem while_by {c : TT} {tb : TS} {D : Ends} {σ : St} {H : Hp} (Pv : St → Hp → Prop) (μ : St → Hp → Nat) (h0 : Pv σ H)
    (hs : ∀ σ H, Pv σ H → c σ H fun b H1 => if b = true then tb { D with nx := fun σ' H' => Pv σ' H' ∧ μ σ' H' < μ σ H, ct := fun σ' H' => Pv σ' H' ∧ μ σ' H' < μ σ H, bk := D.nx } σ H1 else D.nx σ H1)
    (mono : ∀ σ H Q Q', (∀ b H1, Q b H1 → Q' b H1) → c σ H Q → c σ H Q') : tWhile c tb D σ H := by
  refine ⟨fun m σ H => m = μ σ H ∧ Pv σ H, ⟨_, rfl, h0⟩, ?_⟩
  rintro m σ H ⟨rfl, p⟩
  refine mono σ H _ _ (fun b H1 q => ?_) (hs σ H p)
  cases b with
  | true => exact ⟨_, fun σ' H' ⟨p', l⟩ => ⟨_, l, rfl, p'⟩, q⟩
  | false => exact q
end L2

namespace L2
open PySem PySem.Spec PyProof.Rows

abbrev R2 := V → V → Hp → VK → Prop
/-- a two-place operation on values: f is binaryOp op, inplaceOp op or compareOp op -/
def OpR (X : Cx) (f : Value → Value → Sem Value) (r : R2) : Prop :=
  ∀ (pins : List (Addr × Obj)) (s : Shared) (σ : St) (H : Hp) (x y : V) (v u : Value) (Q : VK), Inv X pins σ H s → RelV x v → RelV y u → r x y H Q →
    wpAny (model X.prog X.w) X.A (f v u) (EP X pins σ Q) X.xe s
/-- a one-place operation -/
def UnR (X : Cx) (f : Value → Sem Value) (r : V → Hp → VK → Prop) : Prop :=
  ∀ (pins : List (Addr × Obj)) (s : Shared) (σ : St) (H : Hp) (x : V) (v : Value) (Q : VK), Inv X pins σ H s → RelV x v → r x H Q →
    wpAny (model X.prog X.w) X.A (f v) (EP X pins σ Q) X.xe s
/-- a call of a value that is known (a builtin, a type) with values -/
def CallR (X : Cx) (f : Value) (r : List V → Hp → VK → Prop) : Prop :=
  ∀ (pins : List (Addr × Obj)) (s : Shared) (σ : St) (H : Hp) (xs : List V) (us : List Value) (Q : VK), Inv X pins σ H s → Vals xs us → r xs H Q →
    wpAny (model X.prog X.w) X.A (call f us) (EP X pins σ Q) X.xe s
/-- a value's truth -/
def TruR (X : Cx) (r : V → Hp → (Bool → Hp → Prop) → Prop) : Prop :=
  ∀ (pins : List (Addr × Obj)) (s : Shared) (σ : St) (H : Hp) (x : V) (v : Value) (Q : Bool → Hp → Prop), Inv X pins σ H s → RelV x v → r x H Q →
    wpAny (model X.prog X.w) X.A (truthy v) (TP X pins σ Q) X.xe s

def tOp (r : R2) (ta tb : TE) : TE := fun σ H Q => ta σ H fun x H1 => tb σ H1 fun y H2 => r x y H2 Q
def tUn (r : V → Hp → VK → Prop) (ta : TE) : TE := fun σ H Q => ta σ H fun x H1 => r x H1 Q
/-- ints in, under C, and a value out -/
def rI (C : Int → Int → Prop) (g : Int → Int → V) : R2 := fun x y H Q => ∃ i j, x = .int i ∧ y = .int j ∧ C i j ∧ Q (g i j) H
def rI0 (g : Int → Int → V) : R2 := fun x y H Q => ∃ i j, x = .int i ∧ y = .int j ∧ Q (g i j) H
def rU (g : Int → V) : V → Hp → VK → Prop := fun x H Q => ∃ i, x = .int i ∧ Q (g i) H

section
variable {X : Cx} {a b c : Expr} {ta tb tc : TE} {pos : Pos}

theorem binT (ha : PE X a ta) (hb : PE X b tb) {pins : List (Addr × Obj)} {s : Shared} {σ : St} {H : Hp} {R : V → V → Hp → Prop} (I : Inv X pins σ H s)
    (h : ta σ H fun x H1 => tb σ H1 fun y H2 => R x y H2) {Q : Value → Shared → Prop} {f : Value → Value → Sem Value}
    (hf : ∀ v u s2 x y H2, Inv X pins σ H2 s2 → RelV x v → RelV y u → R x y H2 → wpAny (model X.prog X.w) X.A (f v u) Q X.xe s2) :
    wpAny (model X.prog X.w) X.A (eval a X.env) (fun v s₁ => wpAny (model X.prog X.w) X.A (eval b X.env) (fun u s₂ => wpAny (model X.prog X.w) X.A (f v u) Q X.xe s₂) X.xe s₁) X.xe s := by
  refine thn (ha pins s σ H _ I h) fun v s1 ⟨x, H1, I1, r1, q1⟩ => ?_
  refine thn (hb pins s1 σ H1 _ I1 q1) fun u s2 ⟨y, H2, I2, r2, q2⟩ => ?_
  exact hf v u s2 x y H2 I2 r1 r2 q2

theorem pe_op {op : Operator} {r : R2} (ho : OpR X (binaryOp op) r) (ha : PE X a ta) (hb : PE X b tb) : PE X (.BinOp a op b pos) (tOp r ta tb) := by
  intro pins s σ H Q I h
  exact wpAny_BinOp (binT ha hb I h fun v u s2 x y H2 I2 rx ry q => ho pins s2 σ H2 x y v u Q I2 rx ry q)
theorem pe_un {op : UnaryOp} {r : V → Hp → VK → Prop} (ho : UnR X (unaryOp op) r) (ha : PE X a ta) : PE X (.UnaryOp op a pos) (tUn r ta) := by
  intro pins s σ H Q I h
  exact UnaryOp_ (thn (ha pins s σ H _ I h) fun v s1 ⟨x, H1, I1, r1, q1⟩ => ho pins s1 σ H1 x v Q I1 r1 q1)
/-! ### ints -/
theorem opI {f : Value → Value → Sem Value} {C : Int → Int → Prop} {g : Int → Int → Int}
    (rule : ∀ (i j : Int) (t u : Tok) (s : Shared) (Q : Value → Shared → Prop) (E : Value → Shared → Prop), C i j → Q (.int (g i j) s.toks) { s with toks := s.toks + 1 } → wpAny (model X.prog X.w) X.A (f (.int i t) (.int j u)) Q E s) :
    OpR X f (rI C fun i j => .int (g i j)) := by
  intro pins s σ H x y v u Q I rx ry h
  obtain ⟨i, j, rfl, rfl, hc, q⟩ := h
  obtain ⟨t, rfl⟩ := rx
  obtain ⟨t', rfl⟩ := ry
  exact rule i j t t' s _ _ hc ⟨.int (g i j), H, I.tok _, ⟨_, rfl⟩, q⟩
theorem opI0 {f : Value → Value → Sem Value} {g : Int → Int → Int}
    (rule : ∀ (i j : Int) (t u : Tok) (s : Shared) (Q : Value → Shared → Prop) (E : Value → Shared → Prop), Q (.int (g i j) s.toks) { s with toks := s.toks + 1 } → wpAny (model X.prog X.w) X.A (f (.int i t) (.int j u)) Q E s) :
    OpR X f (rI0 fun i j => .int (g i j)) := by
  intro pins s σ H x y v u Q I rx ry h
  obtain ⟨i, j, rfl, rfl, q⟩ := h
  obtain ⟨t, rfl⟩ := rx
  obtain ⟨t', rfl⟩ := ry
  exact rule i j t t' s _ _ ⟨.int (g i j), H, I.tok _, ⟨_, rfl⟩, q⟩
theorem opB0 {f : Value → Value → Sem Value} {g : Int → Int → Bool}
    (rule : ∀ (i j : Int) (t u : Tok) (s : Shared) (Q : Value → Shared → Prop) (E : Value → Shared → Prop), Q (.bool (g i j)) s → wpAny (model X.prog X.w) X.A (f (.int i t) (.int j u)) Q E s) :
    OpR X f (rI0 fun i j => .bl (g i j)) := by
  intro pins s σ H x y v u Q I rx ry h
  obtain ⟨i, j, rfl, rfl, q⟩ := h
  obtain ⟨t, rfl⟩ := rx
  obtain ⟨t', rfl⟩ := ry
  exact rule i j t t' s _ _ ⟨.bl (g i j), H, I, rfl, q⟩

def CDiv (i j : Int) : Prop := 0 < j ∧ j < 1073741824
def CDivN (i j : Int) : Prop := j ≠ 0 ∧ j.natAbs < 1073741824
def CPow (i j : Int) : Prop := 0 ≤ j ∧ j ≤ 1000000 ∧ i.natAbs < 2 ^ 64
def CMul (i j : Int) : Prop := (-(2 ^ 64) < i ∧ i < 2 ^ 64) ∨ (-(2 ^ 64) < j ∧ j < 2 ^ 64)
theorem CMul.ok {i j : Int} (h : CMul i j) : IntMulOk i j := by
  rcases h with ⟨h1, h2⟩ | ⟨h1, h2⟩
  · exact .of_left (intBits_le_64 h1 h2)
  · exact .of_right (intBits_le_64 h1 h2)
theorem op_add : OpR X (binaryOp .Add) (rI0 fun i j => .int (i + j)) := opI0 fun _ _ _ _ _ _ _ q => add_int q
theorem op_sub : OpR X (binaryOp .Sub) (rI0 fun i j => .int (i - j)) := opI0 fun _ _ _ _ _ _ _ q => sub_int q
theorem op_mul : OpR X (binaryOp .Mult) (rI CMul fun i j => .int (i * j)) := opI fun _ _ _ _ _ _ _ hc q => mul_int q hc.ok
/-- // by a positive divisor -/
theorem op_fdiv : OpR X (binaryOp .FloorDiv) (rI CDiv fun i j => .int (i / j)) := opI fun i j _ _ _ _ _ hc q => by
  have h1 : (0 : Int) < j := hc.1
  have h2 : j < 1073741824 := hc.2
  exact floordiv_int (by omega) (by rw [Int.fdiv_eq_ediv_of_nonneg i (by omega)]; exact q) (.inl (PyProof.noPylong_small (by omega)))
/-- % by a positive divisor of any size -/
theorem op_mod : OpR X (binaryOp .Mod) (rI (fun _ j => 0 < j) fun i j => .int (i % j)) := opI fun i j _ _ _ _ _ hc q => by
  have h1 : (0 : Int) < j := hc
  exact mod_int' (by omega) (by rw [Int.fmod_eq_emod_of_nonneg i (by omega)]; exact q)
theorem op_modN : OpR X (binaryOp .Mod) (rI (fun _ j => j ≠ 0) fun i j => .int (i.fmod j)) := opI fun _ _ _ _ _ _ _ hc q => mod_int' hc q
theorem op_pow : OpR X (binaryOp .Pow) (rI CPow fun i j => .int (i ^ j.toNat)) := opI fun _ _ _ _ _ _ _ hc q => pow_int_small hc.1 hc.2.1 hc.2.2 q
theorem unI {f : Value → Sem Value} {g : Int → Int}
    (rule : ∀ (i : Int) (t : Tok) (s : Shared) (Q : Value → Shared → Prop) (E : Value → Shared → Prop), Q (.int (g i) s.toks) { s with toks := s.toks + 1 } → wpAny (model X.prog X.w) X.A (f (.int i t)) Q E s) :
    UnR X f (rU fun i => .int (g i)) := by
  intro pins s σ H x v Q I rx h
  obtain ⟨i, rfl, q⟩ := h
  obtain ⟨t, rfl⟩ := rx
  exact rule i t s _ _ ⟨.int (g i), H, I.tok _, ⟨_, rfl⟩, q⟩
theorem un_neg : UnR X (unaryOp .USub) (rU fun i => .int (-i)) := unI fun _ _ _ _ _ q => neg_int q
/-! ### bools among ints: n += (a < b) -/
end

/-! ### comparisons -/
/-- the scalars that == tells apart as data does -/
def scal : V → V → Bool
  | .non, .non => true | .non, .int _ => true | .int _, .non => true | .non, .bl _ => true | .bl _, .non => true | .non, .str _ => true | .str _, .non => true
  | .int _, .int _ => true | .bl _, .bl _ => true | .str _, .str _ => true | .byt _, .byt _ => true
  | .int _, .str _ => true | .str _, .int _ => true | .bl _, .str _ => true | .str _, .bl _ => true
  | _, _ => false
def rEq : R2 := fun x y H Q => scal x y = true ∧ Q (.bl (decide (x = y))) H
def rNe : R2 := fun x y H Q => scal x y = true ∧ Q (.bl (!decide (x = y))) H

theorem dec_int {i j : Int} : decide (V.int i = V.int j) = (i == j) := by
  rw [Bool.eq_iff_iff]
  simp
theorem dec_bl {i j : Bool} : decide (V.bl i = V.bl j) = (i == j) := by
  rw [Bool.eq_iff_iff]
  simp
theorem dec_str {i j : Str} : decide (V.str i = V.str j) = (i == j) := by
  rw [Bool.eq_iff_iff]
  simp
theorem dec_byt {i j : Array UInt8} : decide (V.byt i = V.byt j) = (i.toList == j.toList) := by
  rw [Bool.eq_iff_iff]
  cases i
  cases j
  simp

section
variable {X : Cx} {a b c : Expr} {ta tb tc : TE} {pos : Pos}
theorem fin_bl {pins : List (Addr × Obj)} {σ : St} {H : Hp} {s : Shared} {Q : VK} {k k' : Bool} (I : Inv X pins σ H s) (q : Q (.bl k) H) (e : k = k') : EP X pins σ Q (.bool k') s := by
  subst e
  exact ⟨.bl k, H, I, rfl, q⟩
theorem op_eq : OpR X (compareOp .Eq) rEq := by
  intro pins s σ H x y v u Q I rx ry h
  obtain ⟨hs, q⟩ := h
  cases x with
  | non =>
    cases rx
    cases y with
    | non => cases ry; exact PySem.EqNone.eq_none_none (fin_bl I q (by simp))
    | bl j => cases ry; exact PySem.EqNone.eq_none_bool (fin_bl I q (by simp))
    | int j => obtain ⟨t', rfl⟩ := ry; exact PySem.EqNone.eq_none_int (fin_bl I q (by simp))
    | str j => obtain ⟨t', rfl⟩ := ry; exact PySem.EqNone.eq_none_str (fin_bl I q (by simp))
    | _ => exact absurd (show false = true from hs) Bool.false_ne_true
  | bl i =>
    cases rx
    cases y with
    | non => cases ry; exact PySem.EqNone.eq_bool_none (fin_bl I q (by simp))
    | bl j => cases ry; exact eq_bool (fin_bl I q dec_bl)
    | str j => obtain ⟨t', rfl⟩ := ry; exact PySem.EqMixed.eq_bool_str (fin_bl I q (by simp))
    | _ => exact absurd (show false = true from hs) Bool.false_ne_true
  | int i =>
    obtain ⟨t, rfl⟩ := rx
    cases y with
    | non => cases ry; exact PySem.EqNone.eq_int_none (fin_bl I q (by simp))
    | int j => obtain ⟨t', rfl⟩ := ry; exact eq_int (fin_bl I q dec_int)
    | str j => obtain ⟨t', rfl⟩ := ry; exact PySem.EqMixed.eq_int_str (fin_bl I q (by simp))
    | _ => exact absurd (show false = true from hs) Bool.false_ne_true
  | str i =>
    obtain ⟨t, rfl⟩ := rx
    cases y with
    | non => cases ry; exact PySem.EqNone.eq_str_none (fin_bl I q (by simp))
    | bl j => cases ry; exact PySem.EqMixed.eq_str_bool (fin_bl I q (by simp))
    | int j => obtain ⟨t', rfl⟩ := ry; exact PySem.EqMixed.eq_str_int (fin_bl I q (by simp))
    | str j => obtain ⟨t', rfl⟩ := ry; exact eq_str (fin_bl I q dec_str)
    | _ => exact absurd (show false = true from hs) Bool.false_ne_true
  | byt i =>
    obtain ⟨t, rfl⟩ := rx
    cases y with
    | byt j => obtain ⟨t', rfl⟩ := ry; exact PySem.W.eq_bytes (fin_bl I q dec_byt)
    | _ => exact absurd (show false = true from hs) Bool.false_ne_true
  | _ => cases y <;> exact absurd (show false = true from hs) Bool.false_ne_true
theorem op_ne : OpR X (compareOp .NotEq) rNe := by
  intro pins s σ H x y v u Q I rx ry h
  obtain ⟨hs, q⟩ := h
  cases x with
  | non =>
    cases rx
    cases y with
    | non => cases ry; exact PySem.EqNone.ne_none_none (fin_bl I q (by simp))
    | bl j => cases ry; exact PySem.EqNone.ne_none_bool (fin_bl I q (by simp))
    | int j => obtain ⟨t', rfl⟩ := ry; exact PySem.EqNone.ne_none_int (fin_bl I q (by simp))
    | str j => obtain ⟨t', rfl⟩ := ry; exact PySem.EqNone.ne_none_str (fin_bl I q (by simp))
    | _ => exact absurd (show false = true from hs) Bool.false_ne_true
  | bl i =>
    cases rx
    cases y with
    | non => cases ry; exact PySem.EqNone.ne_bool_none (fin_bl I q (by simp))
    | bl j => cases ry; exact ne_bool (fin_bl I q (congrArg not dec_bl))
    | str j => obtain ⟨t', rfl⟩ := ry; exact PySem.EqMixed.ne_bool_str (fin_bl I q (by simp))
    | _ => exact absurd (show false = true from hs) Bool.false_ne_true
  | int i =>
    obtain ⟨t, rfl⟩ := rx
    cases y with
    | non => cases ry; exact PySem.EqNone.ne_int_none (fin_bl I q (by simp))
    | int j => obtain ⟨t', rfl⟩ := ry; exact ne_int (fin_bl I q (congrArg not dec_int))
    | str j => obtain ⟨t', rfl⟩ := ry; exact PySem.EqMixed.ne_int_str (fin_bl I q (by simp))
    | _ => exact absurd (show false = true from hs) Bool.false_ne_true
  | str i =>
    obtain ⟨t, rfl⟩ := rx
    cases y with
    | non => cases ry; exact PySem.EqNone.ne_str_none (fin_bl I q (by simp))
    | bl j => cases ry; exact PySem.EqMixed.ne_str_bool (fin_bl I q (by simp))
    | int j => obtain ⟨t', rfl⟩ := ry; exact PySem.EqMixed.ne_str_int (fin_bl I q (by simp))
    | str j => obtain ⟨t', rfl⟩ := ry; exact ne_str (fin_bl I q (congrArg not dec_str))
    | _ => exact absurd (show false = true from hs) Bool.false_ne_true
  | byt i =>
    obtain ⟨t, rfl⟩ := rx
    cases y with
    | byt j => obtain ⟨t', rfl⟩ := ry; exact PySem.W.ne_bytes (fin_bl I q (congrArg not dec_byt))
    | _ => exact absurd (show false = true from hs) Bool.false_ne_true
  | _ => cases y <;> exact absurd (show false = true from hs) Bool.false_ne_true

theorem op_lt : OpR X (compareOp .Lt) (rI0 fun i j => .bl (decide (i < j))) := opB0 fun _ _ _ _ _ _ _ q => lt_int q
theorem op_le : OpR X (compareOp .LtE) (rI0 fun i j => .bl (decide (i ≤ j))) := opB0 fun _ _ _ _ _ _ _ q => le_int q
theorem op_gt : OpR X (compareOp .Gt) (rI0 fun i j => .bl (decide (j < i))) := opB0 fun _ _ _ _ _ _ _ q => gt_int q
/-- is None, is not None: the right side a value none -/
theorem op_isN : OpR X (compareOp .Is) (fun x y H Q => y = .non ∧ Q (.bl (decide (x = .non))) H) := by
  intro pins s σ H x y v u Q I rx ry h
  obtain ⟨rfl, q⟩ := h
  cases ry
  refine is_none_gen (fin_bl I q ?_)
  cases x <;> first
    | (cases rx; rfl)
    | (obtain ⟨t, rfl⟩ := rx; rfl)
/-- is, is not of two objects that are tracked lists or instances -/
def isObj : HO → Bool
  | .lst _ => true
  | .ins _ _ _ => true
  | _ => false
/-- two rules for one operation: by cases -/
theorem OpR.or {f : Value → Value → Sem Value} {r r' : R2} (h : OpR X f r) (h' : OpR X f r') : OpR X f (fun x y H Q => r x y H Q ∨ r' x y H Q) := by
  intro pins s σ H x y v u Q I rx ry q
  rcases q with q | q
  · exact h pins s σ H x y v u Q I rx ry q
  · exact h' pins s σ H x y v u Q I rx ry q

theorem nomark (b : Expr) {op : CmpOp} (h : op ≠ .In := by decide) (h2 : op ≠ .NotIn := by decide) : behindInMarks op b = false := by
  have e1 : (op == CmpOp.In) = false := by cases op <;> first | rfl | exact absurd rfl h
  have e2 : (op == CmpOp.NotIn) = false := by cases op <;> first | rfl | exact absurd rfl h2
  cases b <;> simp [behindInMarks, e1, e2]
/-- a comparison as a value; hm: nomark b, or (for in, not in) by with_unfolding_all rfl -/
theorem pe_cmpR {op : CmpOp} {r : R2} (ho : OpR X (compareOp op) r) (ha : PE X a ta) (hb : PE X b tb) (hm : behindInMarks op b = false) : PE X (.Compare a [op] [b] pos) (tOp r ta tb) := by
  intro pins s σ H Q I h
  exact wpAny_Compare1 (binT ha hb I h fun v u s2 x y H2 I2 rx ry q => ho pins s2 σ H2 x y v u Q I2 rx ry q) hm
/-- a reading of a value as a test -/
def tTest (t : TE) : TT := fun σ H Q => t σ H fun x H' => ∃ k, x = .bl k ∧ Q k H'
theorem pt_cmpR {op : CmpOp} {r : R2} (ho : OpR X (compareOp op) r) (ha : PE X a ta) (hb : PE X b tb) (hm : behindInMarks op b = false) : PT X (.Compare a [op] [b] pos) (tTest (tOp r ta tb)) := by
  intro pins s σ H Q I h
  refine wpAny_isTrue_Compare1 (thn (ha pins s σ H _ I h) fun v s1 ⟨x, H1, I1, r1, q1⟩ => thn (hb pins s1 σ H1 _ I1 q1) fun u s2 ⟨y, H2, I2, r2, q2⟩ =>
    thn (ho pins s2 σ H2 x y v u _ I2 r1 r2 q2) fun c s3 ⟨z, H3, I3, r3, k, e, q3⟩ => ?_) hm
  subst e
  cases r3
  exact wpAny_truthy_bool ⟨H3, I3, q3⟩
/-- a op1 b op2 c -/
def tChain (r r' : R2) (ta tb tc : TE) : TE := fun σ H Q => ta σ H fun x H1 => tb σ H1 fun y H2 => r x y H2 fun z H3 => ∃ k, z = .bl k ∧
  (if k = true then tc σ H3 fun w' H4 => r' y w' H4 Q else Q (.bl false) H3)
theorem pe_chain {op op' : CmpOp} {r r' : R2} (ho : OpR X (compareOp op) r) (ho' : OpR X (compareOp op') r') (ha : PE X a ta) (hb : PE X b tb) (hc : PE X c tc)
    (hm : lastMarks [op, op'] [b, c] = false := by with_unfolding_all rfl) : PE X (.Compare a [op, op'] [b, c] pos) (tChain r r' ta tb tc) := by
  intro pins s σ H Q I h
  refine Compare_chain (thn (ha pins s σ H _ I h) fun v s1 ⟨x, H1, I1, r1, q1⟩ => chain_link (thn (hb pins s1 σ H1 _ I1 q1) fun u s2 ⟨y, H2, I2, r2, q2⟩ =>
    thn (ho pins s2 σ H2 x y v u _ I2 r1 r2 q2) fun d s3 ⟨z, H3, I3, r3, k, e, q3⟩ => ?_)) hm
  subst e
  cases r3
  refine wpAny_truthy_bool ?_
  cases k with
  | false => exact ite_ff ⟨.bl false, H3, I3, rfl, q3⟩
  | true => exact ite_tt (chain_last (thn (hc pins s3 σ H3 _ I3 q3) fun w' s4 ⟨z', H4, I4, r4, q4⟩ => ho' pins s4 σ H4 y z' u w' Q I4 r2 r4 q4))
theorem pt_chain {op op' : CmpOp} {r r' : R2} (ho : OpR X (compareOp op) r) (ho' : OpR X (compareOp op') r') (ha : PE X a ta) (hb : PE X b tb) (hc : PE X c tc)
    (hm : lastMarks [op, op'] [b, c] = false := by with_unfolding_all rfl) : PT X (.Compare a [op, op'] [b, c] pos) (tTest (tChain r r' ta tb tc)) := by
  intro pins s σ H Q I h
  refine isTrue_chain (thn (ha pins s σ H _ I h) fun v s1 ⟨x, H1, I1, r1, q1⟩ => test_link (thn (hb pins s1 σ H1 _ I1 q1) fun u s2 ⟨y, H2, I2, r2, q2⟩ =>
    thn (ho pins s2 σ H2 x y v u _ I2 r1 r2 q2) fun d s3 ⟨z, H3, I3, r3, k, e, q3⟩ => ?_)) hm
  subst e
  cases r3
  refine wpAny_truthy_bool ?_
  cases k with
  | false =>
    obtain ⟨k', e', q'⟩ := q3
    cases e'
    exact ite_ff ⟨H3, I3, q'⟩
  | true =>
    refine ite_tt (test_last (thn (hc pins s3 σ H3 _ I3 q3) fun w' s4 ⟨z', H4, I4, r4, q4⟩ => thn (ho' pins s4 σ H4 y z' u w' _ I4 r2 r4 q4) fun d' s5 ⟨z2, H5, I5, r5, k2, e2, q5⟩ => ?_))
    subst e2
    cases r5
    exact wpAny_truthy_bool ⟨H5, I5, q5⟩

/-! ### truth -/
/-- a value's truth by the abstract heap -/
def TruV (K : PySem.W.Frag) (x : V) (H : Hp) (k : Bool) : Prop :=
  match x with
  | .non => k = false
  | .bl b => k = b
  | .int i => k = (i != 0)
  | .str y => y.length ≤ sizeLine ∧ k = ((y.length : Int) != 0)
  | .byt y => y.size ≤ sizeLine ∧ k = ((y.size : Int) != 0)
  | .ref p => (∃ xs, SqL K H p xs ∧ k = !xs.isEmpty) ∨ (∃ xs, SqT K H p xs ∧ k = !xs.isEmpty) ∨ ∃ kvs, H p = some (.dK kvs) ∧ k = !kvs.isEmpty
  | _ => False
theorem line63 : (sizeLine : Nat) < 2 ^ 63 := by rw [sizeLine_eq]; decide
/-! ### strs and bytes -/
def PlainIxT (b : Expr) : Prop := ∀ o i, subscripted b false o i = operate [o, i] (getItem o i)
/-! ### scalar builtins, by CallR -/
theorem vals1 {x : V} {us : List Value} (r : Vals [x] us) : ∃ u, us = [u] ∧ RelV x u := by
  cases r with
  | cons r1 r2 => cases r2; exact ⟨_, rfl, r1⟩
theorem vals2 {x y : V} {us : List Value} (r : Vals [x, y] us) : ∃ u w', us = [u, w'] ∧ RelV x u ∧ RelV y w' := by
  cases r with
  | cons r1 r2 =>
    cases r2 with
    | cons r3 r4 => cases r4; exact ⟨_, _, rfl, r1, r3⟩
theorem call_abs : CallR X (.builtin "abs") (fun xs H Q => ∃ i, xs = [.int i] ∧ Q (.int (if i < 0 then -i else i)) H) := by
  intro pins s σ H xs us Q I r h
  obtain ⟨i, rfl, q⟩ := h
  obtain ⟨u, rfl, t, rfl⟩ := vals1 r
  exact call_abs_int fun u tk => ⟨.int (if i < 0 then -i else i), H, I.tok _, ⟨_, rfl⟩, q⟩
theorem call_max2 (hc : X.calm = true) : CallR X (.builtin "max") (fun xs H Q => ∃ i j, xs = [.int i, .int j] ∧ Q (.int (if j > i then j else i)) H) := by
  intro pins s σ H xs us Q I r h
  obtain ⟨i, j, rfl, q⟩ := h
  obtain ⟨u, w', rfl, ⟨t, rfl⟩, ⟨t', rfl⟩⟩ := vals2 r
  refine max_two_ints (I.ok.hd hc) fun h' tk k => ⟨_, H, I.kept k, ?_, q⟩
  by_cases hj : j > i
  · rw [if_pos hj, if_pos hj]; exact ⟨_, rfl⟩
  · rw [if_neg hj, if_neg hj]; exact ⟨_, rfl⟩
theorem call_min2 (hc : X.calm = true) : CallR X (.builtin "min") (fun xs H Q => ∃ i j, xs = [.int i, .int j] ∧ Q (.int (if j < i then j else i)) H) := by
  intro pins s σ H xs us Q I r h
  obtain ⟨i, j, rfl, q⟩ := h
  obtain ⟨u, w', rfl, ⟨t, rfl⟩, ⟨t', rfl⟩⟩ := vals2 r
  refine min_two_ints (I.ok.hd hc) fun h' tk k => ⟨_, H, I.kept k, ?_, q⟩
  by_cases hj : j < i
  · rw [if_pos hj, if_pos hj]; exact ⟨_, rfl⟩
  · rw [if_neg hj, if_neg hj]; exact ⟨_, rfl⟩
/-- len of a str, a bytes, a list, a tuple -/
def LenV (K : PySem.W.Frag) (x : V) (H : Hp) (n : Nat) : Prop :=
  match x with
  | .str y => y.length ≤ sizeLine ∧ n = y.length
  | .byt y => y.size ≤ sizeLine ∧ n = y.size
  | .ref p => (∃ xs, SqL K H p xs ∧ n = xs.length) ∨ ∃ xs, SqT K H p xs ∧ n = xs.length
  | _ => False
end
end L2

namespace L2
open PySem PySem.Spec PyProof.Rows

/-! ### an instance, its attributes a map -/
structure ObjM (h : Heap) (x dx C : Addr) (mA : Str → Option Value) : Prop where
  obj : h.get? x = some (PySem.W.instObj C dx)
  ns : h.Ns1 dx mA
  ne : dx ≠ x

section
variable {prog : Program} {w : World} {A : Around} {E : Value → Shared → Prop} {s : Shared} {K : PySem.W.Frag} {x dx C f : Addr} {mA : Str → Option Value} {name : Str} {v : Value}

end

/-! ### the attributes as a list of pairs -/
def putF (f : Str) (v : V) : List (Str × V) → List (Str × V)
  | [] => [(f, v)]
  | (g, x) :: r => if g = f then (g, v) :: r else (g, x) :: putF f v r
section
variable {P : Program} {w : World} {H H' : Hp} {h h' : Heap} {a C dx : Addr} {fs fs' : List (Str × V)}
end

/-! ### what of the text a class must have -/
structure Cls (K : PySem.W.Frag) (C : Addr) : Prop where
  pg : PySem.W.plainGet K C Str.empty = true
  hd : PySem.W.hasDictIn K C = true
  po : PySem.W.plainOver K C = true
  sa : PySem.W.findIn K (.ref C) "__setattr__" = some (some (.builtin "object.__setattr__"))
theorem Cls.get {K : PySem.W.Frag} {C : Addr} (c : Cls K C) (f : Str) : PySem.W.plainGet K C f = true := c.pg
/-- no class of it has the name -/
def NoAttr (K : PySem.W.Frag) (C : Addr) (f : Str) : Prop := PySem.W.findIn K (.ref C) f = some none
/-- a constant of the class -/
structure Con (K : PySem.W.Frag) (C : Addr) (f : Str) (v : V) (u : Value) : Prop where
  at_ : PySem.W.findIn K (.ref C) f = some (some u)
  rel : RelV v u
  get : PySem.W.specialIn K u "__get__" = some none
  cp : PySem.W.copiedNames.contains f = false
/-- a method: a plain def of the class or of one above it -/
structure Meth (K : PySem.W.Frag) (C : Addr) (m : Str) (f : Addr) : Prop where
  at_ : PySem.W.findIn K (.ref C) m = some (some (.ref f))
  fn : PySem.W.isFn K (.ref f) = true
  kp : PySem.W.keepIn K (.ref f) = true

section
variable {X : Cx} {pins : List (Addr × Obj)} {σ : St} {H : Hp} {s : Shared} {a C dx : Addr} {fs : List (Str × V)} {f : Str} {v : V} {A : Around} {E : Value → Shared → Prop}

/-- a new instance, tracked, without attributes -/
theorem Inv.made (I : Inv X pins σ H s) : Inv X pins σ (upd (upd H s.heap.objs.size (.own (s.heap.objs.size + 1))) (s.heap.objs.size + 1) (.ins C s.heap.objs.size []))
    { s with heap := (s.heap.push PySem.W.emptyDict).push (PySem.W.instObj C s.heap.objs.size) } := by
  have e1 : (s.heap.push PySem.W.emptyDict).get? s.heap.objs.size = some PySem.W.emptyDict := Heap.get?_push_size s.heap rfl
  have e2 : ((s.heap.push PySem.W.emptyDict).push (PySem.W.instObj C s.heap.objs.size)).get? (s.heap.objs.size + 1) = some (PySem.W.instObj C s.heap.objs.size) := by
    have := Heap.get?_push_size (s.heap.push PySem.W.emptyDict) (o := PySem.W.instObj C s.heap.objs.size) rfl
    rwa [Heap.size_push] at this
  have e3 : (s.heap.push PySem.W.emptyDict).Ns s.heap.objs.size (fun _ => none) := ⟨PySem.W.emptyDict, #[], _, e1, rfl, (fun e he => absurd he (by simp)), fun _ => rfl⟩
  have I1 := I.laid (a := s.heap.objs.size) (o := .own (s.heap.objs.size + 1)) (h' := s.heap.push PySem.W.emptyDict) (t' := s.toks) (fun b u q => Heap.get?_push_of_some _ q) (Nat.le_refl _) ⟨_, e1⟩
  refine I1.laid (a := s.heap.objs.size + 1) (o := .ins C s.heap.objs.size []) (t' := s.toks) (fun b u q => Heap.get?_push_of_some _ q) (Nat.le_of_eq (Heap.size_push _ _)) ?_
  have ne : s.heap.objs.size ≠ s.heap.objs.size + 1 := Nat.ne_of_lt (Nat.lt_succ_self _)
  refine ⟨by rw [upd_ne ne, upd_same], Nat.zero_le _, ne, e2, fun _ => none, (Heap.Ns1.of_empty e3).at fun o q => Heap.get?_push_of_some _ q, fun _ => True.intro, fun y hy => absurd rfl hy⟩

end

/-! ### readings and rules -/
/-- e.f, an attribute of the instance -/
def tFld (K : PySem.W.Frag) (ta : TE) (f : Str) : TE := fun σ H Q => ta σ H fun x H1 => ∃ a C dx fs v, x = .ref a ∧ H1 a = some (.ins C dx fs) ∧ Cls K C ∧ NoAttr K C f ∧ fs.lookup f = some v ∧ Q v H1
/-- e.f, a constant of the class -/
def tCon (K : PySem.W.Frag) (ta : TE) (f : Str) : TE := fun σ H Q => ta σ H fun x H1 => ∃ a C dx fs v u, x = .ref a ∧ H1 a = some (.ins C dx fs) ∧ Cls K C ∧ Con K C f v u ∧ fs.lookup f = none ∧ Q v H1
/-- e.f = value -/
def sFld (K : PySem.W.Frag) (ta tv : TE) (f : Str) : TS := fun D σ H => tv σ H fun y H1 => ta σ H1 fun x H2 => ∃ a C dx fs, x = .ref a ∧ H2 a = some (.ins C dx fs) ∧ Cls K C ∧ NoAttr K C f ∧ fs.length < 1000 ∧
  D.nx σ (upd H2 a (.ins C dx (putF f y fs)))
/-- an augmented operator on two values -/
def InOp (X : Cx) (op : Operator) (rd : V → V → Hp → VK → Prop) : Prop :=
  ∀ (pins : List (Addr × Obj)) (s : Shared) (σ : St) (H : Hp) (x y : V) (u v : Value) (Q : VK), Inv X pins σ H s → RelV x u → RelV y v → rd x y H Q → wpAny (model X.prog X.w) X.A (inplaceOp op u v) (EP X pins σ Q) X.xe s
/-- e.f op= value -/
def sFldAug (K : PySem.W.Frag) (ta tv : TE) (rd : V → V → Hp → VK → Prop) (f : Str) : TS := fun D σ H => ta σ H fun x H1 => ∃ a C dx fs v, x = .ref a ∧ H1 a = some (.ins C dx fs) ∧ Cls K C ∧ NoAttr K C f ∧ fs.lookup f = some v ∧
  tv σ H1 fun y H2 => rd v y H2 fun z H3 => ∃ dx' fs', H3 a = some (.ins C dx' fs') ∧ fs'.length < 1000 ∧ D.nx σ (upd H3 a (.ins C dx' (putF f z fs')))

section
variable {X : Cx} {o e value : Expr} {f : Str} {pos pos' tpos : Pos} {ta tv : TE}
def rAdd : V → V → Hp → VK → Prop := fun x y H Q => ∃ i j, x = .int i ∧ y = .int j ∧ Q (.int (i + j)) H
def rSub : V → V → Hp → VK → Prop := fun x y H Q => ∃ i j, x = .int i ∧ y = .int j ∧ Q (.int (i - j)) H
end

/-! ### isinstance -/
section
variable {X : Cx} {pins : List (Addr × Obj)} {σ : St} {H : Hp} {s : Shared} {A : Around} {E : Value → Shared → Prop} {Q : Value → Shared → Prop} {c : Value} {b : Bool}
/-- the type of a value, as the fragment's deciders take it; for an instance its class -/
inductive TyOf (K : PySem.W.Frag) (H : Hp) : V → Value → Prop where
  | non : TyOf K H .non (.type "NoneType")
  | bl (x : Bool) : TyOf K H (.bl x) (.type "bool")
  | int (i : Int) : TyOf K H (.int i) (.type "int")
  | str (x : Str) : TyOf K H (.str x) (.type "str")
  | flt (x : UInt64) : TyOf K H (.flt x) (.type "float")
  | lst {a : Addr} {xs : List V} (e : H a = some (.lst xs)) : TyOf K H (.ref a) (.type "list")
  | frz {a : Addr} {o : Obj} {xs : List V} (e : H a = some (.frz o (.lst xs))) : TyOf K H (.ref a) (.type "list")
  | tup {a : Addr} {xs : List V} (e : H a = some (.tup xs)) : TyOf K H (.ref a) (.type "tuple")
  | dK {a : Addr} {kvs : List (Key × V)} (e : H a = some (.dK kvs)) : TyOf K H (.ref a) (.type "dict")
  | dT {a : Addr} {kvs : List (List Key × V)} (e : H a = some (.dT kvs)) : TyOf K H (.ref a) (.type "dict")
  | ins {a C dx : Addr} {fs : List (Str × V)} (e : H a = some (.ins C dx fs)) (cl : Cls K C) (ha : PySem.W.findIn K (.ref C) "__class__" = some (some (.builtin "object.__class__")))
      (hn : PySem.W.specialIn K (.builtin "object.__class__") "__get__" = some (some (.builtin "getset_descriptor.__get__"))) (htk : PySem.W.takesIn K (.builtin "object.__class__") = some true)
      (hm : PySem.W.mroIn K C (.type "object") = some true) : TyOf K H (.ref a) (.ref C)
end
end L2

namespace L2
open PySem PySem.Spec PyProof.Rows

/-! ### room -/
structure Room (k : Nat) (A : Around) : Prop where
  hd : A.handled = none
  dp : A.depth + 3 * k + 5 < recursionLimit
  un : A.units + 16 * k + 200 < cLine
  gd : A.guards = some []
theorem Room.mono {j k : Nat} {A : Around} (r : Room k A) (h : j ≤ k) : Room j A := ⟨r.hd, by have := r.dp; omega, by have := r.un; omega, r.gd⟩
theorem Room.deeper {k : Nat} {A : Around} (r : Room (k + 1) A) (env : Env) : Room k (A.deeper env) :=
  ⟨r.hd, by have := r.dp; show A.depth + 1 + 3 * k + 5 < _; omega, by have := r.un; show A.units + 3 + 16 * k + 200 < _; omega, r.gd⟩
theorem Room.in1 {k : Nat} {A : Around} (r : Room (k + 1) A) : Room k A.in1 :=
  ⟨r.hd, by have := r.dp; show A.depth + 3 * k + 5 < _; omega, by have := r.un; show A.units + 1 + 16 * k + 200 < _; omega, r.gd⟩
theorem Room.depth {k : Nat} {A : Around} (r : Room k A) : A.depth < recursionLimit := by have := r.dp; omega
theorem Room.units {k : Nat} {A : Around} (r : Room k A) : A.units + 64 < cLine := by have := r.un; omega
/-! ### argument lists and displays -/
def tNil : TA := fun _ H Q => Q [] H
def tCons (ta : TE) (tr : TA) : TA := fun σ H Q => ta σ H fun x H1 => tr σ H1 fun xs H2 => Q (x :: xs) H2
section
variable {X : Cx} {e : Expr} {es : List Expr} {te : TE} {t : TA} {pos : Pos}
theorem pa_nil : PA X [] tNil := fun _ _ _ _ H Q I h => Calls.spliced_nil ⟨[], H, I, .nil, h⟩
theorem pa_cons (ha : PE X e te) (hr : PA X es t) (hs : starEach (e :: es) X.env = (false, eval e X.env) :: starEach es X.env := by rfl) : PA X (e :: es) (tCons te t) := by
  intro pos pins s σ H Q I h
  rw [hs]
  show wpAny _ _ (spliced ((false, eval e X.env) :: backTo pos (starEach es X.env))) _ _ s
  refine Calls.spliced_cons (thn (ha pins s σ H _ I h) fun u s1 ⟨x, H1, I1, r1, q1⟩ => ?_)
  exact thn (hr pos pins s1 σ H1 _ I1 q1) fun us s2 ⟨xs, H2, I2, r2, q2⟩ => ⟨x :: xs, H2, I2, .cons r1 r2, q2⟩

/-- a tuple, a list of written items -/
def tTup (t : TA) : TE := fun σ H Q => t σ H fun xs H1 => xs.length ≤ sizeLine ∧ ∀ p, H1 p = none → Q (.ref p) (upd H1 p (.tup xs))
def tLst (t : TA) : TE := fun σ H Q => t σ H fun xs H1 => xs.length ≤ sizeLine ∧ ∀ p, H1 p = none → Q (.ref p) (upd H1 p (.lst xs))
theorem pe_tup {x1} (h : PA X es t) : PE X (.Tuple es x1 pos) (tTup t) := by
  intro pins s σ H Q I hq
  refine wpAny_Tuple_spliced (thn (h pos pins s σ H _ I hq) fun us s1 ⟨xs, H1, I1, r, z, q⟩ => ⟨by rw [← r.length]; exact z, ?_⟩)
  have hf : H1 s1.heap.objs.size = none := I1.hok.fresh (Nat.le_refl _)
  refine ⟨.ref s1.heap.objs.size, upd H1 s1.heap.objs.size (.tup xs), I1.laid (t' := s1.toks) (fun b u e => Heap.get?_push_of_some _ e) (Nat.le_refl _) ?_, rfl, q _ hf⟩
  exact ⟨z, us, r, ⟨_, Heap.get?_push_size _ rfl, rfl, _, rfl⟩⟩
theorem pe_lst (h : PA X es t) : PE X (.List es pos) (tLst t) := by
  intro pins s σ H Q I hq
  refine wpAny_List_spliced (thn (h pos pins s σ H _ I hq) fun us s1 ⟨xs, H1, I1, r, z, q⟩ => ⟨by rw [← r.length]; exact z, ?_⟩)
  have hf : H1 s1.heap.objs.size = none := I1.hok.fresh (Nat.le_refl _)
  refine ⟨.ref s1.heap.objs.size, upd H1 s1.heap.objs.size (.lst xs), I1.laid (t' := s1.toks) (fun b u e => Heap.get?_push_of_some _ e) (Nat.le_refl _) ?_, rfl, q _ hf⟩
  exact ⟨z, us, 0, r, Heap.get?_push_size _ rfl⟩
end

/-! ### what a def promises -/
/-- a def's promise: the bound arguments in the parameters' order, the heap, the wanted end, the wanted exception -/
abbrev Sp := List V → Hp → VK → XK → Prop
/-- how an exception lies behind a call (file 08 gives it): the callers' frames, abstract heap and state ahead of the call, the wish, the exception, the state -/
abbrev CXT := List Env → Hp → Shared → XK → Value → Shared → Prop

/-- the state at a call -/
structure Env0 (P : Program) (w : World) (K : PySem.W.Frag) (mg : Str → Option Value) (base : Heap) (A : Around) (outer : List Env) (s : Shared) (H : Hp) : Prop where
  frames : A.frames = some outer
  mod : Mod K mg base
  bs : ∀ b o, base.get? b = some o → s.heap.get? b = some o ∧ H b = none
  bsz : base.objs.size ≤ s.heap.objs.size
  funs : s.heap.FunFrames base outer
  frf : ∀ b ∈ frs outer, H b = none
  hok : HOk P w H s.heap
  bare : AllBare s.gens
/-- a call's end -/
def CE (outer : List Env) (P : Program) (w : World) (H : Hp) (s : Shared) (Q : VK) (u : Value) (s' : Shared) : Prop :=
  ∃ v H', s'.os = s.os ∧ AllBare s'.gens ∧ Un (frs outer) [] H H' s.heap s'.heap ∧ HOk P w H' s'.heap ∧ RelV v u ∧ Q v H'
def CR (CX : CXT) (outer : List Env) (P : Program) (w : World) (H : Hp) (s : Shared) (Q : VK) (E : XK) (r : Result) (s' : Shared) : Prop :=
  match r with
  | .ok (.ret u) => CE outer P w H s Q u s'
  | .ok _ => False
  | .error e => CX outer H s E e s'
structure FnOk (P : Program) (w : World) (K : PySem.W.Frag) (mg : Str → Option Value) (base : Heap) (CX : CXT) (k : Nat) (f : Addr) (fd : FuncData) (ps : List Str) (sp : Sp) : Prop where
  len : ∀ vs H Q E, sp vs H Q E → vs.length = ps.length
  run : ∀ (A : Around) (outer : List Env) (s : Shared) (H : Hp) (args : Args) (us : List Value) (vs : List V) (Q : VK) (E : XK), Room k A → Env0 P w K mg base A outer s H → BindsTo s fd args (ps.zip us) → Vals vs us → sp vs H Q E →
    codeAny (model P w) A (.call (.ref f) args) (CR CX outer P w H s Q E) s
theorem FnOk.mono {P : Program} {w : World} {K : PySem.W.Frag} {mg : Str → Option Value} {base : Heap} {CX : CXT} {j k : Nat} {f : Addr} {fd : FuncData} {ps : List Str} {sp : Sp} (F : FnOk P w K mg base CX j f fd ps sp) (h : j ≤ k) :
    FnOk P w K mg base CX k f fd ps sp := ⟨F.len, fun A outer s H args us vs Q E hr => F.run A outer s H args us vs Q E (hr.mono h)⟩
theorem Env0.in1 {P : Program} {w : World} {K : PySem.W.Frag} {mg : Str → Option Value} {base : Heap} {A : Around} {outer : List Env} {s : Shared} {H : Hp} (e : Env0 P w K mg base A outer s H) :
    Env0 P w K mg base A.in1 outer s H := ⟨e.frames, e.mod, e.bs, e.bsz, e.funs, e.frf, e.hok, e.bare⟩

section
variable {X : Cx} {pins : List (Addr × Obj)} {σ : St} {H : Hp} {s s' : Shared}
/-- from a body: what a callee wants -/
theorem Inv.env0 (I : Inv X pins σ H s) : Env0 X.prog X.w X.K X.mg X.base X.A X.stack s H :=
  ⟨I.ok.frames, I.ok.mod, I.bs, Nat.le_trans I.ok.bsz I.sz, I.stack, I.stkFree, I.hok, I.bare⟩
/-- behind a call -/
theorem Inv.after {Q : VK} {u : Value} (I : Inv X pins σ H s) (h : CE X.stack X.prog X.w H s Q u s') : EP X pins σ Q u s' := by
  obtain ⟨v, H', os, bare, un, hok, r, q⟩ := h
  obtain ⟨hh, g, d, t, os'⟩ := s'
  obtain rfl : os' = s.os := os
  exact ⟨v, H', I.call (h' := hh) (g' := g) (d' := d) (t' := t) (ch := []) un hok bare (fun b z => absurd z (by simp)), r, q⟩
end

/-! ### calls -/
/-- f(..): the written arguments, then the defaults dvs; E: what is wanted of an exception -/
def tCall (sp : Sp) (dvs : List V) (E : XK) (t : TA) : TE := fun σ H Q => t σ H fun vs H1 => sp (vs ++ dvs) H1 Q E
/-- o.m(..) of an instance of the class at C -/
def tMeth (C : Addr) (m : Str) (sp : Sp) (dvs : List V) (E : XK) (ta : TE) (t : TA) : TE := fun σ H Q => ta σ H fun x H1 => ∃ a dx fs, x = .ref a ∧ H1 a = some (.ins C dx fs) ∧ fs.lookup m = none ∧
  t σ H1 fun vs H2 => sp (x :: (vs ++ dvs)) H2 Q E
/-- C(..): a new instance and its dict, then __init__ -/
def tMake (C : Addr) (sp : Sp) (dvs : List V) (E : XK) (t : TA) : TE := fun σ H Q => t σ H fun vs H1 => ∀ x dx, H1 x = none → H1 dx = none → dx ≠ x →
  sp (.ref x :: (vs ++ dvs)) (upd (upd H1 dx (.own x)) x (.ins C dx [])) (fun v H2 => v = .non ∧ Q (.ref x) H2) E

/-- how the parameters are bound: us the positional arguments, kw the keywords' values by name, ds the defaults that fill up -/
def Binds (K : PySem.W.Frag) (fd : FuncData) (ps : List Str) (ds : List Value) : Prop :=
  ∀ (s : Shared) (us : List Value), K.In s.heap → (us ++ ds).length = ps.length → BindsTo s fd ⟨us, []⟩ (ps.zip (us ++ ds))
/-- every parameter is given -/
theorem Binds.all {K : PySem.W.Frag} {fd : FuncData} {ps : List Str} (h : ∀ us : List Value, us.length = ps.length → bindArgs fd ⟨us, []⟩ = pure (ps.zip us)) : Binds K fd ps [] := fun s us _ hl => by
  rw [List.append_nil] at hl ⊢
  exact .of_eq (h us hl)

/-- an exception of a callee reaches what this body wants of exceptions -/
def Passes (CX : CXT) (X : Cx) (E : XK) : Prop := ∀ (pins : List (Addr × Obj)) (σ : St) (H : Hp) (s : Shared) (e : Value) (s' : Shared), Inv X pins σ H s → CX X.stack H s E e s' → X.xe e s'

section
variable {X : Cx} {CX : CXT} {k : Nat} {f C : Addr} {fd : FuncData} {ps : List Str} {sp : Sp} {dvs : List V} {ds : List Value} {E : XK} {x m : Str} {p pos apos : Pos} {e o : Expr} {es : List Expr} {ta : TE} {t : TA}

/-- the callee runs -/
theorem run_fn {pins : List (Addr × Obj)} {σ : St} {H : Hp} {s : Shared} {Q : VK} {us : List Value} {vs : List V} (F : FnOk X.prog X.w X.K X.mg X.base CX k f fd ps sp) (hr : Room k X.A) (hb : Binds X.K fd ps ds) (hd : Vals dvs ds) (hx : Passes CX X E)
    (I : Inv X pins σ H s) (r : Vals vs us) (h : sp (vs ++ dvs) H Q E) : wpAny (model X.prog X.w) X.A (call (.ref f) us) (EP X pins σ Q) X.xe s := by
  have r2 : Vals (vs ++ dvs) (us ++ ds) := r.append hd
  have hl : (us ++ ds).length = ps.length := by rw [← r2.length]; exact F.len _ _ _ _ h
  refine wpAny_call (codeAny_mono (F.run X.A X.stack s H ⟨us, []⟩ (us ++ ds) (vs ++ dvs) Q E hr I.env0 (hb s us I.kIn hl) r2 h) fun r s' hq => ?_)
  cases r with
  | error e => exact hx pins σ H s e s' I hq
  | ok fl =>
    cases fl with
    | ret u => exact I.after hq
    | next => exact False.elim hq
    | brk => exact False.elim hq
    | cont => exact False.elim hq

theorem pe_call (F : FnOk X.prog X.w X.K X.mg X.base CX k f fd ps sp) (hr : Room k X.A) (hg : Gl X x) (hm : X.mg x = some (.ref f)) (hk : PySem.W.keepIn X.K (.ref f) = true) (hb : Binds X.K fd ps ds) (hd : Vals dvs ds) (hx : Passes CX X E)
    (ha : PA X (e :: es) t) (hdb : (x == ("__debug__" : Str)) = false := by decide) (he : starEach (e :: es) X.env = (false, eval e X.env) :: starEach es X.env := by rfl) (hpl : (backTo pos (starEach es X.env)).any (·.1) = false := by rfl) :
    PE X (.Call (.Name x p) (e :: es) [] pos) (tCall sp dvs E t) := by
  intro pins s σ H Q I h
  refine wpAny_Call_Name_kw (ld_glob I hg hm ?_ hdb)
  refine PySem.W.callWith_K (h₀ := X.base) I.ok.mod.kin hk (thn (ha pos pins s σ H _ I h) fun us s1 ⟨vs, H1, I1, r, q⟩ => ⟨I1.kIn, ?_⟩) he hpl
  exact run_fn F hr hb hd hx I1 r q
theorem pe_call0 (F : FnOk X.prog X.w X.K X.mg X.base CX k f fd ps sp) (hr : Room k X.A) (hg : Gl X x) (hm : X.mg x = some (.ref f)) (hk : PySem.W.keepIn X.K (.ref f) = true) (hb : Binds X.K fd ps ds) (hd : Vals dvs ds) (hx : Passes CX X E)
    (hdb : (x == ("__debug__" : Str)) = false := by decide) : PE X (.Call (.Name x p) [] [] pos) (tCall sp dvs E tNil) := by
  intro pins s σ H Q I h
  refine wpAny_Call_Name_kw (ld_glob I hg hm ?_ hdb)
  exact PySem.W.callWith_K0 I.kIn hk (run_fn (us := []) F hr hb hd hx I .nil h)

/-- what a class must have to be made -/
structure Mk (K : PySem.W.Frag) (C f : Addr) : Prop where
  makes : PySem.W.makesIn K C = true
  init : PySem.W.findIn K (.ref C) "__init__" = some (some (.ref f))
  fn : PySem.W.isFn K (.ref f) = true
  kp : PySem.W.keepIn K (.ref C) = true

end

/-! ### keywords -/
/-- the values of the keywords, from the left -/
def PK (X : Cx) (kws : List Keyword) (t : TA) : Prop :=
  ∀ (pos : Pos) (pins : List (Addr × Obj)) (s : Shared) (σ : St) (H : Hp) (Q : List V → Hp → Prop), Inv X pins σ H s → t σ H Q → wpAny (model X.prog X.w) X.A (evalAll ((backToKw pos (keywordEach kws X.env)).map (·.2))) (AP X pins σ Q) X.xe s
section
variable {X : Cx} {CX : CXT} {k : Nat} {f C : Addr} {fd : FuncData} {ps ks : List Str} {sp : Sp} {E : XK} {x m : Str} {p pos apos kpos : Pos} {e o : Expr} {es : List Expr} {kws : List Keyword} {te ta : TE} {t tk : TA} {nm : Option Str}
/-- how a call with keywords binds: g puts the positional values us and the keywords' values ws (names ks) in the parameters' order, defaults among them -/
structure KBinds (K : PySem.W.Frag) (fd : FuncData) (ps ks : List Str) (g : List Value → List Value → List Value) (gV : List V → List V → List V) : Prop where
  to : ∀ (s : Shared) (us ws : List Value), K.In s.heap → (g us ws).length = ps.length → BindsTo s fd ⟨us, ks.zip ws⟩ (ps.zip (g us ws))
  rel : ∀ {vs : List V} {us : List Value} {zs : List V} {ws : List Value}, Vals vs us → Vals zs ws → Vals (gV vs zs) (g us ws)
def tCallK (sp : Sp) (gV : List V → List V → List V) (E : XK) (t tk : TA) : TE := fun σ H Q => t σ H fun vs H1 => tk σ H1 fun zs H2 => sp (gV vs zs) H2 Q E
variable {g : List Value → List Value → List Value} {gV : List V → List V → List V}
end

/-! ### a def's body keeps its promise -/
/-- names: the parameters first -/
structure FnScope (N P : List Str) (sc : Scope) : Prop where
  kind : sc.kind = .function
  co : sc.isCoroutine = false
  gen : sc.isGenerator = false
  nd : N.Nodup
  pre : N.take P.length = P
  par : ∀ x ∈ P, sc.names.lookup x = some .local ∨ sc.names.lookup x = some .cell
  nofree : ∀ y ∈ sc.names, y.2 ≠ .free

theorem bindL_out {kindOf : Str → Option NameKind} {x : Str} : ∀ {binds : List (Str × Value)} {m : Str → Option Value}, (∀ v, (x, v) ∉ binds) → bindL kindOf binds m x = m x
  | [], _, _ => rfl
  | (n, v) :: r, m, h => by
    unfold bindL
    rw [bindL_out fun w hw => h w (List.mem_cons_of_mem _ hw)]
    split
    · have : x ≠ n := by rintro rfl; exact h v List.mem_cons_self
      simp [this]
    · rfl
theorem bindC_out {kindOf : Str → Option NameKind} {x : Str} : ∀ {binds : List (Str × Value)} {m : Str → Option Value}, (∀ v, (x, v) ∉ binds) → bindC kindOf binds m x = m x
  | [], _, _ => rfl
  | (n, v) :: r, m, h => by
    unfold bindC
    rw [bindC_out fun w hw => h w (List.mem_cons_of_mem _ hw)]
    split
    · rfl
    · have : x ≠ n := by rintro rfl; exact h v List.mem_cons_self
      simp [this]
theorem bindL_get {kindOf : Str → Option NameKind} {x : Str} {v : Value} : ∀ {P : List Str} {vs : List Value} {i : Nat} {m : Str → Option Value}, P.Nodup → P[i]? = some x → vs[i]? = some v → kindOf x = some .local →
    bindL kindOf (P.zip vs) m x = some v
  | [], _, _, _, _, h, _, _ => by simp at h
  | _ :: _, [], _, _, _, _, h, _ => by simp at h
  | p :: P, w :: vs, 0, m, nd, h1, h2, hk => by
    simp at h1 h2; subst h1; subst h2
    show bindL kindOf ((p, w) :: P.zip vs) m p = _
    unfold bindL
    rw [bindL_out fun v hv => (List.nodup_cons.mp nd).1 (List.of_mem_zip hv).1, if_pos hk]
    simp
  | p :: P, w :: vs, i + 1, m, nd, h1, h2, hk => by
    show bindL kindOf ((p, w) :: P.zip vs) m x = _
    unfold bindL
    exact bindL_get (i := i) (List.nodup_cons.mp nd).2 (by simpa using h1) (by simpa using h2) hk
theorem bindC_get {kindOf : Str → Option NameKind} {x : Str} {v : Value} : ∀ {P : List Str} {vs : List Value} {i : Nat} {m : Str → Option Value}, P.Nodup → P[i]? = some x → vs[i]? = some v → kindOf x ≠ some .local →
    bindC kindOf (P.zip vs) m x = some v
  | [], _, _, _, _, h, _, _ => by simp at h
  | _ :: _, [], _, _, _, _, h, _ => by simp at h
  | p :: P, w :: vs, 0, m, nd, h1, h2, hk => by
    simp at h1 h2; subst h1; subst h2
    show bindC kindOf ((p, w) :: P.zip vs) m p = _
    unfold bindC
    rw [bindC_out fun v hv => (List.nodup_cons.mp nd).1 (List.of_mem_zip hv).1, if_neg hk]
    simp
  | p :: P, w :: vs, i + 1, m, nd, h1, h2, hk => by
    show bindC kindOf ((p, w) :: P.zip vs) m x = _
    unfold bindC
    exact bindC_get (i := i) (List.nodup_cons.mp nd).2 (by simpa using h1) (by simpa using h2) hk

/-- the names' values at the entry -/
def start (N : List Str) (vs : List V) : St := vs.map some ++ List.replicate (N.length - vs.length) none

/-- the context of a def's body, at its entry; an exception leaves the frame, then lies as CX says -/
def cxOf (CX : CXT) (P : Program) (w : World) (K : PySem.W.Frag) (mg : Str → Option Value) (base : Heap) (N : List Str) (qual : Str) (scope : Scope) (f : Addr) (cd : Value) (A : Around) (outer : List Env) (s : Shared) (H : Hp) (E : XK) : Cx where
  prog := P
  w := w
  K := K
  mg := mg
  base := base
  A := A.deeper (envOfC qual scope s.heap.objs.size f cd)
  N := N
  s₀ := s
  H₀ := H
  env := envOfC qual scope s.heap.objs.size f cd
  outer := outer
  stack := envOfC qual scope s.heap.objs.size f cd :: outer
  ex := []
  calm := true
  fn := fun _ => true
  pn := []
  xe := fun e s' => wpAny (model P w) (A.deeper (envOfC qual scope s.heap.objs.size f cd)) (leaving (envOfC qual scope s.heap.objs.size f cd) e) (fun _ s'' => CX outer H s E e s'') (fun e' s'' => CX outer H s E e' s'') s'

theorem cell_has {sc : Scope} {n : Nat} {x : Str} (h : sc.names.lookup x = some .cell) : ∃ c, (cellsFrom n sc.names []).lookup x = some c := by
  have q := PySem.W.cellsFrom_some sc.names n [] (.inl h)
  exact Option.isSome_iff_exists.mp q

theorem inv_start {CX : CXT} {P : Program} {w : World} {K : PySem.W.Frag} {mg : Str → Option Value} {base : Heap} {N ps : List Str} {qual : Str} {scope : Scope} {f : Addr} {cd : Value} {A : Around} {outer : List Env} {s s1 : Shared} {H : Hp} {E : XK} {us : List Value} {vs : List V}
    (S : FnScope N ps scope) (hd : A.handled = none) (e0 : Env0 P w K mg base A outer s H) (hl : vs.length = ps.length) (r : Vals vs us)
    (x : InCallC s s.heap.objs.size (bindL (envOfC qual scope s.heap.objs.size f cd).kindOf (ps.zip us) fun _ => none) (cellsFrom (s.heap.objs.size + 1) scope.names []) (bindC (envOfC qual scope s.heap.objs.size f cd).kindOf (ps.zip us) fun _ => none) s1) :
    Inv (cxOf CX P w K mg base N qual scope f cd A outer s H E) [] (start N vs) H s1 := by
  have hpl : ps.length ≤ N.length := by have := congrArg List.length S.pre; rw [List.length_take] at this; omega
  obtain ⟨h1, tk, rfl, hk⟩ := x.done
  have noA : ∀ b : Addr, b ∉ (cxOf CX P w K mg base N qual scope f cd A outer s H E).ex := fun b z => absurd (show b ∈ ([] : List Addr) from z) (by simp)
  refine ⟨⟨e0.mod, S.kind, rfl, rfl, Nat.le_refl _, fun y z c h1 h2 => ?_, fun y hy => ?_, fun y c _ h => ?_, fun _ => hd, Around.frames_deeper e0.frames, .inr ⟨rfl, rfl⟩, fun b z => absurd z (noA b), e0.bs, e0.bsz, fun b _ _ => noA b, fun b z => absurd z (noA b), e0.funs, e0.frf⟩,
    rfl, e0.bare, Un.kept hk, ⟨_, x.toInCall.ns, fun i y v h1 h2 h3 => ?_⟩, fun y c h => ⟨_, x.cell y c h⟩, e0.hok.fresh (Nat.le_refl _), fun y c h => ?_, fun p hp => absurd (show p ∈ ([] : List (Addr × Obj)) from hp) (by simp), e0.hok.kept hk, ?_⟩
  · exact name_of_addr x.apart (PySem.mem_of_lookup h1) (PySem.mem_of_lookup h2)
  · have hy : scope.names.lookup y = some .cell ∨ scope.names.lookup y = some .free := hy
    rcases hy with hy | hy
    · exact cell_has hy
    · exact absurd rfl (S.nofree _ (PySem.mem_of_lookup hy))
  · exact Nat.le_of_lt (x.above y c (PySem.mem_of_lookup h))
  · have hi : i < vs.length := by
      unfold start at h2
      by_cases hi : i < vs.length
      · exact hi
      · rw [List.getElem?_append_right (by simpa using hi)] at h2
        rw [List.getElem?_replicate] at h2
        split at h2 <;> cases h2
    have ha : vs[i]? = some v := by
      unfold start at h2
      rw [List.getElem?_append_left (by simpa using hi), List.getElem?_map] at h2
      cases e : vs[i]? with
      | none => rw [e] at h2; cases h2
      | some a => rw [e] at h2; cases h2; rfl
    obtain ⟨u, hu, rv⟩ := r.get ha
    have hp : ps[i]? = some y := by
      rw [← S.pre, List.getElem?_take_of_lt (by omega)]; exact h1
    have ndP : ps.Nodup := by rw [← S.pre]; exact S.nd.sublist (List.take_sublist _ _)
    refine ⟨u, rv, ?_⟩
    rcases S.par y (List.mem_of_getElem? hp) with k | k
    · exact .inl ⟨k, bindL_get ndP hp hu k⟩
    · obtain ⟨c, e⟩ := cell_has (n := s.heap.objs.size + 1) k
      refine .inr ⟨.inl k, c, e, ?_⟩
      have q := x.cell y c e
      rw [bindC_get ndP hp hu (by show scope.names.lookup y ≠ _; rw [k]; decide)] at q
      exact q
  · exact e0.hok.fresh (Nat.le_of_lt (x.above y c (PySem.mem_of_lookup h)))
  · unfold start
    show _ = N.length
    rw [List.length_append, List.length_map, List.length_replicate]
    omega

/-- THE RULE: a def (or a method) of the text, by its body. The body's reading t is chosen for each entry; it is run at the parameters' values -/
theorem fn_of {CX : CXT} {P : Program} {w : World} {K : PySem.W.Frag} {mg : Str → Option Value} {base : Heap} {k : Nat} {f : Addr} {name qual : Str} {params : Arguments} {body : List Stmt} {scope : Scope} {dV kV doc pm cdv ct oc : Value} {an od : Option Addr}
    {osl : Array (Option Value)} {N ps : List Str} {sp : Sp} (lk : K.lookup f = some ⟨oc, od, .func (PySem.W.fnOf name qual params body scope dV kV doc pm an cdv ct), osl⟩) (hcd : PySem.W.codeIn K cdv qual = true) (S : FnScope N ps scope)
    (len : ∀ vs H Q E, sp vs H Q E → vs.length = ps.length)
    (hbody : ∀ (A : Around) (outer : List Env) (s : Shared) (H : Hp) (vs : List V) (Q : VK) (E : XK), Room k (A.deeper (envOfC qual scope s.heap.objs.size f cdv)) → sp vs H Q E →
      ∃ t, PSs (cxOf CX P w K mg base N qual scope f cdv A outer s H E) body t ∧ t { nx := fun _ H' => Q .non H', rt := Q } (start N vs) H) :
    FnOk P w K mg base CX (k + 1) f (PySem.W.fnOf name qual params body scope dV kV doc pm an cdv ct) ps sp := by
  refine ⟨len, fun A outer s H args us vs Q E hr e0 hb r hsp => ?_⟩
  have hl := len _ _ _ _ hsp
  have KX : K.In s.heap := e0.mod.kin.keeps fun b o e => (e0.bs b o e).1
  have lim : s.heap.NoLimit := e0.mod.nolimit.keeps fun b o e => (e0.bs b o e).1
  have hkind : ∀ y ∈ ps.zip us, scope.names.lookup y.1 = some .local ∨ (scope.names.lookup y.1 = some .cell ∧ ((cellsFrom (s.heap.objs.size + 1) scope.names []).lookup y.1).isSome = true) := fun ⟨n, v⟩ hy => by
    rcases S.par n (List.of_mem_zip hy).1 with q | q
    · exact .inl q
    · exact .inr ⟨q, PySem.W.cellsFrom_some _ _ _ (.inl q)⟩
  refine codeAny_call_function hr.depth (KX _ _ lk) rfl S.co S.gen rfl (PySem.W.codeRec_of KX hcd) (hb _ _ _ _ ?_)
  refine wpAny_newFunctionEnv_cells S.kind hkind fun env he s1 x => ?_
  subst he
  refine ⟨lim.keeps x.toInCall.keep, codeAny_func ?_⟩
  obtain ⟨t, ht, hq⟩ := hbody A outer s H vs Q E (hr.deeper _) hsp
  have I : Inv (cxOf CX P w K mg base N qual scope f cdv A outer s H E) [] (start N vs) H s1 := inv_start S hr.hd e0 hl r x
  refine wpAny_mono (ht [] s1 (start N vs) H _ I hq) (fun fl s' hs => ?_) fun e s' hs => hs
  have fin : ∀ {σ' : St} {H' : Hp} {v : V} {u : Value}, Inv (cxOf CX P w K mg base N qual scope f cdv A outer s H E) [] σ' H' s' → RelV v u → Q v H' → CE outer P w H s Q u s' :=
    fun {σ' H' v u} J rv q => ⟨v, H', J.os, J.bare, J.base, J.hok, rv, q⟩
  cases fl with
  | ret u =>
    obtain ⟨v, σ', H', J, rv, q⟩ := hs
    exact fin J rv q
  | next =>
    obtain ⟨σ', H', J, q⟩ := hs
    exact fin (v := V.non) (u := Value.none) J rfl q
  | brk =>
    obtain ⟨_, _, _, q⟩ := hs
    exact False.elim q
  | cont =>
    obtain ⟨_, _, _, q⟩ := hs
    exact False.elim q
end L2

namespace L2
open PySem PySem.Spec PyProof.Rows
section
variable {X : Cx} {x : Str} {p pos : Pos} {e : Expr} {es : List Expr} {t : TA} {id T : String} {r : List V → Hp → VK → Prop}

def tCB (r : List V → Hp → VK → Prop) (t : TA) : TE := fun σ H Q => t σ H fun vs H1 => r vs H1 Q
/-- f(e, ..), f a built-in function -/
theorem pe_callB (hc : CallR X (.builtin id) r) (hg : Gl X x) (hm : X.mg x = none) (hv : bootBuiltins x = some (.builtin id)) (ha : PA X (e :: es) t) (hn : x ≠ "__name__" := by decide) (hdb : (x == ("__debug__" : Str)) = false := by decide)
    (he : starEach (e :: es) X.env = (false, eval e X.env) :: starEach es X.env := by rfl) (hpl : (backTo pos (starEach es X.env)).any (·.1) = false := by rfl) : PE X (.Call (.Name x p) (e :: es) [] pos) (tCB r t) := by
  intro pins s σ H Q I h
  refine wpAny_Call_Name_kw (ld_blt I hg hm hv ?_ hn hdb)
  exact PyProof.Rows.callWith_builtin1 (thn (ha pos pins s σ H _ I h) fun us s1 ⟨vs, H1, I1, r1, q1⟩ => hc pins s1 σ H1 vs us Q I1 r1 q1) he hpl
/-- T(e, ..), T a built-in type -/
theorem pe_callTy (hc : CallR X (.type T) r) (hg : Gl X x) (hm : X.mg x = none) (hv : bootBuiltins x = some (.type T)) (ha : PA X (e :: es) t) (hn : x ≠ "__name__" := by decide) (hdb : (x == ("__debug__" : Str)) = false := by decide)
    (he : starEach (e :: es) X.env = (false, eval e X.env) :: starEach es X.env := by rfl) (hpl : (backTo pos (starEach es X.env)).any (·.1) = false := by rfl) : PE X (.Call (.Name x p) (e :: es) [] pos) (tCB r t) := by
  intro pins s σ H Q I h
  refine wpAny_Call_Name_kw (ld_blt I hg hm hv ?_ hn hdb)
  exact PyProof.Rows.callWith_type1 (thn (ha pos pins s σ H _ I h) fun us s1 ⟨vs, H1, I1, r1, q1⟩ => hc pins s1 σ H1 vs us Q I1 r1 q1) he hpl
end
end L2

namespace HT
open PySem PyProof.Rows

/-- t < u of tuples of ints -/
def lexLt : List Int → List Int → Bool
  | [], [] => false
  | [], _ :: _ => true
  | _ :: _, [] => false
  | x :: xs, y :: ys => if x = y then lexLt xs ys else decide (x < y)
section
open PySem.SeqAt
open PySem.AutoSeq1 (wpAny_loadPart')
open PySem.MeetsSeq PySem.MeetsSeq2 PySem.MeetsSeq3

end

section
variable {prog : Program} {w : World} {A : Around} {E : Value → Shared → Prop} {s : Shared}

/-! ### t[a:b], not the whole -/
/-- a slice's bound as a place among n (d where it is left out) -/
def sIx (n d : Nat) : Option Int → Nat
  | none => d
  | some v => if v < 0 then (v + (n : Int)).toNat else min v.toNat n
end
end HT

namespace L2
open PySem PySem.Spec PyProof.Rows

/-! ### the parts of a slice -/
abbrev TO := St → Hp → (Option Int → Hp → Prop) → Prop
/-- a slice's part (left out, or an int) -/
def PO (X : Cx) (e : Option Expr) (t : TO) : Prop :=
  ∀ (pins : List (Addr × Obj)) (s : Shared) (σ : St) (H : Hp) (Q : Option Int → Hp → Prop), Inv X pins σ H s → t σ H Q →
    wpAny (model X.prog X.w) X.A (evalPart e X.env) (fun u s' => ∃ o H', Inv X pins σ H' s' ∧ IsPart u o ∧ Q o H') X.xe s
def tNoPart : TO := fun _ H Q => Q none H
def tPart (t : TE) : TO := fun σ H Q => t σ H fun x H1 => ∃ i, x = .int i ∧ Q (some i) H1

theorem intsAre_of {ns : List Int} : ∀ {us : List Value}, Vals (ns.map V.int) us → IntsAre us ns := by
  induction ns with
  | nil => intro us r; rw [List.map_nil] at r; cases r; exact .nil
  | cons n ns ih =>
    intro us r
    rw [List.map_cons] at r
    cases r with
    | cons r1 r2 =>
      obtain ⟨t, e⟩ := r1
      subst e
      exact .cons n t (ih r2)

section
variable {X : Cx} {e : Expr} {te : TE} {lo hi : Option Expr} {tl th : TO} {pos p2 : Pos}

theorem po_none : PO X none tNoPart := by
  intro pins s σ H Q I h
  rw [evalPart_none]
  exact wpAny_pure ⟨none, H, I, .none, h⟩
theorem po_some (h : PE X e te) : PO X (some e) (tPart te) := by
  intro pins s σ H Q I hw
  rw [evalPart_some]
  refine thn (h pins s σ H _ I hw) fun u s1 ⟨x, H1, I1, r1, q1⟩ => ?_
  obtain ⟨i, rfl, q⟩ := q1
  obtain ⟨t, rfl⟩ := r1
  exact ⟨some i, H1, I1, .int i t, q⟩

/-- what a slice of a value is, by values: the slice object stands at sl -/
def SlR (X : Cx) (r : V → Option Int → Option Int → Hp → VK → Prop) : Prop :=
  ∀ (pins : List (Addr × Obj)) (s : Shared) (σ : St) (H : Hp) (x : V) (v vl vu : Value) (lo hi : Option Int) (sl : Addr) (Q : VK), Inv X pins σ H s → RelV x v → s.heap.IsSliceOf sl vl vu .none → IsPart vl lo → IsPart vu hi → r x lo hi H Q →
    ∃ T id, typeLookup (.type T) "__getitem__" = pure (some (.builtin id)) ∧ s.TypeIs v T ∧ wpAny (model X.prog X.w) X.A (getItem v (.ref sl)) (EP X pins σ Q) X.xe s
theorem SlR.or {r r' : V → Option Int → Option Int → Hp → VK → Prop} (h : SlR X r) (h' : SlR X r') : SlR X (fun x lo hi H Q => r x lo hi H Q ∨ r' x lo hi H Q) := by
  intro pins s σ H x v vl vu lo hi sl Q I rx hs pl pu q
  rcases q with q | q
  · exact h pins s σ H x v vl vu lo hi sl Q I rx hs pl pu q
  · exact h' pins s σ H x v vl vu lo hi sl Q I rx hs pl pu q
def tSl (r : V → Option Int → Option Int → Hp → VK → Prop) (te : TE) (tl th : TO) : TE := fun σ H Q => te σ H fun x H1 => tl σ H1 fun l H2 => th σ H2 fun u H3 => r x l u H3 Q
/-- a[lo:hi], any a -/
theorem pe_slice {r : V → Option Int → Option Int → Hp → VK → Prop} (hr : SlR X r) (he : PE X e te) (hl : PO X lo tl) (hu : PO X hi th) : PE X (.Subscript e (.Slice lo hi none p2) pos) (tSl r te tl th) := by
  intro pins s σ H Q I h
  refine Subscript_ (thn (he pins s σ H _ I h) fun v s1 ⟨x, H1, I1, r1, q1⟩ => ?_)
  refine wpAny_Slice (thn (hl pins s1 σ H1 _ I1 q1) fun vl s2 ⟨l, H2, I2, pl, q2⟩ => thn (hu pins s2 σ H2 _ I2 q2) fun vu s3 ⟨u, H3, I3, pu, q3⟩ => ?_)
  rw [evalPart_none]
  refine wpAny_pure ?_
  have I4 : Inv X pins σ H3 { s3 with heap := s3.heap.push { cls := .type "slice", data := .fields #[vl, vu, .none] } } := I3.kept (t' := s3.toks) fun b ob q => Heap.get?_push_of_some _ q
  obtain ⟨T, id, hT, ht, hg⟩ := hr pins { s3 with heap := s3.heap.push { cls := .type "slice", data := .fields #[vl, vu, .none] } } σ H3 x v vl vu l u s3.heap.objs.size Q I4 r1 (Heap.IsSliceOf.new ..) pl pu q3
  show wpAny (model X.prog X.w) X.A (subscriptTail e (.Slice lo hi none p2) v (.ref s3.heap.objs.size)) (EP X pins σ Q) X.xe { s3 with heap := s3.heap.push { cls := .type "slice", data := .fields #[vl, vu, .none] } }
  exact tail_any (ops := [.ref s3.heap.objs.size, v]) ht hT hg (by with_unfolding_all rfl)

/-- the items of xs[lo:hi] -/
def cutV (xs : List V) (lo hi : Option Int) : List V := (xs.drop (HT.sIx xs.length 0 lo)).take (HT.sIx xs.length xs.length hi - HT.sIx xs.length 0 lo)
theorem cutV_length (xs : List V) (lo hi : Option Int) : (cutV xs lo hi).length ≤ xs.length := by
  unfold cutV
  rw [List.length_take, List.length_drop]
  omega
/-- t[lo:hi], not the whole of it (the whole would be t itself) -/
def rSlT (K : PySem.W.Frag) : V → Option Int → Option Int → Hp → VK → Prop := fun x lo hi H Q => ∃ a xs, x = .ref a ∧ SqT K H a xs ∧
  ¬ (HT.sIx xs.length 0 lo = 0 ∧ HT.sIx xs.length xs.length hi = xs.length) ∧ ∀ p, H p = none → Q (.ref p) (upd H p (.tup (cutV xs lo hi)))
/-! ### t < u, t + u -/
def rLtT (K : PySem.W.Frag) : R2 := fun x y H Q => ∃ a b ns ms, x = .ref a ∧ y = .ref b ∧ SqT K H a (ns.map V.int) ∧ SqT K H b (ms.map V.int) ∧ Q (.bl (HT.lexLt ns ms)) H
/-- t + u, t not empty: u empty gives t itself -/
def rCatT (K : PySem.W.Frag) : R2 := fun x y H Q => ∃ a b xs ys, x = .ref a ∧ y = .ref b ∧ SqT K H a xs ∧ SqT K H b ys ∧ xs ≠ [] ∧ xs.length + ys.length ≤ sizeLine ∧
  (ys = [] → Q (.ref a) H) ∧ (ys ≠ [] → ∀ p, H p = none → Q (.ref p) (upd H p (.tup (xs ++ ys))))
end
end L2

namespace L2
open PySem PySem.Spec PyProof.Rows

/-! ### places -/
/-- the place that an index of any sign means -/
def ixN (n : Nat) (i : Int) : Option Nat := if 0 ≤ i then (if i < n then some i.toNat else none) else if -(n : Int) ≤ i then some (i + n).toNat else none
def atI {α : Type} (xs : List α) (i : Int) : Option α := (ixN xs.length i).bind fun j => xs[j]?
theorem ixN_seq {n : Nat} {i : Int} {j : Nat} (h : ixN n i = some j) : seqIndex? i n = some j ∧ j < n ∧ -(n : Int) ≤ i ∧ i < n := by
  unfold ixN at h
  by_cases h0 : 0 ≤ i
  · rw [if_pos h0] at h
    by_cases h1 : i < n
    · rw [if_pos h1] at h
      have e : i.toNat = j := Option.some.inj h
      exact ⟨by rw [seqIndex_of h0 h1, e], by omega, by omega, h1⟩
    · rw [if_neg h1] at h; cases h
  · rw [if_neg h0] at h
    by_cases h1 : -(n : Int) ≤ i
    · rw [if_pos h1] at h
      have e : (i + n).toNat = j := Option.some.inj h
      exact ⟨by rw [seqIndex_neg (by omega) h1, e], by omega, h1, by omega⟩
    · rw [if_neg h1] at h; cases h
theorem atI_get {α : Type} {xs : List α} {i : Int} {v : α} (h : atI xs i = some v) : ∃ j, seqIndex? i xs.length = some j ∧ xs[j]? = some v ∧ j < xs.length ∧ -(xs.length : Int) ≤ i ∧ i < xs.length := by
  unfold atI at h
  cases e : ixN xs.length i with
  | none => rw [e] at h; cases h
  | some j =>
    rw [e] at h
    obtain ⟨h1, h2, h3, h4⟩ := ixN_seq e
    exact ⟨j, h1, h, h2, h3, h4⟩
theorem atI_nat {α : Type} {xs : List α} {j : Nat} {v : α} (h : xs[j]? = some v) : atI xs (j : Int) = some v := by
  have hj : j < xs.length := (List.getElem?_eq_some_iff.mp h).1
  have e : ixN xs.length (j : Int) = some j := by
    unfold ixN
    rw [if_pos (by omega), if_pos (by omega)]; simp
  unfold atI; rw [e]; exact h
/-! ### what may be subscripted -/
/-- what stands as an index of a plain subscript -/
def PlainIx (b : Expr) : Prop := ∀ o i, subscripted b false o i = operate [o, i] (getItem o i)
/-- a subscript by values -/
def IxR (X : Cx) (r : R2) : Prop :=
  ∀ (value slice : Expr) (pins : List (Addr × Obj)) (s : Shared) (σ : St) (H : Hp) (x y : V) (v u : Value) (Q : VK), Inv X pins σ H s → RelV x v → RelV y u → r x y H Q →
    subscripted slice false v u = operate [v, u] (getItem v u) → wpAny (model X.prog X.w) X.A (subscriptTail value slice v u) (EP X pins σ Q) X.xe s
/-- a call of a builtin's method by values: the receiver, the arguments -/
def MtR (X : Cx) (id : String) (r : V → List V → Hp → VK → Prop) : Prop :=
  ∀ (pins : List (Addr × Obj)) (s : Shared) (σ : St) (H : Hp) (x : V) (xs : List V) (v : Value) (us : List Value) (Q : VK), Inv X pins σ H s → RelV x v → Vals xs us → r x xs H Q →
    wpAny (model X.prog X.w) X.A (call (.builtin id) (v :: us)) (EP X pins σ Q) X.xe s
section
variable {X : Cx} {a b : Expr} {ta tb : TE} {pos : Pos}
theorem IxR.or {r r' : R2} (h : IxR X r) (h' : IxR X r') : IxR X (fun x y H Q => r x y H Q ∨ r' x y H Q) := by
  intro value slice pins s σ H x y v u Q I rx ry q hs
  rcases q with q | q
  · exact h value slice pins s σ H x y v u Q I rx ry q hs
  · exact h' value slice pins s σ H x y v u Q I rx ry q hs
theorem MtR.or {id : String} {r r' : V → List V → Hp → VK → Prop} (h : MtR X id r) (h' : MtR X id r') : MtR X id (fun x xs H Q => r x xs H Q ∨ r' x xs H Q) := by
  intro pins s σ H x xs v us Q I rx rs q
  rcases q with q | q
  · exact h pins s σ H x xs v us Q I rx rs q
  · exact h' pins s σ H x xs v us Q I rx rs q
/-- a[b] -/
theorem pe_ix {r : R2} (hr : IxR X r) (ha : PE X a ta) (hb : PE X b tb) (hs : PlainIx b) : PE X (.Subscript a b pos) (tOp r ta tb) := by
  intro pins s σ H Q I h
  exact Subscript_ (binT ha hb I h fun v u s2 x y H2 I2 rx ry q => hr a b pins s2 σ H2 x y v u Q I2 rx ry q (hs _ _))

def rIxL (K : PySem.W.Frag) : R2 := fun x y H Q => ∃ p xs i v, x = .ref p ∧ y = .int i ∧ SqL K H p xs ∧ atI xs i = some v ∧ Q v H
def rIxT (K : PySem.W.Frag) : R2 := fun x y H Q => ∃ p xs i v, x = .ref p ∧ y = .int i ∧ SqT K H p xs ∧ atI xs i = some v ∧ Q v H
def rIxS : R2 := fun x y H Q => ∃ z i c, x = .str z ∧ y = .int i ∧ z.length ≤ sizeLine ∧ atI z.cps.toList i = some c ∧ Q (.str ⟨#[c]⟩) H
theorem ix_list : IxR X (rIxL X.K) := by
  intro value slice pins s σ H x y v u Q I rx ry h hs
  obtain ⟨p, xs, i, z, rfl, rfl, hq, he, q⟩ := h
  cases rx
  obtain ⟨t, rfl⟩ := ry
  obtain ⟨its, r, pl, hz⟩ := I.list hq
  obtain ⟨j, h1, h2, h3, h4, h5⟩ := atI_get he
  obtain ⟨w, ew, rw'⟩ := r.get h2
  have hl := r.length
  have hn := line63
  have fin : EP X pins σ Q w s := ⟨z, H, I, rw', q⟩
  by_cases h0 : 0 ≤ i
  · have hj : i.toNat = j := by
      rw [seqIndex_of h0 h5] at h1
      exact Option.some.inj h1
    exact item_listR pl.isList h0 (by omega) (by rw [hj]; simpa using ew) fin hs
  · have hj : (i + (its.toArray.size : Int)).toNat = j := by
      rw [seqIndex_neg (by omega) h4] at h1
      rw [List.size_toArray, ← hl]
      exact Option.some.inj h1
    exact subscriptTail_builtinR (x := w) pl.isList.typeIs slot_list_getitem.lookup
      (wpAny_getItem_list_neg (Q := fun r s' => r = w ∧ EP X pins σ Q r s') pl.isList (by omega) (by rw [List.size_toArray] <;> omega) (by omega) (by rw [hj]; simpa using ew) ⟨rfl, fin⟩) hs
theorem ix_tup : IxR X (rIxT X.K) := by
  intro value slice pins s σ H x y v u Q I rx ry h hs
  obtain ⟨p, xs, i, z, rfl, rfl, hq, he, q⟩ := h
  cases rx
  obtain ⟨t, rfl⟩ := ry
  obtain ⟨its, r, pl, hz⟩ := I.tuple hq
  obtain ⟨j, h1, h2, h3, h4, h5⟩ := atI_get he
  obtain ⟨w, ew, rw'⟩ := r.get h2
  have hl := r.length
  have hn := line63
  have fin : EP X pins σ Q w s := ⟨z, H, I, rw', q⟩
  exact subscriptTail_builtinR (x := w) pl.typeIs slot_tuple_getitem.lookup
    (getItem_tuple (j := j) (Q := fun r s' => r = w ∧ EP X pins σ Q r s') pl (by omega) (by omega) (by rw [List.size_toArray, ← hl]; exact h1) (by simpa using ew) ⟨rfl, fin⟩) hs
/-- list, tuple or str -/
def rIx (K : PySem.W.Frag) : R2 := fun x y H Q => rIxL K x y H Q ∨ rIxT K x y H Q ∨ rIxS x y H Q
/-! ### xs[i] = v, any sign -/
/-- the list's object behind a store -/
theorem mapSeq_set (its : List Value) (n j : Nat) (u : Value) : Obj.mapSeq (·.setIfInBounds j u) { cls := .type "list", data := .seq its.toArray n } = { cls := .type "list", data := .seq (its.set j u).toArray n } := by
  simp [Obj.mapSeq]
theorem Inv.lst {pins : List (Addr × Obj)} {σ : St} {H : Hp} {s : Shared} {p : Addr} {xs : List V} (I : Inv X pins σ H s) (h : H p = some (.lst xs)) :
    ∃ (its : List Value) (n : Nat), Vals xs its ∧ s.heap.get? p = some { cls := .type "list", data := .seq its.toArray n } ∧ xs.length ≤ sizeLine := by
  obtain ⟨z, its, n, r, e⟩ := I.hok p _ h
  exact ⟨its, n, r, e, z⟩
/-- the list at p is written by an update of its object -/
theorem Inv.lstUpd {pins : List (Addr × Obj)} {σ : St} {H : Hp} {s : Shared} {p : Addr} {xs ys : List V} {its its' : List Value} {n n' : Nat} {f : Obj → Obj} (I : Inv X pins σ H s) (h : H p = some (.lst xs))
    (ho : s.heap.get? p = some { cls := .type "list", data := .seq its.toArray n }) (hf : f { cls := .type "list", data := .seq its.toArray n } = { cls := .type "list", data := .seq its'.toArray n' }) (r : Vals ys its') (hz : ys.length ≤ sizeLine) (t : Nat) :
    Inv X pins σ (upd H p (.lst ys)) { s with heap := s.heap.update p f, toks := t } := by
  have e : (s.heap.update p f).get? p = some { cls := .type "list", data := .seq its'.toArray n' } := by
    rw [Heap.get?_update_self f ho (by rw [hf] <;> rfl), hf]
  refine I.write (x := p) (e := p) (by rw [h]; trivial) (.inl rfl) (fun b u hb q => (Heap.get?_update_other _ _ (Ne.symm hb)).trans q) ⟨_, e⟩ ?_
  exact ⟨hz, its', n', r, e⟩
def rSetL : V → V → V → Hp → (Hp → Prop) → Prop := fun o i v H Q => ∃ p xs k j, o = .ref p ∧ i = .int k ∧ H p = some (.lst xs) ∧ ixN xs.length k = some j ∧ Q (upd H p (.lst (xs.set j v)))
theorem set_list : PSet X rSetL := by
  intro pins s σ H o i v ov iv u Q I ro ri rv h
  obtain ⟨p, xs, k, j, rfl, rfl, hp, hj, q⟩ := h
  cases ro
  obtain ⟨t, rfl⟩ := ri
  obtain ⟨its, n, r, ho, hz⟩ := I.lst hp
  obtain ⟨h1, h2, h3, h4⟩ := ixN_seq hj
  have hl := r.length
  have hn := line63
  have I' : Inv X pins σ (upd H p (.lst (xs.set j v))) { s with heap := s.heap.update p (Obj.mapSeq (·.setIfInBounds j u)) } :=
    I.lstUpd hp ho (mapSeq_set its n j u) (r.set rv j) (by rw [List.length_set]; exact hz) s.toks
  by_cases h0 : 0 ≤ k
  · have hk : k.toNat = j := by
      rw [seqIndex_of h0 h4] at h1
      exact Option.some.inj h1
    exact PySem.W.ki_setAt ho h0 (by omega) (by rw [List.size_toArray, ← hl]; exact h4) (by rw [hk]; exact ⟨_, I', q⟩)
  · have hk : (k + (its.toArray.size : Int)).toNat = j := by
      rw [seqIndex_neg (by omega) h3] at h1
      rw [List.size_toArray, ← hl]
      exact Option.some.inj h1
    exact PySem.W.ki_setBack ho (by omega) (by rw [List.size_toArray, ← hl]; exact h3) (by omega) (by rw [hk]; exact ⟨_, I', q⟩)

/-! ### slices -/
theorem slice_bounds (lo hi : Option Int) (n : Nat) : (sliceBounds lo hi none n).1 = ((HT.sIx n 0 lo : Nat) : Int) ∧ (sliceBounds lo hi none n).2.1 = ((HT.sIx n n hi : Nat) : Int) ∧ (sliceBounds lo hi none n).2.2 = 1 := by
  refine ⟨?_, ?_, rfl⟩
  · cases lo with
    | none => simp [sliceBounds, HT.sIx]
    | some i =>
      simp only [sliceBounds, HT.sIx, Option.getD_none, show (1 : Int) > 0 by decide, if_true]
      by_cases h : i < 0
      · simp only [h, if_true] <;> omega
      · simp only [h, if_false] <;> omega
  · cases hi with
    | none => simp [sliceBounds, HT.sIx]
    | some i =>
      simp only [sliceBounds, HT.sIx, Option.getD_none, show (1 : Int) > 0 by decide, if_true]
      by_cases h : i < 0
      · simp only [h, if_true] <;> omega
      · simp only [h, if_false] <;> omega
theorem slicePick_cut (its : List Value) (lo hi : Option Int) : slicePick its.toArray lo hi none = ((its.drop (HT.sIx its.length 0 lo)).take (HT.sIx its.length its.length hi - HT.sIx its.length 0 lo)).toArray := by
  obtain ⟨h1, h2, h3⟩ := slice_bounds lo hi its.toArray.size
  unfold slicePick
  rw [h1, h2, h3]
  simp only [sliceRange_one, pick_run, List.size_toArray] <;> rfl
/-- xs[lo:hi] of a list: a new list -/
def rSlL (K : PySem.W.Frag) : V → Option Int → Option Int → Hp → VK → Prop := fun x lo hi H Q => ∃ a xs, x = .ref a ∧ SqL K H a xs ∧ ∀ p, H p = none → Q (.ref p) (upd H p (.lst (cutV xs lo hi)))
theorem sl_list : SlR X (rSlL X.K) := by
  intro pins s σ H x v vl vu lo hi sl Q I rx hs pl pu h
  obtain ⟨a, xs, rfl, hx, q⟩ := h
  cases rx
  obtain ⟨its, r, ht, hz⟩ := I.list hx
  have hlen := r.length
  refine ⟨"list", _, slot_list_getitem.lookup, ht.isList.typeIs, ?_⟩
  refine wpAny_getItem_list_slice ht.isList hs pl pu .none (by simp) ?_ (by rw [List.size_toArray] <;> omega)
  rw [slicePick_cut, ← hlen]
  refine ⟨.ref s.heap.objs.size, _, I.laid (t' := s.toks) (o := .lst (cutV xs lo hi)) (fun b ob q => Heap.get?_push_of_some _ q) (Nat.le_refl _) ?_, rfl, q _ (I.hok.fresh (Nat.le_refl _))⟩
  exact ⟨Nat.le_trans (cutV_length xs lo hi) hz, _, 0, (r.drop (HT.sIx xs.length 0 lo)).take (HT.sIx xs.length xs.length hi - HT.sIx xs.length 0 lo), Heap.get?_push_size _ rfl⟩

/-! ### in, not in: flat items -/
def flatV : V → Bool
  | .non => true
  | .bl _ => true
  | .int _ => true
  | .str _ => true
  | _ => false
/-- == of flat values -/
def eqV : V → V → Bool
  | .non, .non => true
  | .bl a, .bl b => a == b
  | .bl a, .int b => (if a then 1 else 0) == b
  | .int a, .bl b => a == (if b then 1 else 0)
  | .int a, .int b => a == b
  | .str a, .str b => a == b
  | _, _ => false
theorem eqAt_V {A : Around} {s : Shared} {y x : V} {u v : Value} (ry : RelV y u) (rx : RelV x v) (fy : flatV y = true) (fx : flatV x = true) : SeqAt.EqAt A s u v (eqV y x) := by
  cases y with
  | non =>
    cases ry
    cases x with
    | non => cases rx; exact SeqAt.EqAt.same _
    | bl b => cases rx; exact SeqAt.EqAt.none_bool b
    | int b => obtain ⟨t, rfl⟩ := rx; exact SeqAt.EqAt.none_int b t
    | str b => obtain ⟨t, rfl⟩ := rx; exact SeqAt.EqAt.none_str b t
    | _ => exact absurd (show false = true from fx) Bool.false_ne_true
  | bl a =>
    cases ry
    cases x with
    | non => cases rx; exact SeqAt.EqAt.bool_none a
    | bl b => cases rx; exact SeqAt.EqAt.bool_bool a b
    | int b => obtain ⟨t, rfl⟩ := rx; exact SeqAt.EqAt.bool_int a b t
    | str b => obtain ⟨t, rfl⟩ := rx; exact SeqAt.EqAt.bool_str a b t
    | _ => exact absurd (show false = true from fx) Bool.false_ne_true
  | int a =>
    obtain ⟨t', rfl⟩ := ry
    cases x with
    | non => cases rx; exact SeqAt.EqAt.int_none a t'
    | bl b => cases rx; exact SeqAt.EqAt.int_bool a t' b
    | int b => obtain ⟨t, rfl⟩ := rx; exact SeqAt.EqAt.int_int a t' b t
    | str b => obtain ⟨t, rfl⟩ := rx; exact SeqAt.EqAt.int_str a t' b t
    | _ => exact absurd (show false = true from fx) Bool.false_ne_true
  | str a =>
    obtain ⟨t', rfl⟩ := ry
    cases x with
    | non => cases rx; exact SeqAt.EqAt.str_none a t'
    | bl b => cases rx; exact SeqAt.EqAt.str_bool a t' b
    | int b => obtain ⟨t, rfl⟩ := rx; exact SeqAt.EqAt.str_int a t' b t
    | str b => obtain ⟨t, rfl⟩ := rx; exact SeqAt.EqAt.str_str a t' b t
    | _ => exact absurd (show false = true from fx) Bool.false_ne_true
  | _ => exact absurd (show false = true from fy) Bool.false_ne_true
/-- the items' answers, read off the values (a value's own answer does not lean on its token) -/
def eqU (x : V) (u : Value) : Bool := match u with
  | .none => eqV .non x
  | .bool b => eqV (.bl b) x
  | .int i _ => eqV (.int i) x
  | .str z _ => eqV (.str z) x
  | _ => false
def inV (x : V) (xs : List V) : Bool := xs.any fun y => eqV y x
/-- x in a list or tuple of flat items -/
def rIn (K : PySem.W.Frag) (neg : Bool) : R2 := fun x y H Q => ∃ p xs, y = .ref p ∧ (SqL K H p xs ∨ SqT K H p xs) ∧ flatV x = true ∧ xs.all flatV = true ∧ Q (.bl (if neg then !inV x xs else inV x xs)) H
/-! ### len, list(x), tuple(x) of any list or tuple that is read -/
theorem call_len_seq : CallR X (.builtin "len") (fun xs H Q => ∃ p ys, xs = [.ref p] ∧ (SqL X.K H p ys ∨ SqT X.K H p ys) ∧ Q (.int ys.length) H) := by
  intro pins s σ H xs us Q I r h
  obtain ⟨p, ys, rfl, hq, q⟩ := h
  obtain ⟨u, rfl, rx⟩ := vals1 r
  cases rx
  have hn := line63
  rcases hq with hq | hq
  · obtain ⟨its, r', pl, hz⟩ := I.list hq
    have hlen := r'.length
    exact Calls.call_len_list pl.isList (by simp only [List.size_toArray] <;> omega) ⟨.int ys.length, H, I.tok _, ⟨s.toks + 1, by rw [List.size_toArray, hlen]⟩, q⟩
  · obtain ⟨its, r', pl, hz⟩ := I.tuple hq
    have hlen := r'.length
    exact len_tuple pl (by simp only [List.size_toArray] <;> omega) ⟨.int ys.length, H, I.tok _, ⟨s.toks + 1, by rw [List.size_toArray, hlen]⟩, q⟩
theorem CallR.or {f : Value} {r r' : List V → Hp → VK → Prop} (h : CallR X f r) (h' : CallR X f r') : CallR X f (fun xs H Q => r xs H Q ∨ r' xs H Q) := by
  intro pins s σ H xs us Q I rs q
  rcases q with q | q
  · exact h pins s σ H xs us Q I rs q
  · exact h' pins s σ H xs us Q I rs q
theorem call_list_of : CallR X (.type "list") (fun xs H Q => ∃ p ys, xs = [.ref p] ∧ (SqL X.K H p ys ∨ SqT X.K H p ys) ∧ ∀ l, H l = none → Q (.ref l) (upd H l (.lst ys))) := by
  intro pins s σ H xs us Q I r h
  obtain ⟨p, ys, rfl, hq, q⟩ := h
  obtain ⟨u, rfl, rx⟩ := vals1 r
  cases rx
  have fin : ∀ (its : List Value), Vals ys its → ys.length ≤ sizeLine → ∀ (h' : Heap) (c' : Nat), (∀ b o', s.heap.get? b = some o' → h'.get? b = some o') →
      h'.get? s.heap.objs.size = some { cls := .type "list", dict := none, data := .seq its.toArray c', slots := #[] } → EP X pins σ Q (.ref s.heap.objs.size) { s with heap := h' } := fun its r' hz h' c' kp e =>
    ⟨.ref s.heap.objs.size, _, I.laid (t' := s.toks) kp (Nat.le_refl _) (show ObjOk X.prog X.w _ h' _ (.lst ys) from ⟨hz, its, c', r', e⟩), rfl, q _ (I.hok.fresh (Nat.le_refl _))⟩
  rcases hq with hq | hq
  · obtain ⟨its, r', pl, hz⟩ := I.list hq
    have hlen := r'.length
    obtain ⟨o, ho, hc, n, hd⟩ := pl.isList
    exact call_list_seq p (.inl rfl) ho hc hd (fun h' c' kp e => fin its r' hz h' c' kp e) (by simp only [List.size_toArray] <;> omega)
  · obtain ⟨its, r', pl, hz⟩ := I.tuple hq
    have hlen := r'.length
    obtain ⟨o, ho, hc, n, hd⟩ := pl
    exact call_list_seq p (.inr rfl) ho hc hd (fun h' c' kp e => fin its r' hz h' c' kp e) (by simp only [List.size_toArray] <;> omega)
/-! ### the call of a builtin's method: o.m(..) -/
/-- the value is of that builtin type -/
def tyV (K : PySem.W.Frag) (T : String) (x : V) (H : Hp) : Prop := match x with
  | .str _ => T = "str"
  | .int _ => T = "int"
  | .ref p => (T = "list" ∧ ∃ xs, SqL K H p xs) ∨ (T = "tuple" ∧ ∃ o, K.lookup p = some o ∧ o.cls = .type "tuple" ∧ o.dict = none) ∨
      (T = "dict" ∧ ((∃ kvs, H p = some (.dK kvs)) ∨ ∃ kvs, H p = some (.dT kvs))) ∨ (T = "set" ∧ ∃ S n, H p = some (.set S n))
  | _ => False
theorem tyV_is {pins : List (Addr × Obj)} {σ : St} {H : Hp} {s : Shared} {T : String} {x : V} {v : Value} (I : Inv X pins σ H s) (r : RelV x v) (ty : tyV X.K T x H) :
    s.TypeIs v T ∧ ∀ a, v = .ref a → ∃ ob, s.heap.get? a = some ob ∧ ob.dict = none := by
  cases x with
  | str z =>
    obtain ⟨t, rfl⟩ := r
    cases (show T = "str" from ty)
    exact ⟨typeIs_str s z t, fun _ e => nomatch e⟩
  | int i =>
    obtain ⟨t, rfl⟩ := r
    cases (show T = "int" from ty)
    exact ⟨typeIs_int s i t, fun _ e => nomatch e⟩
  | ref p =>
    cases r
    rcases ty with ⟨rfl, xs, hq⟩ | ⟨rfl, o, hk, hc, hd⟩ | ⟨rfl, hk⟩ | ⟨rfl, S, n, hk⟩
    · obtain ⟨its, _, pl, _⟩ := I.list hq
      refine ⟨pl.isList.typeIs, fun a e => ?_⟩
      cases e
      obtain ⟨o, n, e, c, hd, _⟩ := pl
      exact ⟨o, e, hd⟩
    · refine ⟨⟨o, I.kIn p o hk, hc⟩, fun a e => ?_⟩
      cases e
      exact ⟨o, I.kIn _ o hk, hd⟩
    · have z : ∃ o, s.heap.get? p = some o ∧ o.ExactDict := by
        rcases hk with ⟨kvs, hk⟩ | ⟨kvs, hk⟩
        · obtain ⟨_, _, _, _, o, _, _, e, ex, _⟩ := I.hok p _ hk
          exact ⟨o, e, ex⟩
        · obtain ⟨_, _, _, _, o, _, _, e, ex, _⟩ := I.hok p _ hk
          exact ⟨o, e, ex⟩
      obtain ⟨o, e, ex⟩ := z
      refine ⟨⟨o, e, ex.1⟩, fun a e2 => ?_⟩
      cases e2
      exact ⟨o, e, ex.2.1⟩
    · obtain ⟨o, _, _, _, e, ex, _⟩ := I.hok p _ hk
      refine ⟨⟨o, e, ex.1⟩, fun a e2 => ?_⟩
      cases e2
      exact ⟨o, e, ex.2.1⟩
  | _ => exact False.elim ty
def tBM0 (K : PySem.W.Frag) (T : String) (r : V → List V → Hp → VK → Prop) (to : TE) : TE := fun σ H Q => to σ H fun x H1 => tyV K T x H1 ∧ r x [] H1 Q
def tBM (K : PySem.W.Frag) (T : String) (r : V → List V → Hp → VK → Prop) (to : TE) (t : TA) : TE := fun σ H Q => to σ H fun x H1 => tyV K T x H1 ∧ t σ H1 fun xs H2 => r x xs H2 Q
variable {o e : Expr} {es : List Expr} {to : TE} {t : TA} {name : Str} {apos cpos : Pos} {T id : String} {r : V → List V → Hp → VK → Prop}
theorem pe_bm0 (pa : PlainAttrs T) (slot : Slot T name id) (hty : typeOf (.builtin id) = pure (.type "method_descriptor")) (hm : MtR X id r) (ho : PE X o to)
    (hbase : attributeBase o name X.env (eval o X.env) = eval o X.env := by rfl) (hline : (apos.endLine == cpos.line) = true := by rfl) : PE X (.Call (.Attribute o name apos) [] [] cpos) (tBM0 X.K T r to) := by
  intro pins s σ H Q I h
  refine wpAny_Call_method0_late hbase hline (thn (ho pins s σ H _ I h) fun v s1 ⟨x, H1, I1, r1, ty, q1⟩ => ?_)
  obtain ⟨h1, h2⟩ := tyV_is I1 r1 ty
  exact ⟨T, id, pa, slot, hty, h1, h2, Calls.callWith_builtin rfl (PySem.evalArgs_none (hm pins s1 σ H1 x [] v [] Q I1 r1 .nil q1))⟩
theorem pe_bm (pa : PlainAttrs T) (slot : Slot T name id) (hty : typeOf (.builtin id) = pure (.type "method_descriptor")) (hm : MtR X id r) (ho : PE X o to) (ha : PA X (e :: es) t)
    (hbase : attributeBase o name X.env (eval o X.env) = eval o X.env := by rfl)
    (hfew : ((backTo cpos (starEach (e :: es) X.env)).all (fun x => !x.1) && (backToKw cpos (keywordEach [] X.env)).all (fun x => x.1.isSome)
      && decide ((e :: es).length + ([] : List Keyword).length + (if ([] : List Keyword).isEmpty then 0 else 1) < 30)) = true := by rfl)
    (hline : (apos.endLine == cpos.line) = true := by rfl) (hs : starEach (e :: es) X.env = (false, eval e X.env) :: starEach es X.env := by rfl) (hplain : (backTo cpos (starEach es X.env)).any (·.1) = false := by rfl) :
    PE X (.Call (.Attribute o name apos) (e :: es) [] cpos) (tBM X.K T r to t) := by
  intro pins s σ H Q I h
  refine wpAny_Call_method_late hbase hfew hline rfl (thn (ho pins s σ H _ I h) fun v s1 ⟨x, H1, I1, r1, ty, q1⟩ => ?_)
  obtain ⟨h1, h2⟩ := tyV_is I1 r1 ty
  refine ⟨T, id, pa, slot, hty, h1, h2, ?_⟩
  have hA := ha cpos pins s1 σ H1 _ I1 q1
  rw [hs] at hA ⊢
  refine Calls.callWith_builtin (by show (false || (backTo cpos (starEach es X.env)).any (·.1)) = false; rw [hplain] <;> rfl) (Calls.evalArgs_plain ?_)
  exact thn hA fun us s2 ⟨vs, H2, I2, r2, q2⟩ => hm pins s2 σ H2 x vs v us Q I2 r1 r2 q2
/- xs.append(e), list.index on a module's tuple .. are MtR facts of 06m -/
end
end L2

namespace L2
open PySem PySem.Spec PyProof.Rows

def MtM (X : Cx) (id : String) (r : V → List V → Hp → VK → Prop) : Prop :=
  ∀ (pins : List (Addr × Obj)) (s : Shared) (σ : St) (H : Hp) (x : V) (xs : List V) (v : Value) (us : List Value) (Q : VK), Inv X pins σ H s → RelV x v → Vals xs us → r x xs H Q →
    wpAny (model X.prog X.w) X.A (call (.builtin id) (v :: us)) (EP X pins σ Q) X.xe s

/-! ### lists of values -/
theorem Vals.one : ∀ {x : V} {us : List Value}, Vals [x] us → ∃ u, us = [u] ∧ RelV x u
  | _, _, .cons r .nil => ⟨_, rfl, r⟩
theorem Vals.two : ∀ {x y : V} {us : List Value}, Vals [x, y] us → ∃ u v, us = [u, v] ∧ RelV x u ∧ RelV y v
  | _, _, _, .cons r (.cons q .nil) => ⟨_, _, rfl, r, q⟩
theorem Vals.zero : ∀ {us : List Value}, Vals [] us → us = []
  | _, .nil => rfl
theorem Vals.dropLast {xs : List V} {us : List Value} (h : Vals xs us) : Vals xs.dropLast us.dropLast := by
  induction h with
  | nil => exact .nil
  | cons r t ih =>
    cases t with
    | nil => exact .nil
    | cons q t' => exact .cons r ih
theorem Vals.eraseIdx : ∀ {xs : List V} {us : List Value} (i : Nat), Vals xs us → Vals (xs.eraseIdx i) (us.eraseIdx i)
  | _, _, _, .nil => .nil
  | _, _, 0, .cons _ t => t
  | _, _, i + 1, .cons r t => .cons r (Vals.eraseIdx i t)
theorem Vals.reverse {xs : List V} {us : List Value} (h : Vals xs us) : Vals xs.reverse us.reverse := by
  induction h with
  | nil => exact .nil
  | cons r t ih => rw [List.reverse_cons, List.reverse_cons]; exact Vals.append ih (.cons r .nil)
theorem erase_last {α : Type} (l : List α) : l.eraseIdx (l.length - 1) = l.dropLast := by
  induction l with
  | nil => rfl
  | cons a r ih =>
    cases r with
    | nil => rfl
    | cons b r =>
      have e : (a :: b :: r).length - 1 = ((b :: r).length - 1) + 1 := by
        have h1 : (a :: b :: r).length = r.length + 2 := rfl
        have h2 : (b :: r).length = r.length + 1 := rfl
        omega
      rw [e, List.eraseIdx_cons_succ, ih]
      all_goals rfl
section
variable {X : Cx} {pins : List (Addr × Obj)} {σ : St} {H : Hp} {s : Shared} {l b : Addr} {xs ys zs : List V}

/-! ### the two steps: a tracked list is rewritten, a new list is laid -/
theorem Inv.lset {its its' : List Value} {n : Nat} {f : Array Value → Array Value} {t' : Nat} (I : Inv X pins σ H s) (hH : H l = some (.lst xs))
    (e : s.heap.get? l = some { cls := .type "list", data := .seq its.toArray n }) (hf : f its.toArray = its'.toArray) (hv : Vals ys its') (hz : ys.length ≤ sizeLine) :
    Inv X pins σ (upd H l (.lst ys)) { s with heap := s.heap.update l (Obj.mapSeq f), toks := t' } := by
  have q := PySem.IsL.update e f
  rw [hf] at q
  refine I.write (x := l) (e := l) (by rw [hH]; exact trivial) (.inl rfl) (fun b' u hb hu => (Heap.get?_update_other s.heap (Obj.mapSeq f) (Ne.symm hb)).trans hu) ⟨_, q⟩ ?_
  exact ⟨hz, its', _, hv, q⟩
theorem Inv.lnew {its : List Value} {t' : Nat} (I : Inv X pins σ H s) (hv : Vals ys its) (hz : ys.length ≤ sizeLine) :
    Inv X pins σ (upd H s.heap.objs.size (.lst ys)) { s with heap := s.heap.push { cls := .type "list", data := .seq its.toArray }, toks := t' } :=
  I.laid (fun _ _ q => Heap.get?_push_of_some _ q) (Nat.le_refl _) ⟨hz, its, 0, hv, Heap.get?_push_size _ rfl⟩
theorem Inv.fresh (I : Inv X pins σ H s) : H s.heap.objs.size = none := I.hok.fresh (Nat.le_refl _)
theorem Inv.lstM (I : Inv X pins σ H s) (hH : H l = some (.lst xs)) : xs.length ≤ sizeLine ∧ ∃ (its : List Value) (n : Nat), Vals xs its ∧ xs.length = its.length ∧ s.heap.get? l = some { cls := .type "list", data := .seq its.toArray n } := by
  obtain ⟨z, its, n, r, e⟩ := I.hok l _ hH
  exact ⟨z, its, n, r, r.length, e⟩

end

section
variable {X : Cx}

/-! ### methods -/
def rAppend : V → List V → Hp → VK → Prop := fun x vs H Q => ∃ l xs y, x = .ref l ∧ vs = [y] ∧ H l = some (.lst xs) ∧ xs.length < sizeLine ∧ Q .non (upd H l (.lst (xs ++ [y])))
theorem mt_append : MtM X "list.append" rAppend := by
  intro pins s σ H x vs v us Q I rx rv h
  obtain ⟨l, xs, y, rfl, rfl, hH, hz, q⟩ := h
  cases rx
  obtain ⟨u, rfl, ru⟩ := rv.one
  obtain ⟨z, its, n, r, hl, e⟩ := I.lstM hH
  refine call_meets F.slot_list_append ⟨_, e, rfl⟩ F.entry_list_append (F.args_list_append_2 _ _) (PySem.list_append l its.toArray n u (by rw [List.size_toArray]; omega)) ⟨e, ?_⟩
  refine ⟨.non, _, I.lset (its' := its ++ [u]) hH e (by simp) (r.append (.cons ru .nil)) ?_, rfl, q⟩
  rw [List.length_append, List.length_singleton]
  omega

def rExtend : V → List V → Hp → VK → Prop := fun x vs H Q => ∃ l b xs zs, x = .ref l ∧ vs = [.ref b] ∧ H l = some (.lst xs) ∧ H b = some (.lst zs) ∧ xs.length + zs.length ≤ sizeLine ∧ Q .non (upd H l (.lst (xs ++ zs)))
def rPop : V → List V → Hp → VK → Prop := fun x vs H Q => ∃ l xs y, x = .ref l ∧ vs = [] ∧ H l = some (.lst xs) ∧ xs[xs.length - 1]? = some y ∧ Q y (upd H l (.lst xs.dropLast))
theorem mt_pop : MtM X "list.pop" rPop := by
  intro pins s σ H x vs v us Q I rx rv h
  obtain ⟨l, xs, y, rfl, rfl, hH, hy, q⟩ := h
  cases rx
  have hus := rv.zero
  subst hus
  obtain ⟨z, its, n, r, hl, e⟩ := I.lstM hH
  obtain ⟨u, hu, ru⟩ := r.get hy
  have hy' : its.toArray[its.toArray.size - 1]? = some u := by
    show its.toArray[its.length - 1]? = some u
    rw [← Array.getElem?_toList, ← hl]
    exact hu
  refine call_meets F.slot_list_pop ⟨_, e, rfl⟩ F.entry_list_pop (F.args_list_pop_1 _) (MeetsSeq.list_pop_last l its.toArray n u hy' (by rw [List.size_toArray]; omega)) ⟨e, ?_⟩
  refine ⟨y, _, I.lset (its' := its.dropLast) hH e ?_ r.dropLast ?_, ru, q⟩
  · show its.toArray.eraseIdxIfInBounds (its.toArray.size - 1) = its.dropLast.toArray
    rw [List.size_toArray, List.eraseIdxIfInBounds_toArray, erase_last]
  · rw [List.length_dropLast]
    omega

def rPopAt : V → List V → Hp → VK → Prop := fun x vs H Q => ∃ l xs i k y, x = .ref l ∧ vs = [.int i] ∧ H l = some (.lst xs) ∧ -(2 ^ 63) ≤ i ∧ i < 2 ^ 63 ∧ seqIndex? i xs.length = some k ∧ xs[k]? = some y ∧ Q y (upd H l (.lst (xs.eraseIdx k)))
def rReverse : V → List V → Hp → VK → Prop := fun x vs H Q => ∃ l xs, x = .ref l ∧ vs = [] ∧ H l = some (.lst xs) ∧ Q .non (upd H l (.lst xs.reverse))
def rClear : V → List V → Hp → VK → Prop := fun x vs H Q => ∃ l xs, x = .ref l ∧ vs = [] ∧ H l = some (.lst xs) ∧ Q .non (upd H l (.lst []))
/-! ### list + list, list += list, list * int -/
def rCat : R2 := fun x y H Q => ∃ l b xs zs, x = .ref l ∧ y = .ref b ∧ H l = some (.lst xs) ∧ H b = some (.lst zs) ∧ xs.length + zs.length ≤ sizeLine ∧ ∀ p, H p = none → Q (.ref p) (upd H p (.lst (xs ++ zs)))
theorem op_cat : OpR X (binaryOp .Add) rCat := by
  intro pins s σ H x y v u Q I rx ry h
  obtain ⟨l, b, xs, zs, rfl, rfl, hH, hB, hz, q⟩ := h
  cases rx
  cases ry
  obtain ⟨z, its, n, r, hl, e⟩ := I.lstM hH
  obtain ⟨z2, its2, n2, r2, hl2, e2⟩ := I.lstM hB
  refine PySem.P.add_list e e2 ?_ (by rw [List.size_toArray, List.size_toArray]; omega)
  have ea : its.toArray ++ its2.toArray = (its ++ its2).toArray := by simp
  rw [ea]
  exact ⟨.ref _, _, I.lnew (t' := s.toks) (r.append r2) (by rw [List.length_append]; omega), rfl, q _ I.fresh⟩
/-- a list times an int (a negative one is nothing) -/
def rRep : R2 := fun x y H Q => ∃ l k xs, x = .ref l ∧ y = .int k ∧ H l = some (.lst xs) ∧ -(2 ^ 63) ≤ k ∧ k < 2 ^ 63 ∧ xs.length * k.toNat ≤ sizeLine ∧
  ∀ p, H p = none → Q (.ref p) (upd H p (.lst (List.replicate k.toNat xs).flatten))
/-! ### del xs[i] -/
end

/-! ### xs[a:b] = ys -/
section
variable {prog : Program} {w : World} {A : Around} {E : Value → Shared → Prop} {s : Shared}
end

section
variable {X : Cx}
end
end L2

namespace Att
open PySem PySem.W PySem.Calls PyProof.Rows

/-! ### the script -/
theorem ints_of_wellAll {P : Params} {h : Heap} : ∀ (ns : List Int) (vs : List Value), WellAll P h vs (ns.map WData.int) → IntsAre vs ns := by
  intro ns
  induction ns with
  | nil =>
    intro vs w
    rw [List.map_nil] at w
    cases w
    exact .nil
  | cons n ns ih =>
    intro vs w
    rw [List.map_cons] at w
    cases w with
    | cons a b =>
      cases a
      exact .cons _ _ (ih _ b)

theorem script_of {l : OpenLaw} {n : Nat} (hn : l.most = some n) {P : Params} {h : Heap} {args : List WData} {vals : List Value}
    (hpre : l.row.toRowW.claim.pre args = true) (hwl : WellAll P h vals args) :
    ∃ a vs ns, vals = [Value.ref a] ∧ args = [WData.list (ns.map WData.int)] ∧ h.get? a = some { cls := .type "list", data := .seq vs.toArray } ∧ IntsAre vs ns ∧ ns.length ≤ n := by
  have hsh : WShape.hasAll [] args [.list .int] = true := (pre_splitW hpre).1
  have hc : l.pre.holds [] { args := args } = true := (pre_splitW hpre).2
  obtain ⟨d, r, rfl, h1, h2⟩ := hasAllW_cons hsh
  obtain rfl := hasAllW_nil h2
  obtain ⟨xs, rfl, h3⟩ := hasW_list h1
  obtain ⟨ns, rfl⟩ := items_int h3
  have hlen : ns.length ≤ n := by
    unfold OpenLaw.pre at hc
    have h4 : (WTm.not (.lt (.lit (.int (n : Int))) (.len (.arg 0)))).holds [] { args := [.list (ns.map .int)] } = true := by
      have h4 := (holds_andW hc).1
      rw [hn] at h4
      exact h4
    have h5 := condW_of h4 (w_not (w_lt w_lit (w_len_list (w_arg rfl))))
    rw [List.length_map] at h5
    refine Nat.le_of_not_lt fun q => ?_
    have q' : (n : Int) < ((ns.length : Nat) : Int) := by omega
    first
      | (rw [decide_eq_true q'] at h5; exact absurd h5 (by decide))
      | (simp at h5; omega)
  cases hwl with
  | cons w1 w2 =>
    cases w2
    cases w1 with
    | list ho hall => exact ⟨_, _, ns, rfl, rfl, ho, ints_of_wellAll ns _ hall, hlen⟩

theorem post_true (l : OpenLaw) (args : List WData) : l.row.toRowW.claim.post args (.bool true) args = true :=
  postW_of (r := l.row.toRowW) (X := (true == true))
    (show WShape.has [] (.bool true) .bool = true by first | rfl | decide | simp [WShape.has, WShape.arms, WShape.armsAll])
    (show (WTm.eq .res (.lit (.bool true))).value [] { args := args, res := some (.bool true), after := args } = some (.bool (true == true)) from w_eq_bool (w_res rfl) w_lit) rfl

/-! ### the attachment: holds_open's last premise (the goal 'hc' behind k_head) from a wpAny of the law's body -/
/-- the same from a codeAny of the CALL (for a layer whose function contracts speak of calls) -/
theorem attach_call {l : OpenLaw} {n : Nat} {q : Program} {loose : List Str} {XP : (Str → Option Value) → Heap → Prop} {YP : World → Heap → Prop} {d : DefRec}
    (hn : l.most = some n) (hdf : d.params.defaults = [])
    (call : ∀ (w : World) (s₀ s₁ : Shared) (mg mb : Str → Option Value) (fa : Addr) (o : Obj) (pm cd doc : Value) (a : Addr) (vs : List Value) (ns : List Int),
      Ground q loose [] XP w s₀ mg mb s₁.heap → YP w s₁.heap →
      s₁.heap.get? fa = some o → o.data = .func (docDef d.name d.params d.body d.scope pm cd doc) → s₁.heap.CodeRec cd d.name → mg d.name = some (.ref fa) →
      s₁.heap.get? a = some { cls := .type "list", data := .seq vs.toArray } → IntsAre vs ns → ns.length ≤ n → s₁.gens = #[] →
      codeAny (model l.prog w) callerA (.call (.ref fa) ⟨[.ref a], []⟩) (fun r s' => r = .ok (.ret (.bool true)) ∧ OldK s₁.heap s'.heap ∧ s'.os = s₁.os ∧ AllBare s'.gens) s₁) :
    WalkO q loose XP YP l.row.toRowW d [] (fun f vs => PySem.call f vs) := by
  intro w s₀ s₁ mg mb G Y fa o pm cd doc dV kV ho hd hcd hD hmg hg args vals as hpre hlay hrd hwl hlo
  obtain rfl : dV = .none := Dflts.none hD hdf
  obtain rfl : kV = .none := Dflts.noKw hD
  obtain ⟨a, vs, ns, rfl, rfl, hobj, hints, hlen⟩ := script_of hn hpre hwl
  refine enter_call (codeAny_mono (call w s₀ s₁ mg mb fa o pm cd doc a vs ns G Y ho (fd_plain hd) hcd hmg hobj hints hlen hg) fun r s' hq => ?_)
  obtain ⟨rfl, h2, h3, h4⟩ := hq
  exact ⟨.inl ⟨.bool true, .bool true, [], rfl, fun _ => rfl, .bool true, post_true l _, fun _ => ⟨List.Pairwise.nil, fun _ hm => (nomatch hm)⟩⟩, h2, h3, h4⟩

/-! ### rules over ANY heap (no ledger) from facts about the written part K: the library's own take a ledger (News) for what they write -/
section
variable {prog : Program} {w : World} {A : Around} {E : Value → Shared → Prop} {s : Shared} {K : Frag}

/-! the whole heap as the ledger: makes every rule that writes through a ledger a rule over any heap -/
def noObjs (h : Heap) : Heap := { h with objs := #[] }
def ledger (h : Heap) (L d : Addr) : List (Addr × Obj) := (List.range h.objs.size).filterMap fun a => if a = L ∨ a = d then none else (h.get? a).map fun o => (a, o)
end
end Att

namespace L2
open PySem PySem.Spec PyProof.Rows

theorem vals_ints : ∀ {vs : List Value} {ns : List Int}, IntsAre vs ns → Vals (ns.map V.int) vs
  | _, _, .nil => .nil
  | _, _, .cons n t h => .cons ⟨t, rfl⟩ (vals_ints h)

/-- nothing is tracked but the script, known to the object (or it is an object of the module) -/
def Only (H : Hp) : Prop := ∀ b, H b = none ∨ ∃ o xs, H b = some (.frz o (.lst xs))

/-- THE HEAD: the law's promise, at the heap behind the top. F, the promise of the law's def, may use that base is part of the heap (so K.In base, base.Ns mainGlobals mg stand in Mod) -/
theorem law_call {P : Program} {w : World} {K : PySem.W.Frag} {mg mb : Str → Option Value} {CX : CXT} {k : Nat} {fa a : Addr} {fd : FuncData} {x : Str} {sp : Sp} {s₁ : Shared} {vs : List Value} {ns : List Int}
    (KX : K.In s₁.heap) (hns : s₁.heap.Ns mainGlobals mg) (hb : s₁.heap.Ns builtinsNs mb) (hbb : ∀ x : Str, x ≠ "__name__" → mb x = bootBuiltins x) (hlim : s₁.heap.NoLimit) (hg : s₁.gens = #[])
    (ha : s₁.heap.get? a = some { cls := .type "list", data := .seq vs.toArray }) (hi : IntsAre vs ns) (hl : ns.length ≤ sizeLine) (hr : Room k callerA)
    (F : ∀ base : Heap, K.In base → base.Ns mainGlobals mg → FnOk P w K mg base CX k fa fd [x] sp) (hbind : ∀ (s : Shared) (u : Value), BindsTo s fd ⟨[u], []⟩ [(x, u)])
    (hsp : ∀ H : Hp, Only H → SqL K H a (ns.map V.int) → sp [.ref a] H (fun v _ => v = .bl true) fun _ _ _ => False)
    (hCX : ∀ H e s', CX [] H s₁ (fun _ _ _ => False) e s' → False) :
    codeAny (model P w) callerA (.call (.ref fa) ⟨[.ref a], []⟩) (fun r s' => r = .ok (.ret (.bool true)) ∧ OldK s₁.heap s'.heap ∧ s'.os = s₁.os ∧ AllBare s'.gens) s₁ := by
  have rv := vals_ints hi
  have lenV := hi.length
  -- from an abstract heap in which nothing but the script may be tracked
  have core : ∀ H : Hp, Only H → SqL K H a (ns.map V.int) → HOk P w H s₁.heap → (∀ b, H b ≠ none → b = a) → (H a ≠ none → K.lookup a = none) →
      codeAny (model P w) callerA (.call (.ref fa) ⟨[.ref a], []⟩) (fun r s' => r = .ok (.ret (.bool true)) ∧ OldK s₁.heap s'.heap ∧ s'.os = s₁.os ∧ AllBare s'.gens) s₁ := by
    intro H hO hS hok hA hK
    have base_of : ∀ {b : Addr} {o : Obj}, s₁.heap.get? b = some o → H b = none → (hidT s₁.heap H).get? b = some o := fun e n => hidT_get e n
    have noA : ∀ {b : Addr} {o : Obj} {es : Array DictEntry} {ep : Nat}, s₁.heap.get? b = some o → o.data = .dict es ep → H b = none := fun {b o es ep} e d => by
      cases q : H b with
      | none => rfl
      | some u =>
        have e' : b = a := hA b (by rw [q]; simp)
        subst e'
        rw [ha] at e; cases e
        have d' : Data.seq vs.toArray _ = Data.dict es ep := d
        cases d'
    have nsK : ∀ {b : Addr} {m : Str → Option Value}, s₁.heap.Ns b m → (hidT s₁.heap H).Ns b m := fun {b m} ⟨o, es, ep, e, d, r⟩ => ⟨o, es, ep, base_of e (noA e d), d, r⟩
    have hKb : K.In (hidT s₁.heap H) := fun b o e => base_of (KX b o e) (by
      cases q : H b with
      | none => rfl
      | some u =>
        have e' : b = a := hA b (by rw [q]; simp)
        subst e'
        rw [hK (by rw [q]; simp)] at e; cases e)
    have hM : Mod K mg (hidT s₁.heap H) := ⟨hKb, nsK hns, ⟨mb, nsK hb, hbb⟩, let ⟨mc, h1, h2⟩ := hlim; ⟨mc, nsK h1, h2⟩⟩
    have e0 : Env0 P w K mg (hidT s₁.heap H) callerA [] s₁ H := ⟨rfl, hM, fun b o e => of_hidT e, Nat.le_of_eq (hidT_size _ _), trivial, fun b hb => absurd (show b ∈ ([] : List Addr) from hb) (by simp), hok, .of_eq hg⟩
    refine codeAny_mono ((F _ hKb (nsK hns)).run callerA [] s₁ H ⟨[.ref a], []⟩ [.ref a] [.ref a] _ _ hr e0 (hbind s₁ (.ref a)) (.cons rfl .nil) (hsp H hO hS)) fun r s' h => ?_
    cases r with
    | error e => exact (hCX H e s' h).elim
    | ok fl =>
      cases fl with
      | next => exact False.elim h
      | brk => exact False.elim h
      | cont => exact False.elim h
      | ret u =>
        obtain ⟨v, H', os, bare, un, hok', r', q⟩ := h
        have q' : v = .bl true := q
        subst q'
        obtain rfl : u = Value.bool true := r'
        refine ⟨rfl, OldK.of_keep fun b o e => ?_, os, bare⟩
        cases q : H b with
        | none => exact un.keep b o e q (by intro z; exact absurd (show b ∈ ([] : List Addr) from z) (by simp)) (by simp)
        | some u =>
          rcases hO b with z | ⟨ob, xs, z⟩
          · rw [q] at z; cases z
          · have z2 := un.frzs b ob _ z
            obtain ⟨e1, _⟩ := hok b _ z
            obtain ⟨e2, _⟩ := hok' b _ z2
            rw [e] at e1; cases e1
            exact e2
  cases hk : K.lookup a with
  | some o =>
    -- the script is one of the module's own objects
    have e := KX a o hk
    rw [ha] at e
    cases e
    refine core (fun _ => none) (fun _ => .inl rfl) (.inr ⟨_, vs.toArray, _, hk, rfl, rfl, rfl, by rw [List.size_toArray, lenV]; exact hl, by simpa using rv⟩) (fun b u z => by have z' : (none : Option HO) = some u := z; cases z') (fun b z => absurd rfl z) fun z => absurd rfl z
  | none =>
    refine core (fun b => if b = a then some (.frz { cls := .type "list", data := .seq vs.toArray } (.lst (ns.map V.int))) else none) (fun b => ?_) (.inl (.inr ⟨{ cls := .type "list", data := .seq vs.toArray }, if_pos rfl⟩)) (fun b u z => ?_) (fun b z => ?_) fun _ => hk
    · by_cases hb : b = a
      · exact .inr ⟨_, _, if_pos hb⟩
      · exact .inl (if_neg hb)
    · by_cases hb : b = a
      · have z' := (if_pos hb).symm.trans z
        cases z'
        subst hb
        exact ⟨ha, by rw [List.length_map]; exact hl, vs, _, rv, ha⟩
      · have z' := (if_neg hb).symm.trans z
        cases z'
    · by_cases hb : b = a
      · exact hb
      · exact absurd (if_neg hb) z
end L2

namespace L2
open PySem PySem.Spec PyProof.Rows

abbrev KOf {K : PySem.W.Frag} {h : Heap} (_ : K.In h) : PySem.W.Frag := K

/-- the goal that k_head leaves (case hc), from the law's promise. F gives the function object fd (K's own) once, then the promise over every base -/
theorem walk_of {l : PySem.W.OpenLaw} {n k : Nat} {q : Program} {loose : List Str} {XP : (Str → Option Value) → Heap → Prop} {YP : World → Heap → Prop} {d : DefRec} {K : Params → PySem.W.Frag} {CX : World → CXT} {sp : World → Sp} {x : Str}
    (hn : l.most = some n) (hn2 : n ≤ sizeLine) (hdf : d.params.defaults = []) (hr : Room k callerA)
    (hY : ∀ (w : World) (h : Heap), YP w h → (K w.params).In h)
    (F : ∀ (w : World) (mg : Str → Option Value) (fa : Addr) (h : Heap), (K w.params).In h → h.Ns mainGlobals mg → mg d.name = some (.ref fa) →
      ∃ fd : FuncData, (∀ (s : Shared) (u : Value), BindsTo s fd ⟨[u], []⟩ [(x, u)]) ∧
        ∀ base : Heap, (K w.params).In base → base.Ns mainGlobals mg → FnOk l.prog w (K w.params) mg base (CX w) k fa fd [x] (sp w))
    (hsp : ∀ (w : World) (H : Hp) (a : Addr) (ns : List Int), ns.length ≤ n → Only H → SqL (K w.params) H a (ns.map V.int) → sp w [.ref a] H (fun v _ => v = .bl true) fun _ _ _ => False)
    (hCX : ∀ (w : World) (H : Hp) (s : Shared) (e : Value) (s' : Shared), CX w [] H s (fun _ _ _ => False) e s' → False) :
    PySem.W.WalkO q loose XP YP l.row.toRowW d [] (fun f vs => PySem.call f vs) := by
  refine Att.attach_call hn hdf fun w s₀ s₁ mg mb fa o pm cd doc a vs ns G Y ho hd hcd hmg hobj hints hlen hg => ?_
  have KX := hY w _ Y
  obtain ⟨fd, hb, hF⟩ := F w mg fa _ KX G.T.g hmg
  exact law_call KX G.T.g G.T.b G.T.builtins G.T.nolimit hg hobj hints (Nat.le_trans hlen hn2) hr hF hb (fun H hO hS => hsp w H a ns hlen hO hS) fun H e s' => hCX w H s₁ e s'
end L2


/-! SHORT WORDS over the layer: a def of the text, its body, what a loop and a test want. -/
namespace L2
open PySem PySem.Spec PyProof.Rows

/-! ### the text by places -/
/-- the j-th statement of a class's body -/
def inClass (s : Stmt) (j : Nat) : Stmt := match s with
  | .ClassDef _ _ _ body _ _ _ _ _ _ _ => body.getD j (.Pass ⟨0, 0, 0, 0⟩)
  | _ => .Pass ⟨0, 0, 0, 0⟩
def defArgs (s : Stmt) : Arguments := match s with
  | .FunctionDef _ a _ _ _ _ _ _ _ _ => a
  | _ => { posonlyargs := [], args := [], vararg := none, kwonlyargs := [], kw_defaults := [], kwarg := none, defaults := [] }
def defBody (s : Stmt) : List Stmt := match s with
  | .FunctionDef _ _ b _ _ _ _ _ _ _ => b
  | _ => []
def defScope (s : Stmt) : Scope := match s with
  | .FunctionDef _ _ _ _ _ _ sc _ _ _ => sc
  | _ => { kind := .function, names := [], isGenerator := false, isCoroutine := false }

/-! ### no exception leaves a def -/
abbrev CX0 : CXT := fun _ _ _ _ _ _ => False
abbrev E0 : XK := fun _ _ _ => False
theorem pass0 {X : Cx} : Passes CX0 X E0 := fun _ _ _ _ _ _ _ h => h.elim

/-! ### a def (or method) of the text as it stands behind the top -/
structure Fun (K : PySem.W.Frag) (x qual : Str) (st : Stmt) (f : Addr) (fd : FuncData) : Prop where
  ex : ∃ (oc : Value) (od : Option Addr) (kV doc pm : Value) (an : Option Addr) (cdv ct : Value) (osl : Array (Option Value)),
    fd = PySem.W.fnOf x qual (defArgs st) (defBody st) (defScope st) .none kV doc pm an cdv ct ∧ K.lookup f = some ⟨oc, od, .func fd, osl⟩ ∧ PySem.W.codeIn K cdv qual = true
  kp : PySem.W.keepIn K (.ref f) = true
section
variable {P : Program} {w : World} {K : PySem.W.Frag} {mg : Str → Option Value} {base : Heap}
/-- THE RULE for a def: its body as a term of rules, and the reading of that term -/
theorem Fun.ok {x qual : Str} {st : Stmt} {f : Addr} {fd : FuncData} {N ps : List Str} {k : Nat} {sp : Sp} (F : Fun K x qual st f fd) (S : FnScope N ps (defScope st)) (len : ∀ vs H Q E, sp vs H Q E → vs.length = ps.length)
    (hbody : ∀ (cdv : Value) (A : Around) (outer : List Env) (s : Shared) (H : Hp) (vs : List V) (Q : VK) (E : XK), Room k (A.deeper (envOfC qual (defScope st) s.heap.objs.size f cdv)) → sp vs H Q E →
      ∃ t, PSs (cxOf CX0 P w K mg base N qual (defScope st) f cdv A outer s H E).nox (defBody st) t ∧ t { nx := fun _ H' => Q .non H', rt := Q } (start N vs) H) : FnOk P w K mg base CX0 (k + 1) f fd ps sp := by
  obtain ⟨oc, od, kV, doc, pm, an, cdv, ct, osl, rfl, lk, hcd⟩ := F.ex
  refine fn_of lk hcd S len fun A outer s H vs Q E hr hsp => ?_
  obtain ⟨t, h, q⟩ := hbody cdv A outer s H vs Q E hr hsp
  exact ⟨t, h.nox, q⟩
/-- how its arguments bind (no defaults): h is «fun _ _ _ _ _ _ us hl => match us, hl with | [_, _], _ => rfl», one _ a parameter -/
theorem Fun.binds {x qual : Str} {st : Stmt} {f : Addr} {fd : FuncData} {ps : List Str} (F : Fun K x qual st f fd)
    (h : ∀ (kV doc pm : Value) (an : Option Addr) (cdv ct : Value) (us : List Value), us.length = ps.length → bindArgs (PySem.W.fnOf x qual (defArgs st) (defBody st) (defScope st) .none kV doc pm an cdv ct) ⟨us, []⟩ = pure (ps.zip us)) : Binds K fd ps [] := by
  obtain ⟨oc, od, kV, doc, pm, an, cdv, ct, osl, rfl, lk, hcd⟩ := F.ex
  exact .all (h kV doc pm an cdv ct)
theorem fun_mk {x qual : Str} {st : Stmt} {f : Addr} {oc : Value} {od an : Option Addr} {osl : Array (Option Value)} {kV doc pm cdv ct : Value} (l : K.lookup f = some ⟨oc, od, .func (PySem.W.fnOf x qual (defArgs st) (defBody st) (defScope st) .none kV doc pm an cdv ct), osl⟩)
    (c : PySem.W.codeIn K cdv qual = true) (k : PySem.W.keepIn K (.ref f) = true) : Fun K x qual st f (PySem.W.fnOf x qual (defArgs st) (defBody st) (defScope st) .none kV doc pm an cdv ct) := ⟨⟨oc, od, kV, doc, pm, an, cdv, ct, osl, rfl, l, c⟩, k⟩
end
theorem hu_of {A : Around} {k : Nat} (hr : Room k A) : A.units + 1 < cLine := Nat.lt_of_le_of_lt (Nat.add_le_add_left (by decide : 1 ≤ 64) _) hr.units
theorem small1000 {n : Nat} (h : n ≤ 1000) : n < sizeLine := Nat.lt_of_le_of_lt h (by decide)

/-! ### expressions in short: the name that stands in the i-th slot -/
section
variable {X : Cx}
theorem pv (i : Nat) {x : Str} {pos : Pos} (hN : X.N[i]? = some x := by rfl) (hv : Vis X.env.scope x := by first | exact Or.inl rfl | exact Or.inr (Or.inl rfl) | exact Or.inr (Or.inr rfl)) (hd : (x == ("__debug__" : Str)) = false := by decide)
    (hcd : (x == ("__classdict__" : Str)) = false := by decide) : PE X (.Name x pos) (tVar i) := pe_var hN hv hd hcd
end

/-! ### tests -/
theorem iteF {A B : Prop} (h : B) : if false = true then A else B := by
  rw [if_neg Bool.false_ne_true]
  exact h
theorem iteT {A B : Prop} (h : A) : if true = true then A else B := by
  rw [if_pos rfl]
  exact h
theorem ite2 {c A B : Prop} [Decidable c] (h1 : c → A) (h2 : ¬ c → B) : if c then A else B := by
  by_cases h : c
  · rw [if_pos h]
    exact h1 h
  · rw [if_neg h]
    exact h2 h
theorem iteNS {c A B : Prop} [Decidable c] (hc : c) (h : B) : if (!decide c) = true then A else B := by
  rw [decide_eq_true hc]
  exact iteF h

/-! ### heaps -/
/-- all that was tracked is as it was -/
def Same (H H' : Hp) : Prop := ∀ b o, H b = some o → H' b = some o
theorem Same.refl (H : Hp) : Same H H := fun _ _ h => h
theorem Same.trans {H H1 H2 : Hp} (a : Same H H1) (b : Same H1 H2) : Same H H2 := fun c o h => b c o (a c o h)
theorem Same.free {H H' : Hp} (e : Same H H') {l : Addr} (h : H' l = Option.none) : H l = Option.none := by
  cases q : H l with
  | none => rfl
  | some o =>
    rw [e l o q] at h
    cases h
theorem Same.seq {K : PySem.W.Frag} {H H' : Hp} {a : Addr} {xs : List V} (e : Same H H') (h : SqL K H a xs) : SqL K H' a xs := by
  rcases h with (h | ⟨o, h⟩) | h
  · exact .inl (.inl (e _ _ h))
  · exact .inl (.inr ⟨o, e _ _ h⟩)
  · exact .inr h

end L2
/-! a comprehension over the hand layer -/
namespace L2
open PySem PySem.Spec PyProof.Rows

/-! ### the cells of a block -/
theorem closure_names {env : Env} : ∀ (names : List (Str × NameKind)) (acc : List (Str × Addr)), (∀ y ∈ names, y.2 = .free → ∃ c, env.cells.lookup y.1 = some c) →
    ∃ cl, (forIn names acc (fun (x : Str × NameKind) (cs : List (Str × Addr)) => if (x.2 == NameKind.free) = true then (do let c ← cellOf env x.1; pure (ForInStep.yield ((x.1, c) :: cs))) else pure (ForInStep.yield cs)) : Sem (List (Str × Addr))) = pure cl ∧
      (∀ x c, cl.lookup x = some c → env.cells.lookup x = some c ∨ acc.lookup x = some c) ∧ (∀ x c, acc.lookup x = some c → ∃ c', cl.lookup x = some c') ∧ ∀ y ∈ names, y.2 = .free → ∃ c, cl.lookup y.1 = some c
  | [], acc, _ => ⟨acc, rfl, fun _ _ h => .inr h, fun _ c h => ⟨c, h⟩, fun _ h => nomatch h⟩
  | (n, k) :: r, acc, h => by
    rw [List.forIn_cons]
    by_cases hk : k = .free
    · subst hk
      obtain ⟨c, hc⟩ := h (n, .free) List.mem_cons_self rfl
      obtain ⟨cl, h1, h2, h3, h4⟩ := closure_names r ((n, c) :: acc) fun y hy => h y (List.mem_cons_of_mem _ hy)
      refine ⟨cl, ?_, fun x d e => ?_, fun x d e => ?_, fun y hy e => ?_⟩
      · have e1 : cellOf env n = pure c := by unfold cellOf; rw [hc]
        simp only [beq_self_eq_true, if_true, e1, pure_bind]
        exact h1
      · rcases h2 x d e with z | z
        · exact .inl z
        · rw [List.lookup_cons] at z
          split at z
          · rename_i hx
            cases z
            have : x = n := eq_of_beq hx
            subst this
            exact .inl hc
          · exact .inr z
      · refine h3 x (if x == n then c else d) ?_
        rw [List.lookup_cons]
        cases hx : x == n with
        | true => simp [hx]
        | false => simp [hx, e]
      · rcases List.mem_cons.mp hy with z | z
        · subst z
          exact h3 n c (by simp [List.lookup_cons])
        · exact h4 y z e
    · have hb : (k == NameKind.free) = false := by simpa using hk
      obtain ⟨cl, h1, h2, h3, h4⟩ := closure_names r acc fun y hy => h y (List.mem_cons_of_mem _ hy)
      refine ⟨cl, ?_, h2, h3, fun y hy e => ?_⟩
      · simp only [hb, Bool.false_eq_true, if_false, pure_bind]
        exact h1
      · rcases List.mem_cons.mp hy with z | z
        · subst z
          exact absurd e hk
        · exact h4 y z e
theorem closure_ok {scope : Scope} {env : Env} (h : ∀ y ∈ scope.names, y.2 = .free → ∃ c, env.cells.lookup y.1 = some c) :
    ∃ cl, closureFor scope env = pure cl ∧ (∀ x c, cl.lookup x = some c → env.cells.lookup x = some c) ∧ ∀ y ∈ scope.names, y.2 = .free → ∃ c, cl.lookup y.1 = some c := by
  obtain ⟨cl, h1, h2, h3, h4⟩ := closure_names scope.names [] h
  refine ⟨cl, ?_, fun x c e => (h2 x c e).elim id fun z => (by cases z), h4⟩
  unfold closureFor
  refine Eq.trans ?_ h1
  refine Eq.trans (bind_pure _) ?_
  rfl

theorem lookup_relabel_free {env : Env} : ∀ {names : List (Str × NameKind)} {x : Str}, names.lookup x = some .free →
    (names.map fun (n, k) => if (k == NameKind.free && env.scope.kind == .function && env.kindOf n == some .cell) then (n, NameKind.cell) else (n, k)).lookup x = some .cell ∨
    (names.map fun (n, k) => if (k == NameKind.free && env.scope.kind == .function && env.kindOf n == some .cell) then (n, NameKind.cell) else (n, k)).lookup x = some .free
  | [], _, h => by simp at h
  | (n, k) :: r, x, h => by
    have ih := @lookup_relabel_free env r x
    show List.lookup x ((if (k == NameKind.free && env.scope.kind == .function && env.kindOf n == some .cell) = true then (n, NameKind.cell) else (n, k)) :: _) = _ ∨ List.lookup x ((if (k == NameKind.free && env.scope.kind == .function && env.kindOf n == some .cell) = true then (n, NameKind.cell) else (n, k)) :: _) = _
    by_cases hc : (k == NameKind.free && env.scope.kind == .function && env.kindOf n == some .cell) = true
    · rw [if_pos hc]
      cases hx : x == n with
      | true => simp only [List.lookup_cons, hx]; exact .inl trivial
      | false =>
        simp only [List.lookup_cons, hx] at h ⊢
        exact ih h
    · rw [if_neg hc]
      cases hx : x == n with
      | true =>
        simp only [List.lookup_cons, hx] at h ⊢
        exact .inr h
      | false =>
        simp only [List.lookup_cons, hx] at h ⊢
        exact ih h
theorem mem_relabel {env : Env} {names : List (Str × NameKind)} (hn : ∀ y ∈ names, y.2 ≠ .cell) {x : Str} {k : NameKind} (hk : k = .cell ∨ k = .free)
    (h : (names.map fun (n, k) => if (k == NameKind.free && env.scope.kind == .function && env.kindOf n == some .cell) then (n, NameKind.cell) else (n, k)).lookup x = some k) : (x, NameKind.free) ∈ names := by
  obtain ⟨⟨n, k'⟩, hm, e⟩ := List.mem_map.mp (PySem.mem_of_lookup h)
  simp only at e
  split at e
  · rename_i hc
    rw [Bool.and_eq_true, Bool.and_eq_true] at hc
    have : k' = .free := eq_of_beq hc.1.1
    subst this
    injection e with e1 _
    subst e1
    exact hm
  · injection e with e1 e2
    subst e1 e2
    rcases hk with z | z
    · exact absurd z (hn _ hm)
    · subst z; exact hm

/-! ### the block's context -/
/-- the context of a comprehension's block -/
def cxComp (X : Cx) (N : List Str) (scope : Scope) (cl : List (Str × Addr)) (C : Addr) (fp : List Addr) (s : Shared) (H : Hp) : Cx where
  prog := X.prog
  w := X.w
  K := X.K
  mg := X.mg
  base := X.base
  A := X.A
  N := N
  s₀ := s
  H₀ := H
  env := compEnvC scope cl C X.env
  outer := X.stack
  stack := X.stack
  ex := fp
  fn := fun _ => false
  calm := X.calm
  pn := []
  xe := fun _ _ => False
/-- the names of a block: own of them its own, then names of the def around it (its slots fr) -/
structure CompScope (sc : Scope) (XN N : List Str) (own : Nat) (fr : List Nat) (scope : Scope) : Prop where
  kind : scope.kind = .function
  nocell : ∀ y ∈ scope.names, y.2 ≠ .cell
  free : ∀ y ∈ scope.names, y.2 = .free → sc.names.lookup y.1 = some .cell ∨ sc.names.lookup y.1 = some .free
  loc : ∀ y ∈ scope.names, y.2 = .local → scope.names.lookup y.1 = some .local
  names : N.drop own = fr.filterMap fun i => XN[i]?
  frl : ∀ i ∈ fr, i < XN.length
  len : own ≤ N.length
  vis : ∀ x ∈ N.drop own, scope.names.lookup x = some .free
def σf (fr : List Nat) (σ : St) : St := fr.map fun i => σ.getD i none
def σc (own : Nat) (fr : List Nat) (σ : St) : St := List.replicate own none ++ σf fr σ

section
variable {X : Cx} {pins : List (Addr × Obj)} {σ : St} {H : Hp} {s : Shared} {N : List Str} {own : Nat} {fr : List Nat} {scope : Scope}

theorem filterMap_all {XN : List Str} : ∀ {fr : List Nat}, (∀ i ∈ fr, i < XN.length) → ∀ (j : Nat), (fr.filterMap fun i => XN[i]?)[j]? = (fr[j]?).bind fun i => XN[i]?
  | [], _, j => by simp
  | i :: r, h, j => by
    have hi : i < XN.length := h i List.mem_cons_self
    rw [List.filterMap_cons, List.getElem?_eq_getElem hi]
    cases j with
    | zero => simp [hi]
    | succ j => simpa using filterMap_all (fun k hk => h k (List.mem_cons_of_mem _ hk)) j

theorem inv_comp {cl : List (Str × Addr)} {fp : List Addr} {h' : Heap} (I : Inv X pins σ H s) (S : CompScope X.env.scope X.N N own fr scope) (hcl : ∀ x c, cl.lookup x = some c → X.env.cells.lookup x = some c)
    (hcf : ∀ y ∈ scope.names, y.2 = .free → ∃ c, cl.lookup y.1 = some c) (hfp : ∀ b ∈ fp, FpOk X pins H b) (hfo : ∀ b ∈ fp, ∃ o, s.heap.get? b = some o)
    (hns : h'.Ns s.heap.objs.size fun _ => none) (hk : ∀ b o, s.heap.get? b = some o → h'.get? b = some o) :
    Inv (cxComp X N scope cl s.heap.objs.size fp s H) [] (σc own fr σ) H { s with heap := h' } := by
  have kindE : ∀ x, (Env.kindOf (compEnvC scope cl s.heap.objs.size X.env) x) = (relabel scope X.env).names.lookup x := fun x => rfl
  have memF : ∀ x, (Env.kindOf (compEnvC scope cl s.heap.objs.size X.env) x = some .cell ∨ Env.kindOf (compEnvC scope cl s.heap.objs.size X.env) x = some .free) → (x, NameKind.free) ∈ scope.names := fun x hx => by
    rcases hx with z | z
    · exact mem_relabel (env := X.env) S.nocell (.inl rfl) z
    · exact mem_relabel (env := X.env) S.nocell (.inr rfl) z
  refine ⟨⟨I.ok.mod, S.kind, I.ok.glob, I.ok.blt, Nat.le_refl _, fun x y c h1 h2 => I.ok.inj x y c (hcl x c h1) (hcl y c h2), fun x hx => hcf (x, .free) (memF x hx) rfl, fun x c h => absurd (show false = true from h) (by decide), I.ok.hd, I.ok.frames, .inl rfl, fun b hb => ?_, I.bs, Nat.le_trans I.ok.bsz I.sz, fun b o e hb => ?_, fun b hb z => ?_, I.stack, I.stkFree⟩,
    rfl, I.bare, Un.kept hk, ⟨_, hns, fun i x v e1 e2 e3 => ?_⟩, fun x c e => ?_, I.hok.fresh (Nat.le_refl _), fun x c e => I.freeC x c (hcl x c e), fun p hp => absurd (show p ∈ ([] : List (Addr × Obj)) from hp) (by simp), I.hok.kept hk, ?_⟩
  · obtain ⟨o, ho⟩ := hfo b hb
    exact ⟨Nat.ne_of_lt (Heap.lt_size ho), fun x c e => (hfp b hb).2.2.2.2.1 x c (hcl x c e)⟩
  · rcases (hfp b hb).2.2.2.1 with z | z
    · exact I.ok.noex b o e z
    · exact absurd (Nat.lt_of_lt_of_le (Heap.lt_size (I.ok.bs b o e).1) z) (Nat.lt_irrefl _)
  · rcases List.mem_cons.mp (I.stkSub b z) with q | q
    · exact (hfp b hb).2.1 q
    · exact (hfp b hb).2.2.1 q
  · have hi : own ≤ i := by
      rcases Nat.lt_or_ge i own with z | z
      · have e2' : (σc own fr σ)[i]? = some (some v) := e2
        unfold σc at e2'
        rw [List.getElem?_append_left (by simpa using z), List.getElem?_replicate] at e2'
        split at e2' <;> cases e2'
      · exact z
    have e2' : (σf fr σ)[i - own]? = some (some v) := by
      have e2' : (σc own fr σ)[i]? = some (some v) := e2
      unfold σc at e2'
      rw [List.getElem?_append_right (by simpa using hi)] at e2'
      simpa using e2'
    have e1' : (N.drop own)[i - own]? = some x := by
      have e1' : N[i]? = some x := e1
      rw [List.getElem?_drop]
      rw [show own + (i - own) = i by omega]
      exact e1'
    have hv : scope.names.lookup x = some .free := S.vis x (List.mem_of_getElem? e1')
    have hx : X.env.scope.names.lookup x = some .cell ∨ X.env.scope.names.lookup x = some .free := S.free (x, .free) (PySem.mem_of_lookup hv) rfl
    rw [S.names, filterMap_all S.frl] at e1'
    unfold σf at e2'
    rw [List.getElem?_map] at e2'
    cases q : fr[i - own]? with
    | none => rw [q] at e2'; cases e2'
    | some j =>
      rw [q] at e1' e2'
      have e1'' : X.N[j]? = some x := e1'
      have e2'' : σ.getD j none = some v := Option.some.inj e2'
      have e3' : σ[j]? = some (some v) := by
        rw [List.getD_eq_getElem?_getD] at e2''
        cases z : σ[j]? with
        | none => rw [z] at e2''; cases e2''
        | some y => rw [z] at e2''; exact congrArg some e2''
      obtain ⟨m, hn, hl⟩ := I.loc
      obtain ⟨u, r, l⟩ := hl j x v e1'' e3' (.inr hx)
      refine ⟨u, r, .inr ⟨lookup_relabel_free (env := X.env) hv, ?_⟩⟩
      rcases l with ⟨k, _⟩ | ⟨_, c, hc, z⟩
      · have k' : X.env.scope.names.lookup x = some .local := k
        rw [k'] at hx
        rcases hx with z | z <;> cases z
      · obtain ⟨c', hc'⟩ := hcf (x, .free) (PySem.mem_of_lookup hv) rfl
        have := hcl x c' hc'
        rw [hc] at this
        cases this
        exact ⟨c, hc', z.keeps hk⟩
  · obtain ⟨v, z⟩ := I.cell x c (hcl x c e)
    exact ⟨v, z.keeps hk⟩
  · show (σc own fr σ).length = N.length
    unfold σc σf
    have h1 := congrArg List.length S.names
    have h2 : (fr.filterMap fun i => X.N[i]?).length = fr.length := by
      have : ∀ (l : List Nat), (∀ i ∈ l, i < X.N.length) → (l.filterMap fun i => X.N[i]?).length = l.length := by
        intro l
        induction l with
        | nil => intro _; rfl
        | cons i r ih =>
          intro h
          rw [List.filterMap_cons, List.getElem?_eq_getElem (h i List.mem_cons_self)]
          simp [ih fun k hk => h k (List.mem_cons_of_mem _ hk)]
      exact this fr S.frl
    rw [List.length_drop, h2] at h1
    rw [List.length_append, List.length_replicate, List.length_map]
    have := S.len
    omega
end

section
variable {prog : Program} {w : World} {A : Around} {R : Result → Shared → Prop} {s : Shared}
theorem compLoop_any {elt target iter : Expr} {ifs : List Expr} {scope : Scope} {pos : Pos} {it acc : Value} {env : Env} (I : Nat → Shared → Prop)
    (turn : ∀ n s, I n s → wpAny (model prog w) A (pyNext it) (fun r s₁ => match r with
      | none => R (.ok .next) s₁
      | some v => wpAny (model prog w) A (letOwnedTupleGo target it v) (fun _ s' => wpAny (model prog w) A (assign target env v) (fun _ s₂ =>
          wpAny (model prog w) A (forIn ifs true fun c r => if r = true then do let ok ← isTrue c env (eval c env); pure (ForInStep.yield ok) else pure (ForInStep.yield r)) (fun ok s₃ =>
            if ok = true then wpAny (model prog w) A (eval elt env) (fun x s₄ =>
              wpAny (model prog w) A (call (.builtin "list.append") [acc, x]) (fun _ s₅ => ∃ m, m < n ∧ I m s₅) (fun _ _ => False) s₄) (fun _ _ => False) s₃
            else ∃ m, m < n ∧ I m s₃) (fun _ _ => False) s₂) (fun _ _ => False) s') (fun _ _ => False) s₁) (fun _ _ => False) s)
    (n : Nat) (h : I n s) : codeAny (model prog w) A (.compLoop (.ListComp elt [⟨target, iter, ifs, 0⟩] scope pos) 0 it acc env) R s := by
  refine codeAny_loop rfl I (fun n s hI => ?_) n h
  show wpAny _ A ((compTurn (.ListComp elt [⟨target, iter, ifs, 0⟩] scope pos) 0 it acc env).onRaise (fun x => do noteFrame x env; theTreesLotGoes x)) _ _ s
  refine wpAny_noted ?_
  rw [compTurn_list]
  refine wpAny_bind (wpAny_standAt (wpAny_bind (wpAny_mono (turn n s hI) (fun r s₁ h₁ => ?_) fun _ _ z => False.elim z)))
  cases r with
  | none => exact wpAny_pure h₁
  | some v =>
    refine wpAny_bind (wpAny_mono h₁ (fun _ s' h' => ?_) fun _ _ z => False.elim z)
    refine wpAny_bind (wpAny_mono h' (fun _ s₂ h₂ => wpAny_bind (wpAny_mono h₂ (fun ok s₃ h₃ => ?_) fun _ _ z => False.elim z)) fun _ _ z => False.elim z)
    cases ok with
    | false => exact wpAny_pure ⟨rfl, h₃⟩
    | true =>
      exact wpAny_bind (wpAny_bind (wpAny_mono h₃ (fun x s₄ h₄ => wpAny_bind (wpAny_mono h₄ (fun _ s₅ h₅ => wpAny_pure (wpAny_pure ⟨rfl, h₅⟩)) fun _ _ z => False.elim z)) fun _ _ z => False.elim z))
end

/-- what a comprehension wants of its turns: the new list at a, its items ys so far -/
def CompW (J : It) (a : Addr) (own : Nat) (fr : List Nat) (g : TG) (tf : TT) (te : TE) (σ : St) (H1 : Hp) (Q : VK) : Prop :=
  ∃ (n : Nat) (Pv : Nat → List V → Hp → Prop), Pv 0 [] (upd H1 a (.lst [])) ∧ ∀ i ys H2, i ≤ n → H2 a = some (.lst ys) → Pv i ys H2 →
    (J.stop i H2 ∧ Q (.ref a) H2) ∨ (i < n ∧ J.go i H2 ∧ ∀ x H3, J.yld i H2 x H3 → g x (σc own fr σ) H3 fun σ4 H4 => (∃ ow, ow.length = own ∧ σ4 = ow ++ σf fr σ) ∧ tf σ4 H4 fun b H5 =>
      if b = true then te σ4 H5 fun y H6 => H6 a = some (.lst ys) ∧ ys.length < sizeLine ∧ Pv (i + 1) (ys ++ [y]) (upd H6 a (.lst (ys ++ [y])))
      else H5 a = some (.lst ys) ∧ Pv (i + 1) ys H5)

/-- the tests of a block -/
def PFs (X : Cx) (ifs : List Expr) (t : TT) : Prop :=
  ∀ (pins : List (Addr × Obj)) (s : Shared) (σ : St) (H : Hp) (Q : Bool → Hp → Prop), Inv X pins σ H s → t σ H Q →
    wpAny (model X.prog X.w) X.A (forIn ifs true fun c r => if r = true then do let ok ← isTrue c X.env (eval c X.env); pure (ForInStep.yield ok) else pure (ForInStep.yield r)) (TP X pins σ Q) X.xe s
def tNoIf : TT := fun _ H Q => Q true H
theorem pf_nil {X : Cx} : PFs X [] tNoIf := fun pins s σ H Q I h => wpAny_tests_nil ⟨H, I, h⟩
section
variable {X : Cx} {pins : List (Addr × Obj)} {σ : St} {H : Hp} {s : Shared} {N : List Str} {own : Nat} {fr : List Nat} {scope : Scope} {cl : List (Str × Addr)} {elt tg iter : Expr} {ifs : List Expr} {pos : Pos}
  {it : Addr} {fp : List Addr} {tn : Nat → Heap → Prop} {J : It} {g : TG} {tf : TT} {te : TE} {Q : VK} {E : Value → Shared → Prop}

theorem comp_block {RR : Value → Addr → Result → Shared → Prop} (hc : X.calm = true) (S : CompScope X.env.scope X.N N own fr scope) (hcl : ∀ x c, cl.lookup x = some c → X.env.cells.lookup x = some c)
    (hcf : ∀ y ∈ scope.names, y.2 = .free → ∃ c, cl.lookup y.1 = some c)
    (hg : ∀ C s H, PG (cxComp X N scope cl C fp s H) tg g) (hf : ∀ C s H, PFs (cxComp X N scope cl C fp s H) ifs tf) (he : ∀ C s H, PE (cxComp X N scope cl C fp s H) elt te)
    (I : Inv X pins σ H s) (T : Turn X.prog X.w X.K tg J fp it tn) (st : tn 0 s.heap) (hfp : ∀ b ∈ fp, FpOk X pins H b) (hw : ∀ a, H a = none → CompW J a own fr g tf te σ H Q)
    (hRR : ∀ a C s' H', Inv X pins σ H' s' → Q (.ref a) H' → FpOk X pins H' C → (∃ m, s'.heap.Ns C m) → RR (.ref a) C (.ok .next) s') :
    wpAny (model X.prog X.w) X.A (newList []) (fun acc s₃ => wpAny (model X.prog X.w) X.A (newFunctionEnv scope X.env.globals cl [] X.env.qual none .none (some X.env)) (fun cenv s₄ =>
      codeAny (model X.prog X.w) X.A (.compStart (.ListComp elt [⟨tg, iter, ifs, 0⟩] scope pos) 0 (.ref it) acc { cenv with scope := relabel scope X.env }) (RR acc cenv.locals) s₄) E s₃) E s := by
  refine wpAny_newObj_type (wpAny_newFunctionEnv S.nocell (by intro y hy; simp at hy) (fun h₁ hns₁ hsb₁ => ?_) S.kind)
  dsimp only at hns₁ hsb₁ ⊢
  have I3 : Inv X pins σ (upd H s.heap.objs.size (.lst [])) { s with heap := s.heap.push { cls := .type "list", dict := none, data := .seq ([] : List Value).toArray } } := I.lnew (ys := []) (t' := s.toks) .nil (Nat.zero_le _)
  have hfo : ∀ b ∈ fp, ∃ o, s.heap.get? b = some o := fun b hb => let ⟨o, ho, _⟩ := T.obj _ _ st b hb; ⟨o, ho⟩
  have hlt : ∀ b ∈ fp, b < s.heap.objs.size := fun b hb => let ⟨o, ho⟩ := hfo b hb; Heap.lt_size ho
  have fp3 : ∀ b ∈ fp, FpOk X pins (upd H s.heap.objs.size (.lst [])) b := fun b hb => ⟨by rw [upd_ne (Nat.ne_of_lt (hlt b hb))]; exact (hfp b hb).1, (hfp b hb).2⟩
  obtain ⟨n0, W, w0, turn⟩ := hw s.heap.objs.size I.fresh
  generalize hs3 : ({ s with heap := s.heap.push { cls := .type "list", dict := none, data := .seq ([] : List Value).toArray } } : Shared) = s3 at I3
  have eh : s3.heap = s.heap.push { cls := .type "list", dict := none, data := .seq ([] : List Value).toArray } := by rw [← hs3]
  rw [← eh] at hns₁ hsb₁ ⊢
  have hk : ∀ b o, s3.heap.get? b = some o → h₁.get? b = some o := fun b o e => hsb₁.extBut b o (Nat.ne_of_lt (Heap.lt_size e)) (Heap.get?_push_of_some _ e)
  have hk0 : ∀ b o, s.heap.get? b = some o → s3.heap.get? b = some o := fun b o e => by rw [eh]; exact Heap.get?_push_of_some _ e
  have J0 : Inv (cxComp X N scope cl s3.heap.objs.size fp s3 (upd H s.heap.objs.size (.lst []))) [] (σc own fr σ) (upd H s.heap.objs.size (.lst [])) { s3 with heap := h₁ } :=
    inv_comp I3 S hcl hcf fp3 (fun b hb => let ⟨o, ho⟩ := hfo b hb; ⟨o, hk0 b o ho⟩) hns₁ hk
  have st0 : tn 0 h₁ := T.keep _ _ _ st fun b _ o e => hk b o (hk0 b o e)
  have stat : ∀ {H' : Hp}, (∀ b ∈ fp, H' b = none) → ∀ b ∈ fp, FpOk (cxComp X N scope cl s3.heap.objs.size fp s3 (upd H s.heap.objs.size (.lst []))) [] H' b := fun hn b hb =>
    ⟨hn b hb, (J0.ok.exf b hb).1, J0.ok.exfs b hb, .inl hb, (J0.ok.exf b hb).2, fun p hp => absurd (show p ∈ ([] : List (Addr × Obj)) from hp) (by simp)⟩
  have loop : ∀ s4 : Shared, s4 = { s3 with heap := h₁ } → codeAny (model X.prog X.w) X.A (.compLoop (.ListComp elt [⟨tg, iter, ifs, 0⟩] scope pos) 0 (.ref it) (.ref s.heap.objs.size) (compEnvC scope cl s3.heap.objs.size X.env))
      (RR (.ref s.heap.objs.size) s3.heap.objs.size) s4 := by
    rintro s4 rfl
    refine compLoop_any (fun n s' => ∃ i ow H' ys, Inv (cxComp X N scope cl s3.heap.objs.size fp s3 (upd H s.heap.objs.size (.lst []))) [] (ow ++ σf fr σ) H' s' ∧ ow.length = own ∧ tn i s'.heap ∧ (∀ b ∈ fp, H' b = none) ∧ H' s.heap.objs.size = some (.lst ys) ∧ (n = n0 - i ∧ i ≤ n0) ∧ W i ys H') ?_ n0
      ⟨0, List.replicate own none, _, [], J0, by simp, st0, fun b hb => (fp3 b hb).1, upd_same, ⟨rfl, Nat.zero_le _⟩, w0⟩
    rintro n s5 ⟨i, ow, H5, ys, I5, hlo, st5, fr5, ha5, ⟨rfl, hi5⟩, w5⟩
    rcases turn i ys H5 hi5 ha5 w5 with ⟨stop, qn⟩ | ⟨hin, go, step⟩
    · refine thn (T.done (cxComp X N scope cl s3.heap.objs.size fp s3 (upd H s.heap.objs.size (.lst []))) rfl rfl rfl hc i [] s5 _ H5 (fun _ _ => False) I5 (stat fr5) st5 stop) fun r s6 ⟨hr, I6⟩ => ?_
      subst hr
      have IX : Inv X pins σ H5 s6 := I3.call' I6.os I6.base I6.hok I6.bare fun b hb => let ⟨_, f2, _, f4, f5, f6⟩ := fp3 b hb; ⟨f4, f2, f5, f6⟩
      refine hRR _ _ s6 H5 IX qn (I3.fpOk (Nat.le_refl _) I6.free) ?_
      obtain ⟨m, hn, _⟩ := I6.loc
      exact ⟨m, hn⟩
    · refine thn (T.item (cxComp X N scope cl s3.heap.objs.size fp s3 (upd H s.heap.objs.size (.lst []))) rfl rfl rfl hc i [] s5 _ H5 (fun _ _ => False) I5 (stat fr5) st5 go) fun r s6 ⟨u, hr, h6⟩ => ?_
      subst hr
      refine thn h6 fun _ s7 ⟨x, H7, I7, r7, y7, st7, fr7⟩ => ?_
      have I7' := (I7.pinned (stat fr7) (T.obj _ _ st7)).weak (σ' := σc own fr σ) (by unfold σc; simp [hlo]) (fun j v e => by
        unfold σc at e
        rcases Nat.lt_or_ge j own with z | z
        · rw [List.getElem?_append_left (by simpa using z), List.getElem?_replicate] at e
          split at e <;> cases e
        · rw [List.getElem?_append_right (by simpa using z)] at e
          rw [List.getElem?_append_right (by rw [hlo]; exact z), hlo]
          simpa using e)
      refine thn (hg _ _ _ _ s7 _ H7 x u _ I7' r7 (step x H7 y7)) fun _ s8 ⟨σ8, H8, I8, ⟨ow8, hl8, e8⟩, q8⟩ => ?_
      refine thn (hf _ _ _ _ s8 _ H8 _ I8 q8) fun ok s9 ⟨H9, I9, q9⟩ => ?_
      have again : ∀ {H' : Hp} {s' : Shared}, Inv (cxComp X N scope cl s3.heap.objs.size fp s3 (upd H s.heap.objs.size (.lst []))) ([] ++ pinsAt fp s7.heap) σ8 H' s' → ∀ {ys' : List V}, H' s.heap.objs.size = some (.lst ys') → W (i + 1) ys' H' →
          ∃ m, m < n0 - i ∧ ∃ i ow H' ys, Inv (cxComp X N scope cl s3.heap.objs.size fp s3 (upd H s.heap.objs.size (.lst []))) [] (ow ++ σf fr σ) H' s' ∧ ow.length = own ∧ tn i s'.heap ∧ (∀ b ∈ fp, H' b = none) ∧ H' s.heap.objs.size = some (.lst ys) ∧ (m = n0 - i ∧ i ≤ n0) ∧ W i ys H' := fun {H' s'} I' {ys'} ha hw' => by
        refine ⟨n0 - (i + 1), by omega, i + 1, ow8, H', ys', e8 ▸ I'.unpinned, hl8, T.keep _ _ _ st7 fun b hb o e => (I'.pin (b, o) (List.mem_append_right _ (List.mem_append_right _ (mem_pinsAt hb e)))).1, fun b hb => ?_, ha, ⟨rfl, hin⟩, hw'⟩
        obtain ⟨o, e, _⟩ := T.obj _ _ st7 b hb
        exact (I'.pin (b, o) (List.mem_append_right _ (List.mem_append_right _ (mem_pinsAt hb e)))).2.1
      cases ok with
      | false =>
        have q9' : H9 s.heap.objs.size = some (.lst ys) ∧ W (i + 1) ys H9 := by simpa using q9
        obtain ⟨ha, hw'⟩ := q9'
        show if false = true then _ else _
        rw [if_neg (by decide)]
        exact again I9 ha hw'
      | true =>
        rw [if_pos rfl] at q9
        show if true = true then _ else _
        rw [if_pos rfl]
        refine thn (he _ _ _ _ s9 _ H9 _ I9 q9) fun y s10 ⟨v10, H10, I10, r10, ha10, hz10, hw'⟩ => ?_
        refine thn (mt_append _ s10 _ H10 (.ref s.heap.objs.size) [v10] (.ref s.heap.objs.size) [y] (fun _ H' => H' = upd H10 s.heap.objs.size (.lst (ys ++ [v10]))) I10 rfl (.cons r10 .nil) ⟨_, ys, v10, rfl, rfl, ha10, hz10, rfl⟩) fun _ s11 ⟨_, H11, I11, _, e11⟩ => ?_
        subst e11
        exact again I11 upd_same hw'
  exact codeAny_compStart_list (loop _ (by rw [← hs3]; rfl)) (T.self X.A 0 _ _ _ st0 (loop _ (by rw [← hs3]; rfl)))
end

def tComp (own : Nat) (fr : List Nat) (wi : TI) (g : TG) (tf : TT) (te : TE) : TE := fun σ H Q => wi σ H fun J H1 => ∀ a, H1 a = none → CompW J a own fr g tf te σ H1 Q
section
variable {X : Cx} {sc : Scope} {XN N : List Str} {own : Nat} {fr : List Nat} {scope : Scope} {elt tg iter : Expr} {ifs : List Expr} {pos : Pos} {wi : TI} {g : TG} {tf : TT} {te : TE}
theorem pe_comp (hc : X.calm = true) (S : CompScope sc XN N own fr scope) (hi : PI X tg iter wi)
    (hg : ∀ cl C fp s H, PG (cxComp X N scope cl C fp s H) tg g) (hf : ∀ cl C fp s H, PFs (cxComp X N scope cl C fp s H) ifs tf) (he : ∀ cl C fp s H, PE (cxComp X N scope cl C fp s H) elt te)
    (hs : ∀ x, foldedSetIterable iter X.env x = pure x := by intro _; rfl) (hsc : X.env.scope = sc := by rfl) (hxn : X.N = XN := by rfl) : PE X (.ListComp elt [⟨tg, iter, ifs, 0⟩] scope pos) (tComp own fr wi g tf te) := by
  subst hsc hxn
  intro pins s σ H Q I h
  obtain ⟨cl, c1, c2, c3⟩ := closure_ok (scope := scope) (env := X.env) fun y hy e => I.ok.has y.1 (S.free y hy e)
  rw [eval_ListComp]
  refine wpAny_comprehension_free (use := none) rfl hs c1 S.kind S.loc (thn (hi pins s σ H _ I h) fun xv s1 h1 => thn h1 fun itv s2 h2 => ?_)
  obtain ⟨it, fp, tn, J, H2, e, I2, T, st2, f2, hw⟩ := h2
  subst e
  refine comp_block hc S c2 c3 (fun C s H => hg cl C fp s H) (fun C s H => hf cl C fp s H) (fun C s H => he cl C fp s H) I2 T st2 f2 hw fun a C s' H' I' q fC ⟨m, hn⟩ => ?_
  refine ⟨m, hn, fun h' hs' => ?_⟩
  obtain ⟨f0, f1, _, f3, f4, f5⟩ := fC
  exact ⟨.ref a, H', I'.turned (t' := s'.toks) (fun b o hb e => hs'.extBut b o hb e) f0 f1 f3 f4 f5, rfl, q⟩
end

/-! ### the forms one uses -/
theorem comp_list {K : PySem.W.Frag} {l a : Addr} {xs : List V} {own : Nat} {fr : List Nat} {g : TG} {tf : TT} {te : TE} {σ : St} {H1 : Hp} {Q : VK} (Pv : Nat → List V → Hp → Prop)
    (h0 : Pv 0 [] (upd H1 a (.lst []))) (hl : ∀ i ys H, i ≤ xs.length → H a = some (.lst ys) → Pv i ys H → SqL K H l xs)
    (hs : ∀ i x ys H3, xs[i]? = some x → H3 a = some (.lst ys) → Pv i ys H3 → g x (σc own fr σ) H3 fun σ4 H4 => (∃ ow, ow.length = own ∧ σ4 = ow ++ σf fr σ) ∧ tf σ4 H4 fun b H5 =>
      if b = true then te σ4 H5 fun y H6 => H6 a = some (.lst ys) ∧ ys.length < sizeLine ∧ Pv (i + 1) (ys ++ [y]) (upd H6 a (.lst (ys ++ [y]))) else H5 a = some (.lst ys) ∧ Pv (i + 1) ys H5)
    (hd : ∀ ys H, H a = some (.lst ys) → Pv xs.length ys H → Q (.ref a) H) : CompW (Itl K l) a own fr g tf te σ H1 Q := by
  refine ⟨xs.length, Pv, h0, fun i ys H hi ha p => ?_⟩
  have q := hl i ys H hi ha p
  by_cases hlt : i < xs.length
  · refine .inr ⟨hlt, ⟨xs, xs[i], q, by simp [hlt]⟩, fun x H' y => ?_⟩
    obtain ⟨e, y⟩ := y
    subst e
    exact hs i x ys _ (y xs q) ha p
  · have e : i = xs.length := by omega
    subst e
    exact .inl ⟨⟨xs, q, Nat.le_refl _⟩, hd ys H ha p⟩
end L2
/-! further words over the hand layer: isinstance, sum, all, any, == of lists, [::-1], is True, // of any size -/
namespace L2
open PySem PySem.Spec PyProof.Rows
section
variable {X : Cx}

/-! ### isinstance -/
def TyV (K : PySem.W.Frag) (T : String) (x : V) (H : Hp) (b : Bool) : Prop := match x with
  | .non => b = false
  | .bl _ => b = (T == "bool" || T == "int")
  | .int _ => b = (T == "int")
  | .str _ => b = (T == "str")
  | .ref a => (∃ xs, SqL K H a xs ∧ b = (T == "list")) ∨ (∃ xs, SqT K H a xs ∧ b = (T == "tuple")) ∨ (∃ kvs, H a = some (.dK kvs) ∧ b = (T == "dict"))
  | _ => False
theorem isi_none {prog : Program} {w : World} {A : Around} {E : Value → Shared → Prop} {s : Shared} {Q : Value → Shared → Prop} {T : String} (hne : (Value.type "NoneType" == Value.type T) = false) (hty : typeOf (.type T) = pure (.type "type"))
    (hsub : isSubtype (.type "NoneType") (.type T) = pure false) (h : Q (.bool false) { s with toks := s.toks + 1 }) : wpAny (model prog w) A (call (.builtin "isinstance") [.none, .type T]) Q E s :=
  call_isinstance (S := fun _ R s => R (.ok (.ret (.bool false))) { s with toks := s.toks + 1 }) (fun _ _ _ _ s hs => by
    obtain ⟨h, g, d, t, os⟩ := s
    exact isinstance_outer (isinstance_nested_false_none hne hty hsub hs)) h
theorem Inv.lcls {pins : List (Addr × Obj)} {σ : St} {H : Hp} {s : Shared} {a : Addr} {xs : List V} (I : Inv X pins σ H s) (h : SqL X.K H a xs) : ∃ o, s.heap.get? a = some o ∧ o.cls = .type "list" := by
  obtain ⟨its, r, pl, hz⟩ := I.list h
  obtain ⟨o, ho, hc, _⟩ := pl.isList
  exact ⟨o, ho, hc⟩
theorem Inv.tcls {pins : List (Addr × Obj)} {σ : St} {H : Hp} {s : Shared} {a : Addr} {xs : List V} (I : Inv X pins σ H s) (h : SqT X.K H a xs) : ∃ o, s.heap.get? a = some o ∧ o.cls = .type "tuple" := by
  obtain ⟨its, r, ⟨o, ho, hc, _⟩, hz⟩ := I.tuple h
  exact ⟨o, ho, hc⟩
theorem Inv.dcls {pins : List (Addr × Obj)} {σ : St} {H : Hp} {s : Shared} {a : Addr} {kvs : List (Key × V)} (I : Inv X pins σ H s) (h : H a = some (.dK kvs)) : ∃ o, s.heap.get? a = some o ∧ o.cls = .type "dict" := by
  obtain ⟨_, _, vs, _, dd⟩ := I.hok a _ h
  obtain ⟨o, ho, hc⟩ := dd.typeIs
  exact ⟨o, ho, hc⟩
theorem call_isi_int : CallR X (.builtin "isinstance") (fun xs H Q => ∃ x b, xs = [x, .ty "int"] ∧ TyV X.K "int" x H b ∧ Q (.bl b) H) := by
  intro pins s σ H xs us Q I r h
  obtain ⟨x, b, rfl, hx, q⟩ := h
  obtain ⟨u, w', rfl, rx, ry⟩ := vals2 r
  cases ry
  cases x with
  | non => cases rx; cases hx; exact isi_none (by decide +kernel) F.isi_meta_int F.sub_NoneType_int ⟨.bl _, H, I.tok _, rfl, q⟩
  | bl k => cases rx; cases hx; exact IsiPair.bool_int ⟨.bl _, H, I, rfl, q⟩
  | int i => obtain ⟨t, rfl⟩ := rx; cases hx; exact IsiPair.int_int ⟨.bl _, H, I, rfl, q⟩
  | str i => obtain ⟨t, rfl⟩ := rx; cases hx; exact IsiPair.str_int ⟨.bl _, H, I.tok _, rfl, q⟩
  | ref a =>
    cases rx
    rcases hx with ⟨xs, hx, rfl⟩ | ⟨xs, hx, rfl⟩ | ⟨xs, hx, rfl⟩
    · obtain ⟨o, ho, hc⟩ := I.lcls hx; exact IsiPair.list_int ho hc ⟨.bl _, H, I.tok _, rfl, q⟩
    · obtain ⟨o, ho, hc⟩ := I.tcls hx; exact IsiPair.tuple_int ho hc ⟨.bl _, H, I.tok _, rfl, q⟩
    · obtain ⟨o, ho, hc⟩ := I.dcls hx; exact IsiPair.dict_int ho hc ⟨.bl _, H, I.tok _, rfl, q⟩
  | _ => exact False.elim hx
theorem call_isi_bool : CallR X (.builtin "isinstance") (fun xs H Q => ∃ x b, xs = [x, .ty "bool"] ∧ TyV X.K "bool" x H b ∧ Q (.bl b) H) := by
  intro pins s σ H xs us Q I r h
  obtain ⟨x, b, rfl, hx, q⟩ := h
  obtain ⟨u, w', rfl, rx, ry⟩ := vals2 r
  cases ry
  cases x with
  | non => cases rx; cases hx; exact isi_none (by decide +kernel) F.isi_meta_bool F.sub_NoneType_bool ⟨.bl _, H, I.tok _, rfl, q⟩
  | bl k => cases rx; cases hx; exact IsiPair.bool_bool ⟨.bl _, H, I, rfl, q⟩
  | int i => obtain ⟨t, rfl⟩ := rx; cases hx; exact IsiPair.int_bool ⟨.bl _, H, I.tok _, rfl, q⟩
  | str i => obtain ⟨t, rfl⟩ := rx; cases hx; exact IsiPair.str_bool ⟨.bl _, H, I.tok _, rfl, q⟩
  | ref a =>
    cases rx
    rcases hx with ⟨xs, hx, rfl⟩ | ⟨xs, hx, rfl⟩ | ⟨xs, hx, rfl⟩
    · obtain ⟨o, ho, hc⟩ := I.lcls hx; exact IsiPair.list_bool ho hc ⟨.bl _, H, I.tok _, rfl, q⟩
    · obtain ⟨o, ho, hc⟩ := I.tcls hx; exact IsiPair.tuple_bool ho hc ⟨.bl _, H, I.tok _, rfl, q⟩
    · obtain ⟨o, ho, hc⟩ := I.dcls hx; exact IsiPair.dict_bool ho hc ⟨.bl _, H, I.tok _, rfl, q⟩
  | _ => exact False.elim hx
theorem call_isi_str : CallR X (.builtin "isinstance") (fun xs H Q => ∃ x b, xs = [x, .ty "str"] ∧ TyV X.K "str" x H b ∧ Q (.bl b) H) := by
  intro pins s σ H xs us Q I r h
  obtain ⟨x, b, rfl, hx, q⟩ := h
  obtain ⟨u, w', rfl, rx, ry⟩ := vals2 r
  cases ry
  cases x with
  | non => cases rx; cases hx; exact isi_none (by decide +kernel) F.isi_meta_str F.sub_NoneType_str ⟨.bl _, H, I.tok _, rfl, q⟩
  | bl k => cases rx; cases hx; exact IsiPair.bool_str ⟨.bl _, H, I.tok _, rfl, q⟩
  | int i => obtain ⟨t, rfl⟩ := rx; cases hx; exact IsiPair.int_str ⟨.bl _, H, I.tok _, rfl, q⟩
  | str i => obtain ⟨t, rfl⟩ := rx; cases hx; exact IsiPair.str_str ⟨.bl _, H, I, rfl, q⟩
  | ref a =>
    cases rx
    rcases hx with ⟨xs, hx, rfl⟩ | ⟨xs, hx, rfl⟩ | ⟨xs, hx, rfl⟩
    · obtain ⟨o, ho, hc⟩ := I.lcls hx; exact IsiPair.list_str ho hc ⟨.bl _, H, I.tok _, rfl, q⟩
    · obtain ⟨o, ho, hc⟩ := I.tcls hx; exact IsiPair.tuple_str ho hc ⟨.bl _, H, I.tok _, rfl, q⟩
    · obtain ⟨o, ho, hc⟩ := I.dcls hx; exact IsiPair.dict_str ho hc ⟨.bl _, H, I.tok _, rfl, q⟩
  | _ => exact False.elim hx
theorem call_isi_list : CallR X (.builtin "isinstance") (fun xs H Q => ∃ x b, xs = [x, .ty "list"] ∧ TyV X.K "list" x H b ∧ Q (.bl b) H) := by
  intro pins s σ H xs us Q I r h
  obtain ⟨x, b, rfl, hx, q⟩ := h
  obtain ⟨u, w', rfl, rx, ry⟩ := vals2 r
  cases ry
  cases x with
  | non => cases rx; cases hx; exact isi_none (by decide +kernel) F.isi_meta_list F.sub_NoneType_list ⟨.bl _, H, I.tok _, rfl, q⟩
  | bl k => cases rx; cases hx; exact IsiPair.bool_list ⟨.bl _, H, I.tok _, rfl, q⟩
  | int i => obtain ⟨t, rfl⟩ := rx; cases hx; exact IsiPair.int_list ⟨.bl _, H, I.tok _, rfl, q⟩
  | str i => obtain ⟨t, rfl⟩ := rx; cases hx; exact IsiPair.str_list ⟨.bl _, H, I.tok _, rfl, q⟩
  | ref a =>
    cases rx
    rcases hx with ⟨xs, hx, rfl⟩ | ⟨xs, hx, rfl⟩ | ⟨xs, hx, rfl⟩
    · obtain ⟨o, ho, hc⟩ := I.lcls hx; exact IsiPair.list_list ho hc ⟨.bl _, H, I, rfl, q⟩
    · obtain ⟨o, ho, hc⟩ := I.tcls hx; exact IsiPair.tuple_list ho hc ⟨.bl _, H, I.tok _, rfl, q⟩
    · obtain ⟨o, ho, hc⟩ := I.dcls hx; exact IsiPair.dict_list ho hc ⟨.bl _, H, I.tok _, rfl, q⟩
  | _ => exact False.elim hx
theorem call_isi_tuple : CallR X (.builtin "isinstance") (fun xs H Q => ∃ x b, xs = [x, .ty "tuple"] ∧ TyV X.K "tuple" x H b ∧ Q (.bl b) H) := by
  intro pins s σ H xs us Q I r h
  obtain ⟨x, b, rfl, hx, q⟩ := h
  obtain ⟨u, w', rfl, rx, ry⟩ := vals2 r
  cases ry
  cases x with
  | non => cases rx; cases hx; exact isi_none (by decide +kernel) F.isi_meta_tuple F.sub_NoneType_tuple ⟨.bl _, H, I.tok _, rfl, q⟩
  | bl k => cases rx; cases hx; exact IsiPair.bool_tuple ⟨.bl _, H, I.tok _, rfl, q⟩
  | int i => obtain ⟨t, rfl⟩ := rx; cases hx; exact IsiPair.int_tuple ⟨.bl _, H, I.tok _, rfl, q⟩
  | str i => obtain ⟨t, rfl⟩ := rx; cases hx; exact IsiPair.str_tuple ⟨.bl _, H, I.tok _, rfl, q⟩
  | ref a =>
    cases rx
    rcases hx with ⟨xs, hx, rfl⟩ | ⟨xs, hx, rfl⟩ | ⟨xs, hx, rfl⟩
    · obtain ⟨o, ho, hc⟩ := I.lcls hx; exact IsiPair.list_tuple ho hc ⟨.bl _, H, I.tok _, rfl, q⟩
    · obtain ⟨o, ho, hc⟩ := I.tcls hx; exact IsiPair.tuple_tuple ho hc ⟨.bl _, H, I, rfl, q⟩
    · obtain ⟨o, ho, hc⟩ := I.dcls hx; exact IsiPair.dict_tuple ho hc ⟨.bl _, H, I.tok _, rfl, q⟩
  | _ => exact False.elim hx
theorem call_isi_dict : CallR X (.builtin "isinstance") (fun xs H Q => ∃ x b, xs = [x, .ty "dict"] ∧ TyV X.K "dict" x H b ∧ Q (.bl b) H) := by
  intro pins s σ H xs us Q I r h
  obtain ⟨x, b, rfl, hx, q⟩ := h
  obtain ⟨u, w', rfl, rx, ry⟩ := vals2 r
  cases ry
  cases x with
  | non => cases rx; cases hx; exact isi_none (by decide +kernel) F.isi_meta_dict F.sub_NoneType_dict ⟨.bl _, H, I.tok _, rfl, q⟩
  | bl k => cases rx; cases hx; exact IsiPair.bool_dict ⟨.bl _, H, I.tok _, rfl, q⟩
  | int i => obtain ⟨t, rfl⟩ := rx; cases hx; exact IsiPair.int_dict ⟨.bl _, H, I.tok _, rfl, q⟩
  | str i => obtain ⟨t, rfl⟩ := rx; cases hx; exact IsiPair.str_dict ⟨.bl _, H, I.tok _, rfl, q⟩
  | ref a =>
    cases rx
    rcases hx with ⟨xs, hx, rfl⟩ | ⟨xs, hx, rfl⟩ | ⟨xs, hx, rfl⟩
    · obtain ⟨o, ho, hc⟩ := I.lcls hx; exact IsiPair.list_dict ho hc ⟨.bl _, H, I.tok _, rfl, q⟩
    · obtain ⟨o, ho, hc⟩ := I.tcls hx; exact IsiPair.tuple_dict ho hc ⟨.bl _, H, I.tok _, rfl, q⟩
    · obtain ⟨o, ho, hc⟩ := I.dcls hx; exact IsiPair.dict_dict ho hc ⟨.bl _, H, I, rfl, q⟩
  | _ => exact False.elim hx
/-- the tuple (list, tuple), known to the object -/
def ltObj : Obj := { cls := .type "tuple", data := .seq [Value.type "list", Value.type "tuple"].toArray }
def ltO : HO := .frz ltObj (.tup [.ty "list", .ty "tuple"])
def LtV (K : PySem.W.Frag) (x : V) (H : Hp) (b : Bool) : Prop := match x with
  | .non => b = false
  | .bl _ => b = false
  | .int _ => b = false
  | .str _ => b = false
  | .ref a => (∃ xs, SqL K H a xs ∧ b = true) ∨ (∃ xs, SqT K H a xs ∧ b = true) ∨ (∃ kvs, H a = some (.dK kvs) ∧ b = false)
  | _ => False
theorem pe_lt {l t : Expr} {k : Nat} {pos : Pos} (hl : PE X l (tC (.ty "list"))) (ht : PE X t (tC (.ty "tuple"))) (h1 : starEach [l, t] X.env = (false, eval l X.env) :: starEach [t] X.env := by rfl) (h2 : starEach [t] X.env = (false, eval t X.env) :: starEach [] X.env := by rfl) :
    PE X (.Tuple [l, t] k pos) (fun _ H Q => ∀ p, H p = none → Q (.ref p) (upd H p ltO)) := by
  intro pins s σ H Q I hq
  refine wpAny_Tuple_spliced (thn ((pa_cons hl (pa_cons ht pa_nil h2) h1) pos pins s σ H (fun vs H1 => vs = [.ty "list", .ty "tuple"] ∧ H1 = H) I ⟨rfl, rfl⟩) fun us s1 ⟨xs, H1, I1, r, e1, e2⟩ => ?_)
  subst e1 e2
  obtain ⟨u, w', rfl, rx, ry⟩ := vals2 r
  cases rx
  cases ry
  refine ⟨by show 2 ≤ sizeLine; decide, ?_⟩
  refine ⟨.ref s1.heap.objs.size, _, I1.laid (t' := s1.toks) (o := ltO) (fun b ob q => Heap.get?_push_of_some _ q) (Nat.le_refl _) ?_, rfl, hq _ (I1.hok.fresh (Nat.le_refl _))⟩
  exact ⟨Heap.get?_push_size _ rfl, by show 2 ≤ sizeLine; decide, [Value.type "list", Value.type "tuple"], .cons rfl (.cons rfl .nil), IsTup.new _ _⟩
theorem call_isi_lt : CallR X (.builtin "isinstance") (fun xs H Q => ∃ x t b, xs = [x, .ref t] ∧ H t = some ltO ∧ LtV X.K x H b ∧ Q (.bl b) H) := by
  intro pins s σ H xs us Q I r h
  obtain ⟨x, t, b, rfl, hH, hx, q⟩ := h
  obtain ⟨u, w', rfl, rx, ry⟩ := vals2 r
  cases ry
  have ht : s.heap.get? t = some ltObj := (I.hok t _ hH).1
  cases x with
  | non =>
    cases rx; cases hx
    exact IsiPair.tupleOf (Tx := "NoneType") (cs := [.type "list", .type "tuple"]) (vs := [false, false]) ⟨Answers.of_false_none (by decide +kernel) F.isi_meta_list F.sub_NoneType_list, Answers.of_false_none (by decide +kernel) F.isi_meta_tuple F.sub_NoneType_tuple, trivial⟩ rfl ht fun tk => ⟨.bl _, H, I.tok _, rfl, q⟩
  | bl k =>
    cases rx; cases hx
    exact IsiPair.tupleOf (Tx := "bool") (cs := [.type "list", .type "tuple"]) (vs := [false, false]) ⟨Answers.of_false_bool (by decide +kernel) F.isi_meta_list F.sub_bool_list, Answers.of_false_bool (by decide +kernel) F.isi_meta_tuple F.sub_bool_tuple, trivial⟩ rfl ht fun tk => ⟨.bl _, H, I.tok _, rfl, q⟩
  | int i =>
    obtain ⟨t', rfl⟩ := rx; cases hx
    exact IsiPair.tupleOf (Tx := "int") (cs := [.type "list", .type "tuple"]) (vs := [false, false]) ⟨Answers.of_false_int (by decide +kernel) F.isi_meta_list F.sub_int_list, Answers.of_false_int (by decide +kernel) F.isi_meta_tuple F.sub_int_tuple, trivial⟩ (typeIs_int _ _ _) ht fun tk => ⟨.bl _, H, I.tok _, rfl, q⟩
  | str i =>
    obtain ⟨t', rfl⟩ := rx; cases hx
    exact IsiPair.tupleOf (Tx := "str") (cs := [.type "list", .type "tuple"]) (vs := [false, false]) ⟨Answers.of_false_str (by decide +kernel) F.isi_meta_list F.sub_str_list, Answers.of_false_str (by decide +kernel) F.isi_meta_tuple F.sub_str_tuple, trivial⟩ (typeIs_str _ _ _) ht fun tk => ⟨.bl _, H, I.tok _, rfl, q⟩
  | ref a =>
    cases rx
    rcases hx with ⟨xs, hx, rfl⟩ | ⟨xs, hx, rfl⟩ | ⟨xs, hx, rfl⟩
    · obtain ⟨o, ho, hc⟩ := I.lcls hx
      exact IsiPair.tupleOf (Tx := "list") (cs := [.type "list", .type "tuple"]) (vs := [true, false]) ⟨Answers.of_true F.isi_meta_list F.sub_list_list, Answers.of_false_list (by decide +kernel) F.isi_meta_tuple F.sub_list_tuple, trivial⟩ ⟨o, ho, hc⟩ ht fun tk => ⟨.bl _, H, I.tok _, rfl, q⟩
    · obtain ⟨o, ho, hc⟩ := I.tcls hx
      exact IsiPair.tupleOf (Tx := "tuple") (cs := [.type "list", .type "tuple"]) (vs := [false, true]) ⟨Answers.of_false_tuple (by decide +kernel) F.isi_meta_list F.sub_tuple_list, Answers.of_true F.isi_meta_tuple F.sub_tuple_tuple, trivial⟩ ⟨o, ho, hc⟩ ht fun tk => ⟨.bl _, H, I.tok _, rfl, q⟩
    · obtain ⟨o, ho, hc⟩ := I.dcls hx
      exact IsiPair.tupleOf (Tx := "dict") (cs := [.type "list", .type "tuple"]) (vs := [false, false]) ⟨Answers.of_false_dict (by decide +kernel) F.isi_meta_list F.sub_dict_list, Answers.of_false_dict (by decide +kernel) F.isi_meta_tuple F.sub_dict_tuple, trivial⟩ ⟨o, ho, hc⟩ ht fun tk => ⟨.bl _, H, I.tok _, rfl, q⟩
  | _ => exact False.elim hx

/-! ### sum, all, any -/
theorem call_sumL (hc : X.calm = true) : CallR X (.builtin "sum") (fun xs H Q => ∃ (p : Addr) (ns : List Int), xs = [.ref p] ∧ SqL X.K H p (ns.map V.int) ∧ Q (.int ns.sum) H) := by
  intro pins s σ H xs us Q I r h
  obtain ⟨p, ns, rfl, hq, q⟩ := h
  obtain ⟨u, rfl, rx⟩ := vals1 r
  cases rx
  obtain ⟨its, rv, pl, hz⟩ := I.list hq
  have hi : IntsAre its ns := intsAre_of rv
  have hall := hi.allInts
  have e0 := hi.numsOf
  obtain ⟨xs, ex⟩ := hall.items
  have e1 : numsOf (intItems xs).toList = ns := by rw [← ex]; exact e0
  rw [nums_intItems] at e1
  have hl := pl.isList
  rw [ex] at hl
  refine sum_intListG (I.ok.hd hc) hl fun h' tk t' hk => ⟨.int ns.sum, H, I.kept hk, ⟨t', ?_⟩, q⟩
  rw [preSum_eq, List.take_of_length_le (by simp), e1]
theorem truth_bools {prog : Program} {w : World} {A : Around} {bs : List Bool} {its : List Value} (rv : Vals (bs.map V.bl) its) : TruthOf prog w A (fun i v => its.toArray[i]? = some v) fun i => bs.getD i false := by
  intro i v s Q E hP hQ
  have hi : its[i]? = some v := by simpa using hP
  have hl := rv.length
  rw [List.length_map] at hl
  have hlt : i < bs.length := by rw [hl]; exact (List.getElem?_eq_some_iff.mp hi).1
  obtain ⟨u, hu, ru⟩ := rv.get (i := i) (x := V.bl (bs.getD i false)) (by rw [List.getElem?_map, List.getD_eq_getElem?_getD, List.getElem?_eq_getElem hlt]; rfl)
  rw [hi] at hu
  cases hu
  cases ru
  exact wpAny_truthy_bool hQ
theorem range_all (bs : List Bool) : (List.range bs.length).all (fun i => bs.getD i false) = bs.all id := by
  induction bs with
  | nil => rfl
  | cons b r ih =>
    rw [List.length_cons, List.range_succ_eq_map, List.all_cons, List.all_cons, List.all_map]
    rw [← ih]
    rfl
theorem call_allL (hc : X.calm = true) : CallR X (.builtin "all") (fun xs H Q => ∃ (p : Addr) (bs : List Bool), xs = [.ref p] ∧ SqL X.K H p (bs.map V.bl) ∧ Q (.bl (bs.all id)) H) := by
  intro pins s σ H xs us Q I r h
  obtain ⟨p, bs, rfl, hq, q⟩ := h
  obtain ⟨u, rfl, rx⟩ := vals1 r
  cases rx
  obtain ⟨its, rv, pl, hz⟩ := I.list hq
  have hlt : p < s.heap.objs.size := by obtain ⟨_, e, _⟩ := pl.isList; exact Heap.lt_size e
  have hll := rv.length
  rw [List.length_map] at hll
  refine call_all_walk (wpAny_pyIter_list pl.isList ?_)
  refine ⟨s.heap.objs.size, _, _, _, _, _, fun i => bs.getD i false, rfl, Walks.list (A := X.A.in1) (I.ok.hd hc) _ p (Nat.ne_of_lt hlt) its.toArray, ⟨⟨_, Heap.get?_push_size _ rfl, rfl, rfl⟩, pl.isList.at fun o e => Heap.get?_push_of_some _ e⟩, truth_bools rv, fun h' tk hk => ?_⟩
  refine ⟨.bl (bs.all id), H, I.kept fun b o e => hk b o (by simpa using Nat.ne_of_lt (Heap.lt_size e)) (Heap.get?_push_of_some _ e), ?_, q⟩
  show Value.bool _ = Value.bool _
  rw [List.size_toArray, ← hll, range_all]
/-! ### == and != of lists and tuples of flat items -/
def eqVs : List V → List V → Bool
  | [], [] => true
  | x :: xs, y :: ys => eqV x y && eqVs xs ys
  | _, _ => false
theorem eqVs_len : ∀ {xs ys : List V}, xs.length ≠ ys.length → eqVs xs ys = false
  | [], [], h => absurd rfl h
  | [], _ :: _, _ => rfl
  | _ :: _, [], _ => rfl
  | x :: xs, y :: ys, h => by
    have := eqVs_len (xs := xs) (ys := ys) (fun e => h (by simp [e]))
    simp [eqVs, this]
theorem eqVs_range : ∀ {xs ys : List V}, xs.length = ys.length → (List.range xs.length).all (fun i => eqV (xs.getD i .non) (ys.getD i .non)) = eqVs xs ys
  | [], [], _ => rfl
  | [], _ :: _, h => by simp at h
  | _ :: _, [], h => by simp at h
  | x :: xs, y :: ys, h => by
    have ih := eqVs_range (xs := xs) (ys := ys) (by simpa using h)
    rw [List.length_cons, List.range_succ_eq_map, List.all_cons, List.all_map]
    show (eqV x y && (List.range xs.length).all fun i => eqV (xs.getD i .non) (ys.getD i .non)) = (eqV x y && eqVs xs ys)
    rw [ih]
theorem vals_at {A : Around} {s : Shared} {xs ys : List V} {us ws : List Value} (r : Vals xs us) (r' : Vals ys ws) (fx : xs.all flatV = true) (fy : ys.all flatV = true) (j : Nat) (h1 : j < us.toArray.size) (h2 : j < ws.toArray.size) :
    SeqAt.EqAt A s us.toArray[j] ws.toArray[j] (eqV (xs.getD j .non) (ys.getD j .non)) := by
  have l1 := r.length
  have l2 := r'.length
  have k1 : j < xs.length := by rw [l1]; simpa using h1
  have k2 : j < ys.length := by rw [l2]; simpa using h2
  obtain ⟨u, hu, ru⟩ := r.get (i := j) (x := xs.getD j .non) (by rw [List.getD_eq_getElem?_getD, List.getElem?_eq_getElem k1]; rfl)
  obtain ⟨w', hw, rw'⟩ := r'.get (i := j) (x := ys.getD j .non) (by rw [List.getD_eq_getElem?_getD, List.getElem?_eq_getElem k2]; rfl)
  have e1 : us.toArray[j] = u := by
    obtain ⟨_, e⟩ := List.getElem?_eq_some_iff.mp hu
    simpa using e
  have e2 : ws.toArray[j] = w' := by
    obtain ⟨_, e⟩ := List.getElem?_eq_some_iff.mp hw
    simpa using e
  rw [e1, e2]
  refine eqAt_V ru rw' (List.all_eq_true.mp fx _ ?_) (List.all_eq_true.mp fy _ ?_)
  · rw [List.getD_eq_getElem?_getD, List.getElem?_eq_getElem k1]; exact List.getElem_mem k1
  · rw [List.getD_eq_getElem?_getD, List.getElem?_eq_getElem k2]; exact List.getElem_mem k2
def rEqL (K : PySem.W.Frag) (neg : Bool) : R2 := fun x y H Q => ∃ p q xs ys, x = .ref p ∧ y = .ref q ∧ SqL K H p xs ∧ SqL K H q ys ∧ xs.all flatV = true ∧ ys.all flatV = true ∧ Q (.bl (if neg then !eqVs xs ys else eqVs xs ys)) H
theorem op_eqL (hu : X.A.units < cLine) : OpR X (compareOp .Eq) (rEqL X.K false) := by
  intro pins s σ H x y v u Q I rx ry h
  obtain ⟨p, q, xs, ys, rfl, rfl, hx, hy, fx, fy, k⟩ := h
  cases rx
  cases ry
  obtain ⟨us, r1, p1, z1⟩ := I.list hx
  obtain ⟨ws, r2, p2, z2⟩ := I.list hy
  by_cases hl : xs.length = ys.length
  · refine SeqAt.eq_listAt p1.isList p2.isList (by simp [← r1.length, ← r2.length, hl]) hu (fun j h1 h2 => vals_at r1 r2 fx fy j h1 h2) ⟨.bl (eqVs xs ys), H, I, ?_, k⟩
    show Value.bool _ = Value.bool _
    rw [List.size_toArray, ← r1.length, eqVs_range hl]
  · refine SeqAt.eq_list_lengthsAt p1.isList p2.isList (by simp [← r1.length, ← r2.length, hl]) hu ⟨.bl (eqVs xs ys), H, I, ?_, k⟩
    rw [eqVs_len hl]; rfl
theorem op_neL (hu : X.A.units < cLine) : OpR X (compareOp .NotEq) (rEqL X.K true) := by
  intro pins s σ H x y v u Q I rx ry h
  obtain ⟨p, q, xs, ys, rfl, rfl, hx, hy, fx, fy, k⟩ := h
  cases rx
  cases ry
  obtain ⟨us, r1, p1, z1⟩ := I.list hx
  obtain ⟨ws, r2, p2, z2⟩ := I.list hy
  by_cases hl : xs.length = ys.length
  · refine SeqAt.RcNeAt.lists p1.isList p2.isList (by simp [← r1.length, ← r2.length, hl]) hu (fun j h1 h2 => vals_at r1 r2 fx fy j h1 h2) _ _ _ _ ⟨.bl (!eqVs xs ys), H, I, ?_, k⟩
    show Value.bool _ = Value.bool _
    rw [List.size_toArray, ← r1.length, eqVs_range hl]
  · refine SeqAt.RcNeAt.lists_lengths p1.isList p2.isList (by simp [← r1.length, ← r2.length, hl]) hu _ _ _ _ ⟨.bl (!eqVs xs ys), H, I, ?_, k⟩
    rw [eqVs_len hl]; rfl

/-! ### xs[::-1] -/
theorem sliceRev (n : Nat) : sliceRange (sliceBounds none none (some (-1)) n).1 (sliceBounds none none (some (-1)) n).2.1 (sliceBounds none none (some (-1)) n).2.2 = (List.range n).map fun k => n - 1 - k := by
  have e : sliceBounds none none (some (-1)) n = ((n : Int) - 1, -1, -1) := by simp [sliceBounds]
  rw [e]
  unfold sliceRange
  simp only [show ¬ ((-1 : Int) > 0) by decide, if_false]
  by_cases hn : n = 0
  · subst hn; simp
  · have h1 : (n : Int) - 1 > -1 := by omega
    rw [if_pos h1]
    have h2 : (((n : Int) - 1 - -1 - -1 - 1) / (- -1)).toNat = n := by
      rw [show (n : Int) - 1 - -1 - -1 - 1 = n by omega, show (- -1 : Int) = 1 by decide, Int.ediv_one]
      exact Int.toNat_natCast n
    rw [h2]
    refine List.map_congr_left fun k hk => ?_
    have := List.mem_range.mp hk
    omega
theorem fm_congr {α β : Type} {f g : α → Option β} : ∀ {l : List α}, (∀ x ∈ l, f x = g x) → l.filterMap f = l.filterMap g
  | [], _ => rfl
  | x :: r, h => by rw [List.filterMap_cons, List.filterMap_cons, h x List.mem_cons_self, fm_congr fun y hy => h y (List.mem_cons_of_mem _ hy)]
theorem pick_rev' {α : Type} : ∀ zs : List α, (List.range zs.length).filterMap (fun k => zs.reverse[zs.length - 1 - k]?) = zs
  | [] => rfl
  | z :: r => by
    rw [List.length_cons, List.range_succ_eq_map, List.filterMap_cons, List.filterMap_map]
    have h0 : (z :: r).reverse[r.length + 1 - 1 - 0]? = some z := by simp
    rw [h0]
    have h1 : List.filterMap ((fun k => (z :: r).reverse[r.length + 1 - 1 - k]?) ∘ Nat.succ) (List.range r.length) = List.filterMap (fun k => r.reverse[r.length - 1 - k]?) (List.range r.length) := by
      apply fm_congr
      intro k hk
      have hk := List.mem_range.mp hk
      show (z :: r).reverse[r.length + 1 - 1 - (k + 1)]? = r.reverse[r.length - 1 - k]?
      rw [List.reverse_cons, List.getElem?_append_left (by simp; omega)]
      rw [show r.length + 1 - 1 - (k + 1) = r.length - 1 - k by omega]
    rw [h1, pick_rev' r]
theorem pick_rev {α : Type} (xs : List α) : ((List.range xs.length).map fun k => xs.length - 1 - k).filterMap (fun i => xs[i]?) = xs.reverse := by
  have := pick_rev' xs.reverse
  rw [List.length_reverse, List.reverse_reverse] at this
  rw [List.filterMap_map]
  exact this
theorem slicePick_rev (its : List Value) : slicePick its.toArray none none (some (-1)) = its.reverse.toArray := by
  unfold slicePick
  rw [List.size_toArray, sliceRev]
  congr 1
  have := pick_rev its
  simpa using this
def tRev (K : PySem.W.Frag) (te tst : TE) : TE := fun σ H Q => te σ H fun x H1 => tst σ H1 fun y H2 => y = .int (-1) ∧ ∃ p xs, x = .ref p ∧ SqL K H2 p xs ∧ ∀ l, H2 l = none → Q (.ref l) (upd H2 l (.lst xs.reverse))
theorem pe_rev {e st : Expr} {te tst : TE} {pos p2 : Pos} (he : PE X e te) (hst : PE X st tst) (ht : ∀ o r, letTemporaryGo e o r = pure () := by intro _ _; rfl) : PE X (.Subscript e (.Slice none none (some st) p2) pos) (tRev X.K te tst) := by
  intro pins s σ H Q I h
  refine wpAny_Subscript_Slice_step (T := "list") slot_list_getitem.lookup (thn (he pins s σ H _ I h) fun v s1 ⟨x, H1, I1, r1, q1⟩ => ?_) ht
  refine wpAny_Slice ?_
  rw [evalPart_none, evalPart_some]
  refine wpAny_pure (wpAny_pure (thn (hst pins s1 σ H1 _ I1 q1) fun vs s2 ⟨y, H2, I2, r2, q2⟩ => ?_))
  obtain ⟨rfl, p, xs, rfl, hx, q⟩ := q2
  obtain ⟨t, rfl⟩ := r2
  cases r1
  have I3 : Inv X pins σ H2 { s2 with heap := s2.heap.push { cls := .type "slice", data := .fields #[.none, .none, .int (-1) t] } } := I2.kept (t' := s2.toks) fun b ob q => Heap.get?_push_of_some _ q
  obtain ⟨its, rv, pl, hz⟩ := I3.list hx
  refine ⟨pl.isList.typeIs, ?_⟩
  refine wpAny_getItem_list_slice pl.isList (Heap.IsSliceOf.new ..) .none .none (.int (-1) t) (by decide) ?_ (by rw [List.size_toArray, ← rv.length]; exact hz)
  rw [slicePick_rev]
  refine ⟨.ref _, _, I3.laid (t' := s2.toks) (o := .lst xs.reverse) (fun b ob q => Heap.get?_push_of_some _ q) (Nat.le_refl _) ?_, rfl, q _ (I3.hok.fresh (Nat.le_refl _))⟩
  exact ⟨by rw [List.length_reverse]; exact hz, _, 0, rv.reverse, Heap.get?_push_size _ rfl⟩

/-! ### is True, is not True; // by greater numbers -/
theorem op_isnotB : OpR X (compareOp .IsNot) (fun x y H Q => ∃ b, y = .bl b ∧ Q (.bl (!decide (x = .bl b))) H) := by
  intro pins s σ H x y v u Q I rx ry h
  obtain ⟨b, rfl, q⟩ := h
  cases ry
  cases x with
  | non => cases rx; exact wpAny_isNot_plain rfl ⟨.bl _, H, I, (by simp [RelV]), q⟩
  | bl k => cases rx; exact wpAny_isNot_plain rfl ⟨.bl _, H, I, (by cases k <;> cases b <;> rfl), q⟩
  | int i => obtain ⟨t, rfl⟩ := rx; exact wpAny_isNot_plain rfl ⟨.bl _, H, I, (by simp [RelV]), q⟩
  | str i => obtain ⟨t, rfl⟩ := rx; exact wpAny_isNot_plain rfl ⟨.bl _, H, I, (by simp [RelV]), q⟩
  | byt i => obtain ⟨t, rfl⟩ := rx; exact wpAny_isNot_plain rfl ⟨.bl _, H, I, (by simp [RelV]), q⟩
  | flt i => obtain ⟨t, rfl⟩ := rx; exact wpAny_isNot_plain rfl ⟨.bl _, H, I, (by simp [RelV]), q⟩
  | ref i => cases rx; exact wpAny_isNot_plain rfl ⟨.bl _, H, I, (by simp [RelV]), q⟩
  | ty i => cases rx; exact wpAny_isNot_plain rfl ⟨.bl _, H, I, (by simp [RelV]), q⟩
/-- below 2 ^ 1024 -/
def BigOk (j : Int) : Prop := j.natAbs < 2 ^ 1024
theorem BigOk.log {j : Int} (h : BigOk j) : j.natAbs.log2 < 9000 := by
  by_cases h0 : j.natAbs = 0
  · rw [h0]; decide +kernel
  · have : j.natAbs.log2 < 1024 := (Nat.log2_lt h0).mpr h
    omega
theorem big {j : Int} (h1 : -(2 ^ 70) < j) (h2 : j < 2 ^ 70) : BigOk j := by
  have e : (2 : Int) ^ 70 = ((2 ^ 70 : Nat) : Int) := by decide +kernel
  rw [e] at h1 h2
  have h3 : j.natAbs < 2 ^ 70 := by omega
  exact Nat.lt_of_lt_of_le h3 (Nat.pow_le_pow_right (by decide) (by decide))
theorem op_mulB : OpR X (binaryOp .Mult) (rI (fun i j => BigOk i ∧ BigOk j) fun i j => .int (i * j)) := opI fun i j _ _ _ _ _ hc q => by
  have bits : ∀ {x : Int}, BigOk x → Builtin.Int.intBits x ≤ 2 ^ 20 := fun {x} h => by
    unfold Builtin.Int.intBits
    split
    · exact Nat.zero_le _
    · rename_i h0
      have h0' : x.natAbs ≠ 0 := fun z => h0 (by simpa using z)
      have : x.natAbs.log2 < 1024 := (Nat.log2_lt h0').mpr h
      omega
  exact mul_int q (.of_bits (bits hc.1) (bits hc.2))
theorem op_fdivL : OpR X (binaryOp .FloorDiv) (rI (fun _ j => 0 < j ∧ BigOk j) fun i j => .int (i / j)) := opI fun i j _ _ _ _ _ hc q => by
  have h1 : (0 : Int) < j := hc.1
  exact floordiv_int (by omega) (by rw [Int.fdiv_eq_ediv_of_nonneg i (by omega)]; exact q) (.inl (PyProof.noPylong_of_log2 hc.2.log))
end
end L2
/-! defs by their names, the deck that the laws draw from -/
namespace L2
open PySem PySem.Spec PyProof.Rows

def isStar : Expr → Bool
  | .Starred .. => true
  | _ => false
theorem star_cons {e : Expr} {rest : List Expr} {env : Env} (h : isStar e = false) : starEach (e :: rest) env = (false, eval e env) :: starEach rest env := by
  cases e <;> first | rfl | exact Bool.noConfusion h
/-- an argument list, one more ahead -/
theorem pa_c {X : Cx} {e : Expr} {es : List Expr} {te : TE} {t : TA} (ha : PE X e te) (hr : PA X es t) (h : isStar e = false := by rfl) : PA X (e :: es) (tCons te t) := pa_cons ha hr (star_cons h)
/-- a def of the text that keeps a promise, by its name -/
def Good (P : Program) (w : World) (K : PySem.W.Frag) (mg : Str → Option Value) (base : Heap) (k : Nat) (x : Str) (ps : List Str) (sp : Sp) : Prop :=
  ∃ (f : Addr) (fd : FuncData), FnOk P w K mg base CX0 k f fd ps sp ∧ Binds K fd ps [] ∧ mg x = some (.ref f) ∧ PySem.W.keepIn K (.ref f) = true
section
variable {X : Cx} {k : Nat} {x : Str} {ps : List Str} {sp : Sp} {e : Expr} {es : List Expr} {t : TA} {p pos : Pos}
theorem pe_fn (G : Good X.prog X.w X.K X.mg X.base k x ps sp) (hr : Room k X.A) (hg : Gl X x) (ha : PA X (e :: es) t) (hdb : (x == ("__debug__" : Str)) = false := by decide)
    (hst : isStar e = false := by rfl) (hpl : (backTo pos (starEach es X.env)).any (·.1) = false := by rfl) : PE X (.Call (.Name x p) (e :: es) [] pos) (tCall sp [] E0 t) := by
  obtain ⟨f, fd, F, b, m, kp⟩ := G
  exact pe_call F hr hg m kp b .nil pass0 ha hdb (star_cons hst) hpl
theorem pe_fn0 (G : Good X.prog X.w X.K X.mg X.base k x ps sp) (hr : Room k X.A) (hg : Gl X x) (hdb : (x == ("__debug__" : Str)) = false := by decide) : PE X (.Call (.Name x p) [] [] pos) (tCall sp [] E0 tNil) := by
  obtain ⟨f, fd, F, b, m, kp⟩ := G
  exact pe_call0 F hr hg m kp b .nil pass0 hdb
end
/-- a def as the top has made it -/
def Has (K : PySem.W.Frag) (mg : Str → Option Value) (x : Str) (st : Stmt) : Prop := ∃ (f : Addr) (fd : FuncData), Fun K x x st f fd ∧ mg x = some (.ref f)
theorem Has.good {P : Program} {w : World} {K : PySem.W.Frag} {mg : Str → Option Value} {base : Heap} {x : Str} {st : Stmt} {N ps : List Str} {k : Nat} {sp : Sp} (h : Has K mg x st) (S : FnScope N ps (defScope st))
    (hb : ∀ (kV doc pm : Value) (an : Option Addr) (cdv ct : Value) (us : List Value), us.length = ps.length → bindArgs (PySem.W.fnOf x x (defArgs st) (defBody st) (defScope st) .none kV doc pm an cdv ct) ⟨us, []⟩ = pure (ps.zip us))
    (len : ∀ vs H Q E, sp vs H Q E → vs.length = ps.length)
    (hbody : ∀ (f : Addr) (cdv : Value) (A : Around) (outer : List Env) (s : Shared) (H : Hp) (vs : List V) (Q : VK) (E : XK), Room k (A.deeper (envOfC x (defScope st) s.heap.objs.size f cdv)) → sp vs H Q E →
      ∃ t, PSs (cxOf CX0 P w K mg base N x (defScope st) f cdv A outer s H E).nox (defBody st) t ∧ t { nx := fun _ H' => Q .non H', rt := Q } (start N vs) H) : Good P w K mg base (k + 1) x ps sp := by
  obtain ⟨f, fd, F, m⟩ := h
  exact ⟨f, fd, F.ok S len fun cdv A outer s H vs Q E hr q => hbody f cdv A outer s H vs Q E hr q, F.binds hb, m, F.kp⟩
theorem has_mk {K : PySem.W.Frag} {h : Heap} {mg : Str → Option Value} {x : Str} {st : Stmt} {f : Addr} {oc : Value} {od an : Option Addr} {osl : Array (Option Value)} {kV doc pm cdv ct : Value} (X : K.In h) (G : h.Ns mainGlobals mg)
    (a : PySem.W.nsIn K mainGlobals x = some (some (.ref f))) (l : K.lookup f = some ⟨oc, od, .func (PySem.W.fnOf x x (defArgs st) (defBody st) (defScope st) .none kV doc pm an cdv ct), osl⟩)
    (c : PySem.W.codeIn K cdv x = true) (k : PySem.W.keepIn K (.ref f) = true) : Has K mg x st := ⟨f, _, fun_mk l c k, PySem.W.mg_of X G a⟩
/-- Python's own names are not the text's -/
structure Own (mg : Str → Option Value) : Prop where
  len : mg "len" = none
  range : mg "range" = none
  isinstance : mg "isinstance" = none
  int_ : mg "int" = none
  bool_ : mg "bool" = none
  str_ : mg "str" = none
  list_ : mg "list" = none
  tuple_ : mg "tuple" = none
  dict_ : mg "dict" = none
  sum : mg "sum" = none
  min : mg "min" = none
  max : mg "max" = none
  all : mg "all" = none
  any : mg "any" = none
  abs : mg "abs" = none
  zip : mg "zip" = none
  sorted : mg "sorted" = none
  set_ : mg "set" = none
  enumerate : mg "enumerate" = none
theorem own_mk {K : PySem.W.Frag} {h : Heap} {mg : Str → Option Value} (X : K.In h) (G : h.Ns mainGlobals mg) (z1 : PySem.W.nsIn K mainGlobals "len" = some none) (z2 : PySem.W.nsIn K mainGlobals "range" = some none)
    (z3 : PySem.W.nsIn K mainGlobals "isinstance" = some none) (z4 : PySem.W.nsIn K mainGlobals "int" = some none) (z5 : PySem.W.nsIn K mainGlobals "bool" = some none) (z6 : PySem.W.nsIn K mainGlobals "str" = some none)
    (z7 : PySem.W.nsIn K mainGlobals "list" = some none) (z8 : PySem.W.nsIn K mainGlobals "tuple" = some none) (z9 : PySem.W.nsIn K mainGlobals "dict" = some none) (z10 : PySem.W.nsIn K mainGlobals "sum" = some none)
    (z11 : PySem.W.nsIn K mainGlobals "min" = some none) (z12 : PySem.W.nsIn K mainGlobals "max" = some none) (z13 : PySem.W.nsIn K mainGlobals "all" = some none) (z14 : PySem.W.nsIn K mainGlobals "any" = some none)
    (z15 : PySem.W.nsIn K mainGlobals "abs" = some none) (z16 : PySem.W.nsIn K mainGlobals "zip" = some none) (z17 : PySem.W.nsIn K mainGlobals "sorted" = some none) (z18 : PySem.W.nsIn K mainGlobals "set" = some none)
    (z19 : PySem.W.nsIn K mainGlobals "enumerate" = some none) : Own mg :=
  ⟨PySem.W.mg_none_of X G z1, PySem.W.mg_none_of X G z2, PySem.W.mg_none_of X G z3, PySem.W.mg_none_of X G z4, PySem.W.mg_none_of X G z5, PySem.W.mg_none_of X G z6, PySem.W.mg_none_of X G z7, PySem.W.mg_none_of X G z8, PySem.W.mg_none_of X G z9, PySem.W.mg_none_of X G z10,
   PySem.W.mg_none_of X G z11, PySem.W.mg_none_of X G z12, PySem.W.mg_none_of X G z13, PySem.W.mg_none_of X G z14, PySem.W.mg_none_of X G z15, PySem.W.mg_none_of X G z16, PySem.W.mg_none_of X G z17, PySem.W.mg_none_of X G z18, PySem.W.mg_none_of X G z19⟩

theorem noIfT {σ : St} {H : Hp} {A B : Hp → Prop} (h : A H) : tNoIf σ H fun b H5 => if b = true then A H5 else B H5 := by
  show if true = true then A H else B H
  rw [if_pos rfl]
  exact h

/-! ### a deck at p, its cells at c -/
structure DeckAt (H : Hp) (p c : Addr) : Prop where
  ne : p ≠ c
  dk : ∃ S k : Int, H p = some (.lst [.ref c, .int S, .int k])
  cs : ∃ ns : List Int, H c = some (.lst (ns.map V.int)) ∧ ns.length ≤ 64
/-- all that stood but the deck stands -/
structure On (p c : Addr) (H H' : Hp) : Prop where
  d : DeckAt H' p c
  e : ∀ b o, H b = some o → b ≠ p → b ≠ c → H' b = some o
section
variable {p c a : Addr} {H H1 H2 : Hp} {o : HO}
theorem DeckAt.on (d : DeckAt H p c) : On p c H H := ⟨d, fun _ _ h _ _ => h⟩
theorem DeckAt.nep (d : DeckAt H p c) (h : H a = none) : a ≠ p := fun z => by
  obtain ⟨S, k, e⟩ := d.dk
  rw [z, e] at h; cases h
theorem DeckAt.nec (d : DeckAt H p c) (h : H a = none) : a ≠ c := fun z => by
  obtain ⟨ns, e, _⟩ := d.cs
  rw [z, e] at h; cases h
theorem DeckAt.alloc (d : DeckAt H p c) (h : H a = none) : DeckAt (upd H a o) p c := by
  obtain ⟨S, k, e⟩ := d.dk
  obtain ⟨ns, e', l⟩ := d.cs
  exact ⟨d.ne, ⟨S, k, by rw [upd_ne (d.nep h).symm]; exact e⟩, ns, by rw [upd_ne (d.nec h).symm]; exact e', l⟩
theorem On.trans (x : On p c H H1) (y : On p c H1 H2) : On p c H H2 := ⟨y.d, fun b o h hp hc => y.e b o (x.e b o h hp hc) hp hc⟩
theorem On.free (x : On p c H H1) (d : DeckAt H p c) (h : H1 a = none) : H a = none := by
  cases q : H a with
  | none => rfl
  | some u => rw [x.e a u q (x.d.nep h) (x.d.nec h)] at h; cases h
theorem On.alloc (x : On p c H H1) (h : H1 a = none) : On p c H (upd H1 a o) :=
  ⟨x.d.alloc h, fun b u q hp hc => by rw [upd_ne (ne_of_none (x.e b u q hp hc) h)]; exact x.e b u q hp hc⟩
/-- what is no list is not the deck's -/
theorem On.tup (x : On p c H H1) (d : DeckAt H p c) {t : Addr} {xs : List V} (h : H t = some (.tup xs)) : H1 t = some (.tup xs) := by
  obtain ⟨S, k, e⟩ := d.dk
  obtain ⟨ns, e', l⟩ := d.cs
  exact x.e t _ h (ne_of h e (by intro z; cases z)) (ne_of h e' (by intro z; cases z))
end
/-! ### promises of the laws' own defs -/
def spMixed : Sp := fun vs H Q _ => ∃ n k : Int, vs = [.int n, .int k] ∧ ∀ r : Int, Q (.int r) H
def spDeck (K : PySem.W.Frag) : Sp := fun vs H Q _ => ∃ (a : Addr) (ns : List Int), vs = [.ref a] ∧ SqL K H a (ns.map V.int) ∧ ∀ (p c : Addr) (H' : Hp), H p = none → H c = none → DeckAt H' p c → Same H H' → Q (.ref p) H'
def spTake : Sp := fun vs H Q _ => ∃ (p c : Addr) (m : Int), vs = [.ref p, .int m] ∧ DeckAt H p c ∧ 0 < m ∧ BigOk m ∧ ∀ (r : Int) (H' : Hp), 0 ≤ r → r < m → On p c H H' → Q (.int r) H'
/-- |n| < 10 ^ 60 -/
def spFar : Sp := fun vs H Q _ => ∃ (p c : Addr), vs = [.ref p] ∧ DeckAt H p c ∧ ∀ (r : Int) (H' : Hp), -(10 ^ 60) < r → r < 10 ^ 60 → On p c H H' → Q (.int r) H'
/-- a run as the laws draw it -/
structure RunD (lo hi st : Int) : Prop where
  lo1 : -(10 ^ 58) ≤ lo
  lo2 : lo ≤ 10 ^ 58
  ex : ∃ s n : Int, 1 ≤ s ∧ s ≤ 10 ^ 20 ∧ 0 ≤ n ∧ n < 10 ^ 18 ∧ hi = lo + s * n ∧ st = s * (if 1 < n then 1 else n)
def spRun : Sp := fun vs H Q _ => ∃ (p c : Addr), vs = [.ref p] ∧ DeckAt H p c ∧ ∀ (t : Addr) (lo hi st : Int) (H' : Hp), H t = none → H' t = some (.tup [.int lo, .int hi, .int st]) → RunD lo hi st → On p c H H' → Q (.ref t) H'
end L2
/-! tuples: + of any two, [::-1]; an empty dict -/
namespace L2
open PySem PySem.Spec PyProof.Rows
section
variable {X : Cx}
theorem SqT.same {K : PySem.W.Frag} {H H' : Hp} {a : Addr} {xs : List V} (e : Same H H') (h : SqT K H a xs) : SqT K H' a xs := by
  rcases h with (h | ⟨o, h⟩) | h
  · exact .inl (.inl (e _ _ h))
  · exact .inl (.inr ⟨o, e _ _ h⟩)
  · exact .inr h
theorem same_new {H : Hp} {a : Addr} {o : HO} (h : H a = none) : Same H (upd H a o) := fun b u q => by rw [upd_ne (ne_of_none q h)]; exact q
/-- t + u, any two -/
def rCatG (K : PySem.W.Frag) : R2 := fun x y H Q => ∃ a b xs ys, x = .ref a ∧ y = .ref b ∧ SqT K H a xs ∧ SqT K H b ys ∧ xs.length + ys.length ≤ sizeLine ∧ ∀ r H', SqT K H' r (xs ++ ys) → Same H H' → Q (.ref r) H'
def tRevT (K : PySem.W.Frag) (te tst : TE) : TE := fun σ H Q => te σ H fun x H1 => tst σ H1 fun y H2 => y = .int (-1) ∧ ∃ p xs, x = .ref p ∧ SqT K H2 p xs ∧ ∀ l, H2 l = none → Q (.ref l) (upd H2 l (.tup xs.reverse))
/-- constants, all at once -/
def litV : Expr → Option V
  | .Constant (.int i) _ _ => some (.int i)
  | .Constant (.bool b) _ _ => some (.bl b)
  | .Constant .none _ _ => some .non
  | .Constant (.str x) _ _ => some (.str x)
  | _ => none
def litsV : List Expr → Option (List V)
  | [] => some []
  | e :: es => match litV e, litsV es with
    | some v, some vs => some (v :: vs)
    | _, _ => none
theorem pe_lit {e : Expr} {v : V} (h : litV e = some v) : PE X e (tC v) := by
  unfold litV at h
  split at h
  · cases h; exact pe_int
  · cases h; exact pe_bl
  · cases h; exact pe_non
  · cases h; exact pe_str
  · cases h
theorem lit_star {e : Expr} {v : V} (h : litV e = some v) : isStar e = false := by
  cases e <;> first | rfl | (unfold litV at h; cases h)
theorem pa_lits0 : ∀ {es : List Expr} {vs : List V}, litsV es = some vs → PA X es (fun _ H Q => Q vs H)
  | [], vs, h => by
    have h : some [] = some vs := h
    cases h
    exact pa_nil
  | e :: es, vs, h => by
    unfold litsV at h
    split at h
    · rename_i v vs' h1 h2
      cases h
      intro pos pins s σ H Q I q
      exact pa_c (pe_lit h1) (pa_lits0 h2) (lit_star h1) pos pins s σ H Q I q
    · cases h
/-- constants and tuples of constants, the first n of a display -/
inductive DC where
  | v (v : V)
  | t (vs : List V)
def dcOf : Expr → Option DC
  | .Tuple es _ _ => (litsV es).map DC.t
  | .Constant c a b => (litV (.Constant c a b)).map DC.v
  | _ => none
def tDC : List DC → TA → TA
  | [], t => t
  | .v v :: r, t => tCons (tC v) (tDC r t)
  | .t vs :: r, t => tCons (tTup fun _ H Q => Q vs H) (tDC r t)
def dcsOf : Nat → List Expr → Option (List DC)
  | 0, _ => some []
  | _ + 1, [] => none
  | n + 1, e :: es => match dcOf e, dcsOf n es with
    | some d, some ds => some (d :: ds)
    | _, _ => none
/-- the items of a display, kept from the eyes of Lean's elaborator (PA would be run there) -/
structure QA (X : Cx) (es : List Expr) (t : TA) : Prop where
  p : PA X es t
theorem qa_nil : QA X [] tNil := ⟨pa_nil⟩
theorem qa_c {e : Expr} {es : List Expr} {te : TE} {t : TA} (ha : PE X e te) (hr : QA X es t) (h : isStar e = false := by rfl) : QA X (e :: es) (tCons te t) := ⟨pa_c ha hr.p h⟩
theorem qa_lits {es : List Expr} (vs : List V) (h : litsV es = some vs) : QA X es (fun _ H Q => Q vs H) := ⟨pa_lits0 h⟩
theorem pe_lstQ {es : List Expr} {t : TA} {pos : Pos} (h : QA X es t) : PE X (.List es pos) (tLst t) := pe_lst h.p
theorem pe_tupQ {es : List Expr} {t : TA} {k : Nat} {pos : Pos} (h : QA X es t) : PE X (.Tuple es k pos) (tTup t) := pe_tup h.p
/-- {} -/
theorem Inv.big {pins : List (Addr × Obj)} {σ : St} {H : Hp} {s : Shared} (I : Inv X pins σ H s) : sysModules < s.heap.objs.size := by
  have h : mainGlobals < s.heap.objs.size := (I.mod.glob.keeps I.bk).lt
  exact Nat.lt_trans (by decide) h
def tDNewK : TE := fun _ H Q => ∀ p, H p = none → Q (.ref p) (upd H p (.dK []))
end
end L2
/-! zip over two lists or tuples -/
namespace L2
open PySem PySem.Spec PyProof.Rows
section
variable {prog : Program} {w : World} {A : Around} {E : Value → Shared → Prop} {s : Shared}
/-- the next one of a tuple's iterator, asked as zip asks it -/
theorem nextT_item {j t : Addr} {k : Nat} {vs : Array Value} {v : Value} {Q : Value → Shared → Prop} (hj : s.heap.IsTupleIter j t k) (ht : s.heap.IsTuple t vs) (hv : vs[k]? = some v)
    (q : ∀ h', h'.IsTupleIter j t (k + 1) → Heap.SameBut j s.heap h' → Q v { s with heap := h' }) : wpAny (model prog w) A (Builtin.SmallTypes.nextOf (.ref j)) Q E s := by
  obtain ⟨oj, ej, cj, dj⟩ := id hj
  obtain ⟨ot, et, _, nt, dt⟩ := id ht
  unfold Builtin.SmallTypes.nextOf
  refine wpAny_bind (wpAny_callSpecial?_slot (name := Str.ofString "__next__") hj.typeIs F.slot_tuple_iterator_next (wpAny_call_entry F.slot_tuple_iterator_next hj.typeIs F.entry_tuple_iterator_next ?_ (F.args_tuple_iterator_next_1 _)))
  refine wpAny_bind (m := field (.ref j) 0) (wpAny_field ej dj (x := .ref t) rfl ?_)
  have nn : ¬ ((Value.ref t == Value.none) = true) := Bool.false_ne_true
  show wpAny (model prog w) A.in1 (if (Value.ref t == Value.none) = true then _ else _) _ _ s
  rw [if_neg nn]
  refine wpAny_bind (m := field (.ref j) 1) (wpAny_field ej dj (x := .int k 0) rfl (wpAny_bind (m := seqItems? (.ref t)) (wpAny_seqItems et dt ?_)))
  simp only [Int.toNat_natCast, hv]
  refine wpAny_bind (wpAny_setField ej dj (by simp) (wpAny_pure ⟨v, rfl, wpAny_pure (q _ ⟨_, Heap.get?_update_self _ ej (Obj.isFreed_of_fields (Obj.data_mapFields dj _)), (Obj.cls_mapFields ..).trans cj, ?_⟩ (Heap.SameBut.update ..))⟩))
  rw [Obj.data_mapFields dj]
  simp [rawInt]
theorem nextT_end {j t : Addr} {k : Nat} {vs : Array Value} {Q : Value → Shared → Prop} (hh : A.handled = none) (hj : s.heap.IsTupleIter j t k) (ht : s.heap.IsTuple t vs) (hv : vs[k]? = none)
    (q : ∀ h' e, Heap.ExtBut j s.heap h' → (∃ o, h'.get? e = some o ∧ o.cls = .type "StopIteration") → E (.ref e) { s with heap := h' }) : wpAny (model prog w) A (Builtin.SmallTypes.nextOf (.ref j)) Q E s := by
  obtain ⟨oj, ej, cj, dj⟩ := id hj
  obtain ⟨ot, et, _, nt, dt⟩ := id ht
  unfold Builtin.SmallTypes.nextOf
  refine wpAny_bind (wpAny_callSpecial?_slot (name := Str.ofString "__next__") hj.typeIs F.slot_tuple_iterator_next (wpAny_call_entry F.slot_tuple_iterator_next hj.typeIs F.entry_tuple_iterator_next ?_ (F.args_tuple_iterator_next_1 _)))
  refine wpAny_bind (m := field (.ref j) 0) (wpAny_field ej dj (x := .ref t) rfl ?_)
  have nn : ¬ ((Value.ref t == Value.none) = true) := Bool.false_ne_true
  show wpAny (model prog w) A.in1 (if (Value.ref t == Value.none) = true then _ else _) _ _ s
  rw [if_neg nn]
  refine wpAny_bind (m := field (.ref j) 1) (wpAny_field ej dj (x := .int k 0) rfl (wpAny_bind (m := seqItems? (.ref t)) (wpAny_seqItems et dt ?_)))
  simp only [Int.toNat_natCast, hv]
  refine wpAny_bind (wpAny_rule (wpAny_bind (wpAny_setField ej dj (by simp) (wpAny_bind (m := newExc (.type "StopIteration") []) ?_))))
  unfold newExc newTuple
  refine wpAny_bind (wpAny_newObj_type (wpAny_bind (m := firstArgMember _ _) (wpAny_of_eq (a := Value.none) (by first | rfl | (simp only [firstArgMember]; rfl)) (wpAny_newObj_type ?_ (by size_fits)))) (by size_fits))
  unfold raiseNew
  refine wpAny_bind (wpAny_handled ?_)
  rw [show A.in1.handled = none from hh]
  exact wpAny_bind (wpAny_pure (wpAny_throw (q _ _ (((Heap.SameBut.update ..).extBut.push _).push _) ⟨_, Heap.get?_push_size _ rfl, rfl⟩)))
/-- an iterator i over what stands at l, asked by zip: its state, and what stands at l -/
structure Step (prog : Program) (w : World) (i l : Addr) (it : Nat → Heap → Prop) (sq : Heap → Array Value → Prop) : Prop where
  obj : ∀ k h, it k h → ∃ o, h.get? i = some o ∧ ∀ v, o.data ≠ .cell v
  itk : ∀ k h h', it k h → (∀ o, h.get? i = some o → h'.get? i = some o) → it k h'
  sqk : ∀ h h' vs, sq h vs → (∀ o, h.get? l = some o → h'.get? l = some o) → sq h' vs
  item : ∀ (A : Around) (E : Value → Shared → Prop) (s : Shared) (k : Nat) (vs : Array Value) (v : Value) (Q : Value → Shared → Prop), it k s.heap → sq s.heap vs → vs[k]? = some v →
    (∀ h', it (k + 1) h' → Heap.SameBut i s.heap h' → Q v { s with heap := h' }) → wpAny (model prog w) A (Builtin.SmallTypes.nextOf (.ref i)) Q E s
  done : ∀ (A : Around) (E : Value → Shared → Prop) (s : Shared) (k : Nat) (vs : Array Value) (Q : Value → Shared → Prop), A.handled = none → it k s.heap → sq s.heap vs → vs[k]? = none →
    (∀ h' e, Heap.ExtBut i s.heap h' → (∃ o, h'.get? e = some o ∧ o.cls = .type "StopIteration") → E (.ref e) { s with heap := h' }) → wpAny (model prog w) A (Builtin.SmallTypes.nextOf (.ref i)) Q E s
theorem step_list (i l : Addr) : Step prog w i l (fun k h => h.IsListIter i l k) (fun h vs => h.IsList l vs) where
  obj := fun k h x => let ⟨o, e, _, d⟩ := x; ⟨o, e, fun v z => by rw [d] at z; cases z⟩
  itk := fun k h h' x f => let ⟨o, e, r⟩ := x; ⟨o, f o e, r⟩
  sqk := fun h h' vs x f => let ⟨o, e, r⟩ := x; ⟨o, f o e, r⟩
  item := fun A E s k vs v Q a b c q => wpAny_nextOf_list_item a b c q
  done := fun A E s k vs Q hh a b c q => wpAny_nextOf_list_end hh a b c q
theorem step_tup (i l : Addr) : Step prog w i l (fun k h => h.IsTupleIter i l k) (fun h vs => h.IsTuple l vs) where
  obj := fun k h x => let ⟨o, e, _, d⟩ := x; ⟨o, e, fun v z => by rw [d] at z; cases z⟩
  itk := fun k h h' x f => let ⟨o, e, r⟩ := x; ⟨o, f o e, r⟩
  sqk := fun h h' vs x f => let ⟨o, e, r⟩ := x; ⟨o, f o e, r⟩
  item := fun A E s k vs v Q a b c q => nextT_item a b c q
  done := fun A E s k vs Q hh a b c q => nextT_end hh a b c q

section
variable {z TI TO i1 i2 l1 l2 : Addr} {it1 it2 : Nat → Heap → Prop} {sq1 sq2 : Heap → Array Value → Prop}
/-- zip's own next, both have one -/
theorem zn_item (S1 : Step prog w i1 l1 it1 sq1) (S2 : Step prog w i2 l2 it2 sq2) (D : ZipApart z TI TO i1 i2 l1 l2) {k1 k2 : Nat} {xs ys : Array Value} {x y a b : Value} {Q : Value → Shared → Prop}
    (hz : IsZip s.heap z TI TO .none) (hI : IsPair s.heap TI (.ref i1) (.ref i2)) (hO : IsPair s.heap TO a b) (j1 : it1 k1 s.heap) (j2 : it2 k2 s.heap) (q1 : sq1 s.heap xs) (q2 : sq2 s.heap ys)
    (hx : xs[k1]? = some x) (hy : ys[k2]? = some y)
    (q : ∀ h', IsZip h' z TI TO (rawInt s.heap.objs.size) → IsPair h' TO x y → it1 (k1 + 1) h' → it2 (k2 + 1) h' → IsPair h' s.heap.objs.size x y → h'.objs.size = s.heap.objs.size + 1 →
      (∀ c o, c ≠ z → c ≠ TO → c ≠ i1 → c ≠ i2 → s.heap.get? c = some o → h'.get? c = some o) → Q (.ref s.heap.objs.size) { s with heap := h' }) :
    wpAny (model prog w) A (Builtin.«zip.__next__» ⟨[.ref z], []⟩) (fun f s' => ∃ v, f = .done (.ret v) ∧ Q v s') E s := by
  refine wpAny_bind (m := field (.ref z) 2) (wpAny_field hz rfl (x := .bool false) rfl (wpAny_bind (m := field (.ref z) 3) (wpAny_field hz rfl (x := .ref TI) rfl (wpAny_bind (wpAny_seqItems hI rfl ?_)))))
  refine wpAny_bind (m := Builtin.SmallTypes.ownedTupleIsFree (.ref z)) (wpAny_bind (wpAny_field hz rfl (x := .none) rfl (wpAny_pure ?_)))
  simp only [if_true]
  refine wpAny_bind (wpAny_rule (wpAny_bind (wpAny_field hz rfl (x := .ref TO) rfl (wpAny_bind (wpAny_setField_rec hz (by simp) fun h1 hz1 s1 => ?_)))))
  have hz1 : IsZip h1 z TI TO .ellipsis := hz1
  refine wpAny_bind ?_
  simp only [List.zipIdx_cons, List.zipIdx_nil, List.forIn_cons, List.forIn_nil]
  have e1 : ∀ c o, c ≠ z → s.heap.get? c = some o → h1.get? c = some o := fun c o hc e => s1.extBut _ _ hc e
  refine wpAny_bind (wpAny_bind (wpAny_onRaise (wpAny_bind (m := Builtin.SmallTypes.nextOf (.ref i1)) (S1.item _ _ _ k1 xs x _ (S1.itk _ _ _ j1 fun o e => e1 _ o D.i1z e) (S1.sqk _ _ _ q1 fun o e => e1 _ o D.l1z e) hx fun h2 j1' s2 => wpAny_pure ?_))))
  have e2 : ∀ c o, c ≠ z → c ≠ i1 → s.heap.get? c = some o → h2.get? c = some o := fun c o c1 c2 e => s2.extBut _ _ c2 (e1 c o c1 e)
  have hO2 : IsPair h2 TO a b := e2 _ _ D.TOz D.TOi1 hO
  refine wpAny_bind (wpAny_seqItems hO2 rfl (wpAny_bind (wpAny_updateSeq_pair hO2 fun h3 hO3 s3 => wpAny_bind (wpAny_letGo (wpAny_pure ?_)))))
  have hO3 : IsPair h3 TO x b := hO3
  have e3 : ∀ c o, c ≠ z → c ≠ i1 → c ≠ TO → s.heap.get? c = some o → h3.get? c = some o := fun c o c1 c2 c3 e => s3.extBut _ _ c3 (e2 c o c1 c2 e)
  refine wpAny_bind (wpAny_bind (wpAny_onRaise (wpAny_bind (m := Builtin.SmallTypes.nextOf (.ref i2)) (S2.item _ _ _ k2 ys y _ (S2.itk _ _ _ j2 fun o e => e3 _ o D.i2z D.i12.symm D.TOi2.symm e) (S2.sqk _ _ _ q2 fun o e => e3 _ o D.l2z D.l2i1 D.l2TO e) hy fun h4 j2' s4 => wpAny_pure ?_))))
  have hO4 : IsPair h4 TO x b := s4.extBut _ _ D.TOi2 hO3
  refine wpAny_bind (wpAny_seqItems hO4 rfl (wpAny_bind (wpAny_updateSeq_pair hO4 fun h5 hO5 s5 => wpAny_bind (wpAny_letGo (wpAny_pure (wpAny_pure ?_))))))
  have hO5 : IsPair h5 TO x y := hO5
  refine wpAny_bind (wpAny_seqItems hO5 rfl (wpAny_bind (wpAny_newTuple ?_)))
  have hs5 : h5.objs.size = s.heap.objs.size := by rw [s5.1, s4.1, s3.1, s2.1, s1.1]
  have hz5 : IsZip h5 z TI TO .ellipsis := s5.extBut _ _ D.TOz.symm (s4.extBut _ _ D.i2z.symm (s3.extBut _ _ D.TOz.symm (s2.extBut _ _ D.i1z.symm hz1)))
  have e5 : ∀ c o, c ≠ z → c ≠ TO → c ≠ i1 → c ≠ i2 → s.heap.get? c = some o → h5.get? c = some o := fun c o c1 c2 c3 c4 e => s5.extBut _ _ c2 (s4.extBut _ _ c4 (e3 c o c1 c3 c2 e))
  have lz : z < h5.objs.size := Heap.lt_size hz5
  refine wpAny_bind (m := Builtin.SmallTypes.ownedTupleHandOut (.ref z) (.ref h5.objs.size)) ?_
  unfold Builtin.SmallTypes.ownedTupleHandOut
  have hz6 : IsZip (h5.push { cls := .type "tuple", data := .seq #[x, y] }) z TI TO .ellipsis := Heap.get?_push_of_some _ hz5
  refine wpAny_bind (wpAny_setField_rec hz6 (by simp) fun h7 hz7 s7 => ?_)
  have hz7 : IsZip h7 z TI TO (rawInt h5.objs.size) := hz7
  refine wpAny_setField_rec hz7 (by simp) fun h8 hz8 s8 => ?_
  have hz8 : IsZip h8 z TI TO (rawInt h5.objs.size) := hz8
  have e8 : ∀ c o, c ≠ z → h5.get? c = some o → h8.get? c = some o := fun c o c1 e => s8.extBut _ _ c1 (s7.extBut _ _ c1 (Heap.get?_push_of_some _ e))
  have p8 : IsPair h8 h5.objs.size x y := s8.extBut _ _ (Nat.ne_of_gt lz) (s7.extBut _ _ (Nat.ne_of_gt lz) (Heap.get?_push_size _ rfl))
  have n8 : h8.objs.size = h5.objs.size + 1 := by rw [s8.1, s7.1, Heap.size_push]
  rw [hs5] at hz8 p8 n8
  refine wpAny_pure ⟨_, rfl, ?_⟩
  show Q (Value.ref h5.objs.size) _
  rw [hs5]
  exact q h8 hz8 (e8 _ _ D.TOz hO5) (S1.itk _ _ _ j1' fun o e => e8 _ o D.i1z (s5.extBut _ _ D.TOi1.symm (s4.extBut _ _ D.i12 (s3.extBut _ _ D.TOi1.symm e)))) (S2.itk _ _ _ j2' fun o e => e8 _ o D.i2z (s5.extBut _ _ D.TOi2.symm e)) p8 n8
    fun c o c1 c2 c3 c4 e => e8 c o c1 (e5 c o c1 c2 c3 c4 e)
/-- zip's own next, one of both has none -/
theorem zn_end (S1 : Step prog w i1 l1 it1 sq1) (S2 : Step prog w i2 l2 it2 sq2) (D : ZipApart z TI TO i1 i2 l1 l2) (hh : A.handled = none) {k1 k2 : Nat} {xs ys : Array Value} {a b : Value} {Q : Fin → Shared → Prop}
    (hz : IsZip s.heap z TI TO .none) (hI : IsPair s.heap TI (.ref i1) (.ref i2)) (hO : IsPair s.heap TO a b) (j1 : it1 k1 s.heap) (j2 : it2 k2 s.heap) (q1 : sq1 s.heap xs) (q2 : sq2 s.heap ys)
    (hn : xs[k1]? = none ∨ ys[k2]? = none)
    (q : ∀ h' e, (∀ c o, c ≠ z → c ≠ TO → c ≠ i1 → c ≠ i2 → s.heap.get? c = some o → h'.get? c = some o) → (∃ o, h'.get? e = some o ∧ o.cls = .type "StopIteration") → E (.ref e) { s with heap := h' }) :
    wpAny (model prog w) A (Builtin.«zip.__next__» ⟨[.ref z], []⟩) Q E s := by
  refine wpAny_bind (m := field (.ref z) 2) (wpAny_field hz rfl (x := .bool false) rfl (wpAny_bind (m := field (.ref z) 3) (wpAny_field hz rfl (x := .ref TI) rfl (wpAny_bind (wpAny_seqItems hI rfl ?_)))))
  refine wpAny_bind (m := Builtin.SmallTypes.ownedTupleIsFree (.ref z)) (wpAny_bind (wpAny_field hz rfl (x := .none) rfl (wpAny_pure ?_)))
  simp only [if_true]
  refine wpAny_bind (wpAny_rule (wpAny_bind (wpAny_field hz rfl (x := .ref TO) rfl (wpAny_bind (wpAny_setField_rec hz (by simp) fun h1 hz1 s1 => ?_)))))
  have hz1 : IsZip h1 z TI TO .ellipsis := hz1
  refine wpAny_bind ?_
  simp only [List.zipIdx_cons, List.zipIdx_nil, List.forIn_cons, List.forIn_nil]
  have e1 : ∀ c o, c ≠ z → s.heap.get? c = some o → h1.get? c = some o := fun c o hc e => s1.extBut _ _ hc e
  have ez : ∀ {h : Heap} {e : Addr} {o : Obj}, IsZip h z TI TO .ellipsis → h.get? e = some o → o.cls = .type "StopIteration" → e ≠ z := fun hz ho hc x => by
    subst x
    rw [hz] at ho
    cases ho
    simp at hc
  cases hx : xs[k1]? with
  | none =>
    refine wpAny_bind (wpAny_bind (wpAny_onRaise (wpAny_bind (m := Builtin.SmallTypes.nextOf (.ref i1)) (S1.done _ _ _ k1 xs _ hh (S1.itk _ _ _ j1 fun o e => e1 _ o D.i1z e) (S1.sqk _ _ _ q1 fun o e => e1 _ o D.l1z e) hx fun h2 e s2 he => ?_))))
    obtain ⟨oe, ho, hc⟩ := he
    have hz2 : IsZip h2 z TI TO .ellipsis := s2 _ _ D.i1z.symm hz1
    exact wpAny_setField_rec hz2 (by simp) fun h3 _ s3 => q h3 e (fun c o c1 _ c3 _ u => s3.extBut _ _ c1 (s2 _ _ c3 (e1 c o c1 u))) ⟨oe, s3.extBut _ _ (ez hz2 ho hc) ho, hc⟩
  | some x =>
    have hy : ys[k2]? = none := by
      rcases hn with h | h
      · rw [hx] at h; cases h
      · exact h
    refine wpAny_bind (wpAny_bind (wpAny_onRaise (wpAny_bind (m := Builtin.SmallTypes.nextOf (.ref i1)) (S1.item _ _ _ k1 xs x _ (S1.itk _ _ _ j1 fun o e => e1 _ o D.i1z e) (S1.sqk _ _ _ q1 fun o e => e1 _ o D.l1z e) hx fun h2 j1' s2 => wpAny_pure ?_))))
    have e2 : ∀ c o, c ≠ z → c ≠ i1 → s.heap.get? c = some o → h2.get? c = some o := fun c o c1 c2 e => s2.extBut _ _ c2 (e1 c o c1 e)
    have hO2 : IsPair h2 TO a b := e2 _ _ D.TOz D.TOi1 hO
    refine wpAny_bind (wpAny_seqItems hO2 rfl (wpAny_bind (wpAny_updateSeq_pair hO2 fun h3 hO3 s3 => wpAny_bind (wpAny_letGo (wpAny_pure ?_)))))
    have e3 : ∀ c o, c ≠ z → c ≠ i1 → c ≠ TO → s.heap.get? c = some o → h3.get? c = some o := fun c o c1 c2 c3 e => s3.extBut _ _ c3 (e2 c o c1 c2 e)
    refine wpAny_bind (wpAny_bind (wpAny_onRaise (wpAny_bind (m := Builtin.SmallTypes.nextOf (.ref i2)) (S2.done _ _ _ k2 ys _ hh (S2.itk _ _ _ j2 fun o e => e3 _ o D.i2z D.i12.symm D.TOi2.symm e) (S2.sqk _ _ _ q2 fun o e => e3 _ o D.l2z D.l2i1 D.l2TO e) hy fun h4 e s4 he => ?_))))
    obtain ⟨oe, ho, hc⟩ := he
    have hz4 : IsZip h4 z TI TO .ellipsis := s4 _ _ D.i2z.symm (s3.extBut _ _ D.TOz.symm (s2.extBut _ _ D.i1z.symm hz1))
    exact wpAny_setField_rec hz4 (by simp) fun h5 _ s5 => q h5 e (fun c o c1 c2 c3 c4 u => s5.extBut _ _ c1 (s4 _ _ c4 (e3 c o c1 c3 c2 u))) ⟨oe, s5.extBut _ _ (ez hz4 ho hc) ho, hc⟩
end
/-- the heap behind zip(a, b) of two tuples -/
abbrev zT1 (hp : Heap) (a b : Addr) : Heap := hp.push { cls := .type "tuple_iterator", data := .fields #[.ref a, .int 0 0] }
abbrev zT2 (hp : Heap) (a b : Addr) : Heap := (zT1 hp a b).push { cls := .type "tuple_iterator", data := .fields #[.ref b, .int 0 0] }
abbrev zT3 (hp : Heap) (a b : Addr) : Heap := (zT2 hp a b).push { cls := .type "tuple", data := .seq #[.ref hp.objs.size, .ref (zT1 hp a b).objs.size] }
abbrev zT4 (hp : Heap) (a b : Addr) : Heap := (zT3 hp a b).push { cls := .type "tuple", data := .seq #[.none, .none] }
abbrev zT5 (hp : Heap) (a b : Addr) : Heap := (zT4 hp a b).push { cls := .type "zip", data := .fields #[.none, .bool false, .bool false, .ref (zT2 hp a b).objs.size, .ref (zT3 hp a b).objs.size] }
theorem zipT_new (a b : Addr) (xs ys : Array Value) : Meets (Builtin.«zip.__new__» ⟨[.type "zip", .ref a, .ref b], []⟩) (fun _ R s => s.heap.IsTuple a xs ∧ s.heap.IsTuple b ys ∧ R (.ok (.ret (.ref (zT4 s.heap a b).objs.size))) { s with heap := zT5 s.heap a b }) :=
  .of_wp fun prog w A R s h => by
    obtain ⟨hp, g, d, tk, os⟩ := s
    obtain ⟨ha, hb, h⟩ := h
    have sz := sub_zip
    have ha : Heap.IsTuple (Shared.heap ⟨hp, g, d, tk, os⟩) a xs := ha
    have hb : Heap.IsTuple (Shared.heap ⟨hp.push { cls := .type "tuple_iterator", data := .fields #[.ref a, .int 0 0] }, g, d, tk, os⟩) b ys := Heap.IsTuple.push hb _
    wp_walk using wpAny_pyIter_tuple ha, wpAny_pyIter_tuple hb
    exact ⟨_, rfl, h⟩
theorem call_zipT {a b : Addr} {xs ys : Array Value} {Q : Value → Shared → Prop} (ha : s.heap.IsTuple a xs) (hb : s.heap.IsTuple b ys)
    (q : ∀ h', IsZip h' (s.heap.objs.size + 4) (s.heap.objs.size + 2) (s.heap.objs.size + 3) .none → IsPair h' (s.heap.objs.size + 2) (.ref s.heap.objs.size) (.ref (s.heap.objs.size + 1)) → IsPair h' (s.heap.objs.size + 3) .none .none →
      h'.IsTupleIter s.heap.objs.size a 0 → h'.IsTupleIter (s.heap.objs.size + 1) b 0 → h'.objs.size = s.heap.objs.size + 5 → (∀ c o, s.heap.get? c = some o → h'.get? c = some o) → Q (.ref (s.heap.objs.size + 4)) { s with heap := h' }) :
    wpAny (model prog w) A (call (.type "zip") [.ref a, .ref b]) Q E s := by
  refine callType_new F.called_zip (by decide) (F.typeCall_zip_2 _ _) (F.newCall_zip_2 _ _) (fun o => F.args_object_init_3 o _ _) F.entry_zip_new (zipT_new a b xs ys) ⟨ha, hb, ?_⟩
  have n1 : (zT1 s.heap a b).objs.size = s.heap.objs.size + 1 := Heap.size_push ..
  have n2 : (zT2 s.heap a b).objs.size = s.heap.objs.size + 2 := by rw [Heap.size_push, n1]
  have n3 : (zT3 s.heap a b).objs.size = s.heap.objs.size + 3 := by rw [Heap.size_push, n2]
  have n4 : (zT4 s.heap a b).objs.size = s.heap.objs.size + 4 := by rw [Heap.size_push, n3]
  have n5 : (zT5 s.heap a b).objs.size = s.heap.objs.size + 5 := by rw [Heap.size_push, n4]
  have p5 : (zT5 s.heap a b).get? (zT4 s.heap a b).objs.size = some _ := Heap.get?_push_size _ rfl
  have p4 : (zT5 s.heap a b).get? (zT3 s.heap a b).objs.size = some _ := Heap.get?_push_of_some _ (Heap.get?_push_size _ rfl)
  have p3 : (zT5 s.heap a b).get? (zT2 s.heap a b).objs.size = some _ := Heap.get?_push_of_some _ (Heap.get?_push_of_some _ (Heap.get?_push_size _ rfl))
  have p2 : (zT5 s.heap a b).get? (zT1 s.heap a b).objs.size = some _ := Heap.get?_push_of_some _ (Heap.get?_push_of_some _ (Heap.get?_push_of_some _ (Heap.get?_push_size _ rfl)))
  have p1 : (zT5 s.heap a b).get? s.heap.objs.size = some _ := Heap.get?_push_of_some _ (Heap.get?_push_of_some _ (Heap.get?_push_of_some _ (Heap.get?_push_of_some _ (Heap.get?_push_size _ rfl))))
  show _ ∧ _
  rw [n2, n3, n4] at p5
  rw [n1, n2] at p3
  rw [n3] at p4
  rw [n1] at p2
  rw [n4]
  exact ⟨⟨_, p5, rfl⟩, q _ p5 p3 p4 ⟨_, p1, rfl, rfl⟩ ⟨_, p2, rfl, rfl⟩ n5 fun c o e => Heap.get?_push_of_some _ (Heap.get?_push_of_some _ (Heap.get?_push_of_some _ (Heap.get?_push_of_some _ (Heap.get?_push_of_some _ e))))⟩
end

section
variable {X : Cx} {pins : List (Addr × Obj)} {σ : St} {H : Hp} {s : Shared} {h' : Heap}
/-- several objects of an iterator turn -/
theorem Inv.turnedL {t' : Nat} {ch : List Addr} (I : Inv X pins σ H s) (hf : ∀ b ∈ ch, FpOk X pins H b) (k : ∀ b o, b ∉ ch → s.heap.get? b = some o → h'.get? b = some o) : Inv X pins σ H { s with heap := h', toks := t' } := by
  have nit : ∀ b u, H b = some u → b ∉ ch := fun b u e z => by rw [(hf b z).1] at e; cases e
  refine I.step (g' := s.gens) (d' := s.drawn) (ch := ch) (fun b hb => ?_) (fun b o _ _ hc e _ => k b o hc e) (fun b o _ _ hc e _ => ⟨o.slots, k b o hc e⟩) (fun _ _ _ _ n => n)
    (fun b o hc e => ⟨o, k b o hc e⟩) (fun _ _ e => e) (fun _ _ _ e => e) (fun b ps e => ⟨#[], by rw [e]; simp⟩) (fun m hm => ?_) (fun b u e => ?_) I.bare
  · obtain ⟨_, f1, _, f3, f4, f5⟩ := hf b hb
    exact ⟨f3, f1, f4, f5⟩
  · obtain ⟨o, es, ep, ho, r⟩ := hm
    exact ⟨o, es, ep, k _ o (fun z => (hf _ z).2.1 rfl) ho, r⟩
  · refine (I.hok b u e).stay (fun c v hc q => k c v ?_ q) (fun _ q => q) fun _ _ q => q
    rcases hc with z | z
    · rw [z]; exact nit b u e
    · exact nit c _ z
end

/-- a list (false) or a tuple (true) -/
def SqX (t : Bool) (K : PySem.W.Frag) (H : Hp) (a : Addr) (xs : List V) : Prop := match t with
  | false => SqL K H a xs
  | true => SqT K H a xs
/-- zip(a, b) of two lists or of two tuples: pairs, while both have one -/
def Itz (t : Bool) (K : PySem.W.Frag) (a b : Addr) : It :=
  ⟨fun i H => ∃ xs ys x y, SqX t K H a xs ∧ SqX t K H b ys ∧ xs[i]? = some x ∧ ys[i]? = some y,
   fun i H v H' => ∃ p x y, v = .ref p ∧ H p = none ∧ H' = upd H p (.tup [x, y]) ∧ (∀ xs, SqX t K H a xs → xs[i]? = some x) ∧ ∀ ys, SqX t K H b ys → ys[i]? = some y,
   fun i H => ∃ xs ys, SqX t K H a xs ∧ SqX t K H b ys ∧ (xs.length ≤ i ∨ ys.length ≤ i)⟩
def itX (t : Bool) (i a : Addr) (k : Nat) (h : Heap) : Prop := match t with
  | false => h.IsListIter i a k
  | true => h.IsTupleIter i a k
def sqX (t : Bool) (a : Addr) (h : Heap) (vs : Array Value) : Prop := match t with
  | false => h.IsList a vs
  | true => h.IsTuple a vs
theorem step_X {prog : Program} {w : World} (t : Bool) (i a : Addr) : Step prog w i a (itX t i a) (sqX t a) := by
  cases t
  · exact step_list i a
  · exact step_tup i a
section
variable {X : Cx} {pins : List (Addr × Obj)} {σ : St} {H : Hp} {s : Shared}
theorem Inv.sqX {t : Bool} {a : Addr} {xs : List V} (I : Inv X pins σ H s) (h : SqX t X.K H a xs) : ∃ vs : List Value, Vals xs vs ∧ L2.sqX t a s.heap vs.toArray ∧ xs.length ≤ sizeLine := by
  cases t
  · obtain ⟨its, r, p, hz⟩ := I.list h
    exact ⟨its, r, p.isList, hz⟩
  · obtain ⟨its, r, p, hz⟩ := I.tuple h
    exact ⟨its, r, p, hz⟩
theorem Inv.sqX_inj {t : Bool} {a : Addr} {xs ys : List V} (I : Inv X pins σ H s) (h : SqX t X.K H a xs) (h' : SqX t X.K H a ys) : xs = ys := by
  cases t
  · exact I.list_inj h h'
  · exact I.tuple_inj h h'
end
theorem turn_zip {P : Program} {w : World} {K : PySem.W.Frag} {es : List Expr} {ek : Nat} {pos : Pos} (t : Bool) (a b z TI TO i1 i2 : Addr) (D : ZipApart z TI TO i1 i2 a b) :
    Turn P w K (.Tuple es ek pos) (Itz t K a b) [z, TI, TO, i1, i2] z (fun i h => IsZip h z TI TO .none ∧ IsPair h TI (.ref i1) (.ref i2) ∧ (∃ x y, IsPair h TO x y) ∧ itX t i1 a i h ∧ itX t i2 b i h) where
  mem := by simp
  obj := fun i h st c hc => by
    obtain ⟨hz, hI, ⟨x, y, hO⟩, j1, j2⟩ := st
    simp only [List.mem_cons, List.not_mem_nil, or_false] at hc
    rcases hc with e | e | e | e | e <;> subst e
    · exact ⟨_, hz, fun v u => by cases u⟩
    · exact ⟨_, hI, fun v u => by cases u⟩
    · exact ⟨_, hO, fun v u => by cases u⟩
    · exact (step_X (prog := P) (w := w) t _ a).obj _ _ j1
    · exact (step_X (prog := P) (w := w) t _ b).obj _ _ j2
  keep := fun i h h' st k => by
    obtain ⟨hz, hI, ⟨x, y, hO⟩, j1, j2⟩ := st
    exact ⟨k z (by simp) _ hz, k TI (by simp) _ hI, ⟨x, y, k TO (by simp) _ hO⟩, (step_X (prog := P) (w := w) t i1 a).itk _ _ _ j1 fun o e => k i1 (by simp) o e, (step_X (prog := P) (w := w) t i2 b).itk _ _ _ j2 fun o e => k i2 (by simp) o e⟩
  item := by
    intro X hP hw hK hc i pins s σ H E I hf st hg
    subst hP hw hK
    obtain ⟨xs, ys, x, y, qa, qb, hx, hy⟩ := hg
    obtain ⟨hz, hI, ⟨x0, y0, hO⟩, j1, j2⟩ := st
    obtain ⟨va, ra, pa, za⟩ := I.sqX qa
    obtain ⟨vb, rb, pb, zb⟩ := I.sqX qb
    obtain ⟨u, hu, ru⟩ := ra.get hx
    obtain ⟨v, hv, rv⟩ := rb.get hy
    have hT : s.TypeIs (.ref z) "zip" := ⟨_, hz, rfl⟩
    unfold pyNext
    refine wpAny_bind (wpAny_attempt (wpAny_callSpecial?_slot (name := Str.ofString "__next__") hT F.slot_zip_next (wpAny_call_entry F.slot_zip_next hT F.entry_zip_next (zn_item (step_X t i1 a) (step_X t i2 b) D hz hI hO j1 j2 pa pb (x := u) (y := v) (by simpa using hu) (by simpa using hv)
      fun h' a1 a2 a3 a4 a5 a6 a7 => wpAny_pure ⟨_, rfl, ?_⟩) (F.args_zip_next_1 _))))
    refine wpAny_letOwnedTupleGo_zip (s := { s with heap := h' }) a1 fun h2 b1 b2 => ?_
    have hn : ∀ c ∈ [z, TI, TO, i1, i2], c ≠ s.heap.objs.size := fun c hc' e => by
      obtain ⟨o, ho, _⟩ : ∃ o, s.heap.get? c = some o ∧ True := by
        simp only [List.mem_cons, List.not_mem_nil, or_false] at hc'
        rcases hc' with q | q | q | q | q
        · exact ⟨_, q ▸ hz, trivial⟩
        · exact ⟨_, q ▸ hI, trivial⟩
        · exact ⟨_, q ▸ hO, trivial⟩
        · obtain ⟨o, ho, _⟩ := (step_X (prog := X.prog) (w := X.w) t i1 a).obj _ _ j1; exact ⟨o, q ▸ ho, trivial⟩
        · obtain ⟨o, ho, _⟩ := (step_X (prog := X.prog) (w := X.w) t i2 b).obj _ _ j2; exact ⟨o, q ▸ ho, trivial⟩
      exact absurd (Heap.lt_size ho) (by rw [e]; exact Nat.lt_irrefl _)
    have I0 : Inv X pins σ (upd H s.heap.objs.size (.tup [x, y])) { s with heap := s.heap.push { cls := .type "tuple", data := .seq #[u, v] } } :=
      I.laid (t' := s.toks) (fun c o e => Heap.get?_push_of_some _ e) (Nat.le_refl _) ⟨by show 2 ≤ sizeLine; decide, [u, v], .cons ru (.cons rv .nil), IsTup.new _ _⟩
    have hf0 : ∀ c ∈ [z, TI, TO, i1, i2], FpOk X pins (upd H s.heap.objs.size (.tup [x, y])) c := fun c hc' => ⟨by rw [upd_ne (hn c hc')]; exact (hf c hc').1, (hf c hc').2⟩
    have I1 : Inv X pins σ (upd H s.heap.objs.size (.tup [x, y])) { s with heap := h2 } := Inv.turnedL (s := { s with heap := s.heap.push { cls := .type "tuple", data := .seq #[u, v] } }) (t' := s.toks) (ch := [z, TI, TO, i1, i2]) I0 hf0 fun c o hc' e => by
      simp only [List.mem_cons, List.not_mem_nil, or_false, not_or] at hc'
      obtain ⟨c1, c2, c3, c4, c5⟩ := hc'
      by_cases hcn : c = s.heap.objs.size
      · subst hcn
        have e' : (s.heap.push { cls := .type "tuple", data := .seq #[u, v] }).get? s.heap.objs.size = some o := e
        rw [Heap.get?_push_size _ rfl] at e'
        cases e'
        exact b2.extBut _ _ c1 a5
      · refine b2.extBut _ _ c1 (a7 c o c1 c3 c4 c5 ?_)
        have e' : (s.heap.push { cls := .type "tuple", data := .seq #[u, v] }).get? c = some o := e
        rw [Heap.get?_push_ne _ _ _ hcn] at e'
        exact e'
    refine ⟨.ref s.heap.objs.size, _, I1, rfl, ⟨_, x, y, rfl, I.hok.fresh (Nat.le_refl _), rfl, fun xs' h => by rw [I.sqX_inj h qa]; exact hx, fun ys' h => by rw [I.sqX_inj h qb]; exact hy⟩, ⟨b1, ?_, ⟨u, v, b2.extBut _ _ D.TOz a2⟩, ?_, ?_⟩, fun c hc' => (hf0 c hc').1⟩
    · exact b2.extBut _ _ D.TIz (a7 _ _ D.TIz D.TITO D.TIi1 D.TIi2 hI)
    · exact (step_X (prog := X.prog) (w := X.w) t i1 a).itk _ _ _ a3 fun o e => b2.extBut _ _ D.i1z e
    · exact (step_X (prog := X.prog) (w := X.w) t i2 b).itk _ _ _ a4 fun o e => b2.extBut _ _ D.i2z e
  done := by
    intro X hP hw hK hc i pins s σ H E I hf st hg
    subst hP hw hK
    obtain ⟨xs, ys, qa, qb, hl⟩ := hg
    obtain ⟨hz, hI, ⟨x0, y0, hO⟩, j1, j2⟩ := st
    obtain ⟨va, ra, pa, za⟩ := I.sqX qa
    obtain ⟨vb, rb, pb, zb⟩ := I.sqX qb
    have la := ra.length
    have lb := rb.length
    have hT : s.TypeIs (.ref z) "zip" := ⟨_, hz, rfl⟩
    unfold pyNext
    refine wpAny_bind (wpAny_attempt (wpAny_callSpecial?_slot (name := Str.ofString "__next__") hT F.slot_zip_next (wpAny_call_entry F.slot_zip_next hT F.entry_zip_next (zn_end (step_X t i1 a) (step_X t i2 b) D (show X.A.in1.handled = none from I.ok.hd hc) hz hI hO j1 j2 pa pb
      (hl.elim (fun h => .inl (by simp; omega)) fun h => .inr (by simp; omega)) fun h' e k he => ?_) (F.args_zip_next_1 _))))
    obtain ⟨o, ho, hce⟩ := he
    refine wpAny_bind (wpAny_isInstance (T := "StopIteration") (b := true) ⟨o, ho, hce⟩ isSubtype_stop (wpAny_pure ⟨rfl, I.turnedL (t' := s.toks) hf fun c o hc' e => ?_⟩))
    simp only [List.mem_cons, List.not_mem_nil, or_false, not_or] at hc'
    exact k c o hc'.1 hc'.2.2.1 hc'.2.2.2.1 hc'.2.2.2.2 e
  self := fun _ _ _ _ _ st h => wpAny_pyIter_zip st.1 h
theorem zapart {n a b : Nat} (ha : a < n) (hb : b < n) : ZipApart (n + 4) (n + 2) (n + 3) n (n + 1) a b := by
  constructor <;> (intro (e : (_ : Nat) = _); omega)
theorem boot_zip' : bootBuiltins "zip" = some (.type "zip") := by decide +kernel
section
variable {X : Cx}
def iZip (K : PySem.W.Frag) (ta : TA) : TI := fun σ H R => ta σ H fun vs H1 => ∃ (t : Bool) (a b : Addr), vs = [.ref a, .ref b] ∧ (∃ xs, SqX t K H1 a xs) ∧ (∃ ys, SqX t K H1 b ys) ∧ R (Itz t K a b) H1
theorem pi_zip {a b : Expr} {ta : TA} {es : List Expr} {ek : Nat} {p pos pos' : Pos} (hg : Gl X "zip") (hm : X.mg "zip" = none) (ha : PA X [a, b] ta) (hs : starEach [a, b] X.env = [(false, eval a X.env), (false, eval b X.env)] := by rfl) (hs2 : starEach [b] X.env = [(false, eval b X.env)] := by rfl) :
    PI X (.Tuple es ek pos') (.Call (.Name "zip" p) [a, b] [] pos) (iZip X.K ta) := by
  intro pins s σ H R I h
  refine Call_ (ld_blt I hg hm boot_zip' (PyProof.Rows.callWith_type1 (thn (ha pos pins s σ H _ I h) fun us s1 ⟨vs, H1, I1, r1, q1⟩ => ?_) (by rw [hs, hs2]) (by rw [hs2]; rfl)))
  obtain ⟨t, a, b, e, ⟨xs, hx⟩, ⟨ys, hy⟩, q⟩ := q1
  subst e
  obtain ⟨u, w', rfl, rx, ry⟩ := vals2 r1
  cases rx
  cases ry
  obtain ⟨va, ra, pa, za⟩ := I1.sqX hx
  obtain ⟨vb, rb, pb, zb⟩ := I1.sqX hy
  have la : a < s1.heap.objs.size := by
    cases t
    · obtain ⟨o, e, _⟩ := pa; exact Heap.lt_size e
    · obtain ⟨o, e, _⟩ := pa; exact Heap.lt_size e
  have lb : b < s1.heap.objs.size := by
    cases t
    · obtain ⟨o, e, _⟩ := pb; exact Heap.lt_size e
    · obtain ⟨o, e, _⟩ := pb; exact Heap.lt_size e
  have fin : ∀ h' : Heap, IsZip h' (s1.heap.objs.size + 4) (s1.heap.objs.size + 2) (s1.heap.objs.size + 3) .none → IsPair h' (s1.heap.objs.size + 2) (.ref s1.heap.objs.size) (.ref (s1.heap.objs.size + 1)) → IsPair h' (s1.heap.objs.size + 3) .none .none →
      itX t s1.heap.objs.size a 0 h' → itX t (s1.heap.objs.size + 1) b 0 h' → h'.objs.size = s1.heap.objs.size + 5 → (∀ c o, s1.heap.get? c = some o → h'.get? c = some o) →
      wpAny (model X.prog X.w) X.A (pyIter (.ref (s1.heap.objs.size + 4))) (PIE X pins σ (.Tuple es ek pos') R) X.xe { s1 with heap := h' } := by
    intro h' hz hI hO j1 j2 _ k
    refine wpAny_pyIter_zip hz ?_
    refine ⟨_, [s1.heap.objs.size + 4, s1.heap.objs.size + 2, s1.heap.objs.size + 3, s1.heap.objs.size, s1.heap.objs.size + 1], _, _, H1, rfl, I1.kept (t' := s1.toks) k, turn_zip t a b _ _ _ _ _ ?_, ⟨hz, hI, ⟨_, _, hO⟩, j1, j2⟩, fun c hc => ?_, q⟩
    · exact zapart la lb
    · have : s1.heap.objs.size ≤ c := by
        simp only [List.mem_cons, List.not_mem_nil, or_false] at hc
        rcases hc with e | e | e | e | e <;> (rw [e]; first | exact Nat.le_refl _ | exact Nat.le_add_right _ _)
      exact I1.fpOk this (I1.hok.fresh this)
  cases t
  · exact call_zip_2 pa pb fin
  · exact call_zipT pa pb fin
end
theorem SqL.same {K : PySem.W.Frag} {H H' : Hp} {a : Addr} {xs : List V} (e : Same H H') (h : SqL K H a xs) : SqL K H' a xs := by
  rcases h with (h | ⟨o, h⟩) | h
  · exact .inl (.inl (e _ _ h))
  · exact .inl (.inr ⟨o, e _ _ h⟩)
  · exact .inr h
theorem SqX.same {t : Bool} {K : PySem.W.Frag} {H H' : Hp} {a : Addr} {xs : List V} (e : Same H H') (h : SqX t K H a xs) : SqX t K H' a xs := by
  cases t
  · exact SqL.same e h
  · exact SqT.same e h
theorem SqX.or {t : Bool} {K : PySem.W.Frag} {H : Hp} {a : Addr} {xs : List V} (h : SqX t K H a xs) : SqL K H a xs ∨ SqT K H a xs := by
  cases t
  · exact .inl h
  · exact .inr h
theorem comp_zip {t : Bool} {K : PySem.W.Frag} {a b l : Addr} {xs ys : List V} {own : Nat} {fr : List Nat} {g : TG} {tf : TT} {te : TE} {σ : St} {H1 : Hp} {Q : VK} (n : Nat) (hn1 : n = xs.length) (hn2 : n = ys.length) (Pv : Nat → List V → Hp → Prop)
    (h0 : Pv 0 [] (upd H1 l (.lst []))) (hl : ∀ i zs H, i ≤ n → H l = some (.lst zs) → Pv i zs H → SqX t K H a xs ∧ SqX t K H b ys)
    (hs : ∀ i x y zs H3 p, xs[i]? = some x → ys[i]? = some y → H3 l = some (.lst zs) → Pv i zs H3 → H3 p = none → g (.ref p) (σc own fr σ) (upd H3 p (.tup [x, y])) fun σ4 H4 => (∃ ow, ow.length = own ∧ σ4 = ow ++ σf fr σ) ∧ tf σ4 H4 fun b H5 =>
      if b = true then te σ4 H5 fun y H6 => H6 l = some (.lst zs) ∧ zs.length < sizeLine ∧ Pv (i + 1) (zs ++ [y]) (upd H6 l (.lst (zs ++ [y]))) else H5 l = some (.lst zs) ∧ Pv (i + 1) zs H5)
    (hd : ∀ zs H, H l = some (.lst zs) → Pv n zs H → Q (.ref l) H) : CompW (Itz t K a b) l own fr g tf te σ H1 Q := by
  refine ⟨n, Pv, h0, fun i zs H hi ha p => ?_⟩
  obtain ⟨qa, qb⟩ := hl i zs H hi ha p
  by_cases hlt : i < n
  · have l1 : i < xs.length := by omega
    have l2 : i < ys.length := by omega
    refine .inr ⟨hlt, ⟨xs, ys, xs[i], ys[i], qa, qb, by simp [l1], by simp [l2]⟩, fun v H' y => ?_⟩
    obtain ⟨p', x, y, rfl, np, rfl, hx, hy⟩ := y
    exact hs i x y zs H p' (hx xs qa) (hy ys qb) ha p np
  · have e : i = n := by omega
    subst e
    exact .inl ⟨⟨xs, ys, qa, qb, .inl (by omega)⟩, hd zs H ha p⟩

/-! ### values as trees: leaves, lists, tuples -/
inductive Tr where
  | leaf (v : V)
  | seq (t : Bool) (xs : List Tr)
noncomputable instance : DecidableEq Tr := fun _ _ => Classical.propDecidable _
/-- x is the tree T, less than d deep -/
def AtD (K : PySem.W.Frag) (H : Hp) : Nat → V → Tr → Prop
  | 0, _, _ => False
  | d + 1, x, T => (flatV x = true ∧ T = .leaf x) ∨ ∃ t a xs Ts, x = .ref a ∧ SqX t K H a xs ∧ T = .seq t Ts ∧ xs.length = Ts.length ∧ xs.length ≤ sizeLine ∧ ∀ (i : Nat) (x' : V) (T' : Tr), xs[i]? = some x' → Ts[i]? = some T' → AtD K H d x' T'
theorem AtD.same {K : PySem.W.Frag} {H H' : Hp} (e : Same H H') : ∀ {d : Nat} {x : V} {T : Tr}, AtD K H d x T → AtD K H' d x T
  | 0, _, _, h => False.elim h
  | d + 1, x, T, h => by
    rcases h with h | ⟨t, a, xs, Ts, h1, h2, h3, h4, h4', h5⟩
    · exact .inl h
    · exact .inr ⟨t, a, xs, Ts, h1, h2.same e, h3, h4, h4', fun i x' T' e1 e2 => (h5 i x' T' e1 e2).same e⟩
def tyB (T : String) : V → Bool
  | .bl _ => T == "bool" || T == "int"
  | .int _ => T == "int"
  | .str _ => T == "str"
  | _ => false
def tyT (T : String) : Tr → Bool
  | .leaf v => tyB T v
  | .seq true _ => T == "tuple"
  | .seq false _ => T == "list"
def ltT : Tr → Bool
  | .leaf _ => false
  | .seq _ _ => true
theorem ty_flat {K : PySem.W.Frag} {T : String} {x : V} {H : Hp} (f : flatV x = true) : TyV K T x H (tyB T x) := by
  cases x <;> first | rfl | exact absurd f Bool.false_ne_true
theorem lt_flat {K : PySem.W.Frag} {x : V} {H : Hp} (f : flatV x = true) : LtV K x H false := by
  cases x <;> first | rfl | exact absurd f Bool.false_ne_true
theorem ty_at {K : PySem.W.Frag} {T : String} {x : V} {H : Hp} {U : Tr} {d : Nat} (h : AtD K H (d + 1) x U) : TyV K T x H (tyT T U) := by
  rcases h with ⟨f, rfl⟩ | ⟨t, a, xs, Ts, rfl, q, rfl, _⟩
  · exact ty_flat f
  · cases t
    · exact .inl ⟨xs, q, rfl⟩
    · exact .inr (.inl ⟨xs, q, rfl⟩)
theorem lt_at {K : PySem.W.Frag} {x : V} {H : Hp} {U : Tr} {d : Nat} (h : AtD K H (d + 1) x U) : LtV K x H (ltT U) := by
  rcases h with ⟨f, rfl⟩ | ⟨t, a, xs, Ts, rfl, q, rfl, _⟩
  · exact lt_flat f
  · cases t
    · exact .inl ⟨xs, q, rfl⟩
    · exact .inr (.inl ⟨xs, q, rfl⟩)
theorem ty_neT {T : String} {x y : Tr} (h : tyT T x ≠ tyT T y) : decide (x = y) = false := decide_eq_false fun e => h (by rw [e])
theorem leaf_eq {v u : V} : decide (Tr.leaf v = Tr.leaf u) = decide (v = u) := by
  rw [Bool.eq_iff_iff, decide_eq_true_iff, decide_eq_true_iff]
  exact ⟨fun h => by injection h, fun h => by rw [h]⟩
theorem seq_eq {t : Bool} {Ts Us : List Tr} (hl : Ts.length = Us.length) : decide (Tr.seq t Ts = Tr.seq t Us) = (((List.range Ts.length).map fun k => decide (Ts[k]? = Us[k]?)).all id) := by
  rw [Bool.eq_iff_iff, decide_eq_true_iff, List.all_map, List.all_eq_true]
  constructor
  · intro h k _
    injection h with _ h
    simp [h]
  · intro h
    have : Ts = Us := List.ext_getElem? fun k => by
      by_cases hk : k < Ts.length
      · exact of_decide_eq_true (h k (List.mem_range.mpr hk))
      · rw [List.getElem?_eq_none (by omega), List.getElem?_eq_none (by omega)]
    rw [this]
/-- two trees whose kinds are alike, one of them a list or a tuple -/
theorem two_seqs {K : PySem.W.Frag} {H : Hp} {d : Nat} {x y : V} {T U : Tr} (ax : AtD K H (d + 1) x T) (ay : AtD K H (d + 1) y U) (h : ltT T = true ∨ ltT U = true) (e1 : tyT "list" T = tyT "list" U) (e2 : tyT "tuple" T = tyT "tuple" U) :
    ∃ t a b xs ys Ts Us, x = .ref a ∧ y = .ref b ∧ SqX t K H a xs ∧ SqX t K H b ys ∧ T = .seq t Ts ∧ U = .seq t Us ∧ xs.length = Ts.length ∧ ys.length = Us.length ∧ xs.length ≤ sizeLine ∧
      (∀ (i : Nat) (x' : V) (T' : Tr), xs[i]? = some x' → Ts[i]? = some T' → AtD K H d x' T') ∧ ∀ (i : Nat) (x' : V) (T' : Tr), ys[i]? = some x' → Us[i]? = some T' → AtD K H d x' T' := by
  have lf : ∀ {v : V}, flatV v = true → tyB "list" v = false ∧ tyB "tuple" v = false := fun {v} f => by
    cases v <;> first | exact ⟨rfl, rfl⟩ | exact absurd f Bool.false_ne_true
  rcases ax with ⟨fx, rfl⟩ | ⟨t, a, xs, Ts, rfl, qa, rfl, la, za, ha⟩
  · rcases ay with ⟨fy, rfl⟩ | ⟨t, b, ys, Us, rfl, qb, rfl, lb, _, hb⟩
    · rcases h with h | h <;> exact absurd h Bool.false_ne_true
    · exfalso
      have l := lf fx
      cases t
      · exact absurd (show false = true from l.1.symm.trans e1) Bool.false_ne_true
      · exact absurd (show false = true from l.2.symm.trans e2) Bool.false_ne_true
  · rcases ay with ⟨fy, rfl⟩ | ⟨t', b, ys, Us, rfl, qb, rfl, lb, _, hb⟩
    · exfalso
      have l := lf fy
      cases t
      · exact absurd (show true = false from e1.trans l.1) (by decide)
      · exact absurd (show true = false from e2.trans l.2) (by decide)
    · have : t = t' := by
        cases t <;> cases t' <;> first | rfl | exact absurd (show true = false from e1) (by decide) | exact absurd (show false = true from e1) (by decide)
      subst this
      exact ⟨t, a, b, xs, ys, Ts, Us, rfl, rfl, qa, qb, rfl, rfl, la, lb, za, ha, hb⟩
theorem dB {a b : Bool} : decide (V.bl a = V.bl b) = decide (a = b) := by cases a <;> cases b <;> rfl
def spSameT (K : PySem.W.Frag) (d : Nat) : Sp := fun vs H Q _ => ∃ x y T U, vs = [x, y] ∧ AtD K H d x T ∧ AtD K H d y U ∧ ∀ H', Same H H' → Q (.bl (decide (T = U))) H'
theorem Same.alloc {H H1 : Hp} {a : Addr} {o : HO} (x : Same H H1) (h : H1 a = none) : Same H (upd H1 a o) := fun b u e => by rw [upd_ne (ne_of_none (x b u e) h)]; exact x b u e
theorem scal_flat {x y : V} (fx : flatV x = true) (fy : flatV y = true) (hx : ¬ tyB "bool" x = true) (hy : ¬ tyB "bool" y = true) : scal x y = true := by
  cases x <;> first | exact absurd fx Bool.false_ne_true | exact absurd rfl hx | (cases y <;> first | rfl | exact absurd fy Bool.false_ne_true | exact absurd rfl hy)

/-! ### min, max of a list of numbers -/
section
variable {X : Cx}
/-- a tuple of targets in a comprehension's block -/
theorem pg_tupK {K : PySem.W.Frag} {es : List Expr} {k : Nat} {pos : Pos} {t : TGs} (n : Nat) (hK : X.K = K) (hc : X.calm = true) (h : PGs X es t)
    (hn : (assignEach es X.env).length = n) (hst : (assignEach es X.env).findIdx? (·.1) = none) : PG X (.Tuple es k pos) (gTup K n t) := by
  subst hK
  exact pg_tup hc h hn hst
theorem call_min1 (hc : X.calm = true) : CallR X (.builtin "min") (fun xs H Q => ∃ (p : Addr) (ns : List Int), xs = [.ref p] ∧ SqL X.K H p (ns.map V.int) ∧ 0 < ns.length ∧ ∀ M, M ∈ ns → (∀ a ∈ ns, M ≤ a) → Q (.int M) H) := by
  intro pins s σ H xs us Q I r h
  obtain ⟨p, ns, rfl, hq, hn, q⟩ := h
  obtain ⟨u, rfl, rx⟩ := vals1 r
  cases rx
  obtain ⟨its, rv, pl, hz⟩ := I.list hq
  have hi : IntsAre its ns := intsAre_of rv
  obtain ⟨zs, ez⟩ := hi.allInts.items
  have en : ns = zs.toList.map (·.1) := by rw [← hi.numsOf, ← nums_intItems, ← ez]
  have hz0 : 0 < zs.size := by rw [en, List.length_map, Array.length_toList] at hn; exact hn
  have hl := pl.isList
  rw [ez] at hl
  refine min_intList (I.ok.hd hc) hl hz0 fun v h' tk hv hk => ?_
  obtain ⟨t, rfl⟩ := intItems_at hv
  obtain ⟨h1, h2⟩ := argBest_lt (numAt zs) (zs.size - 1)
  refine ⟨.int _, H, I.kept hk, ⟨t, rfl⟩, q _ ?_ fun a ha => ?_⟩
  · rw [en, numAt_eq]
    exact getD_mem (by rw [List.length_map, Array.length_toList]; omega)
  · rw [en] at ha
    obtain ⟨j, hj, rfl⟩ := mem_getD ha
    rw [List.length_map, Array.length_toList] at hj
    have := h2 j (by omega)
    rw [numAt_eq zs j] at this
    exact this
theorem call_max1 (hc : X.calm = true) : CallR X (.builtin "max") (fun xs H Q => ∃ (p : Addr) (ns : List Int), xs = [.ref p] ∧ SqL X.K H p (ns.map V.int) ∧ 0 < ns.length ∧ ∀ M, M ∈ ns → (∀ a ∈ ns, a ≤ M) → Q (.int M) H) := by
  intro pins s σ H xs us Q I r h
  obtain ⟨p, ns, rfl, hq, hn, q⟩ := h
  obtain ⟨u, rfl, rx⟩ := vals1 r
  cases rx
  obtain ⟨its, rv, pl, hz⟩ := I.list hq
  have hi : IntsAre its ns := intsAre_of rv
  obtain ⟨zs, ez⟩ := hi.allInts.items
  have en : ns = zs.toList.map (·.1) := by rw [← hi.numsOf, ← nums_intItems, ← ez]
  have hz0 : 0 < zs.size := by rw [en, List.length_map, Array.length_toList] at hn; exact hn
  have hl := pl.isList
  rw [ez] at hl
  refine max_intList (I.ok.hd hc) hl hz0 fun v h' tk hv hk => ?_
  obtain ⟨t, rfl⟩ := intItems_at hv
  obtain ⟨h1, h2⟩ := argBest_gt (numAt zs) (zs.size - 1)
  refine ⟨.int _, H, I.kept hk, ⟨t, rfl⟩, q _ ?_ fun a ha => ?_⟩
  · rw [en, numAt_eq]
    exact getD_mem (by rw [List.length_map, Array.length_toList]; omega)
  · rw [en] at ha
    obtain ⟨j, hj, rfl⟩ := mem_getD ha
    rw [List.length_map, Array.length_toList] at hj
    have := h2 j (by omega)
    rw [numAt_eq zs j] at this
    exact this
end
end L2
/-! ranges of any size, with a step -/
namespace L2
open PySem PySem.Spec PyProof.Rows
/-- lo, lo + c, .. (n of them) -/
def Itg (lo c : Int) (n : Nat) : It := ⟨fun i _ => i < n, fun i H x H' => H' = H ∧ x = .int (lo + i * c), fun i _ => n ≤ i⟩
/-- how many numbers range(i, j, c) has, c > 0 -/
def rgN (i j c : Int) : Nat := (if i < j then (j - i - 1) / c + 1 else 0).toNat
section
variable {X : Cx} {tg : Expr}
def iRng3 (ta : TA) : TI := fun σ H R => ta σ H fun vs H1 => ∃ i j k : Int, vs = [.int i, .int j, .int k] ∧ 0 < k ∧ BigOk k ∧ R (Itg i k (rgN i j k)) H1
def iRng2L (ta : TA) : TI := fun σ H R => ta σ H fun vs H1 => ∃ i j : Int, vs = [.int i, .int j] ∧ R (Itg i 1 (rgN i j 1)) H1
end
end L2
/-! sorted; == of None and tuples -/
namespace L2
open PySem PySem.Spec PyProof.Rows
theorem vals_ofInts {us : List Value} {ns : List Int} (h : IntsAre us ns) : Vals (ns.map V.int) us := by
  induction h with
  | nil => exact .nil
  | cons n t _ ih => exact .cons ⟨t, rfl⟩ ih
section
variable {X : Cx}
theorem call_sortedI : CallR X (.builtin "sorted") (fun xs H Q => ∃ (p : Addr) (ns : List Int), xs = [.ref p] ∧ SqL X.K H p (ns.map V.int) ∧ ns.length < 64 ∧
    ∀ (ns' : List Int) (l : Addr), ns'.Perm ns → ns'.Pairwise (· ≤ ·) → H l = none → Q (.ref l) (upd H l (.lst (ns'.map V.int)))) := by
  intro pins s σ H xs us Q I r h
  obtain ⟨p, ns, rfl, hq, h64, q⟩ := h
  obtain ⟨u, rfl, rx⟩ := vals1 r
  cases rx
  obtain ⟨its, rv, pl, hz⟩ := I.list hq
  have hi : IntsAre its ns := intsAre_of rv
  have hll := rv.length
  rw [List.length_map] at hll
  refine sorted_ints pl.isList hi (by omega) fun out ns' a1 a2 a3 => ?_
  obtain ⟨e, he⟩ := sortedAll_at s.heap its out
  have hlen := a2.length_eq
  refine ⟨.ref (s.heap.objs.size + 1), _, I.laid (t' := s.toks) (fun b o e => sortedAll_old e) (Nat.le_succ _) (show ObjOk X.prog X.w _ _ _ (.lst (ns'.map V.int)) from ⟨?_, out.toList, e, vals_ofInts a1, he⟩), rfl, q ns' _ a2 a3 (I.hok.fresh (Nat.le_succ _))⟩
  rw [List.length_map, hlen]
  exact Nat.le_of_lt (Nat.lt_trans h64 (by decide))
/-- len, within a comprehension -/
def rLen (K : PySem.W.Frag) : List V → Hp → VK → Prop := fun xs H Q => ∃ p ys, xs = [.ref p] ∧ (SqL K H p ys ∨ SqT K H p ys) ∧ Q (.int ys.length) H
/-- None, or a tuple of flat things -/
def OV (K : PySem.W.Frag) (H : Hp) (x : V) (o : Option (List V)) : Prop := (x = .non ∧ o = none) ∨ ∃ p xs, x = .ref p ∧ SqT K H p xs ∧ xs.all flatV = true ∧ o = some xs
def eqO : Option (List V) → Option (List V) → Bool
  | none, none => true
  | some xs, some ys => eqVs xs ys
  | _, _ => false
def rEqO (K : PySem.W.Frag) (neg : Bool) : R2 := fun x y H Q => ∃ o o', OV K H x o ∧ OV K H y o' ∧ Q (.bl (if neg then !eqO o o' else eqO o o')) H
end
end L2
/-! exceptions of the text's own classes: raised in a def, leaving it, landing in a try of the caller -/
namespace L2
open PySem PySem.Spec PyProof.Rows

/-! ### a heap without some addresses -/
def goneO (o : Obj) : Obj := { o with data := .freed }
def lessH (h : Heap) (p : Addr → Bool) : Heap := ⟨h.objs.mapIdx fun i o => if p i then goneO o else o, h.life⟩
/-! ### records that are new to the whole def may turn -/
def Cx.more (X : Cx) (ch : List Addr) : Cx := { X with ex := ch ++ X.ex }
section
variable {X : Cx} {pins : List (Addr × Obj)} {σ : St} {H H' : Hp} {s : Shared} {ch : List Addr}
theorem Inv.more (I : Inv X pins σ H s) (h : ∀ b ∈ ch, X.s₀.heap.get? b = none ∧ b ≠ X.env.locals ∧ (∀ x c, X.env.cells.lookup x = some c → c ≠ b)) : Inv (X.more ch) pins σ H s := by
  have ok := I.ok
  have nb : ∀ b o, X.base.get? b = some o → b ∉ ch := fun b o e z => by
    have := (ok.bs b o e).1
    rw [(h b z).1] at this; cases this
  have nf : ∀ b ∈ ch, b ∉ X.fs := fun b z hb => by
    obtain ⟨_, o, ho, _⟩ := ok.funs.mem hb
    rw [(h b z).1] at ho; cases ho
  refine ⟨⟨ok.mod, ok.kind, ok.glob, ok.blt, ok.above, ok.inj, ok.has, ok.cab, ok.hd, ok.frames, ok.stk, fun b hb => ?_, ok.bs, ok.bsz, fun b o e hb => ?_, fun b hb => ?_, ok.funs, ok.frf⟩, I.os, I.bare, ?_, I.loc, I.cell, I.free, I.freeC, I.pin, I.hok, I.len⟩
  · rcases List.mem_append.mp hb with z | z
    · exact ⟨(h b z).2.1, (h b z).2.2⟩
    · exact ok.exf b z
  · rcases List.mem_append.mp hb with z | z
    · exact nb b o e z
    · exact ok.noex b o e z
  · rcases List.mem_append.mp hb with z | z
    · exact nf b z
    · exact ok.exfs b z
  · have r : ∀ {b : Addr}, b ∉ ch ++ X.ex → b ∉ X.ex := fun n z => n (List.mem_append_right _ z)
    exact ⟨fun b o e n hb hx => I.base.keep b o e n hb (r hx), fun b o e n hb hx => I.base.slot b o e n hb (r hx), fun b o e n hx => I.base.free b o e n (r hx), fun b o e hx => I.base.there b o e (r hx), I.base.tups, I.base.frzs, I.base.tbls⟩
theorem Inv.less (I : Inv (X.more ch) pins σ H s) (h : ∀ b ∈ ch, X.s₀.heap.get? b = none) : Inv X pins σ H s := by
  have ok := I.ok
  have r : ∀ {b : Addr} {o : Obj}, X.s₀.heap.get? b = some o → b ∉ X.ex → b ∉ ch ++ X.ex := fun {b o} e n z => by
    rcases List.mem_append.mp z with z | z
    · rw [h b z] at e; cases e
    · exact n z
  exact ⟨⟨ok.mod, ok.kind, ok.glob, ok.blt, ok.above, ok.inj, ok.has, ok.cab, ok.hd, ok.frames, ok.stk, fun b hb => ok.exf b (List.mem_append_right _ hb), ok.bs, ok.bsz, fun b o e hb => ok.noex b o e (List.mem_append_right _ hb), fun b hb => ok.exfs b (List.mem_append_right _ hb), ok.funs, ok.frf⟩,
    I.os, I.bare, ⟨fun b o e n hb hx => I.base.keep b o e n hb (r e hx), fun b o e n hb hx => I.base.slot b o e n hb (r e hx), fun b o e n hx => I.base.free b o e n (r e hx), fun b o e hx => I.base.there b o e (r e hx), I.base.tups, I.base.frzs, I.base.tbls⟩, I.loc, I.cell, I.free, I.freeC, I.pin, I.hok, I.len⟩
end
end L2
/-! an exception noted by a frame, what else is known of its object kept -/
namespace L2
open PySem PySem.Spec PyProof.Rows

/-- the exception at e, Φ its object; its newest entry at T, held by fl -/
def FlyP (Φ : Obj → Prop) (fl : Value) (h : Heap) (e T : Addr) : Prop :=
  ∃ oe vs oT ts, h.get? e = some oe ∧ Φ oe ∧ oe.data = .fields vs ∧ vs[1]? = some (Value.ref T) ∧ T ≠ e ∧ h.get? T = some oT ∧ oT.data = .fields ts ∧ ts[3]? = some fl
/-- only the exception, its entry, the frames' slots have changed -/
structure Noted (l : List Env) (ch : List Addr) (h h' : Heap) : Prop where
  keep : ∀ b o, b ∉ frs l → b ∉ ch → h.get? b = some o → h'.get? b = some o
  slot : ∀ b o, b ∈ frs l → b ∉ ch → h.get? b = some o → ∃ sl, h'.get? b = some { o with slots := sl }
theorem Noted.trans {l : List Env} {ch ch' : List Addr} {h h1 h2 : Heap} (a : Noted l ch h h1) (b : Noted l ch' h1 h2) : Noted l (ch ++ ch') h h2 where
  keep := fun c o n1 n2 e => b.keep c o n1 (fun z => n2 (List.mem_append_right _ z)) (a.keep c o n1 (fun z => n2 (List.mem_append_left _ z)) e)
  slot := fun c o n1 n2 e => by
    obtain ⟨sl, q⟩ := a.slot c o n1 (fun z => n2 (List.mem_append_left _ z)) e
    obtain ⟨sl', q'⟩ := b.slot c _ n1 (fun z => n2 (List.mem_append_right _ z)) q
    exact ⟨sl', q'⟩
section
variable {M : Model} {A : Around} {E : Value → Shared → Prop} {s : Shared} {Φ : Obj → Prop} {base : Heap} {env : Env} {outer : List Env} {L e : Addr} {oe : Obj} {vs : Array Value} {Q : Unit → Shared → Prop}
theorem entryP {head : Value} {hadNext : Bool} (hfr : A.frames = some (env :: outer)) (hl : s.heap.FunFrames base (env :: outer)) (hf : env.frame = some L)
    (he : s.heap.get? e = some oe) (hd : oe.data = .fields vs) (hsz : 1 < vs.size) (hΦ : ∀ x, Φ (Obj.mapFields (·.setIfInBounds 1 x) oe))
    (h : ∀ h' T, Noted (env :: outer) [e] s.heap h' → s.heap.get? T = none → FlyP Φ (rawInt L) h' e T → Q () { s with heap := h' }) :
    wpAny M A (do let a ← frameOf env; let pl ← entryPlaceOf L hadNext; let b ← EntryCells.newEntry head a .none (rawInt L) .none pl; setField (.ref e) 1 b) Q E s := by
  have en : e ∉ frs (env :: outer) := fun hm => by
    obtain ⟨_, o, ho, hnf⟩ := hl.mem hm
    rw [he] at ho; cases ho; exact hnf vs hd
  refine wpAny_bind (wpAny_frameOf_fun hfr hl hf fun h₁ hs₁ => ?_)
  refine wpAny_bind (wpAny_entryPlaceOf fun pl hpl => ?_)
  unfold EntryCells.newEntry newFields
  refine wpAny_bind (wpAny_newObj_type ?_ (hpl.sizeOk5 _ _ _ _ _))
  have he₁ : h₁.get? e = some oe := (hs₁.2.1 e en).trans he
  generalize ho : ({ cls := .type "traceback", dict := none, data := .fields ([head, .ref L, .none, rawInt L, .none] ++ (if pl.isEmpty then List.replicate 6 Value.none else pl)).toArray } : Obj) = oT
  have hoT : oT.data = .fields ([head, .ref L, .none, rawInt L, .none] ++ (if pl.isEmpty then List.replicate 6 Value.none else pl)).toArray := by rw [← ho]
  have he₂ := Heap.get?_push_of_some (h := h₁) oT he₁
  refine wpAny_setField he₂ hd hsz ?_
  have hTe : h₁.objs.size ≠ e := Nat.ne_of_gt (Heap.lt_size he₁)
  have hd₃ := Obj.data_mapFields hd (·.setIfInBounds 1 (Value.ref h₁.objs.size))
  refine h _ h₁.objs.size ⟨fun b o nb ne q => ?_, fun b o nb ne q => ?_⟩ ?_ ⟨_, _, oT, _, Heap.get?_update_self _ he₂ (Obj.isFreed_of_fields hd₃), hΦ _, hd₃, ?_, hTe, ?_, hoT, ?_⟩
  · rw [Heap.get?_update_other _ _ (Ne.symm (fun z => ne (by simp [z])))]
    exact Heap.get?_push_of_some _ ((hs₁.2.1 b nb).trans q)
  · obtain ⟨sl, r⟩ := hs₁.2.2 b o q
    refine ⟨sl, ?_⟩
    rw [Heap.get?_update_other _ _ (Ne.symm (fun z => ne (by simp [z])))]
    exact Heap.get?_push_of_some _ r
  · exact Heap.get?_none_of_le (by rw [hs₁.1]; exact Nat.le_refl _)
  · simp [hsz]
  · rw [Heap.get?_update_other _ _ (Ne.symm hTe)]
    exact Heap.get?_push_size _ (by rw [← ho]; rfl)
  · first | (simp; done) | (rcases hpl with rfl | ⟨_, _, _, _, _, _, _, rfl⟩ <;> simp)
/-- no frame holds it any more -/
theorem flightP {fl : Value} {T : Addr} (f : FlyP Φ fl s.heap e T) (h : ∀ h', (∀ b o, b ≠ T → s.heap.get? b = some o → h'.get? b = some o) → FlyP Φ .none h' e T → Q () { s with heap := h' }) : wpAny M A (setFlight (.ref e) none) Q E s := by
  obtain ⟨oe, vs, oT, ts, he, p, hd, h1, hTe, hT, hdT, h3⟩ := f
  have hsz3 : 3 < ts.size := (Array.getElem?_eq_some_iff.mp h3).1
  unfold setFlight
  refine wpAny_bind (wpAny_field he hd h1 ?_)
  rw [if_pos (show (Value.ref T != Value.none) = true from by simp)]
  refine wpAny_setField hT hdT hsz3 (h _ (fun b o nb q => (Heap.get?_update_other _ _ (Ne.symm nb)).trans q) ⟨oe, vs, _, _, (Heap.get?_update_other _ _ hTe).trans he, p, hd, h1, hTe, Heap.get?_update_self _ hT (Obj.isFreed_of_fields (Obj.data_mapFields hdT _)), Obj.data_mapFields hdT _, ?_⟩)
  simp [hsz3]
/-- the first frame that it leaves -/
theorem leaveP (hfr : A.frames = some (env :: outer)) (hl : s.heap.FunFrames base (env :: outer)) (hf : env.frame = some L)
    (he : s.heap.get? e = some oe) (hd : oe.data = .fields vs) (h1 : vs[1]? = some .none) (hΦ : ∀ x, Φ (Obj.mapFields (·.setIfInBounds 1 x) oe))
    (h : ∀ h' T, Noted (env :: outer) [e, T] s.heap h' → s.heap.get? T = none → FlyP Φ .none h' e T → Q () { s with heap := h' }) : wpAny M A (leaving env (.ref e)) Q E s := by
  unfold leaving noteFrame
  simp only [hf]
  refine wpAny_bind (wpAny_bind (wpAny_field he hd h1 ?_))
  rw [if_neg (by decide)]
  refine entryP hfr hl hf he hd (Array.getElem?_eq_some_iff.mp h1).1 hΦ fun h2 T n tn f => ?_
  refine flightP (s := { s with heap := h2 }) f fun h3 k f3 => h h3 T ⟨fun b o nb ne q => ?_, fun b o nb ne q => ?_⟩ tn f3
  · exact k b o (fun z => ne (by simp [z])) (n.keep b o nb (fun z => ne (by simp at z; simp [z])) q)
  · obtain ⟨sl, r⟩ := n.slot b o nb (fun z => ne (by simp at z; simp [z])) q
    exact ⟨sl, k b _ (fun z => ne (by simp [z])) r⟩
/-- a further frame notes it -/
theorem noteP {T : Addr} (hfr : A.frames = some (env :: outer)) (hl : s.heap.FunFrames base (env :: outer)) (hf : env.frame = some L) (f : FlyP Φ .none s.heap e T) (hΦ : ∀ o x, Φ o → Φ (Obj.mapFields (·.setIfInBounds 1 x) o))
    (h : ∀ h' T', Noted (env :: outer) [e, T] s.heap h' → s.heap.get? T' = none → FlyP Φ (rawInt L) h' e T' → Q () { s with heap := h' }) : wpAny M A (noteFrame (.ref e) env) Q E s := by
  obtain ⟨oe, vs, oT, ts, he, p, hd, h1, hTe, hT, hdT, h3⟩ := f
  unfold noteFrame
  simp only [hf]
  refine wpAny_bind (wpAny_field he hd h1 ?_)
  rw [if_pos (show (Value.ref T != Value.none) = true from by simp)]
  refine wpAny_bind (wpAny_field hT hdT h3 ?_)
  rw [if_neg (show ¬ ((Value.none == rawInt L) = true) from by simp [rawInt])]
  refine wpAny_bind (wpAny_setField hT hdT (Array.getElem?_eq_some_iff.mp h3).1 ?_)
  have other : ∀ b, b ≠ T → (s.heap.update T (Obj.mapFields (·.setIfInBounds 3 Value.none))).get? b = s.heap.get? b := fun b hb => Heap.get?_update_other _ _ (Ne.symm hb)
  have nT : ∀ b, b ∈ frs (env :: outer) → b ≠ T := fun b hb z => by
    obtain ⟨_, o, ho, hnf⟩ := hl.mem hb
    rw [z, hT] at ho; cases ho; exact hnf ts hdT
  refine entryP (s := { s with heap := s.heap.update T (Obj.mapFields (·.setIfInBounds 3 Value.none)) }) (base := base) hfr (hl.of_keeps fun b o hb hnf => ⟨o, (other b fun z => ?_).trans hb, rfl⟩) hf ((other e (Ne.symm hTe)).trans he) hd (Array.getElem?_eq_some_iff.mp h1).1 (fun x => hΦ _ x p)
    fun h2 T' n tn f => h h2 T' ⟨fun b o nb ne q => ?_, fun b o nb ne q => ?_⟩ ?_ f
  · rw [z, hT] at hb; cases hb; exact hnf ts hdT
  · exact n.keep b o nb (fun z => ne (by simp at z; simp [z])) ((other b fun z => ne (by simp [z])).trans q)
  · exact n.slot b o nb (fun z => ne (by simp at z; simp [z])) ((other b fun z => ne (by simp [z])).trans q)
  · by_cases z : T' = T
    · rw [z] at tn
      have := Heap.get?_update_self (Obj.mapFields (·.setIfInBounds 3 Value.none)) hT (Obj.isFreed_of_fields (Obj.data_mapFields hdT _))
      rw [this] at tn; cases tn
    · rw [← other T' z]; exact tn
end
end L2
/-! an exception in flight -/
namespace L2
open PySem PySem.Spec PyProof.Rows

theorem ObjOk.there {P : Program} {w : World} {H : Hp} {h : Heap} {a : Addr} {o : HO} (x : ObjOk P w H h a o) : ∃ ob, h.get? a = some ob := by
  cases o with
  | lst xs => obtain ⟨_, _, _, _, e⟩ := x; exact ⟨_, e⟩
  | tup xs => obtain ⟨_, _, _, ob, e, _⟩ := x; exact ⟨_, e⟩
  | dK kvs => obtain ⟨_, _, _, _, o, _, _, e, _⟩ := x; exact ⟨_, e⟩
  | dT kvs => obtain ⟨_, _, _, _, o, _, _, e, _⟩ := x; exact ⟨_, e⟩
  | set S n => obtain ⟨o, _, _, _, e, _⟩ := x; exact ⟨_, e⟩
  | ins C dx fs => obtain ⟨_, _, _, e, _⟩ := x; exact ⟨_, e⟩
  | own y => obtain ⟨_, e⟩ := x; exact ⟨_, e⟩
  | xd fs => obtain ⟨_, ⟨_, _, _, e, _⟩, _⟩ := x; exact ⟨_, e⟩
  | rng lo hi => obtain ⟨_, _, _, e⟩ := x; exact ⟨_, e⟩
  | frz ob u => obtain ⟨e, _⟩ := x; exact ⟨_, e⟩
  | tbl ps => exact ⟨_, (show h.get? a = some _ from x)⟩
  | met f y => exact ⟨_, (show h.get? a = some _ from x)⟩
  | ext φ => obtain ⟨_, ⟨_, e⟩, _⟩ := x; exact ⟨_, e⟩
theorem HOk.none {P : Program} {w : World} {H : Hp} {h : Heap} {a : Addr} (x : HOk P w H h) (e : h.get? a = none) : H a = none := by
  cases q : H a with
  | none => rfl
  | some u =>
    obtain ⟨ob, z⟩ := (x a u q).there
    rw [e] at z; cases z

/-- an exception's object: all but its newest entry is known -/
def ExP (cls : Value) (o : Obj) : Prop := ∃ (t : Addr) (x : Value), o = { cls := cls, data := .fields #[.ref t, x, .none, .none, .bool false, .none] }
theorem ExP.set {cls : Value} {o : Obj} (h : ExP cls o) (x : Value) : ExP cls (Obj.mapFields (·.setIfInBounds 1 x) o) := by
  obtain ⟨t, y, rfl⟩ := h
  exact ⟨t, x, rfl⟩
/-- how an exception lies behind a call -/
def CXE (P : Program) (w : World) : CXT := fun outer H s E v s' => ∃ (e T : Addr) (cls : Value) (H' : Hp), v = .ref e ∧ s'.os = s.os ∧ AllBare s'.gens ∧ Un (frs outer) [] H H' s.heap s'.heap ∧ HOk P w H' s'.heap ∧
  s.heap.get? e = none ∧ s.heap.get? T = none ∧ H' e = none ∧ H' T = none ∧ FlyP (ExP cls) .none s'.heap e T ∧ E cls none H'

/-- an exception that is made here reaches what this body wants of exceptions -/
def Raises (X : Cx) (E : XK) : Prop := ∀ (pins : List (Addr × Obj)) (σ : St) (H : Hp) (s : Shared) (h' : Heap) (e : Addr) (cls : Value) (us : List Value), Inv X pins σ H s → Heap.MadeExcOf s.heap h' e cls us → E cls none H → X.xe (.ref e) { s with heap := h' }

def tRaise (cls : Value) (E : XK) (t : TA) : TS := fun _ σ H => t σ H fun vs H1 => vs.length ≤ sizeLine ∧ E cls none H1
section
variable {X : Cx} {x : Str} {C : Addr} {bm : List Value} {B newId initId : String} {E : XK} {np cpos pos : Pos} {e₀ : Expr} {rest : List Expr} {t : TA}
theorem ps_raise (O : OwnCls x C bm newId X.mg X.base) (FB : ExcBaseFacts B newId initId bm) (hx : Raises X E) (hc : X.calm = true) (hg : Gl X x) (ha : PA X (e₀ :: rest) t) (hst : isStar e₀ = false := by rfl)
    (hpl : (backTo cpos (starEach rest X.env)).any (·.1) = false := by rfl) (hd : (x == ("__debug__" : Str)) = false := by decide) :
    PS X (.Raise (some (.Call (.Name x np) (e₀ :: rest) [] cpos)) none pos) (tRaise (.ref C) E t) := by
  intro pins s σ H D I h
  obtain ⟨tl, N, nm, q, bs, hdct, sn, sub, ab, col, dd, k0, k1, k2, k3, k5, mN, hC, hN, hni, T⟩ := O.obj
  have he := star_cons (rest := rest) (env := X.env) hst
  refine wpAny_Raise_call_subT (C := C) (nm := nm) (q := q) (N := N) (bs := bs) (bm := tl) (hdct := hdct) (sn := sn) (sub := sub) (ab := ab) (col := col) (dd := dd) (k0 := k0) (k1 := k1) (k2 := k2) (k3 := k3) (k5 := k5)
    FB (mN := mN) (T.hasType FB.hasBase) (I.ok.hd hc) (by rw [he]; show (false || (backTo cpos (starEach rest X.env)).any (·.1)) = false; rw [hpl]; rfl) hni (ld_glob I hg O.bound ⟨rfl, ?_⟩ hd)
  have h2 := ha cpos pins s σ H _ I h
  rw [he] at h2 ⊢
  refine Calls.evalArgs_plain (wpAny_mono h2 (fun us s2 ⟨vs, H2, I2, r, z, q⟩ => ⟨rfl, ?_, I2.bk _ _ hC, hN.keeps I2.bk, T.keeps I2.bk, fun h' e mk => hx pins σ H2 s2 h' e _ us I2 mk q⟩) fun _ _ y => y)
  rw [← r.length]; exact z
end

/-- an exception made in a def leaves it -/
theorem raises_cx {P : Program} {w : World} {K : PySem.W.Frag} {mg : Str → Option Value} {base : Heap} {N : List Str} {qual : Str} {scope : Scope} {f : Addr} {cd : Value} {A : Around} {outer : List Env} {s₀ : Shared} {H₀ : Hp} {E : XK} :
    Raises (cxOf (CXE P w) P w K mg base N qual scope f cd A outer s₀ H₀ E) E := by
  intro pins σ H s h' e cls us I mk q
  have fr := I.ok.frames
  have stk := I.stack
  obtain ⟨m, hn, _⟩ := id I.loc
  have hB := I.base
  have hF := I.stkFree
  have hok := I.hok
  have hos := I.os
  have hbr := I.bare
  have ab := I.ok.above
  have funs := I.funs
  change (A.deeper (envOfC qual scope s₀.heap.objs.size f cd)).frames = some (envOfC qual scope s₀.heap.objs.size f cd :: outer) at fr
  change s.heap.FunFrames base (envOfC qual scope s₀.heap.objs.size f cd :: outer) at stk
  change s.heap.Ns s₀.heap.objs.size m at hn
  change Un (frs outer) [] H₀ H s₀.heap s.heap at hB
  change ∀ b ∈ frs (envOfC qual scope s₀.heap.objs.size f cd :: outer), H b = none at hF
  change HOk P w H s.heap at hok
  change s.os = s₀.os at hos
  change s.heap.FunFrames base outer at funs
  show wpAny (model P w) (A.deeper (envOfC qual scope s₀.heap.objs.size f cd)) (leaving (envOfC qual scope s₀.heap.objs.size f cd) (.ref e)) (fun _ s'' => CXE P w outer H₀ s₀ E (.ref e) s'') _ { s with heap := h' }
  obtain ⟨t, heE, htn, ht⟩ := mk.there
  have stk' : h'.FunFrames base (envOfC qual scope s₀.heap.objs.size f cd :: outer) := stk.of_keeps fun b o hb _ => ⟨o, mk.keeps b o hb, rfl⟩
  have frsE : frs (envOfC qual scope s₀.heap.objs.size f cd :: outer) = s₀.heap.objs.size :: frs outer := rfl
  refine leaveP (Φ := ExP cls) (L := s₀.heap.objs.size) fr stk' rfl heE rfl rfl (fun x => ⟨t, x, rfl⟩) fun h2 T n tn fl => ?_
  have eN := mk.new
  have TN : s.heap.get? T = none := by
    cases k : s.heap.get? T with
    | none => rfl
    | some o =>
      have := mk.keeps T o k
      rw [tn] at this; cases this
  have keepB : ∀ b o, b ∉ s₀.heap.objs.size :: frs outer → s.heap.get? b = some o → h2.get? b = some o := fun b o nb q =>
    n.keep b o (by rw [frsE]; exact nb) (fun z => by
      rcases List.mem_cons.mp z with z | z
      · rw [z, eN] at q; cases q
      · rw [show b = T by simpa using z, TN] at q; cases q) (mk.keeps b o q)
  have slotB : ∀ b o, b ∈ frs outer → s.heap.get? b = some o → ∃ sl, h2.get? b = some { o with slots := sl } := fun b o nb q =>
    n.slot b o (by rw [frsE]; exact List.mem_cons_of_mem _ nb) (fun z => by
      rcases List.mem_cons.mp z with z | z
      · rw [z, eN] at q; cases q
      · rw [show b = T by simpa using z, TN] at q; cases q) (mk.keeps b o q)
  have none0 : ∀ b, s.heap.get? b = none → s₀.heap.get? b = none := fun b z => by
    cases k : s₀.heap.get? b with
    | none => rfl
    | some o =>
      obtain ⟨o', e'⟩ := hB.there b o k (by simp)
      rw [z] at e'; cases e'
  have ne0 : ∀ b o, s₀.heap.get? b = some o → b ≠ s₀.heap.objs.size := fun b o e => Nat.ne_of_lt (Heap.lt_size e)
  refine ⟨e, T, cls, H, rfl, hos, hbr, ⟨fun b o e n hb hx => ?_, fun b o e n hb hx => ?_, hB.free, fun b o e hx => ?_, hB.tups, hB.frzs, hB.tbls⟩, fun b u z => ?_, none0 _ eN, none0 _ TN, hok.none eN, hok.none TN, fl, q⟩
  · refine keepB b o (fun z => ?_) (hB.keep b o e n hb hx)
    rcases List.mem_cons.mp z with z | z
    · exact ne0 b o e z
    · exact hb z
  · obtain ⟨s1, e1⟩ := hB.slot b o e n hb hx
    obtain ⟨s2, r⟩ := slotB b _ hb e1
    exact ⟨s2, r⟩
  · obtain ⟨o', e1⟩ := hB.there b o e hx
    by_cases z : b ∈ frs outer
    · obtain ⟨sl, r⟩ := slotB b o' z e1
      exact ⟨_, r⟩
    · refine ⟨o', keepB b o' (fun k => ?_) e1⟩
      rcases List.mem_cons.mp k with k | k
      · exact ne0 b o e k
      · exact z k
  · refine (hok b u z).stay (fun c v hc q => keepB c v (fun k => ?_) q) (fun _ q => q) fun _ _ q => q
    have kn := hF c (by rw [frsE]; exact k)
    rcases hc with r | r
    · rw [r, z] at kn; cases kn
    · rw [r] at kn; cases kn
/-- a def of the text that keeps a promise and may raise -/
def GoodE (P : Program) (w : World) (K : PySem.W.Frag) (mg : Str → Option Value) (base : Heap) (k : Nat) (x : Str) (ps : List Str) (sp : Sp) : Prop :=
  ∃ (f : Addr) (fd : FuncData), FnOk P w K mg base (CXE P w) k f fd ps sp ∧ Binds K fd ps [] ∧ mg x = some (.ref f) ∧ PySem.W.keepIn K (.ref f) = true
theorem pe_fnE {X : Cx} {k : Nat} {x : Str} {ps : List Str} {sp : Sp} {e : Expr} {es : List Expr} {t : TA} {p pos : Pos} {E : XK} (G : GoodE X.prog X.w X.K X.mg X.base k x ps sp) (hr : Room k X.A) (hg : Gl X x) (hx : Passes (CXE X.prog X.w) X E) (ha : PA X (e :: es) t)
    (hdb : (x == ("__debug__" : Str)) = false := by decide) (hst : isStar e = false := by rfl) (hpl : (backTo pos (starEach es X.env)).any (·.1) = false := by rfl) : PE X (.Call (.Name x p) (e :: es) [] pos) (tCall sp [] E t) := by
  obtain ⟨f, fd, F, b, m, kp⟩ := G
  exact pe_call F hr hg m kp b .nil hx ha hdb (star_cons hst) hpl
theorem Has.goodE {P : Program} {w : World} {K : PySem.W.Frag} {mg : Str → Option Value} {base : Heap} {x : Str} {st : Stmt} {N ps : List Str} {k : Nat} {sp : Sp} (h : Has K mg x st) (S : FnScope N ps (defScope st))
    (hb : ∀ (kV doc pm : Value) (an : Option Addr) (cdv ct : Value) (us : List Value), us.length = ps.length → bindArgs (PySem.W.fnOf x x (defArgs st) (defBody st) (defScope st) .none kV doc pm an cdv ct) ⟨us, []⟩ = pure (ps.zip us))
    (len : ∀ vs H Q E, sp vs H Q E → vs.length = ps.length)
    (hbody : ∀ (f : Addr) (cdv : Value) (A : Around) (outer : List Env) (s : Shared) (H : Hp) (vs : List V) (Q : VK) (E : XK), Room k (A.deeper (envOfC x (defScope st) s.heap.objs.size f cdv)) → sp vs H Q E →
      ∃ t, PSs (cxOf (CXE P w) P w K mg base N x (defScope st) f cdv A outer s H E) (defBody st) t ∧ t { nx := fun _ H' => Q .non H', rt := Q } (start N vs) H) : GoodE P w K mg base (k + 1) x ps sp := by
  obtain ⟨f, fd, F, m⟩ := h
  refine ⟨f, fd, ?_, F.binds hb, m, F.kp⟩
  obtain ⟨oc, od, kV, doc, pm, an, cdv, ct, osl, rfl, lk, hcd⟩ := F.ex
  exact fn_of lk hcd S len fun A outer s H vs Q E hr hsp => hbody f cdv A outer s H vs Q E hr hsp
end L2
/-! try: body, one except clause with a name -/
namespace L2
open PySem PySem.Spec PyProof.Rows

def Cx.tr (X : Cx) (pn : List (Addr × Obj)) (xe : Value → Shared → Prop) : Cx := { X with pn := pn, xe := xe }
/-- within the except suite; ch: the exception and its entries -/
def Cx.su (X : Cx) (pn : List (Addr × Obj)) (ch : List Addr) (e : Addr) : Cx := { X with A := X.A.mark (some (.ref e)), calm := false, pn := pn, ex := ch ++ X.ex, xe := fun _ _ => False }
section
variable {X : Cx} {pins pins' : List (Addr × Obj)} {σ : St} {H H' : Hp} {s : Shared} {ch : List Addr} {xe : Value → Shared → Prop} {h' : Heap} {e : Addr}
theorem Inv.tr (I : Inv X pins σ H s) : Inv (X.tr (X.pn ++ pins) xe) [] σ H s :=
  have ok := I.ok
  ⟨⟨ok.mod, ok.kind, ok.glob, ok.blt, ok.above, ok.inj, ok.has, ok.cab, ok.hd, ok.frames, ok.stk, ok.exf, ok.bs, ok.bsz, ok.noex, ok.exfs, ok.funs, ok.frf⟩, I.os, I.bare, I.base, I.loc, I.cell, I.free, I.freeC, fun p hp => I.pin p (by rw [List.append_nil] at hp; exact hp), I.hok, I.len⟩
theorem Inv.untr (I : Inv (X.tr (X.pn ++ pins) xe) pins' σ H s) : Inv X pins σ H s :=
  have ok := I.ok
  ⟨⟨ok.mod, ok.kind, ok.glob, ok.blt, ok.above, ok.inj, ok.has, ok.cab, ok.hd, ok.frames, ok.stk, ok.exf, ok.bs, ok.bsz, ok.noex, ok.exfs, ok.funs, ok.frf⟩, I.os, I.bare, I.base, I.loc, I.cell, I.free, I.freeC, fun p hp => I.pin p (List.mem_append_left _ hp), I.hok, I.len⟩
theorem Inv.su (I : Inv (X.more ch) pins σ H s) : Inv (X.su (X.pn ++ pins) ch e) [] σ H s :=
  have ok := I.ok
  ⟨⟨ok.mod, ok.kind, ok.glob, ok.blt, ok.above, ok.inj, ok.has, ok.cab, (fun z => Bool.noConfusion z), ok.frames, ok.stk, ok.exf, ok.bs, ok.bsz, ok.noex, ok.exfs, ok.funs, ok.frf⟩, I.os, I.bare, I.base, I.loc, I.cell, I.free, I.freeC, fun p hp => I.pin p (by rw [List.append_nil] at hp; exact hp), I.hok, I.len⟩
/-- records that are not of the layer: the exception, its entries -/
structure Far (X : Cx) (pins : List (Addr × Obj)) (H : Hp) (b : Addr) : Prop where
  s0 : X.s₀.heap.get? b = none
  un : H b = none
  ne : b ≠ X.env.locals
  nc : ∀ x c, X.env.cells.lookup x = some c → c ≠ b
  np : ∀ p ∈ X.pn ++ pins, p.1 ≠ b
theorem Inv.noted (I : Inv X pins σ H s) (hch : ∀ b ∈ ch, Far X pins H b) (n : Noted X.stack ch s.heap h') : Inv X pins σ H { s with heap := h' } := by
  have J := I.more (ch := ch) fun b hb => ⟨(hch b hb).s0, (hch b hb).ne, (hch b hb).nc⟩
  have K := J.call (h' := h') (H' := H) (g' := s.gens) (t' := s.toks) (d' := s.drawn) (ch := ch) ⟨fun b o e _ hb hx => n.keep b o hb hx e, fun b o e _ hb hx => n.slot b o hb hx e, fun _ _ _ z _ => z, fun b o e hx => ?_, fun _ _ z => z, fun _ _ _ z => z, fun b ps z => ⟨#[], by rw [z]; simp⟩⟩ ?_ I.bare
    (fun b hb => ⟨.inl (List.mem_append_left _ hb), (hch b hb).ne, (hch b hb).nc, (hch b hb).np⟩)
  · exact K.less fun b hb => (hch b hb).s0
  · by_cases z : b ∈ frs X.stack
    · obtain ⟨sl, q⟩ := n.slot b o z hx e
      exact ⟨_, q⟩
    · exact ⟨o, n.keep b o z hx e⟩
  · intro b u z
    refine (I.hok b u z).stay (fun c v hc q => ?_) (fun _ q => q) fun _ _ q => q
    have nn : H c ≠ none := by
      rcases hc with r | r
      · rw [r, z]; exact fun k => by cases k
      · rw [r]; exact fun k => by cases k
    exact n.keep c v (fun k => nn (I.stkFree c k)) (fun k => nn (hch c k).un) q
/-- a name goes -/
theorem Inv.gone {i : Nat} {n : Str} {t' : Nat} (I : Inv X pins σ H s) (hN : X.N.Nodup) (hi : X.N[i]? = some n) {m' : Str → Option Value} (hn : ∀ m, s.heap.Ns X.env.locals m → ∃ v, h'.Ns X.env.locals (fun x => if x = n then v else m x)) (hs : Heap.SameBut X.env.locals s.heap h') :
    Inv X pins (σ.set i none) H { s with heap := h', toks := t' } := by
  obtain ⟨m, hm, hl⟩ := id I.loc
  obtain ⟨v0, hm'⟩ := hn m hm
  have neL : ∀ b o, X.s₀.heap.get? b = some o → b ≠ X.env.locals := fun b o e => Nat.ne_of_lt (Nat.lt_of_lt_of_le (Heap.lt_size e) I.ok.above)
  refine ⟨I.ok, I.os, I.bare, ⟨fun b o e n hb hx => (hs.2 b (neL b o e)).trans (I.base.keep b o e n hb hx), fun b o e n hb hx => ?_, I.base.free, fun b o e hx => ?_, I.base.tups, I.base.frzs, I.base.tbls⟩, ⟨_, hm', fun j y v e1 e2 e3 => ?_⟩, fun y c e => ?_, I.free, I.freeC, fun p hp => ?_, fun b u z => ?_, by simpa using I.len⟩
  · obtain ⟨sl, q⟩ := I.base.slot b o e n hb hx
    exact ⟨sl, (hs.2 b (neL b o e)).trans q⟩
  · obtain ⟨o', q⟩ := I.base.there b o e hx
    exact ⟨o', (hs.2 b (neL b o e)).trans q⟩
  · by_cases hj : j = i
    · subst hj
      exfalso
      rw [List.getElem?_set] at e2
      simp at e2
    · rw [List.getElem?_set_ne (Ne.symm hj)] at e2
      obtain ⟨u, r, q⟩ := hl j y v e1 e2 e3
      refine ⟨u, r, ?_⟩
      rcases q with ⟨k, q⟩ | ⟨k, c, q, z⟩
      · refine .inl ⟨k, ?_⟩
        have : y ≠ n := fun e => hj (nodup_ix hN e1 (e ▸ hi))
        simp [this, q]
      · exact .inr ⟨k, c, q, z.sameBut hs (I.cne y c q)⟩
  · obtain ⟨v, z⟩ := I.cell y c e
    exact ⟨v, z.sameBut hs (I.cne y c e)⟩
  · obtain ⟨e, n, ne, nf, d⟩ := I.pin p hp
    exact ⟨(hs.2 p.1 ne).trans e, n, ne, nf, d⟩
  · refine (I.hok b u z).stay (fun c v hc q => (hs.2 c ?_).trans q) (fun _ q => q) fun _ _ q => q
    rintro rfl
    have := I.free
    rcases hc with r | r
    · rw [r, z] at this; cases this
    · rw [r] at this; cases this
end
end L2
/-! isinstance of an exception of an own class -/
namespace L2
open PySem PySem.Spec PySem.Calls PyProof.Rows PySem.W

/-- what the top says of an own class of exceptions -/
structure XCls (K : Frag) (D : Addr) : Prop where
  ga : findIn K (.ref D) "__getattribute__" = some (some (.builtin "BaseException.__getattribute__"))
  gt : findIn K (.ref D) "__getattr__" = some none
  cl : findIn K (.ref D) "__class__" = some (some (.builtin "object.__class__"))
  mo : mroIn K D (.type "object") = some true
  mb : mroIn K D (.type "BaseException") = some true
theorem ic_of {K : Frag} {D : Addr} {b : Value} {r : Bool} (h : mroIn K D b = some r) : (clsIn K D).isSome = true := by
  obtain ⟨cd, a, _⟩ := Option.bind_eq_some_iff.mp h
  rw [a]; rfl
theorem XCls.ic {K : Frag} {D : Addr} (x : XCls K D) : (clsIn K D).isSome = true := ic_of x.mo
section
variable {prog : Program} {w : World} {A : Around} {E : Value → Shared → Prop} {s : Shared} {K : Frag} {x D : Addr} {ox : Obj}
theorem exc_find (hc : (clsIn K D).isSome = true) {name : Str} {a g : Value} (ha : findIn K (.ref D) name = some (some a)) (hg : specialIn K a "__get__" = some (some g)) (ht : takesIn K a = some true) : findObj K D none name = some (.bind g a) := by
  obtain ⟨cd, hc⟩ := Option.isSome_iff_exists.mp hc
  unfold findObj
  rw [hc, Option.bind_some, ha, Option.bind_some]
  simp [hg, ht]
theorem exc_entry {tk : Tok} {Q : Fin → Shared → Prop} (FX : XCls K D) (hn : specialIn K (.builtin "object.__class__") "__get__" = some (some (.builtin "getset_descriptor.__get__"))) (htk : takesIn K (.builtin "object.__class__") = some true)
    (X : K.In s.heap) (I : InstAt s.heap x ox D none) (h : Q (.done (.ret (.ref D))) s) : wpAny (model prog w) A (Builtin.«object.__getattribute__» ⟨[.ref x, .str "__class__" tk], []⟩) Q E s := by
  obtain ⟨hh, g, d, t, os⟩ := s
  have L0 := I.type (M := model prog w)
  have L1 := looks_find (M := model prog w) X I (exc_find FX.ic FX.cl hn htk)
  refine wpAny_bind (wpAny_pure ?_)
  refine wpAny_bind (wpAny_pure ?_)
  refine wpAny_bind (L0.at (wpAny_bind (L1.at ?_)))
  show wpAny _ _ (holding [_] (PySem.call (.builtin "getset_descriptor.__get__") [.builtin "object.__class__", .ref x, .ref D]) >>= ret) _ _ _
  exact wpAny_bind (wpAny_holding (wpAny_call (class_get X I FX.mo (wpAny_pure h))))
theorem exc_check {M : Model} {nameV : Value} {Q : Unit → Shared → Prop} (FX : XCls K D) (X : K.In s.heap) (I : InstAt s.heap x ox D none) (hq : Q () s) : wpAny M A (checkBuiltinCall "BaseException.__getattribute__" ⟨[.ref x, nameV], []⟩) Q E s := by
  obtain ⟨hh, g, d, t, os⟩ := s
  have L0 := I.type (M := M)
  have L1 := looks_mroIn (M := M) X FX.mb
  have hk : builtinKind "BaseException.__getattribute__" = some .slot := by decide +kernel
  have hsplit : splitId "BaseException.__getattribute__" = some ("BaseException", "__getattribute__") := by decide +kernel
  have ha := F.args_bexc_ga (.ref x) nameV
  simp only [checkBuiltinCall, hk, hsplit]
  refine wpAny_bind ((L0.andThen L1).at ?_)
  repeat (first | assumption | wp_step)
theorem exc_class {Q : Option Value → Shared → Prop} (FX : XCls K D) (hn : specialIn K (.builtin "object.__class__") "__get__" = some (some (.builtin "getset_descriptor.__get__"))) (htk : takesIn K (.builtin "object.__class__") = some true)
    (X : K.In s.heap) (I : InstAt s.heap x ox D none) (h : Q (some (.ref D)) { s with toks := s.toks + 1 }) : wpAny (model prog w) A (getAttr? (.ref x) "__class__") Q E s := by
  obtain ⟨hh, g, d, t, os⟩ := s
  have L0 := I.type (M := model prog w)
  have L1 := looks_findIn (M := model prog w) X FX.ga
  have L2 := looks_findIn (M := model prog w) X FX.gt
  unfold getAttr? getAttrBy? getAttrBy
  refine wpAny_bind (wpAny_mkText (wpAny_bind (wpAny_attempt (wpAny_holding (wpAny_bind (L0.at (wpAny_bind (L1.at ?_))))))))
  show wpAny _ _ (getAttrByItsOwn (.ref x) (.str "__class__" t) (.ref D) (.builtin "BaseException.__getattribute__") false false) _ _ _
  unfold getAttrByItsOwn
  refine wpAny_bind (L2.at ?_)
  refine wpAny_bind (wpAny_attempt (wpAny_holding ?_))
  show wpAny _ _ (boundAndCalled (.builtin "BaseException.__getattribute__") (.ref x) (.str "__class__" t)) _ _ _
  unfold boundAndCalled
  rw [F.excAttr_ValueError.ga.bind (.ref x)]
  refine wpAny_bind (wpAny_pure ?_)
  refine wpAny_call (codeAny_call_builtin F.excAttr_ValueError.ga.plain F.entry_bexc_ga (exc_check FX X I (exc_entry FX hn htk X I ?_)))
  exact handed_on rfl (wpAny_pure h)
end
end L2
namespace L2
open PySem PySem.Spec PySem.Calls PyProof.Rows PySem.W

def ExcAt (x D : Addr) (h : Heap) : Prop := ∃ o, h.get? x = some o ∧ ExP (.ref D) o
theorem ExP.inst {h : Heap} {x D : Addr} {o : Obj} (e : h.get? x = some o) (p : ExP (.ref D) o) : InstAt h x o D none := by
  obtain ⟨t, y, rfl⟩ := p
  exact ⟨e, rfl, rfl, trivial⟩
/-- the builtin facts of `__class__` -/
structure XBase (K : Frag) : Prop where
  sp : specialIn K (.builtin "object.__class__") "__get__" = some (some (.builtin "getset_descriptor.__get__"))
  tk : takesIn K (.builtin "object.__class__") = some true
section
variable {K : Frag} {x D CF : Addr}
theorem isType_cls {M : Model} {h : Heap} (X : K.In h) (ic : (clsIn K D).isSome = true) : Looks M h (isType (.ref D)) true := by
  obtain ⟨cdD, hcD⟩ := Option.isSome_iff_exists.mp ic
  unfold clsIn at hcD
  split at hcD
  · rename_i c' d' cd' sl' ho
    intro A' Q' E' s' k q
    unfold isType loadHead
    exact wpAny_bind (wpAny_loadPart (k _ _ (X _ _ ho)) (wpAny_pure q))
  · cases hcD
theorem kitx_exc (FB : XBase K) (FX : XCls K D) : KitX K (.ref x) (.ref D) (ExcAt x D) where
  ty := fun _ _ _ ⟨_, e, p⟩ => (p.inst e).type
  it := fun _ _ X _ => isType_cls X FX.ic
  ne := fun h tp dd its n sl X htp => by
    obtain ⟨cdD, hcD⟩ := Option.isSome_iff_exists.mp FX.ic
    refine Bool.eq_false_iff.mpr fun q => ?_
    have e : D = tp := Value.ref.inj (beq_iff_eq.mp q)
    subst e
    unfold clsIn at hcD
    split at hcD
    · rename_i c' d' cd' sl' ho
      have z := (X _ _ ho).symm.trans htp
      cases z
    · cases hcD
  ca := fun X ⟨_, e, p⟩ k => exc_class FX FB.sp FB.tk X (p.inst e) k
end
def xO (x D : Addr) : HO := .ext (ExcAt x D)
theorem xO_ok {P : Program} {w : World} {H : Hp} {h : Heap} {x D : Addr} (p : ExcAt x D h) : ObjOk P w H h x (xO x D) :=
  ⟨p, (let ⟨o, e, _⟩ := p; ⟨o, e⟩), fun h1 h2 ⟨o, e, q⟩ k => ⟨o, k o e, q⟩⟩
def rIsX (K : Frag) (D : Addr) : List V → Hp → VK → Prop := fun xs H Q => ∃ (a C : Addr) (b : Bool), xs = [.ref a, .ref C] ∧ H a = some (xO a D) ∧ kitOne K (.ref D) (.ref C) = some b ∧ Q (.bl b) H
def rIsXT (K : Frag) (D : Addr) : List V → Hp → VK → Prop := fun xs H Q => ∃ (a : Addr) (T : String) (b : Bool), xs = [.ref a, .ty T] ∧ H a = some (xO a D) ∧ kitOne K (.ref D) (.type T) = some b ∧ Q (.bl b) H
def rIsXs (K : Frag) (D : Addr) : List V → Hp → VK → Prop := fun xs H Q => ∃ (a p : Addr) (Cs : List Addr) (b : Bool), xs = [.ref a, .ref p] ∧ H a = some (xO a D) ∧ SqT K H p (Cs.map V.ref) ∧ kitAny K (.ref D) (Cs.map Value.ref) = some b ∧ Q (.bl b) H
section
variable {X : Cx} {D : Addr}
theorem call_isX (FB : XBase X.K) (FX : XCls X.K D) : CallR X (.builtin "isinstance") (rIsX X.K D) := by
  intro pins s σ H xs us Q I r h
  obtain ⟨a, C, b, rfl, ha, hk, q⟩ := h
  obtain ⟨u, w', rfl, rx, ry⟩ := vals2 r
  cases rx; cases ry
  exact kia_one (kitx_exc FB FX) I.kIn (I.hok a _ ha).1 hk (by intro z; cases z) fun tk => ⟨.bl _, H, I.tok _, rfl, q⟩
theorem call_isXT (FB : XBase X.K) (FX : XCls X.K D) : CallR X (.builtin "isinstance") (rIsXT X.K D) := by
  intro pins s σ H xs us Q I r h
  obtain ⟨a, C, b, rfl, ha, hk, q⟩ := h
  obtain ⟨u, w', rfl, rx, ry⟩ := vals2 r
  cases rx; cases ry
  exact kia_one (kitx_exc FB FX) I.kIn (I.hok a _ ha).1 hk (by intro z; cases z) fun tk => ⟨.bl _, H, I.tok _, rfl, q⟩
end
section
variable {X : Cx} {D : Addr} {K : Frag}
theorem call_isXK (hK : X.K = K) (FB : XBase K) (FX : XCls K D) : CallR X (.builtin "isinstance") (rIsX K D) := by subst hK; exact call_isX FB FX
theorem call_isXTK (hK : X.K = K) (FB : XBase K) (FX : XCls K D) : CallR X (.builtin "isinstance") (rIsXT K D) := by subst hK; exact call_isXT FB FX
end
section
variable {M : Model} {A : Around} {E : Value → Shared → Prop} {s : Shared} {K : Frag} {x D CF : Addr} {ox : Obj}
/-- an exception of the class D against the own class CF -/
theorem exc_match {Q : Bool → Shared → Prop} (X : K.In s.heap) (I : InstAt s.heap x ox D none) (tC : typeIn K (.ref CF) = some (.type "type")) (mb : mroIn K CF (.type "BaseException") = some true) (ic : (clsIn K CF).isSome = true) (mD : mroIn K D (.ref CF) = some true) (hq : Q true s) :
    wpAny M A (excMatches (.ref x) (.ref CF)) Q E s := by
  obtain ⟨hh, g, d, t, os⟩ := s
  have L0 := I.type (M := M)
  have L1 := looks_mroIn (M := M) X mb
  have L2 := looks_mroIn (M := M) X mD
  have L3 := looks_typeIn (M := M) X tC
  have L4 := isType_cls (M := M) X ic
  have f := tc_notTuple
  unfold excMatches
  repeat (first | lk | wp_step)
  exact hq
end
end L2
/-! try: one except clause with a name -/
namespace L2
open PySem PySem.Spec PySem.Calls PyProof.Rows PySem.W

def Cx.sx (X : Cx) (pn : List (Addr × Obj)) (e : Addr) : Cx := { X with A := X.A.mark (some (.ref e)), calm := false, pn := pn, xe := fun _ _ => False }
section
variable {X : Cx} {pins pins' : List (Addr × Obj)} {σ : St} {H H' : Hp} {s : Shared} {ch : List Addr} {xe : Value → Shared → Prop} {h' : Heap} {e b : Addr} {o : HO}
theorem Inv.sx (I : Inv X pins σ H s) : Inv (X.sx (X.pn ++ pins) e) [] σ H s :=
  have ok := I.ok
  ⟨⟨ok.mod, ok.kind, ok.glob, ok.blt, ok.above, ok.inj, ok.has, ok.cab, (fun z => Bool.noConfusion z), ok.frames, ok.stk, ok.exf, ok.bs, ok.bsz, ok.noex, ok.exfs, ok.funs, ok.frf⟩, I.os, I.bare, I.base, I.loc, I.cell, I.free, I.freeC, fun p hp => I.pin p (by rw [List.append_nil] at hp; exact hp), I.hok, I.len⟩
theorem Inv.unsx (hd : X.calm = true → X.A.handled = none) (I : Inv (X.sx (X.pn ++ pins) e) [] σ H s) : Inv X pins σ H s :=
  have ok := I.ok
  ⟨⟨ok.mod, ok.kind, ok.glob, ok.blt, ok.above, ok.inj, ok.has, ok.cab, hd, ok.frames, ok.stk, ok.exf, ok.bs, ok.bsz, ok.noex, ok.exfs, ok.funs, ok.frf⟩, I.os, I.bare, I.base, I.loc, I.cell, I.free, I.freeC, fun p hp => I.pin p (by rw [List.append_nil]; exact hp), I.hok, I.len⟩
theorem Inv.blank (I : Inv X pins σ H s) : Inv X pins (List.replicate X.N.length none) H s := by
  refine ⟨I.ok, I.os, I.bare, I.base, ?_, I.cell, I.free, I.freeC, I.pin, I.hok, by rw [List.length_replicate]⟩
  obtain ⟨m, hm, _⟩ := I.loc
  refine ⟨m, hm, fun i x v _ e2 _ => ?_⟩
  rw [List.getElem?_replicate] at e2
  split at e2 <;> cases e2
theorem Inv.far (I : Inv X pins σ H s) (hex : X.ex = []) (n : s.heap.get? b = none) : Far X pins H b := by
  refine ⟨?_, I.hok.none n, fun z => ?_, fun x c e z => ?_, fun p hp z => ?_⟩
  · cases k : X.s₀.heap.get? b with
    | none => rfl
    | some o =>
      obtain ⟨o', e'⟩ := I.base.there b o k (by rw [hex]; simp)
      rw [n] at e'; cases e'
  · obtain ⟨m, ⟨o', es, ep, ho', _⟩, _⟩ := I.loc
    rw [← z, n] at ho'; cases ho'
  · obtain ⟨v, o', ho', _⟩ := I.cell x c e
    rw [z, n] at ho'; cases ho'
  · have := (I.pin p hp).1
    rw [z, n] at this; cases this
theorem Far.now (f : Far X pins H b) (un : H' b = none) : Far X pins H' b := ⟨f.s0, un, f.ne, f.nc, f.np⟩
theorem Inv.know (I : Inv X pins σ H s) (f : Far X pins H e) (ok : ObjOk X.prog X.w (upd H e o) s.heap e o) : Inv X pins σ (upd H e o) s := by
  have sm : ∀ c u, H c = some u → upd H e o c = some u := same_new f.un
  have ne : ∀ c, c ≠ e → upd H e o c = H c := fun c hc => upd_ne hc
  refine ⟨I.ok, I.os, I.bare, ⟨I.base.keep, I.base.slot, fun c ob q n hx => ?_, I.base.there, fun c xs q => sm _ _ (I.base.tups c xs q), fun c ob xs q => sm _ _ (I.base.frzs c ob xs q), fun c ps q => ?_⟩, I.loc, I.cell, ?_, fun x c q => ?_, fun p hp => ?_, fun c u q => ?_, I.len⟩
  · rw [ne c (fun z => by rw [z, f.s0] at q; cases q)]
    exact I.base.free c ob q n hx
  · obtain ⟨more, r⟩ := I.base.tbls c ps q
    exact ⟨more, sm _ _ r⟩
  · rw [ne _ (fun z => f.ne z.symm)]
    exact I.free
  · rw [ne _ (f.nc x c q)]
    exact I.freeC x c q
  · obtain ⟨p1, p2, p3⟩ := I.pin p hp
    exact ⟨p1, by rw [ne _ (f.np p hp)]; exact p2, p3⟩
  · by_cases z : c = e
    · subst z
      rw [upd_same] at q
      cases q
      exact ok
    · rw [ne c z] at q
      exact (I.hok c u q).stay (fun _ _ _ r => r) (fun d r => sm _ _ r) fun d xs r => sm _ _ r
end
theorem ns_fun {h : Heap} {a : Addr} {m m' : Str → Option Value} (x : h.Ns a m) (y : h.Ns a m') : m = m' := by
  obtain ⟨o, es, ep, ho, hd, hk, hm⟩ := x
  obtain ⟨o', es', ep', ho', hd', hk', hm'⟩ := y
  rw [ho] at ho'; cases ho'
  rw [hd] at hd'; cases hd'
  funext n
  rw [← hm n, ← hm' n]
theorem SP.untr {X : Cx} {pins : List (Addr × Obj)} {xe : Value → Shared → Prop} {D : Ends} {f : Flow} {s' : Shared} (h : SP (X.tr (X.pn ++ pins) xe) [] D f s') : SP X pins D f s' := by
  cases f with
  | next => obtain ⟨σ', H', I, q⟩ := h; exact ⟨σ', H', I.untr, q⟩
  | brk => obtain ⟨σ', H', I, q⟩ := h; exact ⟨σ', H', I.untr, q⟩
  | cont => obtain ⟨σ', H', I, q⟩ := h; exact ⟨σ', H', I.untr, q⟩
  | ret u => obtain ⟨v, σ', H', I, r, q⟩ := h; exact ⟨v, σ', H', I.untr, r, q⟩
/-- the class D is caught by the clause of CF -/
structure Caught (K : Frag) (D CF : Addr) : Prop where
  ty : typeIn K (.ref CF) = some (.type "type")
  mb : mroIn K CF (.type "BaseException") = some true
  md : mroIn K D (.ref CF) = some true
def EX (K : Frag) (CF : Addr) (n : Nat) (i : Nat) (ts : TS) (Dn : Ends) : XK := fun cls _ H1 => ∃ D : Addr, cls = .ref D ∧ Caught K D CF ∧ ∀ e, H1 e = none →
  ts { nx := fun σ H => Dn.nx (σ.set i none) H, rt := Dn.rt, bk := fun σ H => Dn.bk (σ.set i none) H, ct := fun σ H => Dn.ct (σ.set i none) H } ((List.replicate n none).set i (some (.ref e))) (upd H1 e (xO e D))
def tTry (K : Frag) (CF : Addr) (n i : Nat) (tb : XK → TS) (ts : TS) : TS := fun Dn σ H => tb (EX K CF n i ts Dn) Dn σ H
section
variable {X : Cx} {body suite : List Stmt} {b₀ : Stmt} {x n : Str} {i : Nat} {CF : Addr} {tb : XK → TS} {ts : TS} {np pos hp_ : Pos}
end
end L2
/-! an own class of exceptions, by what the top holds -/
namespace L2
open PySem PySem.Spec PySem.Calls PyProof.Rows PySem.W
theorem own_mkX {K : Frag} {h : Heap} {mg : Str → Option Value} {x : Str} {C : Addr} {bmB : List Value} {newId : String} (X : K.In h) (G : h.Ns mainGlobals mg) (e : nsIn K mainGlobals x = some (some (.ref C))) (q : excIn K C bmB newId = true) : OwnCls x C bmB newId mg h := by
  have hb := mg_of X G e
  cases ho : K.lookup C with
  | none => unfold excIn at q; rw [ho] at q; cases q
  | some o =>
    obtain ⟨cl, dd, dt, ⟨sl⟩⟩ := o
    unfold excIn at q
    rw [ho] at q
    split at q
    · rename_i dd' cd' sl' eo
      injection eo with eo
      injection eo with e1 e2 e3 e4
      subst e1 e2 e3 e4
      split at q
      · rename_i C' bm k0 k1 k2 k3 nw k5 hm hs
        rcases cd' with ⟨nm, bs, mro, N, qn, hd, sn, sub, ab, col, del⟩
        dsimp only at hm hs q
        simp only [Bool.and_eq_true, beq_iff_eq, Bool.not_eq_true'] at q
        rcases q with ⟨⟨⟨⟨⟨rfl, rfl⟩, rfl⟩, tl⟩, ok⟩, ini⟩
        subst hm hs
        exact ⟨hb, bm, N, nm, qn, bs, hd, sn, sub, ab, col, dd, k0, k1, k2, k3, k5, _, X _ _ ho, .of_isNs (isNs_of_in X ok), nsMap_none_of_in X ok ini, tail_of_in X tl⟩
      · cases q
    · cases q
end L2
/-! defs called, and ranges walked, within an except suite -/
namespace L2
open PySem PySem.Spec PySem.Calls PyProof.Rows PySem.W
section
variable {prog : Program} {w : World} {A : Around} {E : Value → Shared → Prop} {s : Shared}
theorem en_unchain : entryFor table "proto.unchain" = some Builtin.«proto.unchain» := by kernel_rfl
/-- an exception whose context is nothing: no cycle -/
theorem any_unchain {e D : Addr} {v : Value} {b : Bool} {Q : Value → Shared → Prop} (he : ExcAt e D s.heap) (h : Q .none s) :
    wpAny (model prog w) A (runValue (.builtin "proto.unchain" ⟨[v, .ref e, .ref e, .bool b], []⟩)) Q E s := by
  obtain ⟨o, ho, t, x, rfl⟩ := he
  refine wpAny_runValue (codeAny_builtin en_unchain ?_)
  unfold Builtin.«proto.unchain»
  show wpAny _ _ (field (.ref e) 2 >>= _) _ _ s
  refine wpAny_bind (wpAny_field ho rfl (x := Value.none) rfl ?_)
  rw [if_pos (by rfl)]
  first | exact wpAny_pure h | exact wpAny_bind (wpAny_pure (wpAny_pure h)) | exact wpAny_bind (wpAny_pure h)
/-- StopIteration, within an except suite -/
theorem any_stopH {α : Type} {e D : Addr} {Q : α → Shared → Prop} (hh : A.handled = some (.ref e)) (he : ExcAt e D s.heap)
    (h : ∀ e' h', (∀ b o, s.heap.get? b = some o → h'.get? b = some o) → Shared.TypeIs { s with heap := h' } (.ref e') "StopIteration" → E (.ref e') { s with heap := h' }) :
    wpAny (model prog w) A (newExc (.type "StopIteration") [] >>= fun e => raiseNew e) Q E s := by
  refine wpAny_bind ?_
  simp only [newExc, newTuple]
  refine wpAny_bind (wpAny_newObj_type ?_ (by size_fits))
  refine wpAny_bind (m := firstArgMember _ _) (wpAny_of_eq (a := Value.none) (by first | rfl | (simp only [firstArgMember]; rfl)) ?_)
  refine wpAny_newObj_type ?_ (by size_fits)
  simp only [raiseNew]
  refine wpAny_bind (wpAny_handled ?_)
  rw [hh]
  obtain ⟨o, ho, p⟩ := he
  have lt := Heap.lt_size ho
  generalize hh1 : (s.heap.push _) = h1
  have z1 : h1.objs.size = s.heap.objs.size + 1 := by rw [← hh1]; simp [Heap.push]
  have k1 : ∀ b o, s.heap.get? b = some o → h1.get? b = some o := fun b o q => by rw [← hh1]; exact Heap.get?_push_of_some _ q
  dsimp only
  rw [if_pos (show (Value.ref e != Value.ref h1.objs.size) = true from by
    have ne : e ≠ h1.objs.size := Nat.ne_of_lt (by rw [z1]; exact Nat.lt_succ_of_lt lt)
    simpa using ne)]
  refine wpAny_bind (wpAny_holding (any_unchain (D := D) (e := e) ⟨o, Heap.get?_push_of_some _ (k1 _ _ ho), p⟩ ?_))
  unfold updateField
  refine wpAny_bind ?_
  have hn := Heap.get?_push_size (h := h1) (o := { cls := .type "StopIteration", data := .fields (#[Value.ref s.heap.objs.size, .none, .none, .none, .bool false, .none] ++ ownMembersOf (.type "StopIteration") []) }) rfl
  refine wpAny_bind (wpAny_load hn ?_)
  dsimp only
  rw [if_pos (by first | (simp; done) | (simp; omega) | (show 2 < 6; decide))]
  refine wpAny_update hn (wpAny_throw ?_)
  refine h _ _ (fun b o q => ?_) ⟨_, Heap.get?_update_self _ hn rfl, rfl⟩
  rw [Heap.get?_update_other _ _ (fun z => Nat.lt_irrefl _ (show h1.objs.size < h1.objs.size from by
    have := Heap.lt_size (k1 _ _ q)
    rw [← z] at this
    exact this))]
  exact Heap.get?_push_of_some _ (k1 _ _ q)
theorem next_rangeH {it e D : Addr} {x left step : Int} {Q : Option Value → Shared → Prop} (hh : A.handled = some (.ref e)) (he : ExcAt e D s.heap) (hit : IsRangeIter s.heap it x left step) (hleft : left ≤ 0)
    (hQ : ∀ h', Heap.ExtBut it s.heap h' → Q none { s with heap := h' }) : wpAny (model prog w) A (pyNext (.ref it)) Q E s := by
  have hT : s.TypeIs (.ref it) "range_iterator" := ⟨_, hit, rfl⟩
  unfold pyNext
  refine wpAny_bind (wpAny_attempt (wpAny_callSpecial?_slot (name := Str.ofString "__next__") hT F.slot_range_iterator_next
    (wpAny_call_entry F.slot_range_iterator_next hT F.entry_range_iterator_next ?_ (F.args_range_iterator_next_1 _))))
  show wpAny _ _ (field (.ref it) 0 >>= _) _ _ s
  refine wpAny_bind (wpAny_field hit rfl (x := rawInt x) rfl ?_)
  show wpAny _ _ (field (.ref it) 1 >>= _) _ _ s
  refine wpAny_bind (wpAny_field hit rfl (x := rawInt left) rfl ?_)
  show wpAny _ _ (field (.ref it) 2 >>= _) _ _ s
  refine wpAny_bind (wpAny_field hit rfl (x := rawInt step) rfl ?_)
  show wpAny _ _ (if left ≤ 0 then _ else _) _ _ s
  rw [if_pos hleft]
  refine wpAny_bind (wpAny_rule ?_)
  refine wpAny_bind ?_
  refine any_stopH (A := A.in1) (e := e) (D := D) hh he fun e' h' k t => ?_
  refine wpAny_bind (wpAny_isInstance (T := "StopIteration") (b := true) t isSubtype_stop ?_)
  exact wpAny_pure (hQ _ fun b o nb q => k b o q)
end
end L2
/-! walks, comprehensions, calls where an exception is handled -/
namespace L2
open PySem PySem.Spec PySem.Calls PyProof.Rows PySem.W
structure TurnH (eh : Addr) (P : Program) (w : World) (K : PySem.W.Frag) (tg : Expr) (J : It) (fp : List Addr) (it : Addr) (tn : Nat → Heap → Prop) : Prop where
  mem : it ∈ fp
  obj : ∀ i h, tn i h → ∀ b ∈ fp, ∃ o, h.get? b = some o ∧ ∀ v, o.data ≠ .cell v
  keep : ∀ i h h', tn i h → (∀ b ∈ fp, ∀ o, h.get? b = some o → h'.get? b = some o) → tn i h'
  item : ∀ (X : Cx), X.prog = P → X.w = w → X.K = K → X.A.handled = some (.ref eh) → ∀ (i : Nat) (pins : List (Addr × Obj)) (s : Shared) (σ : St) (H : Hp) (E : Value → Shared → Prop), Inv X pins σ H s → (∀ b ∈ fp, FpOk X pins H b) → tn i s.heap → J.go i H →
    wpAny (model P w) X.A (pyNext (.ref it)) (fun r s1 => ∃ u, r = some u ∧
      wpAny (model P w) X.A (letOwnedTupleGo tg (.ref it) u) (fun _ s2 => ∃ x H', Inv X pins σ H' s2 ∧ RelV x u ∧ J.yld i H x H' ∧ tn (i + 1) s2.heap ∧ ∀ b ∈ fp, H' b = none) E s1) E s
  done : ∀ (X : Cx), X.prog = P → X.w = w → X.K = K → X.A.handled = some (.ref eh) → ∀ (i : Nat) (pins : List (Addr × Obj)) (s : Shared) (σ : St) (H : Hp) (E : Value → Shared → Prop), Inv X pins σ H s → (∀ b ∈ fp, FpOk X pins H b) → tn i s.heap → J.stop i H →
    wpAny (model P w) X.A (pyNext (.ref it)) (fun r s1 => r = none ∧ Inv X pins σ H s1) E s
  self : ∀ (A : Around) (i : Nat) (s : Shared) (Q : Value → Shared → Prop) (E : Value → Shared → Prop), tn i s.heap → Q (.ref it) s → wpAny (model P w) A (pyIter (.ref it)) Q E s
def PIEH (eh : Addr) (X : Cx) (pins : List (Addr × Obj)) (σ : St) (tg : Expr) (R : It → Hp → Prop) (itv : Value) (s2 : Shared) : Prop :=
  ∃ (it : Addr) (fp : List Addr) (tn : Nat → Heap → Prop) (J : It) (H' : Hp), itv = .ref it ∧ Inv X pins σ H' s2 ∧ TurnH eh X.prog X.w X.K tg J fp it tn ∧ tn 0 s2.heap ∧ (∀ b ∈ fp, FpOk X pins H' b) ∧ R J H'
def PIH (eh : Addr) (X : Cx) (tg iter : Expr) (wi : TI) : Prop :=
  ∀ (pins : List (Addr × Obj)) (s : Shared) (σ : St) (H : Hp) (R : It → Hp → Prop), Inv X pins σ H s → wi σ H R →
    wpAny (model X.prog X.w) X.A (eval iter X.env) (fun v s1 => wpAny (model X.prog X.w) X.A (pyIter v) (PIEH eh X pins σ tg R) X.xe s1) X.xe s


/-- lo, lo + 1, .. (n of them); the exception at e stands at the end -/
def ItrH (e D : Addr) (lo : Int) (n : Nat) : It := ⟨fun i _ => i < n, fun i H x H' => H' = H ∧ x = .int (lo + i), fun i H => n ≤ i ∧ H e = some (xO e D)⟩
theorem turn_rangeH {P : Program} {w : World} {K : Frag} {tg : Expr} (e D it : Addr) (lo : Int) (n : Nat) : TurnH e P w K tg (ItrH e D lo n) [it] it (fun i h => IsRangeIter h it (lo + (i : Nat) * 1) ((n : Int) - (i : Nat)) 1) where
  mem := by simp
  obj := fun i h st b hb => by
    have e : b = it := by simpa using hb
    subst e
    exact ⟨_, st, fun v z => by
      have z' : Data.fields _ = Data.cell v := z
      cases z'⟩
  keep := fun i h h' st k => k it (by simp) _ st
  item := by
    intro X hP hw hK hc i pins s σ H E I hf st hg
    subst hP hw hK
    obtain ⟨f0, f1, f2, f3, f4, f5⟩ := hf it (by simp)
    have hg' : i < n := hg
    refine wpAny_pyNext_range_item st (by omega) fun h' st' kk => ?_
    have I1 : Inv X pins σ H { s with heap := h', toks := s.toks + 1 } := I.turned (fun b o hb e => (kk.2 b hb).trans e) f0 f1 f3 f4 f5
    have st2 : IsRangeIter h' it (lo + ((i + 1 : Nat) : Int) * 1) ((n : Int) - ((i + 1 : Nat) : Int)) 1 := by
      have e1 : lo + ((i + 1 : Nat) : Int) * 1 = lo + (i : Int) * 1 + 1 := by omega
      have e2 : (n : Int) - ((i + 1 : Nat) : Int) = (n : Int) - (i : Int) - 1 := by omega
      rw [e1, e2]
      exact st'
    refine ⟨_, rfl, go_of (s := { s with heap := h', toks := s.toks + 1 }) (n := "range_iterator") st2 rfl rfl (by decide) ⟨.int (lo + i), H, I1, ⟨s.toks, ?_⟩, ⟨rfl, rfl⟩, st2, fun b hb => (hf b hb).1⟩⟩
    rw [Int.mul_one]
  done := by
    intro X hP hw hK hc i pins s σ H E I hf st hg
    subst hP hw hK
    obtain ⟨f0, f1, f2, f3, f4, f5⟩ := hf it (by simp)
    exact next_rangeH hc (I.hok e _ hg.2).1 st (by have : n ≤ i := hg.1; omega) fun h' eb => ⟨rfl, I.turned (t' := s.toks) (fun b o hb e => eb b o hb e) f0 f1 f3 f4 f5⟩
  self := fun _ _ _ _ _ st h => wpAny_pyIter_rangeiter st h
section
variable {X : Cx} {tg : Expr} {eh : Addr}
theorem range_itH {D : Addr} {pins : List (Addr × Obj)} {σ : St} {H : Hp} {s : Shared} {R : It → Hp → Prop} {E : Value → Shared → Prop} {lo hi : Int} {t u v : Tok} {tk : Nat} (I : Inv X pins σ H s) (h1 : -(2 ^ 62) ≤ lo) (h2 : lo < 2 ^ 62) (h3 : -(2 ^ 62) ≤ hi) (h4 : hi < 2 ^ 62)
    (q : R (ItrH eh D lo (hi - lo).toNat) H) : wpAny (model X.prog X.w) X.A (pyIter (.ref s.heap.objs.size)) (PIEH eh X pins σ tg R) E { s with heap := s.heap.push { cls := .type "range", data := .fields #[.int lo t, .int hi u, .int 1 v] }, toks := tk } := by
  refine wpAny_pyIter_range (IsRange.new ..) (small_one h1 h2 h3 h4) ?_
  have I1 : Inv X pins σ H { s with heap := s.heap.push { cls := .type "range", data := .fields #[.int lo t, .int hi u, .int 1 v] }, toks := tk } := I.kept fun b o e => Heap.get?_push_of_some _ e
  refine ⟨(s.heap.push { cls := .type "range", data := .fields #[.int lo t, .int hi u, .int 1 v] }).objs.size, [(s.heap.push { cls := .type "range", data := .fields #[.int lo t, .int hi u, .int 1 v] }).objs.size], _, _, H, rfl,
    I1.kept (t' := tk) fun b o e => Heap.get?_push_of_some _ e, turn_rangeH eh D _ lo (hi - lo).toNat, ?_, fun b hb => ?_, q⟩
  · have e1 : lo + ((0 : Nat) : Int) * 1 = lo := by simp
    have e2 : (((hi - lo).toNat : Nat) : Int) - ((0 : Nat) : Int) = Builtin.Range.rangeSize lo hi 1 := by rw [rangeSize_one]; split <;> omega
    show IsRangeIter _ _ (lo + ((0 : Nat) : Int) * 1) ((((hi - lo).toNat : Nat) : Int) - ((0 : Nat) : Int)) 1
    rw [e1, e2]
    exact Heap.get?_push_size _ rfl
  · have e : b = (s.heap.push { cls := .type "range", data := .fields #[.int lo t, .int hi u, .int 1 v] }).objs.size := by simpa using hb
    subst e
    exact I1.fpOk (Nat.le_refl _) (I1.hok.fresh (Nat.le_refl _))
def iRng1H (e D : Addr) (ta : TA) : TI := fun σ H R => ta σ H fun vs H1 => ∃ j : Int, vs = [.int j] ∧ -(2 ^ 62) ≤ j ∧ j < 2 ^ 62 ∧ R (ItrH e D 0 j.toNat) H1
theorem pi_range1H {D : Addr} {a : Expr} {ta : TA} {p pos : Pos} (hg : Gl X "range") (hm : X.mg "range" = none) (ha : PA X [a] ta) (hs : starEach [a] X.env = [(false, eval a X.env)] := by rfl) : PIH eh X tg (.Call (.Name "range" p) [a] [] pos) (iRng1H eh D ta) := by
  intro pins s σ H R I h
  refine Call_ (ld_blt I hg hm boot_range (PyProof.Rows.callWith_type1 (thn (ha pos pins s σ H _ I h) fun us s1 ⟨vs, H1, I1, r1, q1⟩ => ?_) hs rfl))
  obtain ⟨j, e, q1, q2, q⟩ := q1
  subst e
  cases r1 with
  | cons r rr =>
    cases rr
    obtain ⟨t, rfl⟩ := r
    exact call_range_1 (range_itH (D := D) I1 (by omega) (by omega) q1 q2 (by simpa using q))
end
theorem comp_rangeH {e D : Addr} {lo : Int} {n : Nat} {a : Addr} {own : Nat} {fr : List Nat} {g : TG} {tf : TT} {te : TE} {σ : St} {H1 : Hp} {Q : VK} (Pv : Nat → List V → Hp → Prop)
    (h0 : Pv 0 [] (upd H1 a (.lst []))) (hx : ∀ ys H, H a = some (.lst ys) → Pv n ys H → H e = some (xO e D))
    (hs : ∀ i ys H3, i < n → H3 a = some (.lst ys) → Pv i ys H3 → g (.int (lo + i)) (σc own fr σ) H3 fun σ4 H4 => (∃ ow, ow.length = own ∧ σ4 = ow ++ σf fr σ) ∧ tf σ4 H4 fun b H5 =>
      if b = true then te σ4 H5 fun y H6 => H6 a = some (.lst ys) ∧ ys.length < sizeLine ∧ Pv (i + 1) (ys ++ [y]) (upd H6 a (.lst (ys ++ [y]))) else H5 a = some (.lst ys) ∧ Pv (i + 1) ys H5)
    (hd : ∀ ys H, H a = some (.lst ys) → Pv n ys H → Q (.ref a) H) : CompW (ItrH e D lo n) a own fr g tf te σ H1 Q := by
  refine ⟨n, Pv, h0, fun i ys H hi ha p => ?_⟩
  by_cases hlt : i < n
  · refine .inr ⟨hlt, hlt, fun x H' y => ?_⟩
    obtain ⟨e, y⟩ := y
    subst e y
    exact hs i ys _ hlt ha p
  · have e : i = n := by omega
    subst e
    exact .inl ⟨⟨Nat.le_refl _, hx ys H ha p⟩, hd ys H ha p⟩
section
variable {X : Cx} {pins : List (Addr × Obj)} {σ : St} {H : Hp} {s : Shared} {N : List Str} {own : Nat} {fr : List Nat} {scope : Scope} {cl : List (Str × Addr)} {elt tg iter : Expr} {ifs : List Expr} {pos : Pos}
  {it : Addr} {fp : List Addr} {tn : Nat → Heap → Prop} {J : It} {g : TG} {tf : TT} {te : TE} {Q : VK} {E : Value → Shared → Prop}

theorem comp_blockH {eh : Addr} {RR : Value → Addr → Result → Shared → Prop} (hc : X.A.handled = some (.ref eh)) (S : CompScope X.env.scope X.N N own fr scope) (hcl : ∀ x c, cl.lookup x = some c → X.env.cells.lookup x = some c)
    (hcf : ∀ y ∈ scope.names, y.2 = .free → ∃ c, cl.lookup y.1 = some c)
    (hg : ∀ C s H, PG (cxComp X N scope cl C fp s H) tg g) (hf : ∀ C s H, PFs (cxComp X N scope cl C fp s H) ifs tf) (he : ∀ C s H, PE (cxComp X N scope cl C fp s H) elt te)
    (I : Inv X pins σ H s) (T : TurnH eh X.prog X.w X.K tg J fp it tn) (st : tn 0 s.heap) (hfp : ∀ b ∈ fp, FpOk X pins H b) (hw : ∀ a, H a = none → CompW J a own fr g tf te σ H Q)
    (hRR : ∀ a C s' H', Inv X pins σ H' s' → Q (.ref a) H' → FpOk X pins H' C → (∃ m, s'.heap.Ns C m) → RR (.ref a) C (.ok .next) s') :
    wpAny (model X.prog X.w) X.A (newList []) (fun acc s₃ => wpAny (model X.prog X.w) X.A (newFunctionEnv scope X.env.globals cl [] X.env.qual none .none (some X.env)) (fun cenv s₄ =>
      codeAny (model X.prog X.w) X.A (.compStart (.ListComp elt [⟨tg, iter, ifs, 0⟩] scope pos) 0 (.ref it) acc { cenv with scope := relabel scope X.env }) (RR acc cenv.locals) s₄) E s₃) E s := by
  refine wpAny_newObj_type (wpAny_newFunctionEnv S.nocell (by intro y hy; simp at hy) (fun h₁ hns₁ hsb₁ => ?_) S.kind)
  dsimp only at hns₁ hsb₁ ⊢
  have I3 : Inv X pins σ (upd H s.heap.objs.size (.lst [])) { s with heap := s.heap.push { cls := .type "list", dict := none, data := .seq ([] : List Value).toArray } } := I.lnew (ys := []) (t' := s.toks) .nil (Nat.zero_le _)
  have hfo : ∀ b ∈ fp, ∃ o, s.heap.get? b = some o := fun b hb => let ⟨o, ho, _⟩ := T.obj _ _ st b hb; ⟨o, ho⟩
  have hlt : ∀ b ∈ fp, b < s.heap.objs.size := fun b hb => let ⟨o, ho⟩ := hfo b hb; Heap.lt_size ho
  have fp3 : ∀ b ∈ fp, FpOk X pins (upd H s.heap.objs.size (.lst [])) b := fun b hb => ⟨by rw [upd_ne (Nat.ne_of_lt (hlt b hb))]; exact (hfp b hb).1, (hfp b hb).2⟩
  obtain ⟨n0, W, w0, turn⟩ := hw s.heap.objs.size I.fresh
  generalize hs3 : ({ s with heap := s.heap.push { cls := .type "list", dict := none, data := .seq ([] : List Value).toArray } } : Shared) = s3 at I3
  have eh : s3.heap = s.heap.push { cls := .type "list", dict := none, data := .seq ([] : List Value).toArray } := by rw [← hs3]
  rw [← eh] at hns₁ hsb₁ ⊢
  have hk : ∀ b o, s3.heap.get? b = some o → h₁.get? b = some o := fun b o e => hsb₁.extBut b o (Nat.ne_of_lt (Heap.lt_size e)) (Heap.get?_push_of_some _ e)
  have hk0 : ∀ b o, s.heap.get? b = some o → s3.heap.get? b = some o := fun b o e => by rw [eh]; exact Heap.get?_push_of_some _ e
  have J0 : Inv (cxComp X N scope cl s3.heap.objs.size fp s3 (upd H s.heap.objs.size (.lst []))) [] (σc own fr σ) (upd H s.heap.objs.size (.lst [])) { s3 with heap := h₁ } :=
    inv_comp I3 S hcl hcf fp3 (fun b hb => let ⟨o, ho⟩ := hfo b hb; ⟨o, hk0 b o ho⟩) hns₁ hk
  have st0 : tn 0 h₁ := T.keep _ _ _ st fun b _ o e => hk b o (hk0 b o e)
  have stat : ∀ {H' : Hp}, (∀ b ∈ fp, H' b = none) → ∀ b ∈ fp, FpOk (cxComp X N scope cl s3.heap.objs.size fp s3 (upd H s.heap.objs.size (.lst []))) [] H' b := fun hn b hb =>
    ⟨hn b hb, (J0.ok.exf b hb).1, J0.ok.exfs b hb, .inl hb, (J0.ok.exf b hb).2, fun p hp => absurd (show p ∈ ([] : List (Addr × Obj)) from hp) (by simp)⟩
  have loop : ∀ s4 : Shared, s4 = { s3 with heap := h₁ } → codeAny (model X.prog X.w) X.A (.compLoop (.ListComp elt [⟨tg, iter, ifs, 0⟩] scope pos) 0 (.ref it) (.ref s.heap.objs.size) (compEnvC scope cl s3.heap.objs.size X.env))
      (RR (.ref s.heap.objs.size) s3.heap.objs.size) s4 := by
    rintro s4 rfl
    refine compLoop_any (fun n s' => ∃ i ow H' ys, Inv (cxComp X N scope cl s3.heap.objs.size fp s3 (upd H s.heap.objs.size (.lst []))) [] (ow ++ σf fr σ) H' s' ∧ ow.length = own ∧ tn i s'.heap ∧ (∀ b ∈ fp, H' b = none) ∧ H' s.heap.objs.size = some (.lst ys) ∧ (n = n0 - i ∧ i ≤ n0) ∧ W i ys H') ?_ n0
      ⟨0, List.replicate own none, _, [], J0, by simp, st0, fun b hb => (fp3 b hb).1, upd_same, ⟨rfl, Nat.zero_le _⟩, w0⟩
    rintro n s5 ⟨i, ow, H5, ys, I5, hlo, st5, fr5, ha5, ⟨rfl, hi5⟩, w5⟩
    rcases turn i ys H5 hi5 ha5 w5 with ⟨stop, qn⟩ | ⟨hin, go, step⟩
    · refine thn (T.done (cxComp X N scope cl s3.heap.objs.size fp s3 (upd H s.heap.objs.size (.lst []))) rfl rfl rfl hc i [] s5 _ H5 (fun _ _ => False) I5 (stat fr5) st5 stop) fun r s6 ⟨hr, I6⟩ => ?_
      subst hr
      have IX : Inv X pins σ H5 s6 := I3.call' I6.os I6.base I6.hok I6.bare fun b hb => let ⟨_, f2, _, f4, f5, f6⟩ := fp3 b hb; ⟨f4, f2, f5, f6⟩
      refine hRR _ _ s6 H5 IX qn (I3.fpOk (Nat.le_refl _) I6.free) ?_
      obtain ⟨m, hn, _⟩ := I6.loc
      exact ⟨m, hn⟩
    · refine thn (T.item (cxComp X N scope cl s3.heap.objs.size fp s3 (upd H s.heap.objs.size (.lst []))) rfl rfl rfl hc i [] s5 _ H5 (fun _ _ => False) I5 (stat fr5) st5 go) fun r s6 ⟨u, hr, h6⟩ => ?_
      subst hr
      refine thn h6 fun _ s7 ⟨x, H7, I7, r7, y7, st7, fr7⟩ => ?_
      have I7' := (I7.pinned (stat fr7) (T.obj _ _ st7)).weak (σ' := σc own fr σ) (by unfold σc; simp [hlo]) (fun j v e => by
        unfold σc at e
        rcases Nat.lt_or_ge j own with z | z
        · rw [List.getElem?_append_left (by simpa using z), List.getElem?_replicate] at e
          split at e <;> cases e
        · rw [List.getElem?_append_right (by simpa using z)] at e
          rw [List.getElem?_append_right (by rw [hlo]; exact z), hlo]
          simpa using e)
      refine thn (hg _ _ _ _ s7 _ H7 x u _ I7' r7 (step x H7 y7)) fun _ s8 ⟨σ8, H8, I8, ⟨ow8, hl8, e8⟩, q8⟩ => ?_
      refine thn (hf _ _ _ _ s8 _ H8 _ I8 q8) fun ok s9 ⟨H9, I9, q9⟩ => ?_
      have again : ∀ {H' : Hp} {s' : Shared}, Inv (cxComp X N scope cl s3.heap.objs.size fp s3 (upd H s.heap.objs.size (.lst []))) ([] ++ pinsAt fp s7.heap) σ8 H' s' → ∀ {ys' : List V}, H' s.heap.objs.size = some (.lst ys') → W (i + 1) ys' H' →
          ∃ m, m < n0 - i ∧ ∃ i ow H' ys, Inv (cxComp X N scope cl s3.heap.objs.size fp s3 (upd H s.heap.objs.size (.lst []))) [] (ow ++ σf fr σ) H' s' ∧ ow.length = own ∧ tn i s'.heap ∧ (∀ b ∈ fp, H' b = none) ∧ H' s.heap.objs.size = some (.lst ys) ∧ (m = n0 - i ∧ i ≤ n0) ∧ W i ys H' := fun {H' s'} I' {ys'} ha hw' => by
        refine ⟨n0 - (i + 1), by omega, i + 1, ow8, H', ys', e8 ▸ I'.unpinned, hl8, T.keep _ _ _ st7 fun b hb o e => (I'.pin (b, o) (List.mem_append_right _ (List.mem_append_right _ (mem_pinsAt hb e)))).1, fun b hb => ?_, ha, ⟨rfl, hin⟩, hw'⟩
        obtain ⟨o, e, _⟩ := T.obj _ _ st7 b hb
        exact (I'.pin (b, o) (List.mem_append_right _ (List.mem_append_right _ (mem_pinsAt hb e)))).2.1
      cases ok with
      | false =>
        have q9' : H9 s.heap.objs.size = some (.lst ys) ∧ W (i + 1) ys H9 := by simpa using q9
        obtain ⟨ha, hw'⟩ := q9'
        show if false = true then _ else _
        rw [if_neg (by decide)]
        exact again I9 ha hw'
      | true =>
        rw [if_pos rfl] at q9
        show if true = true then _ else _
        rw [if_pos rfl]
        refine thn (he _ _ _ _ s9 _ H9 _ I9 q9) fun y s10 ⟨v10, H10, I10, r10, ha10, hz10, hw'⟩ => ?_
        refine thn (mt_append _ s10 _ H10 (.ref s.heap.objs.size) [v10] (.ref s.heap.objs.size) [y] (fun _ H' => H' = upd H10 s.heap.objs.size (.lst (ys ++ [v10]))) I10 rfl (.cons r10 .nil) ⟨_, ys, v10, rfl, rfl, ha10, hz10, rfl⟩) fun _ s11 ⟨_, H11, I11, _, e11⟩ => ?_
        subst e11
        exact again I11 upd_same hw'
  exact codeAny_compStart_list (loop _ (by rw [← hs3]; rfl)) (T.self X.A 0 _ _ _ st0 (loop _ (by rw [← hs3]; rfl)))
end

section
variable {X : Cx} {sc : Scope} {XN N : List Str} {own : Nat} {fr : List Nat} {scope : Scope} {elt tg iter : Expr} {ifs : List Expr} {pos : Pos} {wi : TI} {g : TG} {tf : TT} {te : TE}
theorem pe_compH {eh : Addr} (hc : X.A.handled = some (.ref eh)) (S : CompScope sc XN N own fr scope) (hi : PIH eh X tg iter wi)
    (hg : ∀ cl C fp s H, PG (cxComp X N scope cl C fp s H) tg g) (hf : ∀ cl C fp s H, PFs (cxComp X N scope cl C fp s H) ifs tf) (he : ∀ cl C fp s H, PE (cxComp X N scope cl C fp s H) elt te)
    (hs : ∀ x, foldedSetIterable iter X.env x = pure x := by intro _; rfl) (hsc : X.env.scope = sc := by rfl) (hxn : X.N = XN := by rfl) : PE X (.ListComp elt [⟨tg, iter, ifs, 0⟩] scope pos) (tComp own fr wi g tf te) := by
  subst hsc hxn
  intro pins s σ H Q I h
  obtain ⟨cl, c1, c2, c3⟩ := closure_ok (scope := scope) (env := X.env) fun y hy e => I.ok.has y.1 (S.free y hy e)
  rw [eval_ListComp]
  refine wpAny_comprehension_free (use := none) rfl hs c1 S.kind S.loc (thn (hi pins s σ H _ I h) fun xv s1 h1 => thn h1 fun itv s2 h2 => ?_)
  obtain ⟨it, fp, tn, J, H2, e, I2, T, st2, f2, hw⟩ := h2
  subst e
  refine comp_blockH hc S c2 c3 (fun C s H => hg cl C fp s H) (fun C s H => hf cl C fp s H) (fun C s H => he cl C fp s H) I2 T st2 f2 hw fun a C s' H' I' q fC ⟨m, hn⟩ => ?_
  refine ⟨m, hn, fun h' hs' => ?_⟩
  obtain ⟨f0, f1, _, f3, f4, f5⟩ := fC
  exact ⟨.ref a, H', I'.turned (t' := s'.toks) (fun b o hb e => hs'.extBut b o hb e) f0 f1 f3 f4 f5, rfl, q⟩
end

/-! ### calls -/
structure RoomH (e : Addr) (k : Nat) (A : Around) : Prop where
  hd : A.handled = some (.ref e)
  dp : A.depth + 3 * k + 5 < recursionLimit
  un : A.units + 16 * k + 200 < cLine
  gd : A.guards = some []
theorem Room.mark {k : Nat} {A : Around} (r : Room k A) (e : Addr) : RoomH e k (A.mark (some (.ref e))) := ⟨rfl, r.dp, r.un, r.gd⟩
theorem RoomH.mono {e : Addr} {j k : Nat} {A : Around} (r : RoomH e k A) (h : j ≤ k) : RoomH e j A := ⟨r.hd, by have := r.dp; omega, by have := r.un; omega, r.gd⟩
theorem RoomH.deeper {e : Addr} {k : Nat} {A : Around} (r : RoomH e (k + 1) A) (env : Env) : RoomH e k (A.deeper env) :=
  ⟨r.hd, by have := r.dp; show A.depth + 1 + 3 * k + 5 < _; omega, by have := r.un; show A.units + 3 + 16 * k + 200 < _; omega, r.gd⟩
theorem RoomH.depth {e : Addr} {k : Nat} {A : Around} (r : RoomH e k A) : A.depth < recursionLimit := by have := r.dp; omega
theorem RoomH.hu {e : Addr} {k : Nat} {A : Around} (r : RoomH e k A) : A.units + 1 < cLine := by have := r.un; omega
structure FnOkH (e : Addr) (P : Program) (w : World) (K : Frag) (mg : Str → Option Value) (base : Heap) (k : Nat) (f : Addr) (fd : FuncData) (ps : List Str) (sp : Sp) : Prop where
  len : ∀ vs H Q E, sp vs H Q E → vs.length = ps.length
  run : ∀ (A : Around) (outer : List Env) (s : Shared) (H : Hp) (args : Args) (us : List Value) (vs : List V) (Q : VK) (E : XK), RoomH e k A → Env0 P w K mg base A outer s H → BindsTo s fd args (ps.zip us) → Vals vs us → sp vs H Q E →
    codeAny (model P w) A (.call (.ref f) args) (CR CX0 outer P w H s Q E) s
def cxOfH (P : Program) (w : World) (K : Frag) (mg : Str → Option Value) (base : Heap) (N : List Str) (qual : Str) (scope : Scope) (f : Addr) (cd : Value) (A : Around) (outer : List Env) (s : Shared) (H : Hp) (E : XK) : Cx :=
  { cxOf CX0 P w K mg base N qual scope f cd A outer s H E with calm := false }
theorem inv_startH {P : Program} {w : World} {K : Frag} {mg : Str → Option Value} {base : Heap} {N ps : List Str} {qual : Str} {scope : Scope} {f : Addr} {cd : Value} {A : Around} {outer : List Env} {s s1 : Shared} {H : Hp} {E : XK} {us : List Value} {vs : List V}
    (S : FnScope N ps scope) (e0 : Env0 P w K mg base A outer s H) (hl : vs.length = ps.length) (r : Vals vs us)
    (x : InCallC s s.heap.objs.size (bindL (envOfC qual scope s.heap.objs.size f cd).kindOf (ps.zip us) fun _ => none) (cellsFrom (s.heap.objs.size + 1) scope.names []) (bindC (envOfC qual scope s.heap.objs.size f cd).kindOf (ps.zip us) fun _ => none) s1) :
    Inv (cxOfH P w K mg base N qual scope f cd A outer s H E) [] (start N vs) H s1 := by
  have I := inv_start (CX := CX0) (A := { A with handled := none }) (E := E) S rfl ⟨e0.frames, e0.mod, e0.bs, e0.bsz, e0.funs, e0.frf, e0.hok, e0.bare⟩ hl r x
  have ok := I.ok
  exact ⟨⟨ok.mod, ok.kind, ok.glob, ok.blt, ok.above, ok.inj, ok.has, ok.cab, (fun z => Bool.noConfusion z), Around.frames_deeper e0.frames, ok.stk, ok.exf, ok.bs, ok.bsz, ok.noex, ok.exfs, ok.funs, ok.frf⟩, I.os, I.bare, I.base, I.loc, I.cell, I.free, I.freeC, I.pin, I.hok, I.len⟩
theorem fn_ofH {eh : Addr} {P : Program} {w : World} {K : PySem.W.Frag} {mg : Str → Option Value} {base : Heap} {k : Nat} {f : Addr} {name qual : Str} {params : Arguments} {body : List Stmt} {scope : Scope} {dV kV doc pm cdv ct oc : Value} {an od : Option Addr}
    {osl : Array (Option Value)} {N ps : List Str} {sp : Sp} (lk : K.lookup f = some ⟨oc, od, .func (PySem.W.fnOf name qual params body scope dV kV doc pm an cdv ct), osl⟩) (hcd : PySem.W.codeIn K cdv qual = true) (S : FnScope N ps scope)
    (len : ∀ vs H Q E, sp vs H Q E → vs.length = ps.length)
    (hbody : ∀ (A : Around) (outer : List Env) (s : Shared) (H : Hp) (vs : List V) (Q : VK) (E : XK), RoomH eh k (A.deeper (envOfC qual scope s.heap.objs.size f cdv)) → sp vs H Q E →
      ∃ t, PSs (cxOfH P w K mg base N qual scope f cdv A outer s H E) body t ∧ t { nx := fun _ H' => Q .non H', rt := Q } (start N vs) H) :
    FnOkH eh P w K mg base (k + 1) f (PySem.W.fnOf name qual params body scope dV kV doc pm an cdv ct) ps sp := by
  refine ⟨len, fun A outer s H args us vs Q E hr e0 hb r hsp => ?_⟩
  have hl := len _ _ _ _ hsp
  have KX : K.In s.heap := e0.mod.kin.keeps fun b o e => (e0.bs b o e).1
  have lim : s.heap.NoLimit := e0.mod.nolimit.keeps fun b o e => (e0.bs b o e).1
  have hkind : ∀ y ∈ ps.zip us, scope.names.lookup y.1 = some .local ∨ (scope.names.lookup y.1 = some .cell ∧ ((cellsFrom (s.heap.objs.size + 1) scope.names []).lookup y.1).isSome = true) := fun ⟨n, v⟩ hy => by
    rcases S.par n (List.of_mem_zip hy).1 with q | q
    · exact .inl q
    · exact .inr ⟨q, PySem.W.cellsFrom_some _ _ _ (.inl q)⟩
  refine codeAny_call_function hr.depth (KX _ _ lk) rfl S.co S.gen rfl (PySem.W.codeRec_of KX hcd) (hb _ _ _ _ ?_)
  refine wpAny_newFunctionEnv_cells S.kind hkind fun env he s1 x => ?_
  subst he
  refine ⟨lim.keeps x.toInCall.keep, codeAny_func ?_⟩
  obtain ⟨t, ht, hq⟩ := hbody A outer s H vs Q E (hr.deeper _) hsp
  have I : Inv (cxOfH P w K mg base N qual scope f cdv A outer s H E) [] (start N vs) H s1 := inv_startH S e0 hl r x
  refine wpAny_mono (ht [] s1 (start N vs) H _ I hq) (fun fl s' hs => ?_) fun e s' hs => hs
  have fin : ∀ {σ' : St} {H' : Hp} {v : V} {u : Value}, Inv (cxOfH P w K mg base N qual scope f cdv A outer s H E) [] σ' H' s' → RelV v u → Q v H' → CE outer P w H s Q u s' :=
    fun {σ' H' v u} J rv q => ⟨v, H', J.os, J.bare, J.base, J.hok, rv, q⟩
  cases fl with
  | ret u =>
    obtain ⟨v, σ', H', J, rv, q⟩ := hs
    exact fin J rv q
  | next =>
    obtain ⟨σ', H', J, q⟩ := hs
    exact fin (v := V.non) (u := Value.none) J rfl q
  | brk =>
    obtain ⟨_, _, _, q⟩ := hs
    exact False.elim q
  | cont =>
    obtain ⟨_, _, _, q⟩ := hs
    exact False.elim q
section
variable {X : Cx} {eh : Addr} {k : Nat} {f C : Addr} {fd : FuncData} {ps : List Str} {sp : Sp} {dvs : List V} {ds : List Value} {E : XK} {x m : Str} {p pos apos : Pos} {e o : Expr} {es : List Expr} {ta : TE} {t : TA}
theorem run_fnH {pins : List (Addr × Obj)} {σ : St} {H : Hp} {s : Shared} {Q : VK} {us : List Value} {vs : List V} (F : FnOkH eh X.prog X.w X.K X.mg X.base k f fd ps sp) (hr : RoomH eh k X.A) (hb : Binds X.K fd ps ds) (hd : Vals dvs ds) 
    (I : Inv X pins σ H s) (r : Vals vs us) (h : sp (vs ++ dvs) H Q E) : wpAny (model X.prog X.w) X.A (call (.ref f) us) (EP X pins σ Q) X.xe s := by
  have r2 : Vals (vs ++ dvs) (us ++ ds) := r.append hd
  have hl : (us ++ ds).length = ps.length := by rw [← r2.length]; exact F.len _ _ _ _ h
  refine wpAny_call (codeAny_mono (F.run X.A X.stack s H ⟨us, []⟩ (us ++ ds) (vs ++ dvs) Q E hr I.env0 (hb s us I.kIn hl) r2 h) fun r s' hq => ?_)
  cases r with
  | error e => exact False.elim hq
  | ok fl =>
    cases fl with
    | ret u => exact I.after hq
    | next => exact False.elim hq
    | brk => exact False.elim hq
    | cont => exact False.elim hq

theorem pe_callH (F : FnOkH eh X.prog X.w X.K X.mg X.base k f fd ps sp) (hr : RoomH eh k X.A) (hg : Gl X x) (hm : X.mg x = some (.ref f)) (hk : PySem.W.keepIn X.K (.ref f) = true) (hb : Binds X.K fd ps ds) (hd : Vals dvs ds)
    (ha : PA X (e :: es) t) (hdb : (x == ("__debug__" : Str)) = false := by decide) (he : starEach (e :: es) X.env = (false, eval e X.env) :: starEach es X.env := by rfl) (hpl : (backTo pos (starEach es X.env)).any (·.1) = false := by rfl) :
    PE X (.Call (.Name x p) (e :: es) [] pos) (tCall sp dvs E t) := by
  intro pins s σ H Q I h
  refine wpAny_Call_Name_kw (ld_glob I hg hm ?_ hdb)
  refine PySem.W.callWith_K (h₀ := X.base) I.ok.mod.kin hk (thn (ha pos pins s σ H _ I h) fun us s1 ⟨vs, H1, I1, r, q⟩ => ⟨I1.kIn, ?_⟩) he hpl
  exact run_fnH F hr hb hd I1 r q

end
def GoodH (eh : Addr) (P : Program) (w : World) (K : Frag) (mg : Str → Option Value) (base : Heap) (k : Nat) (x : Str) (ps : List Str) (sp : Sp) : Prop :=
  ∃ (f : Addr) (fd : FuncData), FnOkH eh P w K mg base k f fd ps sp ∧ Binds K fd ps [] ∧ mg x = some (.ref f) ∧ keepIn K (.ref f) = true
theorem pe_fnH {eh : Addr} {X : Cx} {k : Nat} {x : Str} {ps : List Str} {sp : Sp} {e : Expr} {es : List Expr} {t : TA} {p pos : Pos} (G : GoodH eh X.prog X.w X.K X.mg X.base k x ps sp) (hr : RoomH eh k X.A) (hg : Gl X x) (ha : PA X (e :: es) t) (hdb : (x == ("__debug__" : Str)) = false := by decide)
    (hst : isStar e = false := by rfl) (hpl : (backTo pos (starEach es X.env)).any (·.1) = false := by rfl) : PE X (.Call (.Name x p) (e :: es) [] pos) (tCall sp [] E0 t) := by
  obtain ⟨f, fd, F, b, m, kp⟩ := G
  exact pe_callH F hr hg m kp b .nil ha hdb (star_cons hst) hpl
theorem Has.goodH {eh : Addr} {P : Program} {w : World} {K : Frag} {mg : Str → Option Value} {base : Heap} {x : Str} {st : Stmt} {N ps : List Str} {k : Nat} {sp : Sp} (h : Has K mg x st) (S : FnScope N ps (defScope st))
    (hb : ∀ (kV doc pm : Value) (an : Option Addr) (cdv ct : Value) (us : List Value), us.length = ps.length → bindArgs (fnOf x x (defArgs st) (defBody st) (defScope st) .none kV doc pm an cdv ct) ⟨us, []⟩ = pure (ps.zip us))
    (len : ∀ vs H Q E, sp vs H Q E → vs.length = ps.length)
    (hbody : ∀ (f : Addr) (cdv : Value) (A : Around) (outer : List Env) (s : Shared) (H : Hp) (vs : List V) (Q : VK) (E : XK), RoomH eh k (A.deeper (envOfC x (defScope st) s.heap.objs.size f cdv)) → sp vs H Q E →
      ∃ t, PSs (cxOfH P w K mg base N x (defScope st) f cdv A outer s H E).nox (defBody st) t ∧ t { nx := fun _ H' => Q .non H', rt := Q } (start N vs) H) : GoodH eh P w K mg base (k + 1) x ps sp := by
  obtain ⟨f, fd, F, m⟩ := h
  refine ⟨f, fd, ?_, F.binds hb, m, F.kp⟩
  obtain ⟨oc, od, kV, doc, pm, an, cdv, ct, osl, rfl, lk, hcd⟩ := F.ex
  refine fn_ofH lk hcd S len fun A outer s H vs Q E hr hsp => ?_
  obtain ⟨t, h, q⟩ := hbody f cdv A outer s H vs Q E hr hsp
  exact ⟨t, h.nox, q⟩
end L2
/-! a def called within an except suite -/
namespace L2
open PySem PySem.Spec PySem.Calls PyProof.Rows PySem.W
/-- try, what is wanted of the suite by the exception's address -/
def EXe (K : Frag) (CF : Addr) (n : Nat) (i : Nat) (ts : Addr → TS) (Dn : Ends) : XK := fun cls _ H1 => ∃ D : Addr, cls = .ref D ∧ Caught K D CF ∧ ∀ e, H1 e = none →
  ts e { nx := fun σ H => Dn.nx (σ.set i none) H, rt := Dn.rt, bk := fun σ H => Dn.bk (σ.set i none) H, ct := fun σ H => Dn.ct (σ.set i none) H } ((List.replicate n none).set i (some (.ref e))) (upd H1 e (xO e D))
def tTryE (K : Frag) (CF : Addr) (n i : Nat) (tb : XK → TS) (ts : Addr → TS) : TS := fun Dn σ H => tb (EXe K CF n i ts Dn) Dn σ H
section
variable {X : Cx} {body suite : List Stmt} {b₀ : Stmt} {x n : Str} {i : Nat} {CF : Addr} {tb : XK → TS} {ts : Addr → TS} {np pos hp_ : Pos}
theorem ps_tryE (hex : X.ex = []) (hst : X.stack = X.env :: X.outer) (hfr : X.env.frame = some X.env.locals) (hg : Gl X x) (hm : X.mg x = some (.ref CF)) (hN : X.N.Nodup) (hi : X.N[i]? = some n) (hl : X.env.kindOf n = some .local) (hx : Loc X.env.scope n) (hf : X.fn n = true ∨ X.env.scope.names.lookup n = some .local)
    (hb : ∀ (E : XK) (pn : List (Addr × Obj)) (xe : Value → Shared → Prop), Passes (CXE X.prog X.w) (X.tr pn xe) E → PSs (X.tr pn xe) body (tb E)) (hs : ∀ pn e, PSs (X.sx pn e) (b₀ :: suite) (ts e))
    (hd : (x == ("__debug__" : Str)) = false := by decide) :
    PS X (.Try body [.ExceptHandler (some (.Name x np)) (some n) (b₀ :: suite) hp_] [] [] pos) (tTryE X.K CF X.N.length i tb ts) := by
  intro pins s σ H Dn I h
  have hcalm := I.ok.hd
  have hps : (X.env.scope.kind == .class || (X.env.scope.kind == .module && X.env.locals != X.env.globals)) = false := by rw [I.ok.kind]; rfl
  let E := EXe X.K CF X.N.length i ts Dn
  let xe : Value → Shared → Prop := fun v s' => ∃ (e T : Addr) (cls : Value) (H' : Hp), v = .ref e ∧ Inv X pins (List.replicate X.N.length none) H' s' ∧ Far X pins H' e ∧ Far X pins H' T ∧ FlyP (ExP cls) .none s'.heap e T ∧ E cls none H'
  have hp : Passes (CXE X.prog X.w) (X.tr (X.pn ++ pins) xe) E := by
    intro pins2 σ2 H2 s2 v s' I2 c
    obtain ⟨e, T, cls, H', rfl, hos, hbr, u, hok, e0, T0, e1, T1, fl, q⟩ := c
    have I3 := I2.call' hos u hok hbr (by simp)
    have fe := (I2.far (b := e) hex e0).now e1
    have fT := (I2.far (b := T) hex T0).now T1
    refine ⟨e, T, cls, H', rfl, I3.untr.blank, ⟨fe.s0, e1, fe.ne, fe.nc, fun p hp => fe.np p ?_⟩, ⟨fT.s0, T1, fT.ne, fT.nc, fun p hp => fT.np p ?_⟩, fl, q⟩
    · exact List.mem_append_left _ hp
    · exact List.mem_append_left _ hp
  refine wpAny_Try_except (wpAny_mono (hb E _ xe hp [] s σ H Dn I.tr h) (fun f s1 q => ?_) (fun v s1 q => ?_))
  · have q := SP.untr q
    cases f with
    | next => exact wpAny_execs_nil q
    | brk => exact q
    | cont => exact q
    | ret u => exact q
  · obtain ⟨e, T, cls, H1, rfl, I1, fe, fT, fl, D, rfl, CT, q⟩ := q
    have hfs : X.A.frames = some (X.env :: X.outer) := by rw [← hst]; exact I1.ok.frames
    have hstk : s1.heap.FunFrames X.base (X.env :: X.outer) := by rw [← hst]; exact I1.stack
    refine noteP hfs hstk hfr fl (fun o y p => p.set y) fun h2 T2 nt t2 fl2 => ?_
    have I2 : Inv X pins (List.replicate X.N.length none) H1 { s1 with heap := h2 } := I1.noted (ch := [e, T]) (fun b hb => by
      rcases List.mem_cons.mp hb with z | z
      · rw [z]; exact fe
      · rw [show b = T by simpa using z]; exact fT) (by rw [hst]; exact nt)
    have f2 := I1.far (b := T2) hex t2
    refine flightP (s := { s1 with heap := h2 }) fl2 fun h3 k3 fl3 => ?_
    have toT : ∀ (hh hh' : Heap), (∀ b o, b ≠ T2 → hh.get? b = some o → hh'.get? b = some o) → Noted X.stack [T2] hh hh' := fun hh hh' k => ⟨fun b o _ nb q => k b o (by simpa using nb) q, fun b o _ nb q => ⟨o.slots, k b o (by simpa using nb) q⟩⟩
    have I3 : Inv X pins (List.replicate X.N.length none) H1 { s1 with heap := h3 } := I2.noted (ch := [T2]) (fun b hb => by rw [show b = T2 by simpa using hb]; exact f2) (toT _ _ k3)
    refine wpAny_handleBy_cons (codeAny_handlers_test ?_) (by intro z; cases z)
    refine ld_glob (X := X.sx (X.pn ++ pins) e) I3.sx hg hm ?_ hd
    obtain ⟨oe, vs, oT, tl, g1, g2, g3⟩ := id fl3
    refine exc_match (K := X.K) I3.kIn (g2.inst g1) CT.ty CT.mb (ic_of CT.mb) CT.md ?_
    show codeAny _ _ _ _ _
    refine codeAny_handlers_suite_as ?_
    refine flightP (s := { s1 with heap := h3 }) fl3 fun h4 k4 fl4 => ?_
    have I4 : Inv X pins (List.replicate X.N.length none) H1 { s1 with heap := h4 } := I3.noted (ch := [T2]) (fun b hb => by rw [show b = T2 by simpa using hb]; exact f2) (toT _ _ k4)
    obtain ⟨oe4, _, _, _, r1, r2, _⟩ := id fl4
    have I5 := I4.know (o := xO e D) fe (xO_ok ⟨oe4, r1, r2⟩)
    refine store_ok (X := X.sx (X.pn ++ pins) e) I5.sx hN hi hx (v := .ref e) rfl (fun s6 I6 => ?_) hf
    refine wpAny_mono (hs (X.pn ++ pins) e [] s6 _ _ _ I6 (q e fe.un)) (fun f s7 z => ?_) fun _ _ z => z.elim
    have gone : ∀ (σ7 : St) (H7 : Hp) (R : Unit → Shared → Prop) (E7 : Value → Shared → Prop), Inv (X.sx (X.pn ++ pins) e) [] σ7 H7 s7 → (∀ s8, Inv X pins (σ7.set i none) H7 s8 → R () s8) → wpAny (model X.prog X.w) X.A (do bindName X.env n .none; unbindBehindTheSuite X.env n hp_) R E7 s7 := fun σ7 H7 R E7 I7 k => by
      have I8 : Inv X pins σ7 H7 s7 := I7.unsx hcalm
      obtain ⟨m, hm7, _⟩ := id I8.loc
      refine wpAny_nameGoes_keeps hl hm7 hps fun h8 v8 n8 sb => k _ (I8.gone hN hi (m' := m) (fun m' hm' => ⟨v8, ?_⟩) sb)
      rw [ns_fun hm' hm7]
      exact n8
    cases f with
    | next => obtain ⟨σ7, H7, I7, q7⟩ := z; exact gone σ7 H7 _ _ I7 fun s8 I8 => ⟨_, _, I8, q7⟩
    | brk => obtain ⟨σ7, H7, I7, q7⟩ := z; exact gone σ7 H7 _ _ I7 fun s8 I8 => ⟨_, _, I8, q7⟩
    | cont => obtain ⟨σ7, H7, I7, q7⟩ := z; exact gone σ7 H7 _ _ I7 fun s8 I8 => ⟨_, _, I8, q7⟩
    | ret u => obtain ⟨v, σ7, H7, I7, r7, q7⟩ := z; exact gone σ7 H7 _ _ I7 fun s8 I8 => ⟨v, _, _, I8, r7, q7⟩
end
theorem pe_fnS {X : Cx} {pn : List (Addr × Obj)} {eh : Addr} {k : Nat} {x : Str} {ps : List Str} {sp : Sp} {e : Expr} {es : List Expr} {t : TA} {p pos : Pos} (G : GoodH eh X.prog X.w X.K X.mg X.base k x ps sp) (hr : Room k X.A) (hg : Gl (X.sx pn eh) x) (ha : PA (X.sx pn eh) (e :: es) t) (hdb : (x == ("__debug__" : Str)) = false := by decide)
    (hst : isStar e = false := by rfl) (hpl : (backTo pos (starEach es X.env)).any (·.1) = false := by rfl) : PE (X.sx pn eh) (.Call (.Name x p) (e :: es) [] pos) (tCall sp [] E0 t) :=
  pe_fnH (X := X.sx pn eh) G (hr.mark eh) hg ha hdb hst hpl
end L2
namespace RunM
/-- whether a run has a number -/
def hasR (lo hi st x : Int) : Bool := decide (lo ≤ x) && (decide (x ≤ hi) && (decide (x = lo) || decide ((x - lo) % st = 0)))
theorem hasR_iff {lo hi st x : Int} : hasR lo hi st x = true ↔ lo ≤ x ∧ x ≤ hi ∧ st ∣ (x - lo) := by
  unfold hasR
  rw [Bool.and_eq_true, Bool.and_eq_true, Bool.or_eq_true, decide_eq_true_eq, decide_eq_true_eq, decide_eq_true_eq, decide_eq_true_eq]
  constructor
  · rintro ⟨h1, h2, h3⟩
    refine ⟨h1, h2, ?_⟩
    rcases h3 with h3 | h3
    · rw [h3, Int.sub_self]; exact Int.dvd_zero _
    · exact Int.dvd_of_emod_eq_zero h3
  · rintro ⟨h1, h2, h3⟩
    exact ⟨h1, h2, .inr (Int.emod_eq_zero_of_dvd h3)⟩
structure RunOk (lo hi st : Int) : Prop where
  nn : 0 ≤ st
  z : st = 0 → lo = hi
  p : 0 < st → lo < hi ∧ st ∣ (hi - lo)
theorem RunOk.le {lo hi st : Int} (r : RunOk lo hi st) : lo ≤ hi := by
  rcases Int.lt_or_le 0 st with h | h
  · exact Int.le_of_lt (r.p h).1
  · have := r.nn
    rw [r.z (by omega)]
    exact Int.le_refl _
/-- what run_has tells -/
theorem hasR_of {lo hi st x : Int} (r : RunOk lo hi st) : hasR lo hi st x = if st = 0 then decide (x = lo) else (decide (lo ≤ x) && (decide (x ≤ hi) && decide ((x - lo) % st = 0))) := by
  split
  · rename_i h
    subst h
    have hz := r.z rfl
    subst hz
    unfold hasR
    by_cases e : x = lo
    · subst e; simp
    · have : ¬ (lo ≤ x ∧ x ≤ lo) := fun ⟨a, b⟩ => e (by omega)
      rw [decide_eq_false e, Bool.false_or]
      by_cases h1 : lo ≤ x
      · have h2 : ¬ x ≤ lo := fun h2 => this ⟨h1, h2⟩
        simp [h2]
      · simp [h1]
  · unfold hasR
    by_cases e : x = lo
    · subst e; simp
    · simp [e]
/-- what the first tells of the second: the first of its three numbers that the other has not -/
def partR (a b : Int × Int × Int) : Option Int := [a.1, a.2.1, a.1 + a.2.2].find? fun x => !hasR b.1 b.2.1 b.2.2 x
theorem part_none {a b : Int × Int × Int} : partR a b = none ↔ hasR b.1 b.2.1 b.2.2 a.1 = true ∧ hasR b.1 b.2.1 b.2.2 a.2.1 = true ∧ hasR b.1 b.2.1 b.2.2 (a.1 + a.2.2) = true := by
  unfold partR
  rw [List.find?_eq_none]
  simp
theorem steps {lo hi st k : Int} (r : RunOk lo hi st) (h0 : 0 ≤ k) (h1 : k ≤ (hi - lo) / (if st > 1 then st else 1)) : lo ≤ lo + st * k ∧ lo + st * k ≤ hi := by
  have hn := r.nn
  have hm : 0 ≤ st * k := Int.mul_nonneg hn h0
  refine ⟨by omega, ?_⟩
  by_cases hs : st = 0
  · subst hs
    have := r.z rfl
    simp; omega
  · have e : (if st > 1 then st else 1) = st := by split <;> omega
    rw [e] at h1
    have h2 : st * k ≤ st * ((hi - lo) / st) := Int.mul_le_mul_of_nonneg_left h1 hn
    have h3 : st * ((hi - lo) / st) ≤ hi - lo := Int.mul_ediv_self_le hs
    omega
theorem ok_of {lo hi st : Int} (h1 : 1 ≤ st) (h2 : lo < hi) (h3 : st ∣ (hi - lo)) : RunOk lo hi st := ⟨by omega, fun z => by omega, fun _ => ⟨h2, h3⟩⟩
theorem ok_one (lo : Int) : RunOk lo lo 0 := ⟨Int.le_refl _, fun _ => rfl, fun h => absurd h (by decide)⟩
theorem drawn {lo s n : Int} (hs : 1 ≤ s) (hn : 0 ≤ n) : RunOk lo (lo + s * n) (s * (if 1 < n then 1 else n)) := by
  by_cases h0 : n = 0
  · subst h0
    simp only [Int.mul_zero, Int.add_zero, show ¬ ((1 : Int) < 0) by decide, if_false]
    exact ok_one lo
  · have e : s * (if 1 < n then 1 else n) = s := by
      split
      · exact Int.mul_one s
      · rw [show n = 1 by omega, Int.mul_one]
    rw [e]
    have : 0 < s * n := Int.mul_pos (by omega) (by omega)
    exact ok_of hs (by omega) (by rw [show lo + s * n - lo = s * n by omega]; exact Int.dvd_mul_right _ _)
theorem drawn_le {s n : Int} (hs : 1 ≤ s) (hn : 0 ≤ n) : s * (if 1 < n then 1 else n) ≤ s ∧ 0 ≤ s * (if 1 < n then 1 else n) := by
  split
  · rw [Int.mul_one]; omega
  · have : n = 0 ∨ n = 1 := by omega
    rcases this with e | e <;> subst e
    · simp; omega
    · rw [Int.mul_one]; omega
end RunM
namespace GcdM
open RunM
/-- the greatest divisor, as a whole number -/
def g (a b : Int) : Int := ((Int.gcd a b : Nat) : Int)
theorem g_nonneg (a b : Int) : 0 ≤ g a b := Int.natCast_nonneg _
theorem g_dvd {d a b : Int} : d ∣ g a b ↔ d ∣ a ∧ d ∣ b := by
  unfold g
  constructor
  · intro h
    exact ⟨Int.dvd_trans h (Int.gcd_dvd_left ..), Int.dvd_trans h (Int.gcd_dvd_right ..)⟩
  · rintro ⟨h1, h2⟩
    exact Int.dvd_coe_gcd h1 h2
theorem g_zero (a : Int) (h : 0 ≤ a) : g a 0 = a := by
  unfold g
  rw [Int.gcd_zero_right]
  omega
theorem eq_of_dvd {a b : Int} (ha : 0 ≤ a) (hb : 0 ≤ b) (h : ∀ d : Int, d ∣ a ↔ d ∣ b) : a = b := by
  have h1 : a ∣ b := (h a).mp (Int.dvd_refl _)
  have h2 : b ∣ a := (h b).mpr (Int.dvd_refl _)
  exact Int.dvd_antisymm ha hb h1 h2
/-- one turn of the divisor's loop -/
theorem g_turn {a b : Int} (hb : 0 < b) : g b (a % b) = g a b := by
  refine eq_of_dvd (g_nonneg _ _) (g_nonneg _ _) fun d => ?_
  rw [g_dvd, g_dvd]
  constructor
  · rintro ⟨h1, h2⟩
    refine ⟨?_, h1⟩
    have := Int.dvd_add (Int.dvd_trans h1 (Int.dvd_mul_right b (a / b))) h2
    rw [Int.mul_ediv_add_emod] at this
    exact this
  · rintro ⟨h1, h2⟩
    refine ⟨h2, ?_⟩
    have := Int.dvd_sub h1 (Int.dvd_trans h2 (Int.dvd_mul_right b (a / b)))
    rw [show a - b * (a / b) = a % b by have := Int.mul_ediv_add_emod a b; omega] at this
    exact this
/-- the step of a list: all its differences from lo -/
def stepOf (lo : Int) (ns : List Int) : Int := ns.foldl (fun s n => g (n - lo) s) 0
theorem step_dvd {lo d : Int} : ∀ {ns : List Int} {s : Int}, d ∣ ns.foldl (fun s n => g (n - lo) s) s ↔ d ∣ s ∧ ∀ n ∈ ns, d ∣ (n - lo)
  | [], s => by simp
  | n :: r, s => by
    rw [List.foldl_cons, step_dvd, g_dvd]
    constructor
    · rintro ⟨⟨h1, h2⟩, h3⟩
      refine ⟨h2, fun m hm => ?_⟩
      rcases List.mem_cons.mp hm with e | e
      · rw [e]; exact h1
      · exact h3 m e
    · rintro ⟨h1, h2⟩
      exact ⟨⟨h2 n List.mem_cons_self, h1⟩, fun m hm => h2 m (List.mem_cons_of_mem _ hm)⟩
theorem step_nonneg {lo : Int} : ∀ {ns : List Int} {s : Int}, 0 ≤ s → 0 ≤ ns.foldl (fun s n => g (n - lo) s) s
  | [], s, h => h
  | n :: r, s, _ => step_nonneg (ns := r) (g_nonneg _ _)
theorem tell_le {lo hi st : Int} (ok : RunOk lo hi st) : lo ≤ hi ∧ lo + st ≤ hi := by
  refine ⟨ok.le, ?_⟩
  by_cases hs : st = 0
  · rw [hs, ← ok.z hs]; omega
  · have hp : 0 < st := by have := ok.nn; omega
    have := ok.p hp
    have := Int.le_of_dvd (by omega) this.2
    omega

theorem g_abs (a : Int) : g a 0 = if a < 0 then -a else a := by
  unfold g
  rw [Int.gcd_zero_right]
  split <;> omega
theorem g_turnF {a b : Int} (hb : b ≠ 0) : g b (a.fmod b) = g a b := by
  refine eq_of_dvd (g_nonneg _ _) (g_nonneg _ _) fun d => ?_
  rw [g_dvd, g_dvd]
  have e := Int.mul_fdiv_add_fmod a b
  constructor
  · rintro ⟨h1, h2⟩
    refine ⟨?_, h1⟩
    have := Int.dvd_add (Int.dvd_trans h1 (Int.dvd_mul_right b (a.fdiv b))) h2
    rw [e] at this
    exact this
  · rintro ⟨h1, h2⟩
    refine ⟨h2, ?_⟩
    have := Int.dvd_sub h1 (Int.dvd_trans h2 (Int.dvd_mul_right b (a.fdiv b)))
    rw [show a - b * (a.fdiv b) = a.fmod b by omega] at this
    exact this
theorem fmod_less {a b : Int} (hb : b ≠ 0) : (a.fmod b).natAbs < b.natAbs := by
  rcases Int.lt_or_gt_of_ne hb with h | h
  · have e : a.fmod b = -((-a).fmod (-b)) := by rw [Int.neg_fmod_neg]; omega
    have h1 := Int.fmod_nonneg_of_pos (-a) (show 0 < -b by omega)
    have h2 := Int.fmod_lt_of_pos (-a) (show 0 < -b by omega)
    omega
  · have h1 := Int.fmod_nonneg_of_pos a h
    have h2 := Int.fmod_lt_of_pos a h
    omega
theorem mod_less {a b : Int} (hb : 0 < b) : 0 ≤ a % b ∧ (a % b).toNat < b.toNat := by
  have h1 := Int.emod_nonneg a (show b ≠ 0 by omega)
  have h2 := Int.emod_lt_of_pos a hb
  omega
abbrev R3 := Int × Int × Int
def Ok (a : R3) : Prop := RunOk a.1 a.2.1 a.2.2
def joinR (a b : R3) : R3 := (if b.1 < a.1 then b.1 else a.1, if b.2.1 > a.2.1 then b.2.1 else a.2.1, g (g a.2.2 b.2.2) (a.1 - b.1))
/-- b is within a -/
structure Sub (b a : R3) : Prop where
  lo : a.1 ≤ b.1
  hi : b.2.1 ≤ a.2.1
  far : a.2.2 ∣ (b.1 - a.1)
  st : a.2.2 ∣ b.2.2
theorem hi_dvd {a : R3} (h : Ok a) {d : Int} (x : d ∣ a.2.2) : d ∣ (a.2.1 - a.1) := by
  by_cases hs : a.2.2 = 0
  · rw [← h.z hs, Int.sub_self]; exact Int.dvd_zero _
  · have hp : 0 < a.2.2 := by have := h.nn; omega
    exact Int.dvd_trans x (h.p hp).2
theorem sub_has {b a : R3} (hb : Ok b) (s : Sub b a) : hasR a.1 a.2.1 a.2.2 b.1 = true ∧ hasR a.1 a.2.1 a.2.2 b.2.1 = true ∧ hasR a.1 a.2.1 a.2.2 (b.1 + b.2.2) = true := by
  have t := tell_le hb
  have n := hb.nn
  have h1 := s.lo
  have h2 := s.hi
  rw [hasR_iff, hasR_iff, hasR_iff]
  refine ⟨⟨by omega, by omega, s.far⟩, ⟨by omega, by omega, ?_⟩, ⟨by omega, by omega, ?_⟩⟩
  · have := Int.dvd_add (hi_dvd hb s.st) s.far
    rw [show b.2.1 - b.1 + (b.1 - a.1) = b.2.1 - a.1 by omega] at this
    exact this
  · have := Int.dvd_add s.far s.st
    rw [show b.1 - a.1 + b.2.2 = b.1 + b.2.2 - a.1 by omega] at this
    exact this
theorem sub_part {b a : R3} (hb : Ok b) (s : Sub b a) : partR b a = none := part_none.mpr (sub_has hb s)
theorem sub_refl (a : R3) : Sub a a := ⟨Int.le_refl _, Int.le_refl _, by rw [Int.sub_self]; exact Int.dvd_zero _, Int.dvd_refl _⟩
theorem near_ok {a : R3} (h : Ok a) {d m n : Int} (hd : 1 ≤ d) (hs : 0 < a.2.2) (hx : a.2.2 % d = 0) (hm : 0 ≤ m) (hn : 0 ≤ n) : Ok (a.1 - d * m, a.2.1 + d * n, d) ∧ Sub a (a.1 - d * m, a.2.1 + d * n, d) := by
  have hx := Int.dvd_of_emod_eq_zero hx
  have p1 : 0 ≤ d * m := Int.mul_nonneg (by omega) hm
  have p2 : 0 ≤ d * n := Int.mul_nonneg (by omega) hn
  have hp := h.p hs
  refine ⟨ok_of (lo := a.1 - d * m) (hi := a.2.1 + d * n) hd (by omega) ?_, ⟨?_, ?_, ?_, hx⟩⟩
  · rw [show a.2.1 + d * n - (a.1 - d * m) = (a.2.1 - a.1) + (d * n + d * m) by omega]
    exact Int.dvd_add (Int.dvd_trans hx hp.2) (Int.dvd_add (Int.dvd_mul_right _ _) (Int.dvd_mul_right _ _))
  · show a.1 - d * m ≤ a.1
    omega
  · show a.2.1 ≤ a.2.1 + d * n
    omega
  · show d ∣ (a.1 - (a.1 - d * m))
    rw [show a.1 - (a.1 - d * m) = d * m by omega]
    exact Int.dvd_mul_right _ _
end GcdM
namespace MetM
open RunM GcdM
def mem (a : R3) (x : Int) : Prop := a.1 ≤ x ∧ x ≤ a.2.1 ∧ a.2.2 ∣ (x - a.1)
def MetR (a b : R3) : Option R3 → Prop
  | none => ∀ x, ¬ (mem a x ∧ mem b x)
  | some r => Ok r ∧ ∀ x, mem r x ↔ mem a x ∧ mem b x
theorem mem_has {a : R3} {x : Int} : hasR a.1 a.2.1 a.2.2 x = true ↔ mem a x := hasR_iff
theorem mem_lo {a : R3} (h : Ok a) : mem a a.1 := mem_has.mp (sub_has h (sub_refl a)).1
theorem mem_one {a : R3} (h : Ok a) (z : a.2.2 = 0) {x : Int} : mem a x ↔ x = a.1 := by
  constructor
  · rintro ⟨_, _, h3⟩
    rw [z] at h3
    have := Int.zero_dvd.mp h3
    omega
  · rintro rfl
    exact mem_lo h
theorem core {a b : R3} {m L l2 h2 lo hi : Int} (hL : 0 < L) (hm : ∀ x, mem a x ∧ mem b x ↔ l2 ≤ x ∧ x ≤ h2 ∧ L ∣ (x - m)) (lo1 : l2 ≤ lo) (lo2 : lo < l2 + L) (lo3 : L ∣ (lo - m)) (hi1 : hi ≤ h2) (hi2 : h2 < hi + L) (hi3 : L ∣ (hi - m)) (hle : lo ≤ hi) :
    MetR a b (some (lo, hi, if lo < hi then L else 0)) := by
  have hd : L ∣ (hi - lo) := by
    have := Int.dvd_sub hi3 lo3
    rw [show hi - m - (lo - m) = hi - lo by omega] at this
    exact this
  have key : ∀ x, l2 ≤ x → x ≤ h2 → L ∣ (x - m) → lo ≤ x ∧ x ≤ hi := fun x x1 x2 x3 => by
    constructor
    · rcases Int.lt_or_le x lo with z | z
      · have := Int.dvd_sub lo3 x3
        rw [show lo - m - (x - m) = lo - x by omega] at this
        have := Int.le_of_dvd (by omega) this
        omega
      · exact z
    · rcases Int.lt_or_le hi x with z | z
      · have := Int.dvd_sub x3 hi3
        rw [show x - m - (hi - m) = x - hi by omega] at this
        have := Int.le_of_dvd (by omega) this
        omega
      · exact z
  by_cases h : lo < hi
  · rw [if_pos h]
    refine ⟨ok_of hL h hd, fun x => ?_⟩
    rw [hm]
    constructor
    · rintro ⟨h1, h2, h3⟩
      dsimp only at h1 h2 h3
      refine ⟨by omega, by omega, ?_⟩
      have := Int.dvd_add h3 lo3
      rw [show x - lo + (lo - m) = x - m by omega] at this
      exact this
    · rintro ⟨h1, h2, h3⟩
      obtain ⟨k1, k2⟩ := key x h1 h2 h3
      refine ⟨k1, k2, ?_⟩
      have := Int.dvd_sub h3 lo3
      rw [show x - m - (lo - m) = x - lo by omega] at this
      exact this
  · rw [if_neg h]
    have e : hi = lo := by omega
    subst e
    refine ⟨ok_one hi, fun x => ?_⟩
    rw [hm, mem_one (a := (hi, hi, 0)) (ok_one hi) rfl]
    constructor
    · rintro rfl
      exact ⟨lo1, hi1, lo3⟩
    · rintro ⟨h1, h2, h3⟩
      have := key x h1 h2 h3
      show x = hi
      omega
theorem g_pos {a b : Int} (ha : 0 < a) : 0 < g a b := by
  have h0 := g_nonneg a b
  rcases Int.lt_or_le 0 (g a b) with h | h
  · exact h
  · have e : g a b = 0 := by omega
    have := (g_dvd (d := g a b)).mp (Int.dvd_refl _)
    rw [e] at this
    have := Int.zero_dvd.mp this.1
    omega
theorem g_left (a b : Int) : g a b ∣ a := (g_dvd.mp (Int.dvd_refl _)).1
theorem g_right (a b : Int) : g a b ∣ b := (g_dvd.mp (Int.dvd_refl _)).2
/-- the least common multiple -/
theorem lcm_dvd {a b y : Int} (ha : 0 < a) (hb : 0 < b) : a / g a b * b ∣ y ↔ a ∣ y ∧ b ∣ y := by
  have hd := g_pos (b := b) ha
  have ea : a / g a b * g a b = a := Int.ediv_mul_cancel (g_left a b)
  have eb : b / g a b * g a b = b := Int.ediv_mul_cancel (g_right a b)
  constructor
  · intro h
    refine ⟨Int.dvd_trans ⟨b / g a b, ?_⟩ h, Int.dvd_trans (Int.dvd_mul_left ..) h⟩
    calc a / g a b * b = a / g a b * (b / g a b * g a b) := by rw [eb]
      _ = a / g a b * g a b * (b / g a b) := by rw [Int.mul_comm (b / g a b), Int.mul_assoc]
      _ = a * (b / g a b) := by rw [ea]
  · rintro ⟨h1, h2⟩
    have h3 := Int.coe_lcm_dvd h1 h2
    have e : ((Int.lcm a b : Nat) : Int) = a / g a b * b := by
      have e1 : (g a b) * ((Int.lcm a b : Nat) : Int) = a * b := by
        have := Int.gcd_mul_lcm a b
        unfold g
        have p : 0 < a * b := Int.mul_pos ha hb
        have q : (((Int.gcd a b * Int.lcm a b : Nat)) : Int) = ((a * b).natAbs : Int) := by rw [this, Int.natAbs_mul]
        rw [Int.natCast_mul] at q
        omega
      have e2 : g a b * ((Int.lcm a b : Nat) : Int) = g a b * (a / g a b * b) := by
        rw [e1, ← Int.mul_assoc, Int.mul_comm (g a b) (a / g a b), ea]
      exact Int.eq_of_mul_eq_mul_left (by omega) e2
    rw [← e]
    exact h3
/-- both, by a number that both steps lead to -/
theorem both {a b : R3} {m : Int} (ha : 0 < a.2.2) (hb : 0 < b.2.2) (h1 : a.2.2 ∣ (m - a.1)) (h2 : b.2.2 ∣ (m - b.1)) (x : Int) :
    mem a x ∧ mem b x ↔ (if b.1 > a.1 then b.1 else a.1) ≤ x ∧ x ≤ (if b.2.1 < a.2.1 then b.2.1 else a.2.1) ∧ a.2.2 / g a.2.2 b.2.2 * b.2.2 ∣ (x - m) := by
  rw [lcm_dvd ha hb]
  have k1 : a.2.2 ∣ (x - a.1) ↔ a.2.2 ∣ (x - m) := by
    constructor
    · intro h
      have := Int.dvd_sub h h1
      rw [show x - a.1 - (m - a.1) = x - m by omega] at this
      exact this
    · intro h
      have := Int.dvd_add h h1
      rw [show x - m + (m - a.1) = x - a.1 by omega] at this
      exact this
  have k2 : b.2.2 ∣ (x - b.1) ↔ b.2.2 ∣ (x - m) := by
    constructor
    · intro h
      have := Int.dvd_sub h h2
      rw [show x - b.1 - (m - b.1) = x - m by omega] at this
      exact this
    · intro h
      have := Int.dvd_add h h2
      rw [show x - m + (m - b.1) = x - b.1 by omega] at this
      exact this
  unfold mem
  rw [k1, k2]
  constructor
  · rintro ⟨⟨x1, x2, x3⟩, y1, y2, y3⟩
    refine ⟨?_, ?_, x3, y3⟩ <;> split <;> omega
  · rintro ⟨z1, z2, x3, y3⟩
    refine ⟨⟨?_, ?_, x3⟩, ?_, ?_, y3⟩ <;> revert z1 z2 <;> split <;> split <;> omega
/-- the end of steps_met -/
def endR (a b : R3) (m L : Int) : Option R3 :=
  let l2 := if b.1 > a.1 then b.1 else a.1
  let h2 := if b.2.1 < a.2.1 then b.2.1 else a.2.1
  let lo := l2 + (m - l2) % L
  let hi := h2 - (h2 - m) % L
  if lo > h2 then none else some (lo, hi, if lo < hi then L else 0)
/-- the inverse by Euclid's way: rest, factor, last rest, last factor -/
structure EI (n M r f lr lf : Int) : Prop where
  r0 : 0 ≤ r
  lt : r < lr
  le : lr ≤ M
  c1 : M ∣ (f * n - r)
  c2 : M ∣ (lf * n - lr)
  gg : g lr r = g n M
  sg : ∃ s F L : Int, (s = 1 ∨ s = -1) ∧ f = s * F ∧ lf = -(s * L) ∧ 1 ≤ F ∧ 0 ≤ L ∧ lr * F + r * L = M
theorem EI.start {n M : Int} (hM : 0 < M) : EI n M (n % M) 1 M 0 := by
  refine ⟨Int.emod_nonneg n (by omega), Int.emod_lt_of_pos n hM, Int.le_refl _, ?_, ?_, g_turn hM, 1, 1, 0, .inl rfl, rfl, rfl, by decide, by decide, by omega⟩
  · rw [show 1 * n - n % M = M * (n / M) by have := Int.mul_ediv_add_emod n M; omega]
    exact Int.dvd_mul_right _ _
  · rw [show 0 * n - M = -M by omega]
    exact Int.dvd_neg.mpr (Int.dvd_refl _)
theorem EI.turn {n M r f lr lf : Int} (h : EI n M r f lr lf) (hr : r ≠ 0) : EI n M (lr - lr / r * r) (lf - lr / r * f) r f := by
  have r0 := h.r0
  have lt := h.lt
  have hp : 0 < r := by omega
  have e : lr - lr / r * r = lr % r := by have := Int.mul_ediv_add_emod lr r; rw [Int.mul_comm] at this; omega
  have n1 := Int.emod_nonneg lr hr
  have n2 := Int.emod_lt_of_pos lr hp
  have hq : 1 ≤ lr / r := Int.le_ediv_of_mul_le hp (by omega)
  refine ⟨by omega, by omega, by have := h.le; omega, ?_, h.c1, ?_, ?_⟩
  · have := Int.dvd_sub h.c2 (Int.dvd_trans h.c1 (Int.dvd_mul_left (lr / r) (f * n - r)))
    rw [show (lf - lr / r * f) * n - (lr - lr / r * r) = lf * n - lr - lr / r * (f * n - r) by grind]
    exact this
  · rw [e, g_turn hp]
    exact h.gg
  · obtain ⟨s, F, L, hs, e1, e2, hF, hL, e3⟩ := h.sg
    refine ⟨-s, L + lr / r * F, F, by omega, by rw [e1, e2]; grind, by rw [e1]; grind, ?_, by omega, ?_⟩
    · have : 0 ≤ (lr / r - 1) * F := Int.mul_nonneg (by omega) (by omega)
      have e4 : lr / r * F = (lr / r - 1) * F + F := by grind
      omega
    · rw [← e3]
      grind
theorem EI.small {n M r f lr lf : Int} (h : EI n M r f lr lf) : f.natAbs ≤ M.natAbs := by
  obtain ⟨s, F, L, hs, e1, e2, hF, hL, e3⟩ := h.sg
  have r0 := h.r0
  have lt := h.lt
  have p1 : 0 ≤ r * L := Int.mul_nonneg r0 hL
  have p2 : 0 ≤ (lr - 1) * F := Int.mul_nonneg (by omega) (by omega)
  have e4 : lr * F = (lr - 1) * F + F := by grind
  rcases hs with z | z <;> rw [z] at e1 <;> omega
theorem EI.last {n M f lr lf : Int} (hM : 0 < M) (h : EI n M 0 f lr lf) (h1 : g n M = 1) : M ∣ (lf % M * n - 1) := by
  have e : lr = 1 := by
    have := h.gg
    rw [g_zero lr (by have := h.lt; omega), h1] at this
    exact this
  have c := h.c2
  rw [e] at c
  have e2 : lf % M = lf - M * (lf / M) := by have := Int.mul_ediv_add_emod lf M; omega
  rw [show lf % M * n - 1 = lf * n - 1 - M * (lf / M * n) by rw [e2]; grind]
  exact Int.dvd_sub c (Int.dvd_mul_right _ _)

/-- the law's way: the numbers of both, one by one -/
def listedR : List Int → Option R3
  | [] => none
  | [x] => some (x, x, 0)
  | x :: y :: r => some (x, (x :: y :: r).getLast (by simp), y - x)
end MetM
namespace CutM
open RunM GcdM MetM
/-- the run of a set of numbers -/
structure IsR (S : Int → Prop) (r : R3) : Prop where
  lo : S r.1
  lo' : ∀ n, S n → r.1 ≤ n
  hi : S r.2.1
  hi' : ∀ n, S n → n ≤ r.2.1
  nn : 0 ≤ r.2.2
  dv : ∀ d, d ∣ r.2.2 ↔ ∀ n, S n → d ∣ (n - r.1)
theorem isR_of {ns : List Int} {m M : Int} (h1 : m ∈ ns) (h2 : ∀ x ∈ ns, m ≤ x) (h3 : M ∈ ns) (h4 : ∀ x ∈ ns, x ≤ M) : IsR (· ∈ ns) (m, M, stepOf m ns) := by
  refine ⟨h1, h2, h3, h4, step_nonneg (Int.le_refl 0), fun d => ?_⟩
  show d ∣ stepOf m ns ↔ _
  unfold stepOf
  rw [step_dvd]
  exact ⟨fun h => h.2, fun h => ⟨Int.dvd_zero _, h⟩⟩
theorem IsR.ok {S : Int → Prop} {r : R3} (h : IsR S r) : Ok r := by
  have key : r.2.1 = r.1 → r.2.2 = 0 := fun e => by
    have : (0 : Int) ∣ r.2.2 := (h.dv 0).mpr fun n hn => by
      have h1 := h.lo' n hn
      have h2 := h.hi' n hn
      rw [show n - r.1 = 0 by omega]
      exact Int.dvd_zero _
    exact Int.zero_dvd.mp this
  refine ⟨h.nn, fun z => ?_, fun z => ⟨?_, (h.dv _).mp (Int.dvd_refl _) _ h.hi⟩⟩
  · have := (h.dv 0).mp (by rw [z]; exact Int.dvd_zero _) _ h.hi
    have := Int.zero_dvd.mp this
    omega
  · have h1 := h.lo' _ h.hi
    rcases Int.lt_or_le r.1 r.2.1 with q | q
    · exact q
    · have := key (by omega)
      omega
theorem IsR.inR {S : Int → Prop} {r : R3} (h : IsR S r) {n : Int} (hn : S n) : mem r n := ⟨h.lo' n hn, h.hi' n hn, (h.dv _).mp (Int.dvd_refl _) n hn⟩
theorem R3.ext {a b : R3} (h1 : a.1 = b.1) (h2 : a.2.1 = b.2.1) (h3 : a.2.2 = b.2.2) : a = b := by
  obtain ⟨x, y, z⟩ := a
  obtain ⟨x', y', z'⟩ := b
  simp only at h1 h2 h3
  rw [h1, h2, h3]
theorem IsR.unique {S : Int → Prop} {r r' : R3} (h : IsR S r) (h' : IsR S r') : r = r' := by
  have e1 : r.1 = r'.1 := by
    have := h.lo' _ h'.lo
    have := h'.lo' _ h.lo
    omega
  have e2 : r.2.1 = r'.2.1 := by
    have := h.hi' _ h'.hi
    have := h'.hi' _ h.hi
    omega
  refine R3.ext e1 e2 (eq_of_dvd h.nn h'.nn fun d => ?_)
  rw [h.dv, h'.dv, e1]
theorem IsR.congr {S T : Int → Prop} {r : R3} (h : IsR S r) (e : ∀ n, S n ↔ T n) : IsR T r :=
  ⟨(e _).mp h.lo, fun n hn => h.lo' n ((e n).mpr hn), (e _).mp h.hi, fun n hn => h.hi' n ((e n).mpr hn), h.nn, fun d => (h.dv d).trans ⟨fun k n hn => k n ((e n).mpr hn), fun k n hn => k n ((e n).mp hn)⟩⟩
theorem IsR.least {S : Int → Prop} {r c : R3} (h : IsR S r) (hc : ∀ n, S n → mem c n) : Sub r c := by
  have h1 := hc _ h.lo
  have h2 := hc _ h.hi
  refine ⟨h1.1, h2.2.1, h1.2.2, (h.dv _).mpr fun n hn => ?_⟩
  have := Int.dvd_sub (hc n hn).2.2 h1.2.2
  rw [show n - c.1 - (r.1 - c.1) = n - r.1 by omega] at this
  exact this
/-- three runs met -/
def Met3 (a b c : R3) : Option R3 → Prop
  | none => ∀ x, ¬ (mem a x ∧ mem b x ∧ mem c x)
  | some r => Ok r ∧ ∀ x, mem r x ↔ mem a x ∧ mem b x ∧ mem c x
end CutM
namespace My
open PySem L2 PyProof.Rows
def top (i : Nat) : Stmt := PySem.Challenge.pw_leastform_k11_the_run_of_numbers.main.body.getD i (.Pass ⟨0, 0, 0, 0⟩)
abbrev sdivisor_of : Stmt := top 12
abbrev srun_of : Stmt := top 13
abbrev srun_has : Stmt := top 14
abbrev stelling_numbers : Stmt := top 15
abbrev srun_parted : Stmt := top 16
abbrev srun_within : Stmt := top 17
abbrev s_law_mixed : Stmt := top 19
abbrev s_law_deck : Stmt := top 20
abbrev s_law_take : Stmt := top 21
abbrev s_law_far : Stmt := top 22
abbrev s_law_run : Stmt := top 23
abbrev s_law_has : Stmt := top 24
abbrev s_law_divisor : Stmt := top 25
abbrev s_law_copy : Stmt := top 26
abbrev s_law_same : Stmt := top 27
abbrev s_law_alone : Stmt := top 28
abbrev s_law_numbers : Stmt := top 29
abbrev s_law_empty_refused : Stmt := top 30
abbrev slaw : Stmt := top 31
/-! ### the deck's defs -/
section
variable {P : Program} {w : World} {K : PySem.W.Frag} {mg : Str → Option Value} {base : Heap}
theorem _root_.L2.On.put {p c : Addr} {H : Hp} (d : DeckAt H p c) (S k : Int) : On p c H (upd H p (.lst [.ref c, .int S, .int k])) := by
  obtain ⟨ns, e', l⟩ := d.cs
  exact ⟨⟨d.ne, ⟨S, k, upd_same⟩, ns, by rw [upd_ne d.ne.symm]; exact e', l⟩, fun b o h hp _ => by rw [upd_ne hp]; exact h⟩
theorem _root_.L2.On.cut {p c : Addr} {H : Hp} (d : DeckAt H p c) (ns : List Int) (h : ns.length ≤ 64) : On p c H (upd H c (.lst (ns.map V.int))) := by
  obtain ⟨S, k, e⟩ := d.dk
  exact ⟨⟨d.ne, ⟨S, k, by rw [upd_ne d.ne]; exact e⟩, ns, upd_same, h⟩, fun b o h _ hc => by rw [upd_ne hc]; exact h⟩
theorem flat_ints (ns : List Int) : (ns.map V.int).all flatV = true := by
  rw [List.all_map]
  exact List.all_eq_true.mpr fun _ _ => rfl
theorem eqVs_nil (ns : List Int) : eqVs (ns.map V.int) [] = ns.isEmpty := by cases ns <;> rfl

theorem sc_mixed : FnScope ["_law_number", "_law_k"] ["_law_number", "_law_k"] (defScope s_law_mixed) := ⟨rfl, rfl, rfl, by decide +kernel, rfl, by decide +kernel, by decide +kernel⟩
theorem g_mixed (h : Has K mg "_law_mixed" s_law_mixed) : Good P w K mg base 1 "_law_mixed" ["_law_number", "_law_k"] spMixed := by
  refine h.good sc_mixed (fun _ _ _ _ _ _ us hl => match us, hl with | [_, _], _ => rfl) (fun vs H Q E q => ?_) (fun f cdv A outer s H vs Q E hr q => ?_)
  · obtain ⟨n, k, rfl, _⟩ := q
    rfl
  · obtain ⟨n, k, rfl, q⟩ := q
    have nd := sc_mixed.nd
    refine ⟨_, (pss_cons (ps_set (i := 0) nd rfl (by first | exact Or.inl rfl | exact Or.inr rfl) (pe_op op_mod (pe_op op_mul (pe_op op_add (pe_op op_add (pe_op op_mod (pv 0) pe_int) (pe_op op_mul pe_int (pv 1))) pe_int) pe_int) pe_int))
      (pss_cons (ps_set (i := 0) nd rfl (by first | exact Or.inl rfl | exact Or.inr rfl) (pe_op op_mod (pe_op op_add (pe_op op_add (pe_op op_mul (pv 0) (pv 0)) (pe_op op_mul pe_int (pv 1))) pe_int) pe_int))
      (pss_one (ps_ret (pe_op op_fdiv (pe_op op_mod (pe_op op_mul (pe_op op_add (pe_op op_mul (pe_op op_mod (pv 0) pe_int) pe_int) (pe_op op_fdiv (pv 0) pe_int)) pe_int) pe_int) pe_int))))), ?_⟩
    refine ⟨_, rfl, _, _, rfl, rfl, (by show (0 : Int) < _; decide), _, rfl, _, _, rfl, rfl, .inl ⟨by decide, by decide⟩, _, _, rfl, rfl, _, _, rfl, rfl, _, _, rfl, rfl, .inr ⟨by decide, by decide⟩, _, _, rfl, rfl, (by show (0 : Int) < _; decide), ?_⟩
    refine ⟨_, rfl, _, rfl, _, _, rfl, rfl, ?c, _, rfl, _, _, rfl, rfl, .inl ⟨by decide, by decide⟩, _, _, rfl, rfl, _, _, rfl, rfl, _, _, rfl, rfl, (by show (0 : Int) < _; decide), ?_⟩
    case c =>
      refine .inl ⟨?_, ?_⟩
      · exact Int.lt_of_lt_of_le (by decide) (Int.emod_nonneg _ (by decide))
      · exact Int.lt_trans (Int.emod_lt_of_pos _ (by decide)) (by decide)
    refine ⟨_, rfl, _, _, rfl, rfl, (by show (0 : Int) < _; decide), _, _, rfl, rfl, .inr ⟨by decide, by decide⟩, _, rfl, _, _, rfl, rfl, ⟨by decide, by decide⟩, _, _, rfl, rfl, _, _, rfl, rfl, .inr ⟨by decide, by decide⟩, _, _, rfl, rfl, (by show (0 : Int) < _; decide), _, _, rfl, rfl, ⟨by decide, by decide⟩, ?_⟩
    exact q _

theorem sc_deck : FnScope ["_law_script", "_law_cells"] ["_law_script"] (defScope s_law_deck) := ⟨rfl, rfl, rfl, by decide +kernel, rfl, by decide +kernel, by decide +kernel⟩
theorem cut63 (ns : List Int) : cutV (ns.map V.int) none (some 63) = (ns.take 63).map V.int := by
  unfold cutV
  have e1 : HT.sIx (ns.map V.int).length 0 none = 0 := rfl
  rw [e1, List.drop_zero, Nat.sub_zero, List.map_take]
  by_cases h : ns.length ≤ 63
  · rw [List.take_of_length_le (by simp [HT.sIx] <;> omega), List.take_of_length_le (by simpa using h)]
  · congr 1
    simp [HT.sIx] <;> omega
theorem g_deck (h : Has K mg "_law_deck" s_law_deck) (B : Own mg) : Good P w K mg base 1 "_law_deck" ["_law_script"] (spDeck K) := by
  refine h.good sc_deck (fun _ _ _ _ _ _ us hl => match us, hl with | [_], _ => rfl) (fun vs H Q E q => ?_) (fun f cdv A outer s H vs Q E hr q => ?_)
  · obtain ⟨a, ns, rfl, _⟩ := q
    rfl
  · obtain ⟨a, ns, rfl, hS, q⟩ := q
    have nd := sc_deck.nd
    refine ⟨_, (pss_cons (ps_set (i := 1) nd rfl (by first | exact Or.inl rfl | exact Or.inr rfl) (pe_callTy call_list_of rfl B.list_ boot_list (pa_c (pe_slice sl_list (pv 0) po_none (po_some pe_int)) pa_nil)))
      (pss_one (ps_ret (@pe_lstQ _ _ _ _ (@qa_c _ _ _ _ _ (pe_rev (pv 1) (pe_un un_neg pe_int)) (@qa_c _ _ _ _ _ (pe_op op_add (pe_callB (call_sumL rfl) rfl B.sum boot_sum (pa_c (pv 1) pa_nil)) (pe_op op_mul pe_int (pe_callB call_len_seq rfl B.len PySem.boot_len (pa_c (pv 1) pa_nil)))) (@qa_c _ _ _ _ _ pe_int qa_nil rfl) rfl) rfl))))), ?_⟩
    refine ⟨_, rfl, _, rfl, a, _, rfl, hS, fun l1 h1 => ?_⟩
    have e1 : upd H l1 (.lst (cutV (ns.map V.int) none (some 63))) = upd H l1 (.lst ((ns.take 63).map V.int)) := by rw [cut63]
    rw [e1]
    refine ⟨l1, _, rfl, .inl (SqL.of upd_same), fun l2 h2 => ?_⟩
    refine ⟨_, rfl, _, rfl, rfl, l2, _, rfl, SqL.of upd_same, fun l3 h3 => ?_⟩
    have n23 : l2 ≠ l3 := ne_of_none upd_same h3
    refine ⟨_, rfl, l2, ns.take 63, rfl, SqL.of (by rw [upd_ne n23]; exact upd_same), _, rfl, l2, _, rfl, .inl (SqL.of (by rw [upd_ne n23]; exact upd_same)), _, _, rfl, rfl, .inl ⟨by decide, by decide⟩, _, _, rfl, rfl, (by show 3 ≤ sizeLine; decide), fun l4 h4 => ?_⟩
    have n34 : l3 ≠ l4 := ne_of_none upd_same h4
    have f1 : ∀ b o, H b = some o → upd H l1 (.lst ((ns.take 63).map V.int)) b = some o := fun b o e => by rw [upd_ne (ne_of_none e h1)]; exact e
    have s1 : Same H (upd H l1 (.lst ((ns.take 63).map V.int))) := f1
    have s2 : Same H (upd (upd H l1 (.lst ((ns.take 63).map V.int))) l2 (.lst ((ns.take 63).map V.int))) := fun b o e => by rw [upd_ne (ne_of_none (s1 b o e) h2)]; exact s1 b o e
    have s3 : Same H (upd (upd (upd H l1 (.lst ((ns.take 63).map V.int))) l2 (.lst ((ns.take 63).map V.int))) l3 (.lst ((ns.take 63).map V.int).reverse)) := fun b o e => by rw [upd_ne (ne_of_none (s2 b o e) h3)]; exact s2 b o e
    refine q l4 l3 _ (s3.free h4) (s2.free h3) ⟨n34.symm, ⟨_, _, upd_same⟩, (ns.take 63).reverse, ?_, ?_⟩ fun b o e => ?_
    · rw [upd_ne n34, upd_same, List.map_reverse]
    · rw [List.length_reverse, List.length_take]; omega
    · rw [upd_ne (ne_of_none (s3 b o e) h4)]; exact s3 b o e

theorem sc_take : FnScope ["_law_deck_here", "_law_most", "_law_cell"] ["_law_deck_here", "_law_most"] (defScope s_law_take) := ⟨rfl, rfl, rfl, by decide +kernel, rfl, by decide +kernel, by decide +kernel⟩
theorem g_take (h : Has K mg "_law_take" s_law_take) (G_law_mixed : Good P w K mg base 1 "_law_mixed" ["_law_number", "_law_k"] spMixed) : Good P w K mg base 2 "_law_take" ["_law_deck_here", "_law_most"] spTake := by
  refine h.good sc_take (fun _ _ _ _ _ _ us hl => match us, hl with | [_, _], _ => rfl) (fun vs H Q E q => ?_) (fun f cdv A outer s H vs Q E hr q => ?_)
  · obtain ⟨p, c, m, rfl, _⟩ := q
    rfl
  · obtain ⟨p, c, m, rfl, d, hm, hB, q⟩ := q
    have nd := sc_take.nd
    have hu := Nat.lt_of_succ_lt (hu_of hr)
    obtain ⟨hne, ⟨S, k, hp⟩, ns, hc, hl⟩ := id d
    refine ⟨_, (pss_cons (ps_asg (pe_op op_add (pe_ix ix_list (pv 0) pe_int (fun _ _ => rfl)) pe_int) (pg_sub (pv 0) pe_int set_list))
      (pss_cons (ps_if (pt_cmpR (op_eqL hu) (pe_ix ix_list (pv 0) pe_int (fun _ _ => rfl)) (@pe_lstQ _ _ _ _ qa_nil) (nomark _))
        (pss_one (ps_ret (pe_op op_mod (pe_fn G_law_mixed (hr.mono (by first | decide | omega)) rfl (pa_c (pe_ix ix_list (pv 0) pe_int (fun _ _ => rfl)) (pa_c (pe_ix ix_list (pv 0) pe_int (fun _ _ => rfl)) pa_nil))) (pv 1))))
        pss_nil)
      (pss_cons (ps_set (i := 2) nd rfl (by first | exact Or.inl rfl | exact Or.inr rfl) (pe_bm0 PySem.F.plainAttrs_list PySem.F.slot_list_pop PySem.F.type_list_pop mt_pop (pe_ix ix_list (pv 0) pe_int (fun _ _ => rfl))))
      (pss_cons (ps_if (pt_cmpR op_lt (pv 2) (pe_op op_pow pe_int pe_int) (nomark _))
        (pss_one (ps_ret (pe_op op_mod (pe_fn G_law_mixed (hr.mono (by first | decide | omega)) rfl (pa_c (pv 2) (pa_c (pe_ix ix_list (pv 0) pe_int (fun _ _ => rfl)) pa_nil))) (pv 1))))
        pss_nil)
      (pss_cons (ps_expr (pe_bm PySem.F.plainAttrs_list PySem.F.slot_list_append PySem.F.type_list_append mt_append (pe_ix ix_list (pv 0) pe_int (fun _ _ => rfl)) (pa_c (pe_op op_fdivL (pv 2) (pv 1)) pa_nil)))
      (pss_one (ps_ret (pe_op op_mod (pv 2) (pv 1))))))))), ?_⟩
    -- deck[2] = deck[2] + 1
    refine ⟨_, rfl, p, _, _, _, rfl, rfl, SqL.of hp, rfl, _, _, rfl, rfl, _, rfl, p, _, _, 2, rfl, rfl, hp, rfl, ?_⟩
    have o1 : On p c H (upd H p (.lst [.ref c, .int S, .int (k + 1)])) := On.put d S (k + 1)
    have hc1 : upd H p (.lst [.ref c, .int S, .int (k + 1)]) c = some (.lst (ns.map V.int)) := by rw [upd_ne hne.symm]; exact hc
    -- if deck[0] == []
    refine ⟨_, rfl, p, _, _, _, rfl, rfl, SqL.of upd_same, rfl, Nat.zero_le _, fun l hfree => ?_⟩
    have npl : p ≠ l := (o1.d.nep hfree).symm
    have ncl : c ≠ l := (o1.d.nec hfree).symm
    have o2 := o1.alloc (o := .lst []) hfree
    have hp2 : upd (upd H p (.lst [.ref c, .int S, .int (k + 1)])) l (.lst []) p = some (.lst [.ref c, .int S, .int (k + 1)]) := by rw [upd_ne npl]; exact upd_same
    have hc2 : upd (upd H p (.lst [.ref c, .int S, .int (k + 1)])) l (.lst []) c = some (.lst (ns.map V.int)) := by rw [upd_ne ncl]; exact hc1
    refine ⟨c, l, _, [], rfl, rfl, SqL.of hc2, SqL.of upd_same, flat_ints ns, rfl, _, rfl, ?_⟩
    rw [show (if false = true then !eqVs (ns.map V.int) [] else eqVs (ns.map V.int) []) = ns.isEmpty from eqVs_nil ns]
    have fin : ∀ r H', On p c H H' → Q (.int (r % m)) H' := fun r H' o => q (r % m) H' (Int.emod_nonneg _ (by omega)) (Int.emod_lt_of_pos _ hm) o
    rcases List.eq_nil_or_concat ns with e | ⟨init, z, e⟩
    · subst e
      refine iteT ?_
      refine ⟨_, rfl, p, _, _, _, rfl, rfl, SqL.of hp2, rfl, _, rfl, p, _, _, _, rfl, rfl, SqL.of hp2, rfl, _, _, rfl, fun r => ?_⟩
      exact ⟨_, rfl, _, _, rfl, rfl, hm, fin r _ o2⟩
    · rw [List.concat_eq_append] at e
      subst e
      rw [show (init ++ [z]).isEmpty = false by simp]
      refine iteF ?_
      have hlast : ((init ++ [z]).map V.int)[((init ++ [z]).map V.int).length - 1]? = some (.int z) := by simp
      have hdrop : ((init ++ [z]).map V.int).dropLast = init.map V.int := by simp
      -- cell = deck[0].pop()
      refine ⟨_, rfl, p, _, _, _, rfl, rfl, SqL.of hp2, rfl, .inl ⟨rfl, _, SqL.of hc2⟩, c, _, _, rfl, rfl, hc2, hlast, ?_⟩
      rw [hdrop]
      have hli : init.length ≤ 63 := by rw [List.length_append, List.length_singleton] at hl; omega
      have o3 := o2.trans (On.cut o2.d init (by omega))
      have hp3 : upd (upd (upd H p (.lst [.ref c, .int S, .int (k + 1)])) l (.lst [])) c (.lst (init.map V.int)) p = some (.lst [.ref c, .int S, .int (k + 1)]) := by rw [upd_ne hne]; exact hp2
      -- if cell < 10 ** 18
      refine ⟨_, rfl, _, _, rfl, rfl, ⟨by decide, by decide, by decide⟩, _, _, rfl, rfl, _, rfl, ?_⟩
      refine ite2 (fun _ => ?_) (fun _ => ?_)
      · refine ⟨_, rfl, _, rfl, p, _, _, _, rfl, rfl, SqL.of hp3, rfl, _, _, rfl, fun r => ?_⟩
        exact ⟨_, rfl, _, _, rfl, rfl, hm, fin r _ o3⟩
      · refine ⟨_, rfl, p, _, _, _, rfl, rfl, SqL.of hp3, rfl, .inl ⟨rfl, _, SqL.of upd_same⟩, _, rfl, _, rfl, _, _, rfl, rfl, ⟨hm, hB⟩, c, _, _, rfl, rfl, upd_same, small1000 (by rw [List.length_map]; omega), ?_⟩
        rw [show init.map V.int ++ [V.int (z / m)] = (init ++ [z / m]).map V.int by simp]
        have o4 := o3.trans (On.cut o3.d (init ++ [z / m]) (by rw [List.length_append, List.length_singleton]; omega))
        exact ⟨_, rfl, _, rfl, _, _, rfl, rfl, hm, fin z _ o4⟩
end
/-! ### drawn numbers and runs -/
section
variable {P : Program} {w : World} {K : PySem.W.Frag} {mg : Str → Option Value} {base : Heap}
theorem sc_far : FnScope ["_law_deck_here", "_law_number", "_law_k"] ["_law_deck_here"] (defScope s_law_far) := ⟨rfl, rfl, rfl, by decide +kernel, rfl, by decide +kernel, by decide +kernel⟩
theorem g_far (h : Has K mg "_law_far" s_law_far) (B : Own mg) (G_law_take : Good P w K mg base 2 "_law_take" ["_law_deck_here", "_law_most"] spTake) : Good P w K mg base 3 "_law_far" ["_law_deck_here"] spFar := by
  refine h.good sc_far (fun _ _ _ _ _ _ us hl => match us, hl with | [_], _ => rfl) (fun vs H Q E q => ?_) (fun f cdv A outer s H vs Q E hr q => ?_)
  · obtain ⟨p, c, rfl, _⟩ := q
    rfl
  · obtain ⟨p, c, rfl, d, q⟩ := q
    have nd := sc_far.nd
    refine ⟨_, (pss_cons (ps_set (i := 1) nd rfl (by first | exact Or.inl rfl | exact Or.inr rfl) pe_int)
      (pss_cons (ps_for PassesOwn.never rfl (pi_range1 rfl B.range (pa_c pe_int pa_nil)) (pg_name (i := 2) nd rfl (by first | exact Or.inl rfl | exact Or.inr rfl))
        (pss_one (ps_set (i := 1) nd rfl (by first | exact Or.inl rfl | exact Or.inr rfl) (pe_op op_add (pe_op op_mul (pv 1) (pe_op op_pow pe_int pe_int)) (pe_fn G_law_take (hr.mono (by first | decide | omega)) rfl (pa_c (pv 0) (pa_c (pe_op op_pow pe_int pe_int) pa_nil)))))))
      (pss_one (ps_ret (pe_op op_add (pe_op op_sub (pe_op op_mod (pv 1) (pe_op op_sub (pe_op op_mul pe_int (pe_op op_pow pe_int pe_int)) pe_int)) (pe_op op_pow pe_int pe_int)) pe_int))))), ?_⟩
    refine ⟨8, rfl, by decide, by decide, for_range (n := 8) (fun _ σ H1 => ∃ (n : Int) (v : Option V), σ = [some (.ref p), some (.int n), v] ∧ On p c H H1) ⟨0, none, rfl, d.on⟩ ?_ ?_⟩
    · rintro i σ H1 hi ⟨n, v, rfl, o1⟩
      refine ⟨_, rfl, _, _, rfl, rfl, ⟨by decide, by decide, by decide⟩, _, _, rfl, rfl, .inr ⟨by decide, by decide⟩, _, rfl, _, _, rfl, rfl, ⟨by decide, by decide, by decide⟩, p, c, _, rfl, o1.d, by decide, big (by decide) (by decide), fun r H2 _ _ o2 => ?_⟩
      exact ⟨_, _, rfl, rfl, _, _, rfl, o1.trans o2⟩
    · rintro σ H1 ⟨n, v, rfl, o1⟩
      refine ⟨_, rfl, _, _, rfl, rfl, ⟨by decide, by decide, by decide⟩, _, _, rfl, rfl, .inl ⟨by decide, by decide⟩, _, _, rfl, rfl, _, _, rfl, rfl, (by show (0 : Int) < _; decide +kernel), _, _, rfl, rfl, ⟨by decide, by decide, by decide⟩, _, _, rfl, rfl, _, _, rfl, rfl, ?_⟩
      have e : (10 : Int) ^ (60 : Int).toNat = 10 ^ 60 := rfl
      have hz : (0 : Int) < 2 * 10 ^ 60 - 1 := by decide +kernel
      have h1 := Int.emod_nonneg n (show (2 * (10 : Int) ^ 60 - 1) ≠ 0 by omega)
      have h2 := Int.emod_lt_of_pos n hz
      exact q _ H1 (by rw [e]; omega) (by rw [e]; omega) o1
theorem menu4 {a b c e r : Int} (h0 : 0 ≤ r) (h4 : r < 4) : ∃ m, atI [V.int a, V.int b, V.int c, V.int e] r = some (.int m) ∧ (m = a ∨ m = b ∨ m = c ∨ m = e) := by
  have : r = 0 ∨ r = 1 ∨ r = 2 ∨ r = 3 := by omega
  rcases this with e | e | e | e <;> subst e
  · exact ⟨_, rfl, .inl rfl⟩
  · exact ⟨_, rfl, .inr (.inl rfl)⟩
  · exact ⟨_, rfl, .inr (.inr (.inl rfl))⟩
  · exact ⟨_, rfl, .inr (.inr (.inr rfl))⟩
theorem sc_run : FnScope ["_law_deck_here", "_law_low", "_law_step", "_law_many"] ["_law_deck_here"] (defScope s_law_run) := ⟨rfl, rfl, rfl, by decide +kernel, rfl, by decide +kernel, by decide +kernel⟩
theorem g_run (h : Has K mg "_law_run" s_law_run) (B : Own mg) (G_law_take : Good P w K mg base 2 "_law_take" ["_law_deck_here", "_law_most"] spTake) (G_law_far : Good P w K mg base 3 "_law_far" ["_law_deck_here"] spFar) :
    Good P w K mg base 4 "_law_run" ["_law_deck_here"] spRun := by
  refine h.good sc_run (fun _ _ _ _ _ _ us hl => match us, hl with | [_], _ => rfl) (fun vs H Q E q => ?_) (fun f cdv A outer s H vs Q E hr q => ?_)
  · obtain ⟨p, c, rfl, _⟩ := q
    rfl
  · obtain ⟨p, c, rfl, d, q⟩ := q
    have nd := sc_run.nd
    refine ⟨_, (pss_cons (ps_set (i := 1) nd rfl (by first | exact Or.inl rfl | exact Or.inr rfl) (pe_op op_sub (pe_fn G_law_take (hr.mono (by first | decide | omega)) rfl (pa_c (pv 0) (pa_c pe_int pa_nil))) pe_int))
      (pss_cons (ps_if (pt_cmpR op_eq (pe_fn G_law_take (hr.mono (by first | decide | omega)) rfl (pa_c (pv 0) (pa_c pe_int pa_nil))) pe_int (nomark _))
        (pss_one (ps_set (i := 1) nd rfl (by first | exact Or.inl rfl | exact Or.inr rfl) (pe_op op_fdiv (pe_fn G_law_far (hr.mono (by first | decide | omega)) rfl (pa_c (pv 0) pa_nil)) pe_int)))
        pss_nil)
      (pss_cons (ps_set (i := 2) nd rfl (by first | exact Or.inl rfl | exact Or.inr rfl) (pe_op op_add pe_int (pe_fn G_law_take (hr.mono (by first | decide | omega)) rfl (pa_c (pv 0) (pa_c (pe_ix ix_list (@pe_lstQ _ _ _ _ (@qa_c _ _ _ _ _ pe_int (@qa_c _ _ _ _ _ pe_int (@qa_c _ _ _ _ _ pe_int (@qa_c _ _ _ _ _ (pe_op op_pow pe_int pe_int) qa_nil rfl) rfl) rfl) rfl)) (pe_fn G_law_take (hr.mono (by first | decide | omega)) rfl (pa_c (pv 0) (pa_c pe_int pa_nil))) (fun _ _ => rfl)) pa_nil)))))
      (pss_cons (ps_set (i := 3) nd rfl (by first | exact Or.inl rfl | exact Or.inr rfl) (pe_fn G_law_take (hr.mono (by first | decide | omega)) rfl (pa_c (pv 0) (pa_c (pe_ix ix_list (@pe_lstQ _ _ _ _ (@qa_c _ _ _ _ _ pe_int (@qa_c _ _ _ _ _ pe_int (@qa_c _ _ _ _ _ pe_int (@qa_c _ _ _ _ _ (pe_op op_pow pe_int pe_int) qa_nil rfl) rfl) rfl) rfl)) (pe_fn G_law_take (hr.mono (by first | decide | omega)) rfl (pa_c (pv 0) (pa_c pe_int pa_nil))) (fun _ _ => rfl)) pa_nil))))
      (pss_one (ps_ret (@pe_tupQ _ _ _ _ _ (@qa_c _ _ _ _ _ (pv 1) (@qa_c _ _ _ _ _ (pe_op op_add (pv 1) (pe_op op_mul (pv 2) (pv 3))) (@qa_c _ _ _ _ _ (pe_op op_mul (pv 2) (pe_callB (call_min2 rfl) rfl B.min boot_min (pa_c (pv 3) (pa_c pe_int pa_nil)))) qa_nil rfl) rfl) rfl)))))))), ?_⟩
    refine ⟨_, rfl, p, c, _, rfl, d, by decide, big (by decide) (by decide), fun r1 H1 a1 b1 o1 => ?_⟩
    refine ⟨_, _, rfl, rfl, _, rfl, p, c, _, rfl, o1.d, by decide, big (by decide) (by decide), fun r2 H2 _ _ o2 => ?_⟩
    have o12 := o1.trans o2
    refine ⟨rfl, _, rfl, ?_⟩
    refine ite2 (fun _ => ?_) (fun _ => ?_)
    · refine ⟨_, rfl, p, c, rfl, o12.d, fun r3 H3 a3 b3 o3 => ?_⟩
      refine ⟨_, _, rfl, rfl, ⟨by decide, by decide⟩, ?_⟩
      have oo := o12.trans o3
      have l1 : -(10 ^ 58) ≤ r3 / 1000 := by omega
      have l2 : r3 / 1000 ≤ 10 ^ 58 := by omega
      refine ⟨_, rfl, _, _, rfl, rfl, ⟨by decide, by decide, by decide⟩, by show 4 ≤ sizeLine; decide, fun l hl => ?_⟩
      have o4 := oo.alloc (o := .lst [.int 4, .int 12, .int 60, .int (10 ^ (20 : Int).toNat)]) hl
      refine ⟨_, rfl, p, c, _, rfl, o4.d, by decide, big (by decide) (by decide), fun r5 H5 a5 b5 o5 => ?_⟩
      have o45 := o4.trans o5
      obtain ⟨m, hm, hmm⟩ := menu4 (a := 4) (b := 12) (c := 60) (e := 10 ^ (20 : Int).toNat) a5 b5
      have e20 : (10 : Int) ^ (20 : Int).toNat = 10 ^ 20 := rfl
      have m1 : 1 ≤ m := by rw [e20] at hmm; omega
      have m2 : m ≤ 10 ^ 20 := by rw [e20] at hmm; omega
      refine ⟨l, _, _, _, rfl, rfl, SqL.of (o5.e l _ upd_same (oo.d.nep hl) (oo.d.nec hl)), hm, ?_⟩
      refine ⟨p, c, m, rfl, o45.d, by omega, big (by omega) (by omega), fun r6 H6 a6 b6 o6 => ?_⟩
      have o7 := o45.trans o6
      refine ⟨_, _, rfl, rfl, ?_⟩
      refine ⟨_, rfl, _, _, rfl, rfl, ⟨by decide, by decide, by decide⟩, by show 4 ≤ sizeLine; decide, fun l8 hl8 => ?_⟩
      have o8 := o7.alloc (o := .lst [.int 2, .int 5, .int 30, .int (10 ^ (18 : Int).toNat)]) hl8
      refine ⟨_, rfl, p, c, _, rfl, o8.d, by decide, big (by decide) (by decide), fun r9 H9 a9 b9 o9 => ?_⟩
      have o89 := o8.trans o9
      obtain ⟨n, hn, hnn⟩ := menu4 (a := 2) (b := 5) (c := 30) (e := 10 ^ (18 : Int).toNat) a9 b9
      have e18 : (10 : Int) ^ (18 : Int).toNat = 10 ^ 18 := rfl
      have n1 : 1 ≤ n := by rw [e18] at hnn; omega
      have n2 : n ≤ 10 ^ 18 := by rw [e18] at hnn; omega
      refine ⟨l8, _, _, _, rfl, rfl, SqL.of (o9.e l8 _ upd_same (o7.d.nep hl8) (o7.d.nec hl8)), hn, ?_⟩
      refine ⟨p, c, n, rfl, o89.d, by omega, big (by omega) (by omega), fun r10 H10 a10 b10 o10 => ?_⟩
      have oA := o89.trans o10
      have hmin1 : -(2 ^ 64) < (if 1 < r10 then 1 else r10) := by split <;> omega
      have hmin2 : (if 1 < r10 then 1 else r10) < (2 ^ 64 : Int) := by split <;> omega
      refine ⟨_, rfl, _, rfl, _, rfl, _, rfl, _, _, rfl, rfl, .inr ⟨by omega, by omega⟩, _, _, rfl, rfl, _, rfl, _, rfl, _, _, rfl, _, _, rfl, rfl, .inr ⟨hmin1, hmin2⟩, by show 3 ≤ sizeLine; decide, fun t ht => ?_⟩
      exact q t _ _ _ _ (oA.free d ht) upd_same ⟨l1, l2, 1 + r6, r10, by omega, by omega, a10, by omega, rfl, rfl⟩ (oA.alloc ht)
    · have oo := o12
      have l1 : -(10 ^ 58) ≤ r1 - 20 := by omega
      have l2 : r1 - 20 ≤ 10 ^ 58 := by omega
      refine ⟨_, rfl, _, _, rfl, rfl, ⟨by decide, by decide, by decide⟩, by show 4 ≤ sizeLine; decide, fun l hl => ?_⟩
      have o4 := oo.alloc (o := .lst [.int 4, .int 12, .int 60, .int (10 ^ (20 : Int).toNat)]) hl
      refine ⟨_, rfl, p, c, _, rfl, o4.d, by decide, big (by decide) (by decide), fun r5 H5 a5 b5 o5 => ?_⟩
      have o45 := o4.trans o5
      obtain ⟨m, hm, hmm⟩ := menu4 (a := 4) (b := 12) (c := 60) (e := 10 ^ (20 : Int).toNat) a5 b5
      have e20 : (10 : Int) ^ (20 : Int).toNat = 10 ^ 20 := rfl
      have m1 : 1 ≤ m := by rw [e20] at hmm; omega
      have m2 : m ≤ 10 ^ 20 := by rw [e20] at hmm; omega
      refine ⟨l, _, _, _, rfl, rfl, SqL.of (o5.e l _ upd_same (oo.d.nep hl) (oo.d.nec hl)), hm, ?_⟩
      refine ⟨p, c, m, rfl, o45.d, by omega, big (by omega) (by omega), fun r6 H6 a6 b6 o6 => ?_⟩
      have o7 := o45.trans o6
      refine ⟨_, _, rfl, rfl, ?_⟩
      refine ⟨_, rfl, _, _, rfl, rfl, ⟨by decide, by decide, by decide⟩, by show 4 ≤ sizeLine; decide, fun l8 hl8 => ?_⟩
      have o8 := o7.alloc (o := .lst [.int 2, .int 5, .int 30, .int (10 ^ (18 : Int).toNat)]) hl8
      refine ⟨_, rfl, p, c, _, rfl, o8.d, by decide, big (by decide) (by decide), fun r9 H9 a9 b9 o9 => ?_⟩
      have o89 := o8.trans o9
      obtain ⟨n, hn, hnn⟩ := menu4 (a := 2) (b := 5) (c := 30) (e := 10 ^ (18 : Int).toNat) a9 b9
      have e18 : (10 : Int) ^ (18 : Int).toNat = 10 ^ 18 := rfl
      have n1 : 1 ≤ n := by rw [e18] at hnn; omega
      have n2 : n ≤ 10 ^ 18 := by rw [e18] at hnn; omega
      refine ⟨l8, _, _, _, rfl, rfl, SqL.of (o9.e l8 _ upd_same (o7.d.nep hl8) (o7.d.nec hl8)), hn, ?_⟩
      refine ⟨p, c, n, rfl, o89.d, by omega, big (by omega) (by omega), fun r10 H10 a10 b10 o10 => ?_⟩
      have oA := o89.trans o10
      have hmin1 : -(2 ^ 64) < (if 1 < r10 then 1 else r10) := by split <;> omega
      have hmin2 : (if 1 < r10 then 1 else r10) < (2 ^ 64 : Int) := by split <;> omega
      refine ⟨_, rfl, _, rfl, _, rfl, _, rfl, _, _, rfl, rfl, .inr ⟨by omega, by omega⟩, _, _, rfl, rfl, _, rfl, _, rfl, _, _, rfl, _, _, rfl, rfl, .inr ⟨hmin1, hmin2⟩, by show 3 ≤ sizeLine; decide, fun t ht => ?_⟩
      exact q t _ _ _ _ (oA.free d ht) upd_same ⟨l1, l2, 1 + r6, r10, by omega, by omega, a10, by omega, rfl, rfl⟩ (oA.alloc ht)
end
/-! ### has, in the law and in the program -/
open RunM
/-- (lo, hi, st) stands at t -/
abbrev RunAt (H : Hp) (t : Addr) (lo hi st : Int) : Prop := H t = some (.tup [.int lo, .int hi, .int st])
def spHas : Sp := fun vs H Q _ => ∃ (t : Addr) (lo hi st x : Int), vs = [.ref t, .int x] ∧ RunAt H t lo hi st ∧ RunOk lo hi st ∧ Q (.bl (hasR lo hi st x)) H
theorem dI {i j : Int} : decide (V.int i = V.int j) = decide (i = j) := by
  by_cases h : i = j
  · subst h; simp
  · rw [decide_eq_false h, decide_eq_false fun z => h (V.int.inj z)]
section
variable {P : Program} {w : World} {K : PySem.W.Frag} {mg : Str → Option Value} {base : Heap}
theorem sc_lhas : FnScope ["_law_run_here", "_law_number"] ["_law_run_here", "_law_number"] (defScope s_law_has) := ⟨rfl, rfl, rfl, by decide +kernel, rfl, by decide +kernel, by decide +kernel⟩
theorem g_lhas (h : Has K mg "_law_has" s_law_has) : Good P w K mg base 1 "_law_has" ["_law_run_here", "_law_number"] spHas := by
  refine h.good sc_lhas (fun _ _ _ _ _ _ us hl => match us, hl with | [_, _], _ => rfl) (fun vs H Q E q => ?_) (fun f cdv A outer s H vs Q E hr q => ?_)
  · obtain ⟨t, lo, hi, st, x, rfl, _⟩ := q
    rfl
  · obtain ⟨t, lo, hi, st, x, rfl, ht, ok, q⟩ := q
    have nd := sc_lhas.nd
    have fin : ∀ b, hasR lo hi st x = b → Q (.bl b) H := fun b e => e ▸ q
    refine ⟨_, (pss_cons (ps_if (pt_not (pt_chain op_le op_le (pe_ix ix_tup (pv 0) pe_int (fun _ _ => rfl)) (pv 1) (pe_ix ix_tup (pv 0) pe_int (fun _ _ => rfl))))
        (pss_one (ps_ret pe_bl))
        pss_nil)
      (pss_one (ps_ret (pe_or (pe_cmpR op_eq (pv 1) (pe_ix ix_tup (pv 0) pe_int (fun _ _ => rfl)) (nomark _)) (pe_one (pe_cmpR op_eq (pe_op op_mod (pe_op op_sub (pv 1) (pe_ix ix_tup (pv 0) pe_int (fun _ _ => rfl))) (pe_ix ix_tup (pv 0) pe_int (fun _ _ => rfl))) pe_int (nomark _))))))), ?_⟩
    refine ⟨_, rfl, t, _, _, _, rfl, rfl, SqT.of ht, rfl, _, rfl, _, _, rfl, rfl, _, rfl, ?_⟩
    refine ite2 (fun h1 => ?_) (fun h1 => ?_)
    · have h1 : lo ≤ x := of_decide_eq_true h1
      refine ⟨_, rfl, t, _, _, _, rfl, rfl, SqT.of ht, rfl, _, _, rfl, rfl, _, rfl, ?_⟩
      refine ite2 (fun h2 => ?_) (fun h2 => ?_)
      · have h2 : ¬ x ≤ hi := by simpa using h2
        exact fin _ (by unfold hasR; simp [h2])
      · have h2 : x ≤ hi := by simpa using h2
        refine ⟨_, rfl, _, rfl, t, _, _, _, rfl, rfl, SqT.of ht, rfl, rfl, _, rfl, ?_⟩
        refine ite2 (fun h3 => ?_) (fun h3 => ?_)
        · rw [dI] at h3
          have h3 : x = lo := of_decide_eq_true h3
          exact fin _ (by have h2' := h2; rw [h3] at h2'; unfold hasR; simp [h3, h2'])
        · rw [dI] at h3
          have h3 : ¬ x = lo := fun z => h3 (decide_eq_true z)
          have hs : 0 < st := by
            rcases Int.lt_or_le 0 st with z | z
            · exact z
            · have := ok.nn
              have := ok.z (by omega)
              omega
          refine ⟨_, rfl, _, rfl, t, _, _, _, rfl, rfl, SqT.of ht, rfl, _, _, rfl, rfl, _, rfl, t, _, _, _, rfl, rfl, SqT.of ht, rfl, _, _, rfl, rfl, hs, rfl, ?_⟩
          exact fin _ (by rw [dI]; unfold hasR; simp [h1, h2, h3])
    · have h1 : ¬ lo ≤ x := fun z => h1 (decide_eq_true z)
      refine ⟨_, rfl, ?_⟩
      refine iteT ?_
      exact fin _ (by unfold hasR; simp [h1])
theorem sc_rhas : FnScope ["run", "number"] ["run", "number"] (defScope srun_has) := ⟨rfl, rfl, rfl, by decide +kernel, rfl, by decide +kernel, by decide +kernel⟩
theorem g_rhas (h : Has K mg "run_has" srun_has) : Good P w K mg base 1 "run_has" ["run", "number"] spHas := by
  refine h.good sc_rhas (fun _ _ _ _ _ _ us hl => match us, hl with | [_, _], _ => rfl) (fun vs H Q E q => ?_) (fun f cdv A outer s H vs Q E hr q => ?_)
  · obtain ⟨t, lo, hi, st, x, rfl, _⟩ := q
    rfl
  · obtain ⟨t, lo, hi, st, x, rfl, ht, ok, q⟩ := q
    have nd := sc_rhas.nd
    rw [hasR_of ok] at q
    refine ⟨_, (pss_cons (ps_if (pt_cmpR op_eq (pe_ix ix_tup (pv 0) pe_int (fun _ _ => rfl)) pe_int (nomark _))
        (pss_one (ps_ret (pe_cmpR op_eq (pv 1) (pe_ix ix_tup (pv 0) pe_int (fun _ _ => rfl)) (nomark _))))
        pss_nil)
      (pss_one (ps_ret (pe_and (pe_chain op_le op_le (pe_ix ix_tup (pv 0) pe_int (fun _ _ => rfl)) (pv 1) (pe_ix ix_tup (pv 0) pe_int (fun _ _ => rfl))) (pe_one (pe_cmpR op_eq (pe_op op_mod (pe_op op_sub (pv 1) (pe_ix ix_tup (pv 0) pe_int (fun _ _ => rfl))) (pe_ix ix_tup (pv 0) pe_int (fun _ _ => rfl))) pe_int (nomark _))))))), ?_⟩
    refine ⟨_, rfl, t, _, _, _, rfl, rfl, SqT.of ht, rfl, rfl, _, rfl, ?_⟩
    refine ite2 (fun h1 => ?_) (fun h1 => ?_)
    · rw [dI] at h1
      have h1 : st = 0 := of_decide_eq_true h1
      rw [if_pos h1] at q
      refine ⟨_, rfl, _, rfl, t, _, _, _, rfl, rfl, SqT.of ht, rfl, rfl, ?_⟩
      show Q _ _
      rw [dI]
      exact q
    · rw [dI] at h1
      have h1 : ¬ st = 0 := fun z => h1 (decide_eq_true z)
      rw [if_neg h1] at q
      have hs : 0 < st := by have := ok.nn; omega
      refine ⟨_, rfl, t, _, _, _, rfl, rfl, SqT.of ht, rfl, _, rfl, _, _, rfl, rfl, _, rfl, ?_⟩
      refine ite2 (fun h2 => ?_) (fun h2 => ?_)
      · have h2 : lo ≤ x := of_decide_eq_true h2
        refine ⟨_, rfl, t, _, _, _, rfl, rfl, SqT.of ht, rfl, _, _, rfl, rfl, _, rfl, ?_⟩
        refine ite2 (fun h3 => ?_) (fun h3 => ?_)
        · have h3 : x ≤ hi := of_decide_eq_true h3
          refine ⟨_, rfl, _, rfl, t, _, _, _, rfl, rfl, SqT.of ht, rfl, _, _, rfl, rfl, _, rfl, t, _, _, _, rfl, rfl, SqT.of ht, rfl, _, _, rfl, rfl, hs, rfl, ?_⟩
          show Q _ _
          rw [dI]
          simpa [h2, h3] using q
        · have h3 : ¬ x ≤ hi := fun z => h3 (decide_eq_true z)
          show Q _ _
          simpa [h2, h3] using q
      · have h2 : ¬ lo ≤ x := fun z => h2 (decide_eq_true z)
        refine ⟨_, rfl, ?_⟩
        refine iteF ?_
        show Q _ _
        simpa [h2] using q
/-! ### the three numbers, parted, within -/
def spTell : Sp := fun vs H Q _ => ∃ (t : Addr) (lo hi st : Int), vs = [.ref t] ∧ RunAt H t lo hi st ∧ ∀ l, H l = none → Q (.ref l) (upd H l (.lst [.int lo, .int hi, .int (lo + st)]))
theorem sc_tell : FnScope ["run"] ["run"] (defScope stelling_numbers) := ⟨rfl, rfl, rfl, by decide +kernel, rfl, by decide +kernel, by decide +kernel⟩
theorem g_tell (h : Has K mg "telling_numbers" stelling_numbers) : Good P w K mg base 1 "telling_numbers" ["run"] spTell := by
  refine h.good sc_tell (fun _ _ _ _ _ _ us hl => match us, hl with | [_], _ => rfl) (fun vs H Q E q => ?_) (fun f cdv A outer s H vs Q E hr q => ?_)
  · obtain ⟨t, lo, hi, st, rfl, _⟩ := q
    rfl
  · obtain ⟨t, lo, hi, st, rfl, ht, q⟩ := q
    have nd := sc_tell.nd
    refine ⟨_, (pss_one (ps_ret (@pe_lstQ _ _ _ _ (@qa_c _ _ _ _ _ (pe_ix ix_tup (pv 0) pe_int (fun _ _ => rfl)) (@qa_c _ _ _ _ _ (pe_ix ix_tup (pv 0) pe_int (fun _ _ => rfl)) (@qa_c _ _ _ _ _ (pe_op op_add (pe_ix ix_tup (pv 0) pe_int (fun _ _ => rfl)) (pe_ix ix_tup (pv 0) pe_int (fun _ _ => rfl))) qa_nil rfl) rfl) rfl)))), ?_⟩
    exact ⟨_, rfl, t, _, _, _, rfl, rfl, SqT.of ht, rfl, _, rfl, t, _, _, _, rfl, rfl, SqT.of ht, rfl, _, rfl, t, _, _, _, rfl, rfl, SqT.of ht, rfl, _, rfl, t, _, _, _, rfl, rfl, SqT.of ht, rfl, _, _, rfl, rfl, by show 3 ≤ sizeLine; decide, fun l hl => q l hl⟩
def optV : Option Int → V
  | some i => .int i
  | none => .non
def spParted : Sp := fun vs H Q _ => ∃ (t u : Addr) (lo hi st lo' hi' st' : Int), vs = [.ref t, .ref u] ∧ RunAt H t lo hi st ∧ RunAt H u lo' hi' st' ∧ RunOk lo' hi' st' ∧
  ∀ H', Same H H' → Q (optV (partR (lo, hi, st) (lo', hi', st'))) H'
theorem sc_parted : FnScope ["one", "other", "number"] ["one", "other"] (defScope srun_parted) := ⟨rfl, rfl, rfl, by decide +kernel, rfl, by decide +kernel, by decide +kernel⟩
theorem find_step {f : Int → Bool} {xs : List Int} {i : Nat} {x : Int} (h : xs[i]? = some x) : xs.find? f = if (xs.take i).all (fun y => !f y) = true then (if f x = true then some x else (xs.drop (i + 1)).find? f) else (xs.take i).find? f := by
  have hd : xs.drop i = x :: xs.drop (i + 1) := by
    obtain ⟨hlt, e⟩ := List.getElem?_eq_some_iff.mp h
    rw [List.drop_eq_getElem_cons hlt, e]
  have e : xs = xs.take i ++ (x :: xs.drop (i + 1)) := by rw [← hd, List.take_append_drop]
  split
  · rename_i ha
    conv => lhs; rw [e]
    rw [List.find?_append]
    have : (xs.take i).find? f = none := List.find?_eq_none.mpr fun y hy => by simpa using List.all_eq_true.mp ha y hy
    rw [this, Option.none_or, List.find?_cons]
    cases hf : f x <;> simp
  · rename_i ha
    conv => lhs; rw [e]
    rw [List.find?_append]
    cases hq : (xs.take i).find? f with
    | some y => rfl
    | none =>
      refine absurd (List.all_eq_true.mpr fun y hy => ?_) ha
      simpa using List.find?_eq_none.mp hq y hy
theorem g_parted (h : Has K mg "run_parted" srun_parted) (Gtelling_numbers : Good P w K mg base 1 "telling_numbers" ["run"] spTell) (Grun_has : Good P w K mg base 1 "run_has" ["run", "number"] spHas) : Good P w K mg base 2 "run_parted" ["one", "other"] spParted := by
  refine h.good sc_parted (fun _ _ _ _ _ _ us hl => match us, hl with | [_, _], _ => rfl) (fun vs H Q E q => ?_) (fun f cdv A outer s H vs Q E hr q => ?_)
  · obtain ⟨t, u, lo, hi, st, lo', hi', st', rfl, _⟩ := q
    rfl
  · obtain ⟨t, u, lo, hi, st, lo', hi', st', rfl, ht, hu', ok', q⟩ := q
    have nd := sc_parted.nd
    refine ⟨_, (pss_cons (ps_for PassesOwn.never rfl (pi_list (pe_fn Gtelling_numbers (hr.mono (by first | decide | omega)) rfl (pa_c (pv 0) pa_nil))) (pg_name (i := 2) nd rfl (by first | exact Or.inl rfl | exact Or.inr rfl))
        (pss_one (ps_if (pt_not (pt_val (pe_fn Grun_has (hr.mono (by first | decide | omega)) rfl (pa_c (pv 1) (pa_c (pv 2) pa_nil)))))
          (pss_one (ps_ret (pv 2)))
          pss_nil)))
      (pss_one (ps_ret pe_non))), ?_⟩
    refine ⟨_, rfl, t, lo, hi, st, rfl, ht, fun l hl => ?_⟩
    have s1 : Same H (upd H l (.lst [.int lo, .int hi, .int (lo + st)])) := fun b o e => by rw [upd_ne (ne_of_none e hl)]; exact e
    have q' := q _ s1
    refine ⟨l, rfl, ⟨_, SqL.of upd_same⟩, for_list (K := K) (a := l) (xs := [lo, hi, lo + st].map V.int) (fun i σ H1 => H1 = upd H l (.lst [.int lo, .int hi, .int (lo + st)]) ∧ (([lo, hi, lo + st].take i).all fun y => hasR lo' hi' st' y) = true ∧ ∃ v, σ = [some (.ref t), some (.ref u), v])
      ⟨rfl, rfl, none, rfl⟩ (fun i σ H1 _ ⟨e, _⟩ => by rw [e]; exact SqL.of upd_same) ?_ ?_⟩
    · rintro i x σ H1 hx ⟨rfl, ha, v, rfl⟩
      rw [List.getElem?_map] at hx
      cases hzi : [lo, hi, lo + st][i]? with
      | none => rw [hzi] at hx; cases hx
      | some z =>
        rw [hzi] at hx
        have hx : V.int z = x := Option.some.inj hx
        subst hx
        refine ⟨_, rfl, _, rfl, u, lo', hi', st', z, rfl, s1 _ _ hu', ok', ?_⟩
        refine ⟨_, rfl, ?_⟩
        refine ite2 (fun hz => ?_) (fun hz => ?_)
        · have hz : hasR lo' hi' st' z = false := by simpa using hz
          refine ⟨_, rfl, ?_⟩
          have e : partR (lo, hi, st) (lo', hi', st') = some z := by
            unfold partR
            rw [find_step hzi, if_pos (by simpa using ha), if_pos (by simp [hz])]
          rw [e] at q'
          exact q'
        · have hz : hasR lo' hi' st' z = true := by simpa using hz
          refine ⟨rfl, ?_, _, rfl⟩
          rw [List.take_add_one, hzi, List.all_append, ha]
          simp [hz]
    · rintro σ H1 ⟨rfl, ha, v, rfl⟩
      have e : partR (lo, hi, st) (lo', hi', st') = none := by
        rw [part_none]
        simpa using ha
      rw [e] at q'
      exact q'
def spWithin : Sp := fun vs H Q _ => ∃ (t u : Addr) (lo hi st lo' hi' st' : Int), vs = [.ref t, .ref u] ∧ RunAt H t lo hi st ∧ RunAt H u lo' hi' st' ∧ RunOk lo' hi' st' ∧
  ∀ H', Same H H' → Q (.bl (partR (lo, hi, st) (lo', hi', st')).isNone) H'
theorem sc_within : FnScope ["one", "other"] ["one", "other"] (defScope srun_within) := ⟨rfl, rfl, rfl, by decide +kernel, rfl, by decide +kernel, by decide +kernel⟩
theorem optV_none (o : Option Int) : decide (optV o = V.non) = o.isNone := by cases o <;> simp [optV]
theorem g_within (h : Has K mg "run_within" srun_within) (Grun_parted : Good P w K mg base 2 "run_parted" ["one", "other"] spParted) : Good P w K mg base 3 "run_within" ["one", "other"] spWithin := by
  refine h.good sc_within (fun _ _ _ _ _ _ us hl => match us, hl with | [_, _], _ => rfl) (fun vs H Q E q => ?_) (fun f cdv A outer s H vs Q E hr q => ?_)
  · obtain ⟨t, u, lo, hi, st, lo', hi', st', rfl, _⟩ := q
    rfl
  · obtain ⟨t, u, lo, hi, st, lo', hi', st', rfl, ht, hu', ok', q⟩ := q
    have nd := sc_within.nd
    refine ⟨_, (pss_one (ps_ret (pe_cmpR op_isN (pe_fn Grun_parted (hr.mono (by first | decide | omega)) rfl (pa_c (pv 0) (pa_c (pv 1) pa_nil))) pe_non (nomark _)))), ?_⟩
    refine ⟨_, rfl, _, rfl, t, u, lo, hi, st, lo', hi', st', rfl, ht, hu', ok', fun H1 s1 => ?_⟩
    refine ⟨rfl, ?_⟩
    show Q _ _
    rw [optV_none]
    exact q H1 s1
end
open GcdM
/-! ### the greatest divisor; the run of numbers; runs joined -/
abbrev RAt (H : Hp) (t : Addr) (a : R3) : Prop := H t = some (.tup [.int a.1, .int a.2.1, .int a.2.2])
def spDiv : Sp := fun vs H Q _ => ∃ a b : Int, vs = [.int a, .int b] ∧ 0 ≤ a ∧ 0 ≤ b ∧ Q (.int (g a b)) H
def spLDiv : Sp := fun vs H Q _ => ∃ a b : Int, vs = [.int a, .int b] ∧ Q (.int (g a b)) H
section
variable {P : Program} {w : World} {K : PySem.W.Frag} {mg : Str → Option Value} {base : Heap}
theorem sc_div : FnScope ["one", "other", "rest"] ["one", "other"] (defScope sdivisor_of) := ⟨rfl, rfl, rfl, by decide +kernel, rfl, by decide +kernel, by decide +kernel⟩
theorem g_div (h : Has K mg "divisor_of" sdivisor_of) : Good P w K mg base 1 "divisor_of" ["one", "other"] spDiv := by
  refine h.good sc_div (fun _ _ _ _ _ _ us hl => match us, hl with | [_, _], _ => rfl) (fun vs H Q E q => ?_) (fun f cdv A outer s H vs Q E hr q => ?_)
  · obtain ⟨a, b, rfl, _⟩ := q
    rfl
  · obtain ⟨a, b, rfl, ha, hb, q⟩ := q
    have nd := sc_div.nd
    refine ⟨_, (pss_cons (ps_while PassesOwn.never (pt_cmpR op_ne (pv 1) pe_int (nomark _))
        (pss_cons (ps_set (i := 2) nd rfl (by first | exact Or.inl rfl | exact Or.inr rfl) (pe_op op_mod (pv 0) (pv 1)))
        (pss_cons (ps_set (i := 0) nd rfl (by first | exact Or.inl rfl | exact Or.inr rfl) (pv 1))
        (pss_one (ps_set (i := 1) nd rfl (by first | exact Or.inl rfl | exact Or.inr rfl) (pv 2))))))
      (pss_one (ps_ret (pv 0)))), ?_⟩
    refine while_by (fun σ H' => ∃ (x y : Int) (v : Option V), σ = [some (.int x), some (.int y), v] ∧ H' = H ∧ 0 ≤ x ∧ 0 ≤ y ∧ g x y = g a b)
      (fun σ _ => match σ with | [_, some (.int y), _] => y.toNat | _ => 0) ⟨a, b, none, rfl, rfl, ha, hb, rfl⟩ ?_ ?_
    · rintro σ H' ⟨x, y, v, rfl, rfl, hx, hy, e⟩
      refine ⟨_, rfl, rfl, _, rfl, ?_⟩
      refine ite2 (fun h1 => ?_) (fun h1 => ?_)
      · rw [dI] at h1
        have h1 : ¬ y = 0 := by simpa using h1
        have hy' : 0 < y := by omega
        have hm := mod_less (a := x) hy'
        exact ⟨_, rfl, _, rfl, _, _, rfl, rfl, hy', _, rfl, _, rfl, ⟨y, x % y, _, rfl, rfl, hy, hm.1, (g_turn hy').trans e⟩, hm.2⟩
      · rw [dI] at h1
        have h1 : y = 0 := by simpa using h1
        subst h1
        rw [g_zero x hx] at e
        refine ⟨_, rfl, ?_⟩
        rw [e]
        exact q
    · rintro σ H Q Q' hq ⟨v, e, s, b, eb, q⟩
      exact ⟨v, e, s, b, eb, hq _ _ q⟩
theorem sc_ldiv : FnScope ["_law_one", "_law_other"] ["_law_one", "_law_other"] (defScope s_law_divisor) := ⟨rfl, rfl, rfl, by decide +kernel, rfl, by decide +kernel, by decide +kernel⟩
theorem g_ldiv (h : Has K mg "_law_divisor" s_law_divisor) (B : Own mg) : Good P w K mg base 1 "_law_divisor" ["_law_one", "_law_other"] spLDiv := by
  refine h.good sc_ldiv (fun _ _ _ _ _ _ us hl => match us, hl with | [_, _], _ => rfl) (fun vs H Q E q => ?_) (fun f cdv A outer s H vs Q E hr q => ?_)
  · obtain ⟨a, b, rfl, _⟩ := q
    rfl
  · obtain ⟨a, b, rfl, q⟩ := q
    have nd := sc_ldiv.nd
    refine ⟨_, (pss_cons (ps_while PassesOwn.never (pt_cmpR op_ne (pv 1) pe_int (nomark _))
        (pss_one (ps_par (i := 0) (j := 1) rfl nd rfl rfl (by decide) rfl rfl (pa_c (pv 1) (pa_c (pe_op op_modN (pv 0) (pv 1)) pa_nil)) (by rfl))))
      (pss_one (ps_ret (pe_callB call_abs rfl B.abs boot_abs (pa_c (pv 0) pa_nil))))), ?_⟩
    refine while_by (fun σ H' => ∃ (x y : Int), σ = [some (.int x), some (.int y)] ∧ H' = H ∧ g x y = g a b)
      (fun σ _ => match σ with | [_, some (.int y)] => y.natAbs | _ => 0) ⟨a, b, rfl, rfl, rfl⟩ ?_ ?_
    · rintro σ H' ⟨x, y, rfl, rfl, e⟩
      refine ⟨_, rfl, rfl, _, rfl, ?_⟩
      refine ite2 (fun h1 => ?_) (fun h1 => ?_)
      · rw [dI] at h1
        have h1 : ¬ y = 0 := by simpa using h1
        exact ⟨_, rfl, _, rfl, _, rfl, _, _, rfl, rfl, h1, _, _, rfl, ⟨y, x.fmod y, rfl, rfl, (g_turnF h1).trans e⟩, fmod_less h1⟩
      · rw [dI] at h1
        have h1 : y = 0 := by simpa using h1
        subst h1
        rw [g_abs x] at e
        refine ⟨_, rfl, _, rfl, ?_⟩
        rw [e]
        exact q
    · rintro σ H Q Q' hq ⟨v, e, s, b, eb, q⟩
      exact ⟨v, e, s, b, eb, hq _ _ q⟩
end
/-! ### the law's same, for trees of lists and tuples -/
section
variable {P : Program} {w : World} {K : PySem.W.Frag} {mg : Str → Option Value} {base : Heap}
theorem sc_same : FnScope ["_law_one", "_law_other"] ["_law_one", "_law_other"] (defScope s_law_same) := ⟨rfl, rfl, rfl, by decide +kernel, rfl, by decide +kernel, by decide +kernel⟩
theorem g_same0 (h : Has K mg "_law_same" s_law_same) : Good P w K mg base 1 "_law_same" ["_law_one", "_law_other"] (spSameT K 0) := by
  refine h.good sc_same (fun _ _ _ _ _ _ us hl => match us, hl with | [_, _], _ => rfl) (fun vs H Q E q => ?_) (fun f cdv A outer s H vs Q E hr q => ?_)
  · obtain ⟨x, y, T, U, rfl, _⟩ := q
    rfl
  · obtain ⟨x, y, T, U, _, f, _⟩ := q
    exact False.elim f
theorem g_sameS {d : Nat} (h : Has K mg "_law_same" s_law_same) (B : Own mg) (G_law_same : Good P w K mg base (d + 1) "_law_same" ["_law_one", "_law_other"] (spSameT K d)) : Good P w K mg base (d + 2) "_law_same" ["_law_one", "_law_other"] (spSameT K (d + 1)) := by
  refine h.good sc_same (fun _ _ _ _ _ _ us hl => match us, hl with | [_, _], _ => rfl) (fun vs H Q E q => ?_) (fun f cdv A outer s H vs Q E hr q => ?_)
  · obtain ⟨x, y, T, U, rfl, _⟩ := q
    rfl
  · obtain ⟨x, y, T, U, rfl, ax, ay, q⟩ := q
    have nd := sc_same.nd
    refine ⟨_, (pss_cons (ps_if (PW.pt (pw_or (pt_val (pe_callB call_isi_bool rfl B.isinstance boot_isinstance (pa_c (pv 0) (pa_c (pe_bltn (v := .ty "bool") rfl B.bool_ boot_bool rfl) pa_nil)))) (pw_or1 (pt_val (pe_callB call_isi_bool rfl B.isinstance boot_isinstance (pa_c (pv 1) (pa_c (pe_bltn (v := .ty "bool") rfl B.bool_ boot_bool rfl) pa_nil)))))))
        (pss_one (ps_ret (pe_and (pe_callB call_isi_bool rfl B.isinstance boot_isinstance (pa_c (pv 0) (pa_c (pe_bltn (v := .ty "bool") rfl B.bool_ boot_bool rfl) pa_nil))) (pe_and (pe_callB call_isi_bool rfl B.isinstance boot_isinstance (pa_c (pv 1) (pa_c (pe_bltn (v := .ty "bool") rfl B.bool_ boot_bool rfl) pa_nil))) (pe_one (pe_cmpR op_eq (pv 0) (pv 1) (nomark _)))))))
        pss_nil)
      (pss_cons (ps_if (PW.pt (pw_or (pt_val (pe_callB call_isi_lt rfl B.isinstance boot_isinstance (pa_c (pv 0) (pa_c (pe_lt (pe_bltn (v := .ty "list") rfl B.list_ boot_list rfl) (pe_bltn (v := .ty "tuple") rfl B.tuple_ boot_tuple rfl)) pa_nil)))) (pw_or1 (pt_val (pe_callB call_isi_lt rfl B.isinstance boot_isinstance (pa_c (pv 1) (pa_c (pe_lt (pe_bltn (v := .ty "list") rfl B.list_ boot_list rfl) (pe_bltn (v := .ty "tuple") rfl B.tuple_ boot_tuple rfl)) pa_nil)))))))
        (pss_cons (ps_if (PW.pt (pw_or (pt_cmpR op_ne (pe_callB call_isi_list rfl B.isinstance boot_isinstance (pa_c (pv 0) (pa_c (pe_bltn (v := .ty "list") rfl B.list_ boot_list rfl) pa_nil))) (pe_callB call_isi_list rfl B.isinstance boot_isinstance (pa_c (pv 1) (pa_c (pe_bltn (v := .ty "list") rfl B.list_ boot_list rfl) pa_nil))) (nomark _)) (pw_or1 (pt_cmpR op_ne (pe_callB call_isi_tuple rfl B.isinstance boot_isinstance (pa_c (pv 0) (pa_c (pe_bltn (v := .ty "tuple") rfl B.tuple_ boot_tuple rfl) pa_nil))) (pe_callB call_isi_tuple rfl B.isinstance boot_isinstance (pa_c (pv 1) (pa_c (pe_bltn (v := .ty "tuple") rfl B.tuple_ boot_tuple rfl) pa_nil))) (nomark _)))))
          (pss_one (ps_ret pe_bl))
          pss_nil)
        (pss_one (ps_ret (pe_and (pe_cmpR op_eq (pe_callB call_len_seq rfl B.len PySem.boot_len (pa_c (pv 0) pa_nil)) (pe_callB call_len_seq rfl B.len PySem.boot_len (pa_c (pv 1) pa_nil)) (nomark _)) (pe_one (pe_callB (call_allL rfl) rfl B.all boot_all (pa_c (pe_comp (sc := defScope s_law_same) (XN := ["_law_one", "_law_other"]) (N := ["_law_a", "_law_b"]) (own := 2) (fr := []) rfl ⟨rfl, by decide +kernel, by decide +kernel, by decide +kernel, rfl, by decide +kernel, by decide, by decide +kernel⟩ (pi_zip rfl B.zip (pa_c (pv 0) (pa_c (pv 1) pa_nil))) (fun _ _ _ _ _ => (@pg_tupK _ K _ _ _ _ 2 rfl rfl (pgs_cons (pg_name (i := 0) (show (["_law_a", "_law_b"] : List Str).Nodup by decide +kernel) rfl (by first | exact Or.inl rfl | exact Or.inr rfl)) (pgs_cons (pg_name (i := 1) (show (["_law_a", "_law_b"] : List Str).Nodup by decide +kernel) rfl (by first | exact Or.inl rfl | exact Or.inr rfl)) pgs_nil)) rfl rfl)) (fun _ _ _ _ _ => pf_nil) (fun _ _ _ _ _ => (pe_fn G_law_same (hr.mono (by first | decide | omega)) rfl (pa_c (pv 0) (pa_c (pv 1) pa_nil))))) pa_nil)))))))
        pss_nil)
      (pss_cons (ps_if (PW.pt (pw_or (pt_val (pe_callB call_isi_dict rfl B.isinstance boot_isinstance (pa_c (pv 0) (pa_c (pe_bltn (v := .ty "dict") rfl B.dict_ boot_dict rfl) pa_nil)))) (pw_or1 (pt_val (pe_callB call_isi_dict rfl B.isinstance boot_isinstance (pa_c (pv 1) (pa_c (pe_bltn (v := .ty "dict") rfl B.dict_ boot_dict rfl) pa_nil))))))) pss_never
        pss_nil)
      (pss_cons (ps_if (PW.pt (pw_or (pt_cmpR op_ne (pe_callB call_isi_int rfl B.isinstance boot_isinstance (pa_c (pv 0) (pa_c (pe_bltn (v := .ty "int") rfl B.int_ boot_int rfl) pa_nil))) (pe_callB call_isi_int rfl B.isinstance boot_isinstance (pa_c (pv 1) (pa_c (pe_bltn (v := .ty "int") rfl B.int_ boot_int rfl) pa_nil))) (nomark _)) (pw_or1 (pt_cmpR op_ne (pe_callB call_isi_str rfl B.isinstance boot_isinstance (pa_c (pv 0) (pa_c (pe_bltn (v := .ty "str") rfl B.str_ boot_str rfl) pa_nil))) (pe_callB call_isi_str rfl B.isinstance boot_isinstance (pa_c (pv 1) (pa_c (pe_bltn (v := .ty "str") rfl B.str_ boot_str rfl) pa_nil))) (nomark _)))))
        (pss_one (ps_ret pe_bl))
        pss_nil)
      (pss_one (ps_ret (pe_cmpR op_eq (pv 0) (pv 1) (nomark _)))))))), ?_⟩
    have fin : ∀ {b : Bool} {H' : Hp}, Same H H' → decide (T = U) = b → Q (.bl b) H' := fun s' e => by
      have := q _ s'
      rw [e] at this
      exact this
    refine ⟨_, rfl, _, _, rfl, ty_at ax, _, rfl, ?_⟩
    refine ite2 (fun h1 => iteT ?_) (fun h1 => ?_)
    · refine ⟨_, rfl, _, _, rfl, ty_at ax, _, rfl, ?_⟩
      rw [if_pos h1]
      refine ⟨_, rfl, _, _, rfl, ty_at ay, _, rfl, ?_⟩
      refine ite2 (fun h2 => ?_) (fun h2 => ?_)
      · rcases ax with ⟨fx, rfl⟩ | ⟨t, a, xs, Ts, _, _, rfl, _⟩
        · rcases ay with ⟨fy, rfl⟩ | ⟨t, a, xs, Ts, _, _, rfl, _⟩
          · cases x <;> first | exact absurd h1 Bool.false_ne_true | skip
            cases y <;> first | exact absurd h2 Bool.false_ne_true | skip
            exact ⟨_, rfl, _, rfl, rfl, fin (Same.refl H) leaf_eq⟩
          · cases t <;> exact absurd (show false = true from h2) (by decide)
        · cases t <;> exact absurd (show false = true from h1) (by decide)
      · exact fin (Same.refl H) (ty_neT (T := "bool") fun e => h2 (e ▸ h1))
    · refine ⟨_, rfl, _, _, rfl, ty_at ay, _, rfl, ?_⟩
      refine ite2 (fun h2 => ?_) (fun h2 => ?_)
      · refine ⟨_, rfl, _, _, rfl, ty_at ax, _, rfl, ?_⟩
        rw [if_neg h1]
        exact fin (Same.refl H) (ty_neT (T := "bool") fun e => h1 (e ▸ h2))
      · refine ⟨_, rfl, fun p1 n1 => ⟨_, p1, ltT T, rfl, upd_same, lt_at (ax.same (same_new n1)), _, rfl, ?_⟩⟩
        have s1 := (Same.refl H).alloc (o := ltO) n1
        refine ite2 (fun l1 => iteT ?_) (fun l1 => ?_)
        · have sx := s1
          have hlt : ltT T = true ∨ ltT U = true := .inl l1
          refine ⟨_, rfl, _, _, rfl, ty_at (ax.same sx), _, rfl, _, _, rfl, ty_at (ay.same sx), rfl, _, rfl, ?_⟩
          refine ite2 (fun h3 => iteT ?_) (fun h3 => ?_)
          · exact fin sx (ty_neT (T := "list") (by simpa [dB] using h3))
          · refine ⟨_, rfl, _, _, rfl, ty_at (ax.same sx), _, rfl, _, _, rfl, ty_at (ay.same sx), rfl, _, rfl, ?_⟩
            refine ite2 (fun h4 => ?_) (fun h4 => ?_)
            · exact fin sx (ty_neT (T := "tuple") (by simpa [dB] using h4))
            · obtain ⟨t, a, b, xs, ys, Ts, Us, rfl, rfl, qa, qb, rfl, rfl, la, lb, hsz, ha, hb⟩ := two_seqs (ax.same sx) (ay.same sx) hlt (by simpa [dB] using h3) (by simpa [dB] using h4)
              refine ⟨_, rfl, a, xs, rfl, qa.or, _, rfl, b, ys, rfl, qb.or, rfl, _, rfl, ?_⟩
              refine ite2 (fun h5 => ?_) (fun h5 => ?_)
              · have hl : xs.length = ys.length := by
                  have h5 := of_decide_eq_true h5
                  injection h5 with h5
                  exact Int.ofNat.inj h5
                refine ⟨_, rfl, _, rfl, t, a, b, rfl, ⟨_, qa⟩, ⟨_, qb⟩, fun l nl => ?_⟩
                refine comp_zip (K := K) xs.length rfl hl (fun i zs H' => Same _ H' ∧ zs = ((List.range i).map fun k => decide (Ts[k]? = Us[k]?)).map V.bl)
                  ⟨same_new nl, rfl⟩ (fun i zs H' _ _ p => ⟨qa.same p.1, qb.same p.1⟩) ?_ ?_
                · rintro i x y zs H3 p hx hy hz ⟨s3, rfl⟩ np
                  have i1 : i < xs.length := (List.getElem?_eq_some_iff.mp hx).1
                  have i2 : i < Ts.length := by omega
                  have i3 : i < Us.length := by omega
                  refine ⟨p, [x, y], rfl, SqT.of upd_same, rfl, _, _, rfl, _, _, rfl, rfl, ⟨[_, _], rfl, rfl⟩, noIfT ⟨_, rfl, _, rfl, x, y, Ts[i], Us[i], rfl, (ha i x _ hx (List.getElem?_eq_getElem i2)).same (s3.alloc np), (hb i y _ hy (List.getElem?_eq_getElem i3)).same (s3.alloc np), fun H6 s6 => ⟨?_, ?_, ?_, ?_⟩⟩⟩
                  · exact s6 l _ (by rw [upd_ne (ne_of_none hz np)]; exact hz)
                  · simp only [List.length_map, List.length_range]
                    omega
                  · intro c u e
                    rw [upd_ne (ne_of_none e nl)]
                    exact s6 c u ((s3.alloc np) c u e)
                  · have e : decide (Ts[i] = Us[i]) = decide (Ts[i]? = Us[i]?) := by
                      rw [Bool.eq_iff_iff, decide_eq_true_iff, decide_eq_true_iff, List.getElem?_eq_getElem i2, List.getElem?_eq_getElem i3]
                      exact ⟨fun h => by rw [h], fun h => Option.some.inj h⟩
                    rw [List.range_succ, List.map_append, List.map_append, e]
                    rfl
                · rintro zs H3 hz ⟨s3, rfl⟩
                  refine ⟨l, _, rfl, SqL.of hz, fin (sx.trans s3) ?_⟩
                  rw [seq_eq (by omega), la]
              · exact fin sx (decide_eq_false fun e => h5 (by injection e with _ e; subst e; simp [la, lb]))
        · refine ⟨_, rfl, fun p2 n2 => ⟨_, p2, ltT U, rfl, upd_same, lt_at (ay.same (s1.alloc n2)), _, rfl, ?_⟩⟩
          have s2 := s1.alloc (o := ltO) n2
          refine ite2 (fun l2 => ?_) (fun l2 => ?_)
          · have sx := s2
            have hlt : ltT T = true ∨ ltT U = true := .inr l2
            refine ⟨_, rfl, _, _, rfl, ty_at (ax.same sx), _, rfl, _, _, rfl, ty_at (ay.same sx), rfl, _, rfl, ?_⟩
            refine ite2 (fun h3 => iteT ?_) (fun h3 => ?_)
            · exact fin sx (ty_neT (T := "list") (by simpa [dB] using h3))
            · refine ⟨_, rfl, _, _, rfl, ty_at (ax.same sx), _, rfl, _, _, rfl, ty_at (ay.same sx), rfl, _, rfl, ?_⟩
              refine ite2 (fun h4 => ?_) (fun h4 => ?_)
              · exact fin sx (ty_neT (T := "tuple") (by simpa [dB] using h4))
              · obtain ⟨t, a, b, xs, ys, Ts, Us, rfl, rfl, qa, qb, rfl, rfl, la, lb, hsz, ha, hb⟩ := two_seqs (ax.same sx) (ay.same sx) hlt (by simpa [dB] using h3) (by simpa [dB] using h4)
                refine ⟨_, rfl, a, xs, rfl, qa.or, _, rfl, b, ys, rfl, qb.or, rfl, _, rfl, ?_⟩
                refine ite2 (fun h5 => ?_) (fun h5 => ?_)
                · have hl : xs.length = ys.length := by
                    have h5 := of_decide_eq_true h5
                    injection h5 with h5
                    exact Int.ofNat.inj h5
                  refine ⟨_, rfl, _, rfl, t, a, b, rfl, ⟨_, qa⟩, ⟨_, qb⟩, fun l nl => ?_⟩
                  refine comp_zip (K := K) xs.length rfl hl (fun i zs H' => Same _ H' ∧ zs = ((List.range i).map fun k => decide (Ts[k]? = Us[k]?)).map V.bl)
                    ⟨same_new nl, rfl⟩ (fun i zs H' _ _ p => ⟨qa.same p.1, qb.same p.1⟩) ?_ ?_
                  · rintro i x y zs H3 p hx hy hz ⟨s3, rfl⟩ np
                    have i1 : i < xs.length := (List.getElem?_eq_some_iff.mp hx).1
                    have i2 : i < Ts.length := by omega
                    have i3 : i < Us.length := by omega
                    refine ⟨p, [x, y], rfl, SqT.of upd_same, rfl, _, _, rfl, _, _, rfl, rfl, ⟨[_, _], rfl, rfl⟩, noIfT ⟨_, rfl, _, rfl, x, y, Ts[i], Us[i], rfl, (ha i x _ hx (List.getElem?_eq_getElem i2)).same (s3.alloc np), (hb i y _ hy (List.getElem?_eq_getElem i3)).same (s3.alloc np), fun H6 s6 => ⟨?_, ?_, ?_, ?_⟩⟩⟩
                    · exact s6 l _ (by rw [upd_ne (ne_of_none hz np)]; exact hz)
                    · simp only [List.length_map, List.length_range]
                      omega
                    · intro c u e
                      rw [upd_ne (ne_of_none e nl)]
                      exact s6 c u ((s3.alloc np) c u e)
                    · have e : decide (Ts[i] = Us[i]) = decide (Ts[i]? = Us[i]?) := by
                        rw [Bool.eq_iff_iff, decide_eq_true_iff, decide_eq_true_iff, List.getElem?_eq_getElem i2, List.getElem?_eq_getElem i3]
                        exact ⟨fun h => by rw [h], fun h => Option.some.inj h⟩
                      rw [List.range_succ, List.map_append, List.map_append, e]
                      rfl
                  · rintro zs H3 hz ⟨s3, rfl⟩
                    refine ⟨l, _, rfl, SqL.of hz, fin (sx.trans s3) ?_⟩
                    rw [seq_eq (by omega), la]
                · exact fin sx (decide_eq_false fun e => h5 (by injection e with _ e; subst e; simp [la, lb]))
          · rcases ax with ⟨fx, rfl⟩ | ⟨t, a, xs, Ts, _, _, rfl, _⟩
            · rcases ay with ⟨fy, rfl⟩ | ⟨t, a, xs, Ts, _, _, rfl, _⟩
              · have dx : tyB "dict" x = false := by cases x <;> first | rfl | exact absurd fx Bool.false_ne_true
                have dy : tyB "dict" y = false := by cases y <;> first | rfl | exact absurd fy Bool.false_ne_true
                refine ⟨_, rfl, _, _, rfl, ty_flat fx, _, rfl, ?_⟩
                rw [dx]
                refine iteF ⟨_, rfl, _, _, rfl, ty_flat fy, _, rfl, ?_⟩
                rw [dy]
                refine iteF ?_
                refine ⟨_, rfl, _, _, rfl, ty_flat fx, _, rfl, _, _, rfl, ty_flat fy, rfl, _, rfl, ?_⟩
                refine ite2 (fun h3 => iteT ?_) (fun h3 => ?_)
                · exact fin s2 (ty_neT (T := "int") (by show tyB "int" x ≠ tyB "int" y; simpa [dB] using h3))
                · refine ⟨_, rfl, _, _, rfl, ty_flat fx, _, rfl, _, _, rfl, ty_flat fy, rfl, _, rfl, ?_⟩
                  refine ite2 (fun h4 => ?_) (fun h4 => ?_)
                  · exact fin s2 (ty_neT (T := "str") (by show tyB "str" x ≠ tyB "str" y; simpa [dB] using h4))
                  · exact ⟨_, rfl, _, rfl, scal_flat fx fy h1 h2, fin s2 leaf_eq⟩
              · exact absurd rfl l2
            · exact absurd rfl l1
end
/-! ### a refusal is of one class alone -/
theorem at_newA {H : Hp} {a : Addr} {o : HO} (_ : H a = none) : upd H a o a = some o := upd_same
theorem boot_ValueError : bootBuiltins ("ValueError" : Str) = some (.type "ValueError") := by decide +kernel
section
variable {P : Program} {w : World} {K : PySem.W.Frag} {mg : Str → Option Value} {base : Heap} {D aNoSamples aFormError aNoPath aNoValue aNoText aNoName aNoDeed aFull aNoRow aNotLet : Addr}
/-- the refusals' classes, and an exception of the class D against each of them -/
structure Refs (K : PySem.W.Frag) (mg : Str → Option Value) (D : Addr) (aFormError aNoPath aNoSamples aNoValue aNoText aNoName aNoDeed aFull aNoRow aNotLet : Addr) (o : Nat) : Prop where
  mFormError : mg "FormError" = some (.ref aFormError)
  mNoPath : mg "NoPath" = some (.ref aNoPath)
  mNoSamples : mg "NoSamples" = some (.ref aNoSamples)
  mNoValue : mg "NoValue" = some (.ref aNoValue)
  mNoText : mg "NoText" = some (.ref aNoText)
  mNoName : mg "NoName" = some (.ref aNoName)
  mNoDeed : mg "NoDeed" = some (.ref aNoDeed)
  mFull : mg "Full" = some (.ref aFull)
  mNoRow : mg "NoRow" = some (.ref aNoRow)
  mNotLet : mg "NotLet" = some (.ref aNotLet)
  mValueError : mg "ValueError" = none
  XB : XBase K
  XC : XCls K D
  k0 : PySem.W.kitOne K (.ref D) (.ref aNoPath) = some (decide (0 = o))
  k1 : PySem.W.kitOne K (.ref D) (.ref aNoSamples) = some (decide (1 = o))
  k2 : PySem.W.kitOne K (.ref D) (.ref aNoValue) = some (decide (2 = o))
  k3 : PySem.W.kitOne K (.ref D) (.ref aNoText) = some (decide (3 = o))
  k4 : PySem.W.kitOne K (.ref D) (.ref aNoName) = some (decide (4 = o))
  k5 : PySem.W.kitOne K (.ref D) (.ref aNoDeed) = some (decide (5 = o))
  k6 : PySem.W.kitOne K (.ref D) (.ref aFull) = some (decide (6 = o))
  k7 : PySem.W.kitOne K (.ref D) (.ref aNoRow) = some (decide (7 = o))
  k8 : PySem.W.kitOne K (.ref D) (.ref aNotLet) = some (decide (8 = o))
  kF : PySem.W.kitOne K (.ref D) (.ref aFormError) = some true
  kV : PySem.W.kitOne K (.ref D) (.type "ValueError") = some true
def spAlone (e D : Addr) (o : Nat) : Sp := fun vs H Q _ => vs = [.ref e, .int (o : Int)] ∧ H e = some (xO e D) ∧ ∀ H', Same H H' → Q (.bl true) H'
theorem sc_alone : FnScope ["_law_error", "_law_own", "_law_marks"] ["_law_error", "_law_own"] (defScope s_law_alone) := ⟨rfl, rfl, rfl, by decide +kernel, rfl, by decide +kernel, by decide +kernel⟩
theorem g_alone {o : Nat} (h : Has K mg "_law_alone" s_law_alone) (B : Own mg) (R : Refs K mg D aFormError aNoPath aNoSamples aNoValue aNoText aNoName aNoDeed aFull aNoRow aNotLet o) (eh : Addr) :
    GoodH eh P w K mg base 1 "_law_alone" ["_law_error", "_law_own"] (spAlone eh D o) := by
  refine h.goodH sc_alone (fun _ _ _ _ _ _ us hl => match us, hl with | [_, _], _ => rfl) (fun vs H Q E q => ?_) (fun f cdv A outer s H vs Q E hr q => ?_)
  · obtain ⟨rfl, _⟩ := q
    rfl
  · obtain ⟨rfl, he, q⟩ := q
    have nd := sc_alone.nd
    have hu := Nat.lt_of_succ_lt hr.hu
    obtain ⟨mFormError, mNoPath, mNoSamples, mNoValue, mNoText, mNoName, mNoDeed, mFull, mNoRow, mNotLet, mValueError, XB, XC, k0, k1, k2, k3, k4, k5, k6, k7, k8, kF, kV⟩ := R
    refine ⟨_, (pss_cons (ps_set (i := 2) nd rfl (by first | exact Or.inl rfl | exact Or.inr rfl) (@pe_lstQ _ _ _ _ (@qa_c _ _ _ _ _ (pe_callB (call_isXK (K := K) rfl XB XC) rfl B.isinstance boot_isinstance (pa_c (pv 0) (pa_c (pe_glob (v := .ref aNoPath) rfl mNoPath rfl) pa_nil))) (@qa_c _ _ _ _ _ (pe_callB (call_isXK (K := K) rfl XB XC) rfl B.isinstance boot_isinstance (pa_c (pv 0) (pa_c (pe_glob (v := .ref aNoSamples) rfl mNoSamples rfl) pa_nil))) (@qa_c _ _ _ _ _ (pe_callB (call_isXK (K := K) rfl XB XC) rfl B.isinstance boot_isinstance (pa_c (pv 0) (pa_c (pe_glob (v := .ref aNoValue) rfl mNoValue rfl) pa_nil))) qa_nil rfl) rfl) rfl)))
      (pss_cons (ps_set (i := 2) nd rfl (by first | exact Or.inl rfl | exact Or.inr rfl) (pe_op op_cat (pv 2) (@pe_lstQ _ _ _ _ (@qa_c _ _ _ _ _ (pe_callB (call_isXK (K := K) rfl XB XC) rfl B.isinstance boot_isinstance (pa_c (pv 0) (pa_c (pe_glob (v := .ref aNoText) rfl mNoText rfl) pa_nil))) (@qa_c _ _ _ _ _ (pe_callB (call_isXK (K := K) rfl XB XC) rfl B.isinstance boot_isinstance (pa_c (pv 0) (pa_c (pe_glob (v := .ref aNoName) rfl mNoName rfl) pa_nil))) (@qa_c _ _ _ _ _ (pe_callB (call_isXK (K := K) rfl XB XC) rfl B.isinstance boot_isinstance (pa_c (pv 0) (pa_c (pe_glob (v := .ref aNoDeed) rfl mNoDeed rfl) pa_nil))) qa_nil rfl) rfl) rfl))))
      (pss_cons (ps_set (i := 2) nd rfl (by first | exact Or.inl rfl | exact Or.inr rfl) (pe_op op_cat (pv 2) (@pe_lstQ _ _ _ _ (@qa_c _ _ _ _ _ (pe_callB (call_isXK (K := K) rfl XB XC) rfl B.isinstance boot_isinstance (pa_c (pv 0) (pa_c (pe_glob (v := .ref aFull) rfl mFull rfl) pa_nil))) (@qa_c _ _ _ _ _ (pe_callB (call_isXK (K := K) rfl XB XC) rfl B.isinstance boot_isinstance (pa_c (pv 0) (pa_c (pe_glob (v := .ref aNoRow) rfl mNoRow rfl) pa_nil))) (@qa_c _ _ _ _ _ (pe_callB (call_isXK (K := K) rfl XB XC) rfl B.isinstance boot_isinstance (pa_c (pv 0) (pa_c (pe_glob (v := .ref aNotLet) rfl mNotLet rfl) pa_nil))) qa_nil rfl) rfl) rfl))))
      (pss_cons (ps_if (PW.pt (pw_or (pt_not (pt_val (pe_callB (call_isXK (K := K) rfl XB XC) rfl B.isinstance boot_isinstance (pa_c (pv 0) (pa_c (pe_glob (v := .ref aFormError) rfl mFormError rfl) pa_nil))))) (pw_or1 (pt_not (pt_val (pe_callB (call_isXTK (K := K) rfl XB XC) rfl B.isinstance boot_isinstance (pa_c (pv 0) (pa_c (pe_bltn (v := .ty "ValueError") rfl mValueError boot_ValueError rfl) pa_nil))))))))
        (pss_one (ps_ret pe_bl))
        pss_nil)
      (pss_one (ps_ret (pe_cmpR (op_eqL hu) (pv 2) (pe_compH (eh := eh) (sc := defScope s_law_alone) (XN := ["_law_error", "_law_own", "_law_marks"]) (N := ["_law_k", "_law_own"]) (own := 1) (fr := [1]) hr.hd ⟨rfl, by decide +kernel, by decide +kernel, by decide +kernel, rfl, by decide +kernel, by decide, by decide +kernel⟩ (pi_range1H (eh := eh) (D := D) rfl B.range (pa_c pe_int pa_nil)) (fun _ _ _ _ _ => (pg_name (i := 0) (show (["_law_k", "_law_own"] : List Str).Nodup by decide +kernel) rfl (by first | exact Or.inl rfl | exact Or.inr rfl))) (fun _ _ _ _ _ => pf_nil) (fun _ _ _ _ _ => (pe_cmpR op_eq (pv 0) (pv 1) (nomark _)))) (nomark _)))))))), ?_⟩
    refine ⟨_, rfl, eh, aNoPath, _, rfl, he, k0, _, rfl, eh, aNoSamples, _, rfl, he, k1, _, rfl, eh, aNoValue, _, rfl, he, k2, by show 3 ≤ sizeLine; decide, fun l1 n1 => ?_⟩
    generalize hb0 : decide (0 = o) = b0 at k0 ⊢
    generalize hb1 : decide (1 = o) = b1 at k1 ⊢
    generalize hb2 : decide (2 = o) = b2 at k2 ⊢
    have s1 := same_new (o := .lst [.bl b0, .bl b1, .bl b2]) n1
    have h1 := at_newA (o := .lst [.bl b0, .bl b1, .bl b2]) n1
    generalize upd H l1 (.lst [.bl b0, .bl b1, .bl b2]) = H1 at s1 h1
    have he1 := s1 _ _ he
    refine ⟨_, rfl, _, rfl, eh, aNoText, _, rfl, he1, k3, _, rfl, eh, aNoName, _, rfl, he1, k4, _, rfl, eh, aNoDeed, _, rfl, he1, k5, by show 3 ≤ sizeLine; decide, fun l2 n2 => ?_⟩
    generalize hb3 : decide (3 = o) = b3 at k3 ⊢
    generalize hb4 : decide (4 = o) = b4 at k4 ⊢
    generalize hb5 : decide (5 = o) = b5 at k5 ⊢
    have s2 := s1.alloc (o := .lst [.bl b3, .bl b4, .bl b5]) n2
    have h2 := at_newA (o := .lst [.bl b3, .bl b4, .bl b5]) n2
    have h12 := same_new (o := .lst [.bl b3, .bl b4, .bl b5]) n2 _ _ h1
    generalize upd H1 l2 (.lst [.bl b3, .bl b4, .bl b5]) = H2 at s2 h2 h12
    refine ⟨l1, l2, _, _, rfl, rfl, h12, h2, by show 6 ≤ sizeLine; decide, fun l3 n3 => ?_⟩
    have s3 := s2.alloc (o := .lst [.bl b0, .bl b1, .bl b2, .bl b3, .bl b4, .bl b5]) n3
    have h3 := at_newA (o := .lst [.bl b0, .bl b1, .bl b2, .bl b3, .bl b4, .bl b5]) n3
    show _
    dsimp only [List.cons_append, List.nil_append]
    generalize upd H2 l3 (.lst [.bl b0, .bl b1, .bl b2, .bl b3, .bl b4, .bl b5]) = H3 at s3 h3 ⊢
    have he3 := s3 _ _ he
    refine ⟨_, rfl, _, rfl, eh, aFull, _, rfl, he3, k6, _, rfl, eh, aNoRow, _, rfl, he3, k7, _, rfl, eh, aNotLet, _, rfl, he3, k8, by show 3 ≤ sizeLine; decide, fun l4 n4 => ?_⟩
    generalize hb6 : decide (6 = o) = b6 at k6 ⊢
    generalize hb7 : decide (7 = o) = b7 at k7 ⊢
    generalize hb8 : decide (8 = o) = b8 at k8 ⊢
    have s4 := s3.alloc (o := .lst [.bl b6, .bl b7, .bl b8]) n4
    have h4 := at_newA (o := .lst [.bl b6, .bl b7, .bl b8]) n4
    have h34 := same_new (o := .lst [.bl b6, .bl b7, .bl b8]) n4 _ _ h3
    generalize upd H3 l4 (.lst [.bl b6, .bl b7, .bl b8]) = H4 at s4 h4 h34 ⊢
    refine ⟨l3, l4, _, _, rfl, rfl, h34, h4, by show 9 ≤ sizeLine; decide, fun l5 n5 => ?_⟩
    dsimp only [List.cons_append, List.nil_append]
    have s5 := s4.alloc (o := .lst [.bl b0, .bl b1, .bl b2, .bl b3, .bl b4, .bl b5, .bl b6, .bl b7, .bl b8]) n5
    have h5 := at_newA (o := .lst [.bl b0, .bl b1, .bl b2, .bl b3, .bl b4, .bl b5, .bl b6, .bl b7, .bl b8]) n5
    generalize upd H4 l5 (.lst [.bl b0, .bl b1, .bl b2, .bl b3, .bl b4, .bl b5, .bl b6, .bl b7, .bl b8]) = H5 at s5 h5 ⊢
    have he5 := s5 _ _ he
    refine ⟨_, rfl, eh, aFormError, true, rfl, he5, kF, _, rfl, ?_⟩
    refine iteF ⟨_, rfl, eh, "ValueError", true, rfl, he5, kV, _, rfl, ?_⟩
    refine iteF ?_
    refine ⟨_, rfl, 9, rfl, by decide, by decide, fun a na => ?_⟩
    refine comp_rangeH (n := 9) (fun i ys H' => H' = upd H5 a (.lst ys) ∧ ys = (List.range i).map fun (k : Nat) => V.bl (decide (k = o))) ⟨rfl, rfl⟩ ?_ ?_ ?_
    · rintro ys H' _ ⟨rfl, _⟩
      exact same_new na _ _ he5
    · rintro i ys H' hi ha ⟨rfl, rfl⟩
      refine ⟨⟨[_], rfl, rfl⟩, noIfT ?_⟩
      refine ⟨_, rfl, _, rfl, rfl, upd_same, ?_, upd_upd, ?_⟩
      · rw [List.length_map, List.length_range]
        exact small1000 (by omega)
      · rw [List.range_succ, List.map_append]
        have e : decide (V.int (0 + (i : Int)) = V.int (o : Int)) = decide (i = o) := by
          by_cases z : i = o
          · subst z
            rw [Int.zero_add]
            simp
          · rw [decide_eq_false z, decide_eq_false fun y => z (by have := V.int.inj y; omega)]
        rw [e]
        rfl
    · rintro ys H' ha ⟨rfl, rfl⟩
      have e : (List.range 9).map (fun (k : Nat) => V.bl (decide (k = o))) = [.bl b0, .bl b1, .bl b2, .bl b3, .bl b4, .bl b5, .bl b6, .bl b7, .bl b8] := by
        rw [← hb0, ← hb1, ← hb2, ← hb3, ← hb4, ← hb5, ← hb6, ← hb7, ← hb8]
        rfl
      rw [e] at ha ⊢
      refine ⟨l5, a, _, _, rfl, rfl, SqL.of (same_new na _ _ h5), SqL.of ha, rfl, rfl, ?_⟩
      have ee : ∀ b : Bool, eqV (.bl b) (.bl b) = true := fun b => by cases b <;> rfl
      have er : eqVs [.bl b0, .bl b1, .bl b2, .bl b3, .bl b4, .bl b5, .bl b6, .bl b7, .bl b8] [.bl b0, .bl b1, .bl b2, .bl b3, .bl b4, .bl b5, .bl b6, .bl b7, .bl b8] = true := by simp only [eqVs, ee, Bool.and_self]
      rw [if_neg (by decide), er]
      exact q _ (s5.alloc na)
end
/-! ### the run of numbers, of none refused -/
open RunM GcdM
theorem _root_.L2.GoodE.good {P : Program} {w : World} {K : PySem.W.Frag} {mg : Str → Option Value} {base : Heap} {k : Nat} {x : Str} {ps : List Str} {sp : Sp} (G : GoodE P w K mg base k x ps sp) : Good P w K mg base k x ps (fun vs H Q _ => sp vs H Q E0) := by
  obtain ⟨f, fd, F, b, m, kp⟩ := G
  refine ⟨f, fd, ⟨fun vs H Q E q => F.len vs H Q E0 q, fun A outer s H args us vs Q E hr e0 hb r q => ?_⟩, b, m, kp⟩
  refine codeAny_mono (F.run A outer s H args us vs Q E0 hr e0 hb r q) fun rs s' c => ?_
  cases rs with
  | ok fl => cases fl <;> exact c
  | error e =>
    obtain ⟨_, _, _, _, _, _, _, _, _, _, _, _, _, _, z⟩ := c
    exact z
section
variable {P : Program} {w : World} {K : PySem.W.Frag} {mg : Str → Option Value} {base : Heap} {D aNoSamples aFormError aNoPath aNoValue aNoText aNoName aNoDeed aFull aNoRow aNotLet : Addr} {bmV : List Value} {newV initV : String}
def spRunOfE (K : PySem.W.Frag) (D : Addr) : Sp := fun vs H Q E => ∃ (l : Addr) (ns : List Int), vs = [.ref l] ∧ SqL K H l (ns.map V.int) ∧ (ns = [] → E (.ref D) none H) ∧ (0 < ns.length →
  ∀ (m M : Int) (t : Addr), m ∈ ns → (∀ x ∈ ns, m ≤ x) → M ∈ ns → (∀ x ∈ ns, x ≤ M) → H t = none → Q (.ref t) (upd H t (.tup [.int m, .int M, .int (stepOf m ns)])))
theorem sc_runof : FnScope ["numbers", "lo", "step", "number"] ["numbers"] (defScope srun_of) := ⟨rfl, rfl, rfl, by decide +kernel, rfl, by decide +kernel, by decide +kernel⟩
theorem g_runofE (h : Has K mg "run_of" srun_of) (B : Own mg) (ONoSamples : OwnCls "NoSamples" aNoSamples bmV newV mg base) (FV : ExcBaseFacts "ValueError" newV initV bmV) (Gdivisor_of : Good P w K mg base 1 "divisor_of" ["one", "other"] spDiv) : GoodE P w K mg base 2 "run_of" ["numbers"] (spRunOfE K aNoSamples) := by
  refine h.goodE sc_runof (fun _ _ _ _ _ _ us hl => match us, hl with | [_], _ => rfl) (fun vs H Q E q => ?_) (fun f cdv A outer s H vs Q E hr q => ?_)
  · obtain ⟨l, ns, rfl, _⟩ := q
    rfl
  · obtain ⟨l, ns, rfl, hl, q1, q2⟩ := q
    have nd := sc_runof.nd
    refine ⟨_, (pss_cons (ps_if (pt_cmpR op_eq (pe_callB call_len_seq rfl B.len PySem.boot_len (pa_c (pv 0) pa_nil)) pe_int (nomark _))
        (pss_one (ps_raise ONoSamples FV raises_cx rfl rfl (pa_c pe_str pa_nil)))
        pss_nil)
      (PSs.nox (pss_cons (ps_set (i := 1) nd rfl (by first | exact Or.inl rfl | exact Or.inr rfl) (pe_callB (call_min1 rfl) rfl B.min boot_min (pa_c (pv 0) pa_nil)))
      (pss_cons (ps_set (i := 2) nd rfl (by first | exact Or.inl rfl | exact Or.inr rfl) pe_int)
      (pss_cons (ps_for PassesOwn.never rfl (pi_list (pv 0)) (pg_name (i := 3) nd rfl (by first | exact Or.inl rfl | exact Or.inr rfl))
        (pss_one (ps_set (i := 2) nd rfl (by first | exact Or.inl rfl | exact Or.inr rfl) (pe_fn Gdivisor_of (hr.mono (by first | decide | omega)) rfl (pa_c (pe_op op_sub (pv 3) (pv 1)) (pa_c (pv 2) pa_nil))))))
      (pss_one (ps_ret (@pe_tupQ _ _ _ _ _ (@qa_c _ _ _ _ _ (pv 1) (@qa_c _ _ _ _ _ (pe_callB (call_max1 rfl) rfl B.max boot_max (pa_c (pv 0) pa_nil)) (@qa_c _ _ _ _ _ (pv 2) qa_nil rfl) rfl) rfl))))))))), ?_⟩
    refine ⟨_, rfl, l, _, rfl, .inl hl, rfl, _, rfl, ?_⟩
    refine ite2 (fun h1 => ?_) (fun h1 => ?_)
    · have h1 := of_decide_eq_true h1
      injection h1 with h1
      rw [List.length_map] at h1
      exact ⟨by show 1 ≤ sizeLine; decide, q1 (List.eq_nil_of_length_eq_zero (by omega))⟩
    have hn : 0 < ns.length := by
      rcases Nat.eq_zero_or_pos ns.length with z | z
      · exact absurd (decide_eq_true (show V.int (((ns.map V.int).length : Nat) : Int) = V.int 0 by rw [List.length_map, z]; rfl)) h1
      · exact z
    have q := q2 hn
    refine ⟨_, rfl, l, ns, rfl, hl, hn, fun m hm hm' => ?_⟩
    refine ⟨_, rfl, l, rfl, ⟨_, hl⟩, for_list (K := K) (a := l) (xs := ns.map V.int) (fun i σ H' => H' = H ∧ ∃ v, σ = [some (.ref l), some (.int m), some (.int (stepOf m (ns.take i))), v])
      ⟨rfl, none, rfl⟩ (fun i σ H' _ ⟨e, _⟩ => by rw [e]; exact hl) ?_ ?_⟩
    · rintro i x σ H' hx ⟨rfl, v, rfl⟩
      rw [List.getElem?_map] at hx
      cases hi : ns[i]? with
      | none => rw [hi] at hx; cases hx
      | some n =>
        rw [hi] at hx
        have hx : V.int n = x := Option.some.inj hx
        subst hx
        have hle := hm' n (List.mem_of_getElem? hi)
        refine ⟨_, rfl, _, rfl, _, _, rfl, rfl, _, rfl, _, _, rfl, by omega, step_nonneg (Int.le_refl 0), rfl, some (V.int n), ?_⟩
        show _ = [some (V.ref l), some (V.int m), some (V.int (stepOf m (ns.take (i + 1)))), some (V.int n)]
        rw [show stepOf m (ns.take (i + 1)) = g (n - m) (stepOf m (ns.take i)) by
          unfold stepOf
          rw [List.take_add_one, hi, List.foldl_append]
          rfl]
        rfl
    · rintro σ H' ⟨rfl, v, rfl⟩
      rw [show ns.take (ns.map V.int).length = ns by rw [List.length_map, List.take_length]]
      exact ⟨_, rfl, _, rfl, l, ns, rfl, hl, hn, fun M hM hM' => ⟨_, rfl, by show 3 ≤ sizeLine; decide, fun t nt => q m M t hm hm' hM hM' nt⟩⟩
def spRefused : Sp := fun vs H Q _ => vs = [] ∧ ∀ H', Q (.bl true) H'
theorem sc_refused : FnScope ["_law_refused", "e"] [] (defScope s_law_empty_refused) := ⟨rfl, rfl, rfl, by decide +kernel, rfl, by decide +kernel, by decide +kernel⟩
theorem g_refused (h : Has K mg "_law_empty_refused" s_law_empty_refused) (B : Own mg) (mFormError : mg "FormError" = some (.ref aFormError)) (CT : Caught K aNoSamples aFormError) (G_law_alone : ∀ eh, GoodH eh P w K mg base 1 "_law_alone" ["_law_error", "_law_own"] (spAlone eh aNoSamples 1))
    (Grun_of : GoodE P w K mg base 2 "run_of" ["numbers"] (spRunOfE K aNoSamples)) : Good P w K mg base 3 "_law_empty_refused" [] spRefused := by
  refine h.good sc_refused (fun _ _ _ _ _ _ us hl => match us, hl with | [], _ => rfl) (fun vs H Q E q => ?_) (fun f cdv A outer s H vs Q E hr q => ?_)
  · obtain ⟨rfl, _⟩ := q
    rfl
  · obtain ⟨rfl, q⟩ := q
    have nd := sc_refused.nd
    refine ⟨_, (pss_cons (ps_set (i := 0) nd rfl (by first | exact Or.inl rfl | exact Or.inr rfl) pe_bl)
      (pss_cons (ps_tryE (i := 1) rfl rfl rfl rfl mFormError nd rfl rfl (by first | exact Or.inl rfl | exact Or.inr rfl) (by first | exact Or.inl rfl | exact Or.inr rfl) (fun E pn xe hx => (pss_one (ps_expr (pe_fnE Grun_of (hr.mono (by first | decide | omega)) rfl hx (pa_c (@pe_lstQ _ _ _ _ qa_nil) pa_nil)))))
        (fun pn e => (pss_one (ps_set (i := 0) nd rfl (by first | exact Or.inl rfl | exact Or.inr rfl) (pe_fnS (G_law_alone e) (hr.mono (by first | decide | omega)) rfl (pa_c (pv 1) (pa_c pe_int pa_nil)))))))
      (pss_one (ps_ret (pv 0))))), ?_⟩
    refine ⟨Nat.zero_le _, fun l nl => ⟨l, [], rfl, SqL.of (at_newA nl), fun _ => ⟨aNoSamples, rfl, CT, fun e ne => ?_⟩, fun z => absurd z (Nat.lt_irrefl _)⟩⟩
    refine ⟨_, rfl, rfl, upd_same, fun H2 s2 => ?_⟩
    exact ⟨_, rfl, q _⟩
end
/-! ### what the laws on runs share -/
open RunM GcdM
theorem _root_.L2.RunD.ok {lo hi st : Int} (r : RunD lo hi st) : RunOk lo hi st ∧ st ≤ 10 ^ 20 := by
  obtain ⟨s, n, s1, s2, n1, n2, e1, e2⟩ := r.ex
  subst e1 e2
  exact ⟨drawn s1 n1, Int.le_trans (drawn_le s1 n1).1 s2⟩
theorem upd_upd {H : Hp} {a : Addr} {o o' : HO} : upd (upd H a o) a o' = upd H a o' := by
  funext b
  by_cases h : b = a
  · subst h; rw [upd_same, upd_same]
  · rw [upd_ne h, upd_ne h, upd_ne h]
def spLaw (K : PySem.W.Frag) : Sp := fun vs H Q _ => ∃ (a : Addr) (ns : List Int), vs = [.ref a] ∧ SqL K H a (ns.map V.int) ∧ ns.length ≤ 63 ∧ ∀ H', Q (.bl true) H'
theorem _root_.L2.On.lst {p c : Addr} {H H1 : Hp} (x : On p c H H1) {l : Addr} {xs : List V} (h : H l = some (.lst xs)) (hp : l ≠ p) (hc : l ≠ c) : H1 l = some (.lst xs) := x.e l _ h hp hc
theorem _root_.L2.Same.on {p c : Addr} {H H1 H2 : Hp} (x : On p c H H1) (s : Same H1 H2) : On p c H H2 := by
  obtain ⟨⟨ne, ⟨S, k, e⟩, ns, e', l⟩, k2⟩ := x
  exact ⟨⟨ne, ⟨S, k, s _ _ e⟩, ns, s _ _ e', l⟩, fun b o h hp hc => s _ _ (k2 b o h hp hc)⟩
/-- a run as the law's same sees it -/
def trR (a : R3) : Tr := .seq true [.leaf (.int a.1), .leaf (.int a.2.1), .leaf (.int a.2.2)]
theorem at_run {K : PySem.W.Frag} {H : Hp} {t : Addr} {a : R3} (h : RAt H t a) : AtD K H 2 (.ref t) (trR a) := by
  refine .inr ⟨true, t, _, _, rfl, SqT.of h, rfl, rfl, by show 3 ≤ sizeLine; decide, fun i x T h1 h2 => ?_⟩
  match i, h1, h2 with
  | 0, h1, h2 => cases h1; cases h2; exact .inl ⟨rfl, rfl⟩
  | 1, h1, h2 => cases h1; cases h2; exact .inl ⟨rfl, rfl⟩
  | 2, h1, h2 => cases h1; cases h2; exact .inl ⟨rfl, rfl⟩
theorem menu3 {a b c r : Int} (h0 : 0 ≤ r) (h3 : r < 3) : ∃ m, atI [V.int a, V.int b, V.int c] r = some (.int m) ∧ (m = a ∨ m = b ∨ m = c) := by
  have : r = 0 ∨ r = 1 ∨ r = 2 := by omega
  rcases this with e | e | e <;> subst e
  · exact ⟨_, rfl, .inl rfl⟩
  · exact ⟨_, rfl, .inr (.inl rfl)⟩
  · exact ⟨_, rfl, .inr (.inr rfl)⟩
theorem at_new {H : Hp} {a : Addr} {o : HO} (_ : H a = none) : upd H a o a = some o := upd_same
/-! ### numbers drawn -/
open RunM GcdM MetM CutM
theorem _root_.L2.On.putN {p c a : Addr} {H H1 : Hp} {o : HO} (x : On p c H H1) (d : DeckAt H p c) (h : H a = none) : On p c H (upd H1 a o) := by
  have hp := d.nep h
  have hc := d.nec h
  obtain ⟨⟨ne, ⟨S, k, e⟩, ns, e', l⟩, k2⟩ := x
  exact ⟨⟨ne, ⟨S, k, by rw [upd_ne hp.symm]; exact e⟩, ns, by rw [upd_ne hc.symm]; exact e', l⟩, fun b u q hp hc => by rw [upd_ne (ne_of_none q h)]; exact k2 b u q hp hc⟩
section
variable {P : Program} {w : World} {K : PySem.W.Frag} {mg : Str → Option Value} {base : Heap}
def Num (n : Int) : Prop := -(10 ^ 60) ≤ n ∧ n ≤ 10 ^ 60
def spNums : Sp := fun vs H Q _ => ∃ (p c : Addr), vs = [.ref p] ∧ DeckAt H p c ∧ ∀ (l : Addr) (ns : List Int) (H' : Hp), l ≠ p → l ≠ c → H' l = some (.lst (ns.map V.int)) → 0 < ns.length → ns.length ≤ 60 → (∀ n ∈ ns, Num n) → On p c H H' → Q (.ref l) H'
theorem sc_nums : FnScope ["_law_deck_here", "_law_run_here", "_law_many", "_law_way", "_law_found", "_law_k"] ["_law_deck_here"] (defScope s_law_numbers) := ⟨rfl, rfl, rfl, by decide +kernel, rfl, by decide +kernel, by decide +kernel⟩
theorem g_nums (h : Has K mg "_law_numbers" s_law_numbers) (B : Own mg) (G_law_take : Good P w K mg base 2 "_law_take" ["_law_deck_here", "_law_most"] spTake) (G_law_far : Good P w K mg base 3 "_law_far" ["_law_deck_here"] spFar) (G_law_run : Good P w K mg base 4 "_law_run" ["_law_deck_here"] spRun) :
    Good P w K mg base 5 "_law_numbers" ["_law_deck_here"] spNums := by
  refine h.good sc_nums (fun _ _ _ _ _ _ us hl => match us, hl with | [_], _ => rfl) (fun vs H Q E q => ?_) (fun f cdv A outer s H vs Q E hr q => ?_)
  · obtain ⟨p, c, rfl, _⟩ := q
    rfl
  · obtain ⟨p, c, rfl, d, q⟩ := q
    have nd := sc_nums.nd
    refine ⟨_, (pss_cons (ps_set (i := 1) nd rfl (by first | exact Or.inl rfl | exact Or.inr rfl) (pe_fn G_law_run (hr.mono (by first | decide | omega)) rfl (pa_c (pv 0) pa_nil)))
      (pss_cons (ps_set (i := 2) nd rfl (by first | exact Or.inl rfl | exact Or.inr rfl) (pe_op op_add pe_int (pe_fn G_law_take (hr.mono (by first | decide | omega)) rfl (pa_c (pv 0) (pa_c (pe_ix ix_list (@pe_lstQ _ _ _ _ (@qa_lits _ _ [.int 3, .int 6, .int 60] rfl)) (pe_fn G_law_take (hr.mono (by first | decide | omega)) rfl (pa_c (pv 0) (pa_c pe_int pa_nil))) (fun _ _ => rfl)) pa_nil)))))
      (pss_cons (ps_set (i := 3) nd rfl (by first | exact Or.inl rfl | exact Or.inr rfl) (pe_fn G_law_take (hr.mono (by first | decide | omega)) rfl (pa_c (pv 0) (pa_c pe_int pa_nil))))
      (pss_cons (ps_set (i := 4) nd rfl (by first | exact Or.inl rfl | exact Or.inr rfl) (@pe_lstQ _ _ _ _ qa_nil))
      (pss_cons (ps_for PassesOwn.never rfl (pi_range1 rfl B.range (pa_c (pv 2) pa_nil)) (pg_name (i := 5) nd rfl (by first | exact Or.inl rfl | exact Or.inr rfl))
        (pss_one (ps_if (pt_cmpR op_eq (pv 3) pe_int (nomark _))
          (pss_one (ps_expr (pe_bm PySem.F.plainAttrs_list PySem.F.slot_list_append PySem.F.type_list_append mt_append (pv 4) (pa_c (pe_fn G_law_far (hr.mono (by first | decide | omega)) rfl (pa_c (pv 0) pa_nil)) pa_nil))))
          (pss_one (ps_if (pt_cmpR op_eq (pv 3) pe_int (nomark _))
            (pss_one (ps_expr (pe_bm PySem.F.plainAttrs_list PySem.F.slot_list_append PySem.F.type_list_append mt_append (pv 4) (pa_c (pe_op op_sub (pe_fn G_law_take (hr.mono (by first | decide | omega)) rfl (pa_c (pv 0) (pa_c pe_int pa_nil))) pe_int) pa_nil))))
            (pss_one (ps_expr (pe_bm PySem.F.plainAttrs_list PySem.F.slot_list_append PySem.F.type_list_append mt_append (pv 4) (pa_c (pe_op op_add (pe_ix ix_tup (pv 1) pe_int (fun _ _ => rfl)) (pe_op op_mul (pe_ix ix_tup (pv 1) pe_int (fun _ _ => rfl)) (pe_fn G_law_take (hr.mono (by first | decide | omega)) rfl (pa_c (pv 0) (pa_c pe_int pa_nil))))) pa_nil)))))))))
      (pss_one (ps_ret (pv 4)))))))), ?_⟩
    refine ⟨_, rfl, p, c, rfl, d, fun t lo hi st H1 _ ht r1 o1 => ?_⟩
    refine ⟨_, rfl, by show 3 ≤ sizeLine; decide, fun lm nm => ?_⟩
    have om := o1.d.on.alloc (o := .lst [.int 3, .int 6, .int 60]) nm
    refine ⟨_, rfl, p, c, _, rfl, om.d, by decide, big (by decide) (by decide), fun r5 H5 a5 b5 o5 => ?_⟩
    obtain ⟨mm, hm, hmm⟩ := menu3 (a := 3) (b := 6) (c := 60) a5 b5
    refine ⟨lm, _, _, _, rfl, rfl, SqL.of (o5.e lm _ upd_same (o1.d.nep nm) (o1.d.nec nm)), hm, ?_⟩
    refine ⟨p, c, mm, rfl, o5.d, by omega, big (by omega) (by omega), fun r H6 r0 r24 o6 => ?_⟩
    refine ⟨_, _, rfl, rfl, ?_⟩
    refine ⟨_, rfl, p, c, _, rfl, o6.d, by decide, big (by decide) (by decide), fun way H2 _ _ o2x => ?_⟩
    have o2 := ((om.trans o5).trans o6).trans o2x
    have ht2 : RAt H2 t (lo, hi, st) := o2.tup o1.d ht
    have lo1 := r1.lo1
    have lo2 := r1.lo2
    have st1 := r1.ok.1.nn
    have st2 := r1.ok.2
    refine ⟨Nat.zero_le _, fun l nl => ?_⟩
    have lp := o2.d.nep nl
    have lc := o2.d.nec nl
    have ol := o2.d.on.alloc (o := .lst []) nl
    have hl3 : upd H2 l (.lst []) l = some (.lst []) := at_new nl
    refine ⟨_, rfl, 1 + r, rfl, by omega, by omega, ?_⟩
    refine for_range (n := (1 + r).toNat) (fun i σ H5 => On p c H2 H5 ∧ ∃ (ns : List Int) (v : Option V), H5 l = some (.lst (ns.map V.int)) ∧ ns.length = i ∧ (∀ n ∈ ns, Num n) ∧ σ = [some (.ref p), some (.ref t), some (.int (1 + r)), some (.int way), some (.ref l), v])
      ⟨ol, [], none, hl3, rfl, (fun n hn => nomatch hn), rfl⟩ ?_ ?_
    · rintro i σ H5 hik ⟨o5, ns, v, hl5, hlen, hns, rfl⟩
      have fin : ∀ (n : Int) (H6 : Hp), Num n → On p c H5 H6 → H6 l = some (.lst (ns.map V.int)) → On p c H2 (upd H6 l (.lst (ns.map V.int ++ [V.int n]))) ∧ ∃ (ns' : List Int) (v : Option V), upd H6 l (.lst (ns.map V.int ++ [V.int n])) l = some (.lst (ns'.map V.int)) ∧ ns'.length = i + 1 ∧ (∀ n ∈ ns', Num n) ∧ [some (V.ref p), some (.ref t), some (.int (1 + r)), some (.int way), some (.ref l), some (V.int (0 + (i : Int)))] = [some (V.ref p), some (.ref t), some (.int (1 + r)), some (.int way), some (.ref l), v] := fun n H6 hn o6 h6 => by
        refine ⟨(o5.trans o6).putN o2.d nl, ns ++ [n], _, ?_, ?_, ?_, rfl⟩
        · rw [upd_same, List.map_append]; rfl
        · rw [List.length_append, hlen]; rfl
        · intro m hm
          rcases List.mem_append.mp hm with z | z
          · exact hns m z
          · have : m = n := by simpa using z
            rw [this]; exact hn
      have hsm : (ns.map V.int).length < sizeLine := by rw [List.length_map, hlen]; exact small1000 (by omega)
      refine ⟨_, rfl, rfl, _, rfl, ?_⟩
      refine ite2 (fun _ => ?_) (fun _ => ?_)
      · refine ⟨_, rfl, .inl ⟨rfl, _, SqL.of hl5⟩, _, rfl, p, c, rfl, o5.d, fun r6 H6 a6 b6 o6 => ?_⟩
        have h6 := o6.lst hl5 lp lc
        exact ⟨l, _, _, rfl, rfl, h6, hsm, fin r6 H6 ⟨by omega, by omega⟩ o6 h6⟩
      · refine ⟨_, rfl, rfl, _, rfl, ?_⟩
        refine ite2 (fun _ => ?_) (fun _ => ?_)
        · refine ⟨_, rfl, .inl ⟨rfl, _, SqL.of hl5⟩, _, rfl, p, c, _, rfl, o5.d, by decide, big (by decide) (by decide), fun r6 H6 a6 b6 o6 => ?_⟩
          have h6 := o6.lst hl5 lp lc
          exact ⟨_, _, rfl, rfl, l, _, _, rfl, rfl, h6, hsm, fin (r6 - 50) H6 ⟨by omega, by omega⟩ o6 h6⟩
        · have ht5 : RAt H5 t (lo, hi, st) := o5.tup o2.d ht2
          refine ⟨_, rfl, .inl ⟨rfl, _, SqL.of hl5⟩, _, rfl, t, _, _, _, rfl, rfl, SqT.of ht5, rfl, _, rfl, t, _, _, _, rfl, rfl, SqT.of ht5, rfl, _, rfl, p, c, _, rfl, o5.d, by decide, big (by decide) (by decide), fun r6 H6 a6 b6 o6 => ?_⟩
          have h6 := o6.lst hl5 lp lc
          have m0 : 0 ≤ st * r6 := Int.mul_nonneg st1 a6
          have m1 : st * r6 ≤ 10 ^ 20 * r6 := Int.mul_le_mul_of_nonneg_right st2 a6
          exact ⟨_, _, rfl, rfl, .inr ⟨by omega, by omega⟩, _, _, rfl, rfl, l, _, _, rfl, rfl, h6, hsm, fin _ H6 ⟨by show _ ≤ lo + st * r6; omega, by show lo + st * r6 ≤ _; omega⟩ o6 h6⟩
    · rintro σ H5 ⟨o5, ns, v, hl5, hlen, hns, rfl⟩
      exact ⟨_, rfl, q l ns H5 lp lc hl5 (by omega) (by omega) hns ((o1.trans o2).trans o5)⟩
end
/-! ### the law -/
open RunM GcdM MetM CutM
theorem eqVs_ints : ∀ ns : List Int, eqVs (ns.map V.int) (ns.map V.int) = true
  | [] => rfl
  | n :: ns => by
    show (eqV (.int n) (.int n) && eqVs (ns.map V.int) (ns.map V.int)) = true
    rw [eqVs_ints ns, Bool.and_true]
    simp [eqV]
theorem bigX {j : Int} (h1 : -(10 ^ 200) ≤ j) (h2 : j ≤ 10 ^ 200) : BigOk j := by
  have e : (10 : Int) ^ 200 = ((10 ^ 200 : Nat) : Int) := by decide +kernel
  rw [e] at h1 h2
  have h3 : j.natAbs ≤ 10 ^ 200 := by omega
  exact Nat.lt_of_le_of_lt h3 (by decide +kernel)
theorem fold_dvd {lo d : Int} : ∀ {ns : List Int} {s : Int}, d ∣ ns.foldl (fun s n => g s (n - lo)) s ↔ d ∣ s ∧ ∀ n ∈ ns, d ∣ (n - lo)
  | [], s => by simp
  | n :: ns, s => by
    rw [List.foldl_cons, fold_dvd, g_dvd]
    constructor
    · rintro ⟨⟨h1, h2⟩, h3⟩
      refine ⟨h1, fun x hx => ?_⟩
      rcases List.mem_cons.mp hx with z | z
      · rw [z]; exact h2
      · exact h3 x z
    · rintro ⟨h1, h2⟩
      exact ⟨⟨h1, h2 n List.mem_cons_self⟩, fun x hx => h2 x (List.mem_cons_of_mem _ hx)⟩
theorem fold_nonneg {lo : Int} : ∀ {ns : List Int} {s : Int}, 0 ≤ s → 0 ≤ ns.foldl (fun s n => g s (n - lo)) s
  | [], _, h => h
  | n :: ns, s, _ => by
    rw [List.foldl_cons]
    exact fold_nonneg (g_nonneg _ _)
theorem fold_step {ns : List Int} {n0 m : Int} (h0 : n0 ∈ ns) (hm : m ∈ ns) : ns.foldl (fun s n => g s (n - n0)) 0 = stepOf m ns := by
  refine eq_of_dvd (fold_nonneg (Int.le_refl 0)) (step_nonneg (Int.le_refl 0)) fun d => ?_
  unfold stepOf
  rw [fold_dvd, step_dvd]
  constructor
  · rintro ⟨h1, h2⟩
    refine ⟨h1, fun n hn => ?_⟩
    have := Int.dvd_sub (h2 n hn) (h2 m hm)
    rw [show n - n0 - (m - n0) = n - m by omega] at this
    exact this
  · rintro ⟨h1, h2⟩
    refine ⟨h1, fun n hn => ?_⟩
    have := Int.dvd_sub (h2 n hn) (h2 n0 h0)
    rw [show n - m - (n0 - m) = n - n0 by omega] at this
    exact this
section
variable {P : Program} {w : World} {K : PySem.W.Frag} {mg : Str → Option Value} {base : Heap} {aNoSamples : Addr}
theorem sc_law : FnScope ["_law_script", "_law_deck_here", "_law_k", "_law_numbers_here", "_law_kept", "_law_step", "_law_number", "_law_due", "_law_handed", "_law_found", "_law_by", "_law_ends"] ["_law_script"] (defScope slaw) := ⟨rfl, rfl, rfl, by decide +kernel, rfl, by decide +kernel, by decide +kernel⟩
theorem ok_law {f : Addr} {fd : FuncData} (F : Fun K "law" "law" slaw f fd) (B : Own mg) (G_law_deck : Good P w K mg base 1 "_law_deck" ["_law_script"] (spDeck K)) (G_law_take : Good P w K mg base 2 "_law_take" ["_law_deck_here", "_law_most"] spTake) (G_law_numbers : Good P w K mg base 5 "_law_numbers" ["_law_deck_here"] spNums)
    (G_law_divisor : Good P w K mg base 1 "_law_divisor" ["_law_one", "_law_other"] spLDiv) (G_law_same : Good P w K mg base 3 "_law_same" ["_law_one", "_law_other"] (spSameT K 2)) (Grun_of : Good P w K mg base 2 "run_of" ["numbers"] (fun vs H Q _ => spRunOfE K aNoSamples vs H Q E0))
    (G_law_has : Good P w K mg base 1 "_law_has" ["_law_run_here", "_law_number"] spHas) (Grun_within : Good P w K mg base 3 "run_within" ["one", "other"] spWithin) (G_law_empty_refused : Good P w K mg base 3 "_law_empty_refused" [] spRefused) : FnOk P w K mg base CX0 7 f fd ["_law_script"] (spLaw K) := by
  refine F.ok sc_law (fun vs H Q E q => ?_) (fun cdv A outer s H vs Q E hr q => ?_)
  · obtain ⟨a, ns, rfl, _⟩ := q
    rfl
  · obtain ⟨aa, ns0, rfl, hS, hlen, q⟩ := q
    have nd := sc_law.nd
    have hu := Nat.lt_of_succ_lt (hu_of hr)
    refine ⟨_, (pss_cons (ps_set (i := 1) nd rfl (by first | exact Or.inl rfl | exact Or.inr rfl) (pe_fn G_law_deck (hr.mono (by first | decide | omega)) rfl (pa_c (pv 0) pa_nil)))
      (pss_cons (ps_for PassesOwn.never rfl (pi_range1 rfl B.range (pa_c pe_int pa_nil)) (pg_name (i := 2) nd rfl (by first | exact Or.inl rfl | exact Or.inr rfl))
        (pss_cons (ps_set (i := 3) nd rfl (by first | exact Or.inl rfl | exact Or.inr rfl) (pe_fn G_law_numbers (hr.mono (by first | decide | omega)) rfl (pa_c (pv 1) pa_nil)))
        (pss_cons (ps_set (i := 4) nd rfl (by first | exact Or.inl rfl | exact Or.inr rfl) (pe_callTy call_list_of rfl B.list_ boot_list (pa_c (pv 3) pa_nil)))
        (pss_cons (ps_set (i := 5) nd rfl (by first | exact Or.inl rfl | exact Or.inr rfl) pe_int)
        (pss_cons (ps_for PassesOwn.never rfl (pi_list (pv 3)) (pg_name (i := 6) nd rfl (by first | exact Or.inl rfl | exact Or.inr rfl))
          (pss_one (ps_set (i := 5) nd rfl (by first | exact Or.inl rfl | exact Or.inr rfl) (pe_fn G_law_divisor (hr.mono (by first | decide | omega)) rfl (pa_c (pv 5) (pa_c (pe_op op_sub (pv 6) (pe_ix ix_list (pv 3) pe_int (fun _ _ => rfl))) pa_nil))))))
        (pss_cons (ps_set (i := 7) nd rfl (by first | exact Or.inl rfl | exact Or.inr rfl) (@pe_tupQ _ _ _ _ _ (@qa_c _ _ _ _ _ (pe_callB (call_min1 rfl) rfl B.min boot_min (pa_c (pv 3) pa_nil)) (@qa_c _ _ _ _ _ (pe_callB (call_max1 rfl) rfl B.max boot_max (pa_c (pv 3) pa_nil)) (@qa_c _ _ _ _ _ (pv 5) qa_nil rfl) rfl) rfl)))
        (pss_cons (ps_for PassesOwn.never rfl (pi_list (@pe_lstQ _ _ _ _ (@qa_c _ _ _ _ _ (pv 3) (@qa_c _ _ _ _ _ (pe_rev (pv 3) (pe_un un_neg pe_int)) (@qa_c _ _ _ _ _ (pe_op op_cat (pv 3) (pv 3)) (@qa_c _ _ _ _ _ (pe_callB call_sortedI rfl B.sorted boot_sorted (pa_c (pv 3) pa_nil)) qa_nil rfl) rfl) rfl) rfl))) (pg_name (i := 8) nd rfl (by first | exact Or.inl rfl | exact Or.inr rfl))
          (pss_cons (ps_set (i := 9) nd rfl (by first | exact Or.inl rfl | exact Or.inr rfl) (pe_fn Grun_of (hr.mono (by first | decide | omega)) rfl (pa_c (pv 8) pa_nil)))
          (pss_one (ps_if (PW.pt (pw_or (pt_not (pt_val (pe_fn G_law_same (hr.mono (by first | decide | omega)) rfl (pa_c (pv 9) (pa_c (pv 7) pa_nil))))) (pw_or (pt_cmpR (op_neL hu) (pv 3) (pv 4) (nomark _)) (pw_or1 (pt_not (pt_val (pe_callB (call_allL rfl) rfl B.all boot_all (pa_c (pe_comp (sc := defScope slaw) (XN := ["_law_script", "_law_deck_here", "_law_k", "_law_numbers_here", "_law_kept", "_law_step", "_law_number", "_law_due", "_law_handed", "_law_found", "_law_by", "_law_ends"]) (N := ["_law_one", "_law_found"]) (own := 1) (fr := [9]) rfl ⟨rfl, by decide +kernel, by decide +kernel, by decide +kernel, rfl, by decide +kernel, by decide, by decide +kernel⟩ (pi_list (pv 4)) (fun _ _ _ _ _ => (pg_name (i := 0) (show (["_law_one", "_law_found"] : List Str).Nodup by decide +kernel) rfl (by first | exact Or.inl rfl | exact Or.inr rfl))) (fun _ _ _ _ _ => pf_nil) (fun _ _ _ _ _ => (pe_fn G_law_has (hr.mono (by first | decide | omega)) rfl (pa_c (pv 1) (pa_c (pv 0) pa_nil))))) pa_nil))))))))
            (pss_one (ps_ret pe_bl))
            pss_nil))))
        (pss_cons (ps_set (i := 10) nd rfl (by first | exact Or.inl rfl | exact Or.inr rfl) (pe_ix ix_list (@pe_lstQ _ _ _ _ (@qa_c _ _ _ _ _ pe_int (@qa_c _ _ _ _ _ pe_int (@qa_c _ _ _ _ _ (pv 5) (@qa_c _ _ _ _ _ (pe_callB (call_max2 rfl) rfl B.max boot_max (pa_c pe_int (pa_c (pe_op op_fdiv (pv 5) pe_int) pa_nil))) qa_nil rfl) rfl) rfl) rfl)) (pe_fn G_law_take (hr.mono (by first | decide | omega)) rfl (pa_c (pv 1) (pa_c pe_int pa_nil))) (fun _ _ => rfl)))
        (pss_cons (ps_set (i := 11) nd rfl (by first | exact Or.inl rfl | exact Or.inr rfl) (@pe_lstQ _ _ _ _ (@qa_c _ _ _ _ _ (pe_op op_sub (pe_ix ix_tup (pv 7) pe_int (fun _ _ => rfl)) (pe_op op_mulB (pv 10) (pe_fn G_law_take (hr.mono (by first | decide | omega)) rfl (pa_c (pv 1) (pa_c pe_int pa_nil))))) (@qa_c _ _ _ _ _ (pe_op op_add (pe_ix ix_tup (pv 7) pe_int (fun _ _ => rfl)) (pe_op op_mulB (pv 10) (pe_fn G_law_take (hr.mono (by first | decide | omega)) rfl (pa_c (pv 1) (pa_c pe_int pa_nil))))) qa_nil rfl) rfl)))
        (pss_one (ps_if (PW.pt (pw_and (pt_cmpR op_gt (pv 5) pe_int (nomark _)) (pw_and (pt_cmpR op_eq (pe_op op_mod (pv 5) (pv 10)) pe_int (nomark _)) (pw_and (pt_cmpR op_lt (pv 10) (pe_op op_pow pe_int pe_int) (nomark _)) (pw_and1 (pt_cmpR op_lt (pe_callB (call_max2 rfl) rfl B.max boot_max (pa_c (pe_op op_sub pe_int (pe_ix ix_list (pv 11) pe_int (fun _ _ => rfl))) (pa_c (pe_ix ix_list (pv 11) pe_int (fun _ _ => rfl)) pa_nil))) (pe_op op_pow pe_int pe_int) (nomark _)))))))
          (pss_one (ps_if (pt_cmpR op_isnotB (pe_fn Grun_within (hr.mono (by first | decide | omega)) rfl (pa_c (pv 7) (pa_c (@pe_tupQ _ _ _ _ _ (@qa_c _ _ _ _ _ (pe_ix ix_list (pv 11) pe_int (fun _ _ => rfl)) (@qa_c _ _ _ _ _ (pe_ix ix_list (pv 11) pe_int (fun _ _ => rfl)) (@qa_c _ _ _ _ _ (pv 10) qa_nil rfl) rfl) rfl)) pa_nil))) pe_bl (nomark _))
            (pss_one (ps_ret pe_bl))
            pss_nil))
          pss_nil)))))))))))
      (pss_one (ps_ret (pe_fn0 G_law_empty_refused (hr.mono (by first | decide | omega)) rfl))))), ?_⟩
    refine ⟨_, rfl, aa, ns0, rfl, hS, fun p c H1 np nc d1 s1 => ?_⟩
    refine ⟨4, rfl, by decide, by decide, for_range (n := 4) (fun i σ H2 => DeckAt H2 p c ∧ ∃ v2 v3 v4 v5 v6 v7 v8 v9 v10 v11 : Option V, σ = [some (.ref aa), some (.ref p), v2, v3, v4, v5, v6, v7, v8, v9, v10, v11])
      ⟨d1, none, none, none, none, none, none, none, none, none, none, rfl⟩ ?_ ?_⟩
    · rintro i σ H2 _ ⟨d2, v2, v3, v4, v5, v6, v7, v8, v9, v10, v11, rfl⟩
      refine ⟨_, rfl, p, c, rfl, d2, fun l ns H3 lp lc hl hn0 hn60 hnum o3 => ?_⟩
      refine ⟨_, rfl, l, _, rfl, .inl (SqL.of hl), fun l2 n2 => ?_⟩
      have s4 := same_new (o := .lst (ns.map V.int)) n2
      have l2p := o3.d.nep n2
      have l2c := o3.d.nec n2
      have h24 := at_new (o := .lst (ns.map V.int)) n2
      have l2l : l2 ≠ l := fun z => by rw [z, hl] at n2; cases n2
      generalize upd H3 l2 (.lst (ns.map V.int)) = H4 at s4 h24 ⊢
      have hl4 := s4 _ _ hl
      have d4 : DeckAt H4 p c := (Same.on o3 s4).d
      obtain ⟨n0, hn0'⟩ : ∃ n0, ns[0]? = some n0 := ⟨ns[0], List.getElem?_eq_getElem hn0⟩
      have hat : atI (ns.map V.int) 0 = some (.int n0) := atI_nat (j := 0) (by rw [List.getElem?_map, hn0']; rfl)
      refine ⟨_, rfl, l, rfl, ⟨_, SqL.of hl4⟩, for_list (K := K) (a := l) (xs := ns.map V.int) (fun j σ H' => H' = H4 ∧ ∃ v6, σ = [some (.ref aa), some (.ref p), some (.int (0 + (i : Int))), some (.ref l), some (.ref l2), some (.int ((ns.take j).foldl (fun s n => g s (n - n0)) 0)), v6, v7, v8, v9, v10, v11])
        ⟨rfl, _, rfl⟩ (fun j σ H' _ ⟨e, _⟩ => by rw [e]; exact SqL.of hl4) ?_ ?_⟩
      · rintro j x σ H' hx ⟨rfl, v6, rfl⟩
        rw [List.getElem?_map] at hx
        cases hz : ns[j]? with
        | none => rw [hz] at hx; cases hx
        | some n =>
          rw [hz] at hx
          have hx : V.int n = x := Option.some.inj hx
          subst hx
          refine ⟨_, rfl, _, rfl, _, rfl, l, _, _, _, rfl, rfl, SqL.of hl4, hat, _, _, rfl, rfl, _, _, rfl, rfl, some (V.int n), ?_⟩
          rw [List.take_add_one, hz, List.foldl_append]
          rfl
      · rintro σ H' ⟨rfl, v6, rfl⟩
        rw [show ns.take (ns.map V.int).length = ns by rw [List.length_map, List.take_length]]
        refine ⟨_, rfl, l, ns, rfl, SqL.of hl4, hn0, fun m hm hm' => ⟨_, rfl, l, ns, rfl, SqL.of hl4, hn0, fun M hM hM' => ?_⟩⟩
        rw [fold_step (List.mem_of_getElem? hn0') hm]
        refine ⟨_, rfl, by show 3 ≤ sizeLine; decide, fun td ntd => ?_⟩
        have ia : IsR (· ∈ ns) (m, M, stepOf m ns) := isR_of hm hm' hM hM'
        have oka := ia.ok
        generalize hstp : stepOf m ns = stp at ia oka ⊢
        have s5 := same_new (o := .tup [.int m, .int M, .int stp]) ntd
        have htd := at_new (o := .tup [.int m, .int M, .int stp]) ntd
        generalize upd H' td (.tup [.int m, .int M, .int stp]) = H5 at s5 htd ⊢
        have hl5 := s5 _ _ hl4
        have h25 := s5 _ _ h24
        have d5 : DeckAt H5 p c := (Same.on d4.on s5).d
        have hm1 := hnum m hm
        have hM1 := hnum M hM
        -- the lists handed in
        refine ⟨_, rfl, _, rfl, _, rfl, rfl, l, _, rfl, SqL.of hl5, fun l5 n5 => ?_⟩
        have s6 := same_new (o := .lst (ns.map V.int).reverse) n5
        have h5 := at_new (o := .lst (ns.map V.int).reverse) n5
        generalize upd H5 l5 (.lst (ns.map V.int).reverse) = H6 at s6 h5 ⊢
        refine ⟨_, rfl, _, rfl, l, l, _, _, rfl, rfl, s6 _ _ hl5, s6 _ _ hl5, by rw [List.length_map]; exact Nat.le_of_lt (small1000 (by omega)), fun l6 n6 => ?_⟩
        have s7 := same_new (o := .lst (ns.map V.int ++ ns.map V.int)) n6
        have h6 := at_new (o := .lst (ns.map V.int ++ ns.map V.int)) n6
        generalize upd H6 l6 (.lst (ns.map V.int ++ ns.map V.int)) = H7 at s7 h6 ⊢
        refine ⟨_, rfl, l, ns, rfl, SqL.of (s7 _ _ (s6 _ _ hl5)), by omega, fun ss l7 hperm hsort n7 => ?_⟩
        have s8 := same_new (o := .lst (ss.map V.int)) n7
        have h7 := at_new (o := .lst (ss.map V.int)) n7
        generalize upd H7 l7 (.lst (ss.map V.int)) = H8 at s8 h7 ⊢
        refine ⟨by show 4 ≤ sizeLine; decide, fun l8 n8 => ?_⟩
        have s9 := same_new (o := .lst [.ref l, .ref l5, .ref l6, .ref l7]) n8
        have h8 := at_new (o := .lst [.ref l, .ref l5, .ref l6, .ref l7]) n8
        generalize upd H8 l8 (.lst [.ref l, .ref l5, .ref l6, .ref l7]) = H9 at s9 h8 ⊢
        have s59 : Same H5 H9 := ((s6.trans s7).trans s8).trans s9
        have k1 := s59 _ _ hl5
        have k2 := s9 _ _ (s8 _ _ (s7 _ _ h5))
        have k3 := s9 _ _ (s8 _ _ h6)
        have k4 := s9 _ _ h7
        have k5 := s59 _ _ h25
        have k6 := s59 _ _ htd
        have d9 : DeckAt H9 p c := (Same.on d5.on s59).d
        refine ⟨l8, rfl, ⟨_, SqL.of h8⟩, for_list (K := K) (a := l8) (xs := [.ref l, .ref l5, .ref l6, .ref l7]) (fun _ σ H' => Same H9 H' ∧ ∃ w8 w9 : Option V, σ = [some (.ref aa), some (.ref p), some (.int (0 + (i : Int))), some (.ref l), some (.ref l2), some (.int stp), v6, some (.ref td), w8, w9, v10, v11])
          ⟨Same.refl _, _, _, rfl⟩ (fun j σ H' _ ⟨s, _⟩ => SqL.of (s _ _ h8)) ?_ ?_⟩
        · rintro j x σ H' hx ⟨sx, w8, w9, rfl⟩
          have key : ∃ (lj : Addr) (hs : List Int), x = .ref lj ∧ H9 lj = some (.lst (hs.map V.int)) ∧ (∀ n, n ∈ hs ↔ n ∈ ns) := by
            match j, hx with
            | 0, hx => cases hx; exact ⟨l, ns, rfl, k1, fun n => Iff.rfl⟩
            | 1, hx => cases hx; exact ⟨l5, ns.reverse, rfl, by rw [List.map_reverse]; exact k2, fun n => List.mem_reverse⟩
            | 2, hx => cases hx; exact ⟨l6, ns ++ ns, rfl, by rw [List.map_append]; exact k3, fun n => by rw [List.mem_append]; exact ⟨fun z => z.elim id id, .inl⟩⟩
            | 3, hx => cases hx; exact ⟨l7, ss, rfl, k4, fun n => hperm.mem_iff⟩
          obtain ⟨lj, hs, rfl, hlj, hmem⟩ := key
          have hs0 : 0 < hs.length := List.length_pos_of_mem ((hmem m).mpr hm)
          refine ⟨_, rfl, lj, hs, rfl, SqL.of (sx _ _ hlj), (fun z => by rw [z] at hs0; exact absurd hs0 (Nat.lt_irrefl _)), fun _ m' M' t' g1 g2 g3 g4 nt' => ?_⟩
          have e : (m', M', stepOf m' hs) = (m, M, stp) := ((isR_of g1 g2 g3 g4).congr hmem).unique ia
          injection e with e1 e2
          injection e2 with e2 e3
          rw [e3]
          subst e1 e2
          have sy := sx.alloc (o := .tup [.int m', .int M', .int stp]) nt'
          have ht' := at_new (o := .tup [.int m', .int M', .int stp]) nt'
          generalize upd H' t' (.tup [.int m', .int M', .int stp]) = HA at sy ht' ⊢
          refine ⟨_, rfl, _, rfl, _, _, _, _, rfl, at_run (a := (m', M', stp)) ht', at_run (a := (m', M', stp)) (sy _ _ k6), fun HB sB => ⟨_, rfl, ?_⟩⟩
          refine iteNS rfl ?_
          have sz := sy.trans sB
          refine ⟨_, rfl, _, rfl, l, l2, _, _, rfl, rfl, SqL.of (sz _ _ k1), SqL.of (sz _ _ k5), flat_ints _, flat_ints _, _, rfl, ?_⟩
          rw [if_pos rfl, eqVs_ints]
          refine iteF ?_
          refine ⟨_, rfl, l2, rfl, ⟨_, SqL.of (sz _ _ k5)⟩, fun a3 na3 => ?_⟩
          have a23 : l2 ≠ a3 := ne_of_none (sz _ _ k5) na3
          refine comp_list (K := K) (xs := ns.map V.int) (fun i ys H' => H' = upd HB a3 (.lst ys) ∧ ys = ((ns.take i).map fun x => hasR m' M' stp x).map V.bl) ⟨rfl, by rw [List.take_zero]; rfl⟩ (fun i ys H' _ _ ⟨e, _⟩ => by rw [e]; exact SqL.of (by rw [upd_ne a23]; exact sz _ _ k5)) ?_ ?_
          · rintro k v ys H'' hx' _ ⟨rfl, rfl⟩
            rw [List.getElem?_map] at hx'
            cases hi' : ns[k]? with
            | none => rw [hi'] at hx'; cases hx'
            | some z =>
              rw [hi'] at hx'
              have hx' : V.int z = v := Option.some.inj hx'
              subst hx'
              refine ⟨⟨[_], rfl, rfl⟩, noIfT ⟨_, rfl, _, rfl, t', m', M', stp, z, rfl, same_new na3 _ _ (sB _ _ ht'), oka, upd_same, ?_, upd_upd, ?_⟩⟩
              · rw [List.length_map, List.length_map]
                exact Nat.lt_of_le_of_lt (List.length_take_le' _ _) (small1000 (by omega))
              · rw [List.take_add_one, hi', List.map_append, List.map_append]
                rfl
          · rintro ys H'' ha3 ⟨rfl, rfl⟩
            rw [show ns.take (ns.map V.int).length = ns by rw [List.length_map, List.take_length]] at ha3 ⊢
            have hall : (ns.map fun x => hasR m' M' stp x).all id = true := by
              rw [List.all_map, List.all_eq_true]
              intro x hx
              exact mem_has (a := (m', M', stp)).mpr (ia.inR hx)
            refine ⟨a3, _, rfl, SqL.of ha3, _, rfl, ?_⟩
            rw [hall]
            refine iteF ?_
            exact ⟨sz.alloc na3, _, _, rfl⟩
        · rintro σ H' ⟨sx, w8, w9, rfl⟩
          have d10 : DeckAt H' p c := (Same.on d9.on sx).d
          have htd' : RunAt H' td m M stp := sx _ _ k6
          have hst0 : 0 ≤ stp := oka.nn
          have hst1 : stp ≤ 2 * 10 ^ 60 := by
            rcases Int.lt_or_le 0 stp with z | z
            · have zz := oka.p z
              have zz1 : m < M := zz.1
              have := Int.le_of_dvd (show 0 < M - m by omega) zz.2
              have h1 := hm1.1
              have h2 := hM1.2
              have h3 : stp ≤ M - m := this
              omega
            · omega
          clear sx d9 s59 k1 k2 k3 k4 k5 k6 h8 s9 s8 s7 s6 h5 h6 h7 s5 d5 hl5 h25 htd
          refine ⟨_, rfl, _, rfl, _, _, rfl, rfl, ⟨by decide, by decide⟩, _, _, rfl, by show 4 ≤ sizeLine; decide, fun l9 n9 => ?_⟩
          have sA := same_new (o := .lst [.int 1, .int 1, .int stp, .int (if stp / 2 > 1 then stp / 2 else 1)]) n9
          have h9 := at_new (o := .lst [.int 1, .int 1, .int stp, .int (if stp / 2 > 1 then stp / 2 else 1)]) n9
          have l9p := d10.nep n9
          have l9c := d10.nec n9
          have oA := Same.on d10.on sA
          refine ⟨_, rfl, p, c, _, rfl, oA.d, by decide, big (by decide) (by decide), fun r5 HA a5 b5 o5 => ?_⟩
          obtain ⟨by_, hby, hbb⟩ := menu4 (a := 1) (b := 1) (c := stp) (e := if stp / 2 > 1 then stp / 2 else 1) a5 b5
          refine ⟨l9, _, _, _, rfl, rfl, SqL.of (o5.lst h9 l9p l9c), hby, ?_⟩
          have hb0 : 0 ≤ by_ ∧ (0 < stp → 0 < by_) ∧ by_ ≤ 2 * 10 ^ 60 + 1 := by
            rcases hbb with z | z | z | z
            · omega
            · omega
            · omega
            · rw [z]
              split <;> omega
          obtain ⟨hb1, hb2, hb3⟩ := hb0
          have oB := oA.trans o5
          have htB : RunAt HA td m M stp := oB.tup d10 htd'
          refine ⟨_, rfl, td, _, _, _, rfl, rfl, SqT.of htB, rfl, _, rfl, _, rfl, p, c, _, rfl, oB.d, by decide, big (by decide) (by decide), fun r6 HB a6 b6 o6 => ?_⟩
          have oC := oB.trans o6
          have htC : RunAt HB td m M stp := oC.tup d10 htd'
          refine ⟨_, _, rfl, rfl, ⟨bigX (by omega) (by omega), bigX (by omega) (by omega)⟩, _, _, rfl, rfl, _, rfl, td, _, _, _, rfl, rfl, SqT.of htC, rfl, _, rfl, _, rfl, p, c, _, rfl, oC.d, by decide, big (by decide) (by decide), fun r7 HC a7 b7 o7 => ?_⟩
          have oD := oC.trans o7
          refine ⟨_, _, rfl, rfl, ⟨bigX (by omega) (by omega), bigX (by omega) (by omega)⟩, _, _, rfl, rfl, by show 2 ≤ sizeLine; decide, fun l10 n10 => ?_⟩
          have oE := oD.alloc (o := .lst [.int (m - by_ * r6), .int (M + by_ * r7)]) n10
          have h10 := at_new (o := .lst [.int (m - by_ * r6), .int (M + by_ * r7)]) n10
          have htE : RunAt _ td m M stp := oE.tup d10 htd'
          generalize hHE : upd HC l10 (.lst [.int (m - by_ * r6), .int (M + by_ * r7)]) = HE at oE h10 htE
          have dE := oE.d
          have fin : ∀ H8, Same HE H8 → DeckAt H8 p c := fun H8 s8 => (Same.on dE.on s8).d
          refine ⟨_, rfl, _, _, rfl, rfl, _, rfl, ?_⟩
          refine ite2 (fun t1 => ?_) (fun _ => ?_)
          · have t1 : stp > 0 := of_decide_eq_true t1
            refine ⟨_, rfl, _, rfl, _, _, rfl, rfl, hb2 t1, rfl, _, rfl, ?_⟩
            refine ite2 (fun t2 => ?_) (fun _ => ?_)
            · rw [dI] at t2
              have t2 : stp % by_ = 0 := of_decide_eq_true t2
              refine ⟨_, rfl, _, _, rfl, rfl, ⟨by decide, by decide, by decide⟩, _, _, rfl, rfl, _, rfl, ?_⟩
              refine ite2 (fun _ => ?_) (fun _ => ?_)
              · refine ⟨_, rfl, l10, _, _, _, rfl, rfl, SqL.of h10, rfl, _, _, rfl, rfl, _, rfl, l10, _, _, _, rfl, rfl, SqL.of h10, rfl, _, _, rfl, _, _, rfl, rfl, ⟨by decide, by decide, by decide⟩, _, _, rfl, rfl, _, rfl, ?_⟩
                refine ite2 (fun _ => ?_) (fun _ => ?_)
                · have nk := near_ok (a := (m, M, stp)) oka (d := by_) (m := r6) (n := r7) (by have := hb2 t1; omega) t1 t2 a6 a7
                  refine ⟨_, rfl, _, rfl, l10, _, _, _, rfl, rfl, SqL.of h10, rfl, _, rfl, l10, _, _, _, rfl, rfl, SqL.of h10, rfl, _, rfl, by show 3 ≤ sizeLine; decide, fun t9 n9' => ?_⟩
                  have sF := same_new (o := .tup [.int (m - by_ * r6), .int (M + by_ * r7), .int by_]) n9'
                  refine ⟨td, t9, m, M, stp, m - by_ * r6, M + by_ * r7, by_, rfl, sF _ _ htE, at_new n9', nk.1, fun HG sG => ?_⟩
                  have e : partR (m, M, stp) (m - by_ * r6, M + by_ * r7, by_) = none := sub_part oka nk.2
                  rw [e]
                  refine ⟨true, rfl, _, rfl, ?_⟩
                  refine ite2 (fun h => absurd h (by decide)) (fun _ => ?_)
                  exact ⟨fin _ (sF.trans sG), _, _, _, _, _, _, _, _, _, _, rfl⟩
                · exact ⟨dE, _, _, _, _, _, _, _, _, _, _, rfl⟩
              · exact iteF ⟨dE, _, _, _, _, _, _, _, _, _, _, rfl⟩
            · exact iteF ⟨dE, _, _, _, _, _, _, _, _, _, _, rfl⟩
          · exact iteF ⟨dE, _, _, _, _, _, _, _, _, _, _, rfl⟩
    · rintro σ H2 ⟨d2, v2, v3, v4, v5, v6, v7, v8, v9, v10, v11, rfl⟩
      exact ⟨rfl, fun H' => q H'⟩
end
open PySem
theorem all_mk {l : PySem.W.OpenLaw} {w : World} {K : PySem.W.Frag} {h : Heap} {mg : Str → Option Value} {fa : Addr} (X : K.In h) (G : h.Ns mainGlobals mg) (hfa : mg "law" = some (.ref fa)) {f0 : Addr} {od0 an0 : Option Addr} {sl0 : Array (Option Value)} {oc0 kV0 dc0 pm0 cd0 ct0 : Value} {f1 : Addr} {od1 an1 : Option Addr} {sl1 : Array (Option Value)} {oc1 kV1 dc1 pm1 cd1 ct1 : Value} {f2 : Addr} {od2 an2 : Option Addr} {sl2 : Array (Option Value)} {oc2 kV2 dc2 pm2 cd2 ct2 : Value} {f3 : Addr} {od3 an3 : Option Addr} {sl3 : Array (Option Value)} {oc3 kV3 dc3 pm3 cd3 ct3 : Value} {f4 : Addr} {od4 an4 : Option Addr} {sl4 : Array (Option Value)} {oc4 kV4 dc4 pm4 cd4 ct4 : Value} {f5 : Addr} {od5 an5 : Option Addr} {sl5 : Array (Option Value)} {oc5 kV5 dc5 pm5 cd5 ct5 : Value} {f6 : Addr} {od6 an6 : Option Addr} {sl6 : Array (Option Value)} {oc6 kV6 dc6 pm6 cd6 ct6 : Value} {f7 : Addr} {od7 an7 : Option Addr} {sl7 : Array (Option Value)} {oc7 kV7 dc7 pm7 cd7 ct7 : Value} {f8 : Addr} {od8 an8 : Option Addr} {sl8 : Array (Option Value)} {oc8 kV8 dc8 pm8 cd8 ct8 : Value} {f9 : Addr} {od9 an9 : Option Addr} {sl9 : Array (Option Value)} {oc9 kV9 dc9 pm9 cd9 ct9 : Value} {f10 : Addr} {od10 an10 : Option Addr} {sl10 : Array (Option Value)} {oc10 kV10 dc10 pm10 cd10 ct10 : Value} {f11 : Addr} {od11 an11 : Option Addr} {sl11 : Array (Option Value)} {oc11 kV11 dc11 pm11 cd11 ct11 : Value} {f12 : Addr} {od12 an12 : Option Addr} {sl12 : Array (Option Value)} {oc12 kV12 dc12 pm12 cd12 ct12 : Value} {f13 : Addr} {od13 an13 : Option Addr} {sl13 : Array (Option Value)} {oc13 kV13 dc13 pm13 cd13 ct13 : Value} {f14 : Addr} {od14 an14 : Option Addr} {sl14 : Array (Option Value)} {oc14 kV14 dc14 pm14 cd14 ct14 : Value} {f15 : Addr} {od15 an15 : Option Addr} {sl15 : Array (Option Value)} {oc15 kV15 dc15 pm15 cd15 ct15 : Value} {f16 : Addr} {od16 an16 : Option Addr} {sl16 : Array (Option Value)} {oc16 kV16 dc16 pm16 cd16 ct16 : Value} {f17 : Addr} {od17 an17 : Option Addr} {sl17 : Array (Option Value)} {oc17 kV17 dc17 pm17 cd17 ct17 : Value}
    (a0 : PySem.W.nsIn K mainGlobals "divisor_of" = some (some (.ref f0))) (l0 : K.lookup f0 = some ⟨oc0, od0, .func (PySem.W.fnOf "divisor_of" "divisor_of" (defArgs sdivisor_of) (defBody sdivisor_of) (defScope sdivisor_of) .none kV0 dc0 pm0 an0 cd0 ct0), sl0⟩) (c0 : PySem.W.codeIn K cd0 "divisor_of" = true) (k0 : PySem.W.keepIn K (.ref f0) = true)
    (a1 : PySem.W.nsIn K mainGlobals "run_of" = some (some (.ref f1))) (l1 : K.lookup f1 = some ⟨oc1, od1, .func (PySem.W.fnOf "run_of" "run_of" (defArgs srun_of) (defBody srun_of) (defScope srun_of) .none kV1 dc1 pm1 an1 cd1 ct1), sl1⟩) (c1 : PySem.W.codeIn K cd1 "run_of" = true) (k1 : PySem.W.keepIn K (.ref f1) = true)
    (a2 : PySem.W.nsIn K mainGlobals "run_has" = some (some (.ref f2))) (l2 : K.lookup f2 = some ⟨oc2, od2, .func (PySem.W.fnOf "run_has" "run_has" (defArgs srun_has) (defBody srun_has) (defScope srun_has) .none kV2 dc2 pm2 an2 cd2 ct2), sl2⟩) (c2 : PySem.W.codeIn K cd2 "run_has" = true) (k2 : PySem.W.keepIn K (.ref f2) = true)
    (a3 : PySem.W.nsIn K mainGlobals "telling_numbers" = some (some (.ref f3))) (l3 : K.lookup f3 = some ⟨oc3, od3, .func (PySem.W.fnOf "telling_numbers" "telling_numbers" (defArgs stelling_numbers) (defBody stelling_numbers) (defScope stelling_numbers) .none kV3 dc3 pm3 an3 cd3 ct3), sl3⟩) (c3 : PySem.W.codeIn K cd3 "telling_numbers" = true) (k3 : PySem.W.keepIn K (.ref f3) = true)
    (a4 : PySem.W.nsIn K mainGlobals "run_parted" = some (some (.ref f4))) (l4 : K.lookup f4 = some ⟨oc4, od4, .func (PySem.W.fnOf "run_parted" "run_parted" (defArgs srun_parted) (defBody srun_parted) (defScope srun_parted) .none kV4 dc4 pm4 an4 cd4 ct4), sl4⟩) (c4 : PySem.W.codeIn K cd4 "run_parted" = true) (k4 : PySem.W.keepIn K (.ref f4) = true)
    (a5 : PySem.W.nsIn K mainGlobals "run_within" = some (some (.ref f5))) (l5 : K.lookup f5 = some ⟨oc5, od5, .func (PySem.W.fnOf "run_within" "run_within" (defArgs srun_within) (defBody srun_within) (defScope srun_within) .none kV5 dc5 pm5 an5 cd5 ct5), sl5⟩) (c5 : PySem.W.codeIn K cd5 "run_within" = true) (k5 : PySem.W.keepIn K (.ref f5) = true)
    (a6 : PySem.W.nsIn K mainGlobals "_law_mixed" = some (some (.ref f6))) (l6 : K.lookup f6 = some ⟨oc6, od6, .func (PySem.W.fnOf "_law_mixed" "_law_mixed" (defArgs s_law_mixed) (defBody s_law_mixed) (defScope s_law_mixed) .none kV6 dc6 pm6 an6 cd6 ct6), sl6⟩) (c6 : PySem.W.codeIn K cd6 "_law_mixed" = true) (k6 : PySem.W.keepIn K (.ref f6) = true)
    (a7 : PySem.W.nsIn K mainGlobals "_law_deck" = some (some (.ref f7))) (l7 : K.lookup f7 = some ⟨oc7, od7, .func (PySem.W.fnOf "_law_deck" "_law_deck" (defArgs s_law_deck) (defBody s_law_deck) (defScope s_law_deck) .none kV7 dc7 pm7 an7 cd7 ct7), sl7⟩) (c7 : PySem.W.codeIn K cd7 "_law_deck" = true) (k7 : PySem.W.keepIn K (.ref f7) = true)
    (a8 : PySem.W.nsIn K mainGlobals "_law_take" = some (some (.ref f8))) (l8 : K.lookup f8 = some ⟨oc8, od8, .func (PySem.W.fnOf "_law_take" "_law_take" (defArgs s_law_take) (defBody s_law_take) (defScope s_law_take) .none kV8 dc8 pm8 an8 cd8 ct8), sl8⟩) (c8 : PySem.W.codeIn K cd8 "_law_take" = true) (k8 : PySem.W.keepIn K (.ref f8) = true)
    (a9 : PySem.W.nsIn K mainGlobals "_law_far" = some (some (.ref f9))) (l9 : K.lookup f9 = some ⟨oc9, od9, .func (PySem.W.fnOf "_law_far" "_law_far" (defArgs s_law_far) (defBody s_law_far) (defScope s_law_far) .none kV9 dc9 pm9 an9 cd9 ct9), sl9⟩) (c9 : PySem.W.codeIn K cd9 "_law_far" = true) (k9 : PySem.W.keepIn K (.ref f9) = true)
    (a10 : PySem.W.nsIn K mainGlobals "_law_run" = some (some (.ref f10))) (l10 : K.lookup f10 = some ⟨oc10, od10, .func (PySem.W.fnOf "_law_run" "_law_run" (defArgs s_law_run) (defBody s_law_run) (defScope s_law_run) .none kV10 dc10 pm10 an10 cd10 ct10), sl10⟩) (c10 : PySem.W.codeIn K cd10 "_law_run" = true) (k10 : PySem.W.keepIn K (.ref f10) = true)
    (a11 : PySem.W.nsIn K mainGlobals "_law_has" = some (some (.ref f11))) (l11 : K.lookup f11 = some ⟨oc11, od11, .func (PySem.W.fnOf "_law_has" "_law_has" (defArgs s_law_has) (defBody s_law_has) (defScope s_law_has) .none kV11 dc11 pm11 an11 cd11 ct11), sl11⟩) (c11 : PySem.W.codeIn K cd11 "_law_has" = true) (k11 : PySem.W.keepIn K (.ref f11) = true)
    (a12 : PySem.W.nsIn K mainGlobals "_law_divisor" = some (some (.ref f12))) (l12 : K.lookup f12 = some ⟨oc12, od12, .func (PySem.W.fnOf "_law_divisor" "_law_divisor" (defArgs s_law_divisor) (defBody s_law_divisor) (defScope s_law_divisor) .none kV12 dc12 pm12 an12 cd12 ct12), sl12⟩) (c12 : PySem.W.codeIn K cd12 "_law_divisor" = true) (k12 : PySem.W.keepIn K (.ref f12) = true)
    (a13 : PySem.W.nsIn K mainGlobals "_law_same" = some (some (.ref f13))) (l13 : K.lookup f13 = some ⟨oc13, od13, .func (PySem.W.fnOf "_law_same" "_law_same" (defArgs s_law_same) (defBody s_law_same) (defScope s_law_same) .none kV13 dc13 pm13 an13 cd13 ct13), sl13⟩) (c13 : PySem.W.codeIn K cd13 "_law_same" = true) (k13 : PySem.W.keepIn K (.ref f13) = true)
    (a14 : PySem.W.nsIn K mainGlobals "_law_alone" = some (some (.ref f14))) (l14 : K.lookup f14 = some ⟨oc14, od14, .func (PySem.W.fnOf "_law_alone" "_law_alone" (defArgs s_law_alone) (defBody s_law_alone) (defScope s_law_alone) .none kV14 dc14 pm14 an14 cd14 ct14), sl14⟩) (c14 : PySem.W.codeIn K cd14 "_law_alone" = true) (k14 : PySem.W.keepIn K (.ref f14) = true)
    (a15 : PySem.W.nsIn K mainGlobals "_law_numbers" = some (some (.ref f15))) (l15 : K.lookup f15 = some ⟨oc15, od15, .func (PySem.W.fnOf "_law_numbers" "_law_numbers" (defArgs s_law_numbers) (defBody s_law_numbers) (defScope s_law_numbers) .none kV15 dc15 pm15 an15 cd15 ct15), sl15⟩) (c15 : PySem.W.codeIn K cd15 "_law_numbers" = true) (k15 : PySem.W.keepIn K (.ref f15) = true)
    (a16 : PySem.W.nsIn K mainGlobals "_law_empty_refused" = some (some (.ref f16))) (l16 : K.lookup f16 = some ⟨oc16, od16, .func (PySem.W.fnOf "_law_empty_refused" "_law_empty_refused" (defArgs s_law_empty_refused) (defBody s_law_empty_refused) (defScope s_law_empty_refused) .none kV16 dc16 pm16 an16 cd16 ct16), sl16⟩) (c16 : PySem.W.codeIn K cd16 "_law_empty_refused" = true) (k16 : PySem.W.keepIn K (.ref f16) = true)
    (a17 : PySem.W.nsIn K mainGlobals "law" = some (some (.ref f17))) (l17 : K.lookup f17 = some ⟨oc17, od17, .func (PySem.W.fnOf "law" "law" (defArgs slaw) (defBody slaw) (defScope slaw) .none kV17 dc17 pm17 an17 cd17 ct17), sl17⟩) (c17 : PySem.W.codeIn K cd17 "law" = true) (k17 : PySem.W.keepIn K (.ref f17) = true)
    (z0 : PySem.W.nsIn K mainGlobals "len" = some none) (z1 : PySem.W.nsIn K mainGlobals "range" = some none) (z2 : PySem.W.nsIn K mainGlobals "isinstance" = some none) (z3 : PySem.W.nsIn K mainGlobals "int" = some none) (z4 : PySem.W.nsIn K mainGlobals "bool" = some none) (z5 : PySem.W.nsIn K mainGlobals "str" = some none) (z6 : PySem.W.nsIn K mainGlobals "list" = some none) (z7 : PySem.W.nsIn K mainGlobals "tuple" = some none) (z8 : PySem.W.nsIn K mainGlobals "dict" = some none) (z9 : PySem.W.nsIn K mainGlobals "sum" = some none) (z10 : PySem.W.nsIn K mainGlobals "min" = some none) (z11 : PySem.W.nsIn K mainGlobals "max" = some none) (z12 : PySem.W.nsIn K mainGlobals "all" = some none) (z13 : PySem.W.nsIn K mainGlobals "any" = some none) (z14 : PySem.W.nsIn K mainGlobals "abs" = some none) (z15 : PySem.W.nsIn K mainGlobals "zip" = some none) (z16 : PySem.W.nsIn K mainGlobals "sorted" = some none) (z17 : PySem.W.nsIn K mainGlobals "set" = some none) (z18 : PySem.W.nsIn K mainGlobals "enumerate" = some none) {aFormError aNoPath aNoSamples aNoValue aNoText aNoName aNoDeed aFull aNoRow aNotLet : Addr}
    (nFormError : PySem.W.nsIn K mainGlobals "FormError" = some (some (.ref aFormError)))
    (nNoPath : PySem.W.nsIn K mainGlobals "NoPath" = some (some (.ref aNoPath)))
    (nNoSamples : PySem.W.nsIn K mainGlobals "NoSamples" = some (some (.ref aNoSamples)))
    (nNoValue : PySem.W.nsIn K mainGlobals "NoValue" = some (some (.ref aNoValue)))
    (nNoText : PySem.W.nsIn K mainGlobals "NoText" = some (some (.ref aNoText)))
    (nNoName : PySem.W.nsIn K mainGlobals "NoName" = some (some (.ref aNoName)))
    (nNoDeed : PySem.W.nsIn K mainGlobals "NoDeed" = some (some (.ref aNoDeed)))
    (nFull : PySem.W.nsIn K mainGlobals "Full" = some (some (.ref aFull)))
    (nNoRow : PySem.W.nsIn K mainGlobals "NoRow" = some (some (.ref aNoRow)))
    (nNotLet : PySem.W.nsIn K mainGlobals "NotLet" = some (some (.ref aNotLet)))
    (zV : PySem.W.nsIn K mainGlobals "ValueError" = some none)
    (qN : PySem.W.excIn K aNoSamples [.type "ValueError", .type "Exception", .type "BaseException", .type "object"] "ValueError.__new__" = true)
    (xsp : PySem.W.specialIn K (.builtin "object.__class__") "__get__" = some (some (.builtin "getset_descriptor.__get__")))
    (xtk : PySem.W.takesIn K (.builtin "object.__class__") = some true)
    (xga : PySem.W.findIn K (.ref aNoSamples) "__getattribute__" = some (some (.builtin "BaseException.__getattribute__")))
    (xgt : PySem.W.findIn K (.ref aNoSamples) "__getattr__" = some none)
    (xcl : PySem.W.findIn K (.ref aNoSamples) "__class__" = some (some (.builtin "object.__class__")))
    (xmo : PySem.W.mroIn K aNoSamples (.type "object") = some true)
    (xmb : PySem.W.mroIn K aNoSamples (.type "BaseException") = some true)
    (xty : PySem.W.typeIn K (.ref aFormError) = some (.type "type"))
    (xfb : PySem.W.mroIn K aFormError (.type "BaseException") = some true)
    (xmd : PySem.W.mroIn K aNoSamples (.ref aFormError) = some true)
    (kt0 : PySem.W.kitOne K (.ref aNoSamples) (.ref aNoPath) = some false)
    (kt1 : PySem.W.kitOne K (.ref aNoSamples) (.ref aNoSamples) = some true)
    (kt2 : PySem.W.kitOne K (.ref aNoSamples) (.ref aNoValue) = some false)
    (kt3 : PySem.W.kitOne K (.ref aNoSamples) (.ref aNoText) = some false)
    (kt4 : PySem.W.kitOne K (.ref aNoSamples) (.ref aNoName) = some false)
    (kt5 : PySem.W.kitOne K (.ref aNoSamples) (.ref aNoDeed) = some false)
    (kt6 : PySem.W.kitOne K (.ref aNoSamples) (.ref aFull) = some false)
    (kt7 : PySem.W.kitOne K (.ref aNoSamples) (.ref aNoRow) = some false)
    (kt8 : PySem.W.kitOne K (.ref aNoSamples) (.ref aNotLet) = some false)
    (ktF : PySem.W.kitOne K (.ref aNoSamples) (.ref aFormError) = some true)
    (ktV : PySem.W.kitOne K (.ref aNoSamples) (.type "ValueError") = some true) :
    ∃ fd : FuncData, (∀ (s : Shared) (v : Value), BindsTo s fd ⟨[v], []⟩ [("_law_script", v)]) ∧ ∀ base : Heap, K.In base → base.Ns mainGlobals mg → FnOk l.prog w K mg base CX0 7 fa fd ["_law_script"] (spLaw K) := by
  have e := hfa.symm.trans (PySem.W.mg_of X G a17)
  cases e
  have B : Own mg := own_mk X G z0 z1 z2 z3 z4 z5 z6 z7 z8 z9 z10 z11 z12 z13 z14 z15 z16 z17 z18
  have hdivisor_of : Has K mg "divisor_of" sdivisor_of := has_mk (st := sdivisor_of) X G a0 l0 c0 k0
  have hrun_of : Has K mg "run_of" srun_of := has_mk (st := srun_of) X G a1 l1 c1 k1
  have hrun_has : Has K mg "run_has" srun_has := has_mk (st := srun_has) X G a2 l2 c2 k2
  have htelling_numbers : Has K mg "telling_numbers" stelling_numbers := has_mk (st := stelling_numbers) X G a3 l3 c3 k3
  have hrun_parted : Has K mg "run_parted" srun_parted := has_mk (st := srun_parted) X G a4 l4 c4 k4
  have hrun_within : Has K mg "run_within" srun_within := has_mk (st := srun_within) X G a5 l5 c5 k5
  have h_law_mixed : Has K mg "_law_mixed" s_law_mixed := has_mk (st := s_law_mixed) X G a6 l6 c6 k6
  have h_law_deck : Has K mg "_law_deck" s_law_deck := has_mk (st := s_law_deck) X G a7 l7 c7 k7
  have h_law_take : Has K mg "_law_take" s_law_take := has_mk (st := s_law_take) X G a8 l8 c8 k8
  have h_law_far : Has K mg "_law_far" s_law_far := has_mk (st := s_law_far) X G a9 l9 c9 k9
  have h_law_run : Has K mg "_law_run" s_law_run := has_mk (st := s_law_run) X G a10 l10 c10 k10
  have h_law_has : Has K mg "_law_has" s_law_has := has_mk (st := s_law_has) X G a11 l11 c11 k11
  have h_law_divisor : Has K mg "_law_divisor" s_law_divisor := has_mk (st := s_law_divisor) X G a12 l12 c12 k12
  have h_law_same : Has K mg "_law_same" s_law_same := has_mk (st := s_law_same) X G a13 l13 c13 k13
  have h_law_alone : Has K mg "_law_alone" s_law_alone := has_mk (st := s_law_alone) X G a14 l14 c14 k14
  have h_law_numbers : Has K mg "_law_numbers" s_law_numbers := has_mk (st := s_law_numbers) X G a15 l15 c15 k15
  have h_law_empty_refused : Has K mg "_law_empty_refused" s_law_empty_refused := has_mk (st := s_law_empty_refused) X G a16 l16 c16 k16
  refine ⟨PySem.W.fnOf "law" "law" (defArgs slaw) (defBody slaw) (defScope slaw) .none kV17 dc17 pm17 an17 cd17 ct17, fun s v => .of_eq rfl, fun base KB GB => ?_⟩
  have G1 : Good l.prog w K mg base 1 "_law_mixed" ["_law_number", "_law_k"] spMixed := g_mixed h_law_mixed
  have G2 : Good l.prog w K mg base 2 "_law_take" ["_law_deck_here", "_law_most"] spTake := g_take h_law_take G1
  have G3 : Good l.prog w K mg base 3 "_law_far" ["_law_deck_here"] spFar := g_far h_law_far B G2
  have G4 : Good l.prog w K mg base 4 "_law_run" ["_law_deck_here"] spRun := g_run h_law_run B G2 G3
  have G6 : Good l.prog w K mg base 3 "_law_same" ["_law_one", "_law_other"] (spSameT K 2) := g_sameS h_law_same B (g_sameS h_law_same B (g_same0 h_law_same))
  have RF : Refs K mg aNoSamples aFormError aNoPath aNoSamples aNoValue aNoText aNoName aNoDeed aFull aNoRow aNotLet 1 := ⟨PySem.W.mg_of X G nFormError, PySem.W.mg_of X G nNoPath, PySem.W.mg_of X G nNoSamples, PySem.W.mg_of X G nNoValue, PySem.W.mg_of X G nNoText, PySem.W.mg_of X G nNoName, PySem.W.mg_of X G nNoDeed, PySem.W.mg_of X G nFull, PySem.W.mg_of X G nNoRow, PySem.W.mg_of X G nNotLet, PySem.W.mg_none_of X G zV, ⟨xsp, xtk⟩, ⟨xga, xgt, xcl, xmo, xmb⟩, kt0, kt1, kt2, kt3, kt4, kt5, kt6, kt7, kt8, ktF, ktV⟩
  have GR : GoodE l.prog w K mg base 2 "run_of" ["numbers"] (spRunOfE K aNoSamples) := g_runofE hrun_of B (own_mkX KB GB nNoSamples qN) PySem.F.excBase_ValueError (g_div hdivisor_of)
  have GX : Good l.prog w K mg base 3 "_law_empty_refused" [] spRefused := g_refused h_law_empty_refused B RF.mFormError ⟨xty, xfb, xmd⟩ (fun eh => g_alone h_law_alone B RF eh) GR
  have G9 : Good l.prog w K mg base 3 "run_within" ["one", "other"] spWithin := g_within hrun_within (g_parted hrun_parted (g_tell htelling_numbers) (g_rhas hrun_has))
  exact ok_law (fun_mk (st := slaw) l17 c17 k17) B (g_deck h_law_deck B) G2 (g_nums h_law_numbers B G2 G3 G4) (g_ldiv h_law_divisor B) G6 GR.good (g_lhas h_law_has) G9 GX
theorem walk {l : PySem.W.OpenLaw} {q : Program} {loose : List Str} {XP : (Str → Option Value) → Heap → Prop} {YP : World → Heap → Prop} {d : DefRec} {K : Params → PySem.W.Frag} (hn : l.most = some 63) (hdf : d.params.defaults = [])
    (hY : ∀ (w : World) (h : Heap), YP w h → (K w.params).In h)
    (F : ∀ (w : World) (mg : Str → Option Value) (fa : Addr) (h : Heap), (K w.params).In h → h.Ns mainGlobals mg → mg d.name = some (.ref fa) →
      ∃ fd : FuncData, (∀ (s : Shared) (u : Value), BindsTo s fd ⟨[u], []⟩ [("_law_script", u)]) ∧ ∀ base : Heap, (K w.params).In base → base.Ns mainGlobals mg → FnOk l.prog w (K w.params) mg base CX0 7 fa fd ["_law_script"] (spLaw (K w.params))) :
    PySem.W.WalkO q loose XP YP l.row.toRowW d [] (fun f vs => PySem.call f vs) :=
  L2.walk_of (n := 63) (k := 7) (x := "_law_script") (CX := fun _ => CX0) (sp := fun w => spLaw (K w.params)) hn (by decide) hdf ⟨rfl, by decide, by decide, rfl⟩ hY F (fun _ _ a ns hl _ hS => ⟨a, ns, rfl, hS, hl, fun _ => rfl⟩) fun _ _ _ _ _ z => z
end My
open PySem PySem.W PyProof.Rows
set_option maxRecDepth 100000 in
set_option maxHeartbeats 0 in
theorem PySem.Challenge.cw_leastform_k11_the_run_of_numbers_holds : PySem.Challenge.rw_leastform_k11_the_run_of_numbers.Holds := by
  w_on; o_law; k_head; (case hw => w_witness2)
  k_fill
  refine My.walk (l := PySem.Challenge.rw_leastform_k11_the_run_of_numbers) rfl rfl (fun w h Y => PySem.W.kIn_of Y) ?F
  case F =>
    intro w mg fa h KX G hmg
    refine' My.all_mk KX G hmg ?a0 ?l0 ?c0 ?k0 ?a1 ?l1 ?c1 ?k1 ?a2 ?l2 ?c2 ?k2 ?a3 ?l3 ?c3 ?k3 ?a4 ?l4 ?c4 ?k4 ?a5 ?l5 ?c5 ?k5 ?a6 ?l6 ?c6 ?k6 ?a7 ?l7 ?c7 ?k7 ?a8 ?l8 ?c8 ?k8 ?a9 ?l9 ?c9 ?k9 ?a10 ?l10 ?c10 ?k10 ?a11 ?l11 ?c11 ?k11 ?a12 ?l12 ?c12 ?k12 ?a13 ?l13 ?c13 ?k13 ?a14 ?l14 ?c14 ?k14 ?a15 ?l15 ?c15 ?k15 ?a16 ?l16 ?c16 ?k16 ?a17 ?l17 ?c17 ?k17 ?z0 ?z1 ?z2 ?z3 ?z4 ?z5 ?z6 ?z7 ?z8 ?z9 ?z10 ?z11 ?z12 ?z13 ?z14 ?z15 ?z16 ?z17 ?z18 ?nFormError ?nNoPath ?nNoSamples ?nNoValue ?nNoText ?nNoName ?nNoDeed ?nFull ?nNoRow ?nNotLet ?zV ?qN ?xsp ?xtk ?xga ?xgt ?xcl ?xmo ?xmb ?xty ?xfb ?xmd ?kt0 ?kt1 ?kt2 ?kt3 ?kt4 ?kt5 ?kt6 ?kt7 ?kt8 ?ktF ?ktV
    (case a0 => k_is)
    (case l0 => k_is)
    (case c0 => k_is)
    (case k0 => k_is)
    (case a1 => k_is)
    (case l1 => k_is)
    (case c1 => k_is)
    (case k1 => k_is)
    (case a2 => k_is)
    (case l2 => k_is)
    (case c2 => k_is)
    (case k2 => k_is)
    (case a3 => k_is)
    (case l3 => k_is)
    (case c3 => k_is)
    (case k3 => k_is)
    (case a4 => k_is)
    (case l4 => k_is)
    (case c4 => k_is)
    (case k4 => k_is)
    (case a5 => k_is)
    (case l5 => k_is)
    (case c5 => k_is)
    (case k5 => k_is)
    (case a6 => k_is)
    (case l6 => k_is)
    (case c6 => k_is)
    (case k6 => k_is)
    (case a7 => k_is)
    (case l7 => k_is)
    (case c7 => k_is)
    (case k7 => k_is)
    (case a8 => k_is)
    (case l8 => k_is)
    (case c8 => k_is)
    (case k8 => k_is)
    (case a9 => k_is)
    (case l9 => k_is)
    (case c9 => k_is)
    (case k9 => k_is)
    (case a10 => k_is)
    (case l10 => k_is)
    (case c10 => k_is)
    (case k10 => k_is)
    (case a11 => k_is)
    (case l11 => k_is)
    (case c11 => k_is)
    (case k11 => k_is)
    (case a12 => k_is)
    (case l12 => k_is)
    (case c12 => k_is)
    (case k12 => k_is)
    (case a13 => k_is)
    (case l13 => k_is)
    (case c13 => k_is)
    (case k13 => k_is)
    (case a14 => k_is)
    (case l14 => k_is)
    (case c14 => k_is)
    (case k14 => k_is)
    (case a15 => k_is)
    (case l15 => k_is)
    (case c15 => k_is)
    (case k15 => k_is)
    (case a16 => k_is)
    (case l16 => k_is)
    (case c16 => k_is)
    (case k16 => k_is)
    (case a17 => k_is)
    (case l17 => k_is)
    (case c17 => k_is)
    (case k17 => k_is)
    (case z0 => k_is)
    (case z1 => k_is)
    (case z2 => k_is)
    (case z3 => k_is)
    (case z4 => k_is)
    (case z5 => k_is)
    (case z6 => k_is)
    (case z7 => k_is)
    (case z8 => k_is)
    (case z9 => k_is)
    (case z10 => k_is)
    (case z11 => k_is)
    (case z12 => k_is)
    (case z13 => k_is)
    (case z14 => k_is)
    (case z15 => k_is)
    (case z16 => k_is)
    (case z17 => k_is)
    (case z18 => k_is)
    (case nFormError => k_is)
    (case nNoPath => k_is)
    (case nNoSamples => k_is)
    (case nNoValue => k_is)
    (case nNoText => k_is)
    (case nNoName => k_is)
    (case nNoDeed => k_is)
    (case nFull => k_is)
    (case nNoRow => k_is)
    (case nNotLet => k_is)
    (case zV => k_is)
    (case qN => k_exc)
    (case xsp => k_is)
    (case xtk => k_is)
    (case xga => k_is)
    (case xgt => k_is)
    (case xcl => k_is)
    (case xmo => k_is)
    (case xmb => k_is)
    (case xty => k_is)
    (case xfb => k_is)
    (case xmd => k_is)
    (case kt0 => kit_is)
    (case kt1 => kit_is)
    (case kt2 => kit_is)
    (case kt3 => kit_is)
    (case kt4 => kit_is)
    (case kt5 => kit_is)
    (case kt6 => kit_is)
    (case kt7 => kit_is)
    (case kt8 => kit_is)
    (case ktF => kit_is)
    (case ktV => kit_is)
#print axioms PySem.Challenge.cw_leastform_k11_the_run_of_numbers_holds
