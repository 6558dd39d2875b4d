import PyProof.Rows.All
import Wide.All
import OpenK.AllK
import Wide.FinOn
import Lean
import PyProof.EqAt
import PyProof.EqKinds
import PyProof.TupleCall
import PyProof.NeKinds
import PyProof.IsiTupleOf
import PyProof.IsiHeapPairs
import PyProof.IsiPairs
import PyProof.ConsumeWalk
import PyProof.Rows.SumAny
import PyProof.FitsBits
import PyProof.Rows.SeqMore
import PyProof.ZipIter
import PyProof.TupleIter
import PyProof.LongRange
import PyProof.Rows.Range3
import PyProof.Rows.SortWalk
import PyProof.Rows.SortStr
import PyProof.StrWalks
import PyProof.DictRoads
import PyProof.MeetsStr
import PyProof.Rows.StrNews2
import PyProof.StrLawsIn
import PyProof.StrLaws
import PyProof.Rows.CatFin
import PyProof.Rows.StrClose5
import PyProof.SetKind
import PyProof.CollectWalk
import PyProof.Seq
import PyProof.ForAny
import PyProof.MakeMany
import PyProof.DictKinds
import PyProof.Rows.StrInSeq
import PyProof.WalkLemmas
import PyProof.Rows.SortShell
import PyProof.Rows.SetFrom
import PyProof.StrOps2
import PyProof.ReprNest
import PyProof.CallFns
import PyProof.StrLawsRepr
import PySem.Challenge.RW_leastform_k24_words_met
set_option Elab.async false
set_option linter.all false
set_option maxRecDepth 100000
set_option maxHeartbeats 4000000
/-! THE HAND LAYER, for ints, bools, texts, own classes, LISTS and tuples (index, slices, in, append, pop ..), calls, loops. Paste it whole ahead of your own text; what your proof does not reach may be deleted. -/
namespace L2
open PySem PySem.Spec PyProof.Rows

/-- a key: an int or a str -/
abbrev Key := Sum Int Str
def keyIs : Key → Value → Bool
  | .inl k, v => Value.isInt k v
  | .inr x, v => Value.isStrOf x v
def keyH (w : World) : Key → Int
  | .inl k => hashInt k
  | .inr x => hashStr w x
theorem keyIs_shape : ∀ {k : Key} {v : Value}, keyIs k v = true → (∃ i t, k = Sum.inl i ∧ v = Value.int i t) ∨ (∃ x t, k = Sum.inr x ∧ v = Value.str x t)
  | .inl i, v, h => by
    obtain ⟨t, e⟩ := Value.isInt_shape (k := i) (v := v) h
    exact .inl ⟨i, t, rfl, e⟩
  | .inr x, v, h => by
    obtain ⟨t, e⟩ := Value.isStrOf_shape (x := x) (v := v) h
    exact .inr ⟨x, t, rfl, e⟩
theorem keyIs_str (x : Str) (t : Tok) : keyIs (.inr x) (.str x t) = true := by simp [keyIs, Value.isStrOf]
theorem key_ll (a b : Int) : decide ((Sum.inl a : Key) = Sum.inl b) = (a == b) := by
  by_cases e : a = b
  · subst e; simp
  · have h : ¬ (Sum.inl a : Key) = Sum.inl b := fun q => e (Sum.inl.inj q)
    rw [decide_eq_false h]
    exact (beq_eq_false_iff_ne.mpr e).symm
theorem key_rr (a b : Str) : decide ((Sum.inr a : Key) = Sum.inr b) = decide (a = b) := by
  by_cases e : a = b
  · subst e; simp
  · have h : ¬ (Sum.inr a : Key) = Sum.inr b := fun q => e (Sum.inr.inj q)
    rw [decide_eq_false h, decide_eq_false e]
theorem key_lr (a : Int) (b : Str) : decide ((Sum.inl a : Key) = Sum.inr b) = false := decide_eq_false (fun q => nomatch q)
theorem key_rl (a : Str) (b : Int) : decide ((Sum.inr a : Key) = Sum.inl b) = false := decide_eq_false (fun q => nomatch q)

def mixKind (prog : Program) (w : World) : PySem.KeyKind prog w Key where
  is := keyIs
  hash := keyH w
  inj := fun v a b ha hb => by
    rcases keyIs_shape ha with ⟨i, t, rfl, rfl⟩ | ⟨x, t, rfl, rfl⟩
    · rcases keyIs_shape hb with ⟨j, u, rfl, e⟩ | ⟨y, u, rfl, e⟩
      · injection e with e1 _; rw [e1]
      · exact nomatch e
    · rcases keyIs_shape hb with ⟨j, u, rfl, e⟩ | ⟨y, u, rfl, e⟩
      · exact nomatch e
      · injection e with e1 _; rw [e1]
  byValue := fun k v h => by
    rcases keyIs_shape h with ⟨i, t, rfl, rfl⟩ | ⟨x, t, rfl, rfl⟩ <;> rfl
  pyHash := fun hv h => by
    rcases keyIs_shape hv with ⟨i, t, rfl, rfl⟩ | ⟨x, t, rfl, rfl⟩
    · exact wpAny_pyHash_int h
    · exact wpAny_pyHash_str h
  eqBool := fun hu hv h => by
    rcases keyIs_shape hu with ⟨i, t, rfl, rfl⟩ | ⟨x, t, rfl, rfl⟩
    · rcases keyIs_shape hv with ⟨j, u, rfl, rfl⟩ | ⟨y, u, rfl, rfl⟩
      · rw [key_ll] at h; exact wpAny_eqBool_int h
      · rw [key_lr] at h; exact SeqAt.EqAt.int_str i t y u _ _ _ _ h
    · rcases keyIs_shape hv with ⟨j, u, rfl, rfl⟩ | ⟨y, u, rfl, rfl⟩
      · rw [key_rl] at h; exact SeqAt.EqAt.str_int x t j u _ _ _ _ h
      · rw [key_rr] at h; exact wpAny_eqBool_str h
  «strs» := fun k x t v h => by
    rcases keyIs_shape h with ⟨i, u, rfl, e⟩ | ⟨y, u, rfl, e⟩
    · exact nomatch e
    · injection e with e1 _
      subst e1
      cases v <;> rfl

theorem mixKind_str (prog : Program) (w : World) (x : Str) (t : Tok) : (mixKind prog w).is (.inr x) (.str x t) = true := keyIs_str x t
end L2

namespace L2
open PySem PySem.Spec PyProof.Rows

/-- a value, without the heap -/
inductive V where
  | non | bl (b : Bool) | int (i : Int) | str (x : Str) | byt (b : Array UInt8) | flt (b : UInt64) | ref (a : Addr) | ty (n : String)
  deriving DecidableEq

def RelV : V → Value → Prop
  | .non, u => u = Value.none
  | .bl b, u => u = Value.bool b
  | .int i, u => ∃ t, u = Value.int i t
  | .str x, u => ∃ t, u = Value.str x t
  | .byt b, u => ∃ t, u = Value.bytes b t
  | .flt b, u => ∃ t, u = Value.float b t
  | .ref a, u => u = Value.ref a
  | .ty n, u => u = Value.type n

abbrev Vals : List V → List Value → Prop := Paired RelV
theorem Vals.length {xs : List V} {us : List Value} (r : Vals xs us) : xs.length = us.length := Paired.length r
theorem Vals.get : ∀ {xs : List V} {us : List Value} {i : Nat} {x : V}, Vals xs us → xs[i]? = some x → ∃ u, us[i]? = some u ∧ RelV x u
  | _, _, _, _, .nil, e => by simp at e
  | _, _, 0, _, .cons r _, e => by simp at e; subst e; exact ⟨_, rfl, r⟩
  | _, _, i + 1, x, .cons _ t, e => by
    obtain ⟨u, h1, h2⟩ := Vals.get (i := i) (x := x) t (by simpa using e)
    exact ⟨u, by simpa using h1, h2⟩
theorem Vals.set {x : V} {u : Value} (r : RelV x u) : ∀ {xs : List V} {us : List Value} (i : Nat), Vals xs us → Vals (xs.set i x) (us.set i u)
  | _, _, _, .nil => .nil
  | _, _, 0, .cons _ t => .cons r t
  | _, _, i + 1, .cons q t => .cons q (Vals.set r i t)
theorem Vals.append : ∀ {xs ys : List V} {us ws : List Value}, Vals xs us → Vals ys ws → Vals (xs ++ ys) (us ++ ws)
  | _, _, _, _, .nil, s => s
  | _, _, _, _, .cons r t, s => .cons r (Vals.append t s)
theorem Vals.take : ∀ {xs : List V} {us : List Value} (n : Nat), Vals xs us → Vals (xs.take n) (us.take n)
  | _, _, 0, _ => .nil
  | _, _, _ + 1, .nil => .nil
  | _, _, n + 1, .cons r t => .cons r (Vals.take n t)
theorem Vals.drop : ∀ {xs : List V} {us : List Value} (n : Nat), Vals xs us → Vals (xs.drop n) (us.drop n)
  | _, _, 0, r => r
  | _, _, _ + 1, .nil => .nil
  | _, _, n + 1, .cons _ t => Vals.drop n t
def RelO : Option V → Option Value → Prop
  | some v, some u => RelV v u
  | none, none => True
  | _, _ => False
def KV {κ : Type} : List (κ × V) → List (κ × Value) → Prop := Paired fun (p : κ × V) (q : κ × Value) => p.1 = q.1 ∧ RelV p.2 q.2

/-- a key of a dict (00_mix): an int or a text -/
def kV : Key → V
  | .inl i => .int i
  | .inr x => .str x

/-- what stands at a tracked address -/
inductive HO where
  /-- a list -/
  | lst (xs : List V)
  /-- a tuple (never changes) -/
  | tup (xs : List V)
  /-- a dict whose keys are ints and texts; one whose keys are tuples of ints and texts (the empty one is both) -/
  | dK (kvs : List (Key × V)) | dT (kvs : List (List Key × V))
  /-- a set of ints: its members, its size -/
  | set (S : Int → Bool) (n : Nat)
  /-- an instance of the class at C, its dict at dx, its attributes -/
  | ins (C dx : Addr) (fs : List (Str × V))
  /-- the dict of the instance at x -/
  | own (x : Addr)
  /-- the dict of an exception -/
  | xd (fs : List (Str × V))
  /-- a bound method, f of x -/
  | met (f x : Addr)
  /-- a range object lo, lo + 1, .. below hi -/
  | rng (lo hi : Int)
  /-- a thing that is known to the object (the script; a dict while a loop walks it): read, never written while it is so -/
  | frz (o : Obj) (u : HO)
  /-- a code object's table -/
  | tbl (ps : Array Value)
  /-- any other thing, by what is true of its one object (a def of one's own: SetO a S n := HO.ext fun h => ..) -/
  | ext (φ : Heap → Prop)

abbrev Hp := Addr → Option HO
def upd (H : Hp) (a : Addr) (o : HO) : Hp := fun b => if b = a then some o else H b
theorem upd_same {H : Hp} {a : Addr} {o : HO} : upd H a o a = some o := by unfold upd; rw [if_pos rfl]
theorem upd_ne {H : Hp} {a b : Addr} {o : HO} (h : b ≠ a) : upd H a o b = H b := by unfold upd; rw [if_neg h]
theorem upd_upd {H : Hp} {a : Addr} {o u : HO} : upd (upd H a o) a u = upd H a u := by
  funext b; unfold upd; split <;> rfl
/-- two objects of different content stand apart -/
theorem ne_of {H : Hp} {a b : Addr} {o u : HO} (h : H a = some o) (h' : H b = some u) (d : o ≠ u) : a ≠ b := by
  intro e; subst e; rw [h] at h'; exact d (Option.some.inj h')
theorem ne_of_none {H : Hp} {a b : Addr} {o : HO} (h : H a = some o) (h' : H b = none) : a ≠ b := by
  intro e; subst e; rw [h] at h'; cases h'

section
variable (P : Program) (w : World)
def ObjOk (H : Hp) (h : Heap) (a : Addr) : HO → Prop
  | .lst xs => xs.length ≤ sizeLine ∧ ∃ (its : List Value) (n : Nat), Vals xs its ∧ h.get? a = some { cls := .type "list", data := .seq its.toArray n }
  | .tup xs => xs.length ≤ sizeLine ∧ ∃ its : List Value, Vals xs its ∧ IsTup h a its.toArray
  | .dK kvs => kvs.length ≤ sizeLine ∧ (a == sysModules) = false ∧ ∃ vs, KV kvs vs ∧ h.DictOf (mixKind P w) a vs
  | .dT kvs => kvs.length ≤ sizeLine ∧ (a == sysModules) = false ∧ ∃ xs : List (List Key × Addr × Value),
      Paired (fun (p : List Key × V) (q : List Key × Addr × Value) => p.1 = q.1 ∧ H q.2.1 = some (.tup (p.1.map kV)) ∧ RelV p.2 q.2.2) kvs xs ∧
      ∃ o es ep, h.get? a = some o ∧ o.ExactDict ∧ o.data = .dict es ep ∧ es.toList = xs.map (entryOfKey (tupleKind (mixKind P w))) ∧ (xs.map (·.1)).Nodup
  | .set S n => h.SetOf (intKind P w) a S n
  | .ins C dx fs => H dx = some (.own a) ∧ fs.length ≤ 1000 ∧ dx ≠ a ∧ h.get? a = some (PySem.W.instObj C dx) ∧
      ∃ mA, h.Ns1 dx mA ∧ (∀ f, RelO (fs.lookup f) (mA f)) ∧ PySem.Within mA (fs.map (·.1))
  | .own _ => ∃ o, h.get? a = some o
  | .xd fs => ∃ mA, h.Ns1 a mA ∧ ∀ f, RelO (fs.lookup f) (mA f)
  | .rng lo hi => ∃ t u v, h.get? a = some { cls := .type "range", data := .fields #[.int lo t, .int hi u, .int 1 v] }
  | .frz o u => h.get? a = some o ∧ ObjOk H h a u
  | .tbl ps => h.get? a = some { cls := .none, data := .fields ps }
  | .met f x => h.get? a = some (PySem.W.methodObj (.ref f) (.ref x))
  | .ext φ => φ h ∧ (∃ o, h.get? a = some o) ∧ ∀ h1 h2 : Heap, φ h1 → (∀ o, h1.get? a = some o → h2.get? a = some o) → φ h2
/-- the abstract heap is held -/
def HOk (H : Hp) (h : Heap) : Prop := ∀ a o, H a = some o → ObjOk P w H h a o
end

section
variable {P : Program} {w : World} {H H' : Hp} {h h' : Heap} {a : Addr} {o : HO}
theorem ObjOk.lt (x : ObjOk P w H h a o) : a < h.objs.size := by
  cases o with
  | lst xs => obtain ⟨_, _, _, _, e⟩ := x; exact Heap.lt_size e
  | tup xs => obtain ⟨_, _, _, p⟩ := x; exact p.lt
  | dK kvs => obtain ⟨_, _, _, _, o, _, _, e, _⟩ := x; exact Heap.lt_size e
  | dT kvs => obtain ⟨_, _, _, _, o, _, _, e, _⟩ := x; exact Heap.lt_size e
  | set S n => obtain ⟨o, _, _, _, e, _⟩ := x; exact Heap.lt_size e
  | ins C dx fs => obtain ⟨_, _, _, e, _⟩ := x; exact Heap.lt_size e
  | own y => obtain ⟨_, e⟩ := x; exact Heap.lt_size e
  | xd fs => obtain ⟨_, ⟨_, _, _, e, _⟩, _⟩ := x; exact Heap.lt_size e
  | rng lo hi => obtain ⟨_, _, _, e⟩ := x; exact Heap.lt_size e
  | frz ob u => obtain ⟨e, _⟩ := x; exact Heap.lt_size e
  | tbl ps => exact Heap.lt_size (show h.get? a = some _ from x)
  | met f y => exact Heap.lt_size (show h.get? a = some _ from x)
  | ext φ => obtain ⟨_, ⟨_, e⟩, _⟩ := x; exact Heap.lt_size e
theorem Paired.mapP {α β : Type} {F G : α → β → Prop} : ∀ {l₁ : List α} {l₂ : List β}, Paired F l₁ l₂ → (∀ a b, F a b → G a b) → Paired G l₁ l₂
  | _, _, .nil, _ => .nil
  | _, _, .cons r t, f => .cons (f _ _ r) (Paired.mapP t f)
/-- what an object's description leans on: its own object, its own dict, the tuples -/
theorem ObjOk.stay (x : ObjOk P w H h a o) (k : ∀ b u, (b = a ∨ H b = some (.own a)) → h.get? b = some u → h'.get? b = some u)
    (ho : ∀ b, H b = some (.own a) → H' b = some (.own a)) (ht : ∀ b xs, H b = some (.tup xs) → H' b = some (.tup xs)) : ObjOk P w H' h' a o := by
  induction o with
  | lst xs => obtain ⟨z, its, n, r, e⟩ := x; exact ⟨z, its, n, r, k _ _ (.inl rfl) e⟩
  | tup xs => obtain ⟨z, its, r, ob, e, c⟩ := x; exact ⟨z, its, r, ob, k _ _ (.inl rfl) e, c⟩
  | dK kvs => obtain ⟨z, y, vs, r, ob, es, ep, e, c⟩ := x; exact ⟨z, y, vs, r, ob, es, ep, k _ _ (.inl rfl) e, c⟩
  | dT kvs =>
    obtain ⟨z, y, xs, r, ob, es, ep, e, c⟩ := x
    exact ⟨z, y, xs, Paired.mapP r fun p q z => ⟨z.1, ht _ _ z.2.1, z.2.2⟩, ob, es, ep, k _ _ (.inl rfl) e, c⟩
  | set S n => obtain ⟨ob, es, ep, t, e, c⟩ := x; exact ⟨ob, es, ep, t, k _ _ (.inl rfl) e, c⟩
  | ins C dx fs =>
    obtain ⟨d, z, ne, e, mA, ⟨od, es, ep, e2, c⟩, r⟩ := x
    exact ⟨ho _ d, z, ne, k _ _ (.inl rfl) e, mA, ⟨od, es, ep, k _ _ (.inr d) e2, c⟩, r⟩
  | own y => obtain ⟨ob, e⟩ := x; exact ⟨ob, k _ _ (.inl rfl) e⟩
  | xd fs => obtain ⟨mA, ⟨od, es, ep, e, c⟩, r⟩ := x; exact ⟨mA, ⟨od, es, ep, k _ _ (.inl rfl) e, c⟩, r⟩
  | rng lo hi => obtain ⟨t, u, v, e⟩ := x; exact ⟨t, u, v, k _ _ (.inl rfl) e⟩
  | frz ob u ih => obtain ⟨e, q⟩ := x; exact ⟨k _ _ (.inl rfl) e, ih q⟩
  | tbl ps =>
    have e : h.get? a = some { cls := .none, data := .fields ps } := x
    show h'.get? a = some { cls := .none, data := .fields ps }
    exact k a _ (.inl rfl) e
  | met f y =>
    have e : h.get? a = some (PySem.W.methodObj (.ref f) (.ref y)) := x
    show h'.get? a = some (PySem.W.methodObj (.ref f) (.ref y))
    exact k a _ (.inl rfl) e
  | ext φ => obtain ⟨p, ⟨o, e⟩, st⟩ := x; exact ⟨st _ _ p fun o q => k _ _ (.inl rfl) q, ⟨o, k _ _ (.inl rfl) e⟩, st⟩
theorem HOk.lt (x : HOk P w H h) (e : H a = some o) : a < h.objs.size := (x a o e).lt
theorem HOk.fresh (x : HOk P w H h) (e : h.objs.size ≤ a) : H a = none := by
  cases q : H a with
  | none => rfl
  | some u => exact absurd (Nat.lt_of_lt_of_le (x.lt q) e) (Nat.lt_irrefl _)
/-- every object of the heap is kept -/
theorem HOk.kept (x : HOk P w H h) (k : ∀ b u, h.get? b = some u → h'.get? b = some u) : HOk P w H h' := fun a o e =>
  (x a o e).stay (fun b u _ q => k b u q) (fun _ q => q) fun _ _ q => q
/-- a new object is laid and tracked -/
theorem HOk.laid (x : HOk P w H h) (k : ∀ b u, h.get? b = some u → h'.get? b = some u) (hp : h.objs.size ≤ a) (new : ObjOk P w (upd H a o) h' a o) : HOk P w (upd H a o) h' := fun b u e => by
  have hn := x.fresh hp
  by_cases hb : b = a
  · subst hb; rw [upd_same] at e; cases e; exact new
  · rw [upd_ne hb] at e
    exact (x b u e).stay (fun c v _ q => k c v q) (fun c q => by rw [upd_ne (ne_of_none q hn)]; exact q) fun c xs q => by rw [upd_ne (ne_of_none q hn)]; exact q
end

/-- what may be read as u: it is u, or a known u -/
def Rd (H : Hp) (a : Addr) (u : HO) : Prop := H a = some u ∨ ∃ o, H a = some (.frz o u)
theorem Rd.of {H : Hp} {a : Addr} {u : HO} (h : H a = some u) : Rd H a u := .inl h
theorem Rd.ok {P : Program} {w : World} {H : Hp} {h : Heap} {a : Addr} {u : HO} (r : Rd H a u) (x : HOk P w H h) : ObjOk P w H h a u := by
  rcases r with r | ⟨o, r⟩
  · exact x a u r
  · obtain ⟨_, q⟩ := x a _ r
    exact q
/-- what may be written -/
def Mut : Option HO → Prop
  | some (.lst _) => True
  | some (.dK _) => True
  | some (.dT _) => True
  | some (.set _ _) => True
  | some (.ins _ _ _) => True
  | some (.ext _) => True
  | _ => False
section
variable {P : Program} {w : World} {H : Hp} {h h' : Heap} {x e : Addr} {o' : HO}
/-- the object at e is changed: x itself, or the dict of the instance x -/
theorem HOk.write (ok : HOk P w H h) (mu : Mut (H x)) (he : e = x ∨ H e = some (.own x)) (k : ∀ b u, b ≠ e → h.get? b = some u → h'.get? b = some u) (heo : ∃ u, h'.get? e = some u)
    (new : ObjOk P w (upd H x o') h' x o') : HOk P w (upd H x o') h' := fun b u q => by
  have nown : ∀ c y, H c = some (.own y) → c ≠ x := fun c y r z => by subst z; rw [r] at mu; exact mu
  have ntup : ∀ c xs, H c = some (.tup xs) → c ≠ x := fun c xs r z => by subst z; rw [r] at mu; exact mu
  by_cases hb : b = x
  · subst hb; rw [upd_same] at q; cases q; exact new
  · rw [upd_ne hb] at q
    by_cases hbe : b = e
    · have q' : H b = some (.own x) := by
        rcases he with z | z
        · exact absurd (hbe.trans z) hb
        · rw [hbe]; exact z
      rw [q] at q'; cases q'
      obtain ⟨v, hv⟩ := heo
      exact ⟨v, by rw [hbe]; exact hv⟩
    · refine (ok b u q).stay (fun c v hc r => k c v ?_ r) (fun c r => by rw [upd_ne (nown c b r)]; exact r) fun c xs r => by rw [upd_ne (ntup c xs r)]; exact r
      rcases hc with rfl | hc
      · exact hbe
      · rintro rfl
        rcases he with z | z
        · exact nown c b hc z
        · rw [hc] at z; cases z; exact hb rfl
end

/-! ### kept unless tracked; of the frames at fs (the callers') the slots may change (an exception that passes writes there); of the records at ex (iterators) nothing is said -/
structure Un (fs ex : List Addr) (H H' : Hp) (h h' : Heap) : Prop where
  keep : ∀ b o, h.get? b = some o → H b = none → b ∉ fs → b ∉ ex → h'.get? b = some o
  slot : ∀ b o, h.get? b = some o → H b = none → b ∈ fs → b ∉ ex → ∃ sl, h'.get? b = some { o with slots := sl }
  free : ∀ b o, h.get? b = some o → H b = none → b ∉ ex → H' b = none
  there : ∀ b o, h.get? b = some o → b ∉ ex → ∃ o', h'.get? b = some o'
  tups : ∀ b xs, H b = some (.tup xs) → H' b = some (.tup xs)
  frzs : ∀ b o u, H b = some (.frz o u) → H' b = some (.frz o u)
  tbls : ∀ b ps, H b = some (.tbl ps) → ∃ more, H' b = some (.tbl (ps ++ more))
section
variable {fs fs' ex ex' : List Addr} {H H1 H2 : Hp} {h h1 h2 h' : Heap} {a x e : Addr} {o : HO}
theorem Un.any (u : Un fs ex H H1 h h1) {b : Addr} {ob : Obj} (q : h.get? b = some ob) (n : H b = none) (hx : b ∉ ex) : ∃ sl, h1.get? b = some { ob with slots := sl } := by
  by_cases hb : b ∈ fs
  · exact u.slot b ob q n hb hx
  · exact ⟨ob.slots, u.keep b ob q n hb hx⟩
theorem Un.trans (a : Un fs ex H H1 h h1) (b : Un fs ex H1 H2 h1 h2) : Un fs ex H H2 h h2 where
  keep := fun c ob q n hc hx => b.keep c ob (a.keep c ob q n hc hx) (a.free c ob q n hx) hc hx
  slot := fun c ob q n hc hx => by
    obtain ⟨sl, e1⟩ := a.slot c ob q n hc hx
    obtain ⟨sl', e2⟩ := b.slot c _ e1 (a.free c ob q n hx) hc hx
    exact ⟨sl', e2⟩
  free := fun c ob q n hx => by
    obtain ⟨o', e1⟩ := a.there c ob q hx
    exact b.free c o' e1 (a.free c ob q n hx) hx
  there := fun c ob q hx => by
    obtain ⟨o', e1⟩ := a.there c ob q hx
    exact b.there c o' e1 hx
  tups := fun c xs q => b.tups c xs (a.tups c xs q)
  frzs := fun c ob xs q => b.frzs c ob xs (a.frzs c ob xs q)
  tbls := fun c ps q => by
    obtain ⟨m1, e1⟩ := a.tbls c ps q
    obtain ⟨m2, e2⟩ := b.tbls c _ e1
    exact ⟨m1 ++ m2, by rw [e2, Array.append_assoc]⟩
theorem Un.kept (k : ∀ b u, h.get? b = some u → h'.get? b = some u) : Un fs ex H H h h' :=
  ⟨fun b ob q _ _ _ => k b ob q, fun b ob q _ _ _ => ⟨ob.slots, k b ob q⟩, fun _ _ _ n _ => n, fun b ob q _ => ⟨ob, k b ob q⟩, fun _ _ q => q, fun _ _ _ q => q, fun _ ps q => ⟨#[], by rw [q]; simp⟩⟩
theorem Un.refl : Un fs ex H H h h := Un.kept fun _ _ q => q
theorem Un.laid (k : ∀ b u, h.get? b = some u → h'.get? b = some u) (hp : h.objs.size ≤ a) (hn : H a = none) : Un fs ex H (upd H a o) h h' where
  keep := fun b u q _ _ _ => k b u q
  slot := fun b u q _ _ _ => ⟨u.slots, k b u q⟩
  free := fun b u q n _ => by rw [upd_ne (Nat.ne_of_lt (Nat.lt_of_lt_of_le (Heap.lt_size q) hp))]; exact n
  there := fun b u q _ => ⟨u, k b u q⟩
  tups := fun b xs q => by rw [upd_ne (ne_of_none q hn)]; exact q
  frzs := fun b u xs q => by rw [upd_ne (ne_of_none q hn)]; exact q
  tbls := fun b ps q => ⟨#[], by rw [upd_ne (ne_of_none q hn), q]; simp⟩
theorem Un.write (mu : Mut (H x)) (he : e = x ∨ H e = some (.own x)) (k : ∀ b u, b ≠ e → h.get? b = some u → h'.get? b = some u) (heo : ∃ u, h'.get? e = some u) : Un fs ex H (upd H x o) h h' := by
  have hx : ∀ b, H b = none → b ≠ x := fun b n z => by subst z; rw [n] at mu; exact mu
  have hb : ∀ b, H b = none → b ≠ e := fun b n z => by
    subst z
    rcases he with r | r
    · exact hx b n r
    · rw [n] at r; cases r
  have hm : ∀ b u, H b = some u → ¬ Mut (some u) → b ≠ x := fun b u q nm z => by subst z; rw [q] at mu; exact nm mu
  refine ⟨fun b u q n _ _ => k b u (hb b n) q, fun b u q n _ _ => ⟨u.slots, k b u (hb b n) q⟩, fun b u q n _ => by rw [upd_ne (hx b n)]; exact n, fun b u q _ => ?_,
    fun b xs q => by rw [upd_ne (hm b _ q fun z => z)]; exact q, fun b u xs q => by rw [upd_ne (hm b _ q fun z => z)]; exact q, fun b ps q => ⟨#[], by rw [upd_ne (hm b _ q fun z => z), q]; simp⟩⟩
  by_cases hbe : b = e
  · subst hbe; exact heo
  · exact ⟨u, k b u hbe q⟩
theorem Un.mono (u : Un fs ex H H1 h h1) (hs : ∀ b ∈ fs, b ∈ fs') (hx : ∀ b ∈ ex, b ∈ ex') : Un fs' ex' H H1 h h1 :=
  ⟨fun b ob q n hb he => u.keep b ob q n (fun z => hb (hs b z)) fun z => he (hx b z), fun _ _ q n _ he => u.any q n fun z => he (hx _ z), fun b ob q n he => u.free b ob q n fun z => he (hx b z), fun b ob q he => u.there b ob q fun z => he (hx b z), u.tups, u.frzs, u.tbls⟩
end

/-! ### the heap without what is tracked -/
def trk (h : Heap) (H : Hp) : List Addr := (List.range h.objs.size).filter fun a => (H a).isSome
def hidT (h : Heap) (H : Hp) : Heap := PySem.W.hideAll h (trk h H)
theorem hidT_size (h : Heap) (H : Hp) : (hidT h H).objs.size = h.objs.size := PySem.W.hideAll_size _ _
theorem hidT_get {h : Heap} {H : Hp} {b : Addr} {o : Obj} (e : h.get? b = some o) (n : H b = none) : (hidT h H).get? b = some o :=
  PySem.W.hideAll_get _ e fun hm => by
    have q : (H b).isSome = true := (List.mem_filter.mp hm).2
    rw [n] at q; simp at q
theorem of_hidT {h : Heap} {H : Hp} {b : Addr} {o : Obj} (e : (hidT h H).get? b = some o) : h.get? b = some o ∧ H b = none := by
  have e' : h.get? b = some o := PySem.W.of_hideAll (trk h H) e
  refine ⟨e', ?_⟩
  cases q : H b with
  | none => rfl
  | some x =>
    have hm : b ∈ trk h H := List.mem_filter.mpr ⟨List.mem_range.mpr (Heap.lt_size e'), by simp [q]⟩
    have z : (hidT h H).get? b = none := PySem.W.hideAll_none (trk h H) hm
    rw [z] at e; cases e

/-! ### OpenK's ledger, filled with every new object but one -/
def allNews (g h : Heap) (L : Addr) : List (Addr × Obj) := (List.range h.objs.size).filterMap fun a => if a = L ∨ (g.get? a).isSome = true then none else (h.get? a).map fun o => (a, o)
def rest (g h : Heap) (L d : Addr) : List (Addr × Obj) := (allNews g h L).filter fun p => decide (p.1 ≠ d)
end L2

namespace L2
open PySem PySem.Spec PyProof.Rows

/-- the module's facts, over the base: the heap at the law's entry without what is tracked there -/
structure Mod (K : PySem.W.Frag) (mg : Str → Option Value) (base : Heap) : Prop where
  kin : K.In base
  glob : base.Ns mainGlobals mg
  blt : ∃ mb, base.Ns builtinsNs mb ∧ ∀ x : Str, x ≠ "__name__" → mb x = bootBuiltins x
  nolimit : base.NoLimit

/-- the context: a def's body (or a comprehension's block) running. base: fixed through the whole law; s₀, H₀: the entry; outer: the frames whose slots others may change (a def's callers); stack: all frames that run;
   ex: iterators that were made ahead of the entry and are walked here (a comprehension's); fn: the names whose cells were made at the entry (a def: all; a comprehension's block: its own); calm: not within an except suite; pn: pins that every state bears; xe: what is wanted of an exception that leaves the code -/
structure Cx where
  prog : Program
  w : World
  K : PySem.W.Frag
  mg : Str → Option Value
  base : Heap
  A : Around
  N : List Str
  s₀ : Shared
  H₀ : Hp
  env : Env
  outer : List Env
  stack : List Env
  ex : List Addr
  fn : Str → Bool
  calm : Bool
  pn : List (Addr × Obj)
  xe : Value → Shared → Prop
/-- the callers' frames -/
def frs (l : List Env) : List Addr := l.filterMap (·.frame)
abbrev Cx.fs (X : Cx) : List Addr := frs X.outer

def Vis (sc : Scope) (x : Str) : Prop := sc.names.lookup x = some .local ∨ sc.names.lookup x = some .cell ∨ sc.names.lookup x = some .free
def Loc (sc : Scope) (x : Str) : Prop := sc.names.lookup x = some .local ∨ sc.names.lookup x = some .cell
def Look (env : Env) (h : Heap) (m : Str → Option Value) (x : Str) (u : Value) : Prop :=
  (env.kindOf x = some .local ∧ m x = some u) ∨ ((env.kindOf x = some .cell ∨ env.kindOf x = some .free) ∧ ∃ c, env.cells.lookup x = some c ∧ h.IsCell c (some u))

structure Cx.Ok (X : Cx) : Prop where
  mod : Mod X.K X.mg X.base
  kind : X.env.scope.kind = .function
  glob : X.env.globals = mainGlobals
  blt : X.env.builtins = builtinsNs
  above : X.s₀.heap.objs.size ≤ X.env.locals
  inj : ∀ x y c, X.env.cells.lookup x = some c → X.env.cells.lookup y = some c → x = y
  has : ∀ x, (X.env.kindOf x = some .cell ∨ X.env.kindOf x = some .free) → ∃ c, X.env.cells.lookup x = some c
  cab : ∀ x c, X.fn x = true → X.env.cells.lookup x = some c → X.s₀.heap.objs.size ≤ c
  hd : X.calm = true → X.A.handled = none
  frames : X.A.frames = some X.stack
  stk : X.stack = X.outer ∨ (X.stack = X.env :: X.outer ∧ X.env.frame = some X.env.locals)
  exf : ∀ b ∈ X.ex, b ≠ X.env.locals ∧ ∀ x c, X.env.cells.lookup x = some c → c ≠ b
  bs : ∀ b o, X.base.get? b = some o → X.s₀.heap.get? b = some o ∧ X.H₀ b = none
  bsz : X.base.objs.size ≤ X.s₀.heap.objs.size
  noex : ∀ b o, X.base.get? b = some o → b ∉ X.ex
  exfs : ∀ b ∈ X.ex, b ∉ X.fs
  funs : X.s₀.heap.FunFrames X.base X.outer
  frf : ∀ b ∈ X.fs, X.H₀ b = none

structure Inv (X : Cx) (pins : List (Addr × Obj)) (σ : List (Option V)) (H : Hp) (s : Shared) : Prop where
  ok : X.Ok
  os : s.os = X.s₀.os
  bare : AllBare s.gens
  base : Un X.fs X.ex X.H₀ H X.s₀.heap s.heap
  loc : ∃ m, s.heap.Ns X.env.locals m ∧ ∀ (i : Nat) (x : Str) (v : V), X.N[i]? = some x → σ[i]? = some (some v) → Vis X.env.scope x → ∃ u, RelV v u ∧ Look X.env s.heap m x u
  cell : ∀ x c, X.env.cells.lookup x = some c → ∃ v, s.heap.IsCell c v
  free : H X.env.locals = none
  freeC : ∀ x c, X.env.cells.lookup x = some c → H c = none
  pin : ∀ p ∈ X.pn ++ pins, s.heap.get? p.1 = some p.2 ∧ H p.1 = none ∧ p.1 ≠ X.env.locals ∧ p.1 ∉ X.fs ∧ ∀ v, p.2.data ≠ .cell v
  hok : HOk X.prog X.w H s.heap
  len : σ.length = X.N.length

section
variable {X : Cx} {pins : List (Addr × Obj)} {σ : List (Option V)} {H H' : Hp} {s : Shared} {h' : Heap}

theorem Cx.Ok.nofr (ok : X.Ok) {b : Addr} {o : Obj} (e : X.base.get? b = some o) : b ∉ X.fs := fun hb => by
  have := (ok.funs.mem hb).1
  rw [e] at this; cases this
theorem Inv.bs (I : Inv X pins σ H s) : ∀ b o, X.base.get? b = some o → s.heap.get? b = some o ∧ H b = none := fun b o e =>
  ⟨I.base.keep b o (I.ok.bs b o e).1 (I.ok.bs b o e).2 (I.ok.nofr e) (I.ok.noex b o e), I.base.free b o (I.ok.bs b o e).1 (I.ok.bs b o e).2 (I.ok.noex b o e)⟩
theorem Inv.bk (I : Inv X pins σ H s) : ∀ b o, X.base.get? b = some o → s.heap.get? b = some o := fun b o e => (I.bs b o e).1
theorem Inv.mod (I : Inv X pins σ H s) : Mod X.K X.mg X.base := I.ok.mod
theorem Inv.kIn (I : Inv X pins σ H s) : X.K.In s.heap := I.ok.mod.kin.keeps I.bk
theorem Inv.nolimit (I : Inv X pins σ H s) : s.heap.NoLimit := I.ok.mod.nolimit.keeps I.bk
/-- the frame over the base: for OpenK's rules (K.In X.base is I.mod.kin) -/
theorem Inv.fr (I : Inv X pins σ H s) : ∃ m, Fr X.base X.env.locals s.heap m :=
  let ⟨m, hn, _⟩ := I.loc
  ⟨m, hn, I.bk, Nat.le_trans I.ok.bsz I.ok.above⟩
theorem Inv.lt (I : Inv X pins σ H s) : X.env.locals < s.heap.objs.size := let ⟨_, hn, _⟩ := I.loc; hn.lt
theorem Inv.sz (I : Inv X pins σ H s) : X.s₀.heap.objs.size ≤ s.heap.objs.size := Nat.le_trans I.ok.above (Nat.le_of_lt I.lt)
theorem Inv.nofs (I : Inv X pins σ H s) {a : Addr} (h : s.heap.objs.size ≤ a) : a ∉ X.fs := fun hb => by
  obtain ⟨_, o, ho, _⟩ := I.ok.funs.mem hb
  exact absurd (Nat.lt_of_lt_of_le (Heap.lt_size ho) (Nat.le_trans I.sz h)) (Nat.lt_irrefl _)
theorem Inv.cne (I : Inv X pins σ H s) : ∀ x c, X.env.cells.lookup x = some c → c ≠ X.env.locals := fun x c e z => by
  obtain ⟨v, o, ho, hd⟩ := I.cell x c e
  obtain ⟨m, ⟨o', es, ep, ho', hd', _⟩, _⟩ := I.loc
  rw [z, ho'] at ho; cases ho; rw [hd'] at hd; cases hd
theorem Inv.funs (I : Inv X pins σ H s) : s.heap.FunFrames X.base X.outer := by
  have all : ∀ (l : List Env), (∀ b ∈ frs l, b ∈ X.fs) → X.s₀.heap.FunFrames X.base l → s.heap.FunFrames X.base l := by
    intro l
    induction l with
    | nil => intro _ _; trivial
    | cons env r ih =>
      intro hs hl
      obtain ⟨hk, ⟨L, o, hf, hn, ho, hd⟩, hr⟩ := hl
      have hL : L ∈ X.fs := hs L (by unfold frs; rw [List.filterMap_cons, hf]; exact List.mem_cons_self)
      obtain ⟨sl, e⟩ := I.base.slot L o ho (I.ok.frf L hL) hL fun z => I.ok.exfs L z hL
      exact ⟨hk, ⟨L, _, hf, hn, e, hd⟩, ih (fun b hb => hs b (by unfold frs; rw [List.filterMap_cons, hf]; exact List.mem_cons_of_mem _ hb)) hr⟩
  exact all X.outer (fun _ hb => hb) I.ok.funs

/-- the frames that run, for a call -/
theorem Inv.stack (I : Inv X pins σ H s) : s.heap.FunFrames X.base X.stack := by
  rcases I.ok.stk with e | ⟨e, hf⟩
  · rw [e]; exact I.funs
  · rw [e]
    obtain ⟨m, hn, _⟩ := I.loc
    refine .cons (by rw [I.ok.kind]; decide) hf hn ?_ I.funs
    exact Heap.get?_none_of_le (Nat.le_trans I.ok.bsz I.ok.above)
theorem Inv.stkSub (I : Inv X pins σ H s) : ∀ b ∈ frs X.stack, b ∈ X.env.locals :: X.fs := fun b hb => by
  rcases I.ok.stk with e | ⟨e, hf⟩
  · rw [e] at hb; exact List.mem_cons_of_mem _ hb
  · rw [e] at hb
    unfold frs at hb
    rw [List.filterMap_cons, hf] at hb
    exact hb
theorem Inv.stkFree (I : Inv X pins σ H s) : ∀ b ∈ frs X.stack, H b = none := fun b hb => by
  rcases List.mem_cons.mp (I.stkSub b hb) with e | hb
  · rw [e]; exact I.free
  · obtain ⟨_, o, ho, _⟩ := I.ok.funs.mem hb
    exact I.base.free b o ho (I.ok.frf b hb) fun z => I.ok.exfs b z hb

/-- THE STEP: the untracked objects but the frame and the records at ch are kept (the callers' frames up to slots), the frame's map is kept, the new abstract heap is held -/
theorem Inv.step {g' : Array GenState} {t' : Nat} {d' : Drawn} {ch : List Addr} (I : Inv X pins σ H s)
    (hch : ∀ b ∈ ch, (b ∈ X.ex ∨ X.s₀.heap.objs.size ≤ b) ∧ b ≠ X.env.locals ∧ (∀ x c, X.env.cells.lookup x = some c → c ≠ b) ∧ ∀ p ∈ X.pn ++ pins, p.1 ≠ b)
    (keep : ∀ b o, b ≠ X.env.locals → b ∉ X.fs → b ∉ ch → s.heap.get? b = some o → H b = none → h'.get? b = some o)
    (slot : ∀ b o, b ≠ X.env.locals → b ∈ X.fs → b ∉ ch → s.heap.get? b = some o → H b = none → ∃ sl, h'.get? b = some { o with slots := sl }) (free : ∀ b o, b ∉ ch → s.heap.get? b = some o → H b = none → H' b = none)
    (there : ∀ b o, b ∉ ch → s.heap.get? b = some o → ∃ o', h'.get? b = some o')
    (tups : ∀ b xs, H b = some (.tup xs) → H' b = some (.tup xs)) (frzs : ∀ b o u, H b = some (.frz o u) → H' b = some (.frz o u)) (tbls : ∀ b ps, H b = some (.tbl ps) → ∃ more, H' b = some (.tbl (ps ++ more)))
    (ns : ∀ m, s.heap.Ns X.env.locals m → h'.Ns X.env.locals m) (hok : HOk X.prog X.w H' h') (hg : AllBare g') :
    Inv X pins σ H' { s with heap := h', gens := g', drawn := d', toks := t' } := by
  have neL : ∀ b o, X.s₀.heap.get? b = some o → b ≠ X.env.locals := fun b o e => Nat.ne_of_lt (Nat.lt_of_lt_of_le (Heap.lt_size e) I.ok.above)
  have neC : ∀ b o, X.s₀.heap.get? b = some o → b ∉ X.ex → b ∉ ch := fun b o e hx hb => by
    rcases (hch b hb).1 with z | z
    · exact hx z
    · exact absurd (Nat.lt_of_lt_of_le (Heap.lt_size e) z) (Nat.lt_irrefl _)
  have cellK : ∀ x c, X.env.cells.lookup x = some c → ∀ v, s.heap.IsCell c v → h'.IsCell c v := fun x c e v ⟨o, ho, hd⟩ => by
    have nch : c ∉ ch := fun z => (hch c z).2.2.1 x c e rfl
    by_cases hc : c ∈ X.fs
    · obtain ⟨sl, q⟩ := slot c o (I.cne x c e) hc nch ho (I.freeC x c e)
      exact ⟨_, q, hd⟩
    · exact ⟨o, keep c o (I.cne x c e) hc nch ho (I.freeC x c e), hd⟩
  refine ⟨I.ok, I.os, hg, ⟨fun b o e n hb hx => ?_, fun b o e n hb hx => ?_, fun b o e n hx => ?_, fun b o e hx => ?_, fun b xs e => tups b xs (I.base.tups b xs e), fun b o xs e => frzs b o xs (I.base.frzs b o xs e), fun b ps e => ?_⟩, ?_, fun x c e => ?_, ?_, fun x c e => ?_, fun p hp => ?_, hok, I.len⟩
  · exact keep b o (neL b o e) hb (neC b o e hx) (I.base.keep b o e n hb hx) (I.base.free b o e n hx)
  · obtain ⟨sl, e1⟩ := I.base.slot b o e n hb hx
    obtain ⟨sl', e2⟩ := slot b _ (neL b o e) hb (neC b o e hx) e1 (I.base.free b o e n hx)
    exact ⟨sl', e2⟩
  · obtain ⟨o', e1⟩ := I.base.there b o e hx
    exact free b o' (neC b o e hx) e1 (I.base.free b o e n hx)
  · obtain ⟨o', e1⟩ := I.base.there b o e hx
    exact there b o' (neC b o e hx) e1
  · obtain ⟨m1, e1⟩ := I.base.tbls b ps e
    obtain ⟨m2, e2⟩ := tbls b _ e1
    exact ⟨m1 ++ m2, by rw [e2, Array.append_assoc]⟩
  · obtain ⟨m, hn, hl⟩ := I.loc
    refine ⟨m, ns m hn, fun i x v e1 e2 e3 => ?_⟩
    obtain ⟨u, r, l⟩ := hl i x v e1 e2 e3
    refine ⟨u, r, ?_⟩
    rcases l with l | ⟨k, c, e, z⟩
    · exact .inl l
    · exact .inr ⟨k, c, e, cellK x c e _ z⟩
  · obtain ⟨v, z⟩ := I.cell x c e
    exact ⟨v, cellK x c e v z⟩
  · obtain ⟨m, ⟨o, _, _, ho, _⟩, _⟩ := I.loc
    exact free _ o (fun z => (hch _ z).2.1 rfl) ho I.free
  · obtain ⟨v, o, ho, hd⟩ := I.cell x c e
    exact free c o (fun z => (hch c z).2.2.1 x c e rfl) ho (I.freeC x c e)
  · obtain ⟨e, n, ne, nf, d⟩ := I.pin p hp
    have nch : p.1 ∉ ch := fun z => (hch p.1 z).2.2.2 p hp rfl
    exact ⟨keep p.1 p.2 ne nf nch e n, free p.1 p.2 nch e n, ne, nf, d⟩
/-- .. where the frame's own object is kept too -/
theorem Inv.un {t' : Nat} (I : Inv X pins σ H s) (u : Un X.fs [] H H' s.heap h') (hok : HOk X.prog X.w H' h') : Inv X pins σ H' { s with heap := h', toks := t' } := by
  obtain ⟨m, ⟨o, es, ep, ho, r⟩, _⟩ := id I.loc
  obtain ⟨sl, hL⟩ := u.any ho I.free (by simp)
  exact I.step (g' := s.gens) (d' := s.drawn) (ch := []) (fun _ z => nomatch z) (fun b o _ hb _ e n => u.keep b o e n hb (by simp)) (fun b o _ hb _ e n => u.slot b o e n hb (by simp)) (fun b o _ e n => u.free b o e n (by simp)) (fun b o _ e => u.there b o e (by simp)) u.tups u.frzs u.tbls (fun m' hm => by
    obtain ⟨o', es', ep', ho', r'⟩ := hm
    rw [ho] at ho'; cases ho'
    exact ⟨_, es', ep', hL, r'⟩) hok I.bare
/-- behind a call (or a comprehension's block): the slots of this frame may have changed too, the records at ch may have turned -/
theorem Inv.call {g' : Array GenState} {t' : Nat} {d' : Drawn} {ch : List Addr} (I : Inv X pins σ H s) (u : Un (frs X.stack) ch H H' s.heap h') (hok : HOk X.prog X.w H' h') (hg : AllBare g')
    (hch : ∀ b ∈ ch, (b ∈ X.ex ∨ X.s₀.heap.objs.size ≤ b) ∧ b ≠ X.env.locals ∧ (∀ x c, X.env.cells.lookup x = some c → c ≠ b) ∧ ∀ p ∈ X.pn ++ pins, p.1 ≠ b) :
    Inv X pins σ H' { s with heap := h', gens := g', drawn := d', toks := t' } := by
  obtain ⟨m, ⟨o, es, ep, ho, r⟩, _⟩ := id I.loc
  obtain ⟨sl, hL⟩ := u.any ho I.free fun z => (hch _ z).2.1 rfl
  exact I.step (ch := ch) hch (fun b o hL hb hc e n => u.keep b o e n (fun z => (List.mem_cons.mp (I.stkSub b z)).elim hL hb) hc) (fun b o _ _ hc e n => u.any e n hc) (fun b o hc e n => u.free b o e n hc) (fun b o hc e => u.there b o e hc) u.tups u.frzs u.tbls (fun m' hm => by
    obtain ⟨o', es', ep', ho', r'⟩ := hm
    rw [ho] at ho'; cases ho'
    exact ⟨_, es', ep', hL, r'⟩) hok hg
/-- an untracked record of ours (an iterator) has turned -/
theorem Inv.turned {t' : Nat} {it : Addr} (I : Inv X pins σ H s) (k : ∀ b o, b ≠ it → s.heap.get? b = some o → h'.get? b = some o) (hn : H it = none) (hL : it ≠ X.env.locals)
    (h1 : it ∈ X.ex ∨ X.s₀.heap.objs.size ≤ it) (h2 : ∀ x c, X.env.cells.lookup x = some c → c ≠ it) (h3 : ∀ p ∈ X.pn ++ pins, p.1 ≠ it) : Inv X pins σ H { s with heap := h', toks := t' } := by
  have nit : ∀ b u, H b = some u → b ≠ it := fun b u e z => by rw [z, hn] at e; cases e
  refine I.step (g' := s.gens) (d' := s.drawn) (ch := [it]) (fun b hb => ?_) (fun b o _ _ hc e _ => k b o (fun z => hc (by simp [z])) e) (fun b o _ _ hc e _ => ⟨o.slots, k b o (fun z => hc (by simp [z])) e⟩) (fun _ _ _ _ n => n)
    (fun b o hc e => ⟨o, k b o (fun z => hc (by simp [z])) e⟩) (fun _ _ e => e) (fun _ _ _ e => e) (fun b ps e => ⟨#[], by rw [e]; simp⟩) (fun m hm => ?_) (fun b u e => ?_) I.bare
  · have e : b = it := by simpa using hb
    subst e
    exact ⟨h1, hL, h2, h3⟩
  · obtain ⟨o, es, ep, ho, r⟩ := hm
    exact ⟨o, es, ep, k _ o (Ne.symm hL) ho, r⟩
  · refine (I.hok b u e).stay (fun c v hc q => k c v ?_ q) (fun _ q => q) fun _ _ q => q
    rcases hc with z | z
    · rw [z]; exact nit b u e
    · exact nit c _ z
theorem Inv.tok (I : Inv X pins σ H s) (t : Nat) : Inv X pins σ H { s with toks := t } := I.un (h' := s.heap) (t' := t) Un.refl I.hok
/-- all objects kept -/
theorem Inv.kept {t' : Nat} (I : Inv X pins σ H s) (k : ∀ b u, s.heap.get? b = some u → h'.get? b = some u) : Inv X pins σ H { s with heap := h', toks := t' } := I.un (Un.kept k) (I.hok.kept k)
/-- a new object laid and tracked -/
theorem Inv.laid {a : Addr} {o : HO} {t' : Nat} (I : Inv X pins σ H s) (k : ∀ b u, s.heap.get? b = some u → h'.get? b = some u) (hp : s.heap.objs.size ≤ a) (new : ObjOk X.prog X.w (upd H a o) h' a o) :
    Inv X pins σ (upd H a o) { s with heap := h', toks := t' } := I.un (Un.laid k hp (I.hok.fresh hp)) (I.hok.laid k hp new)
/-- an object written -/
theorem Inv.write {x e : Addr} {o : HO} {t' : Nat} (I : Inv X pins σ H s) (mu : Mut (H x)) (he : e = x ∨ H e = some (.own x)) (k : ∀ b u, b ≠ e → s.heap.get? b = some u → h'.get? b = some u) (heo : ∃ u, h'.get? e = some u)
    (new : ObjOk X.prog X.w (upd H x o) h' x o) : Inv X pins σ (upd H x o) { s with heap := h', toks := t' } := I.un (Un.write mu he k heo) (I.hok.write mu he k heo new)
/-- forgetting slots, pins -/
theorem Inv.weak {σ' : List (Option V)} (I : Inv X pins σ H s) (hl : σ'.length = σ.length) (w : ∀ (i : Nat) v, σ'[i]? = some (some v) → σ[i]? = some (some v)) : Inv X pins σ' H s :=
  ⟨I.ok, I.os, I.bare, I.base, let ⟨m, hn, hl'⟩ := I.loc; ⟨m, hn, fun i x v e1 e2 e3 => hl' i x v e1 (w i v e2) e3⟩, I.cell, I.free, I.freeC, I.pin, I.hok, hl.trans I.len⟩
theorem Inv.pins_of {pins' : List (Addr × Obj)} (I : Inv X pins σ H s) (h : ∀ p ∈ pins', s.heap.get? p.1 = some p.2 ∧ H p.1 = none ∧ p.1 ≠ X.env.locals ∧ p.1 ∉ X.fs ∧ ∀ v, p.2.data ≠ .cell v) : Inv X pins' σ H s :=
  ⟨I.ok, I.os, I.bare, I.base, I.loc, I.cell, I.free, I.freeC, fun p hp => (List.mem_append.mp hp).elim (fun z => I.pin p (List.mem_append_left _ z)) (h p), I.hok, I.len⟩

theorem nodup_ix {N : List Str} (hN : N.Nodup) {i j : Nat} {x : Str} (a : N[i]? = some x) (b : N[j]? = some x) : i = j := by
  obtain ⟨h1, e1⟩ := List.getElem?_eq_some_iff.mp a
  obtain ⟨h2, e2⟩ := List.getElem?_eq_some_iff.mp b
  exact (List.getElem_inj hN).mp (e1.trans e2.symm)

/-- a name is stored; what changed -/
theorem store_ok2 {M : Model} {A : Around} {E : Value → Shared → Prop} {i : Nat} {x : Str} {v : V} {u : Value} {Q : Unit → Shared → Prop} (I : Inv X pins σ H s) (hN : X.N.Nodup) (hi : X.N[i]? = some x) (hx : Loc X.env.scope x) (r : RelV v u)
    (h : ∀ s', Inv X pins (σ.set i (some v)) H s' → (∃ a, Heap.SameBut a s.heap s'.heap ∧ (a = X.env.locals ∨ X.env.cells.lookup x = some a)) → Q () s') (hf : X.fn x = true ∨ X.env.scope.names.lookup x = some .local := by first | exact .inl rfl | exact .inr rfl | assumption) : wpAny M A (storeName X.env x u) Q E s := by
  obtain ⟨m, hn, hl⟩ := id I.loc
  have hcls : (X.env.scope.kind == .class || (X.env.scope.kind == .module && X.env.locals != X.env.globals)) = false := by rw [I.ok.kind]; rfl
  have hiσ : i < σ.length := by rw [I.len]; exact (List.getElem?_eq_some_iff.mp hi).1
  have cne := I.cne
  have tracked : ∀ {a : Addr} {h' : Heap}, (∃ o, s.heap.get? a = some o ∧ H a = none) → Heap.SameBut a s.heap h' → HOk X.prog X.w H h' := fun {a h'} ha hs b ob e => by
    obtain ⟨_, _, hfree⟩ := ha
    refine (I.hok b ob e).stay (fun c w' hc q => (hs.2 c ?_).trans q) (fun _ q => q) fun _ _ q => q
    rintro rfl
    rcases hc with rfl | hc
    · rw [hfree] at e; cases e
    · rw [hfree] at hc; cases hc
  rcases hx with hk | hk
  · refine wpAny_storeName_local hk hn (fun h' hn' hs => ?_) hcls
    obtain ⟨oL, _, _, hoL, _⟩ := id hn
    refine h _ ⟨I.ok, I.os, I.bare, ⟨fun b o e n hb hx => ?_, fun b o e n hb hx => ?_, I.base.free, fun b o e hx => ?_, I.base.tups, I.base.frzs, I.base.tbls⟩, ⟨_, hn', fun j y v' e1 e2 e3 => ?_⟩, fun y c e => ?_, I.free, I.freeC, fun p hp => ?_, tracked ⟨oL, hoL, I.free⟩ hs, by simpa using I.len⟩ ⟨_, hs, .inl rfl⟩
    · exact (hs.2 b (Nat.ne_of_lt (Nat.lt_of_lt_of_le (Heap.lt_size e) I.ok.above))).trans (I.base.keep b o e n hb hx)
    · obtain ⟨sl, e1⟩ := I.base.slot b o e n hb hx
      exact ⟨sl, (hs.2 b (Nat.ne_of_lt (Nat.lt_of_lt_of_le (Heap.lt_size e) I.ok.above))).trans e1⟩
    · obtain ⟨o', e1⟩ := I.base.there b o e hx
      exact ⟨o', (hs.2 b (Nat.ne_of_lt (Nat.lt_of_lt_of_le (Heap.lt_size e) I.ok.above))).trans e1⟩
    · by_cases hj : j = i
      · subst hj
        rw [hi] at e1; cases e1
        rw [List.getElem?_set_self hiσ] at e2
        cases e2
        exact ⟨u, r, .inl ⟨hk, by simp⟩⟩
      · rw [List.getElem?_set_ne (Ne.symm hj)] at e2
        obtain ⟨u', r', q⟩ := hl j y v' e1 e2 e3
        refine ⟨u', r', ?_⟩
        rcases q with ⟨k, e⟩ | ⟨k, c, e, z⟩
        · refine .inl ⟨k, ?_⟩
          have : y ≠ x := fun e => hj (nodup_ix hN e1 (e ▸ hi))
          simp [this, e]
        · exact .inr ⟨k, c, e, z.sameBut hs (cne y c e)⟩
    · obtain ⟨w', z⟩ := I.cell y c e
      exact ⟨w', z.sameBut hs (cne y c e)⟩
    · obtain ⟨e, n, ne, nf, d⟩ := I.pin p hp
      exact ⟨(hs.2 p.1 ne).trans e, n, ne, nf, d⟩
  · have hfn : X.fn x = true := by
      rcases hf with z | z
      · exact z
      · rw [z] at hk; cases hk
    obtain ⟨c, hc⟩ := I.ok.has x (.inl hk)
    obtain ⟨w', z⟩ := I.cell x c hc
    refine wpAny_storeName_cell I.ok.kind hk hc z (fun h' hc' hs => ?_)
    obtain ⟨oc, hoc, hocd⟩ := id z
    refine h { s with heap := h' } ⟨I.ok, I.os, I.bare, ⟨fun b o e n hb hx => ?_, fun b o e n hb hx => ?_, I.base.free, fun b o e hx => ?_, I.base.tups, I.base.frzs, I.base.tbls⟩, ⟨m, hn.sameBut hs (Ne.symm (cne x c hc)), fun j y v' e1 e2 e3 => ?_⟩, fun y c' e => ?_, I.free, I.freeC, fun p hp => ?_, tracked ⟨oc, hoc, I.freeC x c hc⟩ hs, by simpa using I.len⟩ ⟨c, hs, .inr hc⟩
    · exact (hs.2 b (Nat.ne_of_lt (Nat.lt_of_lt_of_le (Heap.lt_size e) (I.ok.cab x c hfn hc)))).trans (I.base.keep b o e n hb hx)
    · obtain ⟨sl, e1⟩ := I.base.slot b o e n hb hx
      exact ⟨sl, (hs.2 b (Nat.ne_of_lt (Nat.lt_of_lt_of_le (Heap.lt_size e) (I.ok.cab x c hfn hc)))).trans e1⟩
    · obtain ⟨o', e1⟩ := I.base.there b o e hx
      exact ⟨o', (hs.2 b (Nat.ne_of_lt (Nat.lt_of_lt_of_le (Heap.lt_size e) (I.ok.cab x c hfn hc)))).trans e1⟩
    · by_cases hj : j = i
      · subst hj
        rw [hi] at e1; cases e1
        rw [List.getElem?_set_self hiσ] at e2
        cases e2
        exact ⟨u, r, .inr ⟨.inl hk, c, hc, hc'⟩⟩
      · rw [List.getElem?_set_ne (Ne.symm hj)] at e2
        obtain ⟨u', r', q⟩ := hl j y v' e1 e2 e3
        refine ⟨u', r', ?_⟩
        rcases q with q | ⟨k, c', e, z'⟩
        · exact .inl q
        · refine .inr ⟨k, c', e, z'.sameBut hs ?_⟩
          rintro rfl
          exact hj (nodup_ix hN e1 (I.ok.inj _ _ _ e hc ▸ hi))
    · by_cases hcc : c' = c
      · subst hcc; exact ⟨_, hc'⟩
      · obtain ⟨w2, z2⟩ := I.cell y c' e
        exact ⟨w2, z2.sameBut hs hcc⟩
    · obtain ⟨e, n, ne, nf, d⟩ := I.pin p hp
      refine ⟨(hs.2 p.1 ?_).trans e, n, ne, nf, d⟩
      intro q
      rw [q, hoc] at e
      have q' : oc = p.2 := Option.some.inj e
      exact d w' (by rw [← q']; exact hocd)
theorem store_ok {M : Model} {A : Around} {E : Value → Shared → Prop} {i : Nat} {x : Str} {v : V} {u : Value} {Q : Unit → Shared → Prop} (I : Inv X pins σ H s) (hN : X.N.Nodup) (hi : X.N[i]? = some x) (hx : Loc X.env.scope x) (r : RelV v u)
    (h : ∀ s', Inv X pins (σ.set i (some v)) H s' → Q () s') (hf : X.fn x = true ∨ X.env.scope.names.lookup x = some .local := by first | exact .inl rfl | exact .inr rfl | assumption) : wpAny M A (storeName X.env x u) Q E s :=
  store_ok2 I hN hi hx r (fun s' I' _ => h s' I') hf
/-- behind a call or a block, the state as it is -/
theorem Inv.call' {s' : Shared} {ch : List Addr} (I : Inv X pins σ H s) (ho : s'.os = s.os) (u : Un (frs X.stack) ch H H' s.heap s'.heap) (hok : HOk X.prog X.w H' s'.heap) (hg : AllBare s'.gens)
    (hch : ∀ b ∈ ch, (b ∈ X.ex ∨ X.s₀.heap.objs.size ≤ b) ∧ b ≠ X.env.locals ∧ (∀ x c, X.env.cells.lookup x = some c → c ≠ b) ∧ ∀ p ∈ X.pn ++ pins, p.1 ≠ b) : Inv X pins σ H' s' := by
  obtain ⟨h', g', d', t', o'⟩ := s'
  have e : o' = s.os := ho
  subst e
  exact I.call (g' := g') (t' := t') (d' := d') u hok hg hch
end

/-! ### the judgements -/
/-- an exception: its class, its own dict's address (where it has one), the abstract heap behind it -/
abbrev XK := Value → Option Addr → Hp → Prop
abbrev St := List (Option V)
abbrev VK := V → Hp → Prop
/-- an expression's reading; a test's; an argument list's -/
abbrev TE := St → Hp → VK → Prop
abbrev TT := St → Hp → (Bool → Hp → Prop) → Prop
abbrev TA := St → Hp → (List V → Hp → Prop) → Prop
/-- what is wanted behind a statement -/
structure Ends where
  nx : St → Hp → Prop
  rt : VK
  bk : St → Hp → Prop := fun _ _ => False
  ct : St → Hp → Prop := fun _ _ => False
abbrev TS := Ends → St → Hp → Prop

def EP (X : Cx) (pins : List (Addr × Obj)) (σ : St) (Q : VK) (u : Value) (s' : Shared) : Prop := ∃ v H', Inv X pins σ H' s' ∧ RelV v u ∧ Q v H'
def TP (X : Cx) (pins : List (Addr × Obj)) (σ : St) (Q : Bool → Hp → Prop) (b : Bool) (s' : Shared) : Prop := ∃ H', Inv X pins σ H' s' ∧ Q b H'
def AP (X : Cx) (pins : List (Addr × Obj)) (σ : St) (Q : List V → Hp → Prop) (us : List Value) (s' : Shared) : Prop := ∃ vs H', Inv X pins σ H' s' ∧ Vals vs us ∧ Q vs H'
def SP (X : Cx) (pins : List (Addr × Obj)) (D : Ends) (f : Flow) (s' : Shared) : Prop :=
  match f with
  | .next => ∃ σ' H', Inv X pins σ' H' s' ∧ D.nx σ' H'
  | .brk => ∃ σ' H', Inv X pins σ' H' s' ∧ D.bk σ' H'
  | .cont => ∃ σ' H', Inv X pins σ' H' s' ∧ D.ct σ' H'
  | .ret u => ∃ v σ' H', Inv X pins σ' H' s' ∧ RelV v u ∧ D.rt v H'

def PE (X : Cx) (e : Expr) (t : TE) : Prop :=
  ∀ (pins : List (Addr × Obj)) (s : Shared) (σ : St) (H : Hp) (Q : VK), Inv X pins σ H s → t σ H Q → wpAny (model X.prog X.w) X.A (eval e X.env) (EP X pins σ Q) X.xe s
def PT (X : Cx) (e : Expr) (t : TT) : Prop :=
  ∀ (pins : List (Addr × Obj)) (s : Shared) (σ : St) (H : Hp) (Q : Bool → Hp → Prop), Inv X pins σ H s → t σ H Q → wpAny (model X.prog X.w) X.A (isTrue e X.env (eval e X.env)) (TP X pins σ Q) X.xe s
/-- a test whatever its 'whole' is (and, or) -/
def PW (X : Cx) (e : Expr) (t : TT) : Prop :=
  ∀ (whole : Sem Value) (pins : List (Addr × Obj)) (s : Shared) (σ : St) (H : Hp) (Q : Bool → Hp → Prop), Inv X pins σ H s → t σ H Q → wpAny (model X.prog X.w) X.A (isTrue e X.env whole) (TP X pins σ Q) X.xe s
theorem PW.pt {X : Cx} {e : Expr} {t : TT} (h : PW X e t) : PT X e t := h _
/-- an argument list (no star), from the left -/
def PA (X : Cx) (es : List Expr) (t : TA) : Prop :=
  ∀ (pos : Pos) (pins : List (Addr × Obj)) (s : Shared) (σ : St) (H : Hp) (Q : List V → Hp → Prop), Inv X pins σ H s → t σ H Q → wpAny (model X.prog X.w) X.A (spliced (backTo pos (starEach es X.env))) (AP X pins σ Q) X.xe s
def PS (X : Cx) (st : Stmt) (t : TS) : Prop :=
  ∀ (pins : List (Addr × Obj)) (s : Shared) (σ : St) (H : Hp) (D : Ends), Inv X pins σ H s → t D σ H → wpAny (model X.prog X.w) X.A (exec st X.env) (SP X pins D) X.xe s
def PSs (X : Cx) (st : List Stmt) (t : TS) : Prop :=
  ∀ (pins : List (Addr × Obj)) (s : Shared) (σ : St) (H : Hp) (D : Ends), Inv X pins σ H s → t D σ H → wpAny (model X.prog X.w) X.A (execs st X.env) (SP X pins D) X.xe s
/-- weaken the end -/
theorem thn {α : Type} {t : Sem α} {Q Q' : α → Shared → Prop} {M : Model} {A : Around} {E : Value → Shared → Prop} {s : Shared} (h : wpAny M A t Q E s) (hQ : ∀ a s, Q a s → Q' a s) : wpAny M A t Q' E s := wpAny_mono h hQ fun _ _ x => x
end L2

namespace L2
open PySem PySem.Spec PyProof.Rows
section
variable {X : Cx}

/-! ### names and constants -/
def tVar (i : Nat) : TE := fun σ H Q => ∃ v, σ[i]? = some (some v) ∧ Q v H
def tC (v : V) : TE := fun _ H Q => Q v H
theorem pe_var {i : Nat} {x : Str} {pos : Pos} (hN : X.N[i]? = some x) (hv : Vis X.env.scope x) (hd : (x == ("__debug__" : Str)) = false := by decide) (hcd : (x == ("__classdict__" : Str)) = false := by decide) : PE X (.Name x pos) (tVar i) := by
  intro pins s σ H Q I h
  obtain ⟨v, e, h⟩ := h
  obtain ⟨m, hn, hl⟩ := I.loc
  obtain ⟨u, r, l⟩ := hl i x v hN e hv
  have fin : EP X pins σ Q u s := ⟨v, H, I, r, h⟩
  rcases l with ⟨hk, hm⟩ | ⟨hk, c, hc, hcell⟩
  · exact wpAny_Name (wpAny_loadName_local I.ok.kind hk hn hm fin) hd
  · rcases hk with hk | hk
    · exact wpAny_Name (wpAny_loadName_cell I.ok.kind hk hc hcell fin) hd
    · exact wpAny_Name (wpAny_loadName_free I.ok.kind hk hc hcell fin hcd) hd
theorem pe_int {i j pos} : PE X (.Constant (.int i) j pos) (tC (.int i)) := fun _ _ _ H _ I h => wpAny_Constant_int ⟨.int i, H, I.tok _, ⟨_, rfl⟩, h⟩
theorem pe_bl {b j pos} : PE X (.Constant (.bool b) j pos) (tC (.bl b)) := fun _ _ _ H _ I h => Constant_bool ⟨.bl b, H, I, rfl, h⟩
theorem pe_non {j pos} : PE X (.Constant .none j pos) (tC .non) := fun _ _ _ H _ I h => Constant_none ⟨.non, H, I, rfl, h⟩
theorem pe_str {x j pos} : PE X (.Constant (.str x) j pos) (tC (.str x)) := fun _ _ _ H _ I h => Calls.Constant_str ⟨.str x, H, I.tok _, ⟨_, rfl⟩, h⟩

/-- a global name of the def -/
def Gl (X : Cx) (x : Str) : Prop := X.env.kindOf x = some .globalImplicit
theorem ld_glob {E : Value → Shared → Prop} {pins : List (Addr × Obj)} {s : Shared} {σ : St} {H : Hp} {x : Str} {u : Value} {pos : Pos} {Q : Value → Shared → Prop} (I : Inv X pins σ H s) (hg : Gl X x) (hm : X.mg x = some u) (h : Q u s)
    (hd : (x == ("__debug__" : Str)) = false := by decide) : wpAny (model X.prog X.w) X.A (eval (.Name x pos) X.env) Q E s :=
  Calls.Name_function_global I.ok.kind hg (Calls.loadGlobal_global (by rw [I.ok.glob]; exact I.mod.glob.keeps I.bk) hm h) hd
theorem ld_blt {E : Value → Shared → Prop} {pins : List (Addr × Obj)} {s : Shared} {σ : St} {H : Hp} {x : Str} {u : Value} {pos : Pos} {Q : Value → Shared → Prop} (I : Inv X pins σ H s) (hg : Gl X x) (hm : X.mg x = none) (hv : bootBuiltins x = some u) (h : Q u s)
    (hn : x ≠ "__name__" := by decide) (hd : (x == ("__debug__" : Str)) = false := by decide) : wpAny (model X.prog X.w) X.A (eval (.Name x pos) X.env) Q E s := by
  obtain ⟨mb, h1, h2⟩ := I.mod.blt
  exact Calls.Name_function_global I.ok.kind hg (Calls.loadGlobal_builtin (by rw [I.ok.glob]; exact I.mod.glob.keeps I.bk) hm (by rw [I.ok.blt]; exact h1.keeps I.bk) ((h2 x hn).trans hv) h) hd
/-- a module's constant, a class, a function, as a value -/
theorem pe_glob {x : Str} {v : V} {u : Value} {pos : Pos} (hg : Gl X x) (hm : X.mg x = some u) (r : RelV v u) (hd : (x == ("__debug__" : Str)) = false := by decide) : PE X (.Name x pos) (tC v) :=
  fun _ _ _ H _ I h => ld_glob I hg hm ⟨v, H, I, r, h⟩ hd
/-! ### arithmetic -/
/-- two ints -/
def t2I (ta tb : TE) (k : Int → Int → Hp → Prop) : St → Hp → Prop := fun σ H => ta σ H fun x H1 => tb σ H1 fun y H2 => ∃ i j, x = .int i ∧ y = .int j ∧ k i j H2
def tAdd (ta tb : TE) : TE := fun σ H Q => t2I ta tb (fun i j H2 => Q (.int (i + j)) H2) σ H
def tSub (ta tb : TE) : TE := fun σ H Q => t2I ta tb (fun i j H2 => Q (.int (i - j)) H2) σ H
/-- the left factor below 2^64 -/
def tMul (ta tb : TE) : TE := fun σ H Q => t2I ta tb (fun i j H2 => (-(2 ^ 64) < i ∧ i < 2 ^ 64) ∧ Q (.int (i * j)) H2) σ H
variable {a b : Expr} {ta tb : TE} {pos : Pos}
/-! ### comparisons -/
def PC (X : Cx) (op : CmpOp) (a b : Expr) (t : TE) : Prop :=
  ∀ (pins : List (Addr × Obj)) (s : Shared) (σ : St) (H : Hp) (Q : VK), Inv X pins σ H s → t σ H Q →
    wpAny (model X.prog X.w) X.A (eval a X.env) (fun v s₁ => wpAny (model X.prog X.w) X.A (eval b X.env) (fun u s₂ => wpAny (model X.prog X.w) X.A (compareOp op v u) (EP X pins σ Q) X.xe s₂) X.xe s₁) X.xe s
def tCmp (p : Int → Int → Bool) (ta tb : TE) : TE := fun σ H Q => t2I ta tb (fun i j H2 => Q (.bl (p i j)) H2) σ H
abbrev tLt : TE → TE → TE := tCmp fun i j => decide (i < j)
abbrev tLe : TE → TE → TE := tCmp fun i j => decide (i ≤ j)
abbrev tGt : TE → TE → TE := tCmp fun i j => decide (j < i)
abbrev tGe : TE → TE → TE := tCmp fun i j => decide (j ≤ i)
abbrev tEqI : TE → TE → TE := tCmp fun i j => decide (i = j)
abbrev tNeI : TE → TE → TE := tCmp fun i j => !decide (i = j)
/-- is None -/
def tIsN (ta : TE) : TE := fun σ H Q => ta σ H fun x H1 => Q (.bl (decide (x = .non))) H1
def tNotN (ta : TE) : TE := fun σ H Q => ta σ H fun x H1 => Q (.bl (!decide (x = .non))) H1
/-- a comparison as a value, as a test -/
def tB (t : TE) : TT := fun σ H Q => t σ H fun x H1 => ∃ c, x = .bl c ∧ Q c H1
/-- an expression whose value is a bool, as a test -/
theorem pt_val {e : Expr} {t : TE} (h : PE X e t) (he : ∀ whole, isTrue e X.env whole = (do let v ← whole; standAt e.pos; holding [v] (truthy v)) := by intro _; rfl) : PT X e (tB t) := by
  intro pins s σ H Q I hw
  refine isTrue_plain (thn (h pins s σ H _ I hw) fun v s1 ⟨x, H1, I1, r1, q1⟩ => ?_) (he _)
  obtain ⟨d, rfl, q⟩ := q1
  cases r1
  exact wpAny_truthy_bool ⟨H1, I1, q⟩

/-! ### and, or, not -/
variable {tA tB' : TT} {rest : List Expr}
def tAnd (t u : TT) : TT := fun σ H Q => t σ H fun c H1 => if c = true then u σ H1 Q else Q false H1
def tOr (t u : TT) : TT := fun σ H Q => t σ H fun c H1 => if c = true then Q true H1 else u σ H1 Q
def tNot (t : TT) : TT := fun σ H Q => t σ H fun c H1 => Q (!c) H1
theorem pw_and1 (ha : PT X a tA) : PW X (.BoolOp .And [a] pos) tA := by
  intro wh pins s σ H Q I h
  refine isTrue_and (thn (ha pins s σ H Q I h) fun c s1 e => ?_)
  cases c with
  | true => exact isTrue_and_nil e
  | false => exact e
theorem pw_or1 (ha : PT X a tA) : PW X (.BoolOp .Or [a] pos) tA := by
  intro wh pins s σ H Q I h
  refine isTrue_or (thn (ha pins s σ H Q I h) fun c s1 e => ?_)
  cases c with
  | false => exact isTrue_or_nil e
  | true => exact e
theorem pw_and (ha : PT X a tA) (hb : PW X (.BoolOp .And (b :: rest) pos) tB') : PW X (.BoolOp .And (a :: b :: rest) pos) (tAnd tA tB') := by
  intro wh pins s σ H Q I h
  refine isTrue_and (thn (ha pins s σ H _ I h) fun c s1 ⟨H1, I1, q1⟩ => ?_)
  cases c with
  | true => exact hb wh pins s1 σ H1 Q I1 q1
  | false => exact ⟨H1, I1, q1⟩
theorem pw_or (ha : PT X a tA) (hb : PW X (.BoolOp .Or (b :: rest) pos) tB') : PW X (.BoolOp .Or (a :: b :: rest) pos) (tOr tA tB') := by
  intro wh pins s σ H Q I h
  refine isTrue_or (thn (ha pins s σ H _ I h) fun c s1 ⟨H1, I1, q1⟩ => ?_)
  cases c with
  | true => exact ⟨H1, I1, q1⟩
  | false => exact hb wh pins s1 σ H1 Q I1 q1
theorem pt_not (ha : PT X a tA) : PT X (.UnaryOp .Not a pos) (tNot tA) := by
  intro pins s σ H Q I h
  exact isTrue_not (ha pins s σ H (fun c H1 => Q (!c) H1) I h)
/-- .. as values (bools) -/
def tAndV (ta tb : TE) : TE := fun σ H Q => ta σ H fun x H1 => ∃ c, x = .bl c ∧ if c = true then tb σ H1 Q else Q (.bl false) H1
def tOrV (ta tb : TE) : TE := fun σ H Q => ta σ H fun x H1 => ∃ c, x = .bl c ∧ if c = true then Q (.bl true) H1 else tb σ H1 Q
def tNotV (ta : TE) : TE := fun σ H Q => ta σ H fun x H1 => ∃ c, x = .bl c ∧ Q (.bl (!c)) H1
theorem pe_one {op} {t : TE} (h : PE X a t) : PE X (.BoolOp op [a] pos) t := fun pins s σ H Q I hw => BoolOp_one (h pins s σ H Q I hw)
theorem pe_and (ha : PE X a ta) (hb : PE X (.BoolOp .And (b :: rest) pos) tb) : PE X (.BoolOp .And (a :: b :: rest) pos) (tAndV ta tb) := by
  intro pins s σ H Q I h
  refine BoolOp_and (thn (ha pins s σ H _ I h) fun v s1 ⟨x, H1, I1, r1, q1⟩ => ?_)
  obtain ⟨c, rfl, q1⟩ := q1
  cases r1
  refine wpAny_truthy_bool ?_
  cases c with
  | true => exact hb pins s1 σ H1 Q I1 q1
  | false => exact ⟨.bl false, H1, I1, rfl, q1⟩
/-- a if t else b -/
def tIf (t : TT) (ta tb : TE) : TE := fun σ H Q => t σ H fun c H1 => if c = true then ta σ H1 Q else tb σ H1 Q
theorem pe_ifExp {c : Expr} (hc : PT X c tA) (ha : PE X a ta) (hb : PE X b tb) : PE X (.IfExp c a b pos) (tIf tA ta tb) := by
  intro pins s σ H Q I h
  refine wpAny_IfExp (thn (hc pins s σ H _ I h) fun d s1 ⟨H1, I1, q1⟩ => ?_)
  cases d with
  | true => exact ha pins s1 σ H1 Q I1 q1
  | false => exact hb pins s1 σ H1 Q I1 q1
end
end L2

namespace L2
open PySem PySem.Spec PyProof.Rows

/-! ### a list, a tuple that is read: tracked, frozen, or an object of the module -/
def SqL (K : PySem.W.Frag) (H : Hp) (a : Addr) (xs : List V) : Prop :=
  Rd H a (.lst xs) ∨
    ∃ (o : Obj) (its : Array Value) (n : Nat), K.lookup a = some o ∧ o.cls = .type "list" ∧ o.dict = none ∧ o.data = .seq its n ∧ its.size ≤ sizeLine ∧ Vals xs its.toList
def SqT (K : PySem.W.Frag) (H : Hp) (a : Addr) (xs : List V) : Prop :=
  Rd H a (.tup xs) ∨
    ∃ (o : Obj) (its : Array Value) (n : Nat), K.lookup a = some o ∧ o.cls = .type "tuple" ∧ o.data = .seq its n ∧ its.size ≤ sizeLine ∧ Vals xs its.toList
def absV : Value → Option V
  | .none => some .non
  | .bool b => some (.bl b)
  | .int i _ => some (.int i)
  | .str x _ => some (.str x)
  | .bytes b _ => some (.byt b)
  | .float b _ => some (.flt b)
  | .ref a => some (.ref a)
  | .type n => some (.ty n)
  | _ => none
theorem RelV.abs {x : V} {u : Value} (r : RelV x u) : absV u = some x := by
  cases x with
  | non => cases r; rfl
  | bl _ => cases r; rfl
  | int _ => obtain ⟨t, rfl⟩ := r; rfl
  | str _ => obtain ⟨t, rfl⟩ := r; rfl
  | byt _ => obtain ⟨t, rfl⟩ := r; rfl
  | flt _ => obtain ⟨t, rfl⟩ := r; rfl
  | ref _ => cases r; rfl
  | ty _ => cases r; rfl
theorem RelV.inj {x y : V} {u : Value} (r : RelV x u) (q : RelV y u) : x = y := Option.some.inj (r.abs.symm.trans q.abs)
theorem Vals.inj : ∀ {xs ys : List V} {us : List Value}, Vals xs us → Vals ys us → xs = ys
  | _, _, _, .nil, .nil => rfl
  | _, _, _, .cons r t, .cons r' t' => by rw [r.inj r', Vals.inj t t']
section
variable {X : Cx} {pins : List (Addr × Obj)} {σ : St} {H : Hp} {s : Shared} {a : Addr} {xs ys : List V}
theorem SqL.of {K : PySem.W.Frag} (h : H a = some (.lst xs)) : SqL K H a xs := .inl (.inl h)
theorem SqT.of {K : PySem.W.Frag} (h : H a = some (.tup xs)) : SqT K H a xs := .inl (.inl h)
theorem Inv.list (I : Inv X pins σ H s) (h : SqL X.K H a xs) : ∃ its : List Value, Vals xs its ∧ PlainL s.heap a its.toArray ∧ xs.length ≤ sizeLine := by
  rcases h with h | ⟨o, its, n, hk, hc, hd, hs, hz, r⟩
  · obtain ⟨z, its, n, r, e⟩ := h.ok I.hok
    exact ⟨its, r, ⟨_, n, e, rfl, rfl, rfl⟩, z⟩
  · refine ⟨its.toList, r, ⟨o, n, I.kIn a o hk, hc, hd, by simpa using hs⟩, ?_⟩
    have e := r.length
    simp only [Array.length_toList] at e
    omega
theorem Inv.tuple (I : Inv X pins σ H s) (h : SqT X.K H a xs) : ∃ its : List Value, Vals xs its ∧ IsTup s.heap a its.toArray ∧ xs.length ≤ sizeLine := by
  rcases h with h | ⟨o, its, n, hk, hc, hs, hz, r⟩
  · obtain ⟨z, its, r, p⟩ := h.ok I.hok
    exact ⟨its, r, p, z⟩
  · refine ⟨its.toList, r, ⟨o, I.kIn a o hk, hc, n, by simpa using hs⟩, ?_⟩
    have e := r.length
    simp only [Array.length_toList] at e
    omega
theorem Inv.list_inj (I : Inv X pins σ H s) (h : SqL X.K H a xs) (h' : SqL X.K H a ys) : xs = ys := by
  obtain ⟨its, r, ⟨o, n, e, _, _, d⟩, _⟩ := I.list h
  obtain ⟨its', r', ⟨o', n', e', _, _, d'⟩, _⟩ := I.list h'
  rw [e] at e'; cases e'
  rw [d] at d'
  injection d' with d1 _
  have : its = its' := by simpa using congrArg Array.toList d1
  subst this
  exact r.inj r'
theorem Inv.tuple_inj (I : Inv X pins σ H s) (h : SqT X.K H a xs) (h' : SqT X.K H a ys) : xs = ys := by
  obtain ⟨its, r, ⟨o, e, _, n, d⟩, _⟩ := I.tuple h
  obtain ⟨its', r', ⟨o', e', _, n', d'⟩, _⟩ := I.tuple h'
  rw [e] at e'; cases e'
  rw [d] at d'
  injection d' with d1 _
  have : its = its' := by simpa using congrArg Array.toList d1
  subst this
  exact r.inj r'
end

/-! ### another wish about exceptions -/
abbrev Cx.wish (X : Cx) (E : Value → Shared → Prop) : Cx := { X with xe := E }
/-- no exception leaves -/
abbrev Cx.nox (X : Cx) : Cx := X.wish fun _ _ => False
theorem Cx.Ok.wish {X : Cx} (ok : X.Ok) (E : Value → Shared → Prop) : (X.wish E).Ok :=
  ⟨ok.mod, ok.kind, ok.glob, ok.blt, ok.above, ok.inj, ok.has, ok.cab, ok.hd, ok.frames, ok.stk, ok.exf, ok.bs, ok.bsz, ok.noex, ok.exfs, ok.funs, ok.frf⟩
theorem Cx.Ok.unwish {X : Cx} {E : Value → Shared → Prop} (ok : (X.wish E).Ok) : X.Ok :=
  ⟨ok.mod, ok.kind, ok.glob, ok.blt, ok.above, ok.inj, ok.has, ok.cab, ok.hd, ok.frames, ok.stk, ok.exf, ok.bs, ok.bsz, ok.noex, ok.exfs, ok.funs, ok.frf⟩
section
variable {X : Cx} {pins : List (Addr × Obj)} {σ : St} {H : Hp} {s : Shared} {E : Value → Shared → Prop}
theorem Inv.wish (I : Inv X pins σ H s) (E : Value → Shared → Prop) : Inv (X.wish E) pins σ H s := ⟨I.ok.wish E, I.os, I.bare, I.base, I.loc, I.cell, I.free, I.freeC, I.pin, I.hok, I.len⟩
theorem Inv.unwish (I : Inv (X.wish E) pins σ H s) : Inv X pins σ H s := ⟨I.ok.unwish, I.os, I.bare, I.base, I.loc, I.cell, I.free, I.freeC, I.pin, I.hok, I.len⟩
theorem SP.unwish {D : Ends} {f : Flow} {s' : Shared} (h : SP (X.wish E) pins D f s') : SP X pins D f s' := by
  cases f with
  | next => obtain ⟨σ', H', I, q⟩ := h; exact ⟨σ', H', I.unwish, q⟩
  | brk => obtain ⟨σ', H', I, q⟩ := h; exact ⟨σ', H', I.unwish, q⟩
  | cont => obtain ⟨σ', H', I, q⟩ := h; exact ⟨σ', H', I.unwish, q⟩
  | ret u => obtain ⟨v, σ', H', I, r, q⟩ := h; exact ⟨v, σ', H', I.unwish, r, q⟩
theorem PE.nox {e : Expr} {t : TE} (h : PE X.nox e t) : PE X e t := fun pins s σ H Q I hw =>
  wpAny_mono (h pins s σ H Q (I.wish _) hw) (fun _ _ ⟨v, H', I', r, q⟩ => ⟨v, H', I'.unwish, r, q⟩) fun _ _ z => False.elim z
theorem PT.nox {e : Expr} {t : TT} (h : PT X.nox e t) : PT X e t := fun pins s σ H Q I hw =>
  wpAny_mono (h pins s σ H Q (I.wish _) hw) (fun _ _ ⟨H', I', q⟩ => ⟨H', I'.unwish, q⟩) fun _ _ z => False.elim z
theorem PSs.nox {st : List Stmt} {t : TS} (h : PSs X.nox st t) : PSs X st t := fun pins s σ H D I hw =>
  wpAny_mono (h pins s σ H D (I.wish _) hw) (fun _ _ q => q.unwish) fun _ _ z => False.elim z
end

/-! ### blocks and small statements -/
section
variable {X : Cx} {st : Stmt} {rest : List Stmt} {t u : TS} {e : Expr} {te : TE} {pos : Pos}
def tNext : TS := fun D σ H => D.nx σ H
def tSeq (t u : TS) : TS := fun D σ H => t { D with nx := u D } σ H
theorem pss_nil : PSs X [] tNext := fun _ _ σ H _ I h => wpAny_execs_nil ⟨σ, H, I, h⟩
theorem pss_cons (h1 : PS X st t) (h2 : PSs X rest u) : PSs X (st :: rest) (tSeq t u) := by
  intro pins s σ H D I h
  refine wpAny_execs_cons (thn (h1 pins s σ H { D with nx := u D } I h) fun f s1 q => ?_)
  cases f with
  | next =>
    obtain ⟨σ', H', I', q⟩ := q
    exact h2 pins s1 σ' H' D I' q
  | ret v => exact q
  | brk => exact q
  | cont => exact q
theorem pss_one (h1 : PS X st t) : PSs X [st] t := by
  intro pins s σ H D I h
  refine wpAny_execs_cons (thn (h1 pins s σ H D I h) fun f s1 q => ?_)
  cases f with
  | next => exact wpAny_execs_nil q
  | ret v => exact q
  | brk => exact q
  | cont => exact q
def tBreak : TS := fun D σ H => D.bk σ H
def tCont : TS := fun D σ H => D.ct σ H
/-- in a def's body nothing is shown -/
theorem Inv.quiet {pins : List (Addr × Obj)} {σ : St} {H : Hp} {s : Shared} (I : Inv X pins σ H s) : interactive X.env = false := by simp [interactive, I.ok.kind]
/-- an expression whose value is dropped -/
def tDrop (te : TE) : TS := fun D σ H => te σ H fun _ H1 => D.nx σ H1
theorem ps_expr (he : PE X e te) (hs : swapsWith e none pos.line X.env = pure false := by rfl) : PS X (.Expr e pos) (tDrop te) := by
  intro pins s σ H D I h
  exact wpAny_Expr_any (thn (he pins s σ H _ I h) fun v s1 ⟨x, H1, I1, r1, q1⟩ => ⟨σ, H1, I1, q1⟩) I.quiet hs
def tRet (te : TE) : TS := fun D σ H => te σ H D.rt
theorem ps_ret (he : PE X e te) : PS X (.Return (some e) pos) (tRet te) := by
  intro pins s σ H D I h
  exact wpAny_Return_some (thn (he pins s σ H _ I h) fun v s1 ⟨x, H1, I1, r1, q1⟩ => ⟨x, σ, H1, I1, r1, q1⟩)
def tRetN : TS := fun D _ H => D.rt .non H
def tIfS (c : TT) (t u : TS) : TS := fun D σ H => c σ H fun b H1 => if b = true then t D σ H1 else u D σ H1
theorem ps_if {c : Expr} {a b : List Stmt} {tc : TT} (hc : PT X c tc) (ha : PSs X a t) (hb : PSs X b u) : PS X (.If c a b pos) (tIfS tc t u) := by
  intro pins s σ H D I h
  refine wpAny_If (thn (hc pins s σ H _ I h) fun d s1 ⟨H1, I1, q1⟩ => ?_)
  cases d with
  | true => exact ha pins s1 σ H1 D I1 q1
  | false => exact hb pins s1 σ H1 D I1 q1
/-- code that the proof never comes to -/
def tNever : TS := fun _ _ _ => False
end

/-! ### targets -/
abbrev TG := V → St → Hp → (St → Hp → Prop) → Prop
abbrev TGs := List V → St → Hp → (St → Hp → Prop) → Prop
def PG (X : Cx) (target : Expr) (t : TG) : Prop :=
  ∀ (pins : List (Addr × Obj)) (s : Shared) (σ : St) (H : Hp) (v : V) (u : Value) (Q : St → Hp → Prop), Inv X pins σ H s → RelV v u → t v σ H Q →
    wpAny (model X.prog X.w) X.A (assign target X.env u) (fun _ s' => ∃ σ' H', Inv X pins σ' H' s' ∧ Q σ' H') X.xe s
/-- several targets, one after another -/
def PGs (X : Cx) (ts : List Expr) (t : TGs) : Prop :=
  ∀ (pins : List (Addr × Obj)) (s : Shared) (σ : St) (H : Hp) (vs : List V) (us : List Value) (Q : St → Hp → Prop), Inv X pins σ H s → Vals vs us → t vs σ H Q →
    wpAny (model X.prog X.w) X.A (assignInOrder ((assignEach ts X.env).map (·.2)) us) (fun _ s' => ∃ σ' H', Inv X pins σ' H' s' ∧ Q σ' H') X.xe s
/-- o[i] = v, by values -/
abbrev TSet := V → V → V → Hp → (Hp → Prop) → Prop
def PSet (X : Cx) (t : TSet) : Prop :=
  ∀ (pins : List (Addr × Obj)) (s : Shared) (σ : St) (H : Hp) (o i v : V) (ov iv u : Value) (Q : Hp → Prop), Inv X pins σ H s → RelV o ov → RelV i iv → RelV v u → t o i v H Q →
    wpAny (model X.prog X.w) X.A (setItem ov iv u) (fun _ s' => ∃ H', Inv X pins σ H' s' ∧ Q H') X.xe s
/-- a op= b, by values -/
abbrev TIp := V → V → Hp → VK → Prop
def PIp (X : Cx) (op : Operator) (t : TIp) : Prop :=
  ∀ (pins : List (Addr × Obj)) (s : Shared) (σ : St) (H : Hp) (x y : V) (v u : Value) (Q : VK), Inv X pins σ H s → RelV x v → RelV y u → t x y H Q →
    wpAny (model X.prog X.w) X.A (inplaceOp op v u) (EP X pins σ Q) X.xe s
section
variable {X : Cx} {pos : Pos}
def gName (i : Nat) : TG := fun v σ H Q => Q (σ.set i (some v)) H
theorem pg_name {i : Nat} {x : Str} (hN : X.N.Nodup) (hi : X.N[i]? = some x) (hx : Loc X.env.scope x) (hf : X.fn x = true ∨ X.env.scope.names.lookup x = some .local := by first | exact .inl rfl | exact .inr rfl | assumption) : PG X (.Name x pos) (gName i) := by
  intro pins s σ H v u Q I r h
  exact wpAny_assign_Name (store_ok I hN hi hx r (fun s' I' => ⟨_, H, I', h⟩) hf)
def gNil : TGs := fun vs σ H Q => vs = [] ∧ Q σ H
def gCons (t : TG) (u : TGs) : TGs := fun vs σ H Q => ∃ v r, vs = v :: r ∧ t v σ H fun σ' H' => u r σ' H' Q
/-- (a, b, ..) = a tuple of that length -/
def gTup (K : PySem.W.Frag) (n : Nat) (t : TGs) : TG := fun v σ H Q => ∃ a xs, v = .ref a ∧ SqT K H a xs ∧ xs.length = n ∧ t xs σ H Q
/-- o[i] = .. -/
def gSub (to ti : TE) (t : TSet) : TG := fun v σ H Q => to σ H fun o H1 => ti σ H1 fun i H2 => t o i v H2 fun H3 => Q σ H3
theorem pg_sub {o i : Expr} {to ti : TE} {t : TSet} (ho : PE X o to) (hi : PE X i ti) (hs : PSet X t)
    (ha : ∀ v, assign (.Subscript o i pos) X.env v = (do
      let ov ← holding [v] (eval o X.env)
      let iv ← holding [v, ov] (eval i X.env)
      standAt pos
      holding [v, ov, iv] (setItem ov iv v)
      release [v, ov, iv] []) := by intro _; rfl) : PG X (.Subscript o i pos) (gSub to ti t) := by
  intro pins s σ H v u Q I r h
  rw [ha]
  refine wpAny_bind (wpAny_holding (thn (ho pins s σ H _ I h) fun ov s1 ⟨x, H1, I1, r1, q1⟩ => ?_))
  refine wpAny_bind (wpAny_holding (thn (hi pins s1 σ H1 _ I1 q1) fun iv s2 ⟨y, H2, I2, r2, q2⟩ => ?_))
  refine wpAny_bind (wpAny_standAt (wpAny_bind (wpAny_holding (thn (hs pins s2 σ H2 x y v ov iv u _ I2 r1 r2 r q2) fun _ s3 ⟨H3, I3, q3⟩ => ?_))))
  exact wpAny_release ⟨σ, H3, I3, q3⟩
/-- target = value -/
def tAsg (te : TE) (g : TG) : TS := fun D σ H => te σ H fun x H1 => g x σ H1 D.nx
theorem ps_asg {tg e : Expr} {te : TE} {g : TG} (he : PE X e te) (hg : PG X tg g) (hs : swapsWithSole [tg] e pos.line X.env = pure false := by rfl) (hw : swappedStores [tg] e X.env = pure none := by rfl)
    (h1 : (assignEach [tg] X.env).map (·.2) = [assign tg X.env] := by rfl) : PS X (.Assign [tg] e pos) (tAsg te g) := by
  intro pins s σ H D I h
  refine wpAny_Assign_stores (thn (he pins s σ H _ I h) fun v s1 ⟨x, H1, I1, r1, q1⟩ => ?_) hs hw
  rw [h1]
  exact thn (hg pins s1 σ H1 x v _ I1 r1 q1) fun _ s2 q => q
/-- name = value -/
theorem ps_set {i : Nat} {x : Str} {e : Expr} {te : TE} {pos' : Pos} (hN : X.N.Nodup) (hi : X.N[i]? = some x) (hx : Loc X.env.scope x) (he : PE X e te) (hs : swapsWith e (some (.Name x pos')) pos.line X.env = pure false := by rfl) (hf : X.fn x = true ∨ X.env.scope.names.lookup x = some .local := by first | exact .inl rfl | exact .inr rfl | assumption) :
    PS X (.Assign [.Name x pos'] e pos) (tAsg te (gName i)) := by
  intro pins s σ H D I h
  refine wpAny_Assign_Name (thn (he pins s σ H _ I h) fun v s1 ⟨y, H1, I1, r1, q1⟩ => ?_) hs
  exact store_ok I1 hN hi hx r1 (fun s2 I2 => ⟨_, H1, I2, q1⟩) hf
/-- a, b = x, y with plain local names: stored from the right; the pair itself is not tracked (the opening rows as in PyProof/Rows/TupAssign.lean:23) -/
def tPar (i j : Nat) (ta : TA) : TS := fun D σ H => ta σ H fun vs H1 => ∃ v w, vs = [v, w] ∧ D.nx ((σ.set i (some v)).set j (some w)) H1
/-- name op= e -/
def tAug (i : Nat) (te : TE) (ti : TIp) : TS := fun D σ H => ∃ x, σ[i]? = some (some x) ∧ te σ H fun y H1 => ti x y H1 fun z H2 => D.nx (σ.set i (some z)) H2
/-- o[i] op= e -/
def tAugS (to ti te : TE) (tget : V → V → Hp → VK → Prop) (tip : TIp) (tset : TSet) : TS := fun D σ H => to σ H fun o H1 => ti σ H1 fun i H2 => tget o i H2 fun x H3 => te σ H3 fun y H4 => tip x y H4 fun z H5 => tset o i z H5 fun H6 => D.nx σ H6
/-- o[i], by values -/
def PGet (X : Cx) (t : V → V → Hp → VK → Prop) : Prop :=
  ∀ (pins : List (Addr × Obj)) (s : Shared) (σ : St) (H : Hp) (o i : V) (ov iv : Value) (Q : VK), Inv X pins σ H s → RelV o ov → RelV i iv → t o i H Q →
    wpAny (model X.prog X.w) X.A (getItem ov iv) (EP X pins σ Q) X.xe s
/-- ints -/
def ipI (f : Int → Int → Int) : TIp := fun x y H Q => ∃ i j, x = .int i ∧ y = .int j ∧ Q (.int (f i j)) H
end

/-! ### while -/
section
variable {X : Cx} {pos : Pos}
/-- the invariant W with its measure -/
def tWhile (c : TT) (tb : TS) : TS := fun D σ H => ∃ W : Nat → St → Hp → Prop, (∃ m, W m σ H) ∧ ∀ m σ H, W m σ H →
  c σ H fun b H1 => if b = true then ∃ N : St → Hp → Prop, (∀ σ' H', N σ' H' → ∃ m', m' < m ∧ W m' σ' H') ∧ tb { D with nx := N, ct := N, bk := D.nx } σ H1 else D.nx σ H1
theorem ps_while {c : Expr} {body : List Stmt} {tc : TT} {tb : TS} (hp : PassesOwn (model X.prog X.w) X.A X.env X.xe) (hc : PT X c tc) (hb : PSs X body tb) : PS X (.While c body [] pos) (tWhile tc tb) := by
  intro pins s σ H D I h
  obtain ⟨W, ⟨m0, w0⟩, turn⟩ := h
  refine wpAny_While (codeAny_whileLoop (fun n s' => ∃ σ' H', Inv X pins σ' H' s' ∧ W n σ' H') ?_ m0 ⟨σ, H, I, w0⟩)
  rintro n s1 ⟨σ1, H1, I1, w1⟩
  refine wpAny_passesOwn hp (thn (hc pins s1 σ1 H1 _ I1 (turn n σ1 H1 w1)) fun b s2 ⟨H2, I2, q2⟩ => ?_)
  cases b with
  | true =>
    obtain ⟨N, hN, q2⟩ := q2
    rw [if_pos rfl]
    refine wpAny_passesOwn hp (thn (hb pins s2 σ1 H2 _ I2 q2) fun f s3 q3 => ?_)
    cases f with
    | next =>
      obtain ⟨σ3, H3, I3, n3⟩ := q3
      obtain ⟨m', hm, w3⟩ := hN σ3 H3 n3
      exact ⟨m', hm, σ3, H3, I3, w3⟩
    | cont =>
      obtain ⟨σ3, H3, I3, n3⟩ := q3
      obtain ⟨m', hm, w3⟩ := hN σ3 H3 n3
      exact ⟨m', hm, σ3, H3, I3, w3⟩
    | brk => exact q3
    | ret v => exact q3
  | false =>
    rw [if_neg Bool.false_ne_true]
    exact wpAny_execs_nil ⟨σ1, H2, I2, q2⟩
end

/-! ### what a loop or a comprehension walks -/
/-- at turn i: it yields x (the heap may grow), or it stops -/
structure It where
  go : Nat → Hp → Prop
  yld : Nat → Hp → V → Hp → Prop
  stop : Nat → Hp → Prop
/-- the iterator's own objects may turn: they are not the frame's, not pinned, younger than the entry (or a comprehension's own) -/
def FpOk (X : Cx) (pins : List (Addr × Obj)) (H : Hp) (b : Addr) : Prop :=
  H b = none ∧ b ≠ X.env.locals ∧ b ∉ X.fs ∧ (b ∈ X.ex ∨ X.s₀.heap.objs.size ≤ b) ∧ (∀ x c, X.env.cells.lookup x = some c → c ≠ b) ∧ ∀ p ∈ X.pn ++ pins, p.1 ≠ b
theorem Inv.fpOk {X : Cx} {pins : List (Addr × Obj)} {σ : St} {H H' : Hp} {s : Shared} {b : Addr} (I : Inv X pins σ H s) (hb : s.heap.objs.size ≤ b) (hn : H' b = none) : FpOk X pins H' b := by
  refine ⟨hn, Nat.ne_of_gt (Nat.lt_of_lt_of_le I.lt hb), I.nofs hb, .inr (Nat.le_trans I.sz hb), fun x c e z => ?_, fun p hp z => ?_⟩
  · obtain ⟨v, q⟩ := I.cell x c e
    exact absurd (Nat.lt_of_lt_of_le q.lt (by rw [z]; exact hb)) (Nat.lt_irrefl _)
  · exact absurd (Nat.lt_of_lt_of_le (Heap.lt_size (I.pin p hp).1) (by rw [z]; exact hb)) (Nat.lt_irrefl _)
structure Turn (P : Program) (w : World) (K : PySem.W.Frag) (tg : Expr) (J : It) (fp : List Addr) (it : Addr) (tn : Nat → Heap → Prop) : Prop where
  mem : it ∈ fp
  obj : ∀ i h, tn i h → ∀ b ∈ fp, ∃ o, h.get? b = some o ∧ ∀ v, o.data ≠ .cell v
  keep : ∀ i h h', tn i h → (∀ b ∈ fp, ∀ o, h.get? b = some o → h'.get? b = some o) → tn i h'
  item : ∀ (X : Cx), X.prog = P → X.w = w → X.K = K → X.calm = true → ∀ (i : Nat) (pins : List (Addr × Obj)) (s : Shared) (σ : St) (H : Hp) (E : Value → Shared → Prop), Inv X pins σ H s → (∀ b ∈ fp, FpOk X pins H b) → tn i s.heap → J.go i H →
    wpAny (model P w) X.A (pyNext (.ref it)) (fun r s1 => ∃ u, r = some u ∧
      wpAny (model P w) X.A (letOwnedTupleGo tg (.ref it) u) (fun _ s2 => ∃ x H', Inv X pins σ H' s2 ∧ RelV x u ∧ J.yld i H x H' ∧ tn (i + 1) s2.heap ∧ ∀ b ∈ fp, H' b = none) E s1) E s
  done : ∀ (X : Cx), X.prog = P → X.w = w → X.K = K → X.calm = true → ∀ (i : Nat) (pins : List (Addr × Obj)) (s : Shared) (σ : St) (H : Hp) (E : Value → Shared → Prop), Inv X pins σ H s → (∀ b ∈ fp, FpOk X pins H b) → tn i s.heap → J.stop i H →
    wpAny (model P w) X.A (pyNext (.ref it)) (fun r s1 => r = none ∧ Inv X pins σ H s1) E s
  self : ∀ (A : Around) (i : Nat) (s : Shared) (Q : Value → Shared → Prop) (E : Value → Shared → Prop), tn i s.heap → Q (.ref it) s → wpAny (model P w) A (pyIter (.ref it)) Q E s
abbrev TI := St → Hp → (It → Hp → Prop) → Prop
/-- an iterator has come -/
def PIE (X : Cx) (pins : List (Addr × Obj)) (σ : St) (tg : Expr) (R : It → Hp → Prop) (itv : Value) (s2 : Shared) : Prop :=
  ∃ (it : Addr) (fp : List Addr) (tn : Nat → Heap → Prop) (J : It) (H' : Hp), itv = .ref it ∧ Inv X pins σ H' s2 ∧ Turn X.prog X.w X.K tg J fp it tn ∧ tn 0 s2.heap ∧ (∀ b ∈ fp, FpOk X pins H' b) ∧ R J H'
def PI (X : Cx) (tg iter : Expr) (wi : TI) : Prop :=
  ∀ (pins : List (Addr × Obj)) (s : Shared) (σ : St) (H : Hp) (R : It → Hp → Prop), Inv X pins σ H s → wi σ H R →
    wpAny (model X.prog X.w) X.A (eval iter X.env) (fun v s1 => wpAny (model X.prog X.w) X.A (pyIter v) (PIE X pins σ tg R) X.xe s1) X.xe s

/-- the step ahead of the store is nothing for an iterator that keeps no tuple -/
theorem go_of {M : Model} {A : Around} {E : Value → Shared → Prop} {s : Shared} {tg : Expr} {it : Addr} {u : Value} {o : Obj} {n : String} {vs : Array Value} {Q : Unit → Shared → Prop} (ho : s.heap.get? it = some o) (hc : o.cls = .type n) (hd : o.data = .fields vs)
    (hn : ["enumerate", "zip", "dict_itemiterator", "dict_reverseitemiterator", "odict_iterator", "itertools.zip_longest", "itertools.pairwise"].contains n = false) (hQ : Q () s) : wpAny M A (letOwnedTupleGo tg (.ref it) u) Q E s := by
  unfold letOwnedTupleGo
  cases tg <;> first
    | exact wpAny_pure hQ
    | (cases u <;> first
        | exact wpAny_pure hQ
        | (refine wpAny_bind (wpAny_load ho ?_)
           rw [hc, hd]
           show wpAny M A (if (["enumerate", "zip", "dict_itemiterator", "dict_reverseitemiterator", "odict_iterator", "itertools.zip_longest", "itertools.pairwise"].contains n && vs[0]? == some (rawInt _)) = true then _ else _) Q E s
           rw [if_neg (by intro h; rw [hn, Bool.false_and] at h; cases h)]
           exact wpAny_pure hQ))

/-- the list at a, as it stands at each turn (a loop may append to it) -/
def Itl (K : PySem.W.Frag) (a : Addr) : It :=
  ⟨fun i H => ∃ xs x, SqL K H a xs ∧ xs[i]? = some x, fun i H x H' => H' = H ∧ ∀ xs, SqL K H a xs → xs[i]? = some x, fun i H => ∃ xs, SqL K H a xs ∧ xs.length ≤ i⟩
def Itt (K : PySem.W.Frag) (a : Addr) : It :=
  ⟨fun i H => ∃ xs x, SqT K H a xs ∧ xs[i]? = some x, fun i H x H' => H' = H ∧ ∀ xs, SqT K H a xs → xs[i]? = some x, fun i H => ∃ xs, SqT K H a xs ∧ xs.length ≤ i⟩
/-- lo, lo + 1, .. (n of them) -/
def Itr (lo : Int) (n : Nat) : It := ⟨fun i _ => i < n, fun i H x H' => H' = H ∧ x = .int (lo + i), fun i _ => n ≤ i⟩
theorem turn_list {P : Program} {w : World} {K : PySem.W.Frag} {tg : Expr} (a it : Addr) : Turn P w K tg (Itl K a) [it] it (fun i h => h.IsListIter it a i) where
  mem := by simp
  obj := fun i h st b hb => by
    have e : b = it := by simpa using hb
    subst e
    obtain ⟨o, e, c, d⟩ := st
    exact ⟨o, e, fun v z => by rw [d] at z; cases z⟩
  keep := fun i h h' st k => st.at fun o e => k it (by simp) o e
  item := by
    intro X hP hw hK hc i pins s σ H E I hf st hg
    subst hP hw hK
    obtain ⟨xs, x, hq, hx⟩ := hg
    obtain ⟨its, rv, p, hz⟩ := I.list hq
    obtain ⟨u, hu, ru⟩ := rv.get hx
    obtain ⟨f0, f1, f2, f3, f4, f5⟩ := hf it (by simp)
    refine wpAny_pyNext_list_item st p.isList (x := u) (by simpa using hu) fun h' st' sb => ?_
    have I1 : Inv X pins σ H { s with heap := h' } := I.turned (t' := s.toks) (fun b o hb e => (sb.2 b hb).trans e) f0 f1 f3 f4 f5
    obtain ⟨o, e, c, d⟩ := id st'
    exact ⟨u, rfl, go_of (s := { s with heap := h' }) e c d (by decide) ⟨x, H, I1, ru, ⟨rfl, fun ys hy => by rw [I.list_inj hy hq]; exact hx⟩, st', fun b hb => (hf b hb).1⟩⟩
  done := by
    intro X hP hw hK hc i pins s σ H E I hf st hg
    subst hP hw hK
    obtain ⟨xs, hq, hx⟩ := hg
    obtain ⟨its, rv, p, hz⟩ := I.list hq
    obtain ⟨f0, f1, f2, f3, f4, f5⟩ := hf it (by simp)
    have hl := rv.length
    exact wpAny_pyNext_list_end (I.ok.hd hc) st p.isList (by simp; omega) fun h' eb => ⟨rfl, I.turned (t' := s.toks) (fun b o hb e => eb b o hb e) f0 f1 f3 f4 f5⟩
  self := fun _ _ _ _ _ st h => wpAny_pyIter_listiter st h
theorem turn_tuple {P : Program} {w : World} {K : PySem.W.Frag} {tg : Expr} (a it : Addr) : Turn P w K tg (Itt K a) [it] it (fun i h => h.IsTupleIter it a i) where
  mem := by simp
  obj := fun i h st b hb => by
    have e : b = it := by simpa using hb
    subst e
    obtain ⟨o, e, c, d⟩ := st
    exact ⟨o, e, fun v z => by rw [d] at z; cases z⟩
  keep := fun i h h' st k => st.at fun o e => k it (by simp) o e
  item := by
    intro X hP hw hK hc i pins s σ H E I hf st hg
    subst hP hw hK
    obtain ⟨xs, x, hq, hx⟩ := hg
    obtain ⟨its, rv, p, hz⟩ := I.tuple hq
    obtain ⟨u, hu, ru⟩ := rv.get hx
    obtain ⟨f0, f1, f2, f3, f4, f5⟩ := hf it (by simp)
    refine wpAny_pyNext_tuple_item st (show s.heap.IsTuple a its.toArray from p) (x := u) (by simpa using hu) fun h' st' sb => ?_
    have I1 : Inv X pins σ H { s with heap := h' } := I.turned (t' := s.toks) (fun b o hb e => (sb.2 b hb).trans e) f0 f1 f3 f4 f5
    obtain ⟨o, e, c, d⟩ := id st'
    exact ⟨u, rfl, go_of (s := { s with heap := h' }) e c d (by decide) ⟨x, H, I1, ru, ⟨rfl, fun ys hy => by rw [I.tuple_inj hy hq]; exact hx⟩, st', fun b hb => (hf b hb).1⟩⟩
  done := by
    intro X hP hw hK hc i pins s σ H E I hf st hg
    subst hP hw hK
    obtain ⟨xs, hq, hx⟩ := hg
    obtain ⟨its, rv, p, hz⟩ := I.tuple hq
    obtain ⟨f0, f1, f2, f3, f4, f5⟩ := hf it (by simp)
    have hl := rv.length
    exact wpAny_pyNext_tuple_end (I.ok.hd hc) st (show s.heap.IsTuple a its.toArray from p) (by simp; omega) fun h' eb => ⟨rfl, I.turned (t' := s.toks) (fun b o hb e => eb b o hb e) f0 f1 f3 f4 f5⟩
  self := fun _ _ _ _ _ st h => wpAny_pyIter_tupleiter st h
theorem turn_range {P : Program} {w : World} {K : PySem.W.Frag} {tg : Expr} (it : Addr) (lo : Int) (n : Nat) : Turn P w K tg (Itr lo n) [it] it (fun i h => IsRangeIter h it (lo + (i : Nat) * 1) ((n : Int) - (i : Nat)) 1) where
  mem := by simp
  obj := fun i h st b hb => by
    have e : b = it := by simpa using hb
    subst e
    exact ⟨_, st, fun v z => by
      have z' : Data.fields _ = Data.cell v := z
      cases z'⟩
  keep := fun i h h' st k => k it (by simp) _ st
  item := by
    intro X hP hw hK hc i pins s σ H E I hf st hg
    subst hP hw hK
    obtain ⟨f0, f1, f2, f3, f4, f5⟩ := hf it (by simp)
    have W := Walks.range (prog := X.prog) (w := X.w) (I.ok.hd hc) it lo 1 n
    refine W.item i s _ _ hg st fun v h' tk hv st' kk => ?_
    obtain ⟨t, rfl⟩ := hv
    have I1 : Inv X pins σ H { s with heap := h', toks := tk } := I.turned (fun b o hb e => kk b o (by simpa using hb) e) f0 f1 f3 f4 f5
    refine ⟨_, rfl, go_of (s := { s with heap := h', toks := tk }) (n := "range_iterator") st' rfl rfl (by decide) ⟨.int (lo + i), H, I1, ⟨t, ?_⟩, ⟨rfl, rfl⟩, st', fun b hb => (hf b hb).1⟩⟩
    rw [Int.mul_one]
  done := by
    intro X hP hw hK hc i pins s σ H E I hf st hg
    subst hP hw hK
    obtain ⟨f0, f1, f2, f3, f4, f5⟩ := hf it (by simp)
    exact wpAny_pyNext_range_end (I.ok.hd hc) st (by have : n ≤ i := hg; omega) fun h' eb => ⟨rfl, I.turned (t' := s.toks) (fun b o hb e => eb b o hb e) f0 f1 f3 f4 f5⟩
  self := fun _ _ _ _ _ st h => wpAny_pyIter_rangeiter st h
end L2

namespace L2
open PySem PySem.Spec PyProof.Rows
section
variable {X : Cx} {tg : Expr}
def iList (K : PySem.W.Frag) (tl : TE) : TI := fun σ H R => tl σ H fun x H1 => ∃ a, x = .ref a ∧ (∃ xs, SqL K H1 a xs) ∧ R (Itl K a) H1
def iTup (K : PySem.W.Frag) (tl : TE) : TI := fun σ H R => tl σ H fun x H1 => ∃ a, x = .ref a ∧ (∃ xs, SqT K H1 a xs) ∧ R (Itt K a) H1
theorem pi_list {l : Expr} {tl : TE} (hl : PE X l tl) : PI X tg l (iList X.K tl) := by
  intro pins s σ H R I h
  refine thn (hl pins s σ H _ I h) fun v s1 ⟨x, H1, I1, r1, q1⟩ => ?_
  obtain ⟨a, e, ⟨xs, hq⟩, q⟩ := q1
  subst e
  cases r1
  obtain ⟨its, rv, p, hz⟩ := I1.list hq
  refine wpAny_pyIter_list p.isList ?_
  refine ⟨s1.heap.objs.size, [s1.heap.objs.size], _, _, H1, rfl, I1.kept (t' := s1.toks) fun b o e => Heap.get?_push_of_some _ e, turn_list a _, ⟨_, Heap.get?_push_size _ rfl, rfl, rfl⟩, fun b hb => ?_, q⟩
  have e : b = s1.heap.objs.size := by simpa using hb
  subst e
  exact I1.fpOk (Nat.le_refl _) (I1.hok.fresh (Nat.le_refl _))
theorem pi_tup {l : Expr} {tl : TE} (hl : PE X l tl) : PI X tg l (iTup X.K tl) := by
  intro pins s σ H R I h
  refine thn (hl pins s σ H _ I h) fun v s1 ⟨x, H1, I1, r1, q1⟩ => ?_
  obtain ⟨a, e, ⟨xs, hq⟩, q⟩ := q1
  subst e
  cases r1
  obtain ⟨its, rv, p, hz⟩ := I1.tuple hq
  refine wpAny_pyIter_tuple (show s1.heap.IsTuple a its.toArray from p) ?_
  refine ⟨s1.heap.objs.size, [s1.heap.objs.size], _, _, H1, rfl, I1.kept (t' := s1.toks) fun b o e => Heap.get?_push_of_some _ e, turn_tuple a _, ⟨_, Heap.get?_push_size _ rfl, rfl, rfl⟩, fun b hb => ?_, q⟩
  have e : b = s1.heap.objs.size := by simpa using hb
  subst e
  exact I1.fpOk (Nat.le_refl _) (I1.hok.fresh (Nat.le_refl _))
/-- a range object just made, walked -/
theorem range_it {pins : List (Addr × Obj)} {σ : St} {H : Hp} {s : Shared} {R : It → Hp → Prop} {E : Value → Shared → Prop} {lo hi : Int} {t u v : Tok} {tk : Nat} (I : Inv X pins σ H s) (h1 : -(2 ^ 62) ≤ lo) (h2 : lo < 2 ^ 62) (h3 : -(2 ^ 62) ≤ hi) (h4 : hi < 2 ^ 62)
    (q : R (Itr lo (hi - lo).toNat) H) : wpAny (model X.prog X.w) X.A (pyIter (.ref s.heap.objs.size)) (PIE X pins σ tg R) E { s with heap := s.heap.push { cls := .type "range", data := .fields #[.int lo t, .int hi u, .int 1 v] }, toks := tk } := by
  refine wpAny_pyIter_range (IsRange.new ..) (small_one h1 h2 h3 h4) ?_
  have I1 : Inv X pins σ H { s with heap := s.heap.push { cls := .type "range", data := .fields #[.int lo t, .int hi u, .int 1 v] }, toks := tk } := I.kept fun b o e => Heap.get?_push_of_some _ e
  refine ⟨(s.heap.push { cls := .type "range", data := .fields #[.int lo t, .int hi u, .int 1 v] }).objs.size, [(s.heap.push { cls := .type "range", data := .fields #[.int lo t, .int hi u, .int 1 v] }).objs.size], _, _, H, rfl,
    I1.kept (t' := tk) fun b o e => Heap.get?_push_of_some _ e, turn_range _ lo (hi - lo).toNat, ?_, fun b hb => ?_, q⟩
  · have e1 : lo + ((0 : Nat) : Int) * 1 = lo := by simp
    have e2 : (((hi - lo).toNat : Nat) : Int) - ((0 : Nat) : Int) = Builtin.Range.rangeSize lo hi 1 := by rw [rangeSize_one]; split <;> omega
    show IsRangeIter _ _ (lo + ((0 : Nat) : Int) * 1) ((((hi - lo).toNat : Nat) : Int) - ((0 : Nat) : Int)) 1
    rw [e1, e2]
    exact Heap.get?_push_size _ rfl
  · have e : b = (s.heap.push { cls := .type "range", data := .fields #[.int lo t, .int hi u, .int 1 v] }).objs.size := by simpa using hb
    subst e
    exact I1.fpOk (Nat.le_refl _) (I1.hok.fresh (Nat.le_refl _))
def iRng1 (ta : TA) : TI := fun σ H R => ta σ H fun vs H1 => ∃ j : Int, vs = [.int j] ∧ -(2 ^ 62) ≤ j ∧ j < 2 ^ 62 ∧ R (Itr 0 j.toNat) H1
def iRng2 (ta : TA) : TI := fun σ H R => ta σ H fun vs H1 => ∃ i j : Int, vs = [.int i, .int j] ∧ (-(2 ^ 62) ≤ i ∧ i < 2 ^ 62 ∧ -(2 ^ 62) ≤ j ∧ j < 2 ^ 62) ∧ R (Itr i (j - i).toNat) H1
theorem pi_range1 {a : Expr} {ta : TA} {p pos : Pos} (hg : Gl X "range") (hm : X.mg "range" = none) (ha : PA X [a] ta) (hs : starEach [a] X.env = [(false, eval a X.env)] := by rfl) : PI X tg (.Call (.Name "range" p) [a] [] pos) (iRng1 ta) := by
  intro pins s σ H R I h
  refine Call_ (ld_blt I hg hm boot_range (PyProof.Rows.callWith_type1 (thn (ha pos pins s σ H _ I h) fun us s1 ⟨vs, H1, I1, r1, q1⟩ => ?_) hs rfl))
  obtain ⟨j, e, q1, q2, q⟩ := q1
  subst e
  cases r1 with
  | cons r rr =>
    cases rr
    obtain ⟨t, rfl⟩ := r
    exact call_range_1 (range_it I1 (by omega) (by omega) q1 q2 (by simpa using q))
/-! ### for -/
/-- W: the invariant by the turn and a measure; N: what the body is to reach -/
def tFor (wi : TI) (g : TG) (tb : TS) : TS := fun D σ H => wi σ H fun J H1 => ∃ W : Nat → Nat → St → Hp → Prop, (∃ m, W 0 m σ H1) ∧ ∀ i m σ H, W i m σ H →
  (J.stop i H ∧ D.nx σ H) ∨ (J.go i H ∧ ∃ N : St → Hp → Prop, (∀ σ' H', N σ' H' → ∃ m', m' < m ∧ W (i + 1) m' σ' H') ∧ ∀ x H', J.yld i H x H' → g x σ H' fun σ2 H2 => tb { D with nx := N, ct := N, bk := D.nx } σ2 H2)
/-- the records at fp as they stand -/
def pinsAt (fp : List Addr) (h : Heap) : List (Addr × Obj) := fp.filterMap fun b => (h.get? b).map fun o => (b, o)
theorem mem_pinsAt {fp : List Addr} {h : Heap} {b : Addr} {o : Obj} (hb : b ∈ fp) (e : h.get? b = some o) : (b, o) ∈ pinsAt fp h := List.mem_filterMap.mpr ⟨b, hb, by rw [e]; rfl⟩
theorem of_pinsAt {fp : List Addr} {h : Heap} {p : Addr × Obj} (hp : p ∈ pinsAt fp h) : p.1 ∈ fp ∧ h.get? p.1 = some p.2 := by
  obtain ⟨b, hb, e⟩ := List.mem_filterMap.mp hp
  cases q : h.get? b with
  | none => rw [q] at e; cases e
  | some o =>
    rw [q] at e
    have e' : (b, o) = p := Option.some.inj e
    subst e'
    exact ⟨hb, q⟩
theorem Inv.pinned {pins : List (Addr × Obj)} {σ : St} {H : Hp} {s : Shared} {fp : List Addr} (I : Inv X pins σ H s) (hf : ∀ b ∈ fp, FpOk X pins H b) (ho : ∀ b ∈ fp, ∃ o, s.heap.get? b = some o ∧ ∀ v, o.data ≠ .cell v) : Inv X (pins ++ pinsAt fp s.heap) σ H s :=
  I.pins_of fun p hp => (List.mem_append.mp hp).elim (fun z => I.pin p (List.mem_append_right _ z)) fun z => by
    obtain ⟨hb, e⟩ := of_pinsAt z
    obtain ⟨f0, f1, f2, _⟩ := hf p.1 hb
    obtain ⟨o, e', d⟩ := ho p.1 hb
    rw [e] at e'; cases e'
    exact ⟨e, f0, f1, f2, d⟩
theorem Inv.unpinned {pins pl : List (Addr × Obj)} {σ : St} {H : Hp} {s : Shared} (I : Inv X (pins ++ pl) σ H s) : Inv X pins σ H s := I.pins_of fun p hp => I.pin p (List.mem_append_right _ (List.mem_append_left _ hp))
theorem ps_for {iter : Expr} {body : List Stmt} {wi : TI} {g : TG} {tb : TS} {pos : Pos} (hp : PassesOwn (model X.prog X.w) X.A X.env X.xe) (hc : X.calm = true) (hi : PI X tg iter wi) (hg : PG X tg g) (hb : PSs X body tb)
    (hs : ∀ x, foldedSetIterable iter X.env x = pure x := by intro _; rfl) : PS X (.For tg iter body [] pos) (tFor wi g tb) := by
  intro pins s σ H D I h
  refine wpAny_For (thn (hi pins s σ H _ I h) fun v s1 h1 => thn h1 fun itv s2 h2 => ?_) hs
  obtain ⟨it, fp, tn, J, H2, e, I2, T, st2, f2, W, ⟨m0, w0⟩, turn⟩ := h2
  subst e
  -- what stays true of the iterator's objects through the loop
  have stat : ∀ {H' : Hp}, (∀ b ∈ fp, H' b = none) → ∀ b ∈ fp, FpOk X pins H' b := fun hn b hb => ⟨hn b hb, (f2 b hb).2⟩
  refine codeAny_forLoop_any (fun n s' => ∃ i σ' H', Inv X pins σ' H' s' ∧ tn i s'.heap ∧ (∀ b ∈ fp, H' b = none) ∧ W i n σ' H') ?_ m0 ⟨0, σ, H2, I2, st2, fun b hb => (f2 b hb).1, w0⟩
  rintro n s3 ⟨i, σ3, H3, I3, st3, fr3, w3⟩
  rcases turn i n σ3 H3 w3 with ⟨stop, qn⟩ | ⟨go, N, hN, step⟩
  · refine wpAny_passesOwn hp (thn (T.done X rfl rfl rfl hc i pins s3 σ3 H3 X.xe I3 (stat fr3) st3 stop) fun r s4 ⟨hr, I4⟩ => ?_)
    subst hr
    exact wpAny_execs_nil ⟨σ3, H3, I4, qn⟩
  · refine wpAny_passesOwn hp (thn (T.item X rfl rfl rfl hc i pins s3 σ3 H3 X.xe I3 (stat fr3) st3 go) fun r s4 ⟨u, hr, h4⟩ => ?_)
    subst hr
    refine wpAny_passesOwn hp (thn h4 fun _ s5 ⟨x, H5, I5, r5, y5, st5, fr5⟩ => ?_)
    have I5' := I5.pinned (stat fr5) (T.obj _ _ st5)
    refine wpAny_passesOwn hp (thn (hg _ s5 σ3 H5 x u _ I5' r5 (step x H5 y5)) fun _ s6 ⟨σ6, H6, I6, q6⟩ => ?_)
    refine wpAny_passesOwn hp (thn (hb _ s6 σ6 H6 _ I6 q6) fun f s7 q7 => ?_)
    have again : ∀ {σ7 : St} {H7 : Hp}, Inv X (pins ++ pinsAt fp s5.heap) σ7 H7 s7 → N σ7 H7 → ∃ m, m < n ∧ ∃ i σ' H', Inv X pins σ' H' s7 ∧ tn i s7.heap ∧ (∀ b ∈ fp, H' b = none) ∧ W i m σ' H' := fun {σ7 H7} I7 n7 => by
      obtain ⟨m', hm, w7⟩ := hN σ7 H7 n7
      refine ⟨m', hm, i + 1, σ7, H7, I7.unpinned, T.keep _ _ _ st5 fun b hb o e => (I7.pin (b, o) (List.mem_append_right _ (List.mem_append_right _ (mem_pinsAt hb e)))).1, fun b hb => ?_, w7⟩
      obtain ⟨o, e, d⟩ := T.obj _ _ st5 b hb
      exact (I7.pin (b, o) (List.mem_append_right _ (List.mem_append_right _ (mem_pinsAt hb e)))).2.1
    cases f with
    | next => obtain ⟨σ7, H7, I7, n7⟩ := q7; exact again I7 n7
    | cont => obtain ⟨σ7, H7, I7, n7⟩ := q7; exact again I7 n7
    | brk => obtain ⟨σ7, H7, I7, q7⟩ := q7; exact ⟨σ7, H7, I7.unpinned, q7⟩
    | ret v => obtain ⟨x7, σ7, H7, I7, r7, q7⟩ := q7; exact ⟨x7, σ7, H7, I7.unpinned, r7, q7⟩
end

/-! ### the forms one uses -/
/-- over a list that the body leaves as it is -/
theorem for_list {K : PySem.W.Frag} {a : Addr} {xs : List V} {g : TG} {tb : TS} {D : Ends} {σ : St} {H : Hp} (Pv : Nat → St → Hp → Prop) (h0 : Pv 0 σ H) (hl : ∀ i σ H, i ≤ xs.length → Pv i σ H → SqL K H a xs)
    (hs : ∀ i x σ H, xs[i]? = some x → Pv i σ H → g x σ H fun σ2 H2 => tb { D with nx := Pv (i + 1), ct := Pv (i + 1), bk := D.nx } σ2 H2) (hd : ∀ σ H, Pv xs.length σ H → D.nx σ H) :
    ∃ W : Nat → Nat → St → Hp → Prop, (∃ m, W 0 m σ H) ∧ ∀ i m σ H, W i m σ H →
      ((Itl K a).stop i H ∧ D.nx σ H) ∨ ((Itl K a).go i H ∧ ∃ N : St → Hp → Prop, (∀ σ' H', N σ' H' → ∃ m', m' < m ∧ W (i + 1) m' σ' H') ∧ ∀ x H', (Itl K a).yld i H x H' → g x σ H' fun σ2 H2 => tb { D with nx := N, ct := N, bk := D.nx } σ2 H2) := by
  refine ⟨fun i m σ H => m = xs.length - i ∧ i ≤ xs.length ∧ Pv i σ H, ⟨xs.length, by simp, Nat.zero_le _, h0⟩, ?_⟩
  rintro i m σ H ⟨rfl, hi, p⟩
  have q := hl i σ H hi p
  by_cases hlt : i < xs.length
  · refine .inr ⟨⟨xs, xs[i], q, by simp [hlt]⟩, Pv (i + 1), fun σ' H' p' => ⟨xs.length - (i + 1), by omega, rfl, hlt, p'⟩, fun x H' y => ?_⟩
    obtain ⟨e, y⟩ := y
    subst e
    exact hs i x σ _ (y xs q) p
  · have e : i = xs.length := by omega
    subst e
    exact .inl ⟨⟨xs, q, Nat.le_refl _⟩, hd σ H p⟩
theorem for_range {lo : Int} {n : Nat} {g : TG} {tb : TS} {D : Ends} {σ : St} {H : Hp} (Pv : Nat → St → Hp → Prop) (h0 : Pv 0 σ H)
    (hs : ∀ i σ H, i < n → Pv i σ H → g (.int (lo + i)) σ H fun σ2 H2 => tb { D with nx := Pv (i + 1), ct := Pv (i + 1), bk := D.nx } σ2 H2) (hd : ∀ σ H, Pv n σ H → D.nx σ H) :
    ∃ W : Nat → Nat → St → Hp → Prop, (∃ m, W 0 m σ H) ∧ ∀ i m σ H, W i m σ H →
      ((Itr lo n).stop i H ∧ D.nx σ H) ∨ ((Itr lo n).go i H ∧ ∃ N : St → Hp → Prop, (∀ σ' H', N σ' H' → ∃ m', m' < m ∧ W (i + 1) m' σ' H') ∧ ∀ x H', (Itr lo n).yld i H x H' → g x σ H' fun σ2 H2 => tb { D with nx := N, ct := N, bk := D.nx } σ2 H2) := by
  refine ⟨fun i m σ H => m = n - i ∧ i ≤ n ∧ Pv i σ H, ⟨n, by simp, Nat.zero_le _, h0⟩, ?_⟩
  rintro i m σ H ⟨rfl, hi, p⟩
  by_cases hlt : i < n
  · refine .inr ⟨hlt, Pv (i + 1), fun σ' H' p' => ⟨n - (i + 1), by omega, rfl, hlt, p'⟩, fun x H' y => ?_⟩
    obtain ⟨e, y⟩ := y
    subst e y
    exact hs i σ _ hlt p
  · have e : i = n := by omega
    subst e
    exact .inl ⟨Nat.le_refl _, hd σ H p⟩
end L2

namespace L2
open PySem PySem.Spec PyProof.Rows

abbrev R2 := V → V → Hp → VK → Prop
/-- a two-place operation on values: f is binaryOp op, inplaceOp op or compareOp op -/
def OpR (X : Cx) (f : Value → Value → Sem Value) (r : R2) : Prop :=
  ∀ (pins : List (Addr × Obj)) (s : Shared) (σ : St) (H : Hp) (x y : V) (v u : Value) (Q : VK), Inv X pins σ H s → RelV x v → RelV y u → r x y H Q →
    wpAny (model X.prog X.w) X.A (f v u) (EP X pins σ Q) X.xe s
/-- a one-place operation -/
def UnR (X : Cx) (f : Value → Sem Value) (r : V → Hp → VK → Prop) : Prop :=
  ∀ (pins : List (Addr × Obj)) (s : Shared) (σ : St) (H : Hp) (x : V) (v : Value) (Q : VK), Inv X pins σ H s → RelV x v → r x H Q →
    wpAny (model X.prog X.w) X.A (f v) (EP X pins σ Q) X.xe s
/-- a call of a value that is known (a builtin, a type) with values -/
def CallR (X : Cx) (f : Value) (r : List V → Hp → VK → Prop) : Prop :=
  ∀ (pins : List (Addr × Obj)) (s : Shared) (σ : St) (H : Hp) (xs : List V) (us : List Value) (Q : VK), Inv X pins σ H s → Vals xs us → r xs H Q →
    wpAny (model X.prog X.w) X.A (call f us) (EP X pins σ Q) X.xe s
/-- a value's truth -/
def TruR (X : Cx) (r : V → Hp → (Bool → Hp → Prop) → Prop) : Prop :=
  ∀ (pins : List (Addr × Obj)) (s : Shared) (σ : St) (H : Hp) (x : V) (v : Value) (Q : Bool → Hp → Prop), Inv X pins σ H s → RelV x v → r x H Q →
    wpAny (model X.prog X.w) X.A (truthy v) (TP X pins σ Q) X.xe s

def tOp (r : R2) (ta tb : TE) : TE := fun σ H Q => ta σ H fun x H1 => tb σ H1 fun y H2 => r x y H2 Q
def tUn (r : V → Hp → VK → Prop) (ta : TE) : TE := fun σ H Q => ta σ H fun x H1 => r x H1 Q
/-- ints in, under C, and a value out -/
def rI (C : Int → Int → Prop) (g : Int → Int → V) : R2 := fun x y H Q => ∃ i j, x = .int i ∧ y = .int j ∧ C i j ∧ Q (g i j) H
def rI0 (g : Int → Int → V) : R2 := fun x y H Q => ∃ i j, x = .int i ∧ y = .int j ∧ Q (g i j) H
def rU (g : Int → V) : V → Hp → VK → Prop := fun x H Q => ∃ i, x = .int i ∧ Q (g i) H

section
variable {X : Cx} {a b c : Expr} {ta tb tc : TE} {pos : Pos}

theorem binT (ha : PE X a ta) (hb : PE X b tb) {pins : List (Addr × Obj)} {s : Shared} {σ : St} {H : Hp} {R : V → V → Hp → Prop} (I : Inv X pins σ H s)
    (h : ta σ H fun x H1 => tb σ H1 fun y H2 => R x y H2) {Q : Value → Shared → Prop} {f : Value → Value → Sem Value}
    (hf : ∀ v u s2 x y H2, Inv X pins σ H2 s2 → RelV x v → RelV y u → R x y H2 → wpAny (model X.prog X.w) X.A (f v u) Q X.xe s2) :
    wpAny (model X.prog X.w) X.A (eval a X.env) (fun v s₁ => wpAny (model X.prog X.w) X.A (eval b X.env) (fun u s₂ => wpAny (model X.prog X.w) X.A (f v u) Q X.xe s₂) X.xe s₁) X.xe s := by
  refine thn (ha pins s σ H _ I h) fun v s1 ⟨x, H1, I1, r1, q1⟩ => ?_
  refine thn (hb pins s1 σ H1 _ I1 q1) fun u s2 ⟨y, H2, I2, r2, q2⟩ => ?_
  exact hf v u s2 x y H2 I2 r1 r2 q2

theorem pe_op {op : Operator} {r : R2} (ho : OpR X (binaryOp op) r) (ha : PE X a ta) (hb : PE X b tb) : PE X (.BinOp a op b pos) (tOp r ta tb) := by
  intro pins s σ H Q I h
  exact wpAny_BinOp (binT ha hb I h fun v u s2 x y H2 I2 rx ry q => ho pins s2 σ H2 x y v u Q I2 rx ry q)
theorem pe_un {op : UnaryOp} {r : V → Hp → VK → Prop} (ho : UnR X (unaryOp op) r) (ha : PE X a ta) : PE X (.UnaryOp op a pos) (tUn r ta) := by
  intro pins s σ H Q I h
  exact UnaryOp_ (thn (ha pins s σ H _ I h) fun v s1 ⟨x, H1, I1, r1, q1⟩ => ho pins s1 σ H1 x v Q I1 r1 q1)
/-! ### ints -/
theorem opI {f : Value → Value → Sem Value} {C : Int → Int → Prop} {g : Int → Int → Int}
    (rule : ∀ (i j : Int) (t u : Tok) (s : Shared) (Q : Value → Shared → Prop) (E : Value → Shared → Prop), C i j → Q (.int (g i j) s.toks) { s with toks := s.toks + 1 } → wpAny (model X.prog X.w) X.A (f (.int i t) (.int j u)) Q E s) :
    OpR X f (rI C fun i j => .int (g i j)) := by
  intro pins s σ H x y v u Q I rx ry h
  obtain ⟨i, j, rfl, rfl, hc, q⟩ := h
  obtain ⟨t, rfl⟩ := rx
  obtain ⟨t', rfl⟩ := ry
  exact rule i j t t' s _ _ hc ⟨.int (g i j), H, I.tok _, ⟨_, rfl⟩, q⟩
theorem opI0 {f : Value → Value → Sem Value} {g : Int → Int → Int}
    (rule : ∀ (i j : Int) (t u : Tok) (s : Shared) (Q : Value → Shared → Prop) (E : Value → Shared → Prop), Q (.int (g i j) s.toks) { s with toks := s.toks + 1 } → wpAny (model X.prog X.w) X.A (f (.int i t) (.int j u)) Q E s) :
    OpR X f (rI0 fun i j => .int (g i j)) := by
  intro pins s σ H x y v u Q I rx ry h
  obtain ⟨i, j, rfl, rfl, q⟩ := h
  obtain ⟨t, rfl⟩ := rx
  obtain ⟨t', rfl⟩ := ry
  exact rule i j t t' s _ _ ⟨.int (g i j), H, I.tok _, ⟨_, rfl⟩, q⟩
theorem opB0 {f : Value → Value → Sem Value} {g : Int → Int → Bool}
    (rule : ∀ (i j : Int) (t u : Tok) (s : Shared) (Q : Value → Shared → Prop) (E : Value → Shared → Prop), Q (.bool (g i j)) s → wpAny (model X.prog X.w) X.A (f (.int i t) (.int j u)) Q E s) :
    OpR X f (rI0 fun i j => .bl (g i j)) := by
  intro pins s σ H x y v u Q I rx ry h
  obtain ⟨i, j, rfl, rfl, q⟩ := h
  obtain ⟨t, rfl⟩ := rx
  obtain ⟨t', rfl⟩ := ry
  exact rule i j t t' s _ _ ⟨.bl (g i j), H, I, rfl, q⟩

def CDiv (i j : Int) : Prop := 0 < j ∧ j < 1073741824
def CDivN (i j : Int) : Prop := j ≠ 0 ∧ j.natAbs < 1073741824
def CPow (i j : Int) : Prop := 0 ≤ j ∧ j ≤ 1000000 ∧ i.natAbs < 2 ^ 64
def CMul (i j : Int) : Prop := (-(2 ^ 64) < i ∧ i < 2 ^ 64) ∨ (-(2 ^ 64) < j ∧ j < 2 ^ 64)
theorem CMul.ok {i j : Int} (h : CMul i j) : IntMulOk i j := by
  rcases h with ⟨h1, h2⟩ | ⟨h1, h2⟩
  · exact .of_left (intBits_le_64 h1 h2)
  · exact .of_right (intBits_le_64 h1 h2)
theorem two_pow_nn (k : Nat) : (0 : Int) ≤ 2 ^ k := by
  rw [two_pow_cast]
  exact Int.natCast_nonneg _

theorem op_add : OpR X (binaryOp .Add) (rI0 fun i j => .int (i + j)) := opI0 fun _ _ _ _ _ _ _ q => add_int q
theorem op_sub : OpR X (binaryOp .Sub) (rI0 fun i j => .int (i - j)) := opI0 fun _ _ _ _ _ _ _ q => sub_int q
theorem op_mul : OpR X (binaryOp .Mult) (rI CMul fun i j => .int (i * j)) := opI fun _ _ _ _ _ _ _ hc q => mul_int q hc.ok
/-- // by a positive divisor -/
theorem op_fdiv : OpR X (binaryOp .FloorDiv) (rI CDiv fun i j => .int (i / j)) := opI fun i j _ _ _ _ _ hc q => by
  have h1 : (0 : Int) < j := hc.1
  have h2 : j < 1073741824 := hc.2
  exact floordiv_int (by omega) (by rw [Int.fdiv_eq_ediv_of_nonneg i (by omega)]; exact q) (.inl (PyProof.noPylong_small (by omega)))
/-- % by a positive divisor of any size -/
theorem op_mod : OpR X (binaryOp .Mod) (rI (fun _ j => 0 < j) fun i j => .int (i % j)) := opI fun i j _ _ _ _ _ hc q => by
  have h1 : (0 : Int) < j := hc
  exact mod_int' (by omega) (by rw [Int.fmod_eq_emod_of_nonneg i (by omega)]; exact q)
theorem op_pow : OpR X (binaryOp .Pow) (rI CPow fun i j => .int (i ^ j.toNat)) := opI fun _ _ _ _ _ _ _ hc q => pow_int_small hc.1 hc.2.1 hc.2.2 q
theorem op_shr : OpR X (binaryOp .RShift) (rI (fun _ j => 0 ≤ j) fun i j => .int (i / 2 ^ j.toNat)) := opI fun i j _ _ _ _ _ hc q =>
  rshift_int hc (by rw [Int.fdiv_eq_ediv_of_nonneg i (two_pow_nn _)]; exact q)
theorem op_and : OpR X (binaryOp .BitAnd) (rI0 fun i j => .int (Builtin.bitAnd i j)) := opI0 fun _ _ _ _ _ _ _ q => and_int q
theorem unI {f : Value → Sem Value} {g : Int → Int}
    (rule : ∀ (i : Int) (t : Tok) (s : Shared) (Q : Value → Shared → Prop) (E : Value → Shared → Prop), Q (.int (g i) s.toks) { s with toks := s.toks + 1 } → wpAny (model X.prog X.w) X.A (f (.int i t)) Q E s) :
    UnR X f (rU fun i => .int (g i)) := by
  intro pins s σ H x v Q I rx h
  obtain ⟨i, rfl, q⟩ := h
  obtain ⟨t, rfl⟩ := rx
  exact rule i t s _ _ ⟨.int (g i), H, I.tok _, ⟨_, rfl⟩, q⟩
theorem un_neg : UnR X (unaryOp .USub) (rU fun i => .int (-i)) := unI fun _ _ _ _ _ q => neg_int q
/-! ### bools among ints: n += (a < b) -/
end

/-! ### comparisons -/
/-- the scalars that == tells apart as data does -/
def scal : V → V → Bool
  | .non, .non => true | .non, .int _ => true | .int _, .non => true | .non, .bl _ => true | .bl _, .non => true | .non, .str _ => true | .str _, .non => true
  | .int _, .int _ => true | .bl _, .bl _ => true | .str _, .str _ => true | .byt _, .byt _ => true
  | .int _, .str _ => true | .str _, .int _ => true | .bl _, .str _ => true | .str _, .bl _ => true
  | _, _ => false
def rEq : R2 := fun x y H Q => scal x y = true ∧ Q (.bl (decide (x = y))) H
def rNe : R2 := fun x y H Q => scal x y = true ∧ Q (.bl (!decide (x = y))) H

theorem dec_int {i j : Int} : decide (V.int i = V.int j) = (i == j) := by
  rw [Bool.eq_iff_iff]
  simp
theorem dec_bl {i j : Bool} : decide (V.bl i = V.bl j) = (i == j) := by
  rw [Bool.eq_iff_iff]
  simp
theorem dec_str {i j : Str} : decide (V.str i = V.str j) = (i == j) := by
  rw [Bool.eq_iff_iff]
  simp
theorem dec_byt {i j : Array UInt8} : decide (V.byt i = V.byt j) = (i.toList == j.toList) := by
  rw [Bool.eq_iff_iff]
  cases i
  cases j
  simp

section
variable {X : Cx} {a b c : Expr} {ta tb tc : TE} {pos : Pos}
theorem fin_bl {pins : List (Addr × Obj)} {σ : St} {H : Hp} {s : Shared} {Q : VK} {k k' : Bool} (I : Inv X pins σ H s) (q : Q (.bl k) H) (e : k = k') : EP X pins σ Q (.bool k') s := by
  subst e
  exact ⟨.bl k, H, I, rfl, q⟩
theorem op_eq : OpR X (compareOp .Eq) rEq := by
  intro pins s σ H x y v u Q I rx ry h
  obtain ⟨hs, q⟩ := h
  cases x with
  | non =>
    cases rx
    cases y with
    | non => cases ry; exact PySem.EqNone.eq_none_none (fin_bl I q (by simp))
    | bl j => cases ry; exact PySem.EqNone.eq_none_bool (fin_bl I q (by simp))
    | int j => obtain ⟨t', rfl⟩ := ry; exact PySem.EqNone.eq_none_int (fin_bl I q (by simp))
    | str j => obtain ⟨t', rfl⟩ := ry; exact PySem.EqNone.eq_none_str (fin_bl I q (by simp))
    | _ => exact absurd (show false = true from hs) Bool.false_ne_true
  | bl i =>
    cases rx
    cases y with
    | non => cases ry; exact PySem.EqNone.eq_bool_none (fin_bl I q (by simp))
    | bl j => cases ry; exact eq_bool (fin_bl I q dec_bl)
    | str j => obtain ⟨t', rfl⟩ := ry; exact PySem.EqMixed.eq_bool_str (fin_bl I q (by simp))
    | _ => exact absurd (show false = true from hs) Bool.false_ne_true
  | int i =>
    obtain ⟨t, rfl⟩ := rx
    cases y with
    | non => cases ry; exact PySem.EqNone.eq_int_none (fin_bl I q (by simp))
    | int j => obtain ⟨t', rfl⟩ := ry; exact eq_int (fin_bl I q dec_int)
    | str j => obtain ⟨t', rfl⟩ := ry; exact PySem.EqMixed.eq_int_str (fin_bl I q (by simp))
    | _ => exact absurd (show false = true from hs) Bool.false_ne_true
  | str i =>
    obtain ⟨t, rfl⟩ := rx
    cases y with
    | non => cases ry; exact PySem.EqNone.eq_str_none (fin_bl I q (by simp))
    | bl j => cases ry; exact PySem.EqMixed.eq_str_bool (fin_bl I q (by simp))
    | int j => obtain ⟨t', rfl⟩ := ry; exact PySem.EqMixed.eq_str_int (fin_bl I q (by simp))
    | str j => obtain ⟨t', rfl⟩ := ry; exact eq_str (fin_bl I q dec_str)
    | _ => exact absurd (show false = true from hs) Bool.false_ne_true
  | byt i =>
    obtain ⟨t, rfl⟩ := rx
    cases y with
    | byt j => obtain ⟨t', rfl⟩ := ry; exact PySem.W.eq_bytes (fin_bl I q dec_byt)
    | _ => exact absurd (show false = true from hs) Bool.false_ne_true
  | _ => cases y <;> exact absurd (show false = true from hs) Bool.false_ne_true
theorem op_ne : OpR X (compareOp .NotEq) rNe := by
  intro pins s σ H x y v u Q I rx ry h
  obtain ⟨hs, q⟩ := h
  cases x with
  | non =>
    cases rx
    cases y with
    | non => cases ry; exact PySem.EqNone.ne_none_none (fin_bl I q (by simp))
    | bl j => cases ry; exact PySem.EqNone.ne_none_bool (fin_bl I q (by simp))
    | int j => obtain ⟨t', rfl⟩ := ry; exact PySem.EqNone.ne_none_int (fin_bl I q (by simp))
    | str j => obtain ⟨t', rfl⟩ := ry; exact PySem.EqNone.ne_none_str (fin_bl I q (by simp))
    | _ => exact absurd (show false = true from hs) Bool.false_ne_true
  | bl i =>
    cases rx
    cases y with
    | non => cases ry; exact PySem.EqNone.ne_bool_none (fin_bl I q (by simp))
    | bl j => cases ry; exact ne_bool (fin_bl I q (congrArg not dec_bl))
    | str j => obtain ⟨t', rfl⟩ := ry; exact PySem.EqMixed.ne_bool_str (fin_bl I q (by simp))
    | _ => exact absurd (show false = true from hs) Bool.false_ne_true
  | int i =>
    obtain ⟨t, rfl⟩ := rx
    cases y with
    | non => cases ry; exact PySem.EqNone.ne_int_none (fin_bl I q (by simp))
    | int j => obtain ⟨t', rfl⟩ := ry; exact ne_int (fin_bl I q (congrArg not dec_int))
    | str j => obtain ⟨t', rfl⟩ := ry; exact PySem.EqMixed.ne_int_str (fin_bl I q (by simp))
    | _ => exact absurd (show false = true from hs) Bool.false_ne_true
  | str i =>
    obtain ⟨t, rfl⟩ := rx
    cases y with
    | non => cases ry; exact PySem.EqNone.ne_str_none (fin_bl I q (by simp))
    | bl j => cases ry; exact PySem.EqMixed.ne_str_bool (fin_bl I q (by simp))
    | int j => obtain ⟨t', rfl⟩ := ry; exact PySem.EqMixed.ne_str_int (fin_bl I q (by simp))
    | str j => obtain ⟨t', rfl⟩ := ry; exact ne_str (fin_bl I q (congrArg not dec_str))
    | _ => exact absurd (show false = true from hs) Bool.false_ne_true
  | byt i =>
    obtain ⟨t, rfl⟩ := rx
    cases y with
    | byt j => obtain ⟨t', rfl⟩ := ry; exact PySem.W.ne_bytes (fin_bl I q (congrArg not dec_byt))
    | _ => exact absurd (show false = true from hs) Bool.false_ne_true
  | _ => cases y <;> exact absurd (show false = true from hs) Bool.false_ne_true

theorem op_lt : OpR X (compareOp .Lt) (rI0 fun i j => .bl (decide (i < j))) := opB0 fun _ _ _ _ _ _ _ q => lt_int q
theorem op_le : OpR X (compareOp .LtE) (rI0 fun i j => .bl (decide (i ≤ j))) := opB0 fun _ _ _ _ _ _ _ q => le_int q
theorem op_gt : OpR X (compareOp .Gt) (rI0 fun i j => .bl (decide (j < i))) := opB0 fun _ _ _ _ _ _ _ q => gt_int q
theorem op_ge : OpR X (compareOp .GtE) (rI0 fun i j => .bl (decide (j ≤ i))) := opB0 fun _ _ _ _ _ _ _ q => ge_int q
/-- the one string within the other -/
theorem op_in_str : OpR X (compareOp .In) (fun x y H Q => ∃ i j, x = .str i ∧ y = .str j ∧ Q (.bl (!(Builtin.Str.occurrences j i 0 j.length 1).isEmpty)) H) := by
  intro pins s σ H x y v u Q I rx ry h
  obtain ⟨i, j, rfl, rfl, q⟩ := h
  obtain ⟨t, rfl⟩ := rx
  obtain ⟨t', rfl⟩ := ry
  exact in_str (fin_bl I q rfl)

theorem op_notN : OpR X (compareOp .IsNot) (fun x y H Q => y = .non ∧ Q (.bl (!decide (x = .non))) H) := by
  intro pins s σ H x y v u Q I rx ry h
  obtain ⟨rfl, q⟩ := h
  cases ry
  refine isnot_none_gen (fin_bl I q ?_)
  cases x <;> first
    | (cases rx; rfl)
    | (obtain ⟨t, rfl⟩ := rx; rfl)

/-- is, is not of two objects that are tracked lists or instances -/
def isObj : HO → Bool
  | .lst _ => true
  | .ins _ _ _ => true
  | _ => false
/-- two rules for one operation: by cases -/
theorem OpR.or {f : Value → Value → Sem Value} {r r' : R2} (h : OpR X f r) (h' : OpR X f r') : OpR X f (fun x y H Q => r x y H Q ∨ r' x y H Q) := by
  intro pins s σ H x y v u Q I rx ry q
  rcases q with q | q
  · exact h pins s σ H x y v u Q I rx ry q
  · exact h' pins s σ H x y v u Q I rx ry q

theorem nomark (b : Expr) {op : CmpOp} (h : op ≠ .In := by decide) (h2 : op ≠ .NotIn := by decide) : behindInMarks op b = false := by
  have e1 : (op == CmpOp.In) = false := by cases op <;> first | rfl | exact absurd rfl h
  have e2 : (op == CmpOp.NotIn) = false := by cases op <;> first | rfl | exact absurd rfl h2
  cases b <;> simp [behindInMarks, e1, e2]
/-- a comparison as a value; hm: nomark b, or (for in, not in) by with_unfolding_all rfl -/
theorem pe_cmpR {op : CmpOp} {r : R2} (ho : OpR X (compareOp op) r) (ha : PE X a ta) (hb : PE X b tb) (hm : behindInMarks op b = false) : PE X (.Compare a [op] [b] pos) (tOp r ta tb) := by
  intro pins s σ H Q I h
  exact wpAny_Compare1 (binT ha hb I h fun v u s2 x y H2 I2 rx ry q => ho pins s2 σ H2 x y v u Q I2 rx ry q) hm
/-- a reading of a value as a test -/
def tTest (t : TE) : TT := fun σ H Q => t σ H fun x H' => ∃ k, x = .bl k ∧ Q k H'
theorem pt_cmpR {op : CmpOp} {r : R2} (ho : OpR X (compareOp op) r) (ha : PE X a ta) (hb : PE X b tb) (hm : behindInMarks op b = false) : PT X (.Compare a [op] [b] pos) (tTest (tOp r ta tb)) := by
  intro pins s σ H Q I h
  refine wpAny_isTrue_Compare1 (thn (ha pins s σ H _ I h) fun v s1 ⟨x, H1, I1, r1, q1⟩ => thn (hb pins s1 σ H1 _ I1 q1) fun u s2 ⟨y, H2, I2, r2, q2⟩ =>
    thn (ho pins s2 σ H2 x y v u _ I2 r1 r2 q2) fun c s3 ⟨z, H3, I3, r3, k, e, q3⟩ => ?_) hm
  subst e
  cases r3
  exact wpAny_truthy_bool ⟨H3, I3, q3⟩
/-- a op1 b op2 c -/
def tChain (r r' : R2) (ta tb tc : TE) : TE := fun σ H Q => ta σ H fun x H1 => tb σ H1 fun y H2 => r x y H2 fun z H3 => ∃ k, z = .bl k ∧
  (if k = true then tc σ H3 fun w' H4 => r' y w' H4 Q else Q (.bl false) H3)
theorem pe_chain {op op' : CmpOp} {r r' : R2} (ho : OpR X (compareOp op) r) (ho' : OpR X (compareOp op') r') (ha : PE X a ta) (hb : PE X b tb) (hc : PE X c tc)
    (hm : lastMarks [op, op'] [b, c] = false := by with_unfolding_all rfl) : PE X (.Compare a [op, op'] [b, c] pos) (tChain r r' ta tb tc) := by
  intro pins s σ H Q I h
  refine Compare_chain (thn (ha pins s σ H _ I h) fun v s1 ⟨x, H1, I1, r1, q1⟩ => chain_link (thn (hb pins s1 σ H1 _ I1 q1) fun u s2 ⟨y, H2, I2, r2, q2⟩ =>
    thn (ho pins s2 σ H2 x y v u _ I2 r1 r2 q2) fun d s3 ⟨z, H3, I3, r3, k, e, q3⟩ => ?_)) hm
  subst e
  cases r3
  refine wpAny_truthy_bool ?_
  cases k with
  | false => exact ite_ff ⟨.bl false, H3, I3, rfl, q3⟩
  | true => exact ite_tt (chain_last (thn (hc pins s3 σ H3 _ I3 q3) fun w' s4 ⟨z', H4, I4, r4, q4⟩ => ho' pins s4 σ H4 y z' u w' Q I4 r2 r4 q4))
/-! ### truth -/
/-- a value's truth by the abstract heap -/
def TruV (K : PySem.W.Frag) (x : V) (H : Hp) (k : Bool) : Prop :=
  match x with
  | .non => k = false
  | .bl b => k = b
  | .int i => k = (i != 0)
  | .str y => y.length ≤ sizeLine ∧ k = ((y.length : Int) != 0)
  | .byt y => y.size ≤ sizeLine ∧ k = ((y.size : Int) != 0)
  | .ref p => (∃ xs, SqL K H p xs ∧ k = !xs.isEmpty) ∨ (∃ xs, SqT K H p xs ∧ k = !xs.isEmpty) ∨ ∃ kvs, H p = some (.dK kvs) ∧ k = !kvs.isEmpty
  | _ => False
theorem line63 : (sizeLine : Nat) < 2 ^ 63 := by rw [sizeLine_eq]; decide
/-! ### strs and bytes -/
theorem op_add_str : OpR X (binaryOp .Add) (fun x y H Q => ∃ i j, x = .str i ∧ y = .str j ∧ i.length + j.length ≤ sizeLine ∧ Q (.str (i ++ j)) H) := by
  intro pins s σ H x y v u Q I rx ry h
  obtain ⟨i, j, rfl, rfl, hz, q⟩ := h
  obtain ⟨t, rfl⟩ := rx
  obtain ⟨t', rfl⟩ := ry
  exact add_str (fun t' tk => ⟨.str (i ++ j), H, I.tok _, ⟨_, rfl⟩, q⟩) hz
def PlainIxT (b : Expr) : Prop := ∀ o i, subscripted b false o i = operate [o, i] (getItem o i)
/-! ### scalar builtins, by CallR -/
theorem vals1 {x : V} {us : List Value} (r : Vals [x] us) : ∃ u, us = [u] ∧ RelV x u := by
  cases r with
  | cons r1 r2 => cases r2; exact ⟨_, rfl, r1⟩
theorem vals2 {x y : V} {us : List Value} (r : Vals [x, y] us) : ∃ u w', us = [u, w'] ∧ RelV x u ∧ RelV y w' := by
  cases r with
  | cons r1 r2 =>
    cases r2 with
    | cons r3 r4 => cases r4; exact ⟨_, _, rfl, r1, r3⟩
theorem call_max2 (hc : X.calm = true) : CallR X (.builtin "max") (fun xs H Q => ∃ i j, xs = [.int i, .int j] ∧ Q (.int (if j > i then j else i)) H) := by
  intro pins s σ H xs us Q I r h
  obtain ⟨i, j, rfl, q⟩ := h
  obtain ⟨u, w', rfl, ⟨t, rfl⟩, ⟨t', rfl⟩⟩ := vals2 r
  refine max_two_ints (I.ok.hd hc) fun h' tk k => ⟨_, H, I.kept k, ?_, q⟩
  by_cases hj : j > i
  · rw [if_pos hj, if_pos hj]; exact ⟨_, rfl⟩
  · rw [if_neg hj, if_neg hj]; exact ⟨_, rfl⟩
theorem call_min2 (hc : X.calm = true) : CallR X (.builtin "min") (fun xs H Q => ∃ i j, xs = [.int i, .int j] ∧ Q (.int (if j < i then j else i)) H) := by
  intro pins s σ H xs us Q I r h
  obtain ⟨i, j, rfl, q⟩ := h
  obtain ⟨u, w', rfl, ⟨t, rfl⟩, ⟨t', rfl⟩⟩ := vals2 r
  refine min_two_ints (I.ok.hd hc) fun h' tk k => ⟨_, H, I.kept k, ?_, q⟩
  by_cases hj : j < i
  · rw [if_pos hj, if_pos hj]; exact ⟨_, rfl⟩
  · rw [if_neg hj, if_neg hj]; exact ⟨_, rfl⟩
/-- len of a str, a bytes, a list, a tuple -/
def LenV (K : PySem.W.Frag) (x : V) (H : Hp) (n : Nat) : Prop :=
  match x with
  | .str y => y.length ≤ sizeLine ∧ n = y.length
  | .byt y => y.size ≤ sizeLine ∧ n = y.size
  | .ref p => (∃ xs, SqL K H p xs ∧ n = xs.length) ∨ ∃ xs, SqT K H p xs ∧ n = xs.length
  | _ => False
end
end L2

namespace L2
open PySem PySem.Spec PyProof.Rows

/-! ### an instance, its attributes a map -/
structure ObjM (h : Heap) (x dx C : Addr) (mA : Str → Option Value) : Prop where
  obj : h.get? x = some (PySem.W.instObj C dx)
  ns : h.Ns1 dx mA
  ne : dx ≠ x

section
variable {prog : Program} {w : World} {A : Around} {E : Value → Shared → Prop} {s : Shared} {K : PySem.W.Frag} {x dx C f : Addr} {mA : Str → Option Value} {name : Str} {v : Value}

end

/-! ### the attributes as a list of pairs -/
def putF (f : Str) (v : V) : List (Str × V) → List (Str × V)
  | [] => [(f, v)]
  | (g, x) :: r => if g = f then (g, v) :: r else (g, x) :: putF f v r
section
variable {P : Program} {w : World} {H H' : Hp} {h h' : Heap} {a C dx : Addr} {fs fs' : List (Str × V)}
end

/-! ### what of the text a class must have -/
structure Cls (K : PySem.W.Frag) (C : Addr) : Prop where
  pg : PySem.W.plainGet K C Str.empty = true
  hd : PySem.W.hasDictIn K C = true
  po : PySem.W.plainOver K C = true
  sa : PySem.W.findIn K (.ref C) "__setattr__" = some (some (.builtin "object.__setattr__"))
theorem Cls.get {K : PySem.W.Frag} {C : Addr} (c : Cls K C) (f : Str) : PySem.W.plainGet K C f = true := c.pg
/-- no class of it has the name -/
def NoAttr (K : PySem.W.Frag) (C : Addr) (f : Str) : Prop := PySem.W.findIn K (.ref C) f = some none
/-- a constant of the class -/
structure Con (K : PySem.W.Frag) (C : Addr) (f : Str) (v : V) (u : Value) : Prop where
  at_ : PySem.W.findIn K (.ref C) f = some (some u)
  rel : RelV v u
  get : PySem.W.specialIn K u "__get__" = some none
  cp : PySem.W.copiedNames.contains f = false
/-- a method: a plain def of the class or of one above it -/
structure Meth (K : PySem.W.Frag) (C : Addr) (m : Str) (f : Addr) : Prop where
  at_ : PySem.W.findIn K (.ref C) m = some (some (.ref f))
  fn : PySem.W.isFn K (.ref f) = true
  kp : PySem.W.keepIn K (.ref f) = true

section
variable {X : Cx} {pins : List (Addr × Obj)} {σ : St} {H : Hp} {s : Shared} {a C dx : Addr} {fs : List (Str × V)} {f : Str} {v : V} {A : Around} {E : Value → Shared → Prop}

/-- a new instance, tracked, without attributes -/
theorem Inv.made (I : Inv X pins σ H s) : Inv X pins σ (upd (upd H s.heap.objs.size (.own (s.heap.objs.size + 1))) (s.heap.objs.size + 1) (.ins C s.heap.objs.size []))
    { s with heap := (s.heap.push PySem.W.emptyDict).push (PySem.W.instObj C s.heap.objs.size) } := by
  have e1 : (s.heap.push PySem.W.emptyDict).get? s.heap.objs.size = some PySem.W.emptyDict := Heap.get?_push_size s.heap rfl
  have e2 : ((s.heap.push PySem.W.emptyDict).push (PySem.W.instObj C s.heap.objs.size)).get? (s.heap.objs.size + 1) = some (PySem.W.instObj C s.heap.objs.size) := by
    have := Heap.get?_push_size (s.heap.push PySem.W.emptyDict) (o := PySem.W.instObj C s.heap.objs.size) rfl
    rwa [Heap.size_push] at this
  have e3 : (s.heap.push PySem.W.emptyDict).Ns s.heap.objs.size (fun _ => none) := ⟨PySem.W.emptyDict, #[], _, e1, rfl, (fun e he => absurd he (by simp)), fun _ => rfl⟩
  have I1 := I.laid (a := s.heap.objs.size) (o := .own (s.heap.objs.size + 1)) (h' := s.heap.push PySem.W.emptyDict) (t' := s.toks) (fun b u q => Heap.get?_push_of_some _ q) (Nat.le_refl _) ⟨_, e1⟩
  refine I1.laid (a := s.heap.objs.size + 1) (o := .ins C s.heap.objs.size []) (t' := s.toks) (fun b u q => Heap.get?_push_of_some _ q) (Nat.le_of_eq (Heap.size_push _ _)) ?_
  have ne : s.heap.objs.size ≠ s.heap.objs.size + 1 := Nat.ne_of_lt (Nat.lt_succ_self _)
  refine ⟨by rw [upd_ne ne, upd_same], Nat.zero_le _, ne, e2, fun _ => none, (Heap.Ns1.of_empty e3).at fun o q => Heap.get?_push_of_some _ q, fun _ => True.intro, fun y hy => absurd rfl hy⟩

end

/-! ### readings and rules -/
/-- e.f, an attribute of the instance -/
def tFld (K : PySem.W.Frag) (ta : TE) (f : Str) : TE := fun σ H Q => ta σ H fun x H1 => ∃ a C dx fs v, x = .ref a ∧ H1 a = some (.ins C dx fs) ∧ Cls K C ∧ NoAttr K C f ∧ fs.lookup f = some v ∧ Q v H1
/-- e.f, a constant of the class -/
def tCon (K : PySem.W.Frag) (ta : TE) (f : Str) : TE := fun σ H Q => ta σ H fun x H1 => ∃ a C dx fs v u, x = .ref a ∧ H1 a = some (.ins C dx fs) ∧ Cls K C ∧ Con K C f v u ∧ fs.lookup f = none ∧ Q v H1
/-- e.f = value -/
def sFld (K : PySem.W.Frag) (ta tv : TE) (f : Str) : TS := fun D σ H => tv σ H fun y H1 => ta σ H1 fun x H2 => ∃ a C dx fs, x = .ref a ∧ H2 a = some (.ins C dx fs) ∧ Cls K C ∧ NoAttr K C f ∧ fs.length < 1000 ∧
  D.nx σ (upd H2 a (.ins C dx (putF f y fs)))
/-- an augmented operator on two values -/
def InOp (X : Cx) (op : Operator) (rd : V → V → Hp → VK → Prop) : Prop :=
  ∀ (pins : List (Addr × Obj)) (s : Shared) (σ : St) (H : Hp) (x y : V) (u v : Value) (Q : VK), Inv X pins σ H s → RelV x u → RelV y v → rd x y H Q → wpAny (model X.prog X.w) X.A (inplaceOp op u v) (EP X pins σ Q) X.xe s
/-- e.f op= value -/
def sFldAug (K : PySem.W.Frag) (ta tv : TE) (rd : V → V → Hp → VK → Prop) (f : Str) : TS := fun D σ H => ta σ H fun x H1 => ∃ a C dx fs v, x = .ref a ∧ H1 a = some (.ins C dx fs) ∧ Cls K C ∧ NoAttr K C f ∧ fs.lookup f = some v ∧
  tv σ H1 fun y H2 => rd v y H2 fun z H3 => ∃ dx' fs', H3 a = some (.ins C dx' fs') ∧ fs'.length < 1000 ∧ D.nx σ (upd H3 a (.ins C dx' (putF f z fs')))

section
variable {X : Cx} {o e value : Expr} {f : Str} {pos pos' tpos : Pos} {ta tv : TE}
def rAdd : V → V → Hp → VK → Prop := fun x y H Q => ∃ i j, x = .int i ∧ y = .int j ∧ Q (.int (i + j)) H
def rSub : V → V → Hp → VK → Prop := fun x y H Q => ∃ i j, x = .int i ∧ y = .int j ∧ Q (.int (i - j)) H
end

/-! ### isinstance -/
section
variable {X : Cx} {pins : List (Addr × Obj)} {σ : St} {H : Hp} {s : Shared} {A : Around} {E : Value → Shared → Prop} {Q : Value → Shared → Prop} {c : Value} {b : Bool}
/-- the type of a value, as the fragment's deciders take it; for an instance its class -/
inductive TyOf (K : PySem.W.Frag) (H : Hp) : V → Value → Prop where
  | non : TyOf K H .non (.type "NoneType")
  | bl (x : Bool) : TyOf K H (.bl x) (.type "bool")
  | int (i : Int) : TyOf K H (.int i) (.type "int")
  | str (x : Str) : TyOf K H (.str x) (.type "str")
  | flt (x : UInt64) : TyOf K H (.flt x) (.type "float")
  | lst {a : Addr} {xs : List V} (e : H a = some (.lst xs)) : TyOf K H (.ref a) (.type "list")
  | frz {a : Addr} {o : Obj} {xs : List V} (e : H a = some (.frz o (.lst xs))) : TyOf K H (.ref a) (.type "list")
  | tup {a : Addr} {xs : List V} (e : H a = some (.tup xs)) : TyOf K H (.ref a) (.type "tuple")
  | dK {a : Addr} {kvs : List (Key × V)} (e : H a = some (.dK kvs)) : TyOf K H (.ref a) (.type "dict")
  | dT {a : Addr} {kvs : List (List Key × V)} (e : H a = some (.dT kvs)) : TyOf K H (.ref a) (.type "dict")
  | ins {a C dx : Addr} {fs : List (Str × V)} (e : H a = some (.ins C dx fs)) (cl : Cls K C) (ha : PySem.W.findIn K (.ref C) "__class__" = some (some (.builtin "object.__class__")))
      (hn : PySem.W.specialIn K (.builtin "object.__class__") "__get__" = some (some (.builtin "getset_descriptor.__get__"))) (htk : PySem.W.takesIn K (.builtin "object.__class__") = some true)
      (hm : PySem.W.mroIn K C (.type "object") = some true) : TyOf K H (.ref a) (.ref C)
end
end L2

namespace L2
open PySem PySem.Spec PyProof.Rows

/-! ### room -/
structure Room (k : Nat) (A : Around) : Prop where
  hd : A.handled = none
  dp : A.depth + 3 * k + 5 < recursionLimit
  un : A.units + 16 * k + 200 < cLine
  gd : A.guards = some []
theorem Room.mono {j k : Nat} {A : Around} (r : Room k A) (h : j ≤ k) : Room j A := ⟨r.hd, by have := r.dp; omega, by have := r.un; omega, r.gd⟩
theorem Room.deeper {k : Nat} {A : Around} (r : Room (k + 1) A) (env : Env) : Room k (A.deeper env) :=
  ⟨r.hd, by have := r.dp; show A.depth + 1 + 3 * k + 5 < _; omega, by have := r.un; show A.units + 3 + 16 * k + 200 < _; omega, r.gd⟩
theorem Room.in1 {k : Nat} {A : Around} (r : Room (k + 1) A) : Room k A.in1 :=
  ⟨r.hd, by have := r.dp; show A.depth + 3 * k + 5 < _; omega, by have := r.un; show A.units + 1 + 16 * k + 200 < _; omega, r.gd⟩
theorem make_depth {A : Around} {C : Addr} {us : List Value} {kw : List (Str × Value)} : (A.under (.builtin "type.__call__" ⟨.ref C :: us, kw⟩)).depth = A.depth + 1 := by
  first | rfl | simp [Around.under, Code.weight, Code.isCreation, Code.isGuard, Code.isCaller, Code.frames, Code.isFrame, guardIds]
theorem make_units {A : Around} {C : Addr} {us : List Value} {kw : List (Str × Value)} : (A.under (.builtin "type.__call__" ⟨.ref C :: us, kw⟩)).units = A.units + 1 := by
  first | rfl | simp [Around.under, Code.cUnits, Code.frames, Code.isFrame]
theorem Room.make {k : Nat} {A : Around} (r : Room (k + 1) A) (C : Addr) (us : List Value) (kw : List (Str × Value)) : Room k (A.under (.builtin "type.__call__" ⟨.ref C :: us, kw⟩)) :=
  ⟨r.hd, by have := r.dp; rw [make_depth]; omega, by have := r.un; rw [make_units]; omega, r.gd⟩
theorem Room.depth {k : Nat} {A : Around} (r : Room k A) : A.depth < recursionLimit := by have := r.dp; omega
theorem Room.units {k : Nat} {A : Around} (r : Room k A) : A.units + 64 < cLine := by have := r.un; omega
/-! ### argument lists and displays -/
def tNil : TA := fun _ H Q => Q [] H
def tCons (ta : TE) (tr : TA) : TA := fun σ H Q => ta σ H fun x H1 => tr σ H1 fun xs H2 => Q (x :: xs) H2
section
variable {X : Cx} {e : Expr} {es : List Expr} {te : TE} {t : TA} {pos : Pos}
theorem pa_nil : PA X [] tNil := fun _ _ _ _ H Q I h => Calls.spliced_nil ⟨[], H, I, .nil, h⟩
theorem pa_cons (ha : PE X e te) (hr : PA X es t) (hs : starEach (e :: es) X.env = (false, eval e X.env) :: starEach es X.env := by rfl) : PA X (e :: es) (tCons te t) := by
  intro pos pins s σ H Q I h
  rw [hs]
  show wpAny _ _ (spliced ((false, eval e X.env) :: backTo pos (starEach es X.env))) _ _ s
  refine Calls.spliced_cons (thn (ha pins s σ H _ I h) fun u s1 ⟨x, H1, I1, r1, q1⟩ => ?_)
  exact thn (hr pos pins s1 σ H1 _ I1 q1) fun us s2 ⟨xs, H2, I2, r2, q2⟩ => ⟨x :: xs, H2, I2, .cons r1 r2, q2⟩

/-- a tuple, a list of written items -/
def tTup (t : TA) : TE := fun σ H Q => t σ H fun xs H1 => xs.length ≤ sizeLine ∧ ∀ p, H1 p = none → Q (.ref p) (upd H1 p (.tup xs))
def tLst (t : TA) : TE := fun σ H Q => t σ H fun xs H1 => xs.length ≤ sizeLine ∧ ∀ p, H1 p = none → Q (.ref p) (upd H1 p (.lst xs))
theorem pe_tup {x1} (h : PA X es t) : PE X (.Tuple es x1 pos) (tTup t) := by
  intro pins s σ H Q I hq
  refine wpAny_Tuple_spliced (thn (h pos pins s σ H _ I hq) fun us s1 ⟨xs, H1, I1, r, z, q⟩ => ⟨by rw [← r.length]; exact z, ?_⟩)
  have hf : H1 s1.heap.objs.size = none := I1.hok.fresh (Nat.le_refl _)
  refine ⟨.ref s1.heap.objs.size, upd H1 s1.heap.objs.size (.tup xs), I1.laid (t' := s1.toks) (fun b u e => Heap.get?_push_of_some _ e) (Nat.le_refl _) ?_, rfl, q _ hf⟩
  exact ⟨z, us, r, ⟨_, Heap.get?_push_size _ rfl, rfl, _, rfl⟩⟩
theorem pe_lst (h : PA X es t) : PE X (.List es pos) (tLst t) := by
  intro pins s σ H Q I hq
  refine wpAny_List_spliced (thn (h pos pins s σ H _ I hq) fun us s1 ⟨xs, H1, I1, r, z, q⟩ => ⟨by rw [← r.length]; exact z, ?_⟩)
  have hf : H1 s1.heap.objs.size = none := I1.hok.fresh (Nat.le_refl _)
  refine ⟨.ref s1.heap.objs.size, upd H1 s1.heap.objs.size (.lst xs), I1.laid (t' := s1.toks) (fun b u e => Heap.get?_push_of_some _ e) (Nat.le_refl _) ?_, rfl, q _ hf⟩
  exact ⟨z, us, 0, r, Heap.get?_push_size _ rfl⟩
end

/-! ### what a def promises -/
/-- a def's promise: the bound arguments in the parameters' order, the heap, the wanted end, the wanted exception -/
abbrev Sp := List V → Hp → VK → XK → Prop
/-- how an exception lies behind a call (file 08 gives it): the callers' frames, abstract heap and state ahead of the call, the wish, the exception, the state -/
abbrev CXT := List Env → Hp → Shared → XK → Value → Shared → Prop

/-- the state at a call -/
structure Env0 (P : Program) (w : World) (K : PySem.W.Frag) (mg : Str → Option Value) (base : Heap) (A : Around) (outer : List Env) (s : Shared) (H : Hp) : Prop where
  frames : A.frames = some outer
  mod : Mod K mg base
  bs : ∀ b o, base.get? b = some o → s.heap.get? b = some o ∧ H b = none
  bsz : base.objs.size ≤ s.heap.objs.size
  funs : s.heap.FunFrames base outer
  frf : ∀ b ∈ frs outer, H b = none
  hok : HOk P w H s.heap
  bare : AllBare s.gens
/-- a call's end -/
def CE (outer : List Env) (P : Program) (w : World) (H : Hp) (s : Shared) (Q : VK) (u : Value) (s' : Shared) : Prop :=
  ∃ v H', s'.os = s.os ∧ AllBare s'.gens ∧ Un (frs outer) [] H H' s.heap s'.heap ∧ HOk P w H' s'.heap ∧ RelV v u ∧ Q v H'
def CR (CX : CXT) (outer : List Env) (P : Program) (w : World) (H : Hp) (s : Shared) (Q : VK) (E : XK) (r : Result) (s' : Shared) : Prop :=
  match r with
  | .ok (.ret u) => CE outer P w H s Q u s'
  | .ok _ => False
  | .error e => CX outer H s E e s'
structure FnOk (P : Program) (w : World) (K : PySem.W.Frag) (mg : Str → Option Value) (base : Heap) (CX : CXT) (k : Nat) (f : Addr) (fd : FuncData) (ps : List Str) (sp : Sp) : Prop where
  len : ∀ vs H Q E, sp vs H Q E → vs.length = ps.length
  run : ∀ (A : Around) (outer : List Env) (s : Shared) (H : Hp) (args : Args) (us : List Value) (vs : List V) (Q : VK) (E : XK), Room k A → Env0 P w K mg base A outer s H → BindsTo s fd args (ps.zip us) → Vals vs us → sp vs H Q E →
    codeAny (model P w) A (.call (.ref f) args) (CR CX outer P w H s Q E) s
theorem FnOk.mono {P : Program} {w : World} {K : PySem.W.Frag} {mg : Str → Option Value} {base : Heap} {CX : CXT} {j k : Nat} {f : Addr} {fd : FuncData} {ps : List Str} {sp : Sp} (F : FnOk P w K mg base CX j f fd ps sp) (h : j ≤ k) :
    FnOk P w K mg base CX k f fd ps sp := ⟨F.len, fun A outer s H args us vs Q E hr => F.run A outer s H args us vs Q E (hr.mono h)⟩
/-- a weaker promise -/
theorem FnOk.imp {P : Program} {w : World} {K : PySem.W.Frag} {mg : Str → Option Value} {base : Heap} {CX : CXT} {k : Nat} {f : Addr} {fd : FuncData} {ps : List Str} {sp sp' : Sp} (F : FnOk P w K mg base CX k f fd ps sp)
    (h : ∀ vs H Q E, sp' vs H Q E → sp vs H Q E) : FnOk P w K mg base CX k f fd ps sp' :=
  ⟨fun vs H Q E q => F.len vs H Q E (h _ _ _ _ q), fun A outer s H args us vs Q E hr he hb hv hs => F.run A outer s H args us vs Q E hr he hb hv (h _ _ _ _ hs)⟩

theorem Env0.make {P : Program} {w : World} {K : PySem.W.Frag} {mg : Str → Option Value} {base : Heap} {A : Around} {outer : List Env} {s : Shared} {H : Hp} (e : Env0 P w K mg base A outer s H) (C : Addr) (us : List Value) (kw : List (Str × Value)) :
    Env0 P w K mg base (A.under (.builtin "type.__call__" ⟨.ref C :: us, kw⟩)) outer s H := ⟨by first | exact e.frames | (simpa [Around.under, Code.envs, Code.isFrame, pushEnvs] using e.frames), e.mod, e.bs, e.bsz, e.funs, e.frf, e.hok, e.bare⟩
theorem Env0.in1 {P : Program} {w : World} {K : PySem.W.Frag} {mg : Str → Option Value} {base : Heap} {A : Around} {outer : List Env} {s : Shared} {H : Hp} (e : Env0 P w K mg base A outer s H) :
    Env0 P w K mg base A.in1 outer s H := ⟨e.frames, e.mod, e.bs, e.bsz, e.funs, e.frf, e.hok, e.bare⟩

section
variable {X : Cx} {pins : List (Addr × Obj)} {σ : St} {H : Hp} {s s' : Shared}
/-- from a body: what a callee wants -/
theorem Inv.env0 (I : Inv X pins σ H s) : Env0 X.prog X.w X.K X.mg X.base X.A X.stack s H :=
  ⟨I.ok.frames, I.ok.mod, I.bs, Nat.le_trans I.ok.bsz I.sz, I.stack, I.stkFree, I.hok, I.bare⟩
/-- behind a call -/
theorem Inv.after {Q : VK} {u : Value} (I : Inv X pins σ H s) (h : CE X.stack X.prog X.w H s Q u s') : EP X pins σ Q u s' := by
  obtain ⟨v, H', os, bare, un, hok, r, q⟩ := h
  obtain ⟨hh, g, d, t, os'⟩ := s'
  obtain rfl : os' = s.os := os
  exact ⟨v, H', I.call (h' := hh) (g' := g) (d' := d) (t' := t) (ch := []) un hok bare (fun b z => absurd z (by simp)), r, q⟩
end

/-! ### calls -/
/-- f(..): the written arguments, then the defaults dvs; E: what is wanted of an exception -/
def tCall (sp : Sp) (dvs : List V) (E : XK) (t : TA) : TE := fun σ H Q => t σ H fun vs H1 => sp (vs ++ dvs) H1 Q E
/-- o.m(..) of an instance of the class at C -/
def tMeth (C : Addr) (m : Str) (sp : Sp) (dvs : List V) (E : XK) (ta : TE) (t : TA) : TE := fun σ H Q => ta σ H fun x H1 => ∃ a dx fs, x = .ref a ∧ H1 a = some (.ins C dx fs) ∧ fs.lookup m = none ∧
  t σ H1 fun vs H2 => sp (x :: (vs ++ dvs)) H2 Q E
/-- C(..): a new instance and its dict, then __init__ -/
def tMake (C : Addr) (sp : Sp) (dvs : List V) (E : XK) (t : TA) : TE := fun σ H Q => t σ H fun vs H1 => ∀ x dx, H1 x = none → H1 dx = none → dx ≠ x →
  sp (.ref x :: (vs ++ dvs)) (upd (upd H1 dx (.own x)) x (.ins C dx [])) (fun v H2 => v = .non ∧ Q (.ref x) H2) E

/-- how the parameters are bound: us the positional arguments, kw the keywords' values by name, ds the defaults that fill up -/
def Binds (K : PySem.W.Frag) (fd : FuncData) (ps : List Str) (ds : List Value) : Prop :=
  ∀ (s : Shared) (us : List Value), K.In s.heap → (us ++ ds).length = ps.length → BindsTo s fd ⟨us, []⟩ (ps.zip (us ++ ds))
/-- every parameter is given -/
theorem Binds.all {K : PySem.W.Frag} {fd : FuncData} {ps : List Str} (h : ∀ us : List Value, us.length = ps.length → bindArgs fd ⟨us, []⟩ = pure (ps.zip us)) : Binds K fd ps [] := fun s us _ hl => by
  rw [List.append_nil] at hl ⊢
  exact .of_eq (h us hl)

/-- an exception of a callee reaches what this body wants of exceptions -/
def Passes (CX : CXT) (X : Cx) (E : XK) : Prop := ∀ (pins : List (Addr × Obj)) (σ : St) (H : Hp) (s : Shared) (e : Value) (s' : Shared), Inv X pins σ H s → CX X.stack H s E e s' → X.xe e s'

section
variable {X : Cx} {CX : CXT} {k : Nat} {f C : Addr} {fd : FuncData} {ps : List Str} {sp : Sp} {dvs : List V} {ds : List Value} {E : XK} {x m : Str} {p pos apos : Pos} {e o : Expr} {es : List Expr} {ta : TE} {t : TA}

/-- the callee runs -/
theorem run_fn {pins : List (Addr × Obj)} {σ : St} {H : Hp} {s : Shared} {Q : VK} {us : List Value} {vs : List V} (F : FnOk X.prog X.w X.K X.mg X.base CX k f fd ps sp) (hr : Room k X.A) (hb : Binds X.K fd ps ds) (hd : Vals dvs ds) (hx : Passes CX X E)
    (I : Inv X pins σ H s) (r : Vals vs us) (h : sp (vs ++ dvs) H Q E) : wpAny (model X.prog X.w) X.A (call (.ref f) us) (EP X pins σ Q) X.xe s := by
  have r2 : Vals (vs ++ dvs) (us ++ ds) := r.append hd
  have hl : (us ++ ds).length = ps.length := by rw [← r2.length]; exact F.len _ _ _ _ h
  refine wpAny_call (codeAny_mono (F.run X.A X.stack s H ⟨us, []⟩ (us ++ ds) (vs ++ dvs) Q E hr I.env0 (hb s us I.kIn hl) r2 h) fun r s' hq => ?_)
  cases r with
  | error e => exact hx pins σ H s e s' I hq
  | ok fl =>
    cases fl with
    | ret u => exact I.after hq
    | next => exact False.elim hq
    | brk => exact False.elim hq
    | cont => exact False.elim hq

theorem pe_call (F : FnOk X.prog X.w X.K X.mg X.base CX k f fd ps sp) (hr : Room k X.A) (hg : Gl X x) (hm : X.mg x = some (.ref f)) (hk : PySem.W.keepIn X.K (.ref f) = true) (hb : Binds X.K fd ps ds) (hd : Vals dvs ds) (hx : Passes CX X E)
    (ha : PA X (e :: es) t) (hdb : (x == ("__debug__" : Str)) = false := by decide) (he : starEach (e :: es) X.env = (false, eval e X.env) :: starEach es X.env := by rfl) (hpl : (backTo pos (starEach es X.env)).any (·.1) = false := by rfl) :
    PE X (.Call (.Name x p) (e :: es) [] pos) (tCall sp dvs E t) := by
  intro pins s σ H Q I h
  refine wpAny_Call_Name_kw (ld_glob I hg hm ?_ hdb)
  refine PySem.W.callWith_K (h₀ := X.base) I.ok.mod.kin hk (thn (ha pos pins s σ H _ I h) fun us s1 ⟨vs, H1, I1, r, q⟩ => ⟨I1.kIn, ?_⟩) he hpl
  exact run_fn F hr hb hd hx I1 r q
theorem pe_call0 (F : FnOk X.prog X.w X.K X.mg X.base CX k f fd ps sp) (hr : Room k X.A) (hg : Gl X x) (hm : X.mg x = some (.ref f)) (hk : PySem.W.keepIn X.K (.ref f) = true) (hb : Binds X.K fd ps ds) (hd : Vals dvs ds) (hx : Passes CX X E)
    (hdb : (x == ("__debug__" : Str)) = false := by decide) : PE X (.Call (.Name x p) [] [] pos) (tCall sp dvs E tNil) := by
  intro pins s σ H Q I h
  refine wpAny_Call_Name_kw (ld_glob I hg hm ?_ hdb)
  exact PySem.W.callWith_K0 I.kIn hk (run_fn (us := []) F hr hb hd hx I .nil h)

/-- what a class must have to be made -/
structure Mk (K : PySem.W.Frag) (C f : Addr) : Prop where
  makes : PySem.W.makesIn K C = true
  init : PySem.W.findIn K (.ref C) "__init__" = some (some (.ref f))
  fn : PySem.W.isFn K (.ref f) = true
  kp : PySem.W.keepIn K (.ref C) = true

end

/-! ### keywords -/
/-- the values of the keywords, from the left -/
def PK (X : Cx) (kws : List Keyword) (t : TA) : Prop :=
  ∀ (pos : Pos) (pins : List (Addr × Obj)) (s : Shared) (σ : St) (H : Hp) (Q : List V → Hp → Prop), Inv X pins σ H s → t σ H Q → wpAny (model X.prog X.w) X.A (evalAll ((backToKw pos (keywordEach kws X.env)).map (·.2))) (AP X pins σ Q) X.xe s
section
variable {X : Cx} {CX : CXT} {k : Nat} {f C : Addr} {fd : FuncData} {ps ks : List Str} {sp : Sp} {E : XK} {x m : Str} {p pos apos kpos : Pos} {e o : Expr} {es : List Expr} {kws : List Keyword} {te ta : TE} {t tk : TA} {nm : Option Str}
/-- how a call with keywords binds: g puts the positional values us and the keywords' values ws (names ks) in the parameters' order, defaults among them -/
structure KBinds (K : PySem.W.Frag) (fd : FuncData) (ps ks : List Str) (g : List Value → List Value → List Value) (gV : List V → List V → List V) : Prop where
  to : ∀ (s : Shared) (us ws : List Value), K.In s.heap → (g us ws).length = ps.length → BindsTo s fd ⟨us, ks.zip ws⟩ (ps.zip (g us ws))
  rel : ∀ {vs : List V} {us : List Value} {zs : List V} {ws : List Value}, Vals vs us → Vals zs ws → Vals (gV vs zs) (g us ws)
def tCallK (sp : Sp) (gV : List V → List V → List V) (E : XK) (t tk : TA) : TE := fun σ H Q => t σ H fun vs H1 => tk σ H1 fun zs H2 => sp (gV vs zs) H2 Q E
variable {g : List Value → List Value → List Value} {gV : List V → List V → List V}
end

/-! ### a def's body keeps its promise -/
/-- names: the parameters first -/
structure FnScope (N P : List Str) (sc : Scope) : Prop where
  kind : sc.kind = .function
  co : sc.isCoroutine = false
  gen : sc.isGenerator = false
  nd : N.Nodup
  pre : N.take P.length = P
  par : ∀ x ∈ P, sc.names.lookup x = some .local ∨ sc.names.lookup x = some .cell
  nofree : ∀ y ∈ sc.names, y.2 ≠ .free

theorem bindL_out {kindOf : Str → Option NameKind} {x : Str} : ∀ {binds : List (Str × Value)} {m : Str → Option Value}, (∀ v, (x, v) ∉ binds) → bindL kindOf binds m x = m x
  | [], _, _ => rfl
  | (n, v) :: r, m, h => by
    unfold bindL
    rw [bindL_out fun w hw => h w (List.mem_cons_of_mem _ hw)]
    split
    · have : x ≠ n := by rintro rfl; exact h v List.mem_cons_self
      simp [this]
    · rfl
theorem bindC_out {kindOf : Str → Option NameKind} {x : Str} : ∀ {binds : List (Str × Value)} {m : Str → Option Value}, (∀ v, (x, v) ∉ binds) → bindC kindOf binds m x = m x
  | [], _, _ => rfl
  | (n, v) :: r, m, h => by
    unfold bindC
    rw [bindC_out fun w hw => h w (List.mem_cons_of_mem _ hw)]
    split
    · rfl
    · have : x ≠ n := by rintro rfl; exact h v List.mem_cons_self
      simp [this]
theorem bindL_get {kindOf : Str → Option NameKind} {x : Str} {v : Value} : ∀ {P : List Str} {vs : List Value} {i : Nat} {m : Str → Option Value}, P.Nodup → P[i]? = some x → vs[i]? = some v → kindOf x = some .local →
    bindL kindOf (P.zip vs) m x = some v
  | [], _, _, _, _, h, _, _ => by simp at h
  | _ :: _, [], _, _, _, _, h, _ => by simp at h
  | p :: P, w :: vs, 0, m, nd, h1, h2, hk => by
    simp at h1 h2; subst h1; subst h2
    show bindL kindOf ((p, w) :: P.zip vs) m p = _
    unfold bindL
    rw [bindL_out fun v hv => (List.nodup_cons.mp nd).1 (List.of_mem_zip hv).1, if_pos hk]
    simp
  | p :: P, w :: vs, i + 1, m, nd, h1, h2, hk => by
    show bindL kindOf ((p, w) :: P.zip vs) m x = _
    unfold bindL
    exact bindL_get (i := i) (List.nodup_cons.mp nd).2 (by simpa using h1) (by simpa using h2) hk
theorem bindC_get {kindOf : Str → Option NameKind} {x : Str} {v : Value} : ∀ {P : List Str} {vs : List Value} {i : Nat} {m : Str → Option Value}, P.Nodup → P[i]? = some x → vs[i]? = some v → kindOf x ≠ some .local →
    bindC kindOf (P.zip vs) m x = some v
  | [], _, _, _, _, h, _, _ => by simp at h
  | _ :: _, [], _, _, _, _, h, _ => by simp at h
  | p :: P, w :: vs, 0, m, nd, h1, h2, hk => by
    simp at h1 h2; subst h1; subst h2
    show bindC kindOf ((p, w) :: P.zip vs) m p = _
    unfold bindC
    rw [bindC_out fun v hv => (List.nodup_cons.mp nd).1 (List.of_mem_zip hv).1, if_neg hk]
    simp
  | p :: P, w :: vs, i + 1, m, nd, h1, h2, hk => by
    show bindC kindOf ((p, w) :: P.zip vs) m x = _
    unfold bindC
    exact bindC_get (i := i) (List.nodup_cons.mp nd).2 (by simpa using h1) (by simpa using h2) hk

/-- the names' values at the entry -/
def start (N : List Str) (vs : List V) : St := vs.map some ++ List.replicate (N.length - vs.length) none

/-- the context of a def's body, at its entry; an exception leaves the frame, then lies as CX says -/
def cxOf (CX : CXT) (P : Program) (w : World) (K : PySem.W.Frag) (mg : Str → Option Value) (base : Heap) (N : List Str) (qual : Str) (scope : Scope) (f : Addr) (cd : Value) (A : Around) (outer : List Env) (s : Shared) (H : Hp) (E : XK) : Cx where
  prog := P
  w := w
  K := K
  mg := mg
  base := base
  A := A.deeper (envOfC qual scope s.heap.objs.size f cd)
  N := N
  s₀ := s
  H₀ := H
  env := envOfC qual scope s.heap.objs.size f cd
  outer := outer
  stack := envOfC qual scope s.heap.objs.size f cd :: outer
  ex := []
  calm := true
  fn := fun _ => true
  pn := []
  xe := fun e s' => wpAny (model P w) (A.deeper (envOfC qual scope s.heap.objs.size f cd)) (leaving (envOfC qual scope s.heap.objs.size f cd) e) (fun _ s'' => CX outer H s E e s'') (fun e' s'' => CX outer H s E e' s'') s'

theorem cell_has {sc : Scope} {n : Nat} {x : Str} (h : sc.names.lookup x = some .cell) : ∃ c, (cellsFrom n sc.names []).lookup x = some c := by
  have q := PySem.W.cellsFrom_some sc.names n [] (.inl h)
  exact Option.isSome_iff_exists.mp q

theorem inv_start {CX : CXT} {P : Program} {w : World} {K : PySem.W.Frag} {mg : Str → Option Value} {base : Heap} {N ps : List Str} {qual : Str} {scope : Scope} {f : Addr} {cd : Value} {A : Around} {outer : List Env} {s s1 : Shared} {H : Hp} {E : XK} {us : List Value} {vs : List V}
    (S : FnScope N ps scope) (hd : A.handled = none) (e0 : Env0 P w K mg base A outer s H) (hl : vs.length = ps.length) (r : Vals vs us)
    (x : InCallC s s.heap.objs.size (bindL (envOfC qual scope s.heap.objs.size f cd).kindOf (ps.zip us) fun _ => none) (cellsFrom (s.heap.objs.size + 1) scope.names []) (bindC (envOfC qual scope s.heap.objs.size f cd).kindOf (ps.zip us) fun _ => none) s1) :
    Inv (cxOf CX P w K mg base N qual scope f cd A outer s H E) [] (start N vs) H s1 := by
  have hpl : ps.length ≤ N.length := by have := congrArg List.length S.pre; rw [List.length_take] at this; omega
  obtain ⟨h1, tk, rfl, hk⟩ := x.done
  have noA : ∀ b : Addr, b ∉ (cxOf CX P w K mg base N qual scope f cd A outer s H E).ex := fun b z => absurd (show b ∈ ([] : List Addr) from z) (by simp)
  refine ⟨⟨e0.mod, S.kind, rfl, rfl, Nat.le_refl _, fun y z c h1 h2 => ?_, fun y hy => ?_, fun y c _ h => ?_, fun _ => hd, Around.frames_deeper e0.frames, .inr ⟨rfl, rfl⟩, fun b z => absurd z (noA b), e0.bs, e0.bsz, fun b _ _ => noA b, fun b z => absurd z (noA b), e0.funs, e0.frf⟩,
    rfl, e0.bare, Un.kept hk, ⟨_, x.toInCall.ns, fun i y v h1 h2 h3 => ?_⟩, fun y c h => ⟨_, x.cell y c h⟩, e0.hok.fresh (Nat.le_refl _), fun y c h => ?_, fun p hp => absurd (show p ∈ ([] : List (Addr × Obj)) from hp) (by simp), e0.hok.kept hk, ?_⟩
  · exact name_of_addr x.apart (PySem.mem_of_lookup h1) (PySem.mem_of_lookup h2)
  · have hy : scope.names.lookup y = some .cell ∨ scope.names.lookup y = some .free := hy
    rcases hy with hy | hy
    · exact cell_has hy
    · exact absurd rfl (S.nofree _ (PySem.mem_of_lookup hy))
  · exact Nat.le_of_lt (x.above y c (PySem.mem_of_lookup h))
  · have hi : i < vs.length := by
      unfold start at h2
      by_cases hi : i < vs.length
      · exact hi
      · rw [List.getElem?_append_right (by simpa using hi)] at h2
        rw [List.getElem?_replicate] at h2
        split at h2 <;> cases h2
    have ha : vs[i]? = some v := by
      unfold start at h2
      rw [List.getElem?_append_left (by simpa using hi), List.getElem?_map] at h2
      cases e : vs[i]? with
      | none => rw [e] at h2; cases h2
      | some a => rw [e] at h2; cases h2; rfl
    obtain ⟨u, hu, rv⟩ := r.get ha
    have hp : ps[i]? = some y := by
      rw [← S.pre, List.getElem?_take_of_lt (by omega)]; exact h1
    have ndP : ps.Nodup := by rw [← S.pre]; exact S.nd.sublist (List.take_sublist _ _)
    refine ⟨u, rv, ?_⟩
    rcases S.par y (List.mem_of_getElem? hp) with k | k
    · exact .inl ⟨k, bindL_get ndP hp hu k⟩
    · obtain ⟨c, e⟩ := cell_has (n := s.heap.objs.size + 1) k
      refine .inr ⟨.inl k, c, e, ?_⟩
      have q := x.cell y c e
      rw [bindC_get ndP hp hu (by show scope.names.lookup y ≠ _; rw [k]; decide)] at q
      exact q
  · exact e0.hok.fresh (Nat.le_of_lt (x.above y c (PySem.mem_of_lookup h)))
  · unfold start
    show _ = N.length
    rw [List.length_append, List.length_map, List.length_replicate]
    omega

/-- THE RULE: a def (or a method) of the text, by its body. The body's reading t is chosen for each entry; it is run at the parameters' values -/
theorem fn_of {CX : CXT} {P : Program} {w : World} {K : PySem.W.Frag} {mg : Str → Option Value} {base : Heap} {k : Nat} {f : Addr} {name qual : Str} {params : Arguments} {body : List Stmt} {scope : Scope} {dV kV doc pm cdv ct oc : Value} {an od : Option Addr}
    {osl : Array (Option Value)} {N ps : List Str} {sp : Sp} (lk : K.lookup f = some ⟨oc, od, .func (PySem.W.fnOf name qual params body scope dV kV doc pm an cdv ct), osl⟩) (hcd : PySem.W.codeIn K cdv qual = true) (S : FnScope N ps scope)
    (len : ∀ vs H Q E, sp vs H Q E → vs.length = ps.length)
    (hbody : ∀ (A : Around) (outer : List Env) (s : Shared) (H : Hp) (vs : List V) (Q : VK) (E : XK), Room k (A.deeper (envOfC qual scope s.heap.objs.size f cdv)) → sp vs H Q E →
      ∃ t, PSs (cxOf CX P w K mg base N qual scope f cdv A outer s H E) body t ∧ t { nx := fun _ H' => Q .non H', rt := Q } (start N vs) H) :
    FnOk P w K mg base CX (k + 1) f (PySem.W.fnOf name qual params body scope dV kV doc pm an cdv ct) ps sp := by
  refine ⟨len, fun A outer s H args us vs Q E hr e0 hb r hsp => ?_⟩
  have hl := len _ _ _ _ hsp
  have KX : K.In s.heap := e0.mod.kin.keeps fun b o e => (e0.bs b o e).1
  have lim : s.heap.NoLimit := e0.mod.nolimit.keeps fun b o e => (e0.bs b o e).1
  have hkind : ∀ y ∈ ps.zip us, scope.names.lookup y.1 = some .local ∨ (scope.names.lookup y.1 = some .cell ∧ ((cellsFrom (s.heap.objs.size + 1) scope.names []).lookup y.1).isSome = true) := fun ⟨n, v⟩ hy => by
    rcases S.par n (List.of_mem_zip hy).1 with q | q
    · exact .inl q
    · exact .inr ⟨q, PySem.W.cellsFrom_some _ _ _ (.inl q)⟩
  refine codeAny_call_function hr.depth (KX _ _ lk) rfl S.co S.gen rfl (PySem.W.codeRec_of KX hcd) (hb _ _ _ _ ?_)
  refine wpAny_newFunctionEnv_cells S.kind hkind fun env he s1 x => ?_
  subst he
  refine ⟨lim.keeps x.toInCall.keep, codeAny_func ?_⟩
  obtain ⟨t, ht, hq⟩ := hbody A outer s H vs Q E (hr.deeper _) hsp
  have I : Inv (cxOf CX P w K mg base N qual scope f cdv A outer s H E) [] (start N vs) H s1 := inv_start S hr.hd e0 hl r x
  refine wpAny_mono (ht [] s1 (start N vs) H _ I hq) (fun fl s' hs => ?_) fun e s' hs => hs
  have fin : ∀ {σ' : St} {H' : Hp} {v : V} {u : Value}, Inv (cxOf CX P w K mg base N qual scope f cdv A outer s H E) [] σ' H' s' → RelV v u → Q v H' → CE outer P w H s Q u s' :=
    fun {σ' H' v u} J rv q => ⟨v, H', J.os, J.bare, J.base, J.hok, rv, q⟩
  cases fl with
  | ret u =>
    obtain ⟨v, σ', H', J, rv, q⟩ := hs
    exact fin J rv q
  | next =>
    obtain ⟨σ', H', J, q⟩ := hs
    exact fin (v := V.non) (u := Value.none) J rfl q
  | brk =>
    obtain ⟨_, _, _, q⟩ := hs
    exact False.elim q
  | cont =>
    obtain ⟨_, _, _, q⟩ := hs
    exact False.elim q
end L2

namespace L2
open PySem PySem.Spec PyProof.Rows
section
variable {X : Cx} {x : Str} {p pos : Pos} {e : Expr} {es : List Expr} {t : TA} {id T : String} {r : List V → Hp → VK → Prop}

def tCB (r : List V → Hp → VK → Prop) (t : TA) : TE := fun σ H Q => t σ H fun vs H1 => r vs H1 Q
/-- f(e, ..), f a built-in function -/
theorem pe_callB (hc : CallR X (.builtin id) r) (hg : Gl X x) (hm : X.mg x = none) (hv : bootBuiltins x = some (.builtin id)) (ha : PA X (e :: es) t) (hn : x ≠ "__name__" := by decide) (hdb : (x == ("__debug__" : Str)) = false := by decide)
    (he : starEach (e :: es) X.env = (false, eval e X.env) :: starEach es X.env := by rfl) (hpl : (backTo pos (starEach es X.env)).any (·.1) = false := by rfl) : PE X (.Call (.Name x p) (e :: es) [] pos) (tCB r t) := by
  intro pins s σ H Q I h
  refine wpAny_Call_Name_kw (ld_blt I hg hm hv ?_ hn hdb)
  exact PyProof.Rows.callWith_builtin1 (thn (ha pos pins s σ H _ I h) fun us s1 ⟨vs, H1, I1, r1, q1⟩ => hc pins s1 σ H1 vs us Q I1 r1 q1) he hpl
/-- T(e, ..), T a built-in type -/
theorem pe_callTy (hc : CallR X (.type T) r) (hg : Gl X x) (hm : X.mg x = none) (hv : bootBuiltins x = some (.type T)) (ha : PA X (e :: es) t) (hn : x ≠ "__name__" := by decide) (hdb : (x == ("__debug__" : Str)) = false := by decide)
    (he : starEach (e :: es) X.env = (false, eval e X.env) :: starEach es X.env := by rfl) (hpl : (backTo pos (starEach es X.env)).any (·.1) = false := by rfl) : PE X (.Call (.Name x p) (e :: es) [] pos) (tCB r t) := by
  intro pins s σ H Q I h
  refine wpAny_Call_Name_kw (ld_blt I hg hm hv ?_ hn hdb)
  exact PyProof.Rows.callWith_type1 (thn (ha pos pins s σ H _ I h) fun us s1 ⟨vs, H1, I1, r1, q1⟩ => hc pins s1 σ H1 vs us Q I1 r1 q1) he hpl
end
end L2

namespace HT
open PySem PyProof.Rows

/-- t < u of tuples of ints -/
def lexLt : List Int → List Int → Bool
  | [], [] => false
  | [], _ :: _ => true
  | _ :: _, [] => false
  | x :: xs, y :: ys => if x = y then lexLt xs ys else decide (x < y)
section
open PySem.SeqAt
open PySem.AutoSeq1 (wpAny_loadPart')
open PySem.MeetsSeq PySem.MeetsSeq2 PySem.MeetsSeq3

end

section
variable {prog : Program} {w : World} {A : Around} {E : Value → Shared → Prop} {s : Shared}

/-! ### t[a:b], not the whole -/
/-- a slice's bound as a place among n (d where it is left out) -/
def sIx (n d : Nat) : Option Int → Nat
  | none => d
  | some v => if v < 0 then (v + (n : Int)).toNat else min v.toNat n
theorem sIx_none (n d : Nat) : sIx n d none = d := rfl
theorem sIx_nat (n d k : Nat) : sIx n d (some (k : Int)) = min k n := by
  show (if (k : Int) < 0 then ((k : Int) + (n : Int)).toNat else min (k : Int).toNat n) = min k n
  rw [if_neg (by omega), Int.toNat_natCast]
theorem sIx_le (n d : Nat) (hd : d ≤ n) (o : Option Int) : sIx n d o ≤ n := by
  cases o with
  | none => exact hd
  | some v =>
    show (if v < 0 then (v + (n : Int)).toNat else min v.toNat n) ≤ n
    by_cases hv : v < 0
    · rw [if_pos hv]; omega
    · rw [if_neg hv]; exact Nat.min_le_right _ _
theorem clip_eq (v : Int) (n d : Nat) : (if v < 0 then max (v + (n : Int)) 0 else min v (n : Int)) = ((sIx n d (some v) : Nat) : Int) := by
  show (if v < 0 then max (v + (n : Int)) 0 else min v (n : Int)) = (((if v < 0 then (v + (n : Int)).toNat else min v.toNat n) : Nat) : Int)
  by_cases hv : v < 0
  · simp only [if_pos hv]; omega
  · simp only [if_neg hv]; omega
theorem adjust_gen (lo hi : Option Int) (n : Nat) : Builtin.Slice.sliceAdjust lo hi 1 (n : Int) = (((sIx n 0 lo : Nat) : Int), ((sIx n n hi : Nat) : Int)) := by
  have h1 : ¬ ((1 : Int) < 0) := by omega
  unfold Builtin.Slice.sliceAdjust
  simp only [h1, if_false]
  refine Prod.ext ?_ ?_
  · cases lo with
    | none => rfl
    | some v => exact clip_eq v n 0
  · cases hi with
    | none => rfl
    | some v => exact clip_eq v n n
theorem places_gen (i j : Nat) : Builtin.Slice.slicePlaces (i : Int) (j : Int) 1 = j - i := by
  unfold Builtin.Slice.slicePlaces
  have h1 : (1 : Int) > 0 := by omega
  simp only [h1, if_true, Int.ediv_one]
  split <;> omega
theorem slicePart_ {v : Value} {o : Option Int} {Q : Option Int → Shared → Prop} (p : IsPart v o) (h : Q o s) : wpAny (model prog w) A (Builtin.Slice.slicePartIndex v) Q E s := by
  cases p with
  | none => exact slicePart_none h
  | int i t => exact slicePart_int h
theorem sliceApplied_gen {sl : Addr} {vl vu : Value} {lo hi : Option Int} {n : Nat} {Q : Int × Int × Nat → Shared → Prop} (hs : s.heap.IsSliceOf sl vl vu .none) (pl : IsPart vl lo) (pu : IsPart vu hi)
    (h : Q (((sIx n 0 lo : Nat) : Int), 1, sIx n n hi - sIx n 0 lo) s) : wpAny (model prog w) A (Builtin.Slice.sliceApplied (.ref sl) (pure (n : Int))) Q E s := by
  obtain ⟨os, hos, hcs, hds⟩ := id hs
  unfold Builtin.Slice.sliceApplied Builtin.Slice.sliceFields
  refine wpAny_bind (wpAny_bind (wpAny_field hos hds (x := vl) rfl (wpAny_bind (wpAny_field hos hds (x := vu) rfl (wpAny_bind (wpAny_field hos hds (x := .none) rfl (wpAny_pure ?_)))))))
  refine wpAny_bind (slicePart_none ?_)
  show wpAny _ _ (if ((1 : Int) == 0) = true then _ else _) _ _ s
  rw [if_neg (by decide)]
  refine wpAny_bind (slicePart_ pl (wpAny_bind (slicePart_ pu (wpAny_bind (wpAny_pure ?_)))))
  show wpAny _ _ (match Builtin.Slice.sliceAdjust lo hi 1 (n : Int) with | (lo, hi) => pure (lo, (1 : Int), Builtin.Slice.slicePlaces lo hi 1)) _ _ s
  rw [adjust_gen lo hi n]
  show wpAny _ _ (pure (((sIx n 0 lo : Nat) : Int), (1 : Int), Builtin.Slice.slicePlaces ((sIx n 0 lo : Nat) : Int) ((sIx n n hi : Nat) : Int) 1)) _ _ s
  rw [places_gen]
  exact wpAny_pure h
theorem pick_gen (xs : Array Value) (i k : Nat) : ((List.range k).filterMap fun (m : Nat) => xs[((i : Int) + (m : Int) * 1).toNat]?).toArray = ((xs.toList.drop i).take k).toArray := by
  have e : (fun (m : Nat) => xs[((i : Int) + (m : Int) * 1).toNat]?) = fun m => xs[i + m]? := by
    funext m
    have : ((i : Int) + (m : Int) * 1).toNat = i + m := by omega
    rw [this]
  rw [e]
  have := pick_run xs i k
  rw [List.filterMap_map] at this
  have e2 : ((fun x => xs[x]?) ∘ fun x => i + x) = fun m => xs[i + m]? := rfl
  rw [e2] at this
  rw [this]

theorem getItem_tuple_cut {t sl : Addr} {items : Array Value} {vl vu : Value} {lo hi : Option Int} {Q : Value → Shared → Prop} (ht : IsTup s.heap t items) (hs : s.heap.IsSliceOf sl vl vu .none) (pl : IsPart vl lo) (pu : IsPart vu hi)
    (hw : ¬ (sIx items.size 0 lo = 0 ∧ sIx items.size items.size hi = items.size))
    (h : Q (.ref s.heap.objs.size) { s with heap := s.heap.push { cls := .type "tuple", data := .seq ((items.toList.drop (sIx items.size 0 lo)).take (sIx items.size items.size hi - sIx items.size 0 lo)).toArray } })
    (hsz : items.size ≤ sizeLine) : wpAny (model prog w) A (getItem (.ref t) (.ref sl)) Q E s := by
  have htake : sizeOk (.seq ((items.toList.drop (sIx items.size 0 lo)).take (sIx items.size items.size hi - sIx items.size 0 lo)).toArray) := by
    show ((items.toList.drop (sIx items.size 0 lo)).take (sIx items.size items.size hi - sIx items.size 0 lo)).toArray.size ≤ sizeLine
    rw [List.size_toArray, List.length_take, List.length_drop, Array.length_toList]
    omega
  have hj : sIx items.size items.size hi ≤ items.size := sIx_le _ _ (Nat.le_refl _) hi
  obtain ⟨os, hos, hcs, hds⟩ := id hs
  have hTs : s.TypeIs (.ref sl) "slice" := ⟨os, hos, hcs⟩
  unfold getItem
  try with_reducible refine wpAny_holding ?_
  first | refine wpAny_bind (wpAny_pure ?_) | skip
  refine wpAny_bind (wpAny_sequenceKey ht.typeIs (by decide) ?_)
  refine wpAny_bind (wpAny_callSpecial?_slot (name := Str.ofString "__getitem__") ht.typeIs PyProof.Rows.slot_tuple_getitem
    (wpAny_call_entry PyProof.Rows.slot_tuple_getitem ht.typeIs entry_tuple_getitem ?_ (args_tuple_getitem _ _)))
  show wpAny _ _ (Builtin.Tuple.tupleItemsOf (.ref t) >>= _) _ _ s
  refine wpAny_bind (tupleItemsOf_ ht ?_)
  refine wpAny_bind (wpAny_typeOf hTs ?_)
  rw [if_pos (by decide)]
  refine wpAny_bind (sliceApplied_gen hs pl pu ?_)
  have hno : ¬ ((((sIx items.size 0 lo : Nat) : Int) == 0 && (1 : Int) == 1 && (sIx items.size items.size hi - sIx items.size 0 lo) == items.size) = true) := by
    intro q
    rw [Bool.and_eq_true, Bool.and_eq_true] at q
    have q1 : ((sIx items.size 0 lo : Nat) : Int) = 0 := eq_of_beq q.1.1
    have q2 : sIx items.size items.size hi - sIx items.size 0 lo = items.size := eq_of_beq q.2
    exact hw ⟨by omega, by omega⟩
  show wpAny _ _ (if (((sIx items.size 0 lo : Nat) : Int) == 0 && (1 : Int) == 1 && (sIx items.size items.size hi - sIx items.size 0 lo) == items.size) = true then _ else _) _ _ s
  rw [if_neg hno, pick_gen]
  first
    | exact wpAny_bind (m := Builtin.Tuple.tupleExact _) (wpAny_newObj_type (wpAny_pure ⟨_, rfl, wpAny_pure h⟩) htake)
    | exact wpAny_bind (m := Builtin.Tuple.tupleExact _) (wpAny_newObj_type (wpAny_bind (wpAny_pure (wpAny_pure ⟨_, rfl, wpAny_pure h⟩))) htake)
    | exact wpAny_bind (wpAny_bind (m := Builtin.Tuple.tupleExact _) (wpAny_newObj_type (wpAny_pure (wpAny_pure ⟨_, rfl, wpAny_pure h⟩)) htake))
    | exact wpAny_bind (wpAny_bind (m := Builtin.Tuple.tupleExact _) (wpAny_newObj_type (wpAny_pure ⟨_, rfl, wpAny_pure h⟩) htake))
end
end HT

namespace L2
open PySem PySem.Spec PyProof.Rows

/-! ### the parts of a slice -/
abbrev TO := St → Hp → (Option Int → Hp → Prop) → Prop
/-- a slice's part (left out, or an int) -/
def PO (X : Cx) (e : Option Expr) (t : TO) : Prop :=
  ∀ (pins : List (Addr × Obj)) (s : Shared) (σ : St) (H : Hp) (Q : Option Int → Hp → Prop), Inv X pins σ H s → t σ H Q →
    wpAny (model X.prog X.w) X.A (evalPart e X.env) (fun u s' => ∃ o H', Inv X pins σ H' s' ∧ IsPart u o ∧ Q o H') X.xe s
def tNoPart : TO := fun _ H Q => Q none H
def tPart (t : TE) : TO := fun σ H Q => t σ H fun x H1 => ∃ i, x = .int i ∧ Q (some i) H1

theorem intsAre_of {ns : List Int} : ∀ {us : List Value}, Vals (ns.map V.int) us → IntsAre us ns := by
  induction ns with
  | nil => intro us r; rw [List.map_nil] at r; cases r; exact .nil
  | cons n ns ih =>
    intro us r
    rw [List.map_cons] at r
    cases r with
    | cons r1 r2 =>
      obtain ⟨t, e⟩ := r1
      subst e
      exact .cons n t (ih r2)

section
variable {X : Cx} {e : Expr} {te : TE} {lo hi : Option Expr} {tl th : TO} {pos p2 : Pos}

theorem po_none : PO X none tNoPart := by
  intro pins s σ H Q I h
  rw [evalPart_none]
  exact wpAny_pure ⟨none, H, I, .none, h⟩
theorem po_some (h : PE X e te) : PO X (some e) (tPart te) := by
  intro pins s σ H Q I hw
  rw [evalPart_some]
  refine thn (h pins s σ H _ I hw) fun u s1 ⟨x, H1, I1, r1, q1⟩ => ?_
  obtain ⟨i, rfl, q⟩ := q1
  obtain ⟨t, rfl⟩ := r1
  exact ⟨some i, H1, I1, .int i t, q⟩

/-- what a slice of a value is, by values: the slice object stands at sl -/
def SlR (X : Cx) (r : V → Option Int → Option Int → Hp → VK → Prop) : Prop :=
  ∀ (pins : List (Addr × Obj)) (s : Shared) (σ : St) (H : Hp) (x : V) (v vl vu : Value) (lo hi : Option Int) (sl : Addr) (Q : VK), Inv X pins σ H s → RelV x v → s.heap.IsSliceOf sl vl vu .none → IsPart vl lo → IsPart vu hi → r x lo hi H Q →
    ∃ T id, typeLookup (.type T) "__getitem__" = pure (some (.builtin id)) ∧ s.TypeIs v T ∧ wpAny (model X.prog X.w) X.A (getItem v (.ref sl)) (EP X pins σ Q) X.xe s
theorem SlR.or {r r' : V → Option Int → Option Int → Hp → VK → Prop} (h : SlR X r) (h' : SlR X r') : SlR X (fun x lo hi H Q => r x lo hi H Q ∨ r' x lo hi H Q) := by
  intro pins s σ H x v vl vu lo hi sl Q I rx hs pl pu q
  rcases q with q | q
  · exact h pins s σ H x v vl vu lo hi sl Q I rx hs pl pu q
  · exact h' pins s σ H x v vl vu lo hi sl Q I rx hs pl pu q
def tSl (r : V → Option Int → Option Int → Hp → VK → Prop) (te : TE) (tl th : TO) : TE := fun σ H Q => te σ H fun x H1 => tl σ H1 fun l H2 => th σ H2 fun u H3 => r x l u H3 Q
/-- a[lo:hi], any a -/
theorem pe_slice {r : V → Option Int → Option Int → Hp → VK → Prop} (hr : SlR X r) (he : PE X e te) (hl : PO X lo tl) (hu : PO X hi th) : PE X (.Subscript e (.Slice lo hi none p2) pos) (tSl r te tl th) := by
  intro pins s σ H Q I h
  refine Subscript_ (thn (he pins s σ H _ I h) fun v s1 ⟨x, H1, I1, r1, q1⟩ => ?_)
  refine wpAny_Slice (thn (hl pins s1 σ H1 _ I1 q1) fun vl s2 ⟨l, H2, I2, pl, q2⟩ => thn (hu pins s2 σ H2 _ I2 q2) fun vu s3 ⟨u, H3, I3, pu, q3⟩ => ?_)
  rw [evalPart_none]
  refine wpAny_pure ?_
  have I4 : Inv X pins σ H3 { s3 with heap := s3.heap.push { cls := .type "slice", data := .fields #[vl, vu, .none] } } := I3.kept (t' := s3.toks) fun b ob q => Heap.get?_push_of_some _ q
  obtain ⟨T, id, hT, ht, hg⟩ := hr pins { s3 with heap := s3.heap.push { cls := .type "slice", data := .fields #[vl, vu, .none] } } σ H3 x v vl vu l u s3.heap.objs.size Q I4 r1 (Heap.IsSliceOf.new ..) pl pu q3
  show wpAny (model X.prog X.w) X.A (subscriptTail e (.Slice lo hi none p2) v (.ref s3.heap.objs.size)) (EP X pins σ Q) X.xe { s3 with heap := s3.heap.push { cls := .type "slice", data := .fields #[vl, vu, .none] } }
  exact tail_any (ops := [.ref s3.heap.objs.size, v]) ht hT hg (by with_unfolding_all rfl)

/-- the items of xs[lo:hi] -/
def cutV (xs : List V) (lo hi : Option Int) : List V := (xs.drop (HT.sIx xs.length 0 lo)).take (HT.sIx xs.length xs.length hi - HT.sIx xs.length 0 lo)
theorem cutV_length (xs : List V) (lo hi : Option Int) : (cutV xs lo hi).length ≤ xs.length := by
  unfold cutV
  rw [List.length_take, List.length_drop]
  omega
/-- t[lo:hi], not the whole of it (the whole would be t itself) -/
def rSlT (K : PySem.W.Frag) : V → Option Int → Option Int → Hp → VK → Prop := fun x lo hi H Q => ∃ a xs, x = .ref a ∧ SqT K H a xs ∧
  ¬ (HT.sIx xs.length 0 lo = 0 ∧ HT.sIx xs.length xs.length hi = xs.length) ∧ ∀ p, H p = none → Q (.ref p) (upd H p (.tup (cutV xs lo hi)))
theorem sl_tup : SlR X (rSlT X.K) := by
  intro pins s σ H x v vl vu lo hi sl Q I rx hs pl pu h
  obtain ⟨a, xs, rfl, hx, hw, q⟩ := h
  cases rx
  obtain ⟨its, r, ht, hz⟩ := I.tuple hx
  have hlen : its.toArray.size = xs.length := by rw [List.size_toArray]; exact r.length.symm
  refine ⟨"tuple", _, PyProof.Rows.slot_tuple_getitem.lookup, ht.typeIs, ?_⟩
  refine HT.getItem_tuple_cut ht hs pl pu (by rw [hlen]; exact hw) ?_ (by rw [hlen]; exact hz)
  rw [hlen]
  refine ⟨.ref s.heap.objs.size, _, I.laid (t' := s.toks) (o := .tup (cutV xs lo hi)) (fun b ob q => Heap.get?_push_of_some _ q) (Nat.le_refl _) ?_, rfl, q _ (I.hok.fresh (Nat.le_refl _))⟩
  exact ⟨Nat.le_trans (cutV_length xs lo hi) hz, _, (r.drop (HT.sIx xs.length 0 lo)).take (HT.sIx xs.length xs.length hi - HT.sIx xs.length 0 lo), IsTup.new _ _⟩

/-! ### t < u, t + u -/
def rLtT (K : PySem.W.Frag) : R2 := fun x y H Q => ∃ a b ns ms, x = .ref a ∧ y = .ref b ∧ SqT K H a (ns.map V.int) ∧ SqT K H b (ms.map V.int) ∧ Q (.bl (HT.lexLt ns ms)) H
/-- t + u, t not empty: u empty gives t itself -/
def rCatT (K : PySem.W.Frag) : R2 := fun x y H Q => ∃ a b xs ys, x = .ref a ∧ y = .ref b ∧ SqT K H a xs ∧ SqT K H b ys ∧ xs ≠ [] ∧ xs.length + ys.length ≤ sizeLine ∧
  (ys = [] → Q (.ref a) H) ∧ (ys ≠ [] → ∀ p, H p = none → Q (.ref p) (upd H p (.tup (xs ++ ys))))
end
end L2

namespace L2
open PySem PySem.Spec PyProof.Rows

/-! ### places -/
/-- the place that an index of any sign means -/
def ixN (n : Nat) (i : Int) : Option Nat := if 0 ≤ i then (if i < n then some i.toNat else none) else if -(n : Int) ≤ i then some (i + n).toNat else none
def atI {α : Type} (xs : List α) (i : Int) : Option α := (ixN xs.length i).bind fun j => xs[j]?
theorem ixN_seq {n : Nat} {i : Int} {j : Nat} (h : ixN n i = some j) : seqIndex? i n = some j ∧ j < n ∧ -(n : Int) ≤ i ∧ i < n := by
  unfold ixN at h
  by_cases h0 : 0 ≤ i
  · rw [if_pos h0] at h
    by_cases h1 : i < n
    · rw [if_pos h1] at h
      have e : i.toNat = j := Option.some.inj h
      exact ⟨by rw [seqIndex_of h0 h1, e], by omega, by omega, h1⟩
    · rw [if_neg h1] at h; cases h
  · rw [if_neg h0] at h
    by_cases h1 : -(n : Int) ≤ i
    · rw [if_pos h1] at h
      have e : (i + n).toNat = j := Option.some.inj h
      exact ⟨by rw [seqIndex_neg (by omega) h1, e], by omega, h1, by omega⟩
    · rw [if_neg h1] at h; cases h
theorem atI_get {α : Type} {xs : List α} {i : Int} {v : α} (h : atI xs i = some v) : ∃ j, seqIndex? i xs.length = some j ∧ xs[j]? = some v ∧ j < xs.length ∧ -(xs.length : Int) ≤ i ∧ i < xs.length := by
  unfold atI at h
  cases e : ixN xs.length i with
  | none => rw [e] at h; cases h
  | some j =>
    rw [e] at h
    obtain ⟨h1, h2, h3, h4⟩ := ixN_seq e
    exact ⟨j, h1, h, h2, h3, h4⟩
theorem atI_nat {α : Type} {xs : List α} {j : Nat} {v : α} (h : xs[j]? = some v) : atI xs (j : Int) = some v := by
  have hj : j < xs.length := (List.getElem?_eq_some_iff.mp h).1
  have e : ixN xs.length (j : Int) = some j := by
    unfold ixN
    rw [if_pos (by omega), if_pos (by omega)]; simp
  unfold atI; rw [e]; exact h
/-! ### what may be subscripted -/
/-- what stands as an index of a plain subscript -/
def PlainIx (b : Expr) : Prop := ∀ o i, subscripted b false o i = operate [o, i] (getItem o i)
/-- a subscript by values -/
def IxR (X : Cx) (r : R2) : Prop :=
  ∀ (value slice : Expr) (pins : List (Addr × Obj)) (s : Shared) (σ : St) (H : Hp) (x y : V) (v u : Value) (Q : VK), Inv X pins σ H s → RelV x v → RelV y u → r x y H Q →
    subscripted slice false v u = operate [v, u] (getItem v u) → wpAny (model X.prog X.w) X.A (subscriptTail value slice v u) (EP X pins σ Q) X.xe s
/-- a call of a builtin's method by values: the receiver, the arguments -/
def MtR (X : Cx) (id : String) (r : V → List V → Hp → VK → Prop) : Prop :=
  ∀ (pins : List (Addr × Obj)) (s : Shared) (σ : St) (H : Hp) (x : V) (xs : List V) (v : Value) (us : List Value) (Q : VK), Inv X pins σ H s → RelV x v → Vals xs us → r x xs H Q →
    wpAny (model X.prog X.w) X.A (call (.builtin id) (v :: us)) (EP X pins σ Q) X.xe s
section
variable {X : Cx} {a b : Expr} {ta tb : TE} {pos : Pos}
theorem IxR.or {r r' : R2} (h : IxR X r) (h' : IxR X r') : IxR X (fun x y H Q => r x y H Q ∨ r' x y H Q) := by
  intro value slice pins s σ H x y v u Q I rx ry q hs
  rcases q with q | q
  · exact h value slice pins s σ H x y v u Q I rx ry q hs
  · exact h' value slice pins s σ H x y v u Q I rx ry q hs
theorem MtR.or {id : String} {r r' : V → List V → Hp → VK → Prop} (h : MtR X id r) (h' : MtR X id r') : MtR X id (fun x xs H Q => r x xs H Q ∨ r' x xs H Q) := by
  intro pins s σ H x xs v us Q I rx rs q
  rcases q with q | q
  · exact h pins s σ H x xs v us Q I rx rs q
  · exact h' pins s σ H x xs v us Q I rx rs q
/-- a[b] -/
theorem pe_ix {r : R2} (hr : IxR X r) (ha : PE X a ta) (hb : PE X b tb) (hs : PlainIx b) : PE X (.Subscript a b pos) (tOp r ta tb) := by
  intro pins s σ H Q I h
  exact Subscript_ (binT ha hb I h fun v u s2 x y H2 I2 rx ry q => hr a b pins s2 σ H2 x y v u Q I2 rx ry q (hs _ _))

def rIxL (K : PySem.W.Frag) : R2 := fun x y H Q => ∃ p xs i v, x = .ref p ∧ y = .int i ∧ SqL K H p xs ∧ atI xs i = some v ∧ Q v H
def rIxT (K : PySem.W.Frag) : R2 := fun x y H Q => ∃ p xs i v, x = .ref p ∧ y = .int i ∧ SqT K H p xs ∧ atI xs i = some v ∧ Q v H
def rIxS : R2 := fun x y H Q => ∃ z i c, x = .str z ∧ y = .int i ∧ z.length ≤ sizeLine ∧ atI z.cps.toList i = some c ∧ Q (.str ⟨#[c]⟩) H
theorem ix_list : IxR X (rIxL X.K) := by
  intro value slice pins s σ H x y v u Q I rx ry h hs
  obtain ⟨p, xs, i, z, rfl, rfl, hq, he, q⟩ := h
  cases rx
  obtain ⟨t, rfl⟩ := ry
  obtain ⟨its, r, pl, hz⟩ := I.list hq
  obtain ⟨j, h1, h2, h3, h4, h5⟩ := atI_get he
  obtain ⟨w, ew, rw'⟩ := r.get h2
  have hl := r.length
  have hn := line63
  have fin : EP X pins σ Q w s := ⟨z, H, I, rw', q⟩
  by_cases h0 : 0 ≤ i
  · have hj : i.toNat = j := by
      rw [seqIndex_of h0 h5] at h1
      exact Option.some.inj h1
    exact item_listR pl.isList h0 (by omega) (by rw [hj]; simpa using ew) fin hs
  · have hj : (i + (its.toArray.size : Int)).toNat = j := by
      rw [seqIndex_neg (by omega) h4] at h1
      rw [List.size_toArray, ← hl]
      exact Option.some.inj h1
    exact subscriptTail_builtinR (x := w) pl.isList.typeIs slot_list_getitem.lookup
      (wpAny_getItem_list_neg (Q := fun r s' => r = w ∧ EP X pins σ Q r s') pl.isList (by omega) (by rw [List.size_toArray] <;> omega) (by omega) (by rw [hj]; simpa using ew) ⟨rfl, fin⟩) hs
theorem ix_tup : IxR X (rIxT X.K) := by
  intro value slice pins s σ H x y v u Q I rx ry h hs
  obtain ⟨p, xs, i, z, rfl, rfl, hq, he, q⟩ := h
  cases rx
  obtain ⟨t, rfl⟩ := ry
  obtain ⟨its, r, pl, hz⟩ := I.tuple hq
  obtain ⟨j, h1, h2, h3, h4, h5⟩ := atI_get he
  obtain ⟨w, ew, rw'⟩ := r.get h2
  have hl := r.length
  have hn := line63
  have fin : EP X pins σ Q w s := ⟨z, H, I, rw', q⟩
  exact subscriptTail_builtinR (x := w) pl.typeIs slot_tuple_getitem.lookup
    (getItem_tuple (j := j) (Q := fun r s' => r = w ∧ EP X pins σ Q r s') pl (by omega) (by omega) (by rw [List.size_toArray, ← hl]; exact h1) (by simpa using ew) ⟨rfl, fin⟩) hs
theorem ix_str : IxR X rIxS := by
  intro value slice pins s σ H x y v u Q I rx ry h hs
  obtain ⟨z, i, c, rfl, rfl, hz, he, q⟩ := h
  obtain ⟨t, rfl⟩ := rx
  obtain ⟨t', rfl⟩ := ry
  obtain ⟨j, h1, h2, h3, h4, h5⟩ := atI_get he
  have hl : z.cps.toList.length = z.length := by simp [Str.length]
  rw [hl] at h1 h4 h5
  have hn := line63
  exact tail_any (typeIs_str s z t) slot_str_getitem.lookup (getItem_str (c := c) (by
    have e1 : decide (i < -(2 ^ 63 : Int)) = false := decide_eq_false (by omega)
    have e2 : decide (i ≥ 2 ^ 63) = false := decide_eq_false (by omega)
    rw [e1, e2, Bool.or_false]) (by rw [h1]; simpa using h2) ⟨.str ⟨#[c]⟩, H, I.tok _, ⟨_, rfl⟩, q⟩) hs
/-- list, tuple or str -/
def rIx (K : PySem.W.Frag) : R2 := fun x y H Q => rIxL K x y H Q ∨ rIxT K x y H Q ∨ rIxS x y H Q
/-! ### xs[i] = v, any sign -/
/-- the list's object behind a store -/
theorem mapSeq_set (its : List Value) (n j : Nat) (u : Value) : Obj.mapSeq (·.setIfInBounds j u) { cls := .type "list", data := .seq its.toArray n } = { cls := .type "list", data := .seq (its.set j u).toArray n } := by
  simp [Obj.mapSeq]
theorem Inv.lst {pins : List (Addr × Obj)} {σ : St} {H : Hp} {s : Shared} {p : Addr} {xs : List V} (I : Inv X pins σ H s) (h : H p = some (.lst xs)) :
    ∃ (its : List Value) (n : Nat), Vals xs its ∧ s.heap.get? p = some { cls := .type "list", data := .seq its.toArray n } ∧ xs.length ≤ sizeLine := by
  obtain ⟨z, its, n, r, e⟩ := I.hok p _ h
  exact ⟨its, n, r, e, z⟩
/-- the list at p is written by an update of its object -/
theorem Inv.lstUpd {pins : List (Addr × Obj)} {σ : St} {H : Hp} {s : Shared} {p : Addr} {xs ys : List V} {its its' : List Value} {n n' : Nat} {f : Obj → Obj} (I : Inv X pins σ H s) (h : H p = some (.lst xs))
    (ho : s.heap.get? p = some { cls := .type "list", data := .seq its.toArray n }) (hf : f { cls := .type "list", data := .seq its.toArray n } = { cls := .type "list", data := .seq its'.toArray n' }) (r : Vals ys its') (hz : ys.length ≤ sizeLine) (t : Nat) :
    Inv X pins σ (upd H p (.lst ys)) { s with heap := s.heap.update p f, toks := t } := by
  have e : (s.heap.update p f).get? p = some { cls := .type "list", data := .seq its'.toArray n' } := by
    rw [Heap.get?_update_self f ho (by rw [hf] <;> rfl), hf]
  refine I.write (x := p) (e := p) (by rw [h]; trivial) (.inl rfl) (fun b u hb q => (Heap.get?_update_other _ _ (Ne.symm hb)).trans q) ⟨_, e⟩ ?_
  exact ⟨hz, its', n', r, e⟩
def rSetL : V → V → V → Hp → (Hp → Prop) → Prop := fun o i v H Q => ∃ p xs k j, o = .ref p ∧ i = .int k ∧ H p = some (.lst xs) ∧ ixN xs.length k = some j ∧ Q (upd H p (.lst (xs.set j v)))
theorem set_list : PSet X rSetL := by
  intro pins s σ H o i v ov iv u Q I ro ri rv h
  obtain ⟨p, xs, k, j, rfl, rfl, hp, hj, q⟩ := h
  cases ro
  obtain ⟨t, rfl⟩ := ri
  obtain ⟨its, n, r, ho, hz⟩ := I.lst hp
  obtain ⟨h1, h2, h3, h4⟩ := ixN_seq hj
  have hl := r.length
  have hn := line63
  have I' : Inv X pins σ (upd H p (.lst (xs.set j v))) { s with heap := s.heap.update p (Obj.mapSeq (·.setIfInBounds j u)) } :=
    I.lstUpd hp ho (mapSeq_set its n j u) (r.set rv j) (by rw [List.length_set]; exact hz) s.toks
  by_cases h0 : 0 ≤ k
  · have hk : k.toNat = j := by
      rw [seqIndex_of h0 h4] at h1
      exact Option.some.inj h1
    exact PySem.W.ki_setAt ho h0 (by omega) (by rw [List.size_toArray, ← hl]; exact h4) (by rw [hk]; exact ⟨_, I', q⟩)
  · have hk : (k + (its.toArray.size : Int)).toNat = j := by
      rw [seqIndex_neg (by omega) h3] at h1
      rw [List.size_toArray, ← hl]
      exact Option.some.inj h1
    exact PySem.W.ki_setBack ho (by omega) (by rw [List.size_toArray, ← hl]; exact h3) (by omega) (by rw [hk]; exact ⟨_, I', q⟩)

/-! ### slices -/
theorem slice_bounds (lo hi : Option Int) (n : Nat) : (sliceBounds lo hi none n).1 = ((HT.sIx n 0 lo : Nat) : Int) ∧ (sliceBounds lo hi none n).2.1 = ((HT.sIx n n hi : Nat) : Int) ∧ (sliceBounds lo hi none n).2.2 = 1 := by
  refine ⟨?_, ?_, rfl⟩
  · cases lo with
    | none => simp [sliceBounds, HT.sIx]
    | some i =>
      simp only [sliceBounds, HT.sIx, Option.getD_none, show (1 : Int) > 0 by decide, if_true]
      by_cases h : i < 0
      · simp only [h, if_true] <;> omega
      · simp only [h, if_false] <;> omega
  · cases hi with
    | none => simp [sliceBounds, HT.sIx]
    | some i =>
      simp only [sliceBounds, HT.sIx, Option.getD_none, show (1 : Int) > 0 by decide, if_true]
      by_cases h : i < 0
      · simp only [h, if_true] <;> omega
      · simp only [h, if_false] <;> omega
theorem slicePick_cut (its : List Value) (lo hi : Option Int) : slicePick its.toArray lo hi none = ((its.drop (HT.sIx its.length 0 lo)).take (HT.sIx its.length its.length hi - HT.sIx its.length 0 lo)).toArray := by
  obtain ⟨h1, h2, h3⟩ := slice_bounds lo hi its.toArray.size
  unfold slicePick
  rw [h1, h2, h3]
  simp only [sliceRange_one, pick_run, List.size_toArray] <;> rfl
/-- xs[lo:hi] of a list: a new list -/
def rSlL (K : PySem.W.Frag) : V → Option Int → Option Int → Hp → VK → Prop := fun x lo hi H Q => ∃ a xs, x = .ref a ∧ SqL K H a xs ∧ ∀ p, H p = none → Q (.ref p) (upd H p (.lst (cutV xs lo hi)))
theorem sl_list : SlR X (rSlL X.K) := by
  intro pins s σ H x v vl vu lo hi sl Q I rx hs pl pu h
  obtain ⟨a, xs, rfl, hx, q⟩ := h
  cases rx
  obtain ⟨its, r, ht, hz⟩ := I.list hx
  have hlen := r.length
  refine ⟨"list", _, slot_list_getitem.lookup, ht.isList.typeIs, ?_⟩
  refine wpAny_getItem_list_slice ht.isList hs pl pu .none (by simp) ?_ (by rw [List.size_toArray] <;> omega)
  rw [slicePick_cut, ← hlen]
  refine ⟨.ref s.heap.objs.size, _, I.laid (t' := s.toks) (o := .lst (cutV xs lo hi)) (fun b ob q => Heap.get?_push_of_some _ q) (Nat.le_refl _) ?_, rfl, q _ (I.hok.fresh (Nat.le_refl _))⟩
  exact ⟨Nat.le_trans (cutV_length xs lo hi) hz, _, 0, (r.drop (HT.sIx xs.length 0 lo)).take (HT.sIx xs.length xs.length hi - HT.sIx xs.length 0 lo), Heap.get?_push_size _ rfl⟩

/-! ### in, not in: flat items -/
def flatV : V → Bool
  | .non => true
  | .bl _ => true
  | .int _ => true
  | .str _ => true
  | _ => false
/-- == of flat values -/
def eqV : V → V → Bool
  | .non, .non => true
  | .bl a, .bl b => a == b
  | .bl a, .int b => (if a then 1 else 0) == b
  | .int a, .bl b => a == (if b then 1 else 0)
  | .int a, .int b => a == b
  | .str a, .str b => a == b
  | _, _ => false
theorem eqAt_V {A : Around} {s : Shared} {y x : V} {u v : Value} (ry : RelV y u) (rx : RelV x v) (fy : flatV y = true) (fx : flatV x = true) : SeqAt.EqAt A s u v (eqV y x) := by
  cases y with
  | non =>
    cases ry
    cases x with
    | non => cases rx; exact SeqAt.EqAt.same _
    | bl b => cases rx; exact SeqAt.EqAt.none_bool b
    | int b => obtain ⟨t, rfl⟩ := rx; exact SeqAt.EqAt.none_int b t
    | str b => obtain ⟨t, rfl⟩ := rx; exact SeqAt.EqAt.none_str b t
    | _ => exact absurd (show false = true from fx) Bool.false_ne_true
  | bl a =>
    cases ry
    cases x with
    | non => cases rx; exact SeqAt.EqAt.bool_none a
    | bl b => cases rx; exact SeqAt.EqAt.bool_bool a b
    | int b => obtain ⟨t, rfl⟩ := rx; exact SeqAt.EqAt.bool_int a b t
    | str b => obtain ⟨t, rfl⟩ := rx; exact SeqAt.EqAt.bool_str a b t
    | _ => exact absurd (show false = true from fx) Bool.false_ne_true
  | int a =>
    obtain ⟨t', rfl⟩ := ry
    cases x with
    | non => cases rx; exact SeqAt.EqAt.int_none a t'
    | bl b => cases rx; exact SeqAt.EqAt.int_bool a t' b
    | int b => obtain ⟨t, rfl⟩ := rx; exact SeqAt.EqAt.int_int a t' b t
    | str b => obtain ⟨t, rfl⟩ := rx; exact SeqAt.EqAt.int_str a t' b t
    | _ => exact absurd (show false = true from fx) Bool.false_ne_true
  | str a =>
    obtain ⟨t', rfl⟩ := ry
    cases x with
    | non => cases rx; exact SeqAt.EqAt.str_none a t'
    | bl b => cases rx; exact SeqAt.EqAt.str_bool a t' b
    | int b => obtain ⟨t, rfl⟩ := rx; exact SeqAt.EqAt.str_int a t' b t
    | str b => obtain ⟨t, rfl⟩ := rx; exact SeqAt.EqAt.str_str a t' b t
    | _ => exact absurd (show false = true from fx) Bool.false_ne_true
  | _ => exact absurd (show false = true from fy) Bool.false_ne_true
/-- the items' answers, read off the values (a value's own answer does not lean on its token) -/
def eqU (x : V) (u : Value) : Bool := match u with
  | .none => eqV .non x
  | .bool b => eqV (.bl b) x
  | .int i _ => eqV (.int i) x
  | .str z _ => eqV (.str z) x
  | _ => false
theorem eqU_of {x y : V} {u : Value} (r : RelV y u) (f : flatV y = true) : eqU x u = eqV y x := by
  cases y with
  | non => cases r; rfl
  | bl b => cases r; rfl
  | int i => obtain ⟨t, rfl⟩ := r; rfl
  | str z => obtain ⟨t, rfl⟩ := r; rfl
  | _ => exact absurd (show false = true from f) Bool.false_ne_true
theorem any_eqU {x : V} : ∀ {xs : List V} {us : List Value}, Vals xs us → xs.all flatV = true → us.any (eqU x) = xs.any fun y => eqV y x
  | _, _, .nil, _ => rfl
  | y :: xs, u :: us, .cons r t, f => by
    rw [List.all_cons, Bool.and_eq_true] at f
    rw [List.any_cons, List.any_cons, eqU_of r f.1, any_eqU t f.2]
theorem mem_eqAt {A : Around} {s : Shared} {x : V} {v : Value} (rx : RelV x v) (fx : flatV x = true) : ∀ {xs : List V} {us : List Value}, Vals xs us → xs.all flatV = true → ∀ u ∈ us, SeqAt.EqAt A s u v (eqU x u)
  | _, _, .nil, _ => fun u hu => by cases hu
  | y :: xs, u :: us, .cons r t, f => fun u' hu => by
    rw [List.all_cons, Bool.and_eq_true] at f
    rcases List.mem_cons.mp hu with rfl | hu
    · rw [eqU_of r f.1]; exact eqAt_V r rx f.1 fx
    · exact mem_eqAt rx fx t f.2 u' hu
def inV (x : V) (xs : List V) : Bool := xs.any fun y => eqV y x
/-- x in a list or tuple of flat items -/
def rIn (K : PySem.W.Frag) (neg : Bool) : R2 := fun x y H Q => ∃ p xs, y = .ref p ∧ (SqL K H p xs ∨ SqT K H p xs) ∧ flatV x = true ∧ xs.all flatV = true ∧ Q (.bl (if neg then !inV x xs else inV x xs)) H
theorem op_in_seq : OpR X (compareOp .In) (rIn X.K false) := by
  intro pins s σ H x y v u Q I rx ry h
  obtain ⟨p, xs, rfl, hq, fx, fs, q⟩ := h
  cases ry
  rcases hq with hq | hq
  · obtain ⟨its, r, pl, hz⟩ := I.list hq
    refine SeqAt.in_listAt (eqU x) pl.isList (fun w hw => mem_eqAt rx fx r fs w (by simpa using hw)) ⟨.bl _, H, I, rfl, ?_⟩
    rw [show its.toArray.any (eqU x) = its.any (eqU x) by simp, any_eqU r fs]
    exact q
  · obtain ⟨its, r, pl, hz⟩ := I.tuple hq
    refine SeqAt.in_tupleAt (eqU x) pl (fun w hw => mem_eqAt rx fx r fs w (by simpa using hw)) ⟨.bl _, H, I, rfl, ?_⟩
    rw [show its.toArray.any (eqU x) = its.any (eqU x) by simp, any_eqU r fs]
    exact q
theorem op_notIn_seq : OpR X (compareOp .NotIn) (rIn X.K true) := by
  intro pins s σ H x y v u Q I rx ry h
  obtain ⟨p, xs, rfl, hq, fx, fs, q⟩ := h
  cases ry
  rcases hq with hq | hq
  · obtain ⟨its, r, pl, hz⟩ := I.list hq
    refine SeqAt.notIn_listAt (eqU x) pl.isList (fun w hw => mem_eqAt rx fx r fs w (by simpa using hw)) ⟨.bl _, H, I, rfl, ?_⟩
    rw [show its.toArray.any (eqU x) = its.any (eqU x) by simp, any_eqU r fs]
    exact q
  · obtain ⟨its, r, pl, hz⟩ := I.tuple hq
    refine SeqAt.notIn_tupleAt (eqU x) pl (fun w hw => mem_eqAt rx fx r fs w (by simpa using hw)) ⟨.bl _, H, I, rfl, ?_⟩
    rw [show its.toArray.any (eqU x) = its.any (eqU x) by simp, any_eqU r fs]
    exact q
/-! ### len, list(x), tuple(x) of any list or tuple that is read -/
theorem call_len_seq : CallR X (.builtin "len") (fun xs H Q => ∃ p ys, xs = [.ref p] ∧ (SqL X.K H p ys ∨ SqT X.K H p ys) ∧ Q (.int ys.length) H) := by
  intro pins s σ H xs us Q I r h
  obtain ⟨p, ys, rfl, hq, q⟩ := h
  obtain ⟨u, rfl, rx⟩ := vals1 r
  cases rx
  have hn := line63
  rcases hq with hq | hq
  · obtain ⟨its, r', pl, hz⟩ := I.list hq
    have hlen := r'.length
    exact Calls.call_len_list pl.isList (by simp only [List.size_toArray] <;> omega) ⟨.int ys.length, H, I.tok _, ⟨s.toks + 1, by rw [List.size_toArray, hlen]⟩, q⟩
  · obtain ⟨its, r', pl, hz⟩ := I.tuple hq
    have hlen := r'.length
    exact len_tuple pl (by simp only [List.size_toArray] <;> omega) ⟨.int ys.length, H, I.tok _, ⟨s.toks + 1, by rw [List.size_toArray, hlen]⟩, q⟩
theorem call_len_str : CallR X (.builtin "len") (fun xs H Q => ∃ z, xs = [.str z] ∧ z.length ≤ sizeLine ∧ Q (.int z.length) H) := by
  intro pins s σ H xs us Q I r h
  obtain ⟨z, rfl, hz, q⟩ := h
  obtain ⟨u, rfl, t, rfl⟩ := vals1 r
  have hn := line63
  exact len_str (by omega) ⟨.int z.length, H, I.tok _, ⟨_, rfl⟩, q⟩
theorem CallR.or {f : Value} {r r' : List V → Hp → VK → Prop} (h : CallR X f r) (h' : CallR X f r') : CallR X f (fun xs H Q => r xs H Q ∨ r' xs H Q) := by
  intro pins s σ H xs us Q I rs q
  rcases q with q | q
  · exact h pins s σ H xs us Q I rs q
  · exact h' pins s σ H xs us Q I rs q
theorem call_list_of : CallR X (.type "list") (fun xs H Q => ∃ p ys, xs = [.ref p] ∧ (SqL X.K H p ys ∨ SqT X.K H p ys) ∧ ∀ l, H l = none → Q (.ref l) (upd H l (.lst ys))) := by
  intro pins s σ H xs us Q I r h
  obtain ⟨p, ys, rfl, hq, q⟩ := h
  obtain ⟨u, rfl, rx⟩ := vals1 r
  cases rx
  have fin : ∀ (its : List Value), Vals ys its → ys.length ≤ sizeLine → ∀ (h' : Heap) (c' : Nat), (∀ b o', s.heap.get? b = some o' → h'.get? b = some o') →
      h'.get? s.heap.objs.size = some { cls := .type "list", dict := none, data := .seq its.toArray c', slots := #[] } → EP X pins σ Q (.ref s.heap.objs.size) { s with heap := h' } := fun its r' hz h' c' kp e =>
    ⟨.ref s.heap.objs.size, _, I.laid (t' := s.toks) kp (Nat.le_refl _) (show ObjOk X.prog X.w _ h' _ (.lst ys) from ⟨hz, its, c', r', e⟩), rfl, q _ (I.hok.fresh (Nat.le_refl _))⟩
  rcases hq with hq | hq
  · obtain ⟨its, r', pl, hz⟩ := I.list hq
    have hlen := r'.length
    obtain ⟨o, ho, hc, n, hd⟩ := pl.isList
    exact call_list_seq p (.inl rfl) ho hc hd (fun h' c' kp e => fin its r' hz h' c' kp e) (by simp only [List.size_toArray] <;> omega)
  · obtain ⟨its, r', pl, hz⟩ := I.tuple hq
    have hlen := r'.length
    obtain ⟨o, ho, hc, n, hd⟩ := pl
    exact call_list_seq p (.inr rfl) ho hc hd (fun h' c' kp e => fin its r' hz h' c' kp e) (by simp only [List.size_toArray] <;> omega)
theorem call_tuple_of : CallR X (.type "tuple") (fun xs H Q => ∃ p ys, xs = [.ref p] ∧ ((SqL X.K H p ys ∧ ∀ l, H l = none → Q (.ref l) (upd H l (.tup ys))) ∨ (SqT X.K H p ys ∧ Q (.ref p) H))) := by
  intro pins s σ H xs us Q I r h
  obtain ⟨p, ys, rfl, h⟩ := h
  obtain ⟨u, rfl, rx⟩ := vals1 r
  cases rx
  rcases h with ⟨hq, q⟩ | ⟨hq, q⟩
  · obtain ⟨its, r', pl, hz⟩ := I.list hq
    have hlen := r'.length
    refine call_tuple_list pl.isList (fun h' kp => ?_) (by simp only [List.size_toArray] <;> omega)
    have I1 : Inv X pins σ H { s with heap := h' } := I.kept (t' := s.toks) kp
    have I2 : Inv X pins σ (upd H h'.objs.size (.tup ys)) { s with heap := h'.push { cls := .type "tuple", data := .seq its.toArray } } :=
      I1.laid (t' := s.toks) (fun b o e => Heap.get?_push_of_some _ e) (Nat.le_refl _) (show ObjOk X.prog X.w _ _ _ (.tup ys) from ⟨hz, its, r', IsTup.new _ _⟩)
    exact ⟨.ref h'.objs.size, _, I2, rfl, q _ (I1.hok.fresh (Nat.le_refl _))⟩
  · obtain ⟨its, r', pl, hz⟩ := I.tuple hq
    exact call_tuple_same pl ⟨.ref p, H, I, rfl, q⟩

/-! ### the call of a builtin's method: o.m(..) -/
/-- the value is of that builtin type -/
def tyV (K : PySem.W.Frag) (T : String) (x : V) (H : Hp) : Prop := match x with
  | .str _ => T = "str"
  | .int _ => T = "int"
  | .ref p => (T = "list" ∧ ∃ xs, SqL K H p xs) ∨ (T = "tuple" ∧ ∃ o, K.lookup p = some o ∧ o.cls = .type "tuple" ∧ o.dict = none) ∨
      (T = "dict" ∧ ((∃ kvs, H p = some (.dK kvs)) ∨ ∃ kvs, H p = some (.dT kvs))) ∨ (T = "set" ∧ ∃ S n, H p = some (.set S n))
  | _ => False
theorem tyV_is {pins : List (Addr × Obj)} {σ : St} {H : Hp} {s : Shared} {T : String} {x : V} {v : Value} (I : Inv X pins σ H s) (r : RelV x v) (ty : tyV X.K T x H) :
    s.TypeIs v T ∧ ∀ a, v = .ref a → ∃ ob, s.heap.get? a = some ob ∧ ob.dict = none := by
  cases x with
  | str z =>
    obtain ⟨t, rfl⟩ := r
    cases (show T = "str" from ty)
    exact ⟨typeIs_str s z t, fun _ e => nomatch e⟩
  | int i =>
    obtain ⟨t, rfl⟩ := r
    cases (show T = "int" from ty)
    exact ⟨typeIs_int s i t, fun _ e => nomatch e⟩
  | ref p =>
    cases r
    rcases ty with ⟨rfl, xs, hq⟩ | ⟨rfl, o, hk, hc, hd⟩ | ⟨rfl, hk⟩ | ⟨rfl, S, n, hk⟩
    · obtain ⟨its, _, pl, _⟩ := I.list hq
      refine ⟨pl.isList.typeIs, fun a e => ?_⟩
      cases e
      obtain ⟨o, n, e, c, hd, _⟩ := pl
      exact ⟨o, e, hd⟩
    · refine ⟨⟨o, I.kIn p o hk, hc⟩, fun a e => ?_⟩
      cases e
      exact ⟨o, I.kIn _ o hk, hd⟩
    · have z : ∃ o, s.heap.get? p = some o ∧ o.ExactDict := by
        rcases hk with ⟨kvs, hk⟩ | ⟨kvs, hk⟩
        · obtain ⟨_, _, _, _, o, _, _, e, ex, _⟩ := I.hok p _ hk
          exact ⟨o, e, ex⟩
        · obtain ⟨_, _, _, _, o, _, _, e, ex, _⟩ := I.hok p _ hk
          exact ⟨o, e, ex⟩
      obtain ⟨o, e, ex⟩ := z
      refine ⟨⟨o, e, ex.1⟩, fun a e2 => ?_⟩
      cases e2
      exact ⟨o, e, ex.2.1⟩
    · obtain ⟨o, _, _, _, e, ex, _⟩ := I.hok p _ hk
      refine ⟨⟨o, e, ex.1⟩, fun a e2 => ?_⟩
      cases e2
      exact ⟨o, e, ex.2.1⟩
  | _ => exact False.elim ty
def tBM0 (K : PySem.W.Frag) (T : String) (r : V → List V → Hp → VK → Prop) (to : TE) : TE := fun σ H Q => to σ H fun x H1 => tyV K T x H1 ∧ r x [] H1 Q
def tBM (K : PySem.W.Frag) (T : String) (r : V → List V → Hp → VK → Prop) (to : TE) (t : TA) : TE := fun σ H Q => to σ H fun x H1 => tyV K T x H1 ∧ t σ H1 fun xs H2 => r x xs H2 Q
variable {o e : Expr} {es : List Expr} {to : TE} {t : TA} {name : Str} {apos cpos : Pos} {T id : String} {r : V → List V → Hp → VK → Prop}
theorem pe_bm0 (pa : PlainAttrs T) (slot : Slot T name id) (hty : typeOf (.builtin id) = pure (.type "method_descriptor")) (hm : MtR X id r) (ho : PE X o to)
    (hbase : attributeBase o name X.env (eval o X.env) = eval o X.env := by rfl) (hline : (apos.endLine == cpos.line) = true := by rfl) : PE X (.Call (.Attribute o name apos) [] [] cpos) (tBM0 X.K T r to) := by
  intro pins s σ H Q I h
  refine wpAny_Call_method0_late hbase hline (thn (ho pins s σ H _ I h) fun v s1 ⟨x, H1, I1, r1, ty, q1⟩ => ?_)
  obtain ⟨h1, h2⟩ := tyV_is I1 r1 ty
  exact ⟨T, id, pa, slot, hty, h1, h2, Calls.callWith_builtin rfl (PySem.evalArgs_none (hm pins s1 σ H1 x [] v [] Q I1 r1 .nil q1))⟩
theorem pe_bm (pa : PlainAttrs T) (slot : Slot T name id) (hty : typeOf (.builtin id) = pure (.type "method_descriptor")) (hm : MtR X id r) (ho : PE X o to) (ha : PA X (e :: es) t)
    (hbase : attributeBase o name X.env (eval o X.env) = eval o X.env := by rfl)
    (hfew : ((backTo cpos (starEach (e :: es) X.env)).all (fun x => !x.1) && (backToKw cpos (keywordEach [] X.env)).all (fun x => x.1.isSome)
      && decide ((e :: es).length + ([] : List Keyword).length + (if ([] : List Keyword).isEmpty then 0 else 1) < 30)) = true := by rfl)
    (hline : (apos.endLine == cpos.line) = true := by rfl) (hs : starEach (e :: es) X.env = (false, eval e X.env) :: starEach es X.env := by rfl) (hplain : (backTo cpos (starEach es X.env)).any (·.1) = false := by rfl) :
    PE X (.Call (.Attribute o name apos) (e :: es) [] cpos) (tBM X.K T r to t) := by
  intro pins s σ H Q I h
  refine wpAny_Call_method_late hbase hfew hline rfl (thn (ho pins s σ H _ I h) fun v s1 ⟨x, H1, I1, r1, ty, q1⟩ => ?_)
  obtain ⟨h1, h2⟩ := tyV_is I1 r1 ty
  refine ⟨T, id, pa, slot, hty, h1, h2, ?_⟩
  have hA := ha cpos pins s1 σ H1 _ I1 q1
  rw [hs] at hA ⊢
  refine Calls.callWith_builtin (by show (false || (backTo cpos (starEach es X.env)).any (·.1)) = false; rw [hplain] <;> rfl) (Calls.evalArgs_plain ?_)
  exact thn hA fun us s2 ⟨vs, H2, I2, r2, q2⟩ => hm pins s2 σ H2 x vs v us Q I2 r1 r2 q2
/- xs.append(e), list.index on a module's tuple .. are MtR facts of 06m -/
end
end L2

namespace L2
open PySem PySem.Spec PyProof.Rows

def MtM (X : Cx) (id : String) (r : V → List V → Hp → VK → Prop) : Prop :=
  ∀ (pins : List (Addr × Obj)) (s : Shared) (σ : St) (H : Hp) (x : V) (xs : List V) (v : Value) (us : List Value) (Q : VK), Inv X pins σ H s → RelV x v → Vals xs us → r x xs H Q →
    wpAny (model X.prog X.w) X.A (call (.builtin id) (v :: us)) (EP X pins σ Q) X.xe s

/-! ### lists of values -/
theorem Vals.one : ∀ {x : V} {us : List Value}, Vals [x] us → ∃ u, us = [u] ∧ RelV x u
  | _, _, .cons r .nil => ⟨_, rfl, r⟩
theorem Vals.two : ∀ {x y : V} {us : List Value}, Vals [x, y] us → ∃ u v, us = [u, v] ∧ RelV x u ∧ RelV y v
  | _, _, _, .cons r (.cons q .nil) => ⟨_, _, rfl, r, q⟩
theorem Vals.zero : ∀ {us : List Value}, Vals [] us → us = []
  | _, .nil => rfl
theorem Vals.dropLast {xs : List V} {us : List Value} (h : Vals xs us) : Vals xs.dropLast us.dropLast := by
  induction h with
  | nil => exact .nil
  | cons r t ih =>
    cases t with
    | nil => exact .nil
    | cons q t' => exact .cons r ih
theorem Vals.eraseIdx : ∀ {xs : List V} {us : List Value} (i : Nat), Vals xs us → Vals (xs.eraseIdx i) (us.eraseIdx i)
  | _, _, _, .nil => .nil
  | _, _, 0, .cons _ t => t
  | _, _, i + 1, .cons r t => .cons r (Vals.eraseIdx i t)
theorem Vals.reverse {xs : List V} {us : List Value} (h : Vals xs us) : Vals xs.reverse us.reverse := by
  induction h with
  | nil => exact .nil
  | cons r t ih => rw [List.reverse_cons, List.reverse_cons]; exact Vals.append ih (.cons r .nil)
theorem erase_last {α : Type} (l : List α) : l.eraseIdx (l.length - 1) = l.dropLast := by
  induction l with
  | nil => rfl
  | cons a r ih =>
    cases r with
    | nil => rfl
    | cons b r =>
      have e : (a :: b :: r).length - 1 = ((b :: r).length - 1) + 1 := by
        have h1 : (a :: b :: r).length = r.length + 2 := rfl
        have h2 : (b :: r).length = r.length + 1 := rfl
        omega
      rw [e, List.eraseIdx_cons_succ, ih]
      all_goals rfl
section
variable {X : Cx} {pins : List (Addr × Obj)} {σ : St} {H : Hp} {s : Shared} {l b : Addr} {xs ys zs : List V}

/-! ### the two steps: a tracked list is rewritten, a new list is laid -/
theorem Inv.lset {its its' : List Value} {n : Nat} {f : Array Value → Array Value} {t' : Nat} (I : Inv X pins σ H s) (hH : H l = some (.lst xs))
    (e : s.heap.get? l = some { cls := .type "list", data := .seq its.toArray n }) (hf : f its.toArray = its'.toArray) (hv : Vals ys its') (hz : ys.length ≤ sizeLine) :
    Inv X pins σ (upd H l (.lst ys)) { s with heap := s.heap.update l (Obj.mapSeq f), toks := t' } := by
  have q := PySem.IsL.update e f
  rw [hf] at q
  refine I.write (x := l) (e := l) (by rw [hH]; exact trivial) (.inl rfl) (fun b' u hb hu => (Heap.get?_update_other s.heap (Obj.mapSeq f) (Ne.symm hb)).trans hu) ⟨_, q⟩ ?_
  exact ⟨hz, its', _, hv, q⟩
theorem Inv.lnew {its : List Value} {t' : Nat} (I : Inv X pins σ H s) (hv : Vals ys its) (hz : ys.length ≤ sizeLine) :
    Inv X pins σ (upd H s.heap.objs.size (.lst ys)) { s with heap := s.heap.push { cls := .type "list", data := .seq its.toArray }, toks := t' } :=
  I.laid (fun _ _ q => Heap.get?_push_of_some _ q) (Nat.le_refl _) ⟨hz, its, 0, hv, Heap.get?_push_size _ rfl⟩
theorem Inv.fresh (I : Inv X pins σ H s) : H s.heap.objs.size = none := I.hok.fresh (Nat.le_refl _)
theorem Inv.lstM (I : Inv X pins σ H s) (hH : H l = some (.lst xs)) : xs.length ≤ sizeLine ∧ ∃ (its : List Value) (n : Nat), Vals xs its ∧ xs.length = its.length ∧ s.heap.get? l = some { cls := .type "list", data := .seq its.toArray n } := by
  obtain ⟨z, its, n, r, e⟩ := I.hok l _ hH
  exact ⟨z, its, n, r, r.length, e⟩

end

section
variable {X : Cx}

/-! ### methods -/
def rAppend : V → List V → Hp → VK → Prop := fun x vs H Q => ∃ l xs y, x = .ref l ∧ vs = [y] ∧ H l = some (.lst xs) ∧ xs.length < sizeLine ∧ Q .non (upd H l (.lst (xs ++ [y])))
theorem mt_append : MtM X "list.append" rAppend := by
  intro pins s σ H x vs v us Q I rx rv h
  obtain ⟨l, xs, y, rfl, rfl, hH, hz, q⟩ := h
  cases rx
  obtain ⟨u, rfl, ru⟩ := rv.one
  obtain ⟨z, its, n, r, hl, e⟩ := I.lstM hH
  refine call_meets F.slot_list_append ⟨_, e, rfl⟩ F.entry_list_append (F.args_list_append_2 _ _) (PySem.list_append l its.toArray n u (by rw [List.size_toArray]; omega)) ⟨e, ?_⟩
  refine ⟨.non, _, I.lset (its' := its ++ [u]) hH e (by simp) (r.append (.cons ru .nil)) ?_, rfl, q⟩
  rw [List.length_append, List.length_singleton]
  omega

def rExtend : V → List V → Hp → VK → Prop := fun x vs H Q => ∃ l b xs zs, x = .ref l ∧ vs = [.ref b] ∧ H l = some (.lst xs) ∧ H b = some (.lst zs) ∧ xs.length + zs.length ≤ sizeLine ∧ Q .non (upd H l (.lst (xs ++ zs)))
def rPop : V → List V → Hp → VK → Prop := fun x vs H Q => ∃ l xs y, x = .ref l ∧ vs = [] ∧ H l = some (.lst xs) ∧ xs[xs.length - 1]? = some y ∧ Q y (upd H l (.lst xs.dropLast))
theorem mt_pop : MtM X "list.pop" rPop := by
  intro pins s σ H x vs v us Q I rx rv h
  obtain ⟨l, xs, y, rfl, rfl, hH, hy, q⟩ := h
  cases rx
  have hus := rv.zero
  subst hus
  obtain ⟨z, its, n, r, hl, e⟩ := I.lstM hH
  obtain ⟨u, hu, ru⟩ := r.get hy
  have hy' : its.toArray[its.toArray.size - 1]? = some u := by
    show its.toArray[its.length - 1]? = some u
    rw [← Array.getElem?_toList, ← hl]
    exact hu
  refine call_meets F.slot_list_pop ⟨_, e, rfl⟩ F.entry_list_pop (F.args_list_pop_1 _) (MeetsSeq.list_pop_last l its.toArray n u hy' (by rw [List.size_toArray]; omega)) ⟨e, ?_⟩
  refine ⟨y, _, I.lset (its' := its.dropLast) hH e ?_ r.dropLast ?_, ru, q⟩
  · show its.toArray.eraseIdxIfInBounds (its.toArray.size - 1) = its.dropLast.toArray
    rw [List.size_toArray, List.eraseIdxIfInBounds_toArray, erase_last]
  · rw [List.length_dropLast]
    omega

def rPopAt : V → List V → Hp → VK → Prop := fun x vs H Q => ∃ l xs i k y, x = .ref l ∧ vs = [.int i] ∧ H l = some (.lst xs) ∧ -(2 ^ 63) ≤ i ∧ i < 2 ^ 63 ∧ seqIndex? i xs.length = some k ∧ xs[k]? = some y ∧ Q y (upd H l (.lst (xs.eraseIdx k)))
def rReverse : V → List V → Hp → VK → Prop := fun x vs H Q => ∃ l xs, x = .ref l ∧ vs = [] ∧ H l = some (.lst xs) ∧ Q .non (upd H l (.lst xs.reverse))
def rClear : V → List V → Hp → VK → Prop := fun x vs H Q => ∃ l xs, x = .ref l ∧ vs = [] ∧ H l = some (.lst xs) ∧ Q .non (upd H l (.lst []))
/-! ### list + list, list += list, list * int -/
def rCat : R2 := fun x y H Q => ∃ l b xs zs, x = .ref l ∧ y = .ref b ∧ H l = some (.lst xs) ∧ H b = some (.lst zs) ∧ xs.length + zs.length ≤ sizeLine ∧ ∀ p, H p = none → Q (.ref p) (upd H p (.lst (xs ++ zs)))
theorem op_cat : OpR X (binaryOp .Add) rCat := by
  intro pins s σ H x y v u Q I rx ry h
  obtain ⟨l, b, xs, zs, rfl, rfl, hH, hB, hz, q⟩ := h
  cases rx
  cases ry
  obtain ⟨z, its, n, r, hl, e⟩ := I.lstM hH
  obtain ⟨z2, its2, n2, r2, hl2, e2⟩ := I.lstM hB
  refine PySem.P.add_list e e2 ?_ (by rw [List.size_toArray, List.size_toArray]; omega)
  have ea : its.toArray ++ its2.toArray = (its ++ its2).toArray := by simp
  rw [ea]
  exact ⟨.ref _, _, I.lnew (t' := s.toks) (r.append r2) (by rw [List.length_append]; omega), rfl, q _ I.fresh⟩
/-- a list times an int (a negative one is nothing) -/
def rRep : R2 := fun x y H Q => ∃ l k xs, x = .ref l ∧ y = .int k ∧ H l = some (.lst xs) ∧ -(2 ^ 63) ≤ k ∧ k < 2 ^ 63 ∧ xs.length * k.toNat ≤ sizeLine ∧
  ∀ p, H p = none → Q (.ref p) (upd H p (.lst (List.replicate k.toNat xs).flatten))
theorem len_rep {α : Type} (xs : List α) (k : Nat) : (List.replicate k xs).flatten.length = k * xs.length := by
  induction k with
  | zero => simp
  | succ k ih => rw [List.replicate_succ, List.flatten_cons, List.length_append, ih, Nat.succ_mul, Nat.add_comm]
/-! ### del xs[i] -/
end

/-! ### xs[a:b] = ys -/
section
variable {prog : Program} {w : World} {A : Around} {E : Value → Shared → Prop} {s : Shared}
end

section
variable {X : Cx}
end
end L2

namespace Att
open PySem PySem.W PySem.Calls PyProof.Rows

/-! ### the script -/
theorem ints_of_wellAll {P : Params} {h : Heap} : ∀ (ns : List Int) (vs : List Value), WellAll P h vs (ns.map WData.int) → IntsAre vs ns := by
  intro ns
  induction ns with
  | nil =>
    intro vs w
    rw [List.map_nil] at w
    cases w
    exact .nil
  | cons n ns ih =>
    intro vs w
    rw [List.map_cons] at w
    cases w with
    | cons a b =>
      cases a
      exact .cons _ _ (ih _ b)

theorem script_of {l : OpenLaw} {n : Nat} (hn : l.most = some n) {P : Params} {h : Heap} {args : List WData} {vals : List Value}
    (hpre : l.row.toRowW.claim.pre args = true) (hwl : WellAll P h vals args) :
    ∃ a vs ns, vals = [Value.ref a] ∧ args = [WData.list (ns.map WData.int)] ∧ h.get? a = some { cls := .type "list", data := .seq vs.toArray } ∧ IntsAre vs ns ∧ ns.length ≤ n := by
  have hsh : WShape.hasAll [] args [.list .int] = true := (pre_splitW hpre).1
  have hc : l.pre.holds [] { args := args } = true := (pre_splitW hpre).2
  obtain ⟨d, r, rfl, h1, h2⟩ := hasAllW_cons hsh
  obtain rfl := hasAllW_nil h2
  obtain ⟨xs, rfl, h3⟩ := hasW_list h1
  obtain ⟨ns, rfl⟩ := items_int h3
  have hlen : ns.length ≤ n := by
    unfold OpenLaw.pre at hc
    have h4 : (WTm.not (.lt (.lit (.int (n : Int))) (.len (.arg 0)))).holds [] { args := [.list (ns.map .int)] } = true := by
      have h4 := (holds_andW hc).1
      rw [hn] at h4
      exact h4
    have h5 := condW_of h4 (w_not (w_lt w_lit (w_len_list (w_arg rfl))))
    rw [List.length_map] at h5
    refine Nat.le_of_not_lt fun q => ?_
    have q' : (n : Int) < ((ns.length : Nat) : Int) := by omega
    first
      | (rw [decide_eq_true q'] at h5; exact absurd h5 (by decide))
      | (simp at h5; omega)
  cases hwl with
  | cons w1 w2 =>
    cases w2
    cases w1 with
    | list ho hall => exact ⟨_, _, ns, rfl, rfl, ho, ints_of_wellAll ns _ hall, hlen⟩

theorem post_true (l : OpenLaw) (args : List WData) : l.row.toRowW.claim.post args (.bool true) args = true :=
  postW_of (r := l.row.toRowW) (X := (true == true))
    (show WShape.has [] (.bool true) .bool = true by first | rfl | decide | simp [WShape.has, WShape.arms, WShape.armsAll])
    (show (WTm.eq .res (.lit (.bool true))).value [] { args := args, res := some (.bool true), after := args } = some (.bool (true == true)) from w_eq_bool (w_res rfl) w_lit) rfl

/-! ### the attachment: holds_open's last premise (the goal 'hc' behind k_head) from a wpAny of the law's body -/
/-- the same from a codeAny of the CALL (for a layer whose function contracts speak of calls) -/
theorem attach_call {l : OpenLaw} {n : Nat} {q : Program} {loose : List Str} {XP : (Str → Option Value) → Heap → Prop} {YP : World → Heap → Prop} {d : DefRec}
    (hn : l.most = some n) (hdf : d.params.defaults = [])
    (call : ∀ (w : World) (s₀ s₁ : Shared) (mg mb : Str → Option Value) (fa : Addr) (o : Obj) (pm cd doc : Value) (a : Addr) (vs : List Value) (ns : List Int),
      Ground q loose [] XP w s₀ mg mb s₁.heap → YP w s₁.heap →
      s₁.heap.get? fa = some o → o.data = .func (docDef d.name d.params d.body d.scope pm cd doc) → s₁.heap.CodeRec cd d.name → mg d.name = some (.ref fa) →
      s₁.heap.get? a = some { cls := .type "list", data := .seq vs.toArray } → IntsAre vs ns → ns.length ≤ n → s₁.gens = #[] →
      codeAny (model l.prog w) callerA (.call (.ref fa) ⟨[.ref a], []⟩) (fun r s' => r = .ok (.ret (.bool true)) ∧ OldK s₁.heap s'.heap ∧ s'.os = s₁.os ∧ AllBare s'.gens) s₁) :
    WalkO q loose XP YP l.row.toRowW d [] (fun f vs => PySem.call f vs) := by
  intro w s₀ s₁ mg mb G Y fa o pm cd doc dV kV ho hd hcd hD hmg hg args vals as hpre hlay hrd hwl hlo
  obtain rfl : dV = .none := Dflts.none hD hdf
  obtain rfl : kV = .none := Dflts.noKw hD
  obtain ⟨a, vs, ns, rfl, rfl, hobj, hints, hlen⟩ := script_of hn hpre hwl
  refine enter_call (codeAny_mono (call w s₀ s₁ mg mb fa o pm cd doc a vs ns G Y ho (fd_plain hd) hcd hmg hobj hints hlen hg) fun r s' hq => ?_)
  obtain ⟨rfl, h2, h3, h4⟩ := hq
  exact ⟨.inl ⟨.bool true, .bool true, [], rfl, fun _ => rfl, .bool true, post_true l _, fun _ => ⟨List.Pairwise.nil, fun _ hm => (nomatch hm)⟩⟩, h2, h3, h4⟩

/-! ### rules over ANY heap (no ledger) from facts about the written part K: the library's own take a ledger (News) for what they write -/
section
variable {prog : Program} {w : World} {A : Around} {E : Value → Shared → Prop} {s : Shared} {K : Frag}

/-! the whole heap as the ledger: makes every rule that writes through a ledger a rule over any heap -/
def noObjs (h : Heap) : Heap := { h with objs := #[] }
def ledger (h : Heap) (L d : Addr) : List (Addr × Obj) := (List.range h.objs.size).filterMap fun a => if a = L ∨ a = d then none else (h.get? a).map fun o => (a, o)
end
end Att

namespace L2
open PySem PySem.Spec PyProof.Rows

theorem vals_ints : ∀ {vs : List Value} {ns : List Int}, IntsAre vs ns → Vals (ns.map V.int) vs
  | _, _, .nil => .nil
  | _, _, .cons n t h => .cons ⟨t, rfl⟩ (vals_ints h)

/-- nothing is tracked but the script, known to the object (or it is an object of the module) -/
def Only (H : Hp) : Prop := ∀ b, H b = none ∨ ∃ o xs, H b = some (.frz o (.lst xs))

/-- THE HEAD: the law's promise, at the heap behind the top. F, the promise of the law's def, may use that base is part of the heap (so K.In base, base.Ns mainGlobals mg stand in Mod) -/
theorem law_call {P : Program} {w : World} {K : PySem.W.Frag} {mg mb : Str → Option Value} {CX : CXT} {k : Nat} {fa a : Addr} {fd : FuncData} {x : Str} {sp : Sp} {s₁ : Shared} {vs : List Value} {ns : List Int}
    (KX : K.In s₁.heap) (hns : s₁.heap.Ns mainGlobals mg) (hb : s₁.heap.Ns builtinsNs mb) (hbb : ∀ x : Str, x ≠ "__name__" → mb x = bootBuiltins x) (hlim : s₁.heap.NoLimit) (hg : s₁.gens = #[])
    (ha : s₁.heap.get? a = some { cls := .type "list", data := .seq vs.toArray }) (hi : IntsAre vs ns) (hl : ns.length ≤ sizeLine) (hr : Room k callerA)
    (F : ∀ base : Heap, K.In base → base.Ns mainGlobals mg → FnOk P w K mg base CX k fa fd [x] sp) (hbind : ∀ (s : Shared) (u : Value), BindsTo s fd ⟨[u], []⟩ [(x, u)])
    (hsp : ∀ H : Hp, Only H → SqL K H a (ns.map V.int) → sp [.ref a] H (fun v _ => v = .bl true) fun _ _ _ => False)
    (hCX : ∀ H e s', CX [] H s₁ (fun _ _ _ => False) e s' → False) :
    codeAny (model P w) callerA (.call (.ref fa) ⟨[.ref a], []⟩) (fun r s' => r = .ok (.ret (.bool true)) ∧ OldK s₁.heap s'.heap ∧ s'.os = s₁.os ∧ AllBare s'.gens) s₁ := by
  have rv := vals_ints hi
  have lenV := hi.length
  -- from an abstract heap in which nothing but the script may be tracked
  have core : ∀ H : Hp, Only H → SqL K H a (ns.map V.int) → HOk P w H s₁.heap → (∀ b, H b ≠ none → b = a) → (H a ≠ none → K.lookup a = none) →
      codeAny (model P w) callerA (.call (.ref fa) ⟨[.ref a], []⟩) (fun r s' => r = .ok (.ret (.bool true)) ∧ OldK s₁.heap s'.heap ∧ s'.os = s₁.os ∧ AllBare s'.gens) s₁ := by
    intro H hO hS hok hA hK
    have base_of : ∀ {b : Addr} {o : Obj}, s₁.heap.get? b = some o → H b = none → (hidT s₁.heap H).get? b = some o := fun e n => hidT_get e n
    have noA : ∀ {b : Addr} {o : Obj} {es : Array DictEntry} {ep : Nat}, s₁.heap.get? b = some o → o.data = .dict es ep → H b = none := fun {b o es ep} e d => by
      cases q : H b with
      | none => rfl
      | some u =>
        have e' : b = a := hA b (by rw [q]; simp)
        subst e'
        rw [ha] at e; cases e
        have d' : Data.seq vs.toArray _ = Data.dict es ep := d
        cases d'
    have nsK : ∀ {b : Addr} {m : Str → Option Value}, s₁.heap.Ns b m → (hidT s₁.heap H).Ns b m := fun {b m} ⟨o, es, ep, e, d, r⟩ => ⟨o, es, ep, base_of e (noA e d), d, r⟩
    have hKb : K.In (hidT s₁.heap H) := fun b o e => base_of (KX b o e) (by
      cases q : H b with
      | none => rfl
      | some u =>
        have e' : b = a := hA b (by rw [q]; simp)
        subst e'
        rw [hK (by rw [q]; simp)] at e; cases e)
    have hM : Mod K mg (hidT s₁.heap H) := ⟨hKb, nsK hns, ⟨mb, nsK hb, hbb⟩, let ⟨mc, h1, h2⟩ := hlim; ⟨mc, nsK h1, h2⟩⟩
    have e0 : Env0 P w K mg (hidT s₁.heap H) callerA [] s₁ H := ⟨rfl, hM, fun b o e => of_hidT e, Nat.le_of_eq (hidT_size _ _), trivial, fun b hb => absurd (show b ∈ ([] : List Addr) from hb) (by simp), hok, .of_eq hg⟩
    refine codeAny_mono ((F _ hKb (nsK hns)).run callerA [] s₁ H ⟨[.ref a], []⟩ [.ref a] [.ref a] _ _ hr e0 (hbind s₁ (.ref a)) (.cons rfl .nil) (hsp H hO hS)) fun r s' h => ?_
    cases r with
    | error e => exact (hCX H e s' h).elim
    | ok fl =>
      cases fl with
      | next => exact False.elim h
      | brk => exact False.elim h
      | cont => exact False.elim h
      | ret u =>
        obtain ⟨v, H', os, bare, un, hok', r', q⟩ := h
        have q' : v = .bl true := q
        subst q'
        obtain rfl : u = Value.bool true := r'
        refine ⟨rfl, OldK.of_keep fun b o e => ?_, os, bare⟩
        cases q : H b with
        | none => exact un.keep b o e q (by intro z; exact absurd (show b ∈ ([] : List Addr) from z) (by simp)) (by simp)
        | some u =>
          rcases hO b with z | ⟨ob, xs, z⟩
          · rw [q] at z; cases z
          · have z2 := un.frzs b ob _ z
            obtain ⟨e1, _⟩ := hok b _ z
            obtain ⟨e2, _⟩ := hok' b _ z2
            rw [e] at e1; cases e1
            exact e2
  cases hk : K.lookup a with
  | some o =>
    -- the script is one of the module's own objects
    have e := KX a o hk
    rw [ha] at e
    cases e
    refine core (fun _ => none) (fun _ => .inl rfl) (.inr ⟨_, vs.toArray, _, hk, rfl, rfl, rfl, by rw [List.size_toArray, lenV]; exact hl, by simpa using rv⟩) (fun b u z => by have z' : (none : Option HO) = some u := z; cases z') (fun b z => absurd rfl z) fun z => absurd rfl z
  | none =>
    refine core (fun b => if b = a then some (.frz { cls := .type "list", data := .seq vs.toArray } (.lst (ns.map V.int))) else none) (fun b => ?_) (.inl (.inr ⟨{ cls := .type "list", data := .seq vs.toArray }, if_pos rfl⟩)) (fun b u z => ?_) (fun b z => ?_) fun _ => hk
    · by_cases hb : b = a
      · exact .inr ⟨_, _, if_pos hb⟩
      · exact .inl (if_neg hb)
    · by_cases hb : b = a
      · have z' := (if_pos hb).symm.trans z
        cases z'
        subst hb
        exact ⟨ha, by rw [List.length_map]; exact hl, vs, _, rv, ha⟩
      · have z' := (if_neg hb).symm.trans z
        cases z'
    · by_cases hb : b = a
      · exact hb
      · exact absurd (if_neg hb) z
end L2

namespace L2
open PySem PySem.Spec PyProof.Rows

abbrev KOf {K : PySem.W.Frag} {h : Heap} (_ : K.In h) : PySem.W.Frag := K

/-- the goal that k_head leaves (case hc), from the law's promise. F gives the function object fd (K's own) once, then the promise over every base -/
theorem walk_of {l : PySem.W.OpenLaw} {n k : Nat} {q : Program} {loose : List Str} {XP : (Str → Option Value) → Heap → Prop} {YP : World → Heap → Prop} {d : DefRec} {K : Params → PySem.W.Frag} {CX : World → CXT} {sp : World → Sp} {x : Str}
    (hn : l.most = some n) (hn2 : n ≤ sizeLine) (hdf : d.params.defaults = []) (hr : Room k callerA)
    (hY : ∀ (w : World) (h : Heap), YP w h → (K w.params).In h)
    (F : ∀ (w : World) (mg : Str → Option Value) (fa : Addr) (h : Heap), (K w.params).In h → h.Ns mainGlobals mg → mg d.name = some (.ref fa) →
      ∃ fd : FuncData, (∀ (s : Shared) (u : Value), BindsTo s fd ⟨[u], []⟩ [(x, u)]) ∧
        ∀ base : Heap, (K w.params).In base → base.Ns mainGlobals mg → FnOk l.prog w (K w.params) mg base (CX w) k fa fd [x] (sp w))
    (hsp : ∀ (w : World) (H : Hp) (a : Addr) (ns : List Int), ns.length ≤ n → Only H → SqL (K w.params) H a (ns.map V.int) → sp w [.ref a] H (fun v _ => v = .bl true) fun _ _ _ => False)
    (hCX : ∀ (w : World) (H : Hp) (s : Shared) (e : Value) (s' : Shared), CX w [] H s (fun _ _ _ => False) e s' → False) :
    PySem.W.WalkO q loose XP YP l.row.toRowW d [] (fun f vs => PySem.call f vs) := by
  refine Att.attach_call hn hdf fun w s₀ s₁ mg mb fa o pm cd doc a vs ns G Y ho hd hcd hmg hobj hints hlen hg => ?_
  have KX := hY w _ Y
  obtain ⟨fd, hb, hF⟩ := F w mg fa _ KX G.T.g hmg
  exact law_call KX G.T.g G.T.b G.T.builtins G.T.nolimit hg hobj hints (Nat.le_trans hlen hn2) hr hF hb (fun H hO hS => hsp w H a ns hlen hO hS) fun H e s' => hCX w H s₁ e s'
end L2


/-! SHORT WORDS over the layer: a def of the text, its body, what a loop and a test want. -/
namespace L2
open PySem PySem.Spec PyProof.Rows

/-! ### the text by places -/
/-- the j-th statement of a class's body -/
def inClass (s : Stmt) (j : Nat) : Stmt := match s with
  | .ClassDef _ _ _ body _ _ _ _ _ _ _ => body.getD j (.Pass ⟨0, 0, 0, 0⟩)
  | _ => .Pass ⟨0, 0, 0, 0⟩
def defArgs (s : Stmt) : Arguments := match s with
  | .FunctionDef _ a _ _ _ _ _ _ _ _ => a
  | _ => { posonlyargs := [], args := [], vararg := none, kwonlyargs := [], kw_defaults := [], kwarg := none, defaults := [] }
def defBody (s : Stmt) : List Stmt := match s with
  | .FunctionDef _ _ b _ _ _ _ _ _ _ => b
  | _ => []
def defScope (s : Stmt) : Scope := match s with
  | .FunctionDef _ _ _ _ _ _ sc _ _ _ => sc
  | _ => { kind := .function, names := [], isGenerator := false, isCoroutine := false }

/-! ### no exception leaves a def -/
abbrev CX0 : CXT := fun _ _ _ _ _ _ => False
abbrev E0 : XK := fun _ _ _ => False
theorem pass0 {X : Cx} : Passes CX0 X E0 := fun _ _ _ _ _ _ _ h => h.elim

/-! ### a def (or method) of the text as it stands behind the top -/
structure Fun (K : PySem.W.Frag) (x qual : Str) (st : Stmt) (f : Addr) (fd : FuncData) : Prop where
  ex : ∃ (oc : Value) (od : Option Addr) (kV doc pm : Value) (an : Option Addr) (cdv ct : Value) (osl : Array (Option Value)),
    fd = PySem.W.fnOf x qual (defArgs st) (defBody st) (defScope st) .none kV doc pm an cdv ct ∧ K.lookup f = some ⟨oc, od, .func fd, osl⟩ ∧ PySem.W.codeIn K cdv qual = true
  kp : PySem.W.keepIn K (.ref f) = true
section
variable {P : Program} {w : World} {K : PySem.W.Frag} {mg : Str → Option Value} {base : Heap}
/-- THE RULE for a def: its body as a term of rules, and the reading of that term -/
theorem Fun.ok {x qual : Str} {st : Stmt} {f : Addr} {fd : FuncData} {N ps : List Str} {k : Nat} {sp : Sp} (F : Fun K x qual st f fd) (S : FnScope N ps (defScope st)) (len : ∀ vs H Q E, sp vs H Q E → vs.length = ps.length)
    (hbody : ∀ (cdv : Value) (A : Around) (outer : List Env) (s : Shared) (H : Hp) (vs : List V) (Q : VK) (E : XK), Room k (A.deeper (envOfC qual (defScope st) s.heap.objs.size f cdv)) → sp vs H Q E →
      ∃ t, PSs (cxOf CX0 P w K mg base N qual (defScope st) f cdv A outer s H E).nox (defBody st) t ∧ t { nx := fun _ H' => Q .non H', rt := Q } (start N vs) H) : FnOk P w K mg base CX0 (k + 1) f fd ps sp := by
  obtain ⟨oc, od, kV, doc, pm, an, cdv, ct, osl, rfl, lk, hcd⟩ := F.ex
  refine fn_of lk hcd S len fun A outer s H vs Q E hr hsp => ?_
  obtain ⟨t, h, q⟩ := hbody cdv A outer s H vs Q E hr hsp
  exact ⟨t, h.nox, q⟩
/-- how its arguments bind (no defaults): h is «fun _ _ _ _ _ _ us hl => match us, hl with | [_, _], _ => rfl», one _ a parameter -/
theorem Fun.binds {x qual : Str} {st : Stmt} {f : Addr} {fd : FuncData} {ps : List Str} (F : Fun K x qual st f fd)
    (h : ∀ (kV doc pm : Value) (an : Option Addr) (cdv ct : Value) (us : List Value), us.length = ps.length → bindArgs (PySem.W.fnOf x qual (defArgs st) (defBody st) (defScope st) .none kV doc pm an cdv ct) ⟨us, []⟩ = pure (ps.zip us)) : Binds K fd ps [] := by
  obtain ⟨oc, od, kV, doc, pm, an, cdv, ct, osl, rfl, lk, hcd⟩ := F.ex
  exact .all (h kV doc pm an cdv ct)
theorem fun_mk {x qual : Str} {st : Stmt} {f : Addr} {oc : Value} {od an : Option Addr} {osl : Array (Option Value)} {kV doc pm cdv ct : Value} (l : K.lookup f = some ⟨oc, od, .func (PySem.W.fnOf x qual (defArgs st) (defBody st) (defScope st) .none kV doc pm an cdv ct), osl⟩)
    (c : PySem.W.codeIn K cdv qual = true) (k : PySem.W.keepIn K (.ref f) = true) : Fun K x qual st f (PySem.W.fnOf x qual (defArgs st) (defBody st) (defScope st) .none kV doc pm an cdv ct) := ⟨⟨oc, od, kV, doc, pm, an, cdv, ct, osl, rfl, l, c⟩, k⟩
end
theorem hu_of {A : Around} {k : Nat} (hr : Room k A) : A.units + 1 < cLine := Nat.lt_of_le_of_lt (Nat.add_le_add_left (by decide : 1 ≤ 64) _) hr.units
theorem small1000 {n : Nat} (h : n ≤ 1000) : n < sizeLine := Nat.lt_of_le_of_lt h (by decide)

/-! ### expressions in short: the name that stands in the i-th slot -/
section
variable {X : Cx}
theorem pv (i : Nat) {x : Str} {pos : Pos} (hN : X.N[i]? = some x := by rfl) (hv : Vis X.env.scope x := by first | exact Or.inl rfl | exact Or.inr (Or.inl rfl) | exact Or.inr (Or.inr rfl)) (hd : (x == ("__debug__" : Str)) = false := by decide)
    (hcd : (x == ("__classdict__" : Str)) = false := by decide) : PE X (.Name x pos) (tVar i) := pe_var hN hv hd hcd
end

/-! ### tests -/
theorem iteF {A B : Prop} (h : B) : if false = true then A else B := by
  rw [if_neg Bool.false_ne_true]
  exact h
theorem iteT {A B : Prop} (h : A) : if true = true then A else B := by
  rw [if_pos rfl]
  exact h
theorem ite2 {c A B : Prop} [Decidable c] (h1 : c → A) (h2 : ¬ c → B) : if c then A else B := by
  by_cases h : c
  · rw [if_pos h]
    exact h1 h
  · rw [if_neg h]
    exact h2 h
theorem iteNS {c A B : Prop} [Decidable c] (hc : c) (h : B) : if (!decide c) = true then A else B := by
  rw [decide_eq_true hc]
  exact iteF h

/-! ### heaps -/
/-- all that was tracked is as it was -/
def Same (H H' : Hp) : Prop := ∀ b o, H b = some o → H' b = some o
theorem Same.refl (H : Hp) : Same H H := fun _ _ h => h
theorem Same.trans {H H1 H2 : Hp} (a : Same H H1) (b : Same H1 H2) : Same H H2 := fun c o h => b c o (a c o h)
theorem Same.free {H H' : Hp} (e : Same H H') {l : Addr} (h : H' l = Option.none) : H l = Option.none := by
  cases q : H l with
  | none => rfl
  | some o =>
    rw [e l o q] at h
    cases h
theorem Same.seq {K : PySem.W.Frag} {H H' : Hp} {a : Addr} {xs : List V} (e : Same H H') (h : SqL K H a xs) : SqL K H' a xs := by
  rcases h with (h | ⟨o, h⟩) | h
  · exact .inl (.inl (e _ _ h))
  · exact .inl (.inr ⟨o, e _ _ h⟩)
  · exact .inr h

end L2
/-! a comprehension over the hand layer -/
namespace L2
open PySem PySem.Spec PyProof.Rows

/-! ### the cells of a block -/
theorem closure_names {env : Env} : ∀ (names : List (Str × NameKind)) (acc : List (Str × Addr)), (∀ y ∈ names, y.2 = .free → ∃ c, env.cells.lookup y.1 = some c) →
    ∃ cl, (forIn names acc (fun (x : Str × NameKind) (cs : List (Str × Addr)) => if (x.2 == NameKind.free) = true then (do let c ← cellOf env x.1; pure (ForInStep.yield ((x.1, c) :: cs))) else pure (ForInStep.yield cs)) : Sem (List (Str × Addr))) = pure cl ∧
      (∀ x c, cl.lookup x = some c → env.cells.lookup x = some c ∨ acc.lookup x = some c) ∧ (∀ x c, acc.lookup x = some c → ∃ c', cl.lookup x = some c') ∧ ∀ y ∈ names, y.2 = .free → ∃ c, cl.lookup y.1 = some c
  | [], acc, _ => ⟨acc, rfl, fun _ _ h => .inr h, fun _ c h => ⟨c, h⟩, fun _ h => nomatch h⟩
  | (n, k) :: r, acc, h => by
    rw [List.forIn_cons]
    by_cases hk : k = .free
    · subst hk
      obtain ⟨c, hc⟩ := h (n, .free) List.mem_cons_self rfl
      obtain ⟨cl, h1, h2, h3, h4⟩ := closure_names r ((n, c) :: acc) fun y hy => h y (List.mem_cons_of_mem _ hy)
      refine ⟨cl, ?_, fun x d e => ?_, fun x d e => ?_, fun y hy e => ?_⟩
      · have e1 : cellOf env n = pure c := by unfold cellOf; rw [hc]
        simp only [beq_self_eq_true, if_true, e1, pure_bind]
        exact h1
      · rcases h2 x d e with z | z
        · exact .inl z
        · rw [List.lookup_cons] at z
          split at z
          · rename_i hx
            cases z
            have : x = n := eq_of_beq hx
            subst this
            exact .inl hc
          · exact .inr z
      · refine h3 x (if x == n then c else d) ?_
        rw [List.lookup_cons]
        cases hx : x == n with
        | true => simp [hx]
        | false => simp [hx, e]
      · rcases List.mem_cons.mp hy with z | z
        · subst z
          exact h3 n c (by simp [List.lookup_cons])
        · exact h4 y z e
    · have hb : (k == NameKind.free) = false := by simpa using hk
      obtain ⟨cl, h1, h2, h3, h4⟩ := closure_names r acc fun y hy => h y (List.mem_cons_of_mem _ hy)
      refine ⟨cl, ?_, h2, h3, fun y hy e => ?_⟩
      · simp only [hb, Bool.false_eq_true, if_false, pure_bind]
        exact h1
      · rcases List.mem_cons.mp hy with z | z
        · subst z
          exact absurd e hk
        · exact h4 y z e
theorem closure_ok {scope : Scope} {env : Env} (h : ∀ y ∈ scope.names, y.2 = .free → ∃ c, env.cells.lookup y.1 = some c) :
    ∃ cl, closureFor scope env = pure cl ∧ (∀ x c, cl.lookup x = some c → env.cells.lookup x = some c) ∧ ∀ y ∈ scope.names, y.2 = .free → ∃ c, cl.lookup y.1 = some c := by
  obtain ⟨cl, h1, h2, h3, h4⟩ := closure_names scope.names [] h
  refine ⟨cl, ?_, fun x c e => (h2 x c e).elim id fun z => (by cases z), h4⟩
  unfold closureFor
  refine Eq.trans ?_ h1
  refine Eq.trans (bind_pure _) ?_
  rfl

theorem lookup_relabel_free {env : Env} : ∀ {names : List (Str × NameKind)} {x : Str}, names.lookup x = some .free →
    (names.map fun (n, k) => if (k == NameKind.free && env.scope.kind == .function && env.kindOf n == some .cell) then (n, NameKind.cell) else (n, k)).lookup x = some .cell ∨
    (names.map fun (n, k) => if (k == NameKind.free && env.scope.kind == .function && env.kindOf n == some .cell) then (n, NameKind.cell) else (n, k)).lookup x = some .free
  | [], _, h => by simp at h
  | (n, k) :: r, x, h => by
    have ih := @lookup_relabel_free env r x
    show List.lookup x ((if (k == NameKind.free && env.scope.kind == .function && env.kindOf n == some .cell) = true then (n, NameKind.cell) else (n, k)) :: _) = _ ∨ List.lookup x ((if (k == NameKind.free && env.scope.kind == .function && env.kindOf n == some .cell) = true then (n, NameKind.cell) else (n, k)) :: _) = _
    by_cases hc : (k == NameKind.free && env.scope.kind == .function && env.kindOf n == some .cell) = true
    · rw [if_pos hc]
      cases hx : x == n with
      | true => simp only [List.lookup_cons, hx]; exact .inl trivial
      | false =>
        simp only [List.lookup_cons, hx] at h ⊢
        exact ih h
    · rw [if_neg hc]
      cases hx : x == n with
      | true =>
        simp only [List.lookup_cons, hx] at h ⊢
        exact .inr h
      | false =>
        simp only [List.lookup_cons, hx] at h ⊢
        exact ih h
theorem mem_relabel {env : Env} {names : List (Str × NameKind)} (hn : ∀ y ∈ names, y.2 ≠ .cell) {x : Str} {k : NameKind} (hk : k = .cell ∨ k = .free)
    (h : (names.map fun (n, k) => if (k == NameKind.free && env.scope.kind == .function && env.kindOf n == some .cell) then (n, NameKind.cell) else (n, k)).lookup x = some k) : (x, NameKind.free) ∈ names := by
  obtain ⟨⟨n, k'⟩, hm, e⟩ := List.mem_map.mp (PySem.mem_of_lookup h)
  simp only at e
  split at e
  · rename_i hc
    rw [Bool.and_eq_true, Bool.and_eq_true] at hc
    have : k' = .free := eq_of_beq hc.1.1
    subst this
    injection e with e1 _
    subst e1
    exact hm
  · injection e with e1 e2
    subst e1 e2
    rcases hk with z | z
    · exact absurd z (hn _ hm)
    · subst z; exact hm

/-! ### the block's context -/
/-- the context of a comprehension's block -/
def cxComp (X : Cx) (N : List Str) (scope : Scope) (cl : List (Str × Addr)) (C : Addr) (fp : List Addr) (s : Shared) (H : Hp) : Cx where
  prog := X.prog
  w := X.w
  K := X.K
  mg := X.mg
  base := X.base
  A := X.A
  N := N
  s₀ := s
  H₀ := H
  env := compEnvC scope cl C X.env
  outer := X.stack
  stack := X.stack
  ex := fp
  fn := fun _ => false
  calm := X.calm
  pn := []
  xe := fun _ _ => False
/-- the names of a block: own of them its own, then names of the def around it (its slots fr) -/
structure CompScope (sc : Scope) (XN N : List Str) (own : Nat) (fr : List Nat) (scope : Scope) : Prop where
  kind : scope.kind = .function
  nocell : ∀ y ∈ scope.names, y.2 ≠ .cell
  free : ∀ y ∈ scope.names, y.2 = .free → sc.names.lookup y.1 = some .cell ∨ sc.names.lookup y.1 = some .free
  loc : ∀ y ∈ scope.names, y.2 = .local → scope.names.lookup y.1 = some .local
  names : N.drop own = fr.filterMap fun i => XN[i]?
  frl : ∀ i ∈ fr, i < XN.length
  len : own ≤ N.length
  vis : ∀ x ∈ N.drop own, scope.names.lookup x = some .free
def σf (fr : List Nat) (σ : St) : St := fr.map fun i => σ.getD i none
def σc (own : Nat) (fr : List Nat) (σ : St) : St := List.replicate own none ++ σf fr σ

section
variable {X : Cx} {pins : List (Addr × Obj)} {σ : St} {H : Hp} {s : Shared} {N : List Str} {own : Nat} {fr : List Nat} {scope : Scope}

theorem filterMap_all {XN : List Str} : ∀ {fr : List Nat}, (∀ i ∈ fr, i < XN.length) → ∀ (j : Nat), (fr.filterMap fun i => XN[i]?)[j]? = (fr[j]?).bind fun i => XN[i]?
  | [], _, j => by simp
  | i :: r, h, j => by
    have hi : i < XN.length := h i List.mem_cons_self
    rw [List.filterMap_cons, List.getElem?_eq_getElem hi]
    cases j with
    | zero => simp [hi]
    | succ j => simpa using filterMap_all (fun k hk => h k (List.mem_cons_of_mem _ hk)) j

theorem inv_comp {cl : List (Str × Addr)} {fp : List Addr} {h' : Heap} (I : Inv X pins σ H s) (S : CompScope X.env.scope X.N N own fr scope) (hcl : ∀ x c, cl.lookup x = some c → X.env.cells.lookup x = some c)
    (hcf : ∀ y ∈ scope.names, y.2 = .free → ∃ c, cl.lookup y.1 = some c) (hfp : ∀ b ∈ fp, FpOk X pins H b) (hfo : ∀ b ∈ fp, ∃ o, s.heap.get? b = some o)
    (hns : h'.Ns s.heap.objs.size fun _ => none) (hk : ∀ b o, s.heap.get? b = some o → h'.get? b = some o) :
    Inv (cxComp X N scope cl s.heap.objs.size fp s H) [] (σc own fr σ) H { s with heap := h' } := by
  have kindE : ∀ x, (Env.kindOf (compEnvC scope cl s.heap.objs.size X.env) x) = (relabel scope X.env).names.lookup x := fun x => rfl
  have memF : ∀ x, (Env.kindOf (compEnvC scope cl s.heap.objs.size X.env) x = some .cell ∨ Env.kindOf (compEnvC scope cl s.heap.objs.size X.env) x = some .free) → (x, NameKind.free) ∈ scope.names := fun x hx => by
    rcases hx with z | z
    · exact mem_relabel (env := X.env) S.nocell (.inl rfl) z
    · exact mem_relabel (env := X.env) S.nocell (.inr rfl) z
  refine ⟨⟨I.ok.mod, S.kind, I.ok.glob, I.ok.blt, Nat.le_refl _, fun x y c h1 h2 => I.ok.inj x y c (hcl x c h1) (hcl y c h2), fun x hx => hcf (x, .free) (memF x hx) rfl, fun x c h => absurd (show false = true from h) (by decide), I.ok.hd, I.ok.frames, .inl rfl, fun b hb => ?_, I.bs, Nat.le_trans I.ok.bsz I.sz, fun b o e hb => ?_, fun b hb z => ?_, I.stack, I.stkFree⟩,
    rfl, I.bare, Un.kept hk, ⟨_, hns, fun i x v e1 e2 e3 => ?_⟩, fun x c e => ?_, I.hok.fresh (Nat.le_refl _), fun x c e => I.freeC x c (hcl x c e), fun p hp => absurd (show p ∈ ([] : List (Addr × Obj)) from hp) (by simp), I.hok.kept hk, ?_⟩
  · obtain ⟨o, ho⟩ := hfo b hb
    exact ⟨Nat.ne_of_lt (Heap.lt_size ho), fun x c e => (hfp b hb).2.2.2.2.1 x c (hcl x c e)⟩
  · rcases (hfp b hb).2.2.2.1 with z | z
    · exact I.ok.noex b o e z
    · exact absurd (Nat.lt_of_lt_of_le (Heap.lt_size (I.ok.bs b o e).1) z) (Nat.lt_irrefl _)
  · rcases List.mem_cons.mp (I.stkSub b z) with q | q
    · exact (hfp b hb).2.1 q
    · exact (hfp b hb).2.2.1 q
  · have hi : own ≤ i := by
      rcases Nat.lt_or_ge i own with z | z
      · have e2' : (σc own fr σ)[i]? = some (some v) := e2
        unfold σc at e2'
        rw [List.getElem?_append_left (by simpa using z), List.getElem?_replicate] at e2'
        split at e2' <;> cases e2'
      · exact z
    have e2' : (σf fr σ)[i - own]? = some (some v) := by
      have e2' : (σc own fr σ)[i]? = some (some v) := e2
      unfold σc at e2'
      rw [List.getElem?_append_right (by simpa using hi)] at e2'
      simpa using e2'
    have e1' : (N.drop own)[i - own]? = some x := by
      have e1' : N[i]? = some x := e1
      rw [List.getElem?_drop]
      rw [show own + (i - own) = i by omega]
      exact e1'
    have hv : scope.names.lookup x = some .free := S.vis x (List.mem_of_getElem? e1')
    have hx : X.env.scope.names.lookup x = some .cell ∨ X.env.scope.names.lookup x = some .free := S.free (x, .free) (PySem.mem_of_lookup hv) rfl
    rw [S.names, filterMap_all S.frl] at e1'
    unfold σf at e2'
    rw [List.getElem?_map] at e2'
    cases q : fr[i - own]? with
    | none => rw [q] at e2'; cases e2'
    | some j =>
      rw [q] at e1' e2'
      have e1'' : X.N[j]? = some x := e1'
      have e2'' : σ.getD j none = some v := Option.some.inj e2'
      have e3' : σ[j]? = some (some v) := by
        rw [List.getD_eq_getElem?_getD] at e2''
        cases z : σ[j]? with
        | none => rw [z] at e2''; cases e2''
        | some y => rw [z] at e2''; exact congrArg some e2''
      obtain ⟨m, hn, hl⟩ := I.loc
      obtain ⟨u, r, l⟩ := hl j x v e1'' e3' (.inr hx)
      refine ⟨u, r, .inr ⟨lookup_relabel_free (env := X.env) hv, ?_⟩⟩
      rcases l with ⟨k, _⟩ | ⟨_, c, hc, z⟩
      · have k' : X.env.scope.names.lookup x = some .local := k
        rw [k'] at hx
        rcases hx with z | z <;> cases z
      · obtain ⟨c', hc'⟩ := hcf (x, .free) (PySem.mem_of_lookup hv) rfl
        have := hcl x c' hc'
        rw [hc] at this
        cases this
        exact ⟨c, hc', z.keeps hk⟩
  · obtain ⟨v, z⟩ := I.cell x c (hcl x c e)
    exact ⟨v, z.keeps hk⟩
  · show (σc own fr σ).length = N.length
    unfold σc σf
    have h1 := congrArg List.length S.names
    have h2 : (fr.filterMap fun i => X.N[i]?).length = fr.length := by
      have : ∀ (l : List Nat), (∀ i ∈ l, i < X.N.length) → (l.filterMap fun i => X.N[i]?).length = l.length := by
        intro l
        induction l with
        | nil => intro _; rfl
        | cons i r ih =>
          intro h
          rw [List.filterMap_cons, List.getElem?_eq_getElem (h i List.mem_cons_self)]
          simp [ih fun k hk => h k (List.mem_cons_of_mem _ hk)]
      exact this fr S.frl
    rw [List.length_drop, h2] at h1
    rw [List.length_append, List.length_replicate, List.length_map]
    have := S.len
    omega
end

section
variable {prog : Program} {w : World} {A : Around} {R : Result → Shared → Prop} {s : Shared}
theorem compLoop_any {elt target iter : Expr} {ifs : List Expr} {scope : Scope} {pos : Pos} {it acc : Value} {env : Env} (I : Nat → Shared → Prop)
    (turn : ∀ n s, I n s → wpAny (model prog w) A (pyNext it) (fun r s₁ => match r with
      | none => R (.ok .next) s₁
      | some v => wpAny (model prog w) A (letOwnedTupleGo target it v) (fun _ s' => wpAny (model prog w) A (assign target env v) (fun _ s₂ =>
          wpAny (model prog w) A (forIn ifs true fun c r => if r = true then do let ok ← isTrue c env (eval c env); pure (ForInStep.yield ok) else pure (ForInStep.yield r)) (fun ok s₃ =>
            if ok = true then wpAny (model prog w) A (eval elt env) (fun x s₄ =>
              wpAny (model prog w) A (call (.builtin "list.append") [acc, x]) (fun _ s₅ => ∃ m, m < n ∧ I m s₅) (fun _ _ => False) s₄) (fun _ _ => False) s₃
            else ∃ m, m < n ∧ I m s₃) (fun _ _ => False) s₂) (fun _ _ => False) s') (fun _ _ => False) s₁) (fun _ _ => False) s)
    (n : Nat) (h : I n s) : codeAny (model prog w) A (.compLoop (.ListComp elt [⟨target, iter, ifs, 0⟩] scope pos) 0 it acc env) R s := by
  refine codeAny_loop rfl I (fun n s hI => ?_) n h
  show wpAny _ A ((compTurn (.ListComp elt [⟨target, iter, ifs, 0⟩] scope pos) 0 it acc env).onRaise (fun x => do noteFrame x env; theTreesLotGoes x)) _ _ s
  refine wpAny_noted ?_
  rw [compTurn_list]
  refine wpAny_bind (wpAny_standAt (wpAny_bind (wpAny_mono (turn n s hI) (fun r s₁ h₁ => ?_) fun _ _ z => False.elim z)))
  cases r with
  | none => exact wpAny_pure h₁
  | some v =>
    refine wpAny_bind (wpAny_mono h₁ (fun _ s' h' => ?_) fun _ _ z => False.elim z)
    refine wpAny_bind (wpAny_mono h' (fun _ s₂ h₂ => wpAny_bind (wpAny_mono h₂ (fun ok s₃ h₃ => ?_) fun _ _ z => False.elim z)) fun _ _ z => False.elim z)
    cases ok with
    | false => exact wpAny_pure ⟨rfl, h₃⟩
    | true =>
      exact wpAny_bind (wpAny_bind (wpAny_mono h₃ (fun x s₄ h₄ => wpAny_bind (wpAny_mono h₄ (fun _ s₅ h₅ => wpAny_pure (wpAny_pure ⟨rfl, h₅⟩)) fun _ _ z => False.elim z)) fun _ _ z => False.elim z))
end

/-- what a comprehension wants of its turns: the new list at a, its items ys so far -/
def CompW (J : It) (a : Addr) (own : Nat) (fr : List Nat) (g : TG) (tf : TT) (te : TE) (σ : St) (H1 : Hp) (Q : VK) : Prop :=
  ∃ (n : Nat) (Pv : Nat → List V → Hp → Prop), Pv 0 [] (upd H1 a (.lst [])) ∧ ∀ i ys H2, i ≤ n → H2 a = some (.lst ys) → Pv i ys H2 →
    (J.stop i H2 ∧ Q (.ref a) H2) ∨ (i < n ∧ J.go i H2 ∧ ∀ x H3, J.yld i H2 x H3 → g x (σc own fr σ) H3 fun σ4 H4 => (∃ ow, ow.length = own ∧ σ4 = ow ++ σf fr σ) ∧ tf σ4 H4 fun b H5 =>
      if b = true then te σ4 H5 fun y H6 => H6 a = some (.lst ys) ∧ ys.length < sizeLine ∧ Pv (i + 1) (ys ++ [y]) (upd H6 a (.lst (ys ++ [y])))
      else H5 a = some (.lst ys) ∧ Pv (i + 1) ys H5)

/-- the tests of a block -/
def PFs (X : Cx) (ifs : List Expr) (t : TT) : Prop :=
  ∀ (pins : List (Addr × Obj)) (s : Shared) (σ : St) (H : Hp) (Q : Bool → Hp → Prop), Inv X pins σ H s → t σ H Q →
    wpAny (model X.prog X.w) X.A (forIn ifs true fun c r => if r = true then do let ok ← isTrue c X.env (eval c X.env); pure (ForInStep.yield ok) else pure (ForInStep.yield r)) (TP X pins σ Q) X.xe s
def tNoIf : TT := fun _ H Q => Q true H
theorem pf_nil {X : Cx} : PFs X [] tNoIf := fun pins s σ H Q I h => wpAny_tests_nil ⟨H, I, h⟩
theorem pf_one {X : Cx} {c : Expr} {t : TT} (h : PT X c t) : PFs X [c] t := fun pins s σ H Q I hw => wpAny_tests_one (h pins s σ H Q I hw)

section
variable {X : Cx} {pins : List (Addr × Obj)} {σ : St} {H : Hp} {s : Shared} {N : List Str} {own : Nat} {fr : List Nat} {scope : Scope} {cl : List (Str × Addr)} {elt tg iter : Expr} {ifs : List Expr} {pos : Pos}
  {it : Addr} {fp : List Addr} {tn : Nat → Heap → Prop} {J : It} {g : TG} {tf : TT} {te : TE} {Q : VK} {E : Value → Shared → Prop}

theorem comp_block {RR : Value → Addr → Result → Shared → Prop} (hc : X.calm = true) (S : CompScope X.env.scope X.N N own fr scope) (hcl : ∀ x c, cl.lookup x = some c → X.env.cells.lookup x = some c)
    (hcf : ∀ y ∈ scope.names, y.2 = .free → ∃ c, cl.lookup y.1 = some c)
    (hg : ∀ C s H, PG (cxComp X N scope cl C fp s H) tg g) (hf : ∀ C s H, PFs (cxComp X N scope cl C fp s H) ifs tf) (he : ∀ C s H, PE (cxComp X N scope cl C fp s H) elt te)
    (I : Inv X pins σ H s) (T : Turn X.prog X.w X.K tg J fp it tn) (st : tn 0 s.heap) (hfp : ∀ b ∈ fp, FpOk X pins H b) (hw : ∀ a, H a = none → CompW J a own fr g tf te σ H Q)
    (hRR : ∀ a C s' H', Inv X pins σ H' s' → Q (.ref a) H' → FpOk X pins H' C → (∃ m, s'.heap.Ns C m) → RR (.ref a) C (.ok .next) s') :
    wpAny (model X.prog X.w) X.A (newList []) (fun acc s₃ => wpAny (model X.prog X.w) X.A (newFunctionEnv scope X.env.globals cl [] X.env.qual none .none (some X.env)) (fun cenv s₄ =>
      codeAny (model X.prog X.w) X.A (.compStart (.ListComp elt [⟨tg, iter, ifs, 0⟩] scope pos) 0 (.ref it) acc { cenv with scope := relabel scope X.env }) (RR acc cenv.locals) s₄) E s₃) E s := by
  refine wpAny_newObj_type (wpAny_newFunctionEnv S.nocell (by intro y hy; simp at hy) (fun h₁ hns₁ hsb₁ => ?_) S.kind)
  dsimp only at hns₁ hsb₁ ⊢
  have I3 : Inv X pins σ (upd H s.heap.objs.size (.lst [])) { s with heap := s.heap.push { cls := .type "list", dict := none, data := .seq ([] : List Value).toArray } } := I.lnew (ys := []) (t' := s.toks) .nil (Nat.zero_le _)
  have hfo : ∀ b ∈ fp, ∃ o, s.heap.get? b = some o := fun b hb => let ⟨o, ho, _⟩ := T.obj _ _ st b hb; ⟨o, ho⟩
  have hlt : ∀ b ∈ fp, b < s.heap.objs.size := fun b hb => let ⟨o, ho⟩ := hfo b hb; Heap.lt_size ho
  have fp3 : ∀ b ∈ fp, FpOk X pins (upd H s.heap.objs.size (.lst [])) b := fun b hb => ⟨by rw [upd_ne (Nat.ne_of_lt (hlt b hb))]; exact (hfp b hb).1, (hfp b hb).2⟩
  obtain ⟨n0, W, w0, turn⟩ := hw s.heap.objs.size I.fresh
  generalize hs3 : ({ s with heap := s.heap.push { cls := .type "list", dict := none, data := .seq ([] : List Value).toArray } } : Shared) = s3 at I3
  have eh : s3.heap = s.heap.push { cls := .type "list", dict := none, data := .seq ([] : List Value).toArray } := by rw [← hs3]
  rw [← eh] at hns₁ hsb₁ ⊢
  have hk : ∀ b o, s3.heap.get? b = some o → h₁.get? b = some o := fun b o e => hsb₁.extBut b o (Nat.ne_of_lt (Heap.lt_size e)) (Heap.get?_push_of_some _ e)
  have hk0 : ∀ b o, s.heap.get? b = some o → s3.heap.get? b = some o := fun b o e => by rw [eh]; exact Heap.get?_push_of_some _ e
  have J0 : Inv (cxComp X N scope cl s3.heap.objs.size fp s3 (upd H s.heap.objs.size (.lst []))) [] (σc own fr σ) (upd H s.heap.objs.size (.lst [])) { s3 with heap := h₁ } :=
    inv_comp I3 S hcl hcf fp3 (fun b hb => let ⟨o, ho⟩ := hfo b hb; ⟨o, hk0 b o ho⟩) hns₁ hk
  have st0 : tn 0 h₁ := T.keep _ _ _ st fun b _ o e => hk b o (hk0 b o e)
  have stat : ∀ {H' : Hp}, (∀ b ∈ fp, H' b = none) → ∀ b ∈ fp, FpOk (cxComp X N scope cl s3.heap.objs.size fp s3 (upd H s.heap.objs.size (.lst []))) [] H' b := fun hn b hb =>
    ⟨hn b hb, (J0.ok.exf b hb).1, J0.ok.exfs b hb, .inl hb, (J0.ok.exf b hb).2, fun p hp => absurd (show p ∈ ([] : List (Addr × Obj)) from hp) (by simp)⟩
  have loop : ∀ s4 : Shared, s4 = { s3 with heap := h₁ } → codeAny (model X.prog X.w) X.A (.compLoop (.ListComp elt [⟨tg, iter, ifs, 0⟩] scope pos) 0 (.ref it) (.ref s.heap.objs.size) (compEnvC scope cl s3.heap.objs.size X.env))
      (RR (.ref s.heap.objs.size) s3.heap.objs.size) s4 := by
    rintro s4 rfl
    refine compLoop_any (fun n s' => ∃ i ow H' ys, Inv (cxComp X N scope cl s3.heap.objs.size fp s3 (upd H s.heap.objs.size (.lst []))) [] (ow ++ σf fr σ) H' s' ∧ ow.length = own ∧ tn i s'.heap ∧ (∀ b ∈ fp, H' b = none) ∧ H' s.heap.objs.size = some (.lst ys) ∧ (n = n0 - i ∧ i ≤ n0) ∧ W i ys H') ?_ n0
      ⟨0, List.replicate own none, _, [], J0, by simp, st0, fun b hb => (fp3 b hb).1, upd_same, ⟨rfl, Nat.zero_le _⟩, w0⟩
    rintro n s5 ⟨i, ow, H5, ys, I5, hlo, st5, fr5, ha5, ⟨rfl, hi5⟩, w5⟩
    rcases turn i ys H5 hi5 ha5 w5 with ⟨stop, qn⟩ | ⟨hin, go, step⟩
    · refine thn (T.done (cxComp X N scope cl s3.heap.objs.size fp s3 (upd H s.heap.objs.size (.lst []))) rfl rfl rfl hc i [] s5 _ H5 (fun _ _ => False) I5 (stat fr5) st5 stop) fun r s6 ⟨hr, I6⟩ => ?_
      subst hr
      have IX : Inv X pins σ H5 s6 := I3.call' I6.os I6.base I6.hok I6.bare fun b hb => let ⟨_, f2, _, f4, f5, f6⟩ := fp3 b hb; ⟨f4, f2, f5, f6⟩
      refine hRR _ _ s6 H5 IX qn (I3.fpOk (Nat.le_refl _) I6.free) ?_
      obtain ⟨m, hn, _⟩ := I6.loc
      exact ⟨m, hn⟩
    · refine thn (T.item (cxComp X N scope cl s3.heap.objs.size fp s3 (upd H s.heap.objs.size (.lst []))) rfl rfl rfl hc i [] s5 _ H5 (fun _ _ => False) I5 (stat fr5) st5 go) fun r s6 ⟨u, hr, h6⟩ => ?_
      subst hr
      refine thn h6 fun _ s7 ⟨x, H7, I7, r7, y7, st7, fr7⟩ => ?_
      have I7' := (I7.pinned (stat fr7) (T.obj _ _ st7)).weak (σ' := σc own fr σ) (by unfold σc; simp [hlo]) (fun j v e => by
        unfold σc at e
        rcases Nat.lt_or_ge j own with z | z
        · rw [List.getElem?_append_left (by simpa using z), List.getElem?_replicate] at e
          split at e <;> cases e
        · rw [List.getElem?_append_right (by simpa using z)] at e
          rw [List.getElem?_append_right (by rw [hlo]; exact z), hlo]
          simpa using e)
      refine thn (hg _ _ _ _ s7 _ H7 x u _ I7' r7 (step x H7 y7)) fun _ s8 ⟨σ8, H8, I8, ⟨ow8, hl8, e8⟩, q8⟩ => ?_
      refine thn (hf _ _ _ _ s8 _ H8 _ I8 q8) fun ok s9 ⟨H9, I9, q9⟩ => ?_
      have again : ∀ {H' : Hp} {s' : Shared}, Inv (cxComp X N scope cl s3.heap.objs.size fp s3 (upd H s.heap.objs.size (.lst []))) ([] ++ pinsAt fp s7.heap) σ8 H' s' → ∀ {ys' : List V}, H' s.heap.objs.size = some (.lst ys') → W (i + 1) ys' H' →
          ∃ m, m < n0 - i ∧ ∃ i ow H' ys, Inv (cxComp X N scope cl s3.heap.objs.size fp s3 (upd H s.heap.objs.size (.lst []))) [] (ow ++ σf fr σ) H' s' ∧ ow.length = own ∧ tn i s'.heap ∧ (∀ b ∈ fp, H' b = none) ∧ H' s.heap.objs.size = some (.lst ys) ∧ (m = n0 - i ∧ i ≤ n0) ∧ W i ys H' := fun {H' s'} I' {ys'} ha hw' => by
        refine ⟨n0 - (i + 1), by omega, i + 1, ow8, H', ys', e8 ▸ I'.unpinned, hl8, T.keep _ _ _ st7 fun b hb o e => (I'.pin (b, o) (List.mem_append_right _ (List.mem_append_right _ (mem_pinsAt hb e)))).1, fun b hb => ?_, ha, ⟨rfl, hin⟩, hw'⟩
        obtain ⟨o, e, _⟩ := T.obj _ _ st7 b hb
        exact (I'.pin (b, o) (List.mem_append_right _ (List.mem_append_right _ (mem_pinsAt hb e)))).2.1
      cases ok with
      | false =>
        have q9' : H9 s.heap.objs.size = some (.lst ys) ∧ W (i + 1) ys H9 := by simpa using q9
        obtain ⟨ha, hw'⟩ := q9'
        show if false = true then _ else _
        rw [if_neg (by decide)]
        exact again I9 ha hw'
      | true =>
        rw [if_pos rfl] at q9
        show if true = true then _ else _
        rw [if_pos rfl]
        refine thn (he _ _ _ _ s9 _ H9 _ I9 q9) fun y s10 ⟨v10, H10, I10, r10, ha10, hz10, hw'⟩ => ?_
        refine thn (mt_append _ s10 _ H10 (.ref s.heap.objs.size) [v10] (.ref s.heap.objs.size) [y] (fun _ H' => H' = upd H10 s.heap.objs.size (.lst (ys ++ [v10]))) I10 rfl (.cons r10 .nil) ⟨_, ys, v10, rfl, rfl, ha10, hz10, rfl⟩) fun _ s11 ⟨_, H11, I11, _, e11⟩ => ?_
        subst e11
        exact again I11 upd_same hw'
  exact codeAny_compStart_list (loop _ (by rw [← hs3]; rfl)) (T.self X.A 0 _ _ _ st0 (loop _ (by rw [← hs3]; rfl)))
end

def tComp (own : Nat) (fr : List Nat) (wi : TI) (g : TG) (tf : TT) (te : TE) : TE := fun σ H Q => wi σ H fun J H1 => ∀ a, H1 a = none → CompW J a own fr g tf te σ H1 Q
section
variable {X : Cx} {sc : Scope} {XN N : List Str} {own : Nat} {fr : List Nat} {scope : Scope} {elt tg iter : Expr} {ifs : List Expr} {pos : Pos} {wi : TI} {g : TG} {tf : TT} {te : TE}
theorem pe_comp (hc : X.calm = true) (S : CompScope sc XN N own fr scope) (hi : PI X tg iter wi)
    (hg : ∀ cl C fp s H, PG (cxComp X N scope cl C fp s H) tg g) (hf : ∀ cl C fp s H, PFs (cxComp X N scope cl C fp s H) ifs tf) (he : ∀ cl C fp s H, PE (cxComp X N scope cl C fp s H) elt te)
    (hs : ∀ x, foldedSetIterable iter X.env x = pure x := by intro _; rfl) (hsc : X.env.scope = sc := by rfl) (hxn : X.N = XN := by rfl) : PE X (.ListComp elt [⟨tg, iter, ifs, 0⟩] scope pos) (tComp own fr wi g tf te) := by
  subst hsc hxn
  intro pins s σ H Q I h
  obtain ⟨cl, c1, c2, c3⟩ := closure_ok (scope := scope) (env := X.env) fun y hy e => I.ok.has y.1 (S.free y hy e)
  rw [eval_ListComp]
  refine wpAny_comprehension_free (use := none) rfl hs c1 S.kind S.loc (thn (hi pins s σ H _ I h) fun xv s1 h1 => thn h1 fun itv s2 h2 => ?_)
  obtain ⟨it, fp, tn, J, H2, e, I2, T, st2, f2, hw⟩ := h2
  subst e
  refine comp_block hc S c2 c3 (fun C s H => hg cl C fp s H) (fun C s H => hf cl C fp s H) (fun C s H => he cl C fp s H) I2 T st2 f2 hw fun a C s' H' I' q fC ⟨m, hn⟩ => ?_
  refine ⟨m, hn, fun h' hs' => ?_⟩
  obtain ⟨f0, f1, _, f3, f4, f5⟩ := fC
  exact ⟨.ref a, H', I'.turned (t' := s'.toks) (fun b o hb e => hs'.extBut b o hb e) f0 f1 f3 f4 f5, rfl, q⟩
/-- name = [.. for ..] -/
theorem ps_setc {i : Nat} {x : Str} {pos' spos : Pos} (hc : X.calm = true) (hN : X.N.Nodup) (hx : X.N[i]? = some x) (hl : Loc X.env.scope x) (S : CompScope sc XN N own fr scope) (hi : PI X tg iter wi)
    (hg : ∀ cl C fp s H, PG (cxComp X N scope cl C fp s H) tg g) (hf : ∀ cl C fp s H, PFs (cxComp X N scope cl C fp s H) ifs tf) (he : ∀ cl C fp s H, PE (cxComp X N scope cl C fp s H) elt te)
    (hsw : swapsWith (.ListComp elt [⟨tg, iter, ifs, 0⟩] scope pos) (some (.Name x pos')) spos.line X.env = pure true := by rfl)
    (hf' : X.fn x = true ∨ X.env.scope.names.lookup x = some .local := by first | exact .inl rfl | exact .inr rfl | assumption)
    (hs : ∀ x, foldedSetIterable iter X.env x = pure x := by intro _; rfl) (hsc : X.env.scope = sc := by rfl) (hxn : X.N = XN := by rfl) : PS X (.Assign [.Name x pos'] (.ListComp elt [⟨tg, iter, ifs, 0⟩] scope pos) spos) (tAsg (tComp own fr wi g tf te) (gName i)) := by
  subst hsc hxn
  intro pins s σ H D I h
  obtain ⟨cl, c1, c2, c3⟩ := closure_ok (scope := scope) (env := X.env) fun y hy e => I.ok.has y.1 (S.free y hy e)
  rw [exec_Assign_Name_used _ _ _ _ hsw]
  refine wpAny_bind (wpAny_standAt (wpAny_bind ?_))
  show wpAny _ X.A (do let _ ← comprehension (.ListComp elt [⟨tg, iter, ifs, 0⟩] scope pos) scope X.env _ (newList []) false (eval iter X.env) (some (assign (.Name x pos') X.env))) _ _ s
  refine wpAny_bind (wpAny_mono (wpAny_comprehension_free (use := some (assign (.Name x pos') X.env)) (Q := fun _ s' => SP X pins D .next s') rfl hs c1 S.kind S.loc
    (thn (hi pins s σ H _ I h) fun xv s1 h1 => thn h1 fun itv s2 h2 => ?_)) (fun _ s' hq => wpAny_pure (wpAny_pure hq)) fun _ _ e => e)
  obtain ⟨it, fp, tn, J, H2, e, I2, T, st2, f2, hw⟩ := h2
  subst e
  refine comp_block hc S c2 c3 (fun C s H => hg cl C fp s H) (fun C s H => hf cl C fp s H) (fun C s H => he cl C fp s H) I2 T st2 f2 hw fun a C s' H' I' q fC ⟨m, hn⟩ => ?_
  obtain ⟨f0, f1, f2', f3, f4, f5⟩ := fC
  show wpAny _ _ (assign (.Name x pos') X.env (.ref a)) _ _ _
  refine wpAny_assign_Name (store_ok2 I' hN hx hl (show RelV (.ref a) (.ref a) from rfl) (fun s2 J2 ⟨b, hb, hb'⟩ => ?_) hf')
  have hbC : C ≠ b := by
    rcases hb' with z | z
    · rw [z]; exact f1
    · exact fun e => f4 _ _ z e.symm
  refine ⟨m, hn.sameBut hb hbC, fun h' hs' => ?_⟩
  exact ⟨_, H', J2.turned (t' := s2.toks) (fun b o hb e => hs'.extBut b o hb e) f0 f1 f3 f4 f5, q⟩
end

/-! ### the forms one uses -/
theorem comp_list {K : PySem.W.Frag} {l a : Addr} {xs : List V} {own : Nat} {fr : List Nat} {g : TG} {tf : TT} {te : TE} {σ : St} {H1 : Hp} {Q : VK} (Pv : Nat → List V → Hp → Prop)
    (h0 : Pv 0 [] (upd H1 a (.lst []))) (hl : ∀ i ys H, i ≤ xs.length → H a = some (.lst ys) → Pv i ys H → SqL K H l xs)
    (hs : ∀ i x ys H3, xs[i]? = some x → H3 a = some (.lst ys) → Pv i ys H3 → g x (σc own fr σ) H3 fun σ4 H4 => (∃ ow, ow.length = own ∧ σ4 = ow ++ σf fr σ) ∧ tf σ4 H4 fun b H5 =>
      if b = true then te σ4 H5 fun y H6 => H6 a = some (.lst ys) ∧ ys.length < sizeLine ∧ Pv (i + 1) (ys ++ [y]) (upd H6 a (.lst (ys ++ [y]))) else H5 a = some (.lst ys) ∧ Pv (i + 1) ys H5)
    (hd : ∀ ys H, H a = some (.lst ys) → Pv xs.length ys H → Q (.ref a) H) : CompW (Itl K l) a own fr g tf te σ H1 Q := by
  refine ⟨xs.length, Pv, h0, fun i ys H hi ha p => ?_⟩
  have q := hl i ys H hi ha p
  by_cases hlt : i < xs.length
  · refine .inr ⟨hlt, ⟨xs, xs[i], q, by simp [hlt]⟩, fun x H' y => ?_⟩
    obtain ⟨e, y⟩ := y
    subst e
    exact hs i x ys _ (y xs q) ha p
  · have e : i = xs.length := by omega
    subst e
    exact .inl ⟨⟨xs, q, Nat.le_refl _⟩, hd ys H ha p⟩
theorem comp_tup {K : PySem.W.Frag} {l a : Addr} {xs : List V} {own : Nat} {fr : List Nat} {g : TG} {tf : TT} {te : TE} {σ : St} {H1 : Hp} {Q : VK} (Pv : Nat → List V → Hp → Prop)
    (h0 : Pv 0 [] (upd H1 a (.lst []))) (hl : ∀ i ys H, i ≤ xs.length → H a = some (.lst ys) → Pv i ys H → SqT K H l xs)
    (hs : ∀ i x ys H3, xs[i]? = some x → H3 a = some (.lst ys) → Pv i ys H3 → g x (σc own fr σ) H3 fun σ4 H4 => (∃ ow, ow.length = own ∧ σ4 = ow ++ σf fr σ) ∧ tf σ4 H4 fun b H5 =>
      if b = true then te σ4 H5 fun y H6 => H6 a = some (.lst ys) ∧ ys.length < sizeLine ∧ Pv (i + 1) (ys ++ [y]) (upd H6 a (.lst (ys ++ [y]))) else H5 a = some (.lst ys) ∧ Pv (i + 1) ys H5)
    (hd : ∀ ys H, H a = some (.lst ys) → Pv xs.length ys H → Q (.ref a) H) : CompW (Itt K l) a own fr g tf te σ H1 Q := by
  refine ⟨xs.length, Pv, h0, fun i ys H hi ha p => ?_⟩
  have q := hl i ys H hi ha p
  by_cases hlt : i < xs.length
  · refine .inr ⟨hlt, ⟨xs, xs[i], q, by simp [hlt]⟩, fun x H' y => ?_⟩
    obtain ⟨e, y⟩ := y
    subst e
    exact hs i x ys _ (y xs q) ha p
  · have e : i = xs.length := by omega
    subst e
    exact .inl ⟨⟨xs, q, Nat.le_refl _⟩, hd ys H ha p⟩
theorem comp_range {lo : Int} {n : Nat} {a : Addr} {own : Nat} {fr : List Nat} {g : TG} {tf : TT} {te : TE} {σ : St} {H1 : Hp} {Q : VK} (Pv : Nat → List V → Hp → Prop)
    (h0 : Pv 0 [] (upd H1 a (.lst [])))
    (hs : ∀ i ys H3, i < n → H3 a = some (.lst ys) → Pv i ys H3 → g (.int (lo + i)) (σc own fr σ) H3 fun σ4 H4 => (∃ ow, ow.length = own ∧ σ4 = ow ++ σf fr σ) ∧ tf σ4 H4 fun b H5 =>
      if b = true then te σ4 H5 fun y H6 => H6 a = some (.lst ys) ∧ ys.length < sizeLine ∧ Pv (i + 1) (ys ++ [y]) (upd H6 a (.lst (ys ++ [y]))) else H5 a = some (.lst ys) ∧ Pv (i + 1) ys H5)
    (hd : ∀ ys H, H a = some (.lst ys) → Pv n ys H → Q (.ref a) H) : CompW (Itr lo n) a own fr g tf te σ H1 Q := by
  refine ⟨n, Pv, h0, fun i ys H hi ha p => ?_⟩
  by_cases hlt : i < n
  · refine .inr ⟨hlt, hlt, fun x H' y => ?_⟩
    obtain ⟨e, y⟩ := y
    subst e y
    exact hs i ys _ hlt ha p
  · have e : i = n := by omega
    subst e
    exact .inl ⟨Nat.le_refl _, hd ys H ha p⟩
end L2
/-! further words over the hand layer: isinstance, sum, all, any, == of lists, [::-1], is True, // of any size -/
namespace L2
open PySem PySem.Spec PyProof.Rows
section
variable {X : Cx}

/-! ### isinstance -/
def TyV (K : PySem.W.Frag) (T : String) (x : V) (H : Hp) (b : Bool) : Prop := match x with
  | .non => b = false
  | .bl _ => b = (T == "bool" || T == "int")
  | .int _ => b = (T == "int")
  | .str _ => b = (T == "str")
  | .ref a => (∃ xs, SqL K H a xs ∧ b = (T == "list")) ∨ (∃ xs, SqT K H a xs ∧ b = (T == "tuple")) ∨ (∃ kvs, H a = some (.dK kvs) ∧ b = (T == "dict"))
  | _ => False
/-- the tuple (list, tuple), known to the object -/
def ltObj : Obj := { cls := .type "tuple", data := .seq [Value.type "list", Value.type "tuple"].toArray }
def ltO : HO := .frz ltObj (.tup [.ty "list", .ty "tuple"])
def LtV (K : PySem.W.Frag) (x : V) (H : Hp) (b : Bool) : Prop := match x with
  | .non => b = false
  | .bl _ => b = false
  | .int _ => b = false
  | .str _ => b = false
  | .ref a => (∃ xs, SqL K H a xs ∧ b = true) ∨ (∃ xs, SqT K H a xs ∧ b = true) ∨ (∃ kvs, H a = some (.dK kvs) ∧ b = false)
  | _ => False
/-! ### sum, all, any -/
theorem call_sumL (hc : X.calm = true) : CallR X (.builtin "sum") (fun xs H Q => ∃ (p : Addr) (ns : List Int), xs = [.ref p] ∧ SqL X.K H p (ns.map V.int) ∧ Q (.int ns.sum) H) := by
  intro pins s σ H xs us Q I r h
  obtain ⟨p, ns, rfl, hq, q⟩ := h
  obtain ⟨u, rfl, rx⟩ := vals1 r
  cases rx
  obtain ⟨its, rv, pl, hz⟩ := I.list hq
  have hi : IntsAre its ns := intsAre_of rv
  have hall := hi.allInts
  have e0 := hi.numsOf
  obtain ⟨xs, ex⟩ := hall.items
  have e1 : numsOf (intItems xs).toList = ns := by rw [← ex]; exact e0
  rw [nums_intItems] at e1
  have hl := pl.isList
  rw [ex] at hl
  refine sum_intListG (I.ok.hd hc) hl fun h' tk t' hk => ⟨.int ns.sum, H, I.kept hk, ⟨t', ?_⟩, q⟩
  rw [preSum_eq, List.take_of_length_le (by simp), e1]
theorem truth_bools {prog : Program} {w : World} {A : Around} {bs : List Bool} {its : List Value} (rv : Vals (bs.map V.bl) its) : TruthOf prog w A (fun i v => its.toArray[i]? = some v) fun i => bs.getD i false := by
  intro i v s Q E hP hQ
  have hi : its[i]? = some v := by simpa using hP
  have hl := rv.length
  rw [List.length_map] at hl
  have hlt : i < bs.length := by rw [hl]; exact (List.getElem?_eq_some_iff.mp hi).1
  obtain ⟨u, hu, ru⟩ := rv.get (i := i) (x := V.bl (bs.getD i false)) (by rw [List.getElem?_map, List.getD_eq_getElem?_getD, List.getElem?_eq_getElem hlt]; rfl)
  rw [hi] at hu
  cases hu
  cases ru
  exact wpAny_truthy_bool hQ
theorem range_all (bs : List Bool) : (List.range bs.length).all (fun i => bs.getD i false) = bs.all id := by
  induction bs with
  | nil => rfl
  | cons b r ih =>
    rw [List.length_cons, List.range_succ_eq_map, List.all_cons, List.all_cons, List.all_map]
    rw [← ih]
    rfl
theorem range_any (bs : List Bool) : (List.range bs.length).any (fun i => bs.getD i false) = bs.any id := by
  induction bs with
  | nil => rfl
  | cons b r ih =>
    rw [List.length_cons, List.range_succ_eq_map, List.any_cons, List.any_cons, List.any_map]
    rw [← ih]
    rfl
theorem call_allL (hc : X.calm = true) : CallR X (.builtin "all") (fun xs H Q => ∃ (p : Addr) (bs : List Bool), xs = [.ref p] ∧ SqL X.K H p (bs.map V.bl) ∧ Q (.bl (bs.all id)) H) := by
  intro pins s σ H xs us Q I r h
  obtain ⟨p, bs, rfl, hq, q⟩ := h
  obtain ⟨u, rfl, rx⟩ := vals1 r
  cases rx
  obtain ⟨its, rv, pl, hz⟩ := I.list hq
  have hlt : p < s.heap.objs.size := by obtain ⟨_, e, _⟩ := pl.isList; exact Heap.lt_size e
  have hll := rv.length
  rw [List.length_map] at hll
  refine call_all_walk (wpAny_pyIter_list pl.isList ?_)
  refine ⟨s.heap.objs.size, _, _, _, _, _, fun i => bs.getD i false, rfl, Walks.list (A := X.A.in1) (I.ok.hd hc) _ p (Nat.ne_of_lt hlt) its.toArray, ⟨⟨_, Heap.get?_push_size _ rfl, rfl, rfl⟩, pl.isList.at fun o e => Heap.get?_push_of_some _ e⟩, truth_bools rv, fun h' tk hk => ?_⟩
  refine ⟨.bl (bs.all id), H, I.kept fun b o e => hk b o (by simpa using Nat.ne_of_lt (Heap.lt_size e)) (Heap.get?_push_of_some _ e), ?_, q⟩
  show Value.bool _ = Value.bool _
  rw [List.size_toArray, ← hll, range_all]
theorem call_anyL (hc : X.calm = true) : CallR X (.builtin "any") (fun xs H Q => ∃ (p : Addr) (bs : List Bool), xs = [.ref p] ∧ SqL X.K H p (bs.map V.bl) ∧ Q (.bl (bs.any id)) H) := by
  intro pins s σ H xs us Q I r h
  obtain ⟨p, bs, rfl, hq, q⟩ := h
  obtain ⟨u, rfl, rx⟩ := vals1 r
  cases rx
  obtain ⟨its, rv, pl, hz⟩ := I.list hq
  have hlt : p < s.heap.objs.size := by obtain ⟨_, e, _⟩ := pl.isList; exact Heap.lt_size e
  have hll := rv.length
  rw [List.length_map] at hll
  refine call_any_walk (wpAny_pyIter_list pl.isList ?_)
  refine ⟨s.heap.objs.size, _, _, _, _, _, fun i => bs.getD i false, rfl, Walks.list (A := X.A.in1) (I.ok.hd hc) _ p (Nat.ne_of_lt hlt) its.toArray, ⟨⟨_, Heap.get?_push_size _ rfl, rfl, rfl⟩, pl.isList.at fun o e => Heap.get?_push_of_some _ e⟩, truth_bools rv, fun h' tk hk => ?_⟩
  refine ⟨.bl (bs.any id), H, I.kept fun b o e => hk b o (by simpa using Nat.ne_of_lt (Heap.lt_size e)) (Heap.get?_push_of_some _ e), ?_, q⟩
  show Value.bool _ = Value.bool _
  rw [List.size_toArray, ← hll, range_any]

/-! ### == and != of lists and tuples of flat items -/
def eqVs : List V → List V → Bool
  | [], [] => true
  | x :: xs, y :: ys => eqV x y && eqVs xs ys
  | _, _ => false
theorem eqVs_len : ∀ {xs ys : List V}, xs.length ≠ ys.length → eqVs xs ys = false
  | [], [], h => absurd rfl h
  | [], _ :: _, _ => rfl
  | _ :: _, [], _ => rfl
  | x :: xs, y :: ys, h => by
    have := eqVs_len (xs := xs) (ys := ys) (fun e => h (by simp [e]))
    simp [eqVs, this]
theorem eqVs_range : ∀ {xs ys : List V}, xs.length = ys.length → (List.range xs.length).all (fun i => eqV (xs.getD i .non) (ys.getD i .non)) = eqVs xs ys
  | [], [], _ => rfl
  | [], _ :: _, h => by simp at h
  | _ :: _, [], h => by simp at h
  | x :: xs, y :: ys, h => by
    have ih := eqVs_range (xs := xs) (ys := ys) (by simpa using h)
    rw [List.length_cons, List.range_succ_eq_map, List.all_cons, List.all_map]
    show (eqV x y && (List.range xs.length).all fun i => eqV (xs.getD i .non) (ys.getD i .non)) = (eqV x y && eqVs xs ys)
    rw [ih]
theorem vals_at {A : Around} {s : Shared} {xs ys : List V} {us ws : List Value} (r : Vals xs us) (r' : Vals ys ws) (fx : xs.all flatV = true) (fy : ys.all flatV = true) (j : Nat) (h1 : j < us.toArray.size) (h2 : j < ws.toArray.size) :
    SeqAt.EqAt A s us.toArray[j] ws.toArray[j] (eqV (xs.getD j .non) (ys.getD j .non)) := by
  have l1 := r.length
  have l2 := r'.length
  have k1 : j < xs.length := by rw [l1]; simpa using h1
  have k2 : j < ys.length := by rw [l2]; simpa using h2
  obtain ⟨u, hu, ru⟩ := r.get (i := j) (x := xs.getD j .non) (by rw [List.getD_eq_getElem?_getD, List.getElem?_eq_getElem k1]; rfl)
  obtain ⟨w', hw, rw'⟩ := r'.get (i := j) (x := ys.getD j .non) (by rw [List.getD_eq_getElem?_getD, List.getElem?_eq_getElem k2]; rfl)
  have e1 : us.toArray[j] = u := by
    obtain ⟨_, e⟩ := List.getElem?_eq_some_iff.mp hu
    simpa using e
  have e2 : ws.toArray[j] = w' := by
    obtain ⟨_, e⟩ := List.getElem?_eq_some_iff.mp hw
    simpa using e
  rw [e1, e2]
  refine eqAt_V ru rw' (List.all_eq_true.mp fx _ ?_) (List.all_eq_true.mp fy _ ?_)
  · rw [List.getD_eq_getElem?_getD, List.getElem?_eq_getElem k1]; exact List.getElem_mem k1
  · rw [List.getD_eq_getElem?_getD, List.getElem?_eq_getElem k2]; exact List.getElem_mem k2
def rEqL (K : PySem.W.Frag) (neg : Bool) : R2 := fun x y H Q => ∃ p q xs ys, x = .ref p ∧ y = .ref q ∧ SqL K H p xs ∧ SqL K H q ys ∧ xs.all flatV = true ∧ ys.all flatV = true ∧ Q (.bl (if neg then !eqVs xs ys else eqVs xs ys)) H
theorem op_eqL (hu : X.A.units < cLine) : OpR X (compareOp .Eq) (rEqL X.K false) := by
  intro pins s σ H x y v u Q I rx ry h
  obtain ⟨p, q, xs, ys, rfl, rfl, hx, hy, fx, fy, k⟩ := h
  cases rx
  cases ry
  obtain ⟨us, r1, p1, z1⟩ := I.list hx
  obtain ⟨ws, r2, p2, z2⟩ := I.list hy
  by_cases hl : xs.length = ys.length
  · refine SeqAt.eq_listAt p1.isList p2.isList (by simp [← r1.length, ← r2.length, hl]) hu (fun j h1 h2 => vals_at r1 r2 fx fy j h1 h2) ⟨.bl (eqVs xs ys), H, I, ?_, k⟩
    show Value.bool _ = Value.bool _
    rw [List.size_toArray, ← r1.length, eqVs_range hl]
  · refine SeqAt.eq_list_lengthsAt p1.isList p2.isList (by simp [← r1.length, ← r2.length, hl]) hu ⟨.bl (eqVs xs ys), H, I, ?_, k⟩
    rw [eqVs_len hl]; rfl
theorem op_neL (hu : X.A.units < cLine) : OpR X (compareOp .NotEq) (rEqL X.K true) := by
  intro pins s σ H x y v u Q I rx ry h
  obtain ⟨p, q, xs, ys, rfl, rfl, hx, hy, fx, fy, k⟩ := h
  cases rx
  cases ry
  obtain ⟨us, r1, p1, z1⟩ := I.list hx
  obtain ⟨ws, r2, p2, z2⟩ := I.list hy
  by_cases hl : xs.length = ys.length
  · refine SeqAt.RcNeAt.lists p1.isList p2.isList (by simp [← r1.length, ← r2.length, hl]) hu (fun j h1 h2 => vals_at r1 r2 fx fy j h1 h2) _ _ _ _ ⟨.bl (!eqVs xs ys), H, I, ?_, k⟩
    show Value.bool _ = Value.bool _
    rw [List.size_toArray, ← r1.length, eqVs_range hl]
  · refine SeqAt.RcNeAt.lists_lengths p1.isList p2.isList (by simp [← r1.length, ← r2.length, hl]) hu _ _ _ _ ⟨.bl (!eqVs xs ys), H, I, ?_, k⟩
    rw [eqVs_len hl]; rfl

/-! ### xs[::-1] -/
theorem sliceRev (n : Nat) : sliceRange (sliceBounds none none (some (-1)) n).1 (sliceBounds none none (some (-1)) n).2.1 (sliceBounds none none (some (-1)) n).2.2 = (List.range n).map fun k => n - 1 - k := by
  have e : sliceBounds none none (some (-1)) n = ((n : Int) - 1, -1, -1) := by simp [sliceBounds]
  rw [e]
  unfold sliceRange
  simp only [show ¬ ((-1 : Int) > 0) by decide, if_false]
  by_cases hn : n = 0
  · subst hn; simp
  · have h1 : (n : Int) - 1 > -1 := by omega
    rw [if_pos h1]
    have h2 : (((n : Int) - 1 - -1 - -1 - 1) / (- -1)).toNat = n := by
      rw [show (n : Int) - 1 - -1 - -1 - 1 = n by omega, show (- -1 : Int) = 1 by decide, Int.ediv_one]
      exact Int.toNat_natCast n
    rw [h2]
    refine List.map_congr_left fun k hk => ?_
    have := List.mem_range.mp hk
    omega
theorem fm_congr {α β : Type} {f g : α → Option β} : ∀ {l : List α}, (∀ x ∈ l, f x = g x) → l.filterMap f = l.filterMap g
  | [], _ => rfl
  | x :: r, h => by rw [List.filterMap_cons, List.filterMap_cons, h x List.mem_cons_self, fm_congr fun y hy => h y (List.mem_cons_of_mem _ hy)]
theorem pick_rev' {α : Type} : ∀ zs : List α, (List.range zs.length).filterMap (fun k => zs.reverse[zs.length - 1 - k]?) = zs
  | [] => rfl
  | z :: r => by
    rw [List.length_cons, List.range_succ_eq_map, List.filterMap_cons, List.filterMap_map]
    have h0 : (z :: r).reverse[r.length + 1 - 1 - 0]? = some z := by simp
    rw [h0]
    have h1 : List.filterMap ((fun k => (z :: r).reverse[r.length + 1 - 1 - k]?) ∘ Nat.succ) (List.range r.length) = List.filterMap (fun k => r.reverse[r.length - 1 - k]?) (List.range r.length) := by
      apply fm_congr
      intro k hk
      have hk := List.mem_range.mp hk
      show (z :: r).reverse[r.length + 1 - 1 - (k + 1)]? = r.reverse[r.length - 1 - k]?
      rw [List.reverse_cons, List.getElem?_append_left (by simp; omega)]
      rw [show r.length + 1 - 1 - (k + 1) = r.length - 1 - k by omega]
    rw [h1, pick_rev' r]
theorem pick_rev {α : Type} (xs : List α) : ((List.range xs.length).map fun k => xs.length - 1 - k).filterMap (fun i => xs[i]?) = xs.reverse := by
  have := pick_rev' xs.reverse
  rw [List.length_reverse, List.reverse_reverse] at this
  rw [List.filterMap_map]
  exact this
theorem slicePick_rev (its : List Value) : slicePick its.toArray none none (some (-1)) = its.reverse.toArray := by
  unfold slicePick
  rw [List.size_toArray, sliceRev]
  congr 1
  have := pick_rev its
  simpa using this
def tRev (K : PySem.W.Frag) (te tst : TE) : TE := fun σ H Q => te σ H fun x H1 => tst σ H1 fun y H2 => y = .int (-1) ∧ ∃ p xs, x = .ref p ∧ SqL K H2 p xs ∧ ∀ l, H2 l = none → Q (.ref l) (upd H2 l (.lst xs.reverse))
theorem pe_rev {e st : Expr} {te tst : TE} {pos p2 : Pos} (he : PE X e te) (hst : PE X st tst) (ht : ∀ o r, letTemporaryGo e o r = pure () := by intro _ _; rfl) : PE X (.Subscript e (.Slice none none (some st) p2) pos) (tRev X.K te tst) := by
  intro pins s σ H Q I h
  refine wpAny_Subscript_Slice_step (T := "list") slot_list_getitem.lookup (thn (he pins s σ H _ I h) fun v s1 ⟨x, H1, I1, r1, q1⟩ => ?_) ht
  refine wpAny_Slice ?_
  rw [evalPart_none, evalPart_some]
  refine wpAny_pure (wpAny_pure (thn (hst pins s1 σ H1 _ I1 q1) fun vs s2 ⟨y, H2, I2, r2, q2⟩ => ?_))
  obtain ⟨rfl, p, xs, rfl, hx, q⟩ := q2
  obtain ⟨t, rfl⟩ := r2
  cases r1
  have I3 : Inv X pins σ H2 { s2 with heap := s2.heap.push { cls := .type "slice", data := .fields #[.none, .none, .int (-1) t] } } := I2.kept (t' := s2.toks) fun b ob q => Heap.get?_push_of_some _ q
  obtain ⟨its, rv, pl, hz⟩ := I3.list hx
  refine ⟨pl.isList.typeIs, ?_⟩
  refine wpAny_getItem_list_slice pl.isList (Heap.IsSliceOf.new ..) .none .none (.int (-1) t) (by decide) ?_ (by rw [List.size_toArray, ← rv.length]; exact hz)
  rw [slicePick_rev]
  refine ⟨.ref _, _, I3.laid (t' := s2.toks) (o := .lst xs.reverse) (fun b ob q => Heap.get?_push_of_some _ q) (Nat.le_refl _) ?_, rfl, q _ (I3.hok.fresh (Nat.le_refl _))⟩
  exact ⟨by rw [List.length_reverse]; exact hz, _, 0, rv.reverse, Heap.get?_push_size _ rfl⟩

/-! ### is True, is not True; // by greater numbers -/
/-- below 2 ^ 1024 -/
def BigOk (j : Int) : Prop := j.natAbs < 2 ^ 1024
theorem BigOk.log {j : Int} (h : BigOk j) : j.natAbs.log2 < 9000 := by
  by_cases h0 : j.natAbs = 0
  · rw [h0]; decide +kernel
  · have : j.natAbs.log2 < 1024 := (Nat.log2_lt h0).mpr h
    omega
theorem big {j : Int} (h1 : -(2 ^ 70) < j) (h2 : j < 2 ^ 70) : BigOk j := by
  have e : (2 : Int) ^ 70 = ((2 ^ 70 : Nat) : Int) := by decide +kernel
  rw [e] at h1 h2
  have h3 : j.natAbs < 2 ^ 70 := by omega
  exact Nat.lt_of_lt_of_le h3 (Nat.pow_le_pow_right (by decide) (by decide))
theorem op_fdivL : OpR X (binaryOp .FloorDiv) (rI (fun _ j => 0 < j ∧ BigOk j) fun i j => .int (i / j)) := opI fun i j _ _ _ _ _ hc q => by
  have h1 : (0 : Int) < j := hc.1
  exact floordiv_int (by omega) (by rw [Int.fdiv_eq_ediv_of_nonneg i (by omega)]; exact q) (.inl (PyProof.noPylong_of_log2 hc.2.log))
end
end L2
/-! defs by their names, the deck that the laws draw from -/
namespace L2
open PySem PySem.Spec PyProof.Rows

def isStar : Expr → Bool
  | .Starred .. => true
  | _ => false
theorem star_cons {e : Expr} {rest : List Expr} {env : Env} (h : isStar e = false) : starEach (e :: rest) env = (false, eval e env) :: starEach rest env := by
  cases e <;> first | rfl | exact Bool.noConfusion h
/-- an argument list, one more ahead -/
theorem pa_c {X : Cx} {e : Expr} {es : List Expr} {te : TE} {t : TA} (ha : PE X e te) (hr : PA X es t) (h : isStar e = false := by rfl) : PA X (e :: es) (tCons te t) := pa_cons ha hr (star_cons h)
/-- a def of the text that keeps a promise, by its name -/
def Good (P : Program) (w : World) (K : PySem.W.Frag) (mg : Str → Option Value) (base : Heap) (k : Nat) (x : Str) (ps : List Str) (sp : Sp) : Prop :=
  ∃ (f : Addr) (fd : FuncData), FnOk P w K mg base CX0 k f fd ps sp ∧ Binds K fd ps [] ∧ mg x = some (.ref f) ∧ PySem.W.keepIn K (.ref f) = true
section
variable {X : Cx} {k : Nat} {x : Str} {ps : List Str} {sp : Sp} {e : Expr} {es : List Expr} {t : TA} {p pos : Pos}
theorem pe_fn (G : Good X.prog X.w X.K X.mg X.base k x ps sp) (hr : Room k X.A) (hg : Gl X x) (ha : PA X (e :: es) t) (hdb : (x == ("__debug__" : Str)) = false := by decide)
    (hst : isStar e = false := by rfl) (hpl : (backTo pos (starEach es X.env)).any (·.1) = false := by rfl) : PE X (.Call (.Name x p) (e :: es) [] pos) (tCall sp [] E0 t) := by
  obtain ⟨f, fd, F, b, m, kp⟩ := G
  exact pe_call F hr hg m kp b .nil pass0 ha hdb (star_cons hst) hpl
theorem pe_fn0 (G : Good X.prog X.w X.K X.mg X.base k x ps sp) (hr : Room k X.A) (hg : Gl X x) (hdb : (x == ("__debug__" : Str)) = false := by decide) : PE X (.Call (.Name x p) [] [] pos) (tCall sp [] E0 tNil) := by
  obtain ⟨f, fd, F, b, m, kp⟩ := G
  exact pe_call0 F hr hg m kp b .nil pass0 hdb
end
/-- a def as the top has made it -/
def Has (K : PySem.W.Frag) (mg : Str → Option Value) (x : Str) (st : Stmt) : Prop := ∃ (f : Addr) (fd : FuncData), Fun K x x st f fd ∧ mg x = some (.ref f)
theorem Has.good {P : Program} {w : World} {K : PySem.W.Frag} {mg : Str → Option Value} {base : Heap} {x : Str} {st : Stmt} {N ps : List Str} {k : Nat} {sp : Sp} (h : Has K mg x st) (S : FnScope N ps (defScope st))
    (hb : ∀ (kV doc pm : Value) (an : Option Addr) (cdv ct : Value) (us : List Value), us.length = ps.length → bindArgs (PySem.W.fnOf x x (defArgs st) (defBody st) (defScope st) .none kV doc pm an cdv ct) ⟨us, []⟩ = pure (ps.zip us))
    (len : ∀ vs H Q E, sp vs H Q E → vs.length = ps.length)
    (hbody : ∀ (f : Addr) (cdv : Value) (A : Around) (outer : List Env) (s : Shared) (H : Hp) (vs : List V) (Q : VK) (E : XK), Room k (A.deeper (envOfC x (defScope st) s.heap.objs.size f cdv)) → sp vs H Q E →
      ∃ t, PSs (cxOf CX0 P w K mg base N x (defScope st) f cdv A outer s H E).nox (defBody st) t ∧ t { nx := fun _ H' => Q .non H', rt := Q } (start N vs) H) : Good P w K mg base (k + 1) x ps sp := by
  obtain ⟨f, fd, F, m⟩ := h
  exact ⟨f, fd, F.ok S len fun cdv A outer s H vs Q E hr q => hbody f cdv A outer s H vs Q E hr q, F.binds hb, m, F.kp⟩
theorem has_mk {K : PySem.W.Frag} {h : Heap} {mg : Str → Option Value} {x : Str} {st : Stmt} {f : Addr} {oc : Value} {od an : Option Addr} {osl : Array (Option Value)} {kV doc pm cdv ct : Value} (X : K.In h) (G : h.Ns mainGlobals mg)
    (a : PySem.W.nsIn K mainGlobals x = some (some (.ref f))) (l : K.lookup f = some ⟨oc, od, .func (PySem.W.fnOf x x (defArgs st) (defBody st) (defScope st) .none kV doc pm an cdv ct), osl⟩)
    (c : PySem.W.codeIn K cdv x = true) (k : PySem.W.keepIn K (.ref f) = true) : Has K mg x st := ⟨f, _, fun_mk l c k, PySem.W.mg_of X G a⟩
/-- Python's own names are not the text's -/
structure Own (mg : Str → Option Value) : Prop where
  len : mg "len" = none
  range : mg "range" = none
  isinstance : mg "isinstance" = none
  int_ : mg "int" = none
  bool_ : mg "bool" = none
  str_ : mg "str" = none
  list_ : mg "list" = none
  tuple_ : mg "tuple" = none
  dict_ : mg "dict" = none
  sum : mg "sum" = none
  min : mg "min" = none
  max : mg "max" = none
  all : mg "all" = none
  any : mg "any" = none
  abs : mg "abs" = none
  zip : mg "zip" = none
  sorted : mg "sorted" = none
  set_ : mg "set" = none
  enumerate : mg "enumerate" = none
theorem own_mk {K : PySem.W.Frag} {h : Heap} {mg : Str → Option Value} (X : K.In h) (G : h.Ns mainGlobals mg) (z1 : PySem.W.nsIn K mainGlobals "len" = some none) (z2 : PySem.W.nsIn K mainGlobals "range" = some none)
    (z3 : PySem.W.nsIn K mainGlobals "isinstance" = some none) (z4 : PySem.W.nsIn K mainGlobals "int" = some none) (z5 : PySem.W.nsIn K mainGlobals "bool" = some none) (z6 : PySem.W.nsIn K mainGlobals "str" = some none)
    (z7 : PySem.W.nsIn K mainGlobals "list" = some none) (z8 : PySem.W.nsIn K mainGlobals "tuple" = some none) (z9 : PySem.W.nsIn K mainGlobals "dict" = some none) (z10 : PySem.W.nsIn K mainGlobals "sum" = some none)
    (z11 : PySem.W.nsIn K mainGlobals "min" = some none) (z12 : PySem.W.nsIn K mainGlobals "max" = some none) (z13 : PySem.W.nsIn K mainGlobals "all" = some none) (z14 : PySem.W.nsIn K mainGlobals "any" = some none)
    (z15 : PySem.W.nsIn K mainGlobals "abs" = some none) (z16 : PySem.W.nsIn K mainGlobals "zip" = some none) (z17 : PySem.W.nsIn K mainGlobals "sorted" = some none) (z18 : PySem.W.nsIn K mainGlobals "set" = some none)
    (z19 : PySem.W.nsIn K mainGlobals "enumerate" = some none) : Own mg :=
  ⟨PySem.W.mg_none_of X G z1, PySem.W.mg_none_of X G z2, PySem.W.mg_none_of X G z3, PySem.W.mg_none_of X G z4, PySem.W.mg_none_of X G z5, PySem.W.mg_none_of X G z6, PySem.W.mg_none_of X G z7, PySem.W.mg_none_of X G z8, PySem.W.mg_none_of X G z9, PySem.W.mg_none_of X G z10,
   PySem.W.mg_none_of X G z11, PySem.W.mg_none_of X G z12, PySem.W.mg_none_of X G z13, PySem.W.mg_none_of X G z14, PySem.W.mg_none_of X G z15, PySem.W.mg_none_of X G z16, PySem.W.mg_none_of X G z17, PySem.W.mg_none_of X G z18, PySem.W.mg_none_of X G z19⟩

theorem noIfT {σ : St} {H : Hp} {A B : Hp → Prop} (h : A H) : tNoIf σ H fun b H5 => if b = true then A H5 else B H5 := by
  show if true = true then A H else B H
  rw [if_pos rfl]
  exact h

/-! ### a deck at p, its cells at c -/
structure DeckAt (H : Hp) (p c : Addr) : Prop where
  ne : p ≠ c
  dk : ∃ S k : Int, H p = some (.lst [.ref c, .int S, .int k])
  cs : ∃ ns : List Int, H c = some (.lst (ns.map V.int)) ∧ ns.length ≤ 64
/-- all that stood but the deck stands -/
structure On (p c : Addr) (H H' : Hp) : Prop where
  d : DeckAt H' p c
  e : ∀ b o, H b = some o → b ≠ p → b ≠ c → H' b = some o
section
variable {p c a : Addr} {H H1 H2 : Hp} {o : HO}
theorem DeckAt.on (d : DeckAt H p c) : On p c H H := ⟨d, fun _ _ h _ _ => h⟩
theorem DeckAt.nep (d : DeckAt H p c) (h : H a = none) : a ≠ p := fun z => by
  obtain ⟨S, k, e⟩ := d.dk
  rw [z, e] at h; cases h
theorem DeckAt.nec (d : DeckAt H p c) (h : H a = none) : a ≠ c := fun z => by
  obtain ⟨ns, e, _⟩ := d.cs
  rw [z, e] at h; cases h
theorem DeckAt.alloc (d : DeckAt H p c) (h : H a = none) : DeckAt (upd H a o) p c := by
  obtain ⟨S, k, e⟩ := d.dk
  obtain ⟨ns, e', l⟩ := d.cs
  exact ⟨d.ne, ⟨S, k, by rw [upd_ne (d.nep h).symm]; exact e⟩, ns, by rw [upd_ne (d.nec h).symm]; exact e', l⟩
theorem On.trans (x : On p c H H1) (y : On p c H1 H2) : On p c H H2 := ⟨y.d, fun b o h hp hc => y.e b o (x.e b o h hp hc) hp hc⟩
theorem On.free (x : On p c H H1) (d : DeckAt H p c) (h : H1 a = none) : H a = none := by
  cases q : H a with
  | none => rfl
  | some u => rw [x.e a u q (x.d.nep h) (x.d.nec h)] at h; cases h
theorem On.alloc (x : On p c H H1) (h : H1 a = none) : On p c H (upd H1 a o) :=
  ⟨x.d.alloc h, fun b u q hp hc => by rw [upd_ne (ne_of_none (x.e b u q hp hc) h)]; exact x.e b u q hp hc⟩
/-- what is no list is not the deck's -/
theorem On.tup (x : On p c H H1) (d : DeckAt H p c) {t : Addr} {xs : List V} (h : H t = some (.tup xs)) : H1 t = some (.tup xs) := by
  obtain ⟨S, k, e⟩ := d.dk
  obtain ⟨ns, e', l⟩ := d.cs
  exact x.e t _ h (ne_of h e (by intro z; cases z)) (ne_of h e' (by intro z; cases z))
end
/-! ### promises of the laws' own defs -/
def spMixed : Sp := fun vs H Q _ => ∃ n k : Int, vs = [.int n, .int k] ∧ ∀ r : Int, Q (.int r) H
def spDeck (K : PySem.W.Frag) : Sp := fun vs H Q _ => ∃ (a : Addr) (ns : List Int), vs = [.ref a] ∧ SqL K H a (ns.map V.int) ∧ ∀ (p c : Addr) (H' : Hp), H p = none → H c = none → DeckAt H' p c → Same H H' → Q (.ref p) H'
def spTake : Sp := fun vs H Q _ => ∃ (p c : Addr) (m : Int), vs = [.ref p, .int m] ∧ DeckAt H p c ∧ 0 < m ∧ BigOk m ∧ ∀ (r : Int) (H' : Hp), 0 ≤ r → r < m → On p c H H' → Q (.int r) H'
/-- |n| < 10 ^ 60 -/
def spFar : Sp := fun vs H Q _ => ∃ (p c : Addr), vs = [.ref p] ∧ DeckAt H p c ∧ ∀ (r : Int) (H' : Hp), -(10 ^ 60) < r → r < 10 ^ 60 → On p c H H' → Q (.int r) H'
/-- a run as the laws draw it -/
structure RunD (lo hi st : Int) : Prop where
  lo1 : -(10 ^ 58) ≤ lo
  lo2 : lo ≤ 10 ^ 58
  ex : ∃ s n : Int, 1 ≤ s ∧ s ≤ 10 ^ 20 ∧ 0 ≤ n ∧ n < 10 ^ 18 ∧ hi = lo + s * n ∧ st = s * (if 1 < n then 1 else n)
def spRun : Sp := fun vs H Q _ => ∃ (p c : Addr), vs = [.ref p] ∧ DeckAt H p c ∧ ∀ (t : Addr) (lo hi st : Int) (H' : Hp), H t = none → H' t = some (.tup [.int lo, .int hi, .int st]) → RunD lo hi st → On p c H H' → Q (.ref t) H'
end L2
/-! tuples: + of any two, [::-1]; an empty dict -/
namespace L2
open PySem PySem.Spec PyProof.Rows
section
variable {X : Cx}
theorem SqT.same {K : PySem.W.Frag} {H H' : Hp} {a : Addr} {xs : List V} (e : Same H H') (h : SqT K H a xs) : SqT K H' a xs := by
  rcases h with (h | ⟨o, h⟩) | h
  · exact .inl (.inl (e _ _ h))
  · exact .inl (.inr ⟨o, e _ _ h⟩)
  · exact .inr h
theorem same_new {H : Hp} {a : Addr} {o : HO} (h : H a = none) : Same H (upd H a o) := fun b u q => by rw [upd_ne (ne_of_none q h)]; exact q
/-- t + u, any two -/
def rCatG (K : PySem.W.Frag) : R2 := fun x y H Q => ∃ a b xs ys, x = .ref a ∧ y = .ref b ∧ SqT K H a xs ∧ SqT K H b ys ∧ xs.length + ys.length ≤ sizeLine ∧ ∀ r H', SqT K H' r (xs ++ ys) → Same H H' → Q (.ref r) H'
def tRevT (K : PySem.W.Frag) (te tst : TE) : TE := fun σ H Q => te σ H fun x H1 => tst σ H1 fun y H2 => y = .int (-1) ∧ ∃ p xs, x = .ref p ∧ SqT K H2 p xs ∧ ∀ l, H2 l = none → Q (.ref l) (upd H2 l (.tup xs.reverse))
/-- constants, all at once -/
def litV : Expr → Option V
  | .Constant (.int i) _ _ => some (.int i)
  | .Constant (.bool b) _ _ => some (.bl b)
  | .Constant .none _ _ => some .non
  | .Constant (.str x) _ _ => some (.str x)
  | _ => none
def litsV : List Expr → Option (List V)
  | [] => some []
  | e :: es => match litV e, litsV es with
    | some v, some vs => some (v :: vs)
    | _, _ => none
theorem pe_lit {e : Expr} {v : V} (h : litV e = some v) : PE X e (tC v) := by
  unfold litV at h
  split at h
  · cases h; exact pe_int
  · cases h; exact pe_bl
  · cases h; exact pe_non
  · cases h; exact pe_str
  · cases h
theorem lit_star {e : Expr} {v : V} (h : litV e = some v) : isStar e = false := by
  cases e <;> first | rfl | (unfold litV at h; cases h)
theorem pa_lits0 : ∀ {es : List Expr} {vs : List V}, litsV es = some vs → PA X es (fun _ H Q => Q vs H)
  | [], vs, h => by
    have h : some [] = some vs := h
    cases h
    exact pa_nil
  | e :: es, vs, h => by
    unfold litsV at h
    split at h
    · rename_i v vs' h1 h2
      cases h
      intro pos pins s σ H Q I q
      exact pa_c (pe_lit h1) (pa_lits0 h2) (lit_star h1) pos pins s σ H Q I q
    · cases h
/-- constants and tuples of constants, the first n of a display -/
inductive DC where
  | v (v : V)
  | t (vs : List V)
def dcOf : Expr → Option DC
  | .Tuple es _ _ => (litsV es).map DC.t
  | .Constant c a b => (litV (.Constant c a b)).map DC.v
  | _ => none
def tDC : List DC → TA → TA
  | [], t => t
  | .v v :: r, t => tCons (tC v) (tDC r t)
  | .t vs :: r, t => tCons (tTup fun _ H Q => Q vs H) (tDC r t)
def dcsOf : Nat → List Expr → Option (List DC)
  | 0, _ => some []
  | _ + 1, [] => none
  | n + 1, e :: es => match dcOf e, dcsOf n es with
    | some d, some ds => some (d :: ds)
    | _, _ => none
/-- the items of a display, kept from the eyes of Lean's elaborator (PA would be run there) -/
structure QA (X : Cx) (es : List Expr) (t : TA) : Prop where
  p : PA X es t
theorem qa_nil : QA X [] tNil := ⟨pa_nil⟩
theorem qa_c {e : Expr} {es : List Expr} {te : TE} {t : TA} (ha : PE X e te) (hr : QA X es t) (h : isStar e = false := by rfl) : QA X (e :: es) (tCons te t) := ⟨pa_c ha hr.p h⟩
theorem qa_lits {es : List Expr} (vs : List V) (h : litsV es = some vs) : QA X es (fun _ H Q => Q vs H) := ⟨pa_lits0 h⟩
theorem pe_lstQ {es : List Expr} {t : TA} {pos : Pos} (h : QA X es t) : PE X (.List es pos) (tLst t) := pe_lst h.p
theorem pe_tupQ {es : List Expr} {t : TA} {k : Nat} {pos : Pos} (h : QA X es t) : PE X (.Tuple es k pos) (tTup t) := pe_tup h.p
/-- {} -/
theorem Inv.big {pins : List (Addr × Obj)} {σ : St} {H : Hp} {s : Shared} (I : Inv X pins σ H s) : sysModules < s.heap.objs.size := by
  have h : mainGlobals < s.heap.objs.size := (I.mod.glob.keeps I.bk).lt
  exact Nat.lt_trans (by decide) h
def tDNewK : TE := fun _ H Q => ∀ p, H p = none → Q (.ref p) (upd H p (.dK []))
end
end L2
/-! zip over two lists or tuples -/
namespace L2
open PySem PySem.Spec PyProof.Rows
section
variable {prog : Program} {w : World} {A : Around} {E : Value → Shared → Prop} {s : Shared}
/-- an iterator i over what stands at l, asked by zip: its state, and what stands at l -/
structure Step (prog : Program) (w : World) (i l : Addr) (it : Nat → Heap → Prop) (sq : Heap → Array Value → Prop) : Prop where
  obj : ∀ k h, it k h → ∃ o, h.get? i = some o ∧ ∀ v, o.data ≠ .cell v
  itk : ∀ k h h', it k h → (∀ o, h.get? i = some o → h'.get? i = some o) → it k h'
  sqk : ∀ h h' vs, sq h vs → (∀ o, h.get? l = some o → h'.get? l = some o) → sq h' vs
  item : ∀ (A : Around) (E : Value → Shared → Prop) (s : Shared) (k : Nat) (vs : Array Value) (v : Value) (Q : Value → Shared → Prop), it k s.heap → sq s.heap vs → vs[k]? = some v →
    (∀ h', it (k + 1) h' → Heap.SameBut i s.heap h' → Q v { s with heap := h' }) → wpAny (model prog w) A (Builtin.SmallTypes.nextOf (.ref i)) Q E s
  done : ∀ (A : Around) (E : Value → Shared → Prop) (s : Shared) (k : Nat) (vs : Array Value) (Q : Value → Shared → Prop), A.handled = none → it k s.heap → sq s.heap vs → vs[k]? = none →
    (∀ h' e, Heap.ExtBut i s.heap h' → (∃ o, h'.get? e = some o ∧ o.cls = .type "StopIteration") → E (.ref e) { s with heap := h' }) → wpAny (model prog w) A (Builtin.SmallTypes.nextOf (.ref i)) Q E s
section
variable {z TI TO i1 i2 l1 l2 : Addr} {it1 it2 : Nat → Heap → Prop} {sq1 sq2 : Heap → Array Value → Prop}
end
/-- the heap behind zip(a, b) of two tuples -/
abbrev zT1 (hp : Heap) (a b : Addr) : Heap := hp.push { cls := .type "tuple_iterator", data := .fields #[.ref a, .int 0 0] }
abbrev zT2 (hp : Heap) (a b : Addr) : Heap := (zT1 hp a b).push { cls := .type "tuple_iterator", data := .fields #[.ref b, .int 0 0] }
abbrev zT3 (hp : Heap) (a b : Addr) : Heap := (zT2 hp a b).push { cls := .type "tuple", data := .seq #[.ref hp.objs.size, .ref (zT1 hp a b).objs.size] }
abbrev zT4 (hp : Heap) (a b : Addr) : Heap := (zT3 hp a b).push { cls := .type "tuple", data := .seq #[.none, .none] }
abbrev zT5 (hp : Heap) (a b : Addr) : Heap := (zT4 hp a b).push { cls := .type "zip", data := .fields #[.none, .bool false, .bool false, .ref (zT2 hp a b).objs.size, .ref (zT3 hp a b).objs.size] }
end

section
variable {X : Cx} {pins : List (Addr × Obj)} {σ : St} {H : Hp} {s : Shared} {h' : Heap}
end

/-- a list (false) or a tuple (true) -/
def SqX (t : Bool) (K : PySem.W.Frag) (H : Hp) (a : Addr) (xs : List V) : Prop := match t with
  | false => SqL K H a xs
  | true => SqT K H a xs
/-- zip(a, b) of two lists or of two tuples: pairs, while both have one -/
def Itz (t : Bool) (K : PySem.W.Frag) (a b : Addr) : It :=
  ⟨fun i H => ∃ xs ys x y, SqX t K H a xs ∧ SqX t K H b ys ∧ xs[i]? = some x ∧ ys[i]? = some y,
   fun i H v H' => ∃ p x y, v = .ref p ∧ H p = none ∧ H' = upd H p (.tup [x, y]) ∧ (∀ xs, SqX t K H a xs → xs[i]? = some x) ∧ ∀ ys, SqX t K H b ys → ys[i]? = some y,
   fun i H => ∃ xs ys, SqX t K H a xs ∧ SqX t K H b ys ∧ (xs.length ≤ i ∨ ys.length ≤ i)⟩
def itX (t : Bool) (i a : Addr) (k : Nat) (h : Heap) : Prop := match t with
  | false => h.IsListIter i a k
  | true => h.IsTupleIter i a k
def sqX (t : Bool) (a : Addr) (h : Heap) (vs : Array Value) : Prop := match t with
  | false => h.IsList a vs
  | true => h.IsTuple a vs
section
variable {X : Cx} {pins : List (Addr × Obj)} {σ : St} {H : Hp} {s : Shared}
theorem Inv.sqX {t : Bool} {a : Addr} {xs : List V} (I : Inv X pins σ H s) (h : SqX t X.K H a xs) : ∃ vs : List Value, Vals xs vs ∧ L2.sqX t a s.heap vs.toArray ∧ xs.length ≤ sizeLine := by
  cases t
  · obtain ⟨its, r, p, hz⟩ := I.list h
    exact ⟨its, r, p.isList, hz⟩
  · obtain ⟨its, r, p, hz⟩ := I.tuple h
    exact ⟨its, r, p, hz⟩
end
section
variable {X : Cx}
def iZip (K : PySem.W.Frag) (ta : TA) : TI := fun σ H R => ta σ H fun vs H1 => ∃ (t : Bool) (a b : Addr), vs = [.ref a, .ref b] ∧ (∃ xs, SqX t K H1 a xs) ∧ (∃ ys, SqX t K H1 b ys) ∧ R (Itz t K a b) H1
end
theorem SqL.same {K : PySem.W.Frag} {H H' : Hp} {a : Addr} {xs : List V} (e : Same H H') (h : SqL K H a xs) : SqL K H' a xs := by
  rcases h with (h | ⟨o, h⟩) | h
  · exact .inl (.inl (e _ _ h))
  · exact .inl (.inr ⟨o, e _ _ h⟩)
  · exact .inr h
theorem SqX.same {t : Bool} {K : PySem.W.Frag} {H H' : Hp} {a : Addr} {xs : List V} (e : Same H H') (h : SqX t K H a xs) : SqX t K H' a xs := by
  cases t
  · exact SqL.same e h
  · exact SqT.same e h
theorem SqX.or {t : Bool} {K : PySem.W.Frag} {H : Hp} {a : Addr} {xs : List V} (h : SqX t K H a xs) : SqL K H a xs ∨ SqT K H a xs := by
  cases t
  · exact .inl h
  · exact .inr h
/-! ### values as trees: leaves, lists, tuples -/
inductive Tr where
  | leaf (v : V)
  | seq (t : Bool) (xs : List Tr)
noncomputable instance : DecidableEq Tr := fun _ _ => Classical.propDecidable _
/-- x is the tree T, less than d deep -/
def AtD (K : PySem.W.Frag) (H : Hp) : Nat → V → Tr → Prop
  | 0, _, _ => False
  | d + 1, x, T => (flatV x = true ∧ T = .leaf x) ∨ ∃ t a xs Ts, x = .ref a ∧ SqX t K H a xs ∧ T = .seq t Ts ∧ xs.length = Ts.length ∧ xs.length ≤ sizeLine ∧ ∀ (i : Nat) (x' : V) (T' : Tr), xs[i]? = some x' → Ts[i]? = some T' → AtD K H d x' T'
theorem AtD.same {K : PySem.W.Frag} {H H' : Hp} (e : Same H H') : ∀ {d : Nat} {x : V} {T : Tr}, AtD K H d x T → AtD K H' d x T
  | 0, _, _, h => False.elim h
  | d + 1, x, T, h => by
    rcases h with h | ⟨t, a, xs, Ts, h1, h2, h3, h4, h4', h5⟩
    · exact .inl h
    · exact .inr ⟨t, a, xs, Ts, h1, h2.same e, h3, h4, h4', fun i x' T' e1 e2 => (h5 i x' T' e1 e2).same e⟩
def tyB (T : String) : V → Bool
  | .bl _ => T == "bool" || T == "int"
  | .int _ => T == "int"
  | .str _ => T == "str"
  | _ => false
def tyT (T : String) : Tr → Bool
  | .leaf v => tyB T v
  | .seq true _ => T == "tuple"
  | .seq false _ => T == "list"
def ltT : Tr → Bool
  | .leaf _ => false
  | .seq _ _ => true
def spSameT (K : PySem.W.Frag) (d : Nat) : Sp := fun vs H Q _ => ∃ x y T U, vs = [x, y] ∧ AtD K H d x T ∧ AtD K H d y U ∧ ∀ H', Same H H' → Q (.bl (decide (T = U))) H'
theorem Same.alloc {H H1 : Hp} {a : Addr} {o : HO} (x : Same H H1) (h : H1 a = none) : Same H (upd H1 a o) := fun b u e => by rw [upd_ne (ne_of_none (x b u e) h)]; exact x b u e
/-! ### min, max of a list of numbers -/
section
variable {X : Cx}
end
end L2
/-! ranges of any size, with a step -/
namespace L2
open PySem PySem.Spec PyProof.Rows
/-- lo, lo + c, .. (n of them) -/
def Itg (lo c : Int) (n : Nat) : It := ⟨fun i _ => i < n, fun i H x H' => H' = H ∧ x = .int (lo + i * c), fun i _ => n ≤ i⟩
/-- how many numbers range(i, j, c) has, c > 0 -/
def rgN (i j c : Int) : Nat := (if i < j then (j - i - 1) / c + 1 else 0).toNat
section
variable {X : Cx} {tg : Expr}
def iRng3 (ta : TA) : TI := fun σ H R => ta σ H fun vs H1 => ∃ i j k : Int, vs = [.int i, .int j, .int k] ∧ 0 < k ∧ BigOk k ∧ R (Itg i k (rgN i j k)) H1
def iRng2L (ta : TA) : TI := fun σ H R => ta σ H fun vs H1 => ∃ i j : Int, vs = [.int i, .int j] ∧ R (Itg i 1 (rgN i j 1)) H1
end
end L2
/-! sorted; == of None and tuples -/
namespace L2
open PySem PySem.Spec PyProof.Rows
section
variable {X : Cx}
/-- len, within a comprehension -/
def rLen (K : PySem.W.Frag) : List V → Hp → VK → Prop := fun xs H Q => ∃ p ys, xs = [.ref p] ∧ (SqL K H p ys ∨ SqT K H p ys) ∧ Q (.int ys.length) H
/-- None, or a tuple of flat things -/
def OV (K : PySem.W.Frag) (H : Hp) (x : V) (o : Option (List V)) : Prop := (x = .non ∧ o = none) ∨ ∃ p xs, x = .ref p ∧ SqT K H p xs ∧ xs.all flatV = true ∧ o = some xs
def eqO : Option (List V) → Option (List V) → Bool
  | none, none => true
  | some xs, some ys => eqVs xs ys
  | _, _ => false
def rEqO (K : PySem.W.Frag) (neg : Bool) : R2 := fun x y H Q => ∃ o o', OV K H x o ∧ OV K H y o' ∧ Q (.bl (if neg then !eqO o o' else eqO o o')) H
theorem eqVs_min : ∀ {xs ys : List V}, ((List.range (min xs.length ys.length)).all (fun i => eqV (xs.getD i .non) (ys.getD i .non)) && xs.length == ys.length) = eqVs xs ys := by
  intro xs ys
  by_cases hl : xs.length = ys.length
  · rw [hl, Nat.min_self, ← hl, eqVs_range hl]
    simp
  · rw [eqVs_len hl]
    simp [hl]
theorem op_eqO (hu : X.A.units < cLine) : OpR X (compareOp .Eq) (rEqO X.K false) := by
  intro pins s σ H x y v u Q I rx ry h
  obtain ⟨o, o', hx, hy, k⟩ := h
  rcases hx with ⟨rfl, rfl⟩ | ⟨p, xs, rfl, hp, fx, rfl⟩
  · cases rx
    rcases hy with ⟨rfl, rfl⟩ | ⟨q, ys, rfl, hq, fy, rfl⟩
    · cases ry
      exact SeqAt.RcAt.none_none _ _ _ _ ⟨.bl true, H, I, rfl, k⟩
    · cases ry
      obtain ⟨ws, r2, p2, z2⟩ := I.tuple hq
      exact SeqAt.RcAt.none_tuple p2 hu _ _ _ _ ⟨.bl false, H, I, rfl, k⟩
  · cases rx
    obtain ⟨us, r1, p1, z1⟩ := I.tuple hp
    rcases hy with ⟨rfl, rfl⟩ | ⟨q, ys, rfl, hq, fy, rfl⟩
    · cases ry
      exact SeqAt.RcAt.tuple_none p1 hu _ _ _ _ ⟨.bl false, H, I, rfl, k⟩
    · cases ry
      obtain ⟨ws, r2, p2, z2⟩ := I.tuple hq
      refine SeqAt.RcAt.tuples p1 p2 hu (fun j h1 h2 => vals_at r1 r2 fx fy j h1 h2) _ _ _ _ ⟨.bl (eqVs xs ys), H, I, ?_, k⟩
      show Value.bool _ = Value.bool _
      rw [List.size_toArray, List.size_toArray, ← r1.length, ← r2.length, eqVs_min]
end
end L2
/-! texts -/
namespace L2
open PySem PySem.Spec PyProof.Rows
/-- a text's signs, one by one -/
def Its (x : Str) : It := ⟨fun i _ => i < x.cps.size, fun i H v H' => H' = H ∧ ∃ c, x.cps[i]? = some c ∧ v = .str ⟨#[c]⟩, fun i _ => x.cps.size ≤ i⟩
theorem turn_strA {P : Program} {w : World} {K : PySem.W.Frag} {tg : Expr} (it : Addr) (x : Str) (t : Tok) : Turn P w K tg (Its x) [it] it (fun i h => h.IsStrIter it "str_ascii_iterator" x t i) where
  mem := by simp
  obj := fun i h st b hb => by
    have e : b = it := by simpa using hb
    subst e
    obtain ⟨o, e, c, d⟩ := st
    exact ⟨o, e, fun v z => by rw [d] at z; cases z⟩
  keep := fun i h h' st k => let ⟨o, ho, r⟩ := st; ⟨o, k it (by simp) o ho, r⟩
  item := by
    intro X hP hw hK hc i pins s σ H E I hf st hg
    subst hP hw hK
    obtain ⟨f0, f1, f2, f3, f4, f5⟩ := hf it (by simp)
    have W := Walks.strAscii (prog := X.prog) (w := X.w) (I.ok.hd hc) it x t
    refine W.item i s _ _ hg st fun v h' tk hv st' kk => ?_
    obtain ⟨c, u, hc', rfl⟩ := hv
    have I1 : Inv X pins σ H { s with heap := h', toks := tk } := I.turned (fun b o hb e => kk b o (by simpa using hb) e) f0 f1 f3 f4 f5
    obtain ⟨o, e, c1, d⟩ := id st'
    exact ⟨_, rfl, go_of (s := { s with heap := h', toks := tk }) e c1 d (by decide) ⟨.str ⟨#[c]⟩, H, I1, ⟨u, rfl⟩, ⟨rfl, c, hc', rfl⟩, st', fun b hb => (hf b hb).1⟩⟩
  done := by
    intro X hP hw hK hc i pins s σ H E I hf st hg
    subst hP hw hK
    obtain ⟨f0, f1, f2, f3, f4, f5⟩ := hf it (by simp)
    exact wpAny_pyNext_ascii_end (I.ok.hd hc) st (by have : x.cps.size ≤ i := hg; simp; omega) fun h' eb => ⟨rfl, I.turned (t' := s.toks) (fun b o hb e => eb b o hb e) f0 f1 f3 f4 f5⟩
  self := fun _ _ _ _ _ st h => wpAny_pyIter_striter_ascii st h
theorem turn_strW {P : Program} {w : World} {K : PySem.W.Frag} {tg : Expr} (it : Addr) (x : Str) (t : Tok) : Turn P w K tg (Its x) [it] it (fun i h => h.IsStrIter it "str_iterator" x t i) where
  mem := by simp
  obj := fun i h st b hb => by
    have e : b = it := by simpa using hb
    subst e
    obtain ⟨o, e, c, d⟩ := st
    exact ⟨o, e, fun v z => by rw [d] at z; cases z⟩
  keep := fun i h h' st k => let ⟨o, ho, r⟩ := st; ⟨o, k it (by simp) o ho, r⟩
  item := by
    intro X hP hw hK hc i pins s σ H E I hf st hg
    subst hP hw hK
    obtain ⟨f0, f1, f2, f3, f4, f5⟩ := hf it (by simp)
    have W := Walks.strWide (prog := X.prog) (w := X.w) (I.ok.hd hc) it x t
    refine W.item i s _ _ hg st fun v h' tk hv st' kk => ?_
    obtain ⟨c, u, hc', rfl⟩ := hv
    have I1 : Inv X pins σ H { s with heap := h', toks := tk } := I.turned (fun b o hb e => kk b o (by simpa using hb) e) f0 f1 f3 f4 f5
    obtain ⟨o, e, c1, d⟩ := id st'
    exact ⟨_, rfl, go_of (s := { s with heap := h', toks := tk }) e c1 d (by decide) ⟨.str ⟨#[c]⟩, H, I1, ⟨u, rfl⟩, ⟨rfl, c, hc', rfl⟩, st', fun b hb => (hf b hb).1⟩⟩
  done := by
    intro X hP hw hK hc i pins s σ H E I hf st hg
    subst hP hw hK
    obtain ⟨f0, f1, f2, f3, f4, f5⟩ := hf it (by simp)
    exact wpAny_pyNext_wide_end (I.ok.hd hc) st (by have : x.cps.size ≤ i := hg; simp; omega) fun h' eb => ⟨rfl, I.turned (t' := s.toks) (fun b o hb e => eb b o hb e) f0 f1 f3 f4 f5⟩
  self := fun _ _ _ _ _ st h => wpAny_pyIter_striter_wide st h
section
variable {X : Cx} {tg : Expr}
def iStr (tl : TE) : TI := fun σ H R => tl σ H fun v H1 => ∃ x, v = .str x ∧ R (Its x) H1
theorem pi_str {l : Expr} {tl : TE} (hl : PE X l tl) : PI X tg l (iStr tl) := by
  intro pins s σ H R I h
  refine thn (hl pins s σ H _ I h) fun v s1 ⟨x, H1, I1, r1, q1⟩ => ?_
  obtain ⟨x, e, q⟩ := q1
  subst e
  obtain ⟨t, rfl⟩ := r1
  cases ha : x.cps.all (· < 128) with
  | true =>
    refine wpAny_pyIter_ascii ha ?_
    refine ⟨s1.heap.objs.size, [s1.heap.objs.size], _, _, H1, rfl, I1.kept (t' := s1.toks) fun b o e => Heap.get?_push_of_some _ e, turn_strA _ x t, ⟨_, Heap.get?_push_size _ rfl, rfl, rfl⟩, fun b hb => ?_, q⟩
    have e : b = s1.heap.objs.size := by simpa using hb
    subst e
    exact I1.fpOk (Nat.le_refl _) (I1.hok.fresh (Nat.le_refl _))
  | false =>
    refine wpAny_pyIter_wide ha ?_
    refine ⟨s1.heap.objs.size, [s1.heap.objs.size], _, _, H1, rfl, I1.kept (t' := s1.toks) fun b o e => Heap.get?_push_of_some _ e, turn_strW _ x t, ⟨_, Heap.get?_push_size _ rfl, rfl, rfl⟩, fun b hb => ?_, q⟩
    have e : b = s1.heap.objs.size := by simpa using hb
    subst e
    exact I1.fpOk (Nat.le_refl _) (I1.hok.fresh (Nat.le_refl _))
end
theorem comp_str {x : Str} {a : Addr} {own : Nat} {fr : List Nat} {g : TG} {tf : TT} {te : TE} {σ : St} {H1 : Hp} {Q : VK} (Pv : Nat → List V → Hp → Prop)
    (h0 : Pv 0 [] (upd H1 a (.lst [])))
    (hs : ∀ i c ys H3, x.cps[i]? = some c → H3 a = some (.lst ys) → Pv i ys H3 → g (.str ⟨#[c]⟩) (σc own fr σ) H3 fun σ4 H4 => (∃ ow, ow.length = own ∧ σ4 = ow ++ σf fr σ) ∧ tf σ4 H4 fun b H5 =>
      if b = true then te σ4 H5 fun y H6 => H6 a = some (.lst ys) ∧ ys.length < sizeLine ∧ Pv (i + 1) (ys ++ [y]) (upd H6 a (.lst (ys ++ [y]))) else H5 a = some (.lst ys) ∧ Pv (i + 1) ys H5)
    (hd : ∀ ys H, H a = some (.lst ys) → Pv x.cps.size ys H → Q (.ref a) H) : CompW (Its x) a own fr g tf te σ H1 Q := by
  refine ⟨x.cps.size, Pv, h0, fun i ys H hi ha p => ?_⟩
  by_cases hlt : i < x.cps.size
  · refine .inr ⟨hlt, hlt, fun v H' y => ?_⟩
    obtain ⟨e, c, hc, ev⟩ := y
    subst e ev
    exact hs i c ys _ hc ha p
  · have e : i = x.cps.size := by omega
    subst e
    exact .inl ⟨Nat.le_refl _, hd ys H ha p⟩
section
variable {X : Cx}
def rStarts : V → List V → Hp → VK → Prop := fun x vs H Q => ∃ i j, x = .str i ∧ vs = [.str j] ∧ Q (.bl (decide (0 + j.length ≤ i.length) && Builtin.Str.subAt i j 0)) H
theorem mt_startswith : MtM X "str.startswith" rStarts := by
  intro pins s σ H x vs v us Q I rx rv h
  obtain ⟨i, j, rfl, rfl, q⟩ := h
  obtain ⟨t, rfl⟩ := rx
  obtain ⟨u, rfl, t', rfl⟩ := rv.one
  exact call_gives F.slot_str_startswith (typeIs_str _ _ _) F.entry_str_startswith (F.args_str_startswith_2 _ _) (gives_str_startswith i j t t') ⟨.bl _, H, I, rfl, q⟩
def rFind : V → List V → Hp → VK → Prop := fun x vs H Q => ∃ i j, x = .str i ∧ vs = [.str j] ∧ ∀ n : Int, Q (.int n) H
theorem mt_find : MtM X "str.find" rFind := by
  intro pins s σ H x vs v us Q I rx rv h
  obtain ⟨i, j, rfl, rfl, q⟩ := h
  obtain ⟨t, rfl⟩ := rx
  obtain ⟨u, rfl, t', rfl⟩ := rv.one
  exact call_gives F.slot_str_find (typeIs_str _ _ _) F.entry_str_find (F.args_str_find_2 _ _) (gives_str_find i j t t') ⟨.int _, H, I.tok _, ⟨_, rfl⟩, q _⟩
theorem boot_repr : bootBuiltins "repr" = some (.builtin "repr") := by decide +kernel
end
/-- a dict of texts by texts, as the top has made it -/
def KD (prm : Params) : List DictEntry → List (Str × Str) → Prop
  | [], [] => True
  | e :: es, kv :: kvs => e.hash = PyData.keyHash prm kv.1 ∧ (∃ t, e.key = .str kv.1 t) ∧ (∃ t, e.val = .str kv.2 t) ∧ KD prm es kvs
  | _, _ => False
structure KDict (K : PySem.W.Frag) (prm : Params) (d : Addr) (kvs : List (Str × Str)) : Prop where
  obj : ∃ (es : Array DictEntry) (ep : Nat), K.lookup d = some ⟨.type "dict", none, .dict es ep, #[]⟩ ∧ KD prm es.toList kvs
  nd : (kvs.map (·.1)).Nodup
def getS (kvs : List (Str × Str)) (x : Str) : Option Str := (kvs.find? fun kv => kv.1 = x).map (·.2)
theorem KD.keys {P : Program} {w : World} : ∀ {es : List DictEntry} {kvs : List (Str × Str)}, KD w.params es kvs → ∀ e ∈ es, ∃ k, (mixKind P w).is k e.key = true ∧ e.hash = (mixKind P w).hash k
  | [], [], _, e, he => nomatch he
  | a :: es, kv :: kvs, ⟨h1, ⟨t, h2⟩, _, h4⟩, e, he => by
    rcases List.mem_cons.mp he with z | z
    · subst z
      exact ⟨.inr kv.1, by rw [h2]; exact mixKind_str P w kv.1 t, by rw [h1]; rfl⟩
    · exact KD.keys h4 e z
theorem KD.pairs {P : Program} {w : World} : ∀ {es : List DictEntry} {kvs : List (Str × Str)}, KD w.params es kvs → ∃ vs : List (Key × Value), Pairs (mixKind P w) es vs ∧ vs.map (·.1) = kvs.map (fun kv => Sum.inr kv.1) ∧
    ∀ x y, getS kvs x = some y → ∃ t, valueAt vs (.inr x) = some (.str y t)
  | [], [], _ => ⟨[], .nil, rfl, fun x y h => nomatch h⟩
  | a :: es, kv :: kvs, ⟨h1, ⟨t, h2⟩, ⟨t', h3⟩, h4⟩ => by
    obtain ⟨vs, p, m, g⟩ := KD.pairs (P := P) h4
    refine ⟨(.inr kv.1, .str kv.2 t') :: vs, .cons (by rw [h2]; exact mixKind_str P w kv.1 t) h3 p, by simp [m], fun x y h => ?_⟩
    by_cases e : kv.1 = x
    · subst e
      have : kv.2 = y := by simpa [getS] using h
      subst this
      exact ⟨t', by simp [valueAt]⟩
    · have h' : getS kvs x = some y := by simpa [getS, e] using h
      obtain ⟨t'', h''⟩ := g x y h'
      exact ⟨t'', by
        have : (Sum.inr kv.1 : Key) ≠ .inr x := fun z => e (Sum.inr.inj z)
        simpa [valueAt, this] using h''⟩
section
variable {X : Cx}
def rKD (d : Addr) (kvs : List (Str × Str)) : R2 := fun x y H Q => ∃ i j, x = .ref d ∧ y = .str i ∧ getS kvs i = some j ∧ Q (.str j) H
theorem ix_kd {d : Addr} {kvs : List (Str × Str)} (D : KDict X.K X.w.params d kvs) : IxR X (rKD d kvs) := by
  intro value slice pins s σ H x y v u Q I rx ry h hs
  obtain ⟨i, j, rfl, rfl, hg, q⟩ := h
  cases rx
  obtain ⟨t, rfl⟩ := ry
  obtain ⟨es, ep, lk, kd⟩ := D.obj
  obtain ⟨vs, hp, hm, hv⟩ := KD.pairs (P := X.prog) kd
  obtain ⟨t', hv⟩ := hv i j hg
  have ho := I.kIn d _ lk
  have hnd : (vs.map (·.1)).Nodup := by
    rw [hm, show kvs.map (fun kv => (Sum.inr kv.1 : Key)) = (kvs.map (·.1)).map Sum.inr by simp]
    unfold List.Nodup
    rw [List.pairwise_map]
    exact D.nd.imp fun h z => h (Sum.inr.inj z)
  have dd : s.heap.DictOf (mixKind X.prog X.w) d vs := ⟨_, es, ep, ho, ⟨rfl, rfl, rfl⟩, rfl, fun e he => KD.keys kd e (by simpa using he), hp, hnd⟩
  exact tail_any ⟨_, ho, rfl⟩ slot_dict_getitem.lookup (wpAny_getItem_of (mixKind_str _ _ i t) dd.mapOf hv ⟨.str j, H, I.tok _, ⟨t', rfl⟩, q⟩) hs
end

section
variable {X : Cx}
/-- a text's slice -/
def rSlS : V → Option Int → Option Int → Hp → VK → Prop := fun x lo hi H Q => ∃ z, x = .str z ∧ z.length ≤ sizeLine ∧ Q (.str (Txt.slice z lo hi)) H
theorem sl_str : SlR X rSlS := by
  intro pins s σ H x v vl vu lo hi sl Q I rx hs pl pu h
  obtain ⟨z, rfl, hz, q⟩ := h
  obtain ⟨t, rfl⟩ := rx
  obtain ⟨o, ho, hc, hd⟩ := hs
  refine ⟨"str", _, F.slot_str_getitem.lookup, typeIs_str _ _ _, ?_⟩
  have fin : ∀ t' k, EP X pins σ Q (.str (Txt.slice z lo hi) t') { s with toks := k } := fun t' k => ⟨.str _, H, I.tok k, ⟨t', rfl⟩, q⟩
  cases pl with
  | none => cases pu with
    | none => exact wpAny_getItem_str_slice (l := none) (u := none) (st := none) ⟨o, ho, hc, hd⟩ rfl (post_val_or_str ⟨Nat.le_trans (Txt.slice_le z _ _) hz, fin⟩)
    | int j uj => exact wpAny_getItem_str_slice (l := none) (u := some (j, uj)) (st := none) ⟨o, ho, hc, hd⟩ rfl (post_val_or_str ⟨Nat.le_trans (Txt.slice_le z _ _) hz, fin⟩)
  | int i ui => cases pu with
    | none => exact wpAny_getItem_str_slice (l := some (i, ui)) (u := none) (st := none) ⟨o, ho, hc, hd⟩ rfl (post_val_or_str ⟨Nat.le_trans (Txt.slice_le z _ _) hz, fin⟩)
    | int j uj => exact wpAny_getItem_str_slice (l := some (i, ui)) (u := some (j, uj)) (st := none) ⟨o, ho, hc, hd⟩ rfl (post_val_or_str ⟨Nat.le_trans (Txt.slice_le z _ _) hz, fin⟩)
/-- lists of texts -/
theorem strsAre_of {ss : List Str} : ∀ {us : List Value}, Vals (ss.map V.str) us → StrsAre us ss := by
  induction ss with
  | nil => intro us r; rw [List.map_nil] at r; cases r; exact .nil
  | cons n ns ih =>
    intro us r
    rw [List.map_cons] at r
    cases r with
    | cons r1 r2 =>
      obtain ⟨t, e⟩ := r1
      subst e
      exact .cons n t (ih r2)
theorem vals_ofStrs {us : List Value} {ss : List Str} (h : StrsAre us ss) : Vals (ss.map V.str) us := by
  induction h with
  | nil => exact .nil
  | cons n t _ ih => exact .cons ⟨t, rfl⟩ ih
theorem call_sortedS : CallR X (.builtin "sorted") (fun xs H Q => ∃ (p : Addr) (ss : List Str), xs = [.ref p] ∧ SqL X.K H p (ss.map V.str) ∧ ss.length < 64 ∧
    ∀ (ss' : List Str) (l : Addr), ss'.Perm ss → sortedS ss' = true → H l = none → Q (.ref l) (upd H l (.lst (ss'.map V.str)))) := by
  intro pins s σ H xs us Q I r h
  obtain ⟨p, ns, rfl, hq, h64, q⟩ := h
  obtain ⟨u, rfl, rx⟩ := vals1 r
  cases rx
  obtain ⟨its, rv, pl, hz⟩ := I.list hq
  have hi : StrsAre its ns := strsAre_of rv
  have hll := rv.length
  rw [List.length_map] at hll
  refine sorted_strs pl.isList hi (by omega) fun out ns' a1 a2 a3 => ?_
  obtain ⟨e, he⟩ := sortedAll_at s.heap its out
  have hlen := a2.length_eq
  refine ⟨.ref (s.heap.objs.size + 1), _, I.laid (t' := s.toks) (fun b o e => sortedAll_old e) (Nat.le_succ _) (show ObjOk X.prog X.w _ _ _ (.lst (ns'.map V.str)) from ⟨?_, out.toList, e, vals_ofStrs a1, he⟩), rfl, q ns' _ a2 a3 (I.hok.fresh (Nat.le_succ _))⟩
  rw [List.length_map, hlen]
  exact Nat.le_of_lt (Nat.lt_trans h64 (by decide))
/-- all signs of some texts, one behind the other -/
def catS (ss : List Str) : List Nat := (ss.map fun s => s.cps.toList).flatten
def rJoin (K : PySem.W.Frag) : V → List V → Hp → VK → Prop := fun x vs H Q => ∃ p ss, x = .str ⟨#[]⟩ ∧ vs = [.ref p] ∧ SqL K H p (ss.map V.str) ∧ (catS ss).length ≤ 100000 ∧ ∀ z : Str, z.cps.toList = catS ss → Q (.str z) H
/-- Python's own names, one more -/
structure OwnS (mg : Str → Option Value) : Prop extends Own mg where
  repr : mg "repr" = none
end
end L2
/-! sets of texts: their walk, in whatever order it is drawn -/
namespace L2
open PySem
theorem erase_perm {α : Type} : ∀ (l : List α) (i : Nat) (h : i < l.length), (l[i] :: l.eraseIdx i).Perm l
  | [], i, h => by simp at h
  | x :: l, 0, h => by simp
  | x :: l, i + 1, h => by
    have h' : i < l.length := by simpa using h
    simp only [List.getElem_cons_succ, List.eraseIdx_cons_succ]
    exact (List.Perm.swap _ _ _).trans (.cons _ (erase_perm l i h'))
section
variable {M : Model} {A : Around} {E : Value → Shared → Prop} {s : Shared}
theorem any_choose {src : Source} {n : Nat} {Q : Nat → Shared → Prop} (hn : n ≠ 0) (h : ∀ i d, i < n → Q i { s with drawn := d }) : wpAny M A (choose src n) Q E s := fun Γ p _ => by
  unfold choose
  rw [Sem.wp_choose]
  exact ⟨hn, h _ _ (Nat.mod_lt _ (Nat.pos_of_ne_zero hn))⟩
theorem any_drawOrder {α : Type} : ∀ (n : Nat) (xs : List α) (s : Shared) {Q : List α → Shared → Prop}, xs.length = n → (∀ ys d, ys.Perm xs → Q ys { s with drawn := d }) → wpAny M A (drawOrder n xs) Q E s
  | 0, xs, s, Q, hl, h => by
    have e : xs = [] := List.eq_nil_of_length_eq_zero hl
    subst e
    exact wpAny_pure (h [] s.drawn (.refl _))
  | n + 1, [], s, Q, hl, h => by simp at hl
  | n + 1, x :: xs, s, Q, hl, h => by
    show wpAny M A (do
      let i ← choose .order (x :: xs).length
      match (x :: xs)[i]? with
      | some x' => return x' :: (← drawOrder n ((x :: xs).eraseIdx i))
      | none => unsupported "internal:drawOrder") Q E s
    refine wpAny_bind (any_choose (by simp) fun i d hi => ?_)
    rw [List.getElem?_eq_getElem hi]
    refine wpAny_bind (any_drawOrder n _ _ (by rw [List.length_eraseIdx_of_lt hi]; simp at hl ⊢; exact hl) fun ys d' hp => ?_)
    refine wpAny_pure (h _ d' ((List.Perm.cons _ hp).trans ?_))
    exact erase_perm (x :: xs) i hi
end
theorem pick_go {α : Type} (next : Nat → Nat) : ∀ (fuel k : Nat) (left : List α) (out : Array α), fuel = left.length → (pickOrder.go next fuel k left out).toList.Perm (out.toList ++ left)
  | 0, k, left, out, h => by
    have e : left = [] := List.eq_nil_of_length_eq_zero h.symm
    subst e
    unfold pickOrder.go
    simp
  | fuel + 1, k, left, out, h => by
    unfold pickOrder.go
    have hlt : next k % left.length < left.length := Nat.mod_lt _ (by omega)
    rw [List.getElem?_eq_getElem hlt]
    refine (pick_go next fuel (k + 1) _ _ (by rw [List.length_eraseIdx_of_lt hlt]; omega)).trans ?_
    rw [Array.toList_push, List.append_assoc]
    exact List.Perm.append_left _ (erase_perm _ _ hlt)
theorem pick_perm {α : Type} (next : Nat → Nat) (xs : Array α) : (pickOrder next xs).toList.Perm xs.toList := by
  unfold pickOrder
  have := pick_go next xs.size 0 xs.toList #[] (by simp)
  simpa using this
end L2
/-! sets of texts: what lies in the table, one text more -/
namespace L2
open PySem PySem.Spec PyProof.Rows
/-- the walk goes by the setting's own order -/
abbrev byT (w : World) : Bool := w.params.followText "set-order"
structure SetT (prog : Program) (w : World) (us : List Str) (es : Array (Int × Value)) (t : SetTable) : Prop where
  el : ElemsOf (PySem.strKind prog w) es.toList
  tx : ∃ vs : List Str, StrsAre (es.toList.map (·.2)) vs ∧ vs.Perm us
  nd : us.Nodup
  lt : es.size < scanBound
  fit : t.fits es.size = true
  pl : es.size = 0 ∨ t.plain = false
  ld : t.led = !byT w
abbrev setO (es : Array (Int × Value)) (ep : Nat) (t : SetTable) : Obj := { cls := .type "set", dict := none, data := .set es ep t, slots := #[] }
/-- a set of texts at a: us, each once, in some order -/
def SetS (prog : Program) (w : World) (a : Addr) (us : List Str) (h : Heap) : Prop := ∃ es ep t, h.get? a = some (setO es ep t) ∧ SetT prog w us es t
def addS (us : List Str) (x : Str) : List Str := if x ∈ us then us else us ++ [x]
theorem strs_len : ∀ {vs : List Value} {ss : List Str}, StrsAre vs ss → vs.length = ss.length
  | _, _, .nil => rfl
  | _, _, .cons _ _ h => by simp [strs_len h]
theorem strs_mem : ∀ {vs : List Value} {ss : List Str}, StrsAre vs ss → ∀ x, x ∈ ss ↔ ∃ v ∈ vs, Value.isStrOf x v = true
  | _, _, .nil, x => by simp
  | _, _, .cons y t h, x => by
    have ih := strs_mem h x
    have e : Value.isStrOf x (.str y t) = true ↔ x = y := ⟨fun h => by
      obtain ⟨u, h⟩ := Value.isStrOf_shape h
      injection h with h1 h2
      exact h1.symm, fun h => by subst h; simp [Value.isStrOf]⟩
    simp only [List.mem_cons, exists_eq_or_imp, ih, e]
theorem strs_perm : ∀ {vs us : List Value}, us.Perm vs → ∀ {ss : List Str}, StrsAre vs ss → ∃ ss', StrsAre us ss' ∧ ss'.Perm ss := by
  intro vs us p
  induction p with
  | nil => intro ss h; exact ⟨ss, h, .refl _⟩
  | cons x p ih =>
    intro ss h
    cases h with
    | cons y t h => obtain ⟨ss', a, b⟩ := ih h; exact ⟨y :: ss', .cons y t a, .cons _ b⟩
  | swap x y l =>
    intro ss h
    cases h with
    | cons a t h => cases h with
      | cons b u h => exact ⟨b :: a :: _, .cons b u (.cons a t h), .swap _ _ _⟩
  | trans p q ihp ihq =>
    intro ss h
    obtain ⟨s1, a1, b1⟩ := ihq h
    obtain ⟨s2, a2, b2⟩ := ihp a1
    exact ⟨s2, a2, b2.trans b1⟩
theorem strs_snoc : ∀ {vs : List Value} {ss : List Str} (x : Str) (t : Tok), StrsAre vs ss → StrsAre (vs ++ [.str x t]) (ss ++ [x])
  | _, _, x, t, .nil => .cons x t .nil
  | _, _, x, t, .cons y u h => .cons y u (strs_snoc x t h)
theorem layNew_led (t : SetTable) (es : Array (Int × Value)) (h : Int) (x : Value) : (layNew t es h x).2.1.led = t.led := by
  have so : ∀ (u : SetTable) (n : Nat), (u.orStandIn n).led = u.led := fun u n => by
    unfold SetTable.orStandIn
    split <;> rfl
  unfold layNew
  split
  · dsimp only
    rw [so]
    rfl
  · rfl
theorem relay_led (t : SetTable) (es : Array (Int × Value)) (n : Nat) : (relayAll t es n).2.1.led = t.led ∧ (t.plain = false → (relayAll t es n).2.1.plain = false) := by
  have la : ∀ m f mv ld pl hs t' o, SetTable.laid m f mv ld pl hs = some (t', o) → t'.led = ld ∧ t'.plain = pl := fun m f mv ld pl hs t' o e => by
    unfold SetTable.laid at e
    cases q : SetTable.layClean m hs with
    | none => rw [q] at e; cases e
    | some ow =>
      rw [q] at e
      simp only [Option.bind_eq_bind, Option.bind_some, Option.pure_def, Option.some.injEq, Prod.mk.injEq] at e
      obtain ⟨e, _⟩ := e
      subst e
      exact ⟨rfl, rfl⟩
  unfold relayAll
  split
  · rename_i t' order e
    have := la _ _ _ _ _ _ _ _ e
    dsimp only
    split
    · exact ⟨this.1, fun z => by rw [← z]; exact this.2⟩
    · exact ⟨rfl, fun _ => rfl⟩
  · exact ⟨rfl, fun _ => rfl⟩
section
variable {prog : Program} {w : World} {A : Around} {E : Value → Shared → Prop} {s : Shared} {a : Addr} {us : List Str} {x : Str} {tk : Tok}
theorem SetT.mem {es : Array (Int × Value)} {t : SetTable} (T : SetT prog w us es t) (x : Str) : x ∈ us ↔ ∃ e ∈ es.toList, (PySem.strKind prog w).is x e.2 = true := by
  obtain ⟨vs, h, p⟩ := T.tx
  rw [← p.mem_iff, strs_mem h x]
  simp only [List.mem_map]
  exact ⟨fun ⟨v, ⟨e, he, z⟩, q⟩ => ⟨e, he, by subst z; exact q⟩, fun ⟨e, he, q⟩ => ⟨e.2, ⟨e, he, rfl⟩, q⟩⟩
theorem SetT.size {es : Array (Int × Value)} {t : SetTable} (T : SetT prog w us es t) : es.size = us.length := by
  obtain ⟨vs, h, p⟩ := T.tx
  have := strs_len h
  rw [List.length_map, Array.length_toList] at this
  rw [this, p.length_eq]
theorem any_tail {g : Bool → Sem Unit} (hg : ∀ (b : Bool) (s₁ : Shared) (R : Unit → Shared → Prop), R () s₁ → wpAny (model prog w) A (g b) R E s₁) {es es1 : Array (Int × Value)} {ep : Nat} {t t2 : SetTable} {wd : Bool} {R : Option Bool → Shared → Prop}
    (ho : s.heap.get? a = some (setO es ep t)) (T : SetT prog w us es1 t2) (np : t2.plain = false)
    (h : ∀ h', Heap.SameBut a s.heap h' → SetS prog w a us h' → R (some true) { s with heap := h' }) :
    wpAny (model prog w) A (do
      storeSet a es1 t2
      if (!wd && t2.tooFull) = true then do
          g (relayAll t2 es1 (SetTable.grown es1.size)).2.2
          storeSet a (relayAll t2 es1 (SetTable.grown es1.size)).1 (relayAll t2 es1 (SetTable.grown es1.size)).2.1
          pure (some true)
        else pure (some true)) R E s := by
  refine wpAny_bind (wpAny_storeSet_of ho rfl ?_ (fits_of_scanBound T.lt))
  have o1 : (s.heap.update a (Obj.putSet es1 t2)).get? a = some (setO es1 (ep + 1) t2) := Heap.get?_update_self (Obj.putSet es1 t2) ho rfl
  have b1 := Heap.SameBut.update s.heap a (Obj.putSet es1 t2)
  split
  · have hp := relayAll_perm t2 es1 (SetTable.grown es1.size)
    have hf := relayAll_fits t2 es1 (SetTable.grown es1.size)
    obtain ⟨hl, hq⟩ := relay_led t2 es1 (SetTable.grown es1.size)
    have hq := hq np
    generalize relayAll t2 es1 (SetTable.grown es1.size) = Rl at hp hf hl hq ⊢
    obtain ⟨es2, t3, g2⟩ := Rl
    dsimp only at hp hf hl hq ⊢
    have sz : es2.size = es1.size := by have := hp.length_eq; simpa using this
    have T2 : SetT prog w us es2 t3 := by
      obtain ⟨vs, hv, pv⟩ := T.tx
      obtain ⟨vs', hv', pv'⟩ := strs_perm (hp.map (·.2)) hv
      exact ⟨T.el.perm hp, ⟨vs', hv', pv'.trans pv⟩, T.nd, by rw [sz]; exact T.lt, hf, .inr hq, hl.trans T.ld⟩
    refine wpAny_bind (hg _ _ _ ?_)
    refine wpAny_bind (wpAny_storeSet_of o1 rfl ?_ (fits_of_scanBound T2.lt))
    exact wpAny_pure (h _ (b1.trans (Heap.SameBut.update _ a _)) ⟨es2, ep + 1 + 1, t3, Heap.get?_update_self (Obj.putSet es2 t3) o1 rfl, T2⟩)
  · exact wpAny_pure (h _ b1 ⟨es1, ep + 1, t2, o1, T⟩)
theorem any_addT {Q : Bool → Shared → Prop} (S : SetS prog w a us s.heap) (room : us.length + 1 < scanBound) (h : ∀ b h', Heap.SameBut a s.heap h' → SetS prog w a (addS us x) h' → Q b { s with heap := h' }) :
    wpAny (model prog w) A (setAddHashed a (.str x tk) ((PySem.strKind prog w).hash x)) Q E s := by
  obtain ⟨es, ep, t, ho, T⟩ := id S
  have hk : (PySem.strKind prog w).is x (.str x tk) = true := by show Value.isStrOf x (.str x tk) = true; simp [Value.isStrOf]
  have sc : (Value.str x tk).scannable = true := rfl
  unfold setAddHashed setAddHashedIn
  refine wpAny_holding (wpAny_bind (wpAny_setState_of ho rfl T.fit ?_))
  dsimp only
  rw [byScan_of sc T.lt T.el, if_pos rfl]
  unfold setAddByScan
  refine wpAny_bind (wpAny_bind (wpAny_rule ?_))
  refine wpAny_bind (wpAny_setScan_of hk ho rfl T.fit T.el ?_)
  cases hr : es.toList.findIdx? (fun e => (PySem.strKind prog w).is x e.2) with
  | some j =>
    dsimp only
    obtain ⟨hj, hp, _⟩ := List.findIdx?_eq_some_iff_getElem.mp hr
    have hin : x ∈ us := (T.mem x).mpr ⟨_, List.getElem_mem hj, hp⟩
    refine wpAny_pure (wpAny_pure ?_)
    have e : s = { s with heap := s.heap } := by cases s; rfl
    rw [e]
    refine h false s.heap (Heap.SameBut.refl a s.heap) ?_
    rw [addS, if_pos hin]
    exact S
  | none =>
    dsimp only
    have hout : x ∉ us := fun z => by
      obtain ⟨e, he, hp⟩ := (T.mem x).mp z
      have := List.findIdx?_eq_none_iff.mp hr e he
      rw [hp] at this; cases this
    have eA : addS us x = us ++ [x] := by rw [addS, if_neg hout]
    have pm := layNew_perm t es ((PySem.strKind prog w).hash x) (.str x tk)
    have ft := layNew_fits t es ((PySem.strKind prog w).hash x) (.str x tk)
    have ld := layNew_led t es ((PySem.strKind prog w).hash x) (.str x tk)
    generalize layNew t es ((PySem.strKind prog w).hash x) (.str x tk) = L at pm ft ld ⊢
    obtain ⟨es1, t1, wd, gv⟩ := L
    dsimp only at pm ft ld ⊢
    rw [Array.toList_push] at pm
    have sz : es1.size = us.length + 1 := by
      have := pm.length_eq
      rw [← Array.length_toList, this, List.length_append, Array.length_toList, T.size]; rfl
    have base : ∀ t2 : SetTable, t2.fits es1.size = true → t2.plain = false → t2.led = t.led → SetT prog w (addS us x) es1 t2 := fun t2 f2 p2 l2 => by
      obtain ⟨vs, hv, pv⟩ := T.tx
      have h1 := strs_snoc x tk hv
      have h2 : (es.toList.map (·.2)) ++ [Value.str x tk] = (es.toList ++ [((PySem.strKind prog w).hash x, Value.str x tk)]).map (·.2) := by simp
      rw [h2] at h1
      obtain ⟨vs', hv', pv'⟩ := strs_perm (pm.map (·.2)) h1
      refine ⟨(T.el.push hk sc).perm pm, ⟨vs', hv', ?_⟩, ?_, by rw [sz]; exact room, f2, .inr p2, l2.trans T.ld⟩
      · rw [eA]; exact pv'.trans (pv.append_right _)
      · rw [eA, List.nodup_append]
        refine ⟨T.nd, by simp, fun y hy z hz e => hout ?_⟩
        have q : z = x := by simpa using hz
        rw [← q, ← e]
        exact hy
    have gw : ∀ (b : Bool) (s₁ : Shared) (R : Unit → Shared → Prop), R () s₁ → wpAny (model prog w) A (match b with | true => rule "set.scan.the-table-gave-way" | false => pure ()) R E s₁ :=
      fun b s₁ R q => by
        cases b
        · exact wpAny_pure q
        · exact wpAny_rule q
    refine wpAny_bind (gw _ _ _ ?_)
    have fin : ∀ h', Heap.SameBut a s.heap h' → SetS prog w a (addS us x) h' → wpAny (model prog w) A (pure true) Q E { s with heap := h' } := fun h' b S' => wpAny_pure (h true h' b S')
    split
    · refine wpAny_bind ?_
      rw [hashByValue_scannable 8 sc]
      refine wpAny_pure ?_
      rw [if_neg (by simp [plainKind])]
      exact any_tail (g := fun b => match b with | true => rule "set.scan.the-table-gave-way" | false => pure ()) gw ho (base _ (SetTable.fits_plain_off ft) rfl ld) rfl fun h' b S' => fin h' b S'
    · rename_i hp
      refine wpAny_bind (wpAny_pure ?_)
      rw [if_pos rfl]
      exact any_tail (g := fun b => match b with | true => rule "set.scan.the-table-gave-way" | false => pure ()) gw ho (base _ ft (by simpa using hp) ld) (by simpa using hp) fun h' b S' => fin h' b S'
end
end L2
/-! sets of texts: walked -/
namespace L2
open PySem PySem.Spec PyProof.Rows
theorem st_iter : Slot "set" "__iter__" "set.__iter__" :=
  Slot.of (owner := "set") (n := "__iter__") (by rw [typeLookup_type, builtinLookup_eq_fast]; kernel_rfl) (by decide +kernel) (by decide +kernel) (by decide +kernel) (by first | exact .inl (by decide +kernel) | exact .inr (by decide +kernel)) (by rw [isSubtype_type]; kernel_rfl)
theorem en_iter : entryFor table "set.__iter__" = some Builtin.«frozenset.__iter__» := entryFor_alias (id' := "frozenset.__iter__") (by kernel_rfl) rfl (by decide +kernel) (by kernel_rfl)
theorem ar_iter (a : Value) : argsOk "set.__iter__" ⟨[a], []⟩ := by
  unfold argsOk
  kernel_rfl
theorem st_next : Slot "set_iterator" "__next__" "set_iterator.__next__" :=
  Slot.of (owner := "set_iterator") (n := "__next__") (by rw [typeLookup_type, builtinLookup_eq_fast]; kernel_rfl) (by decide +kernel) (by decide +kernel) (by decide +kernel) (by first | exact .inl (by decide +kernel) | exact .inr (by decide +kernel)) (by rw [isSubtype_type]; kernel_rfl)
theorem en_next : entryFor table "set_iterator.__next__" = some Builtin.«set_iterator.__next__» := entryFor_of_fast (by kernel_rfl)
theorem ar_next (a : Value) : argsOk "set_iterator.__next__" ⟨[a], []⟩ := by
  unfold argsOk
  kernel_rfl
theorem st_self : Slot "set_iterator" "__iter__" "set_iterator.__iter__" :=
  Slot.of (owner := "set_iterator") (n := "__iter__") (by rw [typeLookup_type, builtinLookup_eq_fast]; kernel_rfl) (by decide +kernel) (by decide +kernel) (by decide +kernel) (by first | exact .inl (by decide +kernel) | exact .inr (by decide +kernel)) (by rw [isSubtype_type]; kernel_rfl)
theorem en_self : entryFor table "set_iterator.__iter__" = some Builtin.«dict_keyiterator.__iter__» := entryFor_alias (id' := "dict_keyiterator.__iter__") (by kernel_rfl) rfl (by decide +kernel) (by kernel_rfl)
theorem ar_self (a : Value) : argsOk "set_iterator.__iter__" ⟨[a], []⟩ := by
  unfold argsOk
  kernel_rfl
section
variable {prog : Program} {w : World} {A : Around} {E : Value → Shared → Prop} {s : Shared}
theorem any_stop {α : Type} {Q : α → Shared → Prop} (hh : A.handled = none)
    (h : ∀ e h', (∀ b o, s.heap.get? b = some o → h'.get? b = some o) → Shared.TypeIs { s with heap := h' } (.ref e) "StopIteration" → E (.ref e) { s with heap := h' }) :
    wpAny (model prog w) A (newExc (.type "StopIteration") [] >>= fun e => raiseNew e) Q E s := by
  refine wpAny_bind ?_
  simp only [newExc, newTuple]
  refine wpAny_bind (wpAny_newObj_type ?_ (by size_fits))
  refine wpAny_bind (m := firstArgMember _ _) (wpAny_of_eq (a := Value.none) (by first | rfl | (simp only [firstArgMember]; rfl)) ?_)
  refine wpAny_newObj_type ?_ (by size_fits)
  simp only [raiseNew]
  refine wpAny_bind (wpAny_handled ?_)
  rw [hh]
  refine wpAny_bind (wpAny_pure (wpAny_throw ?_))
  exact h _ _ (fun b o e => Heap.get?_push_of_some _ (Heap.get?_push_of_some _ e)) ⟨_, Heap.get?_push_size _ rfl, rfl⟩
theorem any_next {it : Addr} {o : Obj} {Q : Option Value → Shared → Prop} (ho : s.heap.get? it = some o) (hc : o.cls = .type "set_iterator")
    (h : wpAny (model prog w) A.in1 (Builtin.«set_iterator.__next__» ⟨[.ref it], []⟩) (fun r s' => ∃ v, r = .done (.ret v) ∧ Q (some v) s') (fun e s' => s'.TypeIs e "StopIteration" ∧ Q none s') s) :
    wpAny (model prog w) A (pyNext (.ref it)) Q E s := by
  have ht : s.TypeIs (.ref it) "set_iterator" := ⟨o, ho, hc⟩
  unfold pyNext
  refine wpAny_bind (wpAny_attempt (wpAny_callSpecial?_slot (name := Str.ofString "__next__") ht st_next (wpAny_call_entry st_next ht en_next ?_ (ar_next _))))
  refine wpAny_mono h (fun r s' ⟨v, e, q⟩ => ⟨v, e, wpAny_pure q⟩) fun e s' ⟨t, q⟩ => ?_
  exact wpAny_bind (wpAny_isInstance (T := "StopIteration") (b := true) t isSubtype_stop (wpAny_pure q))
end
end L2
namespace L2
open PySem PySem.Spec PyProof.Rows
/-- a walk over the set at a: the i-th turn is due -/
abbrev itO (first : Value) (i : Nat) (a : Addr) (n ep : Nat) : Obj := { cls := .type "set_iterator", data := .fields #[first, .int (i : Int) 0, .ref a, .int (n : Int) 0, .int (ep : Int) 0] }
section
variable {prog : Program} {w : World} {A : Around} {E : Value → Shared → Prop} {s : Shared} {it a : Addr} {us : List Str} {es : Array (Int × Value)} {ep : Nat} {t : SetTable}
theorem any_entries {Q : Array (Int × Value) → Shared → Prop} (ho : s.heap.get? a = some (setO es ep t)) (hf : t.fits es.size = true) (h : Q es s) : wpAny (model prog w) A (setEntries a) Q E s := by
  unfold setEntries
  exact wpAny_bind (wpAny_setState_of ho rfl hf (wpAny_pure h))
theorem any_byText {Q : Bool → Shared → Prop} (h : Q (byT w) s) : wpAny (model prog w) A setsByText Q E s := by
  unfold setsByText
  exact wpAny_bind (wpAny_askSetting (wpAny_pure h))
/-- where the setting tells the order -/
theorem any_nextNo {i slot : Nat} {n : Nat} {Q : Fin → Shared → Prop} (hi : s.heap.get? it = some (itO (.int (slot : Int) 0) i a n ep)) (ho : s.heap.get? a = some (setO es ep t)) (hf : t.fits es.size = true) (hn : es.size = n)
    (h : wpAny (model prog w) A (setNext a slot i ep) (fun r s' => wpAny (model prog w) A (match r with
      | some (x, next) => do
        setField (.ref it) 0 (rawInt next)
        setField (.ref it) 1 (rawInt (i + 1))
        ret x
      | none => do setField (.ref it) 2 .none; raiseNew (← newExc (.type "StopIteration") [])) Q E s') E s) :
    wpAny (model prog w) A (Builtin.«set_iterator.__next__» ⟨[.ref it], []⟩) Q E s := by
  unfold Builtin.«set_iterator.__next__»
  refine wpAny_bind (m := slotArgs "__next__" 0 ⟨[.ref it], []⟩) (wpAny_pure ?_)
  dsimp only
  refine wpAny_bind (wpAny_fieldsOf hi rfl ?_)
  show wpAny _ _ (setEntries a >>= _) _ _ s
  refine wpAny_bind (any_entries ho hf ?_)
  rw [hn]
  simp only [bne_self_eq_false, Bool.false_eq_true, if_false]
  refine wpAny_bind (m := setNext a slot i ep) h
end
end L2
namespace L2
open PySem PySem.Spec PyProof.Rows
section
variable {prog : Program} {w : World} {A : Around} {E : Value → Shared → Prop} {s : Shared} {it a : Addr} {us : List Str} {es : Array (Int × Value)} {ep : Nat} {t : SetTable}
theorem any_endIt {o : Obj} {vs : Array Value} {k : Nat} {Q : Fin → Shared → Prop} (hh : A.handled = none) (hi : s.heap.get? it = some o) (hd : o.data = .fields vs) (hk : k < vs.size)
    (h : ∀ e h', (∀ b u, b ≠ it → s.heap.get? b = some u → h'.get? b = some u) → Shared.TypeIs { s with heap := h' } (.ref e) "StopIteration" → E (.ref e) { s with heap := h' }) :
    wpAny (model prog w) A (do setField (.ref it) k .none; raiseNew (← newExc (.type "StopIteration") [])) Q E s := by
  refine wpAny_bind (wpAny_setField hi hd hk ?_)
  refine any_stop hh fun e h' kp ty => h e h' (fun b u hb q => kp b u ?_) ty
  rw [(Heap.SameBut.update s.heap it _).2 b hb]; exact q
theorem walkA (hh : A.handled = none) (hb : byT w = true) (T : SetT prog w us es t) (it a : Addr) (ne : it ≠ a) :
    WalksS prog w A it [it, a] [it] Eq es.size (fun i v => (pickOrder (w.params.setOrder a ep) es)[i]?.map (·.2) = some v)
      (fun i s => s.heap.get? it = some (itO (.int 0 0) i a es.size ep) ∧ s.heap.get? a = some (setO es ep t)) where
  sub := fun b hb => by simp at hb; simp [hb]
  grefl := fun _ => rfl
  gtrans := fun _ _ _ x y => x.trans y
  frame := fun i s h' tk st _ k => ⟨k it (by simp) _ st.1, k a (by simp) _ st.2⟩
  item := fun i s Q E hi st hQ => by
    refine any_next st.1 rfl (any_nextNo (slot := 0) st.1 st.2 T.fit rfl ?_)
    have sz : (pickOrder (w.params.setOrder a ep) es).size = es.size := by have := (pick_perm (w.params.setOrder a ep) es).length_eq; simpa using this
    unfold setNext
    refine wpAny_bind (wpAny_setState_of st.2 rfl T.fit ?_)
    dsimp only
    refine wpAny_bind (any_byText ?_)
    rw [if_pos hb]
    simp only [bne_self_eq_false, Bool.false_eq_true, if_false]
    unfold setWalk
    refine wpAny_bind (wpAny_bind (wpAny_setState_of st.2 rfl T.fit ?_))
    dsimp only
    refine wpAny_bind (any_byText ?_)
    rw [if_pos hb]
    refine wpAny_bind (wpAny_askSetting (wpAny_pure ?_))
    refine wpAny_pure ?_
    have hlt : i < (pickOrder (w.params.setOrder a ep) es).size := by rw [sz]; exact hi
    show wpAny _ _ (match Option.map (fun e => (e.2, 0)) (pickOrder (w.params.setOrder a ep) es)[i]? with
      | some (x, next) => do
        setField (.ref it) 0 (rawInt (next : Nat))
        setField (.ref it) 1 (rawInt (i + 1))
        ret x
      | none => do setField (.ref it) 2 .none; raiseNew (← newExc (.type "StopIteration") [])) _ _ _
    rw [Array.getElem?_eq_getElem hlt]
    dsimp only [Option.map_some]
    refine wpAny_bind (wpAny_setField_rec st.1 (by simp) fun h1 g1 b1 => ?_)
    refine wpAny_bind (wpAny_setField_rec g1 (by simp) fun h2 g2 b2 => ?_)
    refine wpAny_pure ⟨_, rfl, hQ _ _ (by rw [Array.getElem?_eq_getElem hlt]; rfl) ⟨?_, ?_⟩ ⟨?_, rfl, rfl, rfl, Nat.le_refl _⟩⟩
    · rw [g2]; rfl
    · rw [b2.2 a ne.symm, b1.2 a ne.symm]; exact st.2
    · intro b o hb e
      have hb' : b ≠ it := by simpa using hb
      rw [b2.2 b hb', b1.2 b hb']; exact e
  done := fun s Q E st hQ => by
    refine any_next st.1 rfl (any_nextNo (slot := 0) st.1 st.2 T.fit rfl ?_)
    have sz : (pickOrder (w.params.setOrder a ep) es).size = es.size := by have := (pick_perm (w.params.setOrder a ep) es).length_eq; simpa using this
    unfold setNext
    refine wpAny_bind (wpAny_setState_of st.2 rfl T.fit ?_)
    dsimp only
    refine wpAny_bind (any_byText ?_)
    rw [if_pos hb]
    simp only [bne_self_eq_false, Bool.false_eq_true, if_false]
    unfold setWalk
    refine wpAny_bind (wpAny_bind (wpAny_setState_of st.2 rfl T.fit ?_))
    dsimp only
    refine wpAny_bind (any_byText ?_)
    rw [if_pos hb]
    refine wpAny_bind (wpAny_askSetting (wpAny_pure ?_))
    refine wpAny_pure ?_
    show wpAny _ _ (match Option.map (fun e => (e.2, 0)) (pickOrder (w.params.setOrder a ep) es)[es.size]? with
      | some (x, next) => do
        setField (.ref it) 0 (rawInt (next : Nat))
        setField (.ref it) 1 (rawInt ((es.size : Int) + 1))
        ret x
      | none => do setField (.ref it) 2 .none; raiseNew (← newExc (.type "StopIteration") [])) _ _ _
    rw [Array.getElem?_eq_none (show (pickOrder (w.params.setOrder a ep) es).size ≤ es.size by rw [sz]; exact Nat.le_refl _)]
    dsimp only [Option.map_none]
    refine any_endIt hh st.1 rfl (by simp) fun e h' kp ty => ⟨ty, hQ _ ⟨fun b o hb q => kp b o (by simpa using hb) q, rfl, rfl, rfl, Nat.le_refl _⟩⟩
  self := fun i s Q E st hQ => by
    have ht : s.TypeIs (.ref it) "set_iterator" := ⟨_, st.1, rfl⟩
    refine wpAny_pyIter_slot ht st_self (wpAny_call_entry st_self ht en_self ?_ (ar_self _))
    show wpAny _ _ (ret (.ref it)) _ _ s
    exact wpAny_pure ⟨_, rfl, "set_iterator", _, ht, st_next.lookup, hQ⟩
end
end L2
namespace L2
open PySem PySem.Spec PyProof.Rows
theorem below_one (p : Nat) : SetTable.below #[p] 0 = 0 ∧ SetTable.below #[p] (p + 1) = 1 := by
  constructor
  · show SetTable.below.go #[p] 0 1 0 1 = 0
    simp [SetTable.below.go]
  · show SetTable.below.go #[p] (p + 1) 1 0 1 = 1
    simp [SetTable.below.go]
section
variable {prog : Program} {w : World} {A : Around} {E : Value → Shared → Prop} {s : Shared} {it a : Addr} {us : List Str} {es : Array (Int × Value)} {ep : Nat} {t : SetTable}
theorem any_setNextB {slot i : Nat} {Q : Option (Value × Nat) → Shared → Prop} (hb : byT w = false) (T : SetT prog w us es t) (h1 : es.size ≤ 1) (ho : s.heap.get? a = some (setO es ep t))
    (h : Q (match es[SetTable.below t.place slot]?, t.place[SetTable.below t.place slot]? with
    | some (_, x), some j => some (x, j + 1)
    | _, _ => none) s) : wpAny (model prog w) A (setNext a slot i ep) Q E s := by
  have ld : t.led = true := by rw [T.ld, hb]; rfl
  unfold setNext
  refine wpAny_bind (wpAny_setState_of ho rfl T.fit ?_)
  dsimp only
  refine wpAny_bind (any_byText ?_)
  rw [hb]
  simp only [Bool.false_eq_true, if_false]
  show wpAny _ _ (if (!t.plain && decide (es.size > 1)) = true then _ else (do
    (if (!t.led && !es.isEmpty) = true then unsupported "set:maker-not-led" else pure () : Sem Unit)
    pure (match es[SetTable.below t.place slot]?, t.place[SetTable.below t.place slot]? with
      | some (_, x), some j => some (x, j + 1)
      | _, _ => none))) _ _ _
  rw [if_neg (by rw [show decide (es.size > 1) = false from decide_eq_false (by omega)]; simp)]
  refine wpAny_bind ?_
  rw [if_neg (by rw [ld]; simp)]
  exact wpAny_pure (wpAny_pure h)
theorem walkB (hh : A.handled = none) (hb : byT w = false) (T : SetT prog w us es t) (h1 : es.size ≤ 1) (it a : Addr) (ne : it ≠ a) :
    WalksS prog w A it [it, a] [it] Eq es.size (fun i v => es[i]?.map (·.2) = some v)
      (fun i s => s.heap.get? it = some (itO (.int ((if i = 0 then 0 else t.place.getD 0 0 + 1 : Nat) : Int) 0) i a es.size ep) ∧ s.heap.get? a = some (setO es ep t)) where
  sub := fun b hb => by simp at hb; simp [hb]
  grefl := fun _ => rfl
  gtrans := fun _ _ _ x y => x.trans y
  frame := fun i s h' tk st _ k => ⟨k it (by simp) _ st.1, k a (by simp) _ st.2⟩
  item := fun i s Q E hi st hQ => by
    have i0 : i = 0 := by omega
    subst i0
    have e1 : es.size = 1 := by omega
    have pz : t.place.size = 1 := by have := T.fit; simp only [SetTable.fits, Bool.and_eq_true, beq_iff_eq] at this; rw [this.1, e1]
    obtain ⟨p, hp⟩ : ∃ p, t.place = #[p] := by
      refine ⟨t.place[0], ?_⟩
      apply Array.ext
      · simp [pz]
      · intro j h1 h2
        have : j = 0 := by simp at h2; exact h2
        subst this
        simp
    refine any_next st.1 rfl (any_nextNo (slot := 0) (by simpa using st.1) st.2 T.fit rfl ?_)
    refine any_setNextB hb T h1 st.2 ?_
    rw [hp, (below_one p).1]
    have hl0 : 0 < es.size := by omega
    rw [Array.getElem?_eq_getElem hl0]
    show wpAny _ _ (do
        setField (.ref it) 0 (rawInt ((p + 1 : Nat) : Int))
        setField (.ref it) 1 (rawInt ((0 : Nat) + 1 : Int))
        ret es[0].2) _ _ _
    refine wpAny_bind (wpAny_setField_rec st.1 (by simp) fun h1 g1 b1 => ?_)
    refine wpAny_bind (wpAny_setField_rec g1 (by simp) fun h2 g2 b2 => ?_)
    refine wpAny_pure ⟨_, rfl, hQ _ _ (by rw [Array.getElem?_eq_getElem hl0]; rfl) ⟨?_, ?_⟩ ⟨?_, rfl, rfl, rfl, Nat.le_refl _⟩⟩
    · rw [g2, hp]; rfl
    · rw [b2.2 a ne.symm, b1.2 a ne.symm]; exact st.2
    · intro b o hb e
      have hb' : b ≠ it := by simpa using hb
      rw [b2.2 b hb', b1.2 b hb']; exact e
  done := fun s Q E st hQ => by
    refine any_next st.1 rfl (any_nextNo st.1 st.2 T.fit rfl ?_)
    refine any_setNextB hb T h1 st.2 ?_
    have pz : t.place.size = es.size := by have := T.fit; simp only [SetTable.fits, Bool.and_eq_true, beq_iff_eq] at this; exact this.1
    have hn : es[SetTable.below t.place (if es.size = 0 then 0 else t.place.getD 0 0 + 1)]? = none := by
      by_cases z : es.size = 0
      · have : es = #[] := Array.size_eq_zero_iff.mp z
        subst this
        simp
      · rw [if_neg z]
        have e1 : es.size = 1 := by omega
        obtain ⟨p, hp⟩ : ∃ p, t.place = #[p] := by
          refine ⟨t.place[0]'(by omega), ?_⟩
          apply Array.ext
          · simp [pz, e1]
          · intro j h1 h2
            have : j = 0 := by simp at h2; exact h2
            subst this
            simp
        rw [hp]
        show es[SetTable.below #[p] (p + 1)]? = none
        rw [(below_one p).2]
        exact Array.getElem?_eq_none (by omega)
    rw [hn]
    dsimp only
    exact any_endIt hh st.1 rfl (by simp) fun e h' kp ty => ⟨ty, hQ _ ⟨fun b o hb q => kp b o (by simpa using hb) q, rfl, rfl, rfl, Nat.le_refl _⟩⟩
  self := fun i s Q E st hQ => by
    have ht : s.TypeIs (.ref it) "set_iterator" := ⟨_, st.1, rfl⟩
    refine wpAny_pyIter_slot ht st_self (wpAny_call_entry st_self ht en_self ?_ (ar_self _))
    show wpAny _ _ (ret (.ref it)) _ _ s
    exact wpAny_pure ⟨_, rfl, "set_iterator", _, ht, st_next.lookup, hQ⟩
abbrev tupO (ps : List Nat) : Obj := { cls := .type "tuple", data := .seq (ps.map fun (i : Nat) => rawInt (i : Int)).toArray }
theorem any_nextDr {i : Nat} {n : Nat} {tu : Addr} {ps : List Nat} {Q : Fin → Shared → Prop} (hi : s.heap.get? it = some (itO (.ref tu) i a n ep)) (ho : s.heap.get? a = some (setO es ep t)) (hu : s.heap.get? tu = some (tupO ps)) (hf : t.fits es.size = true) (hn : es.size = n)
    (h : match ps[i]? with
      | some pl => ∃ e, es[pl]? = some e ∧ wpAny (model prog w) A (do
        setField (.ref it) 1 (rawInt (i + 1))
        ret e.2) Q E s
      | none => wpAny (model prog w) A (do setField (.ref it) 0 (rawInt 0); setField (.ref it) 2 .none; raiseNew (← newExc (.type "StopIteration") [])) Q E s) :
    wpAny (model prog w) A (Builtin.«set_iterator.__next__» ⟨[.ref it], []⟩) Q E s := by
  unfold Builtin.«set_iterator.__next__»
  refine wpAny_bind (m := slotArgs "__next__" 0 ⟨[.ref it], []⟩) (wpAny_pure ?_)
  dsimp only
  refine wpAny_bind (wpAny_fieldsOf hi rfl ?_)
  show wpAny _ _ (setEntries a >>= _) _ _ s
  refine wpAny_bind (any_entries ho hf ?_)
  rw [hn]
  simp only [bne_self_eq_false, Bool.false_eq_true, if_false]
  show wpAny _ _ (seqItems? (.ref tu) >>= _) _ _ s
  refine wpAny_bind (wpAny_seqItems hu rfl ?_)
  dsimp only
  have e : (ps.map fun (i : Nat) => rawInt (i : Int)).toArray[((i : Int)).toNat]? = ps[i]?.map fun (i : Nat) => rawInt (i : Int) := by simp
  rw [e]
  cases q : ps[i]? with
  | none =>
    rw [q] at h
    exact h
  | some pl =>
    rw [q] at h
    obtain ⟨en, he, h⟩ := h
    show wpAny _ _ (setNextDrawn a ((pl : Int)).toNat ((ep : Int)).toNat >>= _) _ _ s
    unfold setNextDrawn
    refine wpAny_bind (wpAny_bind (wpAny_setState_of ho rfl hf ?_))
    dsimp only
    rw [show ((ep : Int)).toNat = ep by simp, show ((pl : Int)).toNat = pl by simp]
    simp only [bne_self_eq_false, Bool.false_eq_true, if_false]
    rw [he]
    exact wpAny_pure h
theorem walkC (hh : A.handled = none) (T : SetT prog w us es t) (it a tu : Addr) (ne : it ≠ a) (nu : it ≠ tu) (ps : List Nat) (hp : ps.Perm (List.range es.size)) :
    WalksS prog w A it [it, a, tu] [it] Eq es.size (fun i v => ∃ pl e, ps[i]? = some pl ∧ es[pl]? = some e ∧ v = e.2)
      (fun i s => s.heap.get? it = some (itO (.ref tu) i a es.size ep) ∧ s.heap.get? a = some (setO es ep t) ∧ s.heap.get? tu = some (tupO ps)) where
  sub := fun b hb => by simp at hb; simp [hb]
  grefl := fun _ => rfl
  gtrans := fun _ _ _ x y => x.trans y
  frame := fun i s h' tk st _ k => ⟨k it (by simp) _ st.1, k a (by simp) _ st.2.1, k tu (by simp) _ st.2.2⟩
  item := fun i s Q E hi st hQ => by
    have pl : ps.length = es.size := by rw [hp.length_eq, List.length_range]
    have hlt : i < ps.length := by omega
    have hm : ps[i] < es.size := by have := hp.mem_iff.mp (List.getElem_mem hlt); simpa using this
    refine any_next st.1 rfl (any_nextDr st.1 st.2.1 st.2.2 T.fit rfl ?_)
    rw [List.getElem?_eq_getElem hlt]
    refine ⟨es[ps[i]], Array.getElem?_eq_getElem hm, ?_⟩
    refine wpAny_bind (wpAny_setField_rec st.1 (by simp) fun h1 g1 b1 => ?_)
    refine wpAny_pure ⟨_, rfl, hQ _ _ ⟨_, _, List.getElem?_eq_getElem hlt, Array.getElem?_eq_getElem hm, rfl⟩ ⟨?_, ?_, ?_⟩ ⟨?_, rfl, rfl, rfl, Nat.le_refl _⟩⟩
    · rw [g1]; rfl
    · rw [b1.2 a ne.symm]; exact st.2.1
    · rw [b1.2 tu nu.symm]; exact st.2.2
    · intro b o hb e
      have hb' : b ≠ it := by simpa using hb
      rw [b1.2 b hb']; exact e
  done := fun s Q E st hQ => by
    have pl : ps.length = es.size := by rw [hp.length_eq, List.length_range]
    refine any_next st.1 rfl (any_nextDr st.1 st.2.1 st.2.2 T.fit rfl ?_)
    rw [List.getElem?_eq_none (by omega)]
    refine wpAny_bind (wpAny_setField_rec st.1 (by simp) fun h1 g1 b1 => ?_)
    refine any_endIt hh g1 rfl (by simp) fun e h' kp ty => ⟨ty, hQ _ ⟨fun b o hb q => kp b o (by simpa using hb) ?_, rfl, rfl, rfl, Nat.le_refl _⟩⟩
    have hb' : b ≠ it := by simpa using hb
    show h1.get? b = some o
    rw [b1.2 b hb']; exact q
  self := fun i s Q E st hQ => by
    have ht : s.TypeIs (.ref it) "set_iterator" := ⟨_, st.1, rfl⟩
    refine wpAny_pyIter_slot ht st_self (wpAny_call_entry st_self ht en_self ?_ (ar_self _))
    show wpAny _ _ (ret (.ref it)) _ _ s
    exact wpAny_pure ⟨_, rfl, "set_iterator", _, ht, st_next.lookup, hQ⟩
end
end L2
namespace L2
open PySem PySem.Spec PyProof.Rows
/-- what a walk over a set gives, all of it -/
def Told (P : Nat → Value → Prop) (us : List Str) : Prop := ∀ acc : Array Value, ItemsOf P acc us.length → ∃ vs, StrsAre acc.toList vs ∧ vs.Perm us
theorem told_of {P : Nat → Value → Prop} {us : List Str} {out : List Value} {vs : List Str} (hl : out.length = us.length) (h : ∀ i v, P i v → out[i]? = some v) (hs : StrsAre out vs) (hp : vs.Perm us) : Told P us := fun acc ⟨h1, h2⟩ => by
  have e : acc.toList = out := by
    apply List.ext_getElem?
    intro i
    by_cases hi : i < acc.size
    · rw [h i acc[i] (h2 i _ (Array.getElem?_eq_getElem hi)), Array.getElem?_toList, Array.getElem?_eq_getElem hi]
    · rw [Array.getElem?_toList, Array.getElem?_eq_none (by omega), List.getElem?_eq_none (by omega)]
  rw [e]
  exact ⟨vs, hs, hp⟩
section
variable {prog : Program} {w : World} {A : Around} {E : Value → Shared → Prop} {s : Shared} {a : Addr} {us : List Str}
theorem any_iterSet {Q : Value → Shared → Prop} (S : SetS prog w a us s.heap)
    (h : ∀ (it : Addr) (fp : List Addr) (P : Nat → Value → Prop) (St : Nat → Shared → Prop) (h' : Heap) (d : Drawn), (∀ A' : Around, A'.handled = none → ∃ n, n = us.length ∧ WalksS prog w A' it fp [it] Eq n P St) → St 0 { s with heap := h', drawn := d } → Told P us →
      (∀ b ∈ fp, b = a ∨ s.heap.objs.size ≤ b) → s.heap.objs.size ≤ it → (∀ b o, s.heap.get? b = some o → h'.get? b = some o) → Q (.ref it) { s with heap := h', drawn := d }) :
    wpAny (model prog w) A (pyIter (.ref a)) Q E s := by
  obtain ⟨es, ep, t, ho, T⟩ := id S
  have alt : a < s.heap.objs.size := Heap.lt_size ho
  have ht : s.TypeIs (.ref a) "set" := ⟨_, ho, rfl⟩
  have sz := T.size
  obtain ⟨vs, hv, pv⟩ := T.tx
  refine wpAny_pyIter_slot ht st_iter (wpAny_call_entry st_iter ht en_iter ?_ (ar_iter _))
  unfold Builtin.«frozenset.__iter__» Builtin.Frozenset.slot0
  refine wpAny_bind (wpAny_bind (m := slotArgs "__iter__" 0 ⟨[.ref a], []⟩) (wpAny_pure ?_))
  show wpAny _ _ (pure a) _ _ s
  refine wpAny_pure ?_
  unfold Builtin.Frozenset.sizeOf
  refine wpAny_bind (wpAny_bind (any_entries ho T.fit (wpAny_pure ?_)))
  unfold setDrawn
  refine wpAny_bind (wpAny_bind (wpAny_setState_of ho rfl T.fit ?_))
  dsimp only
  refine wpAny_bind (any_byText (wpAny_pure ?_))
  show wpAny _ _ (if (!byT w && (!t.plain && decide (es.size > 1))) = true then _ else _) _ _ s
  have fin : ∀ (first : Value) (h1 : Heap) (d : Drawn) (St : Nat → Shared → Prop), (∀ b o, s.heap.get? b = some o → h1.get? b = some o) → s.heap.objs.size ≤ h1.objs.size →
      (∀ s2 : Shared, s2.heap.get? h1.objs.size = some (itO first 0 a es.size ep) → (∀ b o, h1.get? b = some o → s2.heap.get? b = some o) →
        Q (.ref h1.objs.size) { s with heap := h1.push (itO first 0 a es.size ep), drawn := d }) → wpAny (model prog w) A.in1 (do
      ret (← newFields "set_iterator" [first, rawInt 0, .ref a, rawInt es.size, rawInt (← setEpoch a)])) (fun fin s' => ∃ v, fin = .done (.ret v) ∧ ∃ T' r, s'.TypeIs v T' ∧ typeLookup (.type T') "__next__" = pure (some r) ∧ Q v s') E { s with heap := h1, drawn := d } := by
    intro first h1 d St k le q
    refine wpAny_bind (wpAny_setEpoch_of (k a _ ho) rfl T.fit ?_)
    refine wpAny_bind (wpAny_newObj_type ?_ (by size_fits))
    exact wpAny_pure ⟨_, rfl, "set_iterator", _, ⟨_, Heap.get?_push_size _ rfl, rfl⟩, st_next.lookup, q { s with heap := h1.push (itO first 0 a es.size ep) } (Heap.get?_push_size _ rfl) fun b o e => Heap.get?_push_of_some _ e⟩
  cases hb : byT w with
  | true =>
    rw [if_neg (by simp)]
    refine wpAny_bind (wpAny_pure ?_)
    have e : s = { s with heap := s.heap, drawn := s.drawn } := by cases s; rfl
    have hp := pick_perm (w.params.setOrder a ep) es
    obtain ⟨vs', hv', pv'⟩ := strs_perm (hp.map (·.2)) hv
    have nea : s.heap.objs.size ≠ a := Nat.ne_of_gt alt
    refine fin (.int 0 0) s.heap s.drawn (fun _ _ => True) (fun _ _ e => e) (Nat.le_refl _) fun s2 g k => ?_
    refine h s.heap.objs.size [s.heap.objs.size, a] _ _ _ _ (fun A' hA => ⟨es.size, sz, walkA (ep := ep) hA hb T _ a nea⟩) ⟨Heap.get?_push_size _ rfl, Heap.get?_push_of_some _ ho⟩ ?_ (fun b m => ?_) (Nat.le_refl _) fun b o e => Heap.get?_push_of_some _ e
    · refine told_of (out := (pickOrder (w.params.setOrder a ep) es).toList.map (·.2)) (vs := vs') (by rw [List.length_map, hp.length_eq, Array.length_toList, sz]) (fun i v q => ?_) hv' (pv'.trans pv)
      rw [List.getElem?_map, Array.getElem?_toList]
      exact q
    · simp only [List.mem_cons, List.not_mem_nil, or_false] at m
      rcases m with m | m
      · exact .inr (by rw [m]; exact Nat.le_refl _)
      · exact .inl m
  | false =>
    by_cases h1 : es.size ≤ 1
    · rw [if_neg (by simp [show ¬ es.size > 1 by omega])]
      refine wpAny_bind (wpAny_pure ?_)
      have nea : s.heap.objs.size ≠ a := Nat.ne_of_gt alt
      refine fin (.int 0 0) s.heap s.drawn (fun _ _ => True) (fun _ _ e => e) (Nat.le_refl _) fun s2 g k => ?_
      refine h s.heap.objs.size [s.heap.objs.size, a] _ _ _ _ (fun A' hA => ⟨es.size, sz, walkB (ep := ep) hA hb T h1 _ a nea⟩) ⟨Heap.get?_push_size _ rfl, Heap.get?_push_of_some _ ho⟩ ?_ (fun b m => ?_) (Nat.le_refl _) fun b o e => Heap.get?_push_of_some _ e
      · refine told_of (out := es.toList.map (·.2)) (vs := vs) (by rw [List.length_map, Array.length_toList, sz]) (fun i v q => ?_) hv pv
        rw [List.getElem?_map, Array.getElem?_toList]
        exact q
      · simp only [List.mem_cons, List.not_mem_nil, or_false] at m
        rcases m with m | m
        · exact .inr (by rw [m]; exact Nat.le_refl _)
        · exact .inl m
    · have np : t.plain = false := T.pl.resolve_left (by omega)
      rw [if_pos (by simp [np]; omega)]
      refine wpAny_bind (any_drawOrder es.size (List.range es.size) s (by simp) fun ps d hp => ?_)
      refine wpAny_bind (wpAny_newTuple ?_ (by rw [List.length_map, hp.length_eq, List.length_range]; exact fits_of_scanBound T.lt))
      have nea : s.heap.objs.size ≠ a := Nat.ne_of_gt alt
      have e2 : (s.heap.push (tupO ps)).objs.size = s.heap.objs.size + 1 := Heap.size_push ..
      refine fin (.ref s.heap.objs.size) (s.heap.push (tupO ps)) d (fun _ _ => True) (fun _ _ e => Heap.get?_push_of_some _ e) (by rw [e2]; omega) fun s2 g k => ?_
      refine h (s.heap.push (tupO ps)).objs.size [(s.heap.push (tupO ps)).objs.size, a, s.heap.objs.size] _ _ _ _ (fun A' hA => ⟨es.size, sz, walkC (ep := ep) hA T _ a s.heap.objs.size (by rw [e2]; exact Nat.ne_of_gt (Nat.lt_succ_of_lt alt)) (by rw [e2]; exact Nat.ne_of_gt (Nat.lt_succ_self _)) ps hp⟩) ⟨Heap.get?_push_size _ rfl, Heap.get?_push_of_some _ (Heap.get?_push_of_some _ ho), Heap.get?_push_of_some _ (Heap.get?_push_size _ rfl)⟩ ?_ (fun b m => ?_) (by rw [e2]; omega) fun b o e => Heap.get?_push_of_some _ (Heap.get?_push_of_some _ e)
      · have hfm : (ps.filterMap fun p => es[p]?).Perm es.toList := (hp.filterMap _).trans (by rw [filterMap_getElem?_range])
        obtain ⟨vs', hv', pv'⟩ := strs_perm (hfm.map (·.2)) hv
        have hmm : ∀ p ∈ ps, p < es.size := fun p m => by have := hp.mem_iff.mp m; simpa using this
        have hall : ∀ (l : List Nat), (∀ p ∈ l, p < es.size) → ∀ i : Nat, (l.filterMap fun p => es[p]?)[i]? = (l[i]?).bind fun p => es[p]? := by
          intro l
          induction l with
          | nil => intro _ i; simp
          | cons x l ih =>
            intro hx i
            have hx0 := hx x (by simp)
            rw [List.filterMap_cons, Array.getElem?_eq_getElem hx0]
            cases i with
            | zero => simp [hx0]
            | succ i => simp only [List.getElem?_cons_succ]; exact ih (fun p m => hx p (List.mem_cons_of_mem _ m)) i
        refine told_of (out := (ps.filterMap fun p => es[p]?).map (·.2)) (vs := vs') (by rw [List.length_map, hfm.length_eq, Array.length_toList, sz]) (fun i v ⟨pl, e, q1, q2, q3⟩ => ?_) hv' (pv'.trans pv)
        rw [List.getElem?_map, hall ps hmm, q1]
        simp [q2, q3]
      · simp only [List.mem_cons, List.not_mem_nil, or_false] at m
        rcases m with m | m | m
        · exact .inr (by rw [m, e2]; omega)
        · exact .inl m
        · exact .inr (by rw [m]; exact Nat.le_refl _)
end
end L2
namespace L2
open PySem PySem.Spec PyProof.Rows
theorem st_len : Slot "set" "__len__" "set.__len__" :=
  Slot.of (owner := "set") (n := "__len__") (by rw [typeLookup_type, builtinLookup_eq_fast]; kernel_rfl) (by decide +kernel) (by decide +kernel) (by decide +kernel) (by first | exact .inl (by decide +kernel) | exact .inr (by decide +kernel)) (by rw [isSubtype_type]; kernel_rfl)
theorem sub_ss : isSubtype (.type "set") (.type "set") = pure true := by rw [isSubtype_type]; kernel_rfl
section
variable {prog : Program} {w : World} {A : Around} {E : Value → Shared → Prop} {s : Shared} {a : Addr} {us : List Str}
theorem any_hint {Q : Bool → Shared → Prop} (ht : s.TypeIs (.ref a) "set") (h : Q false s) : wpAny (model prog w) A (Builtin.List.listLengthHint (.ref a)) Q E s := by
  unfold Builtin.List.listLengthHint
  refine wpAny_bind (wpAny_specialOf ht st_len.lookup ?_)
  have e1 : splitId "set.__len__" = some ("set", "__len__") := by decide +kernel
  dsimp only
  rw [e1]
  dsimp only
  refine wpAny_bind (wpAny_isInstance ht sub_ss ?_)
  simp only [Bool.not_true, Bool.false_eq_true, if_false]
  refine wpAny_ite ?_
  rw [if_pos (by decide +kernel)]
  refine wpAny_bind (wpAny_typeOf ht ?_)
  exact wpAny_pure h
end
end L2
namespace L2
open PySem PySem.Spec PyProof.Rows
section
variable {prog : Program} {w : World} {A : Around} {E : Value → Shared → Prop} {s : Shared} {a : Addr} {us : List Str}
theorem any_collectSet {Q : List Value → Shared → Prop} (hh : A.handled = none) (S : SetS prog w a us s.heap)
    (hQ : ∀ h' d tk (acc : List Value) vs, StrsAre acc vs → vs.Perm us → s.heap.objs.size < h'.objs.size → (∀ b o, s.heap.get? b = some o → h'.get? b = some o) → Q acc { s with heap := h', drawn := d, toks := tk }) :
    wpAny (model prog w) A (collect (.ref a)) Q E s := by
  have hl : us.length ≤ sizeLine := by
    obtain ⟨es, ep, t, ho, T⟩ := id S
    rw [← T.size]; exact fits_of_scanBound T.lt
  have alt : a < s.heap.objs.size := by
    obtain ⟨es, ep, t, ho, T⟩ := id S
    exact Heap.lt_size ho
  unfold collect
  refine wpAny_bind (wpAny_runValue (codeAny_builtin F.entry_proto_collect ?_))
  rw [Around.under_plainId F.plain_proto_collect _]
  show wpAny _ A.in1 (newList [] >>= fun l => again (.builtin "list.__iadd__" ⟨[l, .ref a], []⟩)) _ _ s
  refine wpAny_bind (wpAny_newObj_type ?_ (by size_fits))
  refine wpAny_pure ⟨plainId_quiet F.plain_list_iadd _, codeAny_builtin F.entry_list_iadd ?_⟩
  rw [Around.under_plainId F.plain_list_iadd _]
  show wpAny _ A.in1 (Builtin.List.listExtendWith (.ref s.heap.objs.size) (.ref a) (.ref s.heap.objs.size)) _ _ _
  unfold Builtin.List.listExtendWith
  have S1 : SetS prog w a us (s.heap.push { cls := .type "list", data := .seq ([] : List Value).toArray }) := by
    obtain ⟨es, ep, t, ho, T⟩ := id S
    exact ⟨es, ep, t, Heap.get?_push_of_some _ ho, T⟩
  have ht : Shared.TypeIs { s with heap := s.heap.push { cls := .type "list", data := .seq ([] : List Value).toArray } } (.ref a) "set" := by
    obtain ⟨es, ep, t, ho, T⟩ := id S1
    exact ⟨_, ho, rfl⟩
  refine wpAny_bind (wpAny_typeOf ht ?_)
  have h1 : Builtin.List.listSameRef (.ref s.heap.objs.size) (.ref a) = false := by simp [Builtin.List.listSameRef]; exact Nat.ne_of_gt alt
  have h2 : (Value.type "set" == Value.type "list") = false := by decide
  have h3 : (Value.type "set" == Value.type "tuple") = false := by decide
  simp only [h1, h2, h3, Bool.or_false, Bool.false_eq_true, if_false]
  refine wpAny_bind (any_iterSet S1 fun it fp P St h' d W st0 td hfp hit kp => ?_)
  have ht' : Shared.TypeIs { s with heap := h', drawn := d } (.ref a) "set" := by
    obtain ⟨o, e, c⟩ := ht
    exact ⟨o, kp _ _ e, c⟩
  refine wpAny_bind (wpAny_holding (any_hint ht' ?_))
  have hA : A.in1.in1.handled = none := by simp [hh]
  obtain ⟨n, hn, W⟩ := W A.in1 (by simp [hh])
  subst hn
  refine wpAny_ite ?_
  rw [if_pos (by decide +kernel)]
  refine wpAny_bind (wpAny_rule ?_)
  have sz1 : (s.heap.push { cls := .type "list", data := .seq ([] : List Value).toArray }).objs.size = s.heap.objs.size + 1 := Heap.size_push ..
  have g0 : h'.get? s.heap.objs.size = some { cls := .type "list", data := .seq ([] : List Value).toArray } := kp _ _ (Heap.get?_push_size _ rfl)
  have nf : s.heap.objs.size ∉ fp := fun m => by
    rcases hfp _ m with z | z
    · exact absurd z (Nat.ne_of_gt alt)
    · rw [sz1] at z; omega
  refine wpAny_bind ?_
  show wpAny _ A.in1 (updateSeq s.heap.objs.size (·.push .none) >>= fun _ => updateSeq s.heap.objs.size (·.pop)) _ _ _
  refine wpAny_bind (wpAny_updateSeq g0 rfl ?_)
  have g1 := Heap.get?_update_self (Obj.mapSeq (·.push Value.none)) g0 rfl
  refine wpAny_updateSeq g1 rfl ?_
  have g2 := Heap.get?_update_self (Obj.mapSeq (·.pop)) g1 rfl
  have oth : ∀ b o, b ≠ s.heap.objs.size → h'.get? b = some o → ((h'.update s.heap.objs.size (Obj.mapSeq (·.push Value.none))).update s.heap.objs.size (Obj.mapSeq (·.pop))).get? b = some o :=
    fun b o hb e => (Heap.get?_update_other _ _ (Ne.symm hb)).trans ((Heap.get?_update_other _ _ (Ne.symm hb)).trans e)
  refine wpAny_pure ⟨plainId_quiet F.plain_extend_loop _, codeAny_extend_loopS W hl _ nf _ us.length 0 _ _ _ rfl (Nat.zero_le _)
    (W.frame 0 { s with heap := h', drawn := d } _ s.toks st0 (Nat.le_refl _) fun b hb o e => oth b o (fun z => nf (z ▸ hb)) e) g2 (ItemsOf.nil P) fun s' acc' c' hm g' hacc => ?_⟩
  show wpAny _ A (load s.heap.objs.size >>= _) _ _ s'
  refine wpAny_bind (wpAny_load g' ?_)
  obtain ⟨vs, hs, hp⟩ := td acc' hacc
  obtain ⟨h'', g'', d'', tk'', os''⟩ := s'
  have e1 : g'' = s.gens := hm.gens.symm
  have e2 : os'' = s.os := hm.os
  subst e1 e2
  refine wpAny_pure (hQ h'' d'' tk'' acc'.toList vs hs hp (Heap.lt_size g') fun b o e => hm.heap b o (fun m => ?_) (oth b o (Nat.ne_of_lt (Heap.lt_size e)) (kp b o (Heap.get?_push_of_some _ e))))
  have lt := Heap.lt_size e
  simp only [List.mem_cons, List.not_mem_nil, or_false] at m
  rcases m with m | m
  · rw [m] at lt; exact Nat.lt_irrefl _ lt
  · rw [m] at lt; rw [sz1] at hit; exact absurd lt (Nat.not_lt.mpr (Nat.le_of_succ_le hit))
end
end L2
namespace L2
open PySem PySem.Spec PyProof.Rows
section
variable {prog : Program} {w : World} {A : Around} {E : Value → Shared → Prop} {s : Shared} {a : Addr} {us : List Str}
theorem any_sortedSet {Q : Value → Shared → Prop} (hh : A.handled = none) (S : SetS prog w a us s.heap) (h64 : us.length < 64)
    (h : ∀ h' d tk (l : Addr) (out : List Value) (ss : List Str) (e : Nat), StrsAre out ss → ss.Perm us → sortedS ss = true → h'.get? l = some (seqObj "list" out.toArray e) → s.heap.objs.size ≤ l → (∀ b o, s.heap.get? b = some o → h'.get? b = some o) →
      Q (.ref l) { s with heap := h', drawn := d, toks := tk }) : wpAny (model prog w) A (call (.builtin "sorted") [.ref a]) Q E s := by
  refine Calls.call_function_entry kind_sorted plain_sorted entry_sorted (args_sorted1 _) ?_
  unfold Builtin.«sorted»
  refine wpAny_bind (m := checkCount "sorted" 1 1 _) (wpAny_pure ?_)
  refine wpAny_bind (any_collectSet (by simp [hh]) S fun h1 d tk acc vs hs hp le kp => ?_)
  have hlen : acc.length < 64 := by rw [strs_len hs, hp.length_eq]; exact h64
  refine wpAny_bind (wpAny_newList ?_ (Nat.le_of_lt (Nat.lt_trans hlen (by decide))))
  have hoL : (h1.push (seqObj "list" acc.toArray 0)).get? h1.objs.size = some (seqObj "list" acc.toArray 0) := Heap.get?_push_size _ rfl
  refine wpAny_bind (wpAny_holding (wpAny_call_entry slot_list_sort ⟨_, hoL, rfl⟩ entry_list_sort (list_sort_treeK strKind_oneLt hoL hs.keysOf (fun v₁ v₂ rest e => keyKind_strs (by rw [← e]; exact hs)) hlen fun st' a1 a2 => ⟨_, rfl, ?_⟩) (args_list_sort _)))
  obtain ⟨ss', b1, b2, b3⟩ := sorted_out_str hs a1 a2
  obtain ⟨e, he⟩ := sortedHeap_at (out := (arrOf st').map (·.2)) hoL
  refine wpAny_pure ⟨_, rfl, h _ _ _ _ ((arrOf st').map (·.2)).toList ss' e b1 (b2.trans hp) b3 (by rw [Array.toArray_toList]; exact he) (Nat.le_of_lt le) fun b o q => ?_⟩
  have lt := Heap.lt_size (kp b o q)
  rw [sortedHeap_old (Nat.ne_of_lt lt) (by rw [Heap.size_push]; exact Nat.lt_succ_of_lt lt)]
  exact Heap.get?_push_of_some _ (kp b o q)
end
end L2
namespace L2
open PySem PySem.Spec PyProof.Rows
/-- the texts met so far, each once -/
def metS (val : Nat → Str) (i : Nat) : List Str := ((List.range i).map val).foldl addS []
theorem metS_succ (val : Nat → Str) (i : Nat) : metS val (i + 1) = addS (metS val i) (val i) := by
  unfold metS
  rw [List.range_succ, List.map_append, List.foldl_append]
  rfl
theorem metS_len (val : Nat → Str) : ∀ i, (metS val i).length ≤ i
  | 0 => Nat.le_refl _
  | i + 1 => by
    rw [metS_succ]
    have := metS_len val i
    unfold addS
    split
    · omega
    · rw [List.length_append, List.length_singleton]; omega
theorem addS_mem (us : List Str) (x y : Str) : y ∈ addS us x ↔ y ∈ us ∨ y = x := by
  unfold addS
  split
  · exact ⟨.inl, fun h => h.elim id fun e => by subst e; assumption⟩
  · simp
theorem addS_nd {us : List Str} (h : us.Nodup) (x : Str) : (addS us x).Nodup := by
  unfold addS
  split
  · exact h
  · rename_i n
    rw [List.nodup_append]
    exact ⟨h, by simp, fun a ha b hb e => n (by rw [← show b = x by simpa using hb, ← e]; exact ha)⟩
/-- the texts of a list, each once -/
def setL (ss : List Str) : List Str := ss.foldl addS []
theorem foldS_mem : ∀ (ss us : List Str) (y : Str), y ∈ ss.foldl addS us ↔ y ∈ us ∨ y ∈ ss
  | [], us, y => by simp
  | x :: ss, us, y => by rw [List.foldl_cons, foldS_mem ss, addS_mem, List.mem_cons, or_assoc]
theorem foldS_nd : ∀ (ss us : List Str), us.Nodup → (ss.foldl addS us).Nodup
  | [], us, h => h
  | x :: ss, us, h => foldS_nd ss _ (addS_nd h x)
theorem setL_mem (ss : List Str) (y : Str) : y ∈ setL ss ↔ y ∈ ss := by rw [setL, foldS_mem]; simp
theorem setL_nd (ss : List Str) : (setL ss).Nodup := foldS_nd ss [] List.nodup_nil
theorem metS_all {val : Nat → Str} {ss : List Str} (h : ∀ i (hi : i < ss.length), val i = ss[i]) : metS val ss.length = setL ss := by
  unfold metS setL
  congr 1
  apply List.ext_getElem
  · simp
  · intro i h1 h2
    simp [h i h2]
section
variable {prog : Program} {w : World} {A : Around} {R : Result → Shared → Prop} {I : Addr} {fp wr : List Addr} {G : Array GenState → Array GenState → Prop} {n : Nat} {P : Nat → Value → Prop} {St : Nat → Shared → Prop}
theorem SetS.kept {a : Addr} {us : List Str} {h h' : Heap} (S : SetS prog w a us h) (k : ∀ o, h.get? a = some o → h'.get? a = some o) : SetS prog w a us h' := by
  obtain ⟨es, ep, t, ho, T⟩ := S
  exact ⟨es, ep, t, k _ ho, T⟩
theorem loopSetS (W : WalksS prog w A.in1 I fp wr G n P St) (S : Addr) (hf : S ∉ fp) (val : Nat → Str) (hv : ∀ i v, P i v → ∃ t, v = .str (val i) t) (hb : n + 1 < scanBound) :
    ∀ (k i : Nat) (s : Shared), n - i = k → i ≤ n → St i s → SetS prog w S (metS val i) s.heap →
      (∀ s', Moved (S :: wr) G s s' → SetS prog w S (metS val n) s'.heap → R (.ok (.ret .none)) s') → codeAny (model prog w) A (.builtin "set.update.loop" ⟨[.ref S, .ref I], []⟩) R s := by
  have nw : S ∉ wr := fun z => hf (W.sub _ z)
  have sub : ∀ b ∈ wr, b ∈ S :: wr := fun b z => List.mem_cons_of_mem _ z
  intro k
  induction k with
  | zero =>
    intro i s hk hi st hS hR
    have e : i = n := by omega
    subst e
    refine codeAny_builtin F.entry_set_update_loop ?_
    rw [Around.under_plainId F.plain_set_update_loop _]
    show wpAny _ A.in1 (pyNext (.ref I) >>= _) _ _ s
    refine wpAny_bind (W.done s _ _ st fun s' hm => ?_)
    show wpAny _ A.in1 (ret Value.none) _ _ s'
    exact wpAny_pure (hR s' (hm.mono sub) (hS.kept fun o q => hm.heap S _ nw q))
  | succ k ih =>
    intro i s hk hi st hS hR
    have lt : i < n := by omega
    refine codeAny_builtin F.entry_set_update_loop ?_
    rw [Around.under_plainId F.plain_set_update_loop _]
    show wpAny _ A.in1 (pyNext (.ref I) >>= _) _ _ s
    refine wpAny_bind (W.item i s _ _ lt st fun v s' hP st' hm => ?_)
    obtain ⟨t, rfl⟩ := hv i v hP
    have hS' : SetS prog w S (metS val i) s'.heap := hS.kept fun o q => hm.heap S _ nw q
    show wpAny _ A.in1 (holding [Value.str (val i) t] (setAdd S (.str (val i) t)) >>= _) _ _ s'
    refine wpAny_bind (wpAny_holding ?_)
    unfold setAdd
    refine wpAny_holding (wpAny_bind ((PySem.strKind prog w).pyHash (k := val i) (by show Value.isStrOf _ (.str _ t) = true; simp [Value.isStrOf]) ?_))
    have room : (metS val i).length + 1 < scanBound := by have := metS_len val i; omega
    refine any_addT (s := { s' with toks := s'.toks + 1 }) hS' room fun b h' sb S2 => ?_
    rw [← metS_succ] at S2
    refine wpAny_pure ⟨plainId_quiet F.plain_set_update_loop _, ih (i + 1) _ (by omega) lt (W.frame _ s' _ _ st' (Nat.le_succ _) fun c hc o e => ?_) S2 fun s'' hm'' S3 => ?_⟩
    · rw [sb.2 c (fun z : c = S => hf (by rw [← z]; exact hc))]; exact e
    · refine hR s'' (Moved.trans W.gtrans ((hm.mono sub).then_heap (Nat.le_succ _) fun c o hc e => ?_) hm'') S3
      rw [sb.2 c (fun z : c = S => hc (by rw [z]; exact List.mem_cons_self))]; exact e
end
section
variable {prog : Program} {w : World} {A : Around} {E : Value → Shared → Prop} {s : Shared}
theorem code_setNew (a : Value) {Q₁ : Value → Shared → Prop} (h : Q₁ (.ref s.heap.objs.size) { s with heap := s.heap.push (setO #[] 0 (.fresh 0 0 (!byT w))) }) :
    codeAny (model prog w) A (.call (.builtin "set.__new__") ⟨[.type "set", a], []⟩) (wants Q₁ E) s := by
  refine codeAny_of_tree ?_
  show wpAny _ A.in1 (do checkBuiltinCall "set.__new__" ⟨[.type "set", a], []⟩; again (.builtin "set.__new__" ⟨[.type "set", a], []⟩)) _ _ s
  refine wpAny_bind (wpAny_of_eq (F.newCall_set_1 a) (wpAny_pure ⟨plainId_quiet F.plain_set_new _, codeAny_builtin F.entry_set_new ?_⟩))
  rw [Around.under_plainId F.plain_set_new _]
  unfold Builtin.«set.__new__» Builtin.Frozenset.newClass
  have hsub := sub_ss
  obtain ⟨hp, g, d, tk, os⟩ := s
  dsimp only
  wp_walk
  refine wpAny_askSetting (wpAny_pure ?_)
  dsimp only
  simp only [newObj]
  refine wpAny_bind (wpAny_alloc (wpAny_pure ?_))
  exact wpAny_pure h
end
end L2
namespace L2
open PySem PySem.Spec PyProof.Rows
theorem strs_at : ∀ {vs : List Value} {ss : List Str}, StrsAre vs ss → ∀ (i : Nat) (v : Value), vs[i]? = some v → ∃ t, v = .str (ss.getD i ⟨#[]⟩) t
  | _, _, .nil, i, v, h => by simp at h
  | _, _, .cons y t hr, 0, v, h => by
    simp at h
    exact ⟨t, by rw [← h]; rfl⟩
  | _, _, .cons y t hr, i + 1, v, h => by
    simp only [List.getElem?_cons_succ] at h
    obtain ⟨u, e⟩ := strs_at hr i v h
    exact ⟨u, by rw [e]; rfl⟩
section
variable {prog : Program} {w : World} {A : Around} {E : Value → Shared → Prop} {s : Shared}
theorem any_setList {l : Addr} {items : Array Value} {ss : List Str} {Q : Value → Shared → Prop} (hh : A.handled = none) (hl : s.heap.IsList l items) (hi : StrsAre items.toList ss) (hb : ss.length + 1 < scanBound)
    (h : ∀ (h' : Heap) (tk : Nat), SetS prog w s.heap.objs.size (setL ss) h' → (∀ b o, b < s.heap.objs.size → s.heap.get? b = some o → h'.get? b = some o) → Q (.ref s.heap.objs.size) { s with heap := h', toks := tk }) :
    wpAny (model prog w) A (call (.type "set") [.ref l]) Q E s := by
  have hz : items.size = ss.length := by have := strs_len hi; simpa using this
  obtain ⟨c, tl, hmro⟩ := F.called_set.mro
  have hmade := F.called_set.made
  have hsub := F.called_set.sub
  refine wpAny_call (codeAny_of_tree ?_)
  show wpAny _ _ (callAny (.type "set") _) _ _ _
  refine wpAny_pure ⟨Code.quiet_builtin _ (by decide +kernel), codeAny_builtin F.entry_type_call ?_⟩
  rw [Around.under_plain (weight_type_call_type "set" [.ref l] []) rfl]
  have h1 := F.called_set.notType
  have h2 := F.called_set.canCreate
  have hct := F.typeCall_set_1 (.ref l)
  repeat (any_goals (first | assumption | wp_step))
  refine codeAny_mono (code_setNew (.ref l) (E := E) (Q₁ := fun obj s₁ => obj = .ref s.heap.objs.size ∧ s₁ = { s with heap := s.heap.push (setO #[] 0 (.fresh 0 0 (!byT w))) }) ⟨rfl, rfl⟩) fun r s₁ hr => ?_
  cases r with
  | error e => exact hr
  | ok fl =>
    cases fl with
    | ret obj =>
      obtain ⟨rfl, rfl⟩ := hr
      have hS : (s.heap.push (setO #[] 0 (.fresh 0 0 (!byT w)))).get? s.heap.objs.size = some (setO #[] 0 (.fresh 0 0 (!byT w))) := Heap.get?_push_size _ rfl
      have hT : Shared.TypeIs { s with heap := s.heap.push (setO #[] 0 (.fresh 0 0 (!byT w))) } (.ref s.heap.objs.size) "set" := ⟨_, hS, rfl⟩
      have hli := F.called_set.init.lookup
      have hbi := F.called_set.init.bind (.ref s.heap.objs.size)
      repeat (any_goals (first | assumption | wp_step))
      refine codeAny_mono (codeAny_call_builtin (R := wants (fun r s₂ => r = .none ∧ ∃ h' tk, s₂ = { s with heap := h', toks := tk } ∧ SetS prog w s.heap.objs.size (setL ss) h' ∧
          (∀ b o, b < s.heap.objs.size → s.heap.get? b = some o → h'.get? b = some o)) E) F.called_set.init.plain F.entry_set_init (check_set_init_1 hT ?_)) fun r₂ s₂ hr₂ => ?_
      · obtain ⟨ol, hol, hcl, nl, hdl⟩ := hl
        obtain ⟨ocls, odict, odata, oslots⟩ := ol
        simp only at hcl hdl
        subst hcl hdl
        have hol' : (s.heap.push (setO #[] 0 (.fresh 0 0 (!byT w)))).get? l = some { cls := .type "list", dict := odict, data := .seq items nl, slots := oslots } := Heap.get?_push_of_some _ hol
        have hsls := F.sub_list_set
        have hslf := F.sub_list_frozenset
        have hne : (Value.type "list" == Value.type "dict") = false := by decide
        have hl1 : (s.heap.push (setO #[] 0 (.fresh 0 0 (!byT w)))).IsList l items := ⟨_, hol', rfl, nl, rfl⟩
        unfold Builtin.«set.__init__» noKeywords Builtin.Frozenset.updateFrom
        generalize hPI : pyIter = PI
        wp_walk
        subst hPI
        refine wpAny_pyIter_list hl1 ?_
        refine wpAny_bind (wpAny_runValue ?_)
        have hlS : l < s.heap.objs.size := Heap.lt_size hol
        have hh3 : A.in1.in1.in1.handled = none := by simp [hh]
        have neI : l ≠ (s.heap.push (setO #[] 0 (.fresh 0 0 (!byT w)))).objs.size := by
          rw [Heap.size_push]
          exact Nat.ne_of_lt (Nat.lt_succ_of_lt hlS)
        have nf : s.heap.objs.size ∉ [(s.heap.push (setO #[] 0 (.fresh 0 0 (!byT w)))).objs.size, l] := by
          rw [Heap.size_push]
          simp only [List.mem_cons, List.not_mem_nil, or_false, not_or]
          exact ⟨Nat.ne_of_lt (Nat.lt_succ_self _), Nat.ne_of_gt hlS⟩
        refine loopSetS ((Walks.list hh3 _ l neI items).toS) s.heap.objs.size nf (fun i => ss.getD i ⟨#[]⟩) (fun i v hv => strs_at hi i v (by rw [Array.getElem?_toList]; exact hv)) (by rw [hz]; exact hb) (items.size - 0) 0 _ (by omega) (Nat.zero_le _)
          ⟨⟨_, Heap.get?_push_size _ rfl, rfl, rfl⟩, hl1.push _⟩ ?_ fun s' hm S' => ?_
        · refine ⟨#[], 0, .fresh 0 0 (!byT w), Heap.get?_push_of_some _ hS, ⟨fun e he => by simp at he, ⟨[], .nil, .refl _⟩, List.nodup_nil, by decide, ?_, .inl rfl, rfl⟩⟩
          simp [SetTable.fits, SetTable.fresh, SetTable.fill]
        · obtain ⟨h', g', d', tk', os'⟩ := s'
          have eg : g' = s.gens := hm.gens
          have ed : d' = s.drawn := hm.drawn
          have eo : os' = s.os := hm.os
          subst eg ed eo
          rw [hz, metS_all (ss := ss) (fun i hi => by simp [hi])] at S'
          show wpAny _ _ _ _ _ _
          refine wpAny_pure ?_
          show wpAny _ _ (ret Value.none) _ _ _
          refine wpAny_pure ⟨rfl, h', tk', rfl, S', fun b o hb e => ?_⟩
          have hb2 : b ≠ (s.heap.push (setO #[] 0 (.fresh 0 0 (!byT w)))).objs.size := by
            rw [Heap.size_push]
            exact Nat.ne_of_lt (Nat.lt_succ_of_lt hb)
          exact hm.heap b o (by simp only [List.mem_cons, List.not_mem_nil, or_false, not_or]; exact ⟨Nat.ne_of_lt hb, hb2⟩) (Heap.get?_push_of_some _ (Heap.get?_push_of_some _ e))
      · cases r₂ with
        | error e => exact hr₂
        | ok fl₂ =>
          cases fl₂ with
          | ret r =>
            obtain ⟨rfl, h', tk, rfl, S', hk'⟩ := hr₂
            repeat (any_goals (first | assumption | wp_step))
            exact h _ _ S' hk'
          | _ => exact hr₂.elim
    | _ => exact hr.elim
end
end L2
/-! sets of texts as the rules see them; a text times an int; any slice of a tuple -/
namespace L2
open PySem PySem.Spec PyProof.Rows
theorem boot_set : bootBuiltins "set" = some (.type "set") := by decide +kernel
/-- a set of texts, tracked -/
def setH (P : Program) (w : World) (a : Addr) (us : List Str) : HO := .ext (SetS P w a us)
section
variable {X : Cx}
theorem Inv.draw {pins : List (Addr × Obj)} {σ : St} {H : Hp} {s : Shared} (I : Inv X pins σ H s) (d : Drawn) : Inv X pins σ H { s with drawn := d } :=
  ⟨I.ok, I.os, I.bare, I.base, I.loc, I.cell, I.free, I.freeC, I.pin, I.hok, I.len⟩
def rSetS (P : Program) (w : World) (K : PySem.W.Frag) : List V → Hp → VK → Prop := fun xs H Q => ∃ (p : Addr) (ss : List Str), xs = [.ref p] ∧ SqL K H p (ss.map V.str) ∧ ss.length < 4000 ∧ ∀ a : Addr, H a = none → Q (.ref a) (upd H a (setH P w a (setL ss)))
theorem call_setS (hc : X.calm = true) : CallR X (.type "set") (rSetS X.prog X.w X.K) := by
  intro pins s σ H xs us Q I r h
  obtain ⟨p, ss, rfl, hq, hz, q⟩ := h
  obtain ⟨u, rfl, rx⟩ := vals1 r
  cases rx
  obtain ⟨its, rv, pl, hz'⟩ := I.list hq
  have hi : StrsAre its.toArray.toList ss := strsAre_of rv
  refine any_setList (I.ok.hd hc) pl.isList hi (by show ss.length + 1 < 4096; omega) fun h' tk S k => ?_
  refine ⟨.ref s.heap.objs.size, _, I.laid (t' := tk) (o := setH X.prog X.w s.heap.objs.size (setL ss)) (fun b o e => k b o (Heap.lt_size e) e) (Nat.le_refl _) ⟨S, ?_, fun h1 h2 z k' => z.kept k'⟩, rfl, q _ I.fresh⟩
  obtain ⟨es, ep, t, e, _⟩ := S
  exact ⟨_, e⟩
def rSortU (P : Program) (w : World) : List V → Hp → VK → Prop := fun xs H Q => ∃ (a : Addr) (us : List Str), xs = [.ref a] ∧ H a = some (setH P w a us) ∧ us.length < 64 ∧
    ∀ (ss : List Str) (l : Addr), ss.Perm us → sortedS ss = true → H l = none → Q (.ref l) (upd H l (.lst (ss.map V.str)))
theorem call_sortedU (hc : X.calm = true) : CallR X (.builtin "sorted") (rSortU X.prog X.w) := by
  intro pins s σ H xs us Q I r h
  obtain ⟨a, uu, rfl, hq, h64, q⟩ := h
  obtain ⟨u, rfl, rx⟩ := vals1 r
  cases rx
  have S : SetS X.prog X.w a uu s.heap := (I.hok a _ hq).1
  refine any_sortedSet (I.ok.hd hc) S h64 fun h' d tk l out ss e hs hp hso hl le k => ?_
  refine ⟨.ref l, _, (I.laid (t' := tk) (o := .lst (ss.map V.str)) k le ?_).draw d, rfl, q ss l hp hso (I.hok.fresh le)⟩
  refine ⟨?_, out, e, vals_ofStrs hs, hl⟩
  rw [List.length_map, hp.length_eq]
  exact Nat.le_of_lt (Nat.lt_trans h64 (by decide))
/-- a text times an int -/
def repS (x : Str) (n : Int) : Str := ⟨(List.replicate n.toNat x.cps.toList).flatten.toArray⟩
def rMulS : R2 := fun x y H Q => ∃ (z : Str) (n : Int), x = .str z ∧ y = .int n ∧ z.length ≤ 1000 ∧ n ≤ 1000 ∧ -1000 ≤ n ∧ Q (.str (repS z n)) H
theorem fold_rep (x : Array Nat) : ∀ n (acc : Array Nat), ((List.replicate n x).foldl (· ++ ·) acc) = (acc.toList ++ (List.replicate n x.toList).flatten).toArray
  | 0, acc => by simp
  | n + 1, acc => by
    rw [List.replicate_succ, List.foldl_cons, fold_rep x n, List.replicate_succ, List.flatten_cons]
    simp
theorem op_mulS : OpR X (binaryOp .Mult) rMulS := by
  intro pins s σ H x y v u Q I rx ry h
  obtain ⟨z, n, rfl, rfl, hz, n1, n0, q⟩ := h
  obtain ⟨t, rfl⟩ := rx
  obtain ⟨t', rfl⟩ := ry
  have fin : ∀ (w : Str) (k : Tok) (tk : Nat), w = repS z n → EP X pins σ Q (.str w k) { s with toks := tk } := fun w k tk e => ⟨.str w, H, I.tok tk, ⟨k, rfl⟩, by rw [e]; exact q⟩
  have pos : ∀ m : Nat, m ≤ 1000 → z.length * m ≤ 1000000 := fun m hm => Nat.mul_le_mul hz hm
  refine P.mul_str (by rw [decide_eq_false (by omega), decide_eq_false (by omega)]; rfl) (fun h1 _ h2 => ?_) (fun h1 _ => ?_) ?_
  · have : (2 ^ 63 - 1) / n ≥ 1000 := by
      have h3 : n ≤ 1000 := n1
      have h4 : 0 < n := by omega
      rw [ge_iff_le, Int.le_ediv_iff_mul_le h4]
      omega
    omega
  · show decide (_ > sizeLine) = false
    refine decide_eq_false (Nat.not_lt.mpr (Nat.le_trans (pos n.toNat (by omega)) (by decide)))
  · split
    · refine ⟨by decide, fin _ _ _ ?_⟩
      unfold repS
      rw [show n.toNat = 0 by omega]
      rfl
    · split
      · rename_i h1 h2
        refine fin _ _ s.toks ?_
        rw [Bool.or_eq_true] at h2
        unfold repS
        rcases h2 with h3 | h3
        · have : n = 1 := by simpa using h3
          rw [this]
          simp
        · have hz0 : z.cps = #[] := by
            have : z.cps.size = 0 := by simpa [Str.length] using h3
            exact Array.size_eq_zero_iff.mp this
          have e : ∀ m : Nat, (List.replicate m ([] : List Nat)).flatten = [] := fun m => by
            induction m with
            | zero => rfl
            | succ m ih => rw [List.replicate_succ, List.flatten_cons, ih]; rfl
          obtain ⟨zc⟩ := z
          have hz0 : zc = #[] := hz0
          subst hz0
          show (⟨#[]⟩ : Str) = ⟨(List.replicate n.toNat ([] : List Nat)).flatten.toArray⟩
          rw [e]
      · refine ⟨?_, fin _ _ _ ?_⟩
        · show (List.foldl (fun x1 x2 => x1 ++ x2) #[] (List.replicate n.toNat z.cps)).size ≤ _
          rw [fold_rep, List.size_toArray, List.length_append, len_rep]
          show 0 + n.toNat * z.cps.toList.length ≤ _
          have := pos n.toNat (by omega)
          rw [Nat.mul_comm] at this
          have e : z.cps.toList.length = z.length := by simp [Str.length]
          rw [e]
          exact Nat.le_trans (by omega) (show 1000000 ≤ sizeLine by decide)
        · unfold repS
          rw [fold_rep]
          simp
/-- any slice of a tuple -/
def rSlW (K : PySem.W.Frag) : V → Option Int → Option Int → Hp → VK → Prop := fun x lo hi H Q => ∃ a xs, x = .ref a ∧ SqT K H a xs ∧ ∀ p H', Same H H' → SqT K H' p (cutV xs lo hi) → Q (.ref p) H'
theorem getItem_whole {prog : Program} {w : World} {A : Around} {E : Value → Shared → Prop} {s : Shared} {t sl : Addr} {items : Array Value} {vl vu : Value} {lo hi : Option Int} {Q : Value → Shared → Prop} (ht : IsTup s.heap t items) (hs : s.heap.IsSliceOf sl vl vu .none) (pl : IsPart vl lo) (pu : IsPart vu hi)
    (hw : HT.sIx items.size 0 lo = 0 ∧ HT.sIx items.size items.size hi = items.size) (h : Q (.ref t) s) : wpAny (model prog w) A (getItem (.ref t) (.ref sl)) Q E s := by
  obtain ⟨os, hos, hcs, hds⟩ := id hs
  have hTs : s.TypeIs (.ref sl) "slice" := ⟨os, hos, hcs⟩
  unfold getItem
  try with_reducible refine wpAny_holding ?_
  first | refine wpAny_bind (wpAny_pure ?_) | skip
  refine wpAny_bind (wpAny_sequenceKey ht.typeIs (by decide) ?_)
  refine wpAny_bind (wpAny_callSpecial?_slot (name := Str.ofString "__getitem__") ht.typeIs PyProof.Rows.slot_tuple_getitem (wpAny_call_entry PyProof.Rows.slot_tuple_getitem ht.typeIs entry_tuple_getitem ?_ (args_tuple_getitem _ _)))
  show wpAny _ _ (Builtin.Tuple.tupleItemsOf (.ref t) >>= _) _ _ s
  refine wpAny_bind (tupleItemsOf_ ht (wpAny_bind (wpAny_typeOf hTs ?_)))
  rw [if_pos (by decide)]
  refine wpAny_bind (HT.sliceApplied_gen hs pl pu ?_)
  rw [hw.1, hw.2]
  dsimp only
  rw [if_pos (by simp)]
  unfold Builtin.Tuple.tupleIsExact
  refine wpAny_bind (wpAny_bind (wpAny_typeOf ht.typeIs (wpAny_pure ?_)))
  rw [if_pos (by decide)]
  exact wpAny_bind (wpAny_rule (wpAny_pure ⟨_, rfl, wpAny_pure h⟩))
theorem cut_all {xs : List V} {lo hi : Option Int} (hw : HT.sIx xs.length 0 lo = 0 ∧ HT.sIx xs.length xs.length hi = xs.length) : cutV xs lo hi = xs := by
  unfold cutV
  rw [hw.1, hw.2, List.drop_zero, Nat.sub_zero, List.take_length]
theorem sl_tupW : SlR X (rSlW X.K) := by
  intro pins s σ H x v vl vu lo hi sl Q I rx hs pl pu h
  obtain ⟨a, xs, rfl, hx, q⟩ := h
  by_cases hw : HT.sIx xs.length 0 lo = 0 ∧ HT.sIx xs.length xs.length hi = xs.length
  · cases rx
    obtain ⟨its, r, ht, hz⟩ := I.tuple hx
    have hlen : its.toArray.size = xs.length := by rw [List.size_toArray]; exact r.length.symm
    refine ⟨"tuple", _, PyProof.Rows.slot_tuple_getitem.lookup, ht.typeIs, ?_⟩
    exact getItem_whole ht hs pl pu (by rw [hlen]; exact hw) ⟨.ref a, H, I, rfl, q a H (fun _ _ e => e) (by rw [cut_all hw]; exact hx)⟩
  · exact sl_tup pins s σ H _ v vl vu lo hi sl Q I rx hs pl pu ⟨a, xs, rfl, hx, hw, fun p np => q p _ (fun b o e => by rw [upd_ne (ne_of_none e np)]; exact e) (SqT.of upd_same)⟩
end
end L2
/-! repr of tuples of flat values and of tuples of them -/
namespace L2
open PySem PySem.Spec PyProof.Rows
inductive Lf where
  | non
  | int (i : Int)
  | str (x : Str)
def Lf.v : Lf → V
  | .non => .non
  | .int i => .int i
  | .str x => .str x
def Lf.t : Lf → Str
  | .non => "None"
  | .int i => toString i
  | .str x => reprText x
def Lf.ok : Lf → Prop
  | .non => True
  | .int i => i.natAbs.log2 < 1920
  | .str x => (reprText x).length ≤ 100000
inductive Rp where
  | lf (l : Lf)
  | tup (a : Addr) (ls : List Lf)
def Rp.v : Rp → V
  | .lf l => l.v
  | .tup a _ => .ref a
def Rp.t : Rp → Str
  | .lf l => l.t
  | .tup _ ls => tupleText (ls.map Lf.t)
def Rp.At (K : PySem.W.Frag) (H : Hp) : Rp → Prop
  | .lf l => l.ok
  | .tup a ls => SqT K H a (ls.map Lf.v) ∧ ∀ l ∈ ls, l.ok
theorem reprIs_lf {prog : Program} {w : World} : ∀ {l : Lf} {u : Value}, l.ok → RelV l.v u → ReprIs prog w u l.t
  | .non, u, _, r => by cases r; exact ReprIs.none
  | .int i, u, h, r => by obtain ⟨t, rfl⟩ := r; exact ReprIs.int t h
  | .str x, u, h, r => by obtain ⟨t, rfl⟩ := r; exact ReprIs.str x t (Nat.le_trans h (by decide))
theorem reprAll_lf {prog : Program} {w : World} {as : List Addr} {h₀ : Heap} {d : Nat} : ∀ {ls : List Lf} {us : List Value}, (∀ l ∈ ls, l.ok) → Vals (ls.map Lf.v) us → ReprAllK prog w as h₀ d us (ls.map Lf.t)
  | [], us, _, r => by rw [List.map_nil] at r; cases r; exact .nil
  | l :: ls, us, h, r => by
    rw [List.map_cons] at r
    cases r with
    | cons r1 r2 => exact .cons (.of_is (reprIs_lf (h l List.mem_cons_self) r1) as h₀ d) (reprAll_lf (fun x hx => h x (List.mem_cons_of_mem _ hx)) r2)
def Rp.ad : Rp → List Addr
  | .lf _ => []
  | .tup a _ => [a]
section
variable {X : Cx}
theorem reprAll_it {pins : List (Addr × Obj)} {σ : St} {H : Hp} {s : Shared} (I : Inv X pins σ H s) {as : List Addr} : ∀ {is : List Rp} {us : List Value}, (∀ i ∈ is, i.At X.K H) → (∀ i ∈ is, ∀ b ∈ i.ad, b ∈ as) → Vals (is.map Rp.v) us → ReprAllK X.prog X.w as s.heap 1 us (is.map Rp.t)
  | [], us, _, _, r => by rw [List.map_nil] at r; cases r; exact .nil
  | .lf l :: is, us, h, ha, r => by
    rw [List.map_cons] at r
    cases r with
    | cons r1 r2 => exact .cons (.of_is (reprIs_lf (h _ List.mem_cons_self) r1) as s.heap 1) (reprAll_it I (fun x hx => h x (List.mem_cons_of_mem _ hx)) (fun x hx => ha x (List.mem_cons_of_mem _ hx)) r2)
  | .tup a ls :: is, us, h, ha, r => by
    rw [List.map_cons] at r
    cases r with
    | cons r1 r2 =>
      cases r1
      obtain ⟨hq, hk⟩ := h _ List.mem_cons_self
      obtain ⟨its, rv, ht, hz⟩ := I.tuple hq
      obtain ⟨o, ho, hc, n, hd⟩ := ht
      have T := ReprK.tuple (prog := X.prog) (w := X.w) (as := []) (d := 0) ho hc hd (by simp) (reprAll_lf hk (by simpa using rv))
      exact .cons (T.more (by intro b hb; have : b = a := by simpa using hb
                              subst this; exact ha _ List.mem_cons_self b (by simp [Rp.ad]))) (reprAll_it I (fun x hx => h x (List.mem_cons_of_mem _ hx)) (fun x hx => ha x (List.mem_cons_of_mem _ hx)) r2)
theorem Room.r16 {k : Nat} {A : Around} (r : Room k A) : A.units + 16 < cLine := by
  have := r.un
  omega
def rRepr (K : PySem.W.Frag) : List V → Hp → VK → Prop := fun xs H Q =>
  (∃ l : Lf, xs = [l.v] ∧ l.ok ∧ Q (.str l.t) H) ∨
  (∃ (a : Addr) (is : List Rp), xs = [.ref a] ∧ SqT K H a (is.map Rp.v) ∧ (∀ i ∈ is, i.At K H) ∧ (∀ i ∈ is, a ∉ i.ad) ∧ (tupleText (is.map Rp.t)).length ≤ sizeLine ∧ Q (.str (tupleText (is.map Rp.t))) H)
theorem call_reprT (hg : X.A.guards = some []) (hu : X.A.units + 16 < cLine) : CallR X (.builtin "repr") (rRepr X.K) := by
  intro pins s σ H xs us Q I r h
  rcases h with ⟨l, rfl, hk, q⟩ | ⟨a, is, rfl, hq, hat, hne, hz, q⟩
  · obtain ⟨u, rfl, rx⟩ := vals1 r
    cases l with
    | non => cases rx; exact PySem.P.repr_of_none ⟨.str _, H, I.tok _, ⟨_, rfl⟩, q⟩
    | int i => obtain ⟨t, rfl⟩ := rx; exact PySem.P.repr_of_int hk ⟨.str _, H, I.tok _, ⟨_, rfl⟩, q⟩
    | str x => obtain ⟨t, rfl⟩ := rx; exact PySem.P.repr_of_str ⟨.str _, H, I.tok _, ⟨_, rfl⟩, q⟩ (Nat.le_trans hk (by decide))
  · obtain ⟨u, rfl, rx⟩ := vals1 r
    cases rx
    obtain ⟨its, rv, ht, hz'⟩ := I.tuple hq
    obtain ⟨o, ho, hc, n, hd⟩ := id ht
    have hT : s.TypeIs (.ref a) "tuple" := ⟨o, ho, hc⟩
    have R := reprAll_it I (as := (is.map Rp.ad).flatten) hat (fun i hi b hb => List.mem_flatten.mpr ⟨i.ad, List.mem_map.mpr ⟨i, hi, rfl⟩, hb⟩) rv
    have na : a ∉ (is.map Rp.ad).flatten := fun z => by
      obtain ⟨l, hl, hb⟩ := List.mem_flatten.mp z
      obtain ⟨i, hi, rfl⟩ := List.mem_map.mp hl
      exact hne i hi hb
    refine Calls.call_function_entry F.kind_repr F.plain_repr F.entry_repr (F.args_repr1 _) ?_
    unfold Builtin.«repr»
    have u1 : X.A.in1.units = X.A.units + 1 := rfl
    refine wpAny_bind (m := oneArg "repr" _) (wpAny_pure (wpAny_bind (wpAny_cRoomFor (by rw [u1]; omega) ?_)))
    refine wpAny_bind (wpAny_specialOf (name := Str.ofString "__repr__") hT F.slot_tuple_repr.lookup ?_)
    refine wpAny_bind (m := callSpecialIfBound? _ (Str.ofString "__repr__")) (wpAny_callSpecialIfBound?_slotG (name := Str.ofString "__repr__") hT F.slot_tuple_repr (call_tuple_reprK ho hc hd na (by simpa using R) (A := X.A.in1) (g := []) hg (fun b _ => Clear.nil b) (by rw [u1]; omega) (fun _ _ e => e) (fun h' u tk k => ?_) hz))
    refine wpAny_bind (wpAny_isInstance (T := "str") (b := true) rfl isSubtype_str_str (wpAny_pure ⟨_, rfl, .str _, H, I.kept (t' := tk) k, ⟨u, rfl⟩, q⟩))
/-- how long a tuple's repr may be -/
theorem tupleText_le {B : Nat} : ∀ {ts : List Str}, (∀ t ∈ ts, t.length ≤ B) → (tupleText ts).length ≤ ts.length * (B + 2) + 4 := by
  intro ts h
  have hp : ∀ (l : List Str), (∀ t ∈ l, t.length ≤ B) → piled l ≤ l.length * (B + 2) := by
    intro l
    induction l with
    | nil => intro _; simp [piled]
    | cons x l ih =>
      intro hl
      have := ih fun t ht => hl t (List.mem_cons_of_mem _ ht)
      have h0 := hl x List.mem_cons_self
      rw [piled_cons, List.length_cons, Nat.add_mul, Nat.one_mul]
      omega
  have hp := hp ts h
  unfold tupleText
  rw [strLen_append, strLen_append]
  have e1 : ((("(" : String) : Str)).length = 1 := rfl
  have e3 : (((if ts.length == 1 then ",)" else ")" : String) : Str)).length ≤ 2 := by split <;> decide
  rw [e1]
  by_cases z : ts = []
  · subst z
    have : (Str.join ", " ([] : List Str)).length = 0 := rfl
    omega
  · have := join_length_add ts z
    omega
end
end L2
namespace WordM
open PySem
/-- the signs, as the laws write them -/
def sigA : Str := " !\"#$&'()*+,-./0123456789:;<=>?@ABCDEFGHIJKLMNOPQRSTUVWXYZ[\\]^_`"
def sigB : Str := "abcdefghijklmnopqrstuvwxyz{|}~"
def SIG : Str := sigA ++ sigB
abbrev cs (x : Str) : List Nat := x.cps.toList
def sFig : Str := "0123456789"
def sGreat : Str := "ABCDEFGHIJKLMNOPQRSTUVWXYZ"
def sOther : Str := " !\"#$&'()*+,-./:;<=>?\x40[\\]^_`{|}~"
def sSmall : Str := "abcdefghijklmnopqrstuvwxyz"
def SGN : List (Str × Str) := [("figure", sFig), ("great", sGreat), ("other", sOther), ("small", sSmall)]
def MK : List Str := ["figure", "great", "other", "small"]
def Sg (x : Str) : Prop := ∀ c ∈ cs x, c ∈ cs SIG
instance (x : Str) : Decidable (Sg x) := by unfold Sg; infer_instance
/-- the law's mark of a sign -/
def markC (c : Nat) : Str := if c ∈ cs sFig then "figure" else if c ∈ cs sGreat then "great" else if c ∈ cs sSmall then "small" else "other"
def hasM (x m : Str) : Bool := (cs x).any fun c => decide (c ∈ cs ((L2.getS SGN m).getD ⟨#[]⟩))
def marksS (x : Str) : List Str := MK.filter fun m => hasM x m
theorem app (a b : Str) : cs (a ++ b) = cs a ++ cs b := by
  show (a.cps ++ b.cps).toList = _
  simp
theorem len (a : Str) : a.length = (cs a).length := by simp [Str.length]
theorem Sg.app {a b : Str} (ha : Sg a) (hb : Sg b) : Sg (a ++ b) := fun c hc => by
  rw [WordM.app] at hc
  rcases List.mem_append.mp hc with z | z
  · exact ha c z
  · exact hb c z
theorem Sg.one {x : Str} (h : Sg x) {c : Nat} (hc : c ∈ cs x) : Sg ⟨#[c]⟩ := fun d hd => by
  have : d = c := by simpa using hd
  rw [this]
  exact h c hc
theorem sg_nil : Sg ⟨#[]⟩ := fun c hc => by simp at hc
theorem slice_mem {x : Str} {l u : Option Int} {c : Nat} (h : c ∈ cs (Txt.slice x l u)) : c ∈ cs x := by
  unfold Txt.slice at h
  split at h
  · exact h
  · simp only [cs, List.toList_toArray, List.mem_filterMap] at h
    obtain ⟨i, _, hi⟩ := h
    obtain ⟨hlt, e⟩ := Array.getElem?_eq_some_iff.mp hi
    rw [← e]
    simp
theorem Sg.slice {x : Str} (h : Sg x) (l u : Option Int) : Sg (Txt.slice x l u) := fun c hc => h c (slice_mem hc)
theorem slice_len (x : Str) (l u : Option Int) : (Txt.slice x l u).length ≤ x.length := Txt.slice_le x l u
theorem str_ext {a b : Str} (h : cs a = cs b) : a = b := by
  obtain ⟨a⟩ := a
  obtain ⟨b⟩ := b
  have : a = b := Array.toList_inj.mp h
  rw [this]
/-- behind the first sign -/
theorem slice_tail {c : Nat} {r : Str} : Txt.slice ((⟨#[c]⟩ : Str) ++ r) (some 1) none = r := by
  refine str_ext ?_
  have hl : (((⟨#[c]⟩ : Str) ++ r).length) = 1 + r.length := by rw [len, app, len]; simp
  rw [PyProof.Rows.slice_from_eq (b := ((((⟨#[c]⟩ : Str) ++ r).length : Nat) : Int)) (by decide) (by omega) rfl]
  show ((cs ((⟨#[c]⟩ : Str) ++ r)).drop 1).take _ = _
  rw [app]
  show ((c :: cs r).drop 1).take _ = cs r
  rw [List.drop_one, List.tail_cons, List.take_of_length_le]
  rw [hl, len]
  omega
theorem slice_tail0 {x : Str} (h : x.length = 0) : Txt.slice x (some 1) none = x := by
  have h1 := slice_len x (some 1) none
  refine str_ext ?_
  have e1 : cs (Txt.slice x (some 1) none) = [] := List.eq_nil_of_length_eq_zero (by rw [← len]; omega)
  have e2 : cs x = [] := List.eq_nil_of_length_eq_zero (by rw [← len]; omega)
  rw [e1, e2]
/-- a sign's mark: the one of the four whose signs have it -/
theorem mark_of {c : Nat} (h : c ∈ cs SIG) : ∀ m ∈ MK, (c ∈ cs ((L2.getS SGN m).getD ⟨#[]⟩) ↔ markC c = m) := by
  revert c
  decide +kernel
theorem mark_in (c : Nat) : markC c ∈ MK := by
  unfold markC
  split
  · decide
  · split
    · decide
    · split
      · decide
      · decide
/-- all marks of a text are there, just where each sign's is -/
theorem marks_all {x : Str} (h : Sg x) (ms : List Str) : ((marksS x).all fun m => decide (m ∈ ms)) = ((cs x).all fun c => decide (markC c ∈ ms)) := by
  rw [Bool.eq_iff_iff, List.all_eq_true, List.all_eq_true]
  constructor
  · intro k c hc
    refine k (markC c) ?_
    rw [marksS, List.mem_filter]
    refine ⟨mark_in c, ?_⟩
    rw [hasM, List.any_eq_true]
    exact ⟨c, hc, decide_eq_true ((mark_of (h c hc) _ (mark_in c)).mpr rfl)⟩
  · intro k m hm
    rw [marksS, List.mem_filter, hasM, List.any_eq_true] at hm
    obtain ⟨hm, c, hc, hd⟩ := hm
    rw [← (mark_of (h c hc) m hm).mp (of_decide_eq_true hd)]
    exact k c hc
theorem sig_len : SIG.length = 94 := by decide +kernel
theorem sig_nodup : (cs SIG).Nodup := by decide +kernel

theorem slice1_len (x : Str) : (Txt.slice x (some 1) none).length + 1 ≤ (if x.length < 1 then 1 else x.length) := by
  by_cases h : x.length = 0
  · rw [slice_tail0 h, if_pos (by omega)]
    omega
  · rw [if_neg (by omega)]
    rw [PyProof.Rows.slice_from_eq (b := (x.length : Int)) (by decide) (by omega) rfl]
    show (((cs x).drop 1).take _).toArray.size + 1 ≤ _
    rw [List.size_toArray, List.length_take, List.length_drop, ← len]
    omega
theorem nodup_len {α : Type} [DecidableEq α] : ∀ {l m : List α}, l.Nodup → (∀ x ∈ l, x ∈ m) → l.length ≤ m.length
  | [], m, _, _ => Nat.zero_le _
  | x :: l, m, hn, hs => by
    have hx := hs x List.mem_cons_self
    have h2 := List.nodup_cons.mp hn
    have ih := nodup_len (l := l) (m := m.erase x) h2.2 fun y hy => by
      have hne : y ≠ x := fun e => h2.1 (e ▸ hy)
      exact (List.mem_erase_of_ne hne).mpr (hs y (List.mem_cons_of_mem _ hy))
    rw [List.length_erase_of_mem hx] at ih
    have : 0 < m.length := List.length_pos_of_mem hx
    rw [List.length_cons]
    omega
/-- the sign at a place, around -/
def sigAt (a : Int) : Nat := (cs SIG).getD (a % 94).toNat 0
theorem sigAt_mem (a : Int) : sigAt a ∈ cs SIG := by
  have hl : (a % 94).toNat < (cs SIG).length := by
    rw [← len, sig_len]
    have := Int.emod_lt_of_pos a (show (0 : Int) < 94 by decide)
    have := Int.emod_nonneg a (show (94 : Int) ≠ 0 by decide)
    omega
  unfold sigAt
  rw [List.getD_eq_getElem?_getD, List.getElem?_eq_getElem hl]
  exact List.getElem_mem hl
theorem sigAt_inj {a b : Int} (h : sigAt a = sigAt b) : a % 94 = b % 94 := by
  have b1 := Int.emod_lt_of_pos a (show (0 : Int) < 94 by decide)
  have b2 := Int.emod_nonneg a (show (94 : Int) ≠ 0 by decide)
  have b3 := Int.emod_lt_of_pos b (show (0 : Int) < 94 by decide)
  have b4 := Int.emod_nonneg b (show (94 : Int) ≠ 0 by decide)
  have hl : (cs SIG).length = 94 := by rw [← len]; exact sig_len
  unfold sigAt at h
  rw [List.getD_eq_getElem?_getD, List.getD_eq_getElem?_getD, List.getElem?_eq_getElem (by omega), List.getElem?_eq_getElem (by omega)] at h
  have h : (cs SIG)[(a % 94).toNat] = (cs SIG)[(b % 94).toNat] := h
  have hp := List.pairwise_iff_getElem.mp sig_nodup
  rcases Nat.lt_trichotomy (a % 94).toNat (b % 94).toNat with z | z | z
  · exact absurd h (hp _ _ (by omega) (by omega) z)
  · omega
  · exact absurd h.symm (hp _ _ (by omega) (by omega) z)
/-- the texts that are tried, one behind the other -/
def tryT (a : Int) (r : Str) (i : Nat) : Str := (⟨#[sigAt (a + i)]⟩ : Str) ++ r
theorem tryT_inj {a : Int} {r : Str} {i j : Nat} (hi : i < 90) (hj : j < 90) (h : tryT a r i = tryT a r j) : i = j := by
  have h1 : cs (tryT a r i) = cs (tryT a r j) := by rw [h]
  unfold tryT at h1
  rw [app, app] at h1
  have h2 : sigAt (a + i) = sigAt (a + j) := by
    have := List.cons.inj h1
    exact this.1
  have := sigAt_inj h2
  omega
/-- those tried that are there are no more than are there -/
theorem tried_le {a : Int} {r : Str} {ss : List Str} {j : Nat} (hj : j < 80) (h : ∀ i, 1 ≤ i → i ≤ j → tryT a r i ∈ ss) : j ≤ ss.length := by
  have := nodup_len (l := (List.range j).map fun i => tryT a r (i + 1)) (m := ss) (by
    unfold List.Nodup
    rw [List.pairwise_map]
    refine List.Pairwise.imp_of_mem (fun {x y} hx hy hlt e => ?_) List.pairwise_lt_range
    have hx := List.mem_range.mp hx
    have hy := List.mem_range.mp hy
    have := tryT_inj (by omega) (by omega) e
    omega) (fun x hx => by
    obtain ⟨i, hi, rfl⟩ := List.mem_map.mp hx
    have := List.mem_range.mp hi
    exact h (i + 1) (by omega) (by omega))
  simpa using this
end WordM
/-! texts that show what a make lets by (signs are numbers, marks anything) -/
namespace ShowM
variable {M : Type} [DecidableEq M]
/-- what a make lets by -/
def MkL (mk : Nat → M) (hd : List Nat) (lo hi : Int) (ms : List M) (x : List Nat) : Prop := ∃ r, x = hd ++ r ∧ lo ≤ (r.length : Int) ∧ (r.length : Int) ≤ hi ∧ ∀ c ∈ r, mk c ∈ ms
/-- texts that show a make -/
structure Tells (mk : Nat → M) (hd : List Nat) (lo hi : Int) (ms : List M) (S : List (List Nat)) : Prop where
  some : ∃ (n : Nat) (G : List Nat), 1 ≤ n ∧ 7 ≤ G.length ∧ G.Nodup ∧ (∀ m ∈ ms, ∃ c ∈ G, mk c = m) ∧ ∀ g ∈ G, hd ++ List.replicate n g ∈ S
  low : ∃ r : List Nat, (r.length : Int) ≤ lo ∧ hd ++ r ∈ S
  high : ∃ r : List Nat, hi ≤ (r.length : Int) ∧ hd ++ r ∈ S
theorem nodup_le {α : Type} [DecidableEq α] : ∀ {l m : List α}, l.Nodup → (∀ x ∈ l, x ∈ m) → l.length ≤ m.length
  | [], m, _, _ => Nat.zero_le _
  | x :: l, m, hn, hs => by
    have hx := hs x List.mem_cons_self
    have h2 := List.nodup_cons.mp hn
    have ih := nodup_le (l := l) (m := m.erase x) h2.2 fun y hy => (List.mem_erase_of_ne (show y ≠ x from fun e => h2.1 (by rw [← e]; exact hy))).mpr (hs y (List.mem_cons_of_mem _ hy))
    rw [List.length_erase_of_mem hx] at ih
    have : 0 < m.length := List.length_pos_of_mem hx
    rw [List.length_cons]
    omega
/-- no six texts have them all -/
theorem Tells.few {mk : Nat → M} {hd : List Nat} {lo hi : Int} {ms : List M} {S : List (List Nat)} (T : Tells mk hd lo hi ms S) {ss : List (List Nat)} (h6 : ss.length ≤ 6) (h : ∀ x ∈ S, x ∈ ss) : False := by
  obtain ⟨n, G, n1, g7, nd, _, hG⟩ := T.some
  have hn : (G.map fun g => hd ++ List.replicate n g).Nodup := by
    unfold List.Nodup
    rw [List.pairwise_map]
    refine nd.imp fun {a b} ne e => ne ?_
    have e := List.append_cancel_left e
    obtain ⟨k, rfl⟩ : ∃ k, n = k + 1 := ⟨n - 1, by omega⟩
    rw [List.replicate_succ, List.replicate_succ] at e
    exact (List.cons.inj e).1
  have := nodup_le hn fun x hx => by
    obtain ⟨g, hg, rfl⟩ := List.mem_map.mp hx
    exact h _ (hG g hg)
  rw [List.length_map] at this
  omega
/-- a make that has them all has all -/
theorem Tells.make {mk : Nat → M} {hd hd2 : List Nat} {lo hi lo2 hi2 : Int} {ms ms2 : List M} {S : List (List Nat)} (T : Tells mk hd lo hi ms S) (h : ∀ x ∈ S, MkL mk hd2 lo2 hi2 ms2 x) : ∀ x, MkL mk hd lo hi ms x → MkL mk hd2 lo2 hi2 ms2 x := by
  obtain ⟨n, G, n1, g7, nd, cov, hG⟩ := T.some
  obtain ⟨d, hd'⟩ : ∃ d, hd = hd2 ++ d := by
    match G, g7, nd, hG with
    | g1 :: g2 :: G', _, nd, hG =>
      obtain ⟨r1, e1, _⟩ := h _ (hG g1 (by simp))
      obtain ⟨r2, e2, _⟩ := h _ (hG g2 (by simp))
      have ne : g1 ≠ g2 := by
        have := (List.nodup_cons.mp nd).1
        simp at this
        exact this.1
      obtain ⟨k, rfl⟩ : ∃ k, n = k + 1 := ⟨n - 1, by omega⟩
      rw [List.append_eq_append_iff] at e1 e2
      rcases e1 with ⟨a, ha, hb⟩ | ⟨a, ha, hb⟩
      · rcases e2 with ⟨a', ha', hb'⟩ | ⟨a', ha', hb'⟩
        · have : a = a' := List.append_cancel_left (ha.symm.trans ha')
          subst this
          cases a with
          | nil => exact ⟨[], by simpa using ha.symm⟩
          | cons y a =>
            rw [List.replicate_succ, List.cons_append] at hb hb'
            exact absurd ((List.cons.inj hb).1.trans (List.cons.inj hb').1.symm) ne
        · exact ⟨a', ha'⟩
      · exact ⟨a, ha⟩
  subst hd'
  have strip : ∀ {r : List Nat}, (hd2 ++ d) ++ r ∈ S → lo2 ≤ ((d ++ r).length : Int) ∧ ((d ++ r).length : Int) ≤ hi2 ∧ ∀ c ∈ d ++ r, mk c ∈ ms2 := fun {r} hr => by
    obtain ⟨r', e, h1, h2, h3⟩ := h _ hr
    rw [List.append_assoc] at e
    have := List.append_cancel_left e
    rw [this]
    exact ⟨h1, h2, h3⟩
  obtain ⟨rl, l1, l2⟩ := T.low
  obtain ⟨rh, h1, h2⟩ := T.high
  have sl := strip l2
  have sh := strip h2
  rintro x ⟨r, rfl, r1, r2, r3⟩
  refine ⟨d ++ r, by rw [List.append_assoc], ?_, ?_, fun c hc => ?_⟩
  · have := sl.1
    rw [List.length_append] at this ⊢
    omega
  · have := sh.2.1
    rw [List.length_append] at this ⊢
    omega
  · rcases List.mem_append.mp hc with z | z
    · exact sl.2.2 c (List.mem_append_left _ z)
    · obtain ⟨g, hg, e⟩ := cov _ (r3 c z)
      rw [← e]
      obtain ⟨k, rfl⟩ : ∃ k, n = k + 1 := ⟨n - 1, by omega⟩
      exact (strip (hG g hg)).2.2 g (List.mem_append_right _ (by rw [List.replicate_succ]; exact List.mem_cons_self))
end ShowM
namespace My
open PySem L2 PyProof.Rows
def top (i : Nat) : Stmt := PySem.Challenge.pw_leastform_k24_words_met.main.body.getD i (.Pass ⟨0, 0, 0, 0⟩)
abbrev shas_mark : Stmt := top 3
abbrev smarks_of : Stmt := top 4
abbrev swords_let : Stmt := top 5
abbrev smakes_met : Stmt := top 6
abbrev sfew_met : Stmt := top 7
abbrev swords_met : Stmt := top 8
abbrev s_law_mixed : Stmt := top 10
abbrev s_law_deck : Stmt := top 11
abbrev s_law_take : Stmt := top 12
abbrev s_law_signs : Stmt := top 13
abbrev s_law_text : Stmt := top 14
abbrev s_law_unlike : Stmt := top 15
abbrev s_law_mark : Stmt := top 16
abbrev s_law_words_let : Stmt := top 17
abbrev s_law_some_marks : Stmt := top 18
abbrev s_law_words : Stmt := top 19
abbrev s_law_near : Stmt := top 20
abbrev s_law_witness : Stmt := top 21
abbrev s_law_makes_met : Stmt := top 22
abbrev s_law_met : Stmt := top 23
abbrev slaw : Stmt := top 24
/-! ### the deck's defs -/
section
variable {P : Program} {w : World} {K : PySem.W.Frag} {mg : Str → Option Value} {base : Heap}
theorem _root_.L2.On.put {p c : Addr} {H : Hp} (d : DeckAt H p c) (S k : Int) : On p c H (upd H p (.lst [.ref c, .int S, .int k])) := by
  obtain ⟨ns, e', l⟩ := d.cs
  exact ⟨⟨d.ne, ⟨S, k, upd_same⟩, ns, by rw [upd_ne d.ne.symm]; exact e', l⟩, fun b o h hp _ => by rw [upd_ne hp]; exact h⟩
theorem _root_.L2.On.cut {p c : Addr} {H : Hp} (d : DeckAt H p c) (ns : List Int) (h : ns.length ≤ 64) : On p c H (upd H c (.lst (ns.map V.int))) := by
  obtain ⟨S, k, e⟩ := d.dk
  exact ⟨⟨d.ne, ⟨S, k, by rw [upd_ne d.ne]; exact e⟩, ns, upd_same, h⟩, fun b o h _ hc => by rw [upd_ne hc]; exact h⟩
theorem flat_ints (ns : List Int) : (ns.map V.int).all flatV = true := by
  rw [List.all_map]
  exact List.all_eq_true.mpr fun _ _ => rfl
theorem eqVs_nil (ns : List Int) : eqVs (ns.map V.int) [] = ns.isEmpty := by cases ns <;> rfl

theorem sc_mixed : FnScope ["_law_number", "_law_k"] ["_law_number", "_law_k"] (defScope s_law_mixed) := ⟨rfl, rfl, rfl, by decide +kernel, rfl, by decide +kernel, by decide +kernel⟩
theorem g_mixed (h : Has K mg "_law_mixed" s_law_mixed) : Good P w K mg base 1 "_law_mixed" ["_law_number", "_law_k"] spMixed := by
  refine h.good sc_mixed (fun _ _ _ _ _ _ us hl => match us, hl with | [_, _], _ => rfl) (fun vs H Q E q => ?_) (fun f cdv A outer s H vs Q E hr q => ?_)
  · obtain ⟨n, k, rfl, _⟩ := q
    rfl
  · obtain ⟨n, k, rfl, q⟩ := q
    have nd := sc_mixed.nd
    refine ⟨_, (pss_cons (ps_set (i := 0) nd rfl (by first | exact Or.inl rfl | exact Or.inr rfl) (pe_op op_mod (pe_op op_mul (pe_op op_add (pe_op op_add (pe_op op_mod (pv 0) pe_int) (pe_op op_mul pe_int (pv 1))) pe_int) pe_int) pe_int))
      (pss_cons (ps_set (i := 0) nd rfl (by first | exact Or.inl rfl | exact Or.inr rfl) (pe_op op_mod (pe_op op_add (pe_op op_add (pe_op op_mul (pv 0) (pv 0)) (pe_op op_mul pe_int (pv 1))) pe_int) pe_int))
      (pss_one (ps_ret (pe_op op_fdiv (pe_op op_mod (pe_op op_mul (pe_op op_add (pe_op op_mul (pe_op op_mod (pv 0) pe_int) pe_int) (pe_op op_fdiv (pv 0) pe_int)) pe_int) pe_int) pe_int))))), ?_⟩
    refine ⟨_, rfl, _, _, rfl, rfl, (by show (0 : Int) < _; decide), _, rfl, _, _, rfl, rfl, .inl ⟨by decide, by decide⟩, _, _, rfl, rfl, _, _, rfl, rfl, _, _, rfl, rfl, .inr ⟨by decide, by decide⟩, _, _, rfl, rfl, (by show (0 : Int) < _; decide), ?_⟩
    refine ⟨_, rfl, _, rfl, _, _, rfl, rfl, ?c, _, rfl, _, _, rfl, rfl, .inl ⟨by decide, by decide⟩, _, _, rfl, rfl, _, _, rfl, rfl, _, _, rfl, rfl, (by show (0 : Int) < _; decide), ?_⟩
    case c =>
      refine .inl ⟨?_, ?_⟩
      · exact Int.lt_of_lt_of_le (by decide) (Int.emod_nonneg _ (by decide))
      · exact Int.lt_trans (Int.emod_lt_of_pos _ (by decide)) (by decide)
    refine ⟨_, rfl, _, _, rfl, rfl, (by show (0 : Int) < _; decide), _, _, rfl, rfl, .inr ⟨by decide, by decide⟩, _, rfl, _, _, rfl, rfl, ⟨by decide, by decide⟩, _, _, rfl, rfl, _, _, rfl, rfl, .inr ⟨by decide, by decide⟩, _, _, rfl, rfl, (by show (0 : Int) < _; decide), _, _, rfl, rfl, ⟨by decide, by decide⟩, ?_⟩
    exact q _

theorem sc_deck : FnScope ["_law_script", "_law_cells"] ["_law_script"] (defScope s_law_deck) := ⟨rfl, rfl, rfl, by decide +kernel, rfl, by decide +kernel, by decide +kernel⟩
theorem cut63 (ns : List Int) : cutV (ns.map V.int) none (some 63) = (ns.take 63).map V.int := by
  unfold cutV
  have e1 : HT.sIx (ns.map V.int).length 0 none = 0 := rfl
  rw [e1, List.drop_zero, Nat.sub_zero, List.map_take]
  by_cases h : ns.length ≤ 63
  · rw [List.take_of_length_le (by simp [HT.sIx] <;> omega), List.take_of_length_le (by simpa using h)]
  · congr 1
    simp [HT.sIx] <;> omega
theorem g_deck (h : Has K mg "_law_deck" s_law_deck) (B : Own mg) : Good P w K mg base 1 "_law_deck" ["_law_script"] (spDeck K) := by
  refine h.good sc_deck (fun _ _ _ _ _ _ us hl => match us, hl with | [_], _ => rfl) (fun vs H Q E q => ?_) (fun f cdv A outer s H vs Q E hr q => ?_)
  · obtain ⟨a, ns, rfl, _⟩ := q
    rfl
  · obtain ⟨a, ns, rfl, hS, q⟩ := q
    have nd := sc_deck.nd
    refine ⟨_, (pss_cons (ps_set (i := 1) nd rfl (by first | exact Or.inl rfl | exact Or.inr rfl) (pe_callTy call_list_of rfl B.list_ boot_list (pa_c (pe_slice sl_list (pv 0) po_none (po_some pe_int)) pa_nil)))
      (pss_one (ps_ret (@pe_lstQ _ _ _ _ (@qa_c _ _ _ _ _ (pe_rev (pv 1) (pe_un un_neg pe_int)) (@qa_c _ _ _ _ _ (pe_op op_add (pe_callB (call_sumL rfl) rfl B.sum boot_sum (pa_c (pv 1) pa_nil)) (pe_op op_mul pe_int (pe_callB call_len_seq rfl B.len PySem.boot_len (pa_c (pv 1) pa_nil)))) (@qa_c _ _ _ _ _ pe_int qa_nil rfl) rfl) rfl))))), ?_⟩
    refine ⟨_, rfl, _, rfl, a, _, rfl, hS, fun l1 h1 => ?_⟩
    have e1 : upd H l1 (.lst (cutV (ns.map V.int) none (some 63))) = upd H l1 (.lst ((ns.take 63).map V.int)) := by rw [cut63]
    rw [e1]
    refine ⟨l1, _, rfl, .inl (SqL.of upd_same), fun l2 h2 => ?_⟩
    refine ⟨_, rfl, _, rfl, rfl, l2, _, rfl, SqL.of upd_same, fun l3 h3 => ?_⟩
    have n23 : l2 ≠ l3 := ne_of_none upd_same h3
    refine ⟨_, rfl, l2, ns.take 63, rfl, SqL.of (by rw [upd_ne n23]; exact upd_same), _, rfl, l2, _, rfl, .inl (SqL.of (by rw [upd_ne n23]; exact upd_same)), _, _, rfl, rfl, .inl ⟨by decide, by decide⟩, _, _, rfl, rfl, (by show 3 ≤ sizeLine; decide), fun l4 h4 => ?_⟩
    have n34 : l3 ≠ l4 := ne_of_none upd_same h4
    have f1 : ∀ b o, H b = some o → upd H l1 (.lst ((ns.take 63).map V.int)) b = some o := fun b o e => by rw [upd_ne (ne_of_none e h1)]; exact e
    have s1 : Same H (upd H l1 (.lst ((ns.take 63).map V.int))) := f1
    have s2 : Same H (upd (upd H l1 (.lst ((ns.take 63).map V.int))) l2 (.lst ((ns.take 63).map V.int))) := fun b o e => by rw [upd_ne (ne_of_none (s1 b o e) h2)]; exact s1 b o e
    have s3 : Same H (upd (upd (upd H l1 (.lst ((ns.take 63).map V.int))) l2 (.lst ((ns.take 63).map V.int))) l3 (.lst ((ns.take 63).map V.int).reverse)) := fun b o e => by rw [upd_ne (ne_of_none (s2 b o e) h3)]; exact s2 b o e
    refine q l4 l3 _ (s3.free h4) (s2.free h3) ⟨n34.symm, ⟨_, _, upd_same⟩, (ns.take 63).reverse, ?_, ?_⟩ fun b o e => ?_
    · rw [upd_ne n34, upd_same, List.map_reverse]
    · rw [List.length_reverse, List.length_take]; omega
    · rw [upd_ne (ne_of_none (s3 b o e) h4)]; exact s3 b o e

theorem sc_take : FnScope ["_law_deck_here", "_law_most", "_law_cell"] ["_law_deck_here", "_law_most"] (defScope s_law_take) := ⟨rfl, rfl, rfl, by decide +kernel, rfl, by decide +kernel, by decide +kernel⟩
theorem g_take (h : Has K mg "_law_take" s_law_take) (G_law_mixed : Good P w K mg base 1 "_law_mixed" ["_law_number", "_law_k"] spMixed) : Good P w K mg base 2 "_law_take" ["_law_deck_here", "_law_most"] spTake := by
  refine h.good sc_take (fun _ _ _ _ _ _ us hl => match us, hl with | [_, _], _ => rfl) (fun vs H Q E q => ?_) (fun f cdv A outer s H vs Q E hr q => ?_)
  · obtain ⟨p, c, m, rfl, _⟩ := q
    rfl
  · obtain ⟨p, c, m, rfl, d, hm, hB, q⟩ := q
    have nd := sc_take.nd
    have hu := Nat.lt_of_succ_lt (hu_of hr)
    obtain ⟨hne, ⟨S, k, hp⟩, ns, hc, hl⟩ := id d
    refine ⟨_, (pss_cons (ps_asg (pe_op op_add (pe_ix ix_list (pv 0) pe_int (fun _ _ => rfl)) pe_int) (pg_sub (pv 0) pe_int set_list))
      (pss_cons (ps_if (pt_cmpR (op_eqL hu) (pe_ix ix_list (pv 0) pe_int (fun _ _ => rfl)) (@pe_lstQ _ _ _ _ qa_nil) (nomark _))
        (pss_one (ps_ret (pe_op op_mod (pe_fn G_law_mixed (hr.mono (by first | decide | omega)) rfl (pa_c (pe_ix ix_list (pv 0) pe_int (fun _ _ => rfl)) (pa_c (pe_ix ix_list (pv 0) pe_int (fun _ _ => rfl)) pa_nil))) (pv 1))))
        pss_nil)
      (pss_cons (ps_set (i := 2) nd rfl (by first | exact Or.inl rfl | exact Or.inr rfl) (pe_bm0 PySem.F.plainAttrs_list PySem.F.slot_list_pop PySem.F.type_list_pop mt_pop (pe_ix ix_list (pv 0) pe_int (fun _ _ => rfl))))
      (pss_cons (ps_if (pt_cmpR op_lt (pv 2) (pe_op op_pow pe_int pe_int) (nomark _))
        (pss_one (ps_ret (pe_op op_mod (pe_fn G_law_mixed (hr.mono (by first | decide | omega)) rfl (pa_c (pv 2) (pa_c (pe_ix ix_list (pv 0) pe_int (fun _ _ => rfl)) pa_nil))) (pv 1))))
        pss_nil)
      (pss_cons (ps_expr (pe_bm PySem.F.plainAttrs_list PySem.F.slot_list_append PySem.F.type_list_append mt_append (pe_ix ix_list (pv 0) pe_int (fun _ _ => rfl)) (pa_c (pe_op op_fdivL (pv 2) (pv 1)) pa_nil)))
      (pss_one (ps_ret (pe_op op_mod (pv 2) (pv 1))))))))), ?_⟩
    -- deck[2] = deck[2] + 1
    refine ⟨_, rfl, p, _, _, _, rfl, rfl, SqL.of hp, rfl, _, _, rfl, rfl, _, rfl, p, _, _, 2, rfl, rfl, hp, rfl, ?_⟩
    have o1 : On p c H (upd H p (.lst [.ref c, .int S, .int (k + 1)])) := On.put d S (k + 1)
    have hc1 : upd H p (.lst [.ref c, .int S, .int (k + 1)]) c = some (.lst (ns.map V.int)) := by rw [upd_ne hne.symm]; exact hc
    -- if deck[0] == []
    refine ⟨_, rfl, p, _, _, _, rfl, rfl, SqL.of upd_same, rfl, Nat.zero_le _, fun l hfree => ?_⟩
    have npl : p ≠ l := (o1.d.nep hfree).symm
    have ncl : c ≠ l := (o1.d.nec hfree).symm
    have o2 := o1.alloc (o := .lst []) hfree
    have hp2 : upd (upd H p (.lst [.ref c, .int S, .int (k + 1)])) l (.lst []) p = some (.lst [.ref c, .int S, .int (k + 1)]) := by rw [upd_ne npl]; exact upd_same
    have hc2 : upd (upd H p (.lst [.ref c, .int S, .int (k + 1)])) l (.lst []) c = some (.lst (ns.map V.int)) := by rw [upd_ne ncl]; exact hc1
    refine ⟨c, l, _, [], rfl, rfl, SqL.of hc2, SqL.of upd_same, flat_ints ns, rfl, _, rfl, ?_⟩
    rw [show (if false = true then !eqVs (ns.map V.int) [] else eqVs (ns.map V.int) []) = ns.isEmpty from eqVs_nil ns]
    have fin : ∀ r H', On p c H H' → Q (.int (r % m)) H' := fun r H' o => q (r % m) H' (Int.emod_nonneg _ (by omega)) (Int.emod_lt_of_pos _ hm) o
    rcases List.eq_nil_or_concat ns with e | ⟨init, z, e⟩
    · subst e
      refine iteT ?_
      refine ⟨_, rfl, p, _, _, _, rfl, rfl, SqL.of hp2, rfl, _, rfl, p, _, _, _, rfl, rfl, SqL.of hp2, rfl, _, _, rfl, fun r => ?_⟩
      exact ⟨_, rfl, _, _, rfl, rfl, hm, fin r _ o2⟩
    · rw [List.concat_eq_append] at e
      subst e
      rw [show (init ++ [z]).isEmpty = false by simp]
      refine iteF ?_
      have hlast : ((init ++ [z]).map V.int)[((init ++ [z]).map V.int).length - 1]? = some (.int z) := by simp
      have hdrop : ((init ++ [z]).map V.int).dropLast = init.map V.int := by simp
      -- cell = deck[0].pop()
      refine ⟨_, rfl, p, _, _, _, rfl, rfl, SqL.of hp2, rfl, .inl ⟨rfl, _, SqL.of hc2⟩, c, _, _, rfl, rfl, hc2, hlast, ?_⟩
      rw [hdrop]
      have hli : init.length ≤ 63 := by rw [List.length_append, List.length_singleton] at hl; omega
      have o3 := o2.trans (On.cut o2.d init (by omega))
      have hp3 : upd (upd (upd H p (.lst [.ref c, .int S, .int (k + 1)])) l (.lst [])) c (.lst (init.map V.int)) p = some (.lst [.ref c, .int S, .int (k + 1)]) := by rw [upd_ne hne]; exact hp2
      -- if cell < 10 ** 18
      refine ⟨_, rfl, _, _, rfl, rfl, ⟨by decide, by decide, by decide⟩, _, _, rfl, rfl, _, rfl, ?_⟩
      refine ite2 (fun _ => ?_) (fun _ => ?_)
      · refine ⟨_, rfl, _, rfl, p, _, _, _, rfl, rfl, SqL.of hp3, rfl, _, _, rfl, fun r => ?_⟩
        exact ⟨_, rfl, _, _, rfl, rfl, hm, fin r _ o3⟩
      · refine ⟨_, rfl, p, _, _, _, rfl, rfl, SqL.of hp3, rfl, .inl ⟨rfl, _, SqL.of upd_same⟩, _, rfl, _, rfl, _, _, rfl, rfl, ⟨hm, hB⟩, c, _, _, rfl, rfl, upd_same, small1000 (by rw [List.length_map]; omega), ?_⟩
        rw [show init.map V.int ++ [V.int (z / m)] = (init ++ [z / m]).map V.int by simp]
        have o4 := o3.trans (On.cut o3.d (init ++ [z / m]) (by rw [List.length_append, List.length_singleton]; omega))
        exact ⟨_, rfl, _, rfl, _, _, rfl, rfl, hm, fin z _ o4⟩
end
/-! ### signs, texts, marks -/
open WordM
theorem dIw {i j : Int} : decide (V.int i = V.int j) = decide (i = j) := by
  by_cases h : i = j
  · subst h; simp
  · rw [decide_eq_false h, decide_eq_false fun z => h (V.int.inj z)]
theorem inV_str {x : Str} {ss : List Str} : inV (.str x) (ss.map V.str) = decide (x ∈ ss) := by
  unfold inV
  rw [List.any_map, Bool.eq_iff_iff, List.any_eq_true, decide_eq_true_iff]
  constructor
  · rintro ⟨y, hy, e⟩
    have e : (y == x) = true := e
    have : y = x := by simpa using e
    rw [← this]; exact hy
  · intro h
    exact ⟨x, h, by show (x == x) = true; simp⟩
theorem flat_strs (ss : List Str) : (ss.map V.str).all flatV = true := by
  rw [List.all_map]
  exact List.all_eq_true.mpr fun _ _ => rfl
theorem eqVs_nilS (ns : List Str) : eqVs (ns.map V.str) [] = ns.isEmpty := by cases ns <;> rfl
theorem upd_upd {H : Hp} {a : Addr} {o o' : HO} : upd (upd H a o) a o' = upd H a o' := by
  funext b
  by_cases h : b = a
  · subst h; rw [upd_same, upd_same]
  · rw [upd_ne h, upd_ne h, upd_ne h]
theorem at_new {H : Hp} {a : Addr} {o : HO} (_ : H a = none) : upd H a o a = some o := upd_same
theorem _root_.L2.On.lst {p c : Addr} {H H1 : Hp} (x : On p c H H1) {l : Addr} {xs : List V} (h : H l = some (.lst xs)) (hp : l ≠ p) (hc : l ≠ c) : H1 l = some (.lst xs) := x.e l _ h hp hc
theorem _root_.L2.Same.on {p c : Addr} {H H1 H2 : Hp} (x : On p c H H1) (s : Same H1 H2) : On p c H H2 := by
  obtain ⟨⟨ne, ⟨S, k, e⟩, ns, e', l⟩, k2⟩ := x
  exact ⟨⟨ne, ⟨S, k, s _ _ e⟩, ns, s _ _ e', l⟩, fun b o h hp hc => s _ _ (k2 b o h hp hc)⟩
theorem _root_.L2.On.putN {p c a : Addr} {H H1 : Hp} {o : HO} (x : On p c H H1) (d : DeckAt H p c) (h : H a = none) : On p c H (upd H1 a o) := by
  have hp := d.nep h
  have hc := d.nec h
  obtain ⟨⟨ne, ⟨S, k, e⟩, ns, e', l⟩, k2⟩ := x
  exact ⟨⟨ne, ⟨S, k, by rw [upd_ne hp.symm]; exact e⟩, ns, by rw [upd_ne hc.symm]; exact e', l⟩, fun b u q hp hc => by rw [upd_ne (ne_of_none q h)]; exact k2 b u q hp hc⟩
theorem share {J : Hp → Prop} {G : Prop} (B : Hp → Prop) (main : (∀ H, J H → B H) → G) (rest : ∀ H, J H → B H) : G := main rest
theorem share2 {α : Type} {J : α → Hp → Prop} {G : Prop} (B : α → Hp → Prop) (main : (∀ x H, J x H → B x H) → G) (rest : ∀ x H, J x H → B x H) : G := main rest
section
variable {P : Program} {w : World} {K : PySem.W.Frag} {mg : Str → Option Value} {base : Heap}
def spSigns : Sp := fun vs H Q _ => vs = [] ∧ Q (.str SIG) H
theorem sc_signs : FnScope ["_law_signs_here"] [] (defScope s_law_signs) := ⟨rfl, rfl, rfl, by decide +kernel, rfl, by decide +kernel, by decide +kernel⟩
theorem g_signs (h : Has K mg "_law_signs" s_law_signs) : Good P w K mg base 1 "_law_signs" [] spSigns := by
  refine h.good sc_signs (fun _ _ _ _ _ _ us hl => match us, hl with | [], _ => rfl) (fun vs H Q E q => ?_) (fun f cdv A outer s H vs Q E hr q => ?_)
  · obtain ⟨rfl, _⟩ := q
    rfl
  · obtain ⟨rfl, q⟩ := q
    have nd := sc_signs.nd
    refine ⟨_, (pss_cons (ps_set (i := 0) nd rfl (by first | exact Or.inl rfl | exact Or.inr rfl) pe_str)
      (pss_one (ps_ret (pe_op op_add_str (pv 0) pe_str)))), ?_⟩
    exact ⟨_, rfl, sigA, sigB, rfl, rfl, by decide +kernel, q⟩
def spText : Sp := fun vs H Q _ => ∃ (p c : Addr) (m : Int), vs = [.ref p, .int m] ∧ DeckAt H p c ∧ 0 ≤ m ∧ m ≤ 100 ∧ ∀ (x : Str) (H' : Hp), Sg x → (x.length : Int) ≤ m → On p c H H' → Q (.str x) H'
theorem sc_text : FnScope ["_law_deck_here", "_law_most", "_law_signs_here", "_law_some", "_law_text_here", "_law_k"] ["_law_deck_here", "_law_most"] (defScope s_law_text) := ⟨rfl, rfl, rfl, by decide +kernel, rfl, by decide +kernel, by decide +kernel⟩
theorem menu6S {a b c d e f : Str} {r : Int} (h0 : 0 ≤ r) (h6 : r < 6) : ∃ m, atI [V.str a, V.str b, V.str c, V.str d, V.str e, V.str f] r = some (.str m) ∧ (m = a ∨ m = b ∨ m = c ∨ m = d ∨ m = e ∨ m = f) := by
  have : r = 0 ∨ r = 1 ∨ r = 2 ∨ r = 3 ∨ r = 4 ∨ r = 5 := by omega
  rcases this with e | e | e | e | e | e <;> subst e
  · exact ⟨_, rfl, .inl rfl⟩
  · exact ⟨_, rfl, .inr (.inl rfl)⟩
  · exact ⟨_, rfl, .inr (.inr (.inl rfl))⟩
  · exact ⟨_, rfl, .inr (.inr (.inr (.inl rfl)))⟩
  · exact ⟨_, rfl, .inr (.inr (.inr (.inr (.inl rfl))))⟩
  · exact ⟨_, rfl, .inr (.inr (.inr (.inr (.inr rfl))))⟩
theorem at_sign {z : Str} {r : Int} (h0 : 0 ≤ r) (h1 : r < z.length) : ∃ c, atI z.cps.toList r = some c ∧ c ∈ cs z := by
  have hl : r.toNat < (cs z).length := by rw [← WordM.len]; omega
  refine ⟨(cs z)[r.toNat], ?_, List.getElem_mem hl⟩
  have := atI_nat (xs := cs z) (j := r.toNat) (List.getElem?_eq_getElem hl)
  rw [show ((r.toNat : Nat) : Int) = r by omega] at this
  exact this
theorem g_text (h : Has K mg "_law_text" s_law_text) (B : Own mg) (G_law_take : Good P w K mg base 2 "_law_take" ["_law_deck_here", "_law_most"] spTake) (G_law_signs : Good P w K mg base 1 "_law_signs" [] spSigns) : Good P w K mg base 3 "_law_text" ["_law_deck_here", "_law_most"] spText := by
  refine h.good sc_text (fun _ _ _ _ _ _ us hl => match us, hl with | [_, _], _ => rfl) (fun vs H Q E q => ?_) (fun f cdv A outer s H vs Q E hr q => ?_)
  · obtain ⟨p, c, m, rfl, _⟩ := q
    rfl
  · obtain ⟨p, c, m, rfl, d, m0, m1, q⟩ := q
    have nd := sc_text.nd
    refine ⟨_, (pss_cons (ps_set (i := 2) nd rfl (by first | exact Or.inl rfl | exact Or.inr rfl) (pe_fn0 G_law_signs (hr.mono (by first | decide | omega)) rfl))
      (pss_cons (ps_set (i := 3) nd rfl (by first | exact Or.inl rfl | exact Or.inr rfl) (pe_ix ix_list (@pe_lstQ _ _ _ _ (@qa_c _ _ _ _ _ (pv 2) (@qa_c _ _ _ _ _ (pv 2) (@qa_c _ _ _ _ _ pe_str (@qa_c _ _ _ _ _ pe_str (@qa_c _ _ _ _ _ pe_str (@qa_c _ _ _ _ _ pe_str qa_nil rfl) rfl) rfl) rfl) rfl) rfl)) (pe_fn G_law_take (hr.mono (by first | decide | omega)) rfl (pa_c (pv 0) (pa_c pe_int pa_nil))) (fun _ _ => rfl)))
      (pss_cons (ps_set (i := 4) nd rfl (by first | exact Or.inl rfl | exact Or.inr rfl) pe_str)
      (pss_cons (ps_for PassesOwn.never rfl (pi_range1 rfl B.range (pa_c (pe_fn G_law_take (hr.mono (by first | decide | omega)) rfl (pa_c (pv 0) (pa_c (pe_op op_add (pv 1) pe_int) pa_nil))) pa_nil)) (pg_name (i := 5) nd rfl (by first | exact Or.inl rfl | exact Or.inr rfl))
        (pss_one (ps_set (i := 4) nd rfl (by first | exact Or.inl rfl | exact Or.inr rfl) (pe_op op_add_str (pv 4) (pe_ix ix_str (pv 3) (pe_fn G_law_take (hr.mono (by first | decide | omega)) rfl (pa_c (pv 0) (pa_c (pe_callB call_len_str rfl B.len PySem.boot_len (pa_c (pv 3) pa_nil)) pa_nil))) (fun _ _ => rfl))))))
      (pss_one (ps_ret (pv 4))))))), ?_⟩
    refine ⟨rfl, ?_⟩
    refine ⟨_, rfl, _, rfl, by show 6 ≤ sizeLine; decide, fun l nl => ?_⟩
    have o1 := d.on.alloc (o := .lst [.str SIG, .str SIG, .str "0123456789", .str "abc", .str "XYZ", .str "a1"]) nl
    refine ⟨_, rfl, p, c, _, rfl, o1.d, by decide, big (by decide) (by decide), fun r H1 r0 r6 o2 => ?_⟩
    obtain ⟨z, hz, hzz⟩ := menu6S (a := SIG) (b := SIG) (c := "0123456789") (d := "abc") (e := "XYZ") (f := "a1") r0 r6
    refine ⟨l, _, _, _, rfl, rfl, SqL.of (o2.lst (at_new nl) (d.nep nl) (d.nec nl)), hz, ?_⟩
    have hzs : Sg z ∧ 0 < z.length ∧ z.length ≤ 100 := by
      rcases hzz with e | e | e | e | e | e <;> subst e
      · exact ⟨fun _ h => h, by decide +kernel, by decide +kernel⟩
      · exact ⟨fun _ h => h, by decide +kernel, by decide +kernel⟩
      · exact ⟨by decide +kernel, by decide +kernel, by decide +kernel⟩
      · exact ⟨by decide +kernel, by decide +kernel, by decide +kernel⟩
      · exact ⟨by decide +kernel, by decide +kernel, by decide +kernel⟩
      · exact ⟨by decide +kernel, by decide +kernel, by decide +kernel⟩
    obtain ⟨z1, z2, z3⟩ := hzs
    have o3 := o1.trans o2
    refine ⟨_, rfl, _, rfl, _, _, rfl, rfl, p, c, _, rfl, o3.d, by omega, big (by omega) (by omega), fun n H2 n0 n1 o4 => ?_⟩
    refine ⟨n, rfl, by omega, by omega, for_range (n := n.toNat) (fun i σ H3 => On p c H H3 ∧ ∃ (x : Str) (v : Option V), Sg x ∧ x.length = i ∧ σ = [some (.ref p), some (.int m), some (.str SIG), some (.str z), some (.str x), v])
      ⟨o3.trans o4, ⟨#[]⟩, none, sg_nil, rfl, rfl⟩ ?_ ?_⟩
    · rintro i σ H3 hi ⟨o5, x, v, sx, hx, rfl⟩
      refine ⟨_, rfl, _, rfl, _, rfl, _, rfl, z, rfl, Nat.le_trans z3 (by decide), p, c, _, rfl, o5.d, by omega, big (by omega) (by omega), fun k H4 k0 k1 o6 => ?_⟩
      obtain ⟨cc, hc, hcm⟩ := at_sign (z := z) k0 k1
      refine ⟨z, _, cc, rfl, rfl, Nat.le_trans z3 (by decide), hc, x, ⟨#[cc]⟩, rfl, rfl, ?_, o5.trans o6, x ++ ⟨#[cc]⟩, _, sx.app (z1.one hcm), ?_, rfl⟩
      · show x.length + 1 ≤ sizeLine
        exact Nat.le_of_lt (small1000 (by omega))
      · rw [WordM.len, WordM.app, List.length_append, ← WordM.len, hx]
        rfl
    · rintro σ H3 ⟨o5, x, v, sx, hx, rfl⟩
      exact ⟨_, rfl, q x H3 sx (by omega) o5⟩
def spMark : Sp := fun vs H Q _ => ∃ c : Nat, vs = [.str ⟨#[c]⟩] ∧ Q (.str (markC c)) H
theorem sc_mark : FnScope ["_law_sign"] ["_law_sign"] (defScope s_law_mark) := ⟨rfl, rfl, rfl, by decide +kernel, rfl, by decide +kernel, by decide +kernel⟩
theorem g_mark (h : Has K mg "_law_mark" s_law_mark) : Good P w K mg base 1 "_law_mark" ["_law_sign"] spMark := by
  refine h.good sc_mark (fun _ _ _ _ _ _ us hl => match us, hl with | [_], _ => rfl) (fun vs H Q E q => ?_) (fun f cdv A outer s H vs Q E hr q => ?_)
  · obtain ⟨c, rfl, _⟩ := q
    rfl
  · obtain ⟨c, rfl, q⟩ := q
    have nd := sc_mark.nd
    refine ⟨_, (pss_cons (ps_if (pt_cmpR op_in_str (pv 0) pe_str rfl)
        (pss_one (ps_ret pe_str))
        pss_nil)
      (pss_cons (ps_if (pt_cmpR op_in_str (pv 0) pe_str rfl)
        (pss_one (ps_ret pe_str))
        pss_nil)
      (pss_cons (ps_if (pt_cmpR op_in_str (pv 0) pe_str rfl)
        (pss_one (ps_ret pe_str))
        pss_nil)
      (pss_one (ps_ret pe_str))))), ?_⟩
    unfold markC at q
    refine ⟨_, rfl, _, sFig, rfl, rfl, _, rfl, ?_⟩
    rw [StrLaws.found_one]
    refine ite2 (fun h1 => ?_) (fun h1 => ?_)
    · rw [if_pos (of_decide_eq_true h1)] at q
      exact q
    · rw [if_neg fun z => h1 (decide_eq_true z)] at q
      refine ⟨_, rfl, _, sGreat, rfl, rfl, _, rfl, ?_⟩
      rw [StrLaws.found_one]
      refine ite2 (fun h2 => ?_) (fun h2 => ?_)
      · rw [if_pos (of_decide_eq_true h2)] at q
        exact q
      · rw [if_neg fun z => h2 (decide_eq_true z)] at q
        refine ⟨_, rfl, _, sSmall, rfl, rfl, _, rfl, ?_⟩
        rw [StrLaws.found_one]
        refine ite2 (fun h3 => ?_) (fun h3 => ?_)
        · rw [if_pos (of_decide_eq_true h3)] at q
          exact q
        · rw [if_neg fun z => h3 (decide_eq_true z)] at q
          exact q
end
/-! ### words, and what they let by -/
open WordM
inductive Wd where
  | few (ss : List Str)
  | make (hd : Str) (lo hi : Int) (ms : List Str)
def WdAt (H : Hp) (a : Addr) : Wd → Prop
  | .few ss => ∃ t, H a = some (.tup [.str "few", .ref t]) ∧ H t = some (.tup (ss.map V.str))
  | .make hd lo hi ms => ∃ t, H a = some (.tup [.str "make", .str hd, .int lo, .int hi, .ref t]) ∧ H t = some (.tup (ms.map V.str))
theorem WdAt.same {H H' : Hp} {a : Addr} (s : Same H H') : ∀ {W : Wd}, WdAt H a W → WdAt H' a W
  | .few _, ⟨t, h1, h2⟩ => ⟨t, s _ _ h1, s _ _ h2⟩
  | .make .., ⟨t, h1, h2⟩ => ⟨t, s _ _ h1, s _ _ h2⟩
theorem WdAt.on {p c : Addr} {H H' : Hp} {a : Addr} (x : On p c H H') (d : DeckAt H p c) : ∀ {W : Wd}, WdAt H a W → WdAt H' a W
  | .few _, ⟨t, h1, h2⟩ => ⟨t, x.tup d h1, x.tup d h2⟩
  | .make .., ⟨t, h1, h2⟩ => ⟨t, x.tup d h1, x.tup d h2⟩
/-- startswith -/
def stW (x y : Str) : Bool := decide (0 + y.length ≤ x.length) && Builtin.Str.subAt x y 0
def restW (x hd : Str) : Str := Txt.slice x (some (hd.length : Int)) none
def letW : Wd → Str → Bool
  | .few ss, x => decide (x ∈ ss)
  | .make hd lo hi ms, x => stW x hd && ((decide (lo ≤ ((restW x hd).length : Int)) && decide (((restW x hd).length : Int) ≤ hi)) && (cs (restW x hd)).all fun c => decide (markC c ∈ ms))
def Wd.hdOk : Wd → Prop
  | .few _ => True
  | .make hd _ _ _ => hd.length ≤ 1000
theorem take_stepF {α : Type} {xs : List α} {i : Nat} {x : α} (p : α → Bool) (h : xs[i]? = some x) : (xs.take (i + 1)).filter p = (xs.take i).filter p ++ (if p x = true then [x] else []) := by
  rw [List.take_add_one, h, List.filter_append]
  cases hp : p x <;> simp [hp]
open WordM
section
variable {P : Program} {w : World} {K : PySem.W.Frag} {mg : Str → Option Value} {base : Heap} {aSIGNS aMARKS : Addr}
def spHasM : Sp := fun vs H Q _ => ∃ x m S : Str, vs = [.str x, .str m] ∧ getS SGN m = some S ∧ x.length ≤ 1000 ∧ ∀ H', Same H H' → Q (.bl (hasM x m)) H'
theorem sc_hasm : FnScope ["text", "mark"] ["text", "mark"] (defScope shas_mark) := ⟨rfl, rfl, rfl, by decide +kernel, rfl, by decide +kernel, by decide +kernel⟩
theorem g_hasm (h : Has K mg "has_mark" shas_mark) (B : Own mg) (mSIGNS : mg "SIGNS" = some (.ref aSIGNS)) (DS : KDict K w.params aSIGNS SGN) : Good P w K mg base 1 "has_mark" ["text", "mark"] spHasM := by
  refine h.good sc_hasm (fun _ _ _ _ _ _ us hl => match us, hl with | [_, _], _ => rfl) (fun vs H Q E q => ?_) (fun f cdv A outer s H vs Q E hr q => ?_)
  · obtain ⟨x, m, S, rfl, _⟩ := q
    rfl
  · obtain ⟨x, m, S, rfl, hS, hx, q⟩ := q
    have nd := sc_hasm.nd
    refine ⟨_, (pss_one (ps_ret (pe_callB (call_anyL rfl) rfl B.any boot_any (pa_c (pe_comp (sc := defScope shas_mark) (XN := ["text", "mark"]) (N := ["sign", "mark"]) (own := 1) (fr := [1]) rfl ⟨rfl, by decide +kernel, by decide +kernel, by decide +kernel, rfl, by decide +kernel, by decide, by decide +kernel⟩ (pi_str (pv 0)) (fun _ _ _ _ _ => (pg_name (i := 0) (show (["sign", "mark"] : List Str).Nodup by decide +kernel) rfl (by first | exact Or.inl rfl | exact Or.inr rfl))) (fun _ _ _ _ _ => pf_nil) (fun _ _ _ _ _ => (pe_cmpR op_in_str (pv 0) (pe_ix (r := rKD aSIGNS SGN) (ix_kd DS) (pe_glob (v := .ref aSIGNS) rfl mSIGNS rfl) (pv 1) (fun _ _ => rfl)) rfl))) pa_nil)))), ?_⟩
    refine ⟨_, rfl, x, rfl, fun a na => ?_⟩
    refine comp_str (x := x) (fun i ys H' => H' = upd H a (.lst ys) ∧ ys = (((cs x).take i).map fun c => decide (c ∈ cs S)).map V.bl) ⟨rfl, rfl⟩ ?_ ?_
    · rintro i c ys H' hc _ ⟨rfl, rfl⟩
      have hc' : (cs x)[i]? = some c := by rw [← hc]; simp
      have hi : i < (cs x).length := (List.getElem?_eq_some_iff.mp hc').1
      refine ⟨⟨[_], rfl, rfl⟩, noIfT ?_⟩
      refine ⟨_, rfl, _, rfl, m, S, rfl, rfl, hS, _, S, rfl, rfl, upd_same, ?_, upd_upd, ?_⟩
      · rw [List.length_map, List.length_map]
        refine Nat.lt_of_le_of_lt (List.length_take_le' _ _) ?_
        rw [← WordM.len]
        exact small1000 hx
      · rw [StrLaws.found_one, List.take_add_one, hc', List.map_append, List.map_append]
        rfl
    · rintro ys H' h2 ⟨rfl, rfl⟩
      refine ⟨a, _, rfl, SqL.of upd_same, ?_⟩
      have e : (((cs x).take x.cps.size).map fun c => decide (c ∈ cs S)).any id = hasM x m := by
        rw [List.take_of_length_le (by simp), List.any_map, hasM, hS]
        rfl
      rw [e]
      exact q _ (same_new na)
def spMarks : Sp := fun vs H Q _ => ∃ x : Str, vs = [.str x] ∧ x.length ≤ 1000 ∧ ∀ (t : Addr) (H' : Hp), H t = none → Same H H' → H' t = some (.tup ((marksS x).map V.str)) → Q (.ref t) H'
theorem sc_marks : FnScope ["text"] ["text"] (defScope smarks_of) := ⟨rfl, rfl, rfl, by decide +kernel, rfl, by decide +kernel, by decide +kernel⟩
theorem g_marks (h : Has K mg "marks_of" smarks_of) (B : Own mg) (mMARKS : mg "MARKS" = some (.ref aMARKS)) (TM : ∀ H, SqT K H aMARKS (MK.map V.str)) (Ghas_mark : Good P w K mg base 1 "has_mark" ["text", "mark"] spHasM) : Good P w K mg base 2 "marks_of" ["text"] spMarks := by
  refine h.good sc_marks (fun _ _ _ _ _ _ us hl => match us, hl with | [_], _ => rfl) (fun vs H Q E q => ?_) (fun f cdv A outer s H vs Q E hr q => ?_)
  · obtain ⟨x, rfl, _⟩ := q
    rfl
  · obtain ⟨x, rfl, hx, q⟩ := q
    have nd := sc_marks.nd
    refine ⟨_, (pss_one (ps_ret (pe_callTy call_tuple_of rfl B.tuple_ boot_tuple (pa_c (pe_comp (sc := defScope smarks_of) (XN := ["text"]) (N := ["mark", "text"]) (own := 1) (fr := [0]) rfl ⟨rfl, by decide +kernel, by decide +kernel, by decide +kernel, rfl, by decide +kernel, by decide, by decide +kernel⟩ (pi_tup (pe_glob (v := .ref aMARKS) rfl mMARKS rfl)) (fun _ _ _ _ _ => (pg_name (i := 0) (show (["mark", "text"] : List Str).Nodup by decide +kernel) rfl (by first | exact Or.inl rfl | exact Or.inr rfl))) (fun _ _ _ _ _ => pf_one (pt_val (pe_fn Ghas_mark (hr.mono (by first | decide | omega)) rfl (pa_c (pv 1) (pa_c (pv 0) pa_nil))))) (fun _ _ _ _ _ => (pv 0))) pa_nil)))), ?_⟩
    refine ⟨aMARKS, rfl, ⟨_, TM _⟩, fun a na => ?_⟩
    refine comp_tup (K := K) (xs := MK.map V.str) (fun i ys H' => Same H H' ∧ ys = ((MK.take i).filter fun m => hasM x m).map V.str) ⟨same_new na, rfl⟩ (fun i ys H' _ _ _ => TM _) ?_ ?_
    · rintro i v ys H' hv ha ⟨s1, rfl⟩
      rw [List.getElem?_map] at hv
      cases hi' : MK[i]? with
      | none => rw [hi'] at hv; cases hv
      | some m =>
        rw [hi'] at hv
        have hv : V.str m = v := Option.some.inj hv
        subst hv
        have hts := take_stepF (fun m => hasM x m) hi'
        have hm := List.mem_of_getElem? hi'
        obtain ⟨S, hS⟩ : ∃ S, getS SGN m = some S := by
          simp only [MK, List.mem_cons, List.not_mem_nil, or_false] at hm
          rcases hm with e | e | e | e <;> subst e <;> exact ⟨_, rfl⟩
        refine ⟨⟨[_], rfl, rfl⟩, _, rfl, _, rfl, x, m, S, rfl, hS, hx, fun H2 s2 => ⟨_, rfl, ?_⟩⟩
        refine ite2 (fun h4 => ?_) (fun h4 => ?_)
        · refine ⟨_, rfl, s2 _ _ ha, ?_, ?_, ?_⟩
          · rw [List.length_map]
            exact Nat.lt_of_le_of_lt (List.length_filter_le _ _) (Nat.lt_of_le_of_lt (List.length_take_le' _ _) (by show 4 < sizeLine; decide))
          · intro b o e
            rw [upd_ne (ne_of_none e na)]
            exact s2 b o (s1 b o e)
          · rw [hts, if_pos h4, List.map_append]
            rfl
        · refine ⟨s2 _ _ ha, s1.trans s2, ?_⟩
          rw [hts, if_neg h4, List.append_nil]
    · rintro ys H' ha ⟨s1, rfl⟩
      rw [show MK.take (MK.map V.str).length = MK from rfl] at ha
      refine ⟨a, _, rfl, .inl ⟨SqL.of ha, fun t nt => ?_⟩⟩
      exact q t _ (s1.free nt) (s1.alloc nt) upd_same
def spLet : Sp := fun vs H Q _ => ∃ (a : Addr) (W : Wd) (x : Str), vs = [.ref a, .str x] ∧ WdAt H a W ∧ W.hdOk ∧ Sg x ∧ x.length ≤ 1000 ∧ ∀ H', Same H H' → Q (.bl (letW W x)) H'
theorem sc_let : FnScope ["words", "text", "tail"] ["words", "text"] (defScope swords_let) := ⟨rfl, rfl, rfl, by decide +kernel, rfl, by decide +kernel, by decide +kernel⟩
theorem g_let (h : Has K mg "words_let" swords_let) (B : Own mg) (Gmarks_of : Good P w K mg base 2 "marks_of" ["text"] spMarks) : Good P w K mg base 3 "words_let" ["words", "text"] spLet := by
  refine h.good sc_let (fun _ _ _ _ _ _ us hl => match us, hl with | [_, _], _ => rfl) (fun vs H Q E q => ?_) (fun f cdv A outer s H vs Q E hr q => ?_)
  · obtain ⟨a, W, x, rfl, _⟩ := q
    rfl
  · obtain ⟨a, W, x, rfl, hW, hok, sx, hx, q⟩ := q
    have nd := sc_let.nd
    refine ⟨_, (pss_cons (ps_if (pt_cmpR op_eq (pe_ix ix_tup (pv 0) pe_int (fun _ _ => rfl)) pe_str (nomark _))
        (pss_one (ps_ret (pe_cmpR op_in_seq (pv 1) (pe_ix ix_tup (pv 0) pe_int (fun _ _ => rfl)) rfl)))
        pss_nil)
      (pss_cons (ps_if (pt_not (pt_val (pe_bm PySem.F.plainAttrs_str PySem.F.slot_str_startswith PySem.F.type_str_startswith mt_startswith (pv 1) (pa_c (pe_ix ix_tup (pv 0) pe_int (fun _ _ => rfl)) pa_nil))))
        (pss_one (ps_ret pe_bl))
        pss_nil)
      (pss_cons (ps_set (i := 2) nd rfl (by first | exact Or.inl rfl | exact Or.inr rfl) (pe_slice sl_str (pv 1) (po_some (pe_callB call_len_str rfl B.len PySem.boot_len (pa_c (pe_ix ix_tup (pv 0) pe_int (fun _ _ => rfl)) pa_nil))) po_none))
      (pss_one (ps_ret (pe_and (pe_chain op_le op_le (pe_ix ix_tup (pv 0) pe_int (fun _ _ => rfl)) (pe_callB call_len_str rfl B.len PySem.boot_len (pa_c (pv 2) pa_nil)) (pe_ix ix_tup (pv 0) pe_int (fun _ _ => rfl))) (pe_one (pe_callB (call_allL rfl) rfl B.all boot_all (pa_c (pe_comp (sc := defScope swords_let) (XN := ["words", "text", "tail"]) (N := ["mark", "words"]) (own := 1) (fr := [0]) rfl ⟨rfl, by decide +kernel, by decide +kernel, by decide +kernel, rfl, by decide +kernel, by decide, by decide +kernel⟩ (pi_tup (pe_fn Gmarks_of (hr.mono (by first | decide | omega)) rfl (pa_c (pv 2) pa_nil))) (fun _ _ _ _ _ => (pg_name (i := 0) (show (["mark", "words"] : List Str).Nodup by decide +kernel) rfl (by first | exact Or.inl rfl | exact Or.inr rfl))) (fun _ _ _ _ _ => pf_nil) (fun _ _ _ _ _ => (pe_cmpR (r := rIn K false) op_in_seq (pv 0) (pe_ix (r := rIxT K) ix_tup (pv 1) pe_int (fun _ _ => rfl)) rfl))) pa_nil))))))))), ?_⟩
    cases W with
    | few ss =>
      obtain ⟨t, ha, ht⟩ := hW
      refine ⟨_, rfl, a, _, _, _, rfl, rfl, SqT.of ha, rfl, rfl, _, rfl, ?_⟩
      refine ite2 (fun _ => ?_) (fun h => absurd (decide_eq_true rfl) h)
      refine ⟨_, rfl, _, rfl, a, _, _, _, rfl, rfl, SqT.of ha, rfl, t, _, rfl, .inr (SqT.of ht), rfl, flat_strs ss, ?_⟩
      rw [inV_str]
      exact q H (Same.refl H)
    | make hd lo hi ms =>
      obtain ⟨t, ha, ht⟩ := hW
      have hhd : hd.length ≤ 1000 := hok
      refine ⟨_, rfl, a, _, _, _, rfl, rfl, SqT.of ha, rfl, rfl, _, rfl, ?_⟩
      refine ite2 (fun h => absurd (of_decide_eq_true h) (by intro z; exact absurd (V.str.inj z) (by decide +kernel))) (fun _ => ?_)
      have q' : ∀ b H', Same H H' → letW (.make hd lo hi ms) x = b → Q (.bl b) H' := fun b H' s e => e ▸ q H' s
      refine ⟨_, rfl, rfl, _, rfl, a, _, _, _, rfl, rfl, SqT.of ha, rfl, x, hd, rfl, rfl, _, rfl, ?_⟩
      refine ite2 (fun h1 => ?_) (fun h1 => ?_)
      · refine q' _ _ (Same.refl H) ?_
        have h1 : (!(stW x hd)) = true := h1
        have h1 : stW x hd = false := by simpa using h1
        show (stW x hd && _) = false
        rw [h1]; rfl
      · have h1 : ¬ (!(stW x hd)) = true := h1
        have h1 : stW x hd = true := by simpa using h1
        refine ⟨_, rfl, _, rfl, a, _, _, _, rfl, rfl, SqT.of ha, rfl, hd, rfl, Nat.le_of_lt (small1000 hhd), _, rfl, x, rfl, Nat.le_of_lt (small1000 hx), ?_⟩
        have hrl : (restW x hd).length ≤ 1000 := Nat.le_trans (WordM.slice_len ..) hx
        refine ⟨_, rfl, a, _, _, _, rfl, rfl, SqT.of ha, rfl, _, rfl, restW x hd, rfl, Nat.le_of_lt (small1000 hrl), _, _, rfl, rfl, _, rfl, ?_⟩
        refine ite2 (fun h2 => ?_) (fun h2 => ?_)
        · have h2 : lo ≤ ((restW x hd).length : Int) := of_decide_eq_true h2
          refine ⟨_, rfl, a, _, _, _, rfl, rfl, SqT.of ha, rfl, _, _, rfl, rfl, _, rfl, ?_⟩
          refine ite2 (fun h3 => ?_) (fun h3 => ?_)
          · have h3 : ((restW x hd).length : Int) ≤ hi := of_decide_eq_true h3
            refine ⟨_, rfl, restW x hd, rfl, hrl, fun tm H1 _ s1 htm => ⟨tm, rfl, ⟨_, SqT.of htm⟩, fun b nb => ?_⟩⟩
            have htm' := same_new (o := .lst []) nb _ _ htm
            refine comp_tup (K := K) (xs := (marksS (restW x hd)).map V.str) (fun i ys H' => Same H1 H' ∧ ys = (((marksS (restW x hd)).take i).map fun m => decide (m ∈ ms)).map V.bl) ⟨same_new nb, rfl⟩ (fun i ys H' _ _ p => SqT.of (p.1 _ _ htm)) ?_ ?_
            · rintro i v ys H' hv hb ⟨s2, rfl⟩
              rw [List.getElem?_map] at hv
              cases hi' : (marksS (restW x hd))[i]? with
              | none => rw [hi'] at hv; cases hv
              | some m =>
                rw [hi'] at hv
                have hv : V.str m = v := Option.some.inj hv
                subst hv
                have s12 := s1.trans s2
                have hlen : (marksS (restW x hd)).length ≤ 4 := List.length_filter_le _ _
                refine ⟨⟨[_], rfl, rfl⟩, noIfT ⟨_, rfl, _, rfl, a, _, _, _, rfl, rfl, SqT.of (s12 _ _ ha), rfl, t, _, rfl, .inr (SqT.of (s12 _ _ ht)), rfl, flat_strs ms, hb, ?_, ?_, ?_⟩⟩
                · rw [List.length_map, List.length_map]
                  exact Nat.lt_of_le_of_lt (List.length_take_le' _ _) (small1000 (by omega))
                · intro c o e
                  rw [upd_ne (ne_of_none e nb)]
                  exact s2 c o e
                · rw [show (if false = true then !inV (V.str m) (ms.map V.str) else inV (V.str m) (ms.map V.str)) = decide (m ∈ ms) from inV_str, List.take_add_one, hi', List.map_append, List.map_append]
                  rfl
            · rintro ys H' hb ⟨s2, rfl⟩
              refine ⟨b, _, rfl, SqL.of hb, q' _ _ (s1.trans s2) ?_⟩
              show (stW x hd && _) = _
              rw [h1, decide_eq_true h2, decide_eq_true h3, ← marks_all (x := restW x hd) (sx.slice _ _) ms, List.length_map, List.take_length, List.all_map]
              rfl
          · refine q' _ _ (Same.refl H) ?_
            have h3 : ¬ ((restW x hd).length : Int) ≤ hi := fun z => h3 (decide_eq_true z)
            show (stW x hd && _) = false
            rw [decide_eq_false h3]
            simp
        · refine ⟨_, rfl, ?_⟩
          refine iteF (q' _ _ (Same.refl H) ?_)
          have h2 : ¬ lo ≤ ((restW x hd).length : Int) := fun z => h2 (decide_eq_true z)
          show (stW x hd && _) = false
          rw [decide_eq_false h2]
          simp
theorem sc_llet : FnScope ["_law_words_here", "_law_text_here", "_law_rest", "_law_strange"] ["_law_words_here", "_law_text_here"] (defScope s_law_words_let) := ⟨rfl, rfl, rfl, by decide +kernel, rfl, by decide +kernel, by decide +kernel⟩
theorem filter_not {xs : List Nat} {p : Nat → Bool} : (xs.filter fun c => !p c).isEmpty = xs.all p := by
  rw [Bool.eq_iff_iff, List.isEmpty_iff, List.filter_eq_nil_iff, List.all_eq_true]
  exact ⟨fun h c hc => by simpa using h c hc, fun h c hc => by simpa using h c hc⟩
theorem g_llet (h : Has K mg "_law_words_let" s_law_words_let) (B : Own mg) (G_law_mark : Good P w K mg base 1 "_law_mark" ["_law_sign"] spMark) : Good P w K mg base 2 "_law_words_let" ["_law_words_here", "_law_text_here"] spLet := by
  refine h.good sc_llet (fun _ _ _ _ _ _ us hl => match us, hl with | [_, _], _ => rfl) (fun vs H Q E q => ?_) (fun f cdv A outer s H vs Q E hr q => ?_)
  · obtain ⟨a, W, x, rfl, _⟩ := q
    rfl
  · obtain ⟨a, W, x, rfl, hW, hok, sx, hx, q⟩ := q
    have nd := sc_llet.nd
    have hu := Nat.lt_of_succ_lt (hu_of hr)
    refine ⟨_, (pss_cons (ps_if (pt_cmpR op_eq (pe_ix ix_tup (pv 0) pe_int (fun _ _ => rfl)) pe_str (nomark _))
        (pss_one (ps_ret (pe_cmpR op_in_seq (pv 1) (pe_ix ix_tup (pv 0) pe_int (fun _ _ => rfl)) rfl)))
        pss_nil)
      (pss_cons (ps_set (i := 2) nd rfl (by first | exact Or.inl rfl | exact Or.inr rfl) (pe_slice sl_str (pv 1) (po_some (pe_callB call_len_str rfl B.len PySem.boot_len (pa_c (pe_ix ix_tup (pv 0) pe_int (fun _ _ => rfl)) pa_nil))) po_none))
      (pss_cons (ps_setc (i := 3) (sc := defScope s_law_words_let) (XN := ["_law_words_here", "_law_text_here", "_law_rest", "_law_strange"]) (N := ["_law_sign", "_law_words_here"]) (own := 1) (fr := [0]) rfl nd rfl (by first | exact Or.inl rfl | exact Or.inr rfl) ⟨rfl, by decide +kernel, by decide +kernel, by decide +kernel, rfl, by decide +kernel, by decide, by decide +kernel⟩ (pi_str (pv 2)) (fun _ _ _ _ _ => (pg_name (i := 0) (show (["_law_sign", "_law_words_here"] : List Str).Nodup by decide +kernel) rfl (by first | exact Or.inl rfl | exact Or.inr rfl))) (fun _ _ _ _ _ => pf_one (pt_cmpR (r := rIn K true) op_notIn_seq (pe_fn G_law_mark (hr.mono (by first | decide | omega)) rfl (pa_c (pv 0) pa_nil)) (pe_ix (r := rIxT K) ix_tup (pv 1) pe_int (fun _ _ => rfl)) rfl)) (fun _ _ _ _ _ => (pv 0)))
      (pss_one (ps_ret (pe_and (pe_bm PySem.F.plainAttrs_str PySem.F.slot_str_startswith PySem.F.type_str_startswith mt_startswith (pv 1) (pa_c (pe_ix ix_tup (pv 0) pe_int (fun _ _ => rfl)) pa_nil)) (pe_and (pe_chain op_le op_le (pe_ix ix_tup (pv 0) pe_int (fun _ _ => rfl)) (pe_callB call_len_str rfl B.len PySem.boot_len (pa_c (pv 2) pa_nil)) (pe_ix ix_tup (pv 0) pe_int (fun _ _ => rfl))) (pe_one (pe_cmpR (op_eqL hu) (pv 3) (@pe_lstQ _ _ _ _ qa_nil) (nomark _)))))))))), ?_⟩
    cases W with
    | few ss =>
      obtain ⟨t, ha, ht⟩ := hW
      refine ⟨_, rfl, a, _, _, _, rfl, rfl, SqT.of ha, rfl, rfl, _, rfl, ?_⟩
      refine ite2 (fun _ => ?_) (fun h => absurd (decide_eq_true rfl) h)
      refine ⟨_, rfl, _, rfl, a, _, _, _, rfl, rfl, SqT.of ha, rfl, t, _, rfl, .inr (SqT.of ht), rfl, flat_strs ss, ?_⟩
      rw [inV_str]
      exact q H (Same.refl H)
    | make hd lo hi ms =>
      obtain ⟨t, ha, ht⟩ := hW
      have hhd : hd.length ≤ 1000 := hok
      refine ⟨_, rfl, a, _, _, _, rfl, rfl, SqT.of ha, rfl, rfl, _, rfl, ?_⟩
      refine ite2 (fun h => absurd (of_decide_eq_true h) (by intro z; exact absurd (V.str.inj z) (by decide +kernel))) (fun _ => ?_)
      have q' : ∀ b H', Same H H' → letW (.make hd lo hi ms) x = b → Q (.bl b) H' := fun b H' s e => e ▸ q H' s
      have hrl : (restW x hd).length ≤ 1000 := Nat.le_trans (WordM.slice_len ..) hx
      refine ⟨_, rfl, _, rfl, a, _, _, _, rfl, rfl, SqT.of ha, rfl, hd, rfl, Nat.le_of_lt (small1000 hhd), _, rfl, x, rfl, Nat.le_of_lt (small1000 hx), ?_⟩
      refine ⟨_, rfl, restW x hd, rfl, fun b nb => ?_⟩
      have hab : ∀ o, upd H b o a = some (.tup [.str "make", .str hd, .int lo, .int hi, .ref t]) := fun o => same_new nb _ _ ha
      have htb : ∀ o, upd H b o t = some (.tup (ms.map V.str)) := fun o => same_new nb _ _ ht
      refine comp_str (x := restW x hd) (fun i ys H' => H' = upd H b (.lst ys) ∧ ys = (((cs (restW x hd)).take i).filter fun c => !decide (markC c ∈ ms)).map fun c => V.str ⟨#[c]⟩) ⟨rfl, rfl⟩ ?_ ?_
      · rintro i c ys H' hc _ ⟨rfl, rfl⟩
        have hc' : (cs (restW x hd))[i]? = some c := by rw [← hc]; simp
        have hts := take_stepF (fun c => !decide (markC c ∈ ms)) hc'
        refine ⟨⟨[_], rfl, rfl⟩, _, rfl, c, rfl, _, rfl, a, _, _, _, rfl, rfl, SqT.of (hab _), rfl, t, _, rfl, .inr (SqT.of (htb _)), rfl, flat_strs ms, _, rfl, ?_⟩
        rw [show (if true = true then !inV (V.str (markC c)) (ms.map V.str) else inV (V.str (markC c)) (ms.map V.str)) = !decide (markC c ∈ ms) from by rw [if_pos rfl, inV_str]]
        refine ite2 (fun h4 => ?_) (fun h4 => ?_)
        · refine ⟨_, rfl, upd_same, ?_, upd_upd, ?_⟩
          · rw [List.length_map]
            refine Nat.lt_of_le_of_lt (List.length_filter_le _ _) (Nat.lt_of_le_of_lt (List.length_take_le' _ _) ?_)
            rw [← WordM.len]
            exact small1000 hrl
          · rw [hts, if_pos h4, List.map_append]
            rfl
        · refine ⟨upd_same, rfl, ?_⟩
          rw [hts, if_neg h4, List.append_nil]
      · rintro ys H' hb ⟨rfl, rfl⟩
        rw [List.take_of_length_le (by simp)] at hb ⊢
        have hl : ((cs (restW x hd)).filter fun c => !decide (markC c ∈ ms)).map (fun c => V.str ⟨#[c]⟩) = (((cs (restW x hd)).filter fun c => !decide (markC c ∈ ms)).map fun c => (⟨#[c]⟩ : Str)).map V.str := by rw [List.map_map]; rfl
        have hemp : (((cs (restW x hd)).filter fun c => !decide (markC c ∈ ms)).map fun c => (⟨#[c]⟩ : Str)).isEmpty = (cs (restW x hd)).all fun c => decide (markC c ∈ ms) := by
          rw [← filter_not]
          cases (cs (restW x hd)).filter fun c => !decide (markC c ∈ ms) <;> rfl
        rw [hl] at hb ⊢
        generalize (((cs (restW x hd)).filter fun c => !decide (markC c ∈ ms)).map fun c => (⟨#[c]⟩ : Str)) = strange at hb hemp
        have s1 : Same H (upd H b (.lst (strange.map V.str))) := same_new nb
        refine ⟨_, rfl, rfl, _, rfl, a, _, _, _, rfl, rfl, SqT.of (s1 _ _ ha), rfl, x, hd, rfl, rfl, _, rfl, ?_⟩
        show if stW x hd = true then _ else _
        refine ite2 (fun h1 => ?_) (fun h1 => ?_)
        · refine ⟨_, rfl, a, _, _, _, rfl, rfl, SqT.of (s1 _ _ ha), rfl, _, rfl, restW x hd, rfl, Nat.le_of_lt (small1000 hrl), _, _, rfl, rfl, _, rfl, ?_⟩
          refine ite2 (fun h2 => ?_) (fun h2 => ?_)
          · have h2 : lo ≤ ((restW x hd).length : Int) := of_decide_eq_true h2
            refine ⟨_, rfl, a, _, _, _, rfl, rfl, SqT.of (s1 _ _ ha), rfl, _, _, rfl, rfl, _, rfl, ?_⟩
            refine ite2 (fun h3 => ?_) (fun h3 => ?_)
            · have h3 : ((restW x hd).length : Int) ≤ hi := of_decide_eq_true h3
              refine ⟨_, rfl, Nat.zero_le _, fun e ne => ?_⟩
              have s2 := s1.alloc (o := .lst []) ne
              refine ⟨b, e, _, [], rfl, rfl, SqL.of (same_new ne _ _ hb), SqL.of (at_new ne), flat_strs _, rfl, ?_⟩
              rw [show (if false = true then !eqVs (strange.map V.str) [] else eqVs (strange.map V.str) []) = strange.isEmpty from eqVs_nilS strange, hemp]
              refine q' _ _ s2 ?_
              show (stW x hd && _) = _
              rw [h1, decide_eq_true h2, decide_eq_true h3]
              rfl
            · refine q' _ _ s1 ?_
              have h3 : ¬ ((restW x hd).length : Int) ≤ hi := fun z => h3 (decide_eq_true z)
              show (stW x hd && _) = false
              rw [decide_eq_false h3]
              simp
          · refine ⟨_, rfl, ?_⟩
            refine iteF (q' _ _ s1 ?_)
            have h2 : ¬ lo ≤ ((restW x hd).length : Int) := fun z => h2 (decide_eq_true z)
            show (stW x hd && _) = false
            rw [decide_eq_false h2]
            simp
        · have h1 : stW x hd = false := by simpa using h1
          refine q' _ _ s1 ?_
          show (stW x hd && _) = false
          rw [h1]; rfl
end
/-! ### unlike texts -/
open WordM
theorem while_m {c : TT} {tb : TS} {D : Ends} {σ : L2.St} {H : Hp} (W : Nat → L2.St → Hp → Prop) (m : Nat) (h0 : W m σ H)
    (hs : ∀ m σ H, W m σ H → c σ H fun b H1 => if b = true then tb { D with nx := fun σ' H' => ∃ m', m' < m ∧ W m' σ' H', ct := fun σ' H' => ∃ m', m' < m ∧ W m' σ' H', bk := D.nx } σ H1 else D.nx σ H1)
    (mono : ∀ σ H Q Q', (∀ b H1, Q b H1 → Q' b H1) → c σ H Q → c σ H Q') : tWhile c tb D σ H := by
  refine ⟨W, ⟨m, h0⟩, fun m σ H p => mono σ H _ _ (fun b H1 q => ?_) (hs m σ H p)⟩
  cases b with
  | true => exact ⟨_, fun σ' H' h => h, q⟩
  | false => exact q
theorem sg_sig (a : Int) : Sg ⟨#[sigAt a]⟩ := fun cc hc => by
  have e : cc = sigAt a := by simpa using hc
  rw [e]
  exact sigAt_mem _
section
variable {P : Program} {w : World} {K : PySem.W.Frag} {mg : Str → Option Value} {base : Heap}
/-- texts, unlike, of signs, not too long -/
def Txts (m : Int) (ss : List Str) : Prop := ss.Nodup ∧ ∀ s ∈ ss, Sg s ∧ (s.length : Int) ≤ (if m < 1 then 1 else m)
def spUnlike : Sp := fun vs H Q _ => ∃ (p c : Addr) (n m : Int), vs = [.ref p, .int n, .int m] ∧ DeckAt H p c ∧ 0 ≤ n ∧ n ≤ 20 ∧ 0 ≤ m ∧ m ≤ 100 ∧
  ∀ (l : Addr) (ss : List Str) (H' : Hp), l ≠ p → l ≠ c → H' l = some (.lst (ss.map V.str)) → (ss.length : Int) = n → Txts m ss → On p c H H' → Q (.ref l) H'
theorem sc_unlike : FnScope ["_law_deck_here", "_law_many", "_law_most", "_law_signs_here", "_law_found", "_law_k", "_law_text_here", "_law_at"] ["_law_deck_here", "_law_many", "_law_most"] (defScope s_law_unlike) := ⟨rfl, rfl, rfl, by decide +kernel, rfl, by decide +kernel, by decide +kernel⟩
theorem g_unlike (h : Has K mg "_law_unlike" s_law_unlike) (B : Own mg) (G_law_signs : Good P w K mg base 1 "_law_signs" [] spSigns) (G_law_text : Good P w K mg base 3 "_law_text" ["_law_deck_here", "_law_most"] spText) : Good P w K mg base 4 "_law_unlike" ["_law_deck_here", "_law_many", "_law_most"] spUnlike := by
  refine h.good sc_unlike (fun _ _ _ _ _ _ us hl => match us, hl with | [_, _, _], _ => rfl) (fun vs H Q E q => ?_) (fun f cdv A outer s H vs Q E hr q => ?_)
  · obtain ⟨p, c, n, m, rfl, _⟩ := q
    rfl
  · obtain ⟨p, c, n, m, rfl, d, n0, n20, m0, m1, q⟩ := q
    have nd := sc_unlike.nd
    refine ⟨_, (pss_cons (ps_set (i := 3) nd rfl (by first | exact Or.inl rfl | exact Or.inr rfl) (pe_fn0 G_law_signs (hr.mono (by first | decide | omega)) rfl))
      (pss_cons (ps_set (i := 4) nd rfl (by first | exact Or.inl rfl | exact Or.inr rfl) (@pe_lstQ _ _ _ _ qa_nil))
      (pss_cons (ps_for PassesOwn.never rfl (pi_range1 rfl B.range (pa_c (pv 1) pa_nil)) (pg_name (i := 5) nd rfl (by first | exact Or.inl rfl | exact Or.inr rfl))
        (pss_cons (ps_set (i := 6) nd rfl (by first | exact Or.inl rfl | exact Or.inr rfl) (pe_fn G_law_text (hr.mono (by first | decide | omega)) rfl (pa_c (pv 0) (pa_c (pv 2) pa_nil))))
        (pss_cons (ps_set (i := 7) nd rfl (by first | exact Or.inl rfl | exact Or.inr rfl) (pe_bm PySem.F.plainAttrs_str PySem.F.slot_str_find PySem.F.type_str_find mt_find (pv 3) (pa_c (pe_slice sl_str (pv 6) po_none (po_some pe_int)) pa_nil)))
        (pss_cons (ps_while PassesOwn.never (pt_cmpR op_in_seq (pv 6) (pv 4) rfl)
          (pss_cons (ps_set (i := 7) nd rfl (by first | exact Or.inl rfl | exact Or.inr rfl) (pe_op op_mod (pe_op op_add (pv 7) pe_int) (pe_callB call_len_str rfl B.len PySem.boot_len (pa_c (pv 3) pa_nil))))
          (pss_one (ps_set (i := 6) nd rfl (by first | exact Or.inl rfl | exact Or.inr rfl) (pe_op op_add_str (pe_ix ix_str (pv 3) (pv 7) (fun _ _ => rfl)) (pe_slice sl_str (pv 6) (po_some pe_int) po_none))))))
        (pss_one (ps_expr (pe_bm PySem.F.plainAttrs_list PySem.F.slot_list_append PySem.F.type_list_append mt_append (pv 4) (pa_c (pv 6) pa_nil))))))))
      (pss_one (ps_ret (pv 4)))))), ?_⟩
    refine ⟨rfl, Nat.zero_le _, fun l nl => ?_⟩
    have lp := d.nep nl
    have lc := d.nec nl
    have hsl : SIG.length = 94 := sig_len
    have hsz : SIG.length ≤ sizeLine := by rw [hsl]; decide
    refine ⟨_, rfl, n, rfl, by omega, by omega, for_range (n := n.toNat) (fun i σ H1 => On p c H H1 ∧ ∃ (ss : List Str) (v5 v6 v7 : Option V), H1 l = some (.lst (ss.map V.str)) ∧ ss.length = i ∧ Txts m ss ∧ σ = [some (.ref p), some (.int n), some (.int m), some (.str SIG), some (.ref l), v5, v6, v7])
      ⟨d.on.alloc nl, [], none, none, none, at_new nl, rfl, ⟨List.nodup_nil, fun s hs => nomatch hs⟩, rfl⟩ ?_ ?_⟩
    · rintro i σ H1 hik ⟨o1, ss, v5, v6, v7, hl, hlen, htx, rfl⟩
      refine ⟨_, rfl, _, rfl, p, c, m, rfl, o1.d, m0, m1, fun x0 H2 sx0 hx0 o2 => ?_⟩
      have hl2 := o2.lst hl lp lc
      have hx0' : x0.length ≤ 100 := by omega
      refine ⟨_, rfl, rfl, _, rfl, _, rfl, x0, rfl, Nat.le_of_lt (small1000 (by omega)), SIG, _, rfl, rfl, fun a0 => ?_⟩
      let r : Str := Txt.slice x0 (some 1) none
      have hr1 : r.length + 1 ≤ (if x0.length < 1 then 1 else x0.length) := slice1_len x0
      have sr : Sg r := sx0.slice _ _
      refine while_m (fun M σ H3 => H3 = H2 ∧ ∃ (j : Nat) (x : Str), M + j = ss.length + 2 ∧ j ≤ ss.length + 1 ∧ (∀ i, 1 ≤ i → i < j → tryT a0 r i ∈ ss) ∧ (j = 0 ∧ x = x0 ∨ 1 ≤ j ∧ x = tryT a0 r j) ∧
          σ = [some (.ref p), some (.int n), some (.int m), some (.str SIG), some (.ref l), some (.int (0 + (i : Int))), some (.str x), some (.int (if j = 0 then a0 else (a0 + j) % 94))])
        (ss.length + 2) ⟨rfl, 0, x0, rfl, Nat.zero_le _, fun i h1 h2 => absurd h2 (Nat.not_lt_zero _), .inl ⟨rfl, rfl⟩, rfl⟩ ?_ ?_
      · rintro M σ H3 ⟨rfl, j, x, hM, hj, htr, hx, rfl⟩
        have hxl : Sg x ∧ (x.length : Int) ≤ (if m < 1 then 1 else m) ∧ Txt.slice x (some 1) none = r := by
          rcases hx with ⟨_, rfl⟩ | ⟨_, rfl⟩
          · refine ⟨sx0, ?_, rfl⟩
            split <;> omega
          · refine ⟨Sg.app (sg_sig _) sr, ?_, slice_tail⟩
            have : (tryT a0 r j).length = r.length + 1 := by
              unfold tryT
              rw [WordM.len, WordM.app, WordM.len, List.length_append]
              simp
              omega
            rw [this]
            split at hr1 <;> split <;> omega
        obtain ⟨sx, hxm, hxr⟩ := hxl
        have hx100 : x.length ≤ 100 := by split at hxm <;> omega
        refine ⟨_, rfl, _, rfl, l, _, rfl, .inl (SqL.of hl2), rfl, flat_strs ss, _, rfl, ?_⟩
        rw [show (if false = true then !inV (V.str x) (ss.map V.str) else inV (V.str x) (ss.map V.str)) = decide (x ∈ ss) from inV_str]
        refine ite2 (fun h1 => ?_) (fun h1 => ?_)
        · have h1 : x ∈ ss := of_decide_eq_true h1
          have hall : ∀ i, 1 ≤ i → i ≤ j → tryT a0 r i ∈ ss := fun i i1 i2 => by
            rcases Nat.lt_or_eq_of_le i2 with z | z
            · exact htr i i1 z
            · rcases hx with ⟨z0, _⟩ | ⟨_, e⟩
              · omega
              · rw [z, ← e]; exact h1
          have hjs : j ≤ ss.length := tried_le (by omega) hall
          have hmod : ((if j = 0 then a0 else (a0 + (j : Int)) % 94) + 1) % 94 = (a0 + ((j + 1 : Nat) : Int)) % 94 := by
            split
            · rename_i z; subst z; congr 1
            · push_cast; omega
          have hsl' : ((SIG.length : Nat) : Int) = 94 := by rw [hsl]; rfl
          refine ⟨_, rfl, _, _, rfl, rfl, _, rfl, SIG, rfl, hsz, _, _, rfl, rfl, by show (0 : Int) < ((SIG.length : Nat) : Int); omega, ?_⟩
          have hat : atI SIG.cps.toList (((if j = 0 then a0 else (a0 + (j : Int)) % 94) + 1) % ((SIG.length : Nat) : Int)) = some (sigAt (a0 + ((j + 1 : Nat) : Int))) := by
            rw [hsl', hmod]
            have b1 := Int.emod_lt_of_pos (a0 + ((j + 1 : Nat) : Int)) (show (0 : Int) < 94 by decide)
            have b2 := Int.emod_nonneg (a0 + ((j + 1 : Nat) : Int)) (show (94 : Int) ≠ 0 by decide)
            have hlt : ((a0 + ((j + 1 : Nat) : Int)) % 94).toNat < (cs SIG).length := by rw [← WordM.len]; omega
            have := atI_nat (xs := cs SIG) (j := ((a0 + ((j + 1 : Nat) : Int)) % 94).toNat) (List.getElem?_eq_getElem hlt)
            rw [show ((((a0 + ((j + 1 : Nat) : Int)) % 94).toNat : Nat) : Int) = (a0 + ((j + 1 : Nat) : Int)) % 94 by omega] at this
            rw [this]
            unfold sigAt
            rw [List.getD_eq_getElem?_getD, List.getElem?_eq_getElem hlt]
            rfl
          refine ⟨_, rfl, _, rfl, SIG, _, _, rfl, rfl, hsz, hat, _, rfl, _, rfl, x, rfl, Nat.le_of_lt (small1000 (by omega)), _, _, rfl, rfl, ?_, ?_⟩
          · show 1 + (Txt.slice x (some 1) none).length ≤ sizeLine
            rw [hxr]
            exact Nat.le_of_lt (small1000 (by split at hr1 <;> omega))
          · refine ⟨ss.length + 2 - (j + 1), by omega, rfl, j + 1, tryT a0 r (j + 1), by omega, by omega, fun i i1 i2 => hall i i1 (by omega), .inr ⟨by omega, rfl⟩, ?_⟩
            have e1 : V.int (((if j = 0 then a0 else (a0 + (j : Int)) % 94) + 1) % ((SIG.length : Nat) : Int)) = V.int (if j + 1 = 0 then a0 else (a0 + ((j + 1 : Nat) : Int)) % 94) := by rw [hsl', hmod, if_neg (by omega)]
            show [some (V.ref p), some (.int n), some (.int m), some (.str SIG), some (.ref l), some (.int (0 + (i : Int))), some (.str ((⟨#[sigAt (a0 + ((j + 1 : Nat) : Int))]⟩ : Str) ++ Txt.slice x (some 1) none)), some (V.int (((if j = 0 then a0 else (a0 + (j : Int)) % 94) + 1) % ((SIG.length : Nat) : Int)))] = _
            rw [e1, hxr]
            rfl
        · have h1 : x ∉ ss := fun z => h1 (decide_eq_true z)
          have hsm : (ss.map V.str).length < sizeLine := by rw [List.length_map]; exact small1000 (by omega)
          refine ⟨_, rfl, .inl ⟨rfl, _, SqL.of hl2⟩, _, rfl, l, _, _, rfl, rfl, hl2, hsm, ?_⟩
          refine ⟨(o1.trans o2).putN d nl, ss ++ [x], _, _, _, ?_, ?_, ⟨?_, ?_⟩, rfl⟩
          · rw [upd_same, List.map_append]; rfl
          · rw [List.length_append, hlen]; rfl
          · rw [List.nodup_append]
            refine ⟨htx.1, by simp, fun a ha b hb => ?_⟩
            have : b = x := by simpa using hb
            rw [this]
            exact fun e => h1 (e ▸ ha)
          · intro s hs
            rcases List.mem_append.mp hs with z | z
            · exact htx.2 s z
            · have : s = x := by simpa using z
              rw [this]
              exact ⟨sx, hxm⟩
      · rintro σ H Q Q' hq ⟨v, e, u, e', l', xs, e1, e2, e3, e4, b, eb, q⟩
        exact ⟨v, e, u, e', l', xs, e1, e2, e3, e4, b, eb, hq _ _ q⟩
    · rintro σ H1 ⟨o1, ss, v5, v6, v7, hl, hlen, htx, rfl⟩
      exact ⟨_, rfl, q l ss H1 lp lc hl (by omega) htx o1⟩
end
/-! ### words drawn -/
open WordM
theorem menu4I {a b c e r : Int} (h0 : 0 ≤ r) (h4 : r < 4) : ∃ m, atI [V.int a, V.int b, V.int c, V.int e] r = some (.int m) ∧ (m = a ∨ m = b ∨ m = c ∨ m = e) := by
  have : r = 0 ∨ r = 1 ∨ r = 2 ∨ r = 3 := by omega
  rcases this with e | e | e | e <;> subst e
  · exact ⟨_, rfl, .inl rfl⟩
  · exact ⟨_, rfl, .inr (.inl rfl)⟩
  · exact ⟨_, rfl, .inr (.inr (.inl rfl))⟩
  · exact ⟨_, rfl, .inr (.inr (.inr rfl))⟩
/-- the marks by their bits -/
def bitsM (b : Int) : List Str := (MK.zipIdx.filter fun p => decide (Builtin.bitAnd (b / 2 ^ p.2) 1 = 1)).map (·.1)
theorem bitsM_ne {b : Int} (h1 : 1 ≤ b) (h2 : b < 16) : bitsM b ≠ [] := by
  have : b = 1 ∨ b = 2 ∨ b = 3 ∨ b = 4 ∨ b = 5 ∨ b = 6 ∨ b = 7 ∨ b = 8 ∨ b = 9 ∨ b = 10 ∨ b = 11 ∨ b = 12 ∨ b = 13 ∨ b = 14 ∨ b = 15 := by omega
  rcases this with e | e | e | e | e | e | e | e | e | e | e | e | e | e | e <;> subst e <;> decide +kernel
theorem bitsM_sub (b : Int) : ∀ m ∈ bitsM b, m ∈ MK := fun m hm => by
  unfold bitsM at hm
  obtain ⟨p, hp, rfl⟩ := List.mem_map.mp hm
  exact (List.mem_zipIdx' (List.mem_filter.mp hp).1).2 ▸ List.getElem_mem _
/-- words as the laws draw them -/
def WdOk : Wd → Prop
  | .few ss => ss ≠ [] ∧ ss.length ≤ 6 ∧ ss.Nodup ∧ sortedS ss = true ∧ ∀ s ∈ ss, Sg s ∧ s.length ≤ 60
  | .make hd lo hi ms => Sg hd ∧ hd.length ≤ 30 ∧ 0 ≤ lo ∧ lo ≤ hi ∧ 1 ≤ hi ∧ hi ≤ 60 ∧ ∃ b, 1 ≤ b ∧ b < 16 ∧ ms = bitsM b
section
variable {P : Program} {w : World} {K : PySem.W.Frag} {mg : Str → Option Value} {base : Heap}
def spSome : Sp := fun vs H Q _ => ∃ (p c : Addr), vs = [.ref p] ∧ DeckAt H p c ∧ ∀ (t : Addr) (b : Int) (H' : Hp), 1 ≤ b → b < 16 → H' t = some (.tup ((bitsM b).map V.str)) → On p c H H' → Q (.ref t) H'
theorem sc_some : FnScope ["_law_deck_here", "_law_bits", "_law_marks"] ["_law_deck_here"] (defScope s_law_some_marks) := ⟨rfl, rfl, rfl, by decide +kernel, rfl, by decide +kernel, by decide +kernel⟩
theorem zip_take {i : Nat} {m : Str} (h : MK[i]? = some m) (f : Str × Nat → Bool) : (MK.zipIdx.take (i + 1)).filter f = (MK.zipIdx.take i).filter f ++ (if f (m, i) = true then [(m, i)] else []) := by
  have e : MK.zipIdx[i]? = some (m, i) := by rw [List.getElem?_zipIdx, h]; simp
  exact take_stepF f e
theorem g_some (h : Has K mg "_law_some_marks" s_law_some_marks) (B : Own mg) (G_law_take : Good P w K mg base 2 "_law_take" ["_law_deck_here", "_law_most"] spTake) : Good P w K mg base 3 "_law_some_marks" ["_law_deck_here"] spSome := by
  refine h.good sc_some (fun _ _ _ _ _ _ us hl => match us, hl with | [_], _ => rfl) (fun vs H Q E q => ?_) (fun f cdv A outer s H vs Q E hr q => ?_)
  · obtain ⟨p, c, rfl, _⟩ := q
    rfl
  · obtain ⟨p, c, rfl, d, q⟩ := q
    have nd := sc_some.nd
    refine ⟨_, (pss_cons (ps_set (i := 1) nd rfl (by first | exact Or.inl rfl | exact Or.inr rfl) (pe_op op_add pe_int (pe_fn G_law_take (hr.mono (by first | decide | omega)) rfl (pa_c (pv 0) (pa_c pe_int pa_nil)))))
      (pss_cons (ps_set (i := 2) nd rfl (by first | exact Or.inl rfl | exact Or.inr rfl) (@pe_lstQ _ _ _ _ (@qa_lits _ _ [.str "figure", .str "great", .str "other", .str "small"] rfl)))
      (pss_one (ps_ret (pe_callTy call_tuple_of rfl B.tuple_ boot_tuple (pa_c (pe_comp (sc := defScope s_law_some_marks) (XN := ["_law_deck_here", "_law_bits", "_law_marks"]) (N := ["_law_k", "_law_bits", "_law_marks"]) (own := 1) (fr := [1, 2]) rfl ⟨rfl, by decide +kernel, by decide +kernel, by decide +kernel, rfl, by decide +kernel, by decide, by decide +kernel⟩ (pi_range1 rfl B.range (pa_c pe_int pa_nil)) (fun _ _ _ _ _ => (pg_name (i := 0) (show (["_law_k", "_law_bits", "_law_marks"] : List Str).Nodup by decide +kernel) rfl (by first | exact Or.inl rfl | exact Or.inr rfl))) (fun _ _ _ _ _ => pf_one (pt_cmpR op_eq (pe_op op_and (pe_op op_shr (pv 1) (pv 0)) pe_int) pe_int (nomark _))) (fun _ _ _ _ _ => (pe_ix (r := rIxL K) ix_list (pv 2) (pv 0) (fun _ _ => rfl)))) pa_nil)))))), ?_⟩
    refine ⟨_, rfl, p, c, _, rfl, d, by decide, big (by decide) (by decide), fun r H1 r0 r1 o1 => ⟨_, _, rfl, rfl, ?_⟩⟩
    refine ⟨by show 4 ≤ sizeLine; decide, fun l nl => ?_⟩
    have hl := at_new (o := .lst (MK.map V.str)) nl
    have o2 := o1.alloc (o := .lst (MK.map V.str)) nl
    refine ⟨4, rfl, by decide, by decide, fun a na => ?_⟩
    refine comp_range (lo := 0) (n := 4) (fun i ys H' => H' = upd (upd H1 l (.lst (MK.map V.str))) a (.lst ys) ∧ ys = ((MK.zipIdx.take i).filter fun p => decide (Builtin.bitAnd ((1 + r) / 2 ^ p.2) 1 = 1)).map fun p => V.str p.1) ⟨rfl, rfl⟩ ?_ ?_
    · rintro i ys H' hi _ ⟨rfl, rfl⟩
      have hm : MK[i]? = some (MK[i]'hi) := List.getElem?_eq_getElem hi
      have hts := zip_take hm fun p => decide (Builtin.bitAnd ((1 + r) / 2 ^ p.2) 1 = 1)
      have hla := same_new (o := .lst (((MK.zipIdx.take i).filter fun p => decide (Builtin.bitAnd ((1 + r) / 2 ^ p.2) 1 = 1)).map fun p => V.str p.1)) na _ _ hl
      refine ⟨⟨[_], rfl, rfl⟩, _, rfl, _, rfl, _, _, rfl, rfl, by show (0 : Int) ≤ 0 + i; omega, _, _, rfl, rfl, rfl, _, rfl, ?_⟩
      have e0 : (0 + (i : Int)).toNat = i := by omega
      rw [dIw]
      refine ite2 (fun h4 => ?_) (fun h4 => ?_)
      · rw [e0] at h4
        have hat : atI (MK.map V.str) (0 + (i : Int)) = some (.str (MK[i]'hi)) := by
          rw [Int.zero_add]
          exact atI_nat (by rw [List.getElem?_map, hm]; rfl)
        refine ⟨_, rfl, _, rfl, l, _, _, _, rfl, rfl, SqL.of hla, hat, upd_same, ?_, upd_upd, ?_⟩
        · rw [List.length_map]
          exact Nat.lt_of_le_of_lt (List.length_filter_le _ _) (Nat.lt_of_le_of_lt (List.length_take_le' _ _) (by show 4 < sizeLine; decide))
        · rw [hts, if_pos h4, List.map_append]
          rfl
      · rw [e0] at h4
        refine ⟨upd_same, rfl, ?_⟩
        rw [hts, if_neg h4, List.append_nil]
    · rintro ys H' ha ⟨rfl, rfl⟩
      have e : ((MK.zipIdx.take 4).filter fun p => decide (Builtin.bitAnd ((1 + r) / 2 ^ p.2) 1 = 1)).map (fun p => V.str p.1) = (bitsM (1 + r)).map V.str := by
        rw [show MK.zipIdx.take 4 = MK.zipIdx from rfl, bitsM, List.map_map]
        rfl
      refine ⟨a, _, rfl, .inl ⟨SqL.of upd_same, fun t nt => ?_⟩⟩
      rw [e] at nt ⊢
      have o3 := (o2.alloc (o := .lst ((bitsM (1 + r)).map V.str)) (by rw [e] at *; exact na))
      exact q t (1 + r) _ (by omega) (by omega) upd_same (o3.alloc nt)
def spWords : Sp := fun vs H Q _ => ∃ (p c : Addr), vs = [.ref p] ∧ DeckAt H p c ∧ ∀ (a : Addr) (W : Wd) (H' : Hp), WdAt H' a W → WdOk W → On p c H H' → Q (.ref a) H'
theorem sc_words : FnScope ["_law_deck_here", "_law_head", "_law_some", "_law_upper"] ["_law_deck_here"] (defScope s_law_words) := ⟨rfl, rfl, rfl, by decide +kernel, rfl, by decide +kernel, by decide +kernel⟩
theorem g_words (h : Has K mg "_law_words" s_law_words) (B : Own mg) (G_law_take : Good P w K mg base 2 "_law_take" ["_law_deck_here", "_law_most"] spTake) (G_law_text : Good P w K mg base 3 "_law_text" ["_law_deck_here", "_law_most"] spText)
    (G_law_unlike : Good P w K mg base 4 "_law_unlike" ["_law_deck_here", "_law_many", "_law_most"] spUnlike) (G_law_some_marks : Good P w K mg base 3 "_law_some_marks" ["_law_deck_here"] spSome) : Good P w K mg base 5 "_law_words" ["_law_deck_here"] spWords := by
  refine h.good sc_words (fun _ _ _ _ _ _ us hl => match us, hl with | [_], _ => rfl) (fun vs H Q E q => ?_) (fun f cdv A outer s H vs Q E hr q => ?_)
  · obtain ⟨p, c, rfl, _⟩ := q
    rfl
  · obtain ⟨p, c, rfl, d, q⟩ := q
    have nd := sc_words.nd
    refine ⟨_, (pss_cons (ps_if (pt_cmpR op_eq (pe_fn G_law_take (hr.mono (by first | decide | omega)) rfl (pa_c (pv 0) (pa_c pe_int pa_nil))) pe_int (nomark _))
        (pss_cons (ps_set (i := 1) nd rfl (by first | exact Or.inl rfl | exact Or.inr rfl) (pe_fn G_law_text (hr.mono (by first | decide | omega)) rfl (pa_c (pv 0) (pa_c (pe_op op_mul pe_int (pe_fn G_law_take (hr.mono (by first | decide | omega)) rfl (pa_c (pv 0) (pa_c pe_int pa_nil)))) pa_nil))))
        (pss_cons (ps_set (i := 2) nd rfl (by first | exact Or.inl rfl | exact Or.inr rfl) (pe_fn G_law_unlike (hr.mono (by first | decide | omega)) rfl (pa_c (pv 0) (pa_c (pe_op op_add pe_int (pe_fn G_law_take (hr.mono (by first | decide | omega)) rfl (pa_c (pv 0) (pa_c pe_int pa_nil)))) (pa_c (pe_ix ix_list (@pe_lstQ _ _ _ _ (@qa_lits _ _ [.int 2, .int 3, .int 1, .int 20] rfl)) (pe_fn G_law_take (hr.mono (by first | decide | omega)) rfl (pa_c (pv 0) (pa_c pe_int pa_nil))) (fun _ _ => rfl)) pa_nil)))))
        (pss_one (ps_ret (@pe_tupQ _ _ _ _ _ (@qa_c _ _ _ _ _ pe_str (@qa_c _ _ _ _ _ (pe_callTy call_tuple_of rfl B.tuple_ boot_tuple (pa_c (pe_callB call_sortedS rfl B.sorted boot_sorted (pa_c (pe_comp (sc := defScope s_law_words) (XN := ["_law_deck_here", "_law_head", "_law_some", "_law_upper"]) (N := ["_law_text_here", "_law_head"]) (own := 1) (fr := [1]) rfl ⟨rfl, by decide +kernel, by decide +kernel, by decide +kernel, rfl, by decide +kernel, by decide, by decide +kernel⟩ (pi_list (pv 2)) (fun _ _ _ _ _ => (pg_name (i := 0) (show (["_law_text_here", "_law_head"] : List Str).Nodup by decide +kernel) rfl (by first | exact Or.inl rfl | exact Or.inr rfl))) (fun _ _ _ _ _ => pf_nil) (fun _ _ _ _ _ => (pe_op op_add_str (pv 1) (pv 0)))) pa_nil)) pa_nil)) qa_nil rfl) rfl))))))
        pss_nil)
      (pss_cons (ps_set (i := 1) nd rfl (by first | exact Or.inl rfl | exact Or.inr rfl) (pe_fn G_law_text (hr.mono (by first | decide | omega)) rfl (pa_c (pv 0) (pa_c (pe_ix ix_list (@pe_lstQ _ _ _ _ (@qa_lits _ _ [.int 0, .int 2, .int 3, .int 30] rfl)) (pe_fn G_law_take (hr.mono (by first | decide | omega)) rfl (pa_c (pv 0) (pa_c pe_int pa_nil))) (fun _ _ => rfl)) pa_nil))))
      (pss_cons (ps_set (i := 3) nd rfl (by first | exact Or.inl rfl | exact Or.inr rfl) (pe_op op_add pe_int (pe_fn G_law_take (hr.mono (by first | decide | omega)) rfl (pa_c (pv 0) (pa_c (pe_ix ix_list (@pe_lstQ _ _ _ _ (@qa_c _ _ _ _ _ pe_int (@qa_c _ _ _ _ _ pe_int (@qa_c _ _ _ _ _ pe_int (@qa_c _ _ _ _ _ (pe_op op_sub pe_int (pe_callB call_len_str rfl B.len PySem.boot_len (pa_c (pv 1) pa_nil))) qa_nil rfl) rfl) rfl) rfl)) (pe_fn G_law_take (hr.mono (by first | decide | omega)) rfl (pa_c (pv 0) (pa_c pe_int pa_nil))) (fun _ _ => rfl)) pa_nil)))))
      (pss_one (ps_ret (@pe_tupQ _ _ _ _ _ (@qa_c _ _ _ _ _ pe_str (@qa_c _ _ _ _ _ (pv 1) (@qa_c _ _ _ _ _ (pe_fn G_law_take (hr.mono (by first | decide | omega)) rfl (pa_c (pv 0) (pa_c (pe_op op_add (pv 3) pe_int) pa_nil))) (@qa_c _ _ _ _ _ (pv 3) (@qa_c _ _ _ _ _ (pe_fn G_law_some_marks (hr.mono (by first | decide | omega)) rfl (pa_c (pv 0) pa_nil)) qa_nil rfl) rfl) rfl) rfl) rfl))))))), ?_⟩
    refine ⟨_, rfl, p, c, _, rfl, d, by decide, big (by decide) (by decide), fun r H1 _ _ o1 => ⟨rfl, _, rfl, ?_⟩⟩
    refine ite2 (fun _ => ?_) (fun _ => ?_)
    · -- few
      refine ⟨_, rfl, _, rfl, p, c, _, rfl, o1.d, by decide, big (by decide) (by decide), fun r2 H2 a2 b2 o2 => ⟨_, _, rfl, rfl, .inl ⟨by decide, by decide⟩, p, c, _, rfl, o2.d, by omega, by omega, fun hd H3 shd hhd o3 => ?_⟩⟩
      have o123 := (o1.trans o2).trans o3
      refine ⟨_, rfl, _, rfl, p, c, _, rfl, o3.d, by decide, big (by decide) (by decide), fun r4 H4 a4 b4 o4 => ⟨_, _, rfl, rfl, by show 4 ≤ sizeLine; decide, fun l nl => ?_⟩⟩
      have o5 := (o123.trans o4).alloc (o := .lst [.int 2, .int 3, .int 1, .int 20]) nl
      refine ⟨_, rfl, p, c, _, rfl, o5.d, by decide, big (by decide) (by decide), fun r6 H6 a6 b6 o6 => ?_⟩
      obtain ⟨m, hm, hmm⟩ := menu4I (a := 2) (b := 3) (c := 1) (e := 20) a6 b6
      have hl6 := o6.lst (at_new (o := .lst [.int 2, .int 3, .int 1, .int 20]) nl) (o4.d.nep nl) (o4.d.nec nl)
      refine ⟨l, _, _, _, rfl, rfl, SqL.of hl6, hm, p, c, _, m, rfl, o6.d, by omega, by omega, by omega, by omega, fun ls ss H7 lsp lsc hls hlen htx o7 => ?_⟩
      have o57 := (o5.trans o6).trans o7
      have hss : ss.length ≤ 6 := by omega
      have hss1 : 1 ≤ ss.length := by omega
      refine ⟨_, rfl, ls, rfl, ⟨_, SqL.of hls⟩, fun a na => ?_⟩
      have hlsa : ∀ o, upd H7 a o ls = some (.lst (ss.map V.str)) := fun o => same_new na _ _ hls
      have hl20 : ∀ s ∈ ss, s.length ≤ 20 := fun s hs => by
        have := (htx.2 s hs).2
        split at this <;> omega
      refine comp_list (K := K) (xs := ss.map V.str) (fun i ys H' => H' = upd H7 a (.lst ys) ∧ ys = ((ss.take i).map fun s => hd ++ s).map V.str) ⟨rfl, rfl⟩ (fun i ys H' _ _ ⟨e, _⟩ => by rw [e]; exact SqL.of (hlsa _)) ?_ ?_
      · rintro i v ys H' hv _ ⟨rfl, rfl⟩
        rw [List.getElem?_map] at hv
        cases hi' : ss[i]? with
        | none => rw [hi'] at hv; cases hv
        | some s =>
          rw [hi'] at hv
          have hv : V.str s = v := Option.some.inj hv
          subst hv
          have := hl20 s (List.mem_of_getElem? hi')
          refine ⟨⟨[_], rfl, rfl⟩, noIfT ⟨_, rfl, _, rfl, hd, s, rfl, rfl, Nat.le_of_lt (small1000 (by omega)), upd_same, ?_, upd_upd, ?_⟩⟩
          · rw [List.length_map, List.length_map]
            exact Nat.lt_of_le_of_lt (List.length_take_le' _ _) (small1000 (by omega))
          · rw [List.take_add_one, hi', List.map_append, List.map_append]
            rfl
      · rintro ys H' ha ⟨rfl, rfl⟩
        have e : ((ss.take (ss.map V.str).length).map fun s => hd ++ s) = ss.map fun s => hd ++ s := by rw [List.length_map, List.take_length]
        rw [e] at ha ⊢
        refine ⟨a, ss.map fun s => hd ++ s, rfl, SqL.of ha, by rw [List.length_map]; omega, fun zs l8 hp8 hs8 n8 => ?_⟩
        have o8 := (o57.alloc (o := .lst ((ss.map fun s => hd ++ s).map V.str)) na).alloc (o := .lst (zs.map V.str)) n8
        refine ⟨l8, _, rfl, .inl ⟨SqL.of (at_new n8), fun t9 n9 => ?_⟩⟩
        have o9 := o8.alloc (o := .tup (zs.map V.str)) n9
        refine ⟨by show 2 ≤ sizeLine; decide, fun t10 n10 => ?_⟩
        have hzl : zs.length = ss.length := by rw [hp8.length_eq, List.length_map]
        refine q t10 (.few zs) _ ⟨t9, at_new n10, same_new n10 _ _ (at_new n9)⟩ ⟨?_, by omega, ?_, hs8, ?_⟩ (o9.alloc n10)
        · intro z
          rw [z] at hzl
          simp at hzl
          omega
        · refine hp8.symm.nodup ?_
          unfold List.Nodup
          rw [List.pairwise_map]
          refine htx.1.imp fun {u v} hne e => hne ?_
          have h1 : cs hd ++ cs u = cs hd ++ cs v := by rw [← WordM.app, ← WordM.app, e]
          exact str_ext (List.append_cancel_left h1)
        · intro z hz
          obtain ⟨s, hs, rfl⟩ := List.mem_map.mp (hp8.mem_iff.mp hz)
          refine ⟨shd.app (htx.2 s hs).1, ?_⟩
          rw [WordM.len, WordM.app, List.length_append, ← WordM.len, ← WordM.len]
          have := hl20 s hs
          omega
    · -- make
      refine ⟨_, rfl, by show 4 ≤ sizeLine; decide, fun l nl => ?_⟩
      have o2 := o1.alloc (o := .lst [.int 0, .int 2, .int 3, .int 30]) nl
      refine ⟨_, rfl, p, c, _, rfl, o2.d, by decide, big (by decide) (by decide), fun r3 H3 a3 b3 o3 => ?_⟩
      obtain ⟨m, hm, hmm⟩ := menu4I (a := 0) (b := 2) (c := 3) (e := 30) a3 b3
      have hl3 := o3.lst (at_new (o := .lst [.int 0, .int 2, .int 3, .int 30]) nl) (o1.d.nep nl) (o1.d.nec nl)
      refine ⟨l, _, _, _, rfl, rfl, SqL.of hl3, hm, p, c, m, rfl, o3.d, by omega, by omega, fun hd H4 shd hhd o4 => ?_⟩
      have o24 := (o2.trans o3).trans o4
      have hhd' : hd.length ≤ 30 := by omega
      refine ⟨_, rfl, _, rfl, hd, rfl, Nat.le_of_lt (small1000 (by omega)), _, _, rfl, rfl, by show 4 ≤ sizeLine; decide, fun l5 n5 => ?_⟩
      have o5 := o24.alloc (o := .lst [.int 3, .int 3, .int 3, .int (60 - (hd.length : Int))]) n5
      refine ⟨_, rfl, p, c, _, rfl, o5.d, by decide, big (by decide) (by decide), fun r6 H6 a6 b6 o6 => ?_⟩
      obtain ⟨m2, hm2, hmm2⟩ := menu4I (a := 3) (b := 3) (c := 3) (e := 60 - (hd.length : Int)) a6 b6
      have hl6 := o6.lst (at_new (o := .lst [.int 3, .int 3, .int 3, .int (60 - (hd.length : Int))]) n5) (o24.d.nep n5) (o24.d.nec n5)
      refine ⟨l5, _, _, _, rfl, rfl, SqL.of hl6, hm2, p, c, m2, rfl, o6.d, by omega, big (by omega) (by omega), fun r7 H7 a7 b7 o7 => ⟨_, _, rfl, rfl, ?_⟩⟩
      have o57 := (o5.trans o6).trans o7
      refine ⟨_, rfl, _, rfl, _, rfl, _, _, rfl, rfl, p, c, _, rfl, o7.d, by omega, big (by omega) (by omega), fun r8 H8 a8 b8 o8 => ?_⟩
      refine ⟨_, rfl, _, rfl, p, c, rfl, o8.d, fun t b H9 b1 b2 ht o9 => ⟨by show 5 ≤ sizeLine; decide, fun t10 n10 => ?_⟩⟩
      refine q t10 (.make hd r8 (1 + r7) (bitsM b)) _ ⟨t, at_new n10, same_new n10 _ _ ht⟩ ⟨shd, hhd', a8, by omega, by omega, by omega, b, b1, b2, rfl⟩ (((o57.trans o8).trans o9).alloc n10)
end
theorem at_strs {ss : List Str} {k : Int} (h0 : 0 ≤ k) (h1 : k < ss.length) : ∃ s, atI (ss.map V.str) k = some (.str s) ∧ s ∈ ss := by
  have hl : k.toNat < ss.length := by omega
  refine ⟨ss[k.toNat], ?_, List.getElem_mem hl⟩
  have := atI_nat (xs := ss.map V.str) (j := k.toNat) (v := .str ss[k.toNat]) (by rw [List.getElem?_map, List.getElem?_eq_getElem hl]; rfl)
  rw [show ((k.toNat : Nat) : Int) = k by omega] at this
  exact this
theorem len_app (a b : Str) : (a ++ b).length = a.length + b.length := by rw [WordM.len, WordM.app, List.length_append, ← WordM.len, ← WordM.len]
theorem map_take {α β : Type} {xs : List α} {i : Nat} {x : α} (f : α → β) (h : xs[i]? = some x) : (xs.take (i + 1)).map f = (xs.take i).map f ++ [f x] := by
  rw [List.take_add_one, h, List.map_append]
  rfl
theorem lt_take {α β : Type} {xs : List α} (f : α → β) (i : Nat) (h : xs.length ≤ 1000) : ((xs.take i).map f).length < sizeLine := by
  rw [List.length_map]
  exact Nat.lt_of_le_of_lt (List.length_take_le' _ _) (small1000 h)
/-! ### texts that show words -/
open WordM ShowM
theorem stW_iff {x y : Str} : stW x y = true ↔ ∃ r, cs x = cs y ++ r := by
  unfold stW
  rw [StrLaws.subAt_eq, Bool.and_eq_true, decide_eq_true_iff, List.drop_zero, beq_iff_eq, WordM.len, WordM.len]
  constructor
  · rintro ⟨h1, h2⟩
    have h2 : (cs x).take (cs y).length = cs y := h2
    exact ⟨(cs x).drop (cs y).length, (List.take_append_drop (cs y).length (cs x)).symm.trans (by rw [h2])⟩
  · rintro ⟨r, e⟩
    show _ ∧ (cs x).take _ = _
    rw [e]
    exact ⟨by rw [List.length_append]; omega, by rw [List.take_left']; rfl⟩
theorem restW_of {x y : Str} {r : List Nat} (e : cs x = cs y ++ r) : cs (restW x y) = r := by
  have hl : x.length = (cs y).length + r.length := by rw [WordM.len, e, List.length_append]
  unfold restW
  rw [PyProof.Rows.slice_from_eq (b := (x.length : Int)) (by omega) (by rw [hl, WordM.len]; omega) rfl]
  show ((cs x).drop _).take _ = r
  rw [hl, WordM.len y, e, show (((cs y).length : Nat) : Int).toNat = (cs y).length by omega, List.drop_left, List.take_of_length_le]
  omega
theorem letW_make {hd x : Str} {lo hi : Int} {ms : List Str} : letW (.make hd lo hi ms) x = true ↔ MkL markC (cs hd) lo hi ms (cs x) := by
  unfold letW MkL
  rw [Bool.and_eq_true, Bool.and_eq_true, Bool.and_eq_true, decide_eq_true_iff, decide_eq_true_iff, List.all_eq_true, stW_iff, WordM.len]
  constructor
  · rintro ⟨⟨r, e⟩, ⟨h1, h2⟩, h3⟩
    rw [restW_of e] at h1 h2 h3
    exact ⟨r, e, h1, h2, fun c hc => of_decide_eq_true (h3 c hc)⟩
  · rintro ⟨r, e, h1, h2, h3⟩
    rw [restW_of e]
    exact ⟨⟨r, e⟩, ⟨h1, h2⟩, fun c hc => decide_eq_true (h3 c hc)⟩
/-- words as they are drawn here, near ones too -/
def WdOkN : Wd → Prop
  | .few ss => ss ≠ [] ∧ ss.length ≤ 6 ∧ ss.Nodup ∧ sortedS ss = true ∧ ∀ s ∈ ss, Sg s ∧ s.length ≤ 100
  | .make hd lo hi ms => Sg hd ∧ hd.length ≤ 60 ∧ 0 ≤ lo ∧ lo ≤ hi ∧ 1 ≤ hi ∧ hi ≤ 62 ∧ ∃ b, 1 ≤ b ∧ b < 16 ∧ ms = bitsM b
theorem WdOk.n : ∀ {W : Wd}, WdOk W → WdOkN W
  | .few _, ⟨h1, h2, h3, h4, h5⟩ => ⟨h1, h2, h3, h4, fun s hs => ⟨(h5 s hs).1, Nat.le_trans (h5 s hs).2 (by decide)⟩⟩
  | .make .., ⟨h1, h2, h3, h4, h5, h6, h7⟩ => ⟨h1, Nat.le_trans h2 (by decide), h3, h4, h5, Int.le_trans h6 (by decide), h7⟩
theorem WdOkN.hd : ∀ {W : Wd}, WdOkN W → W.hdOk
  | .few _, _ => trivial
  | .make .., h => Nat.le_trans h.2.1 (by decide)
def Shows (W : Wd) (ts : List Str) : Prop := (∀ t ∈ ts, letW W t = true ∧ Sg t ∧ t.length ≤ 200) ∧ ∀ W2, WdOkN W2 → (∀ t ∈ ts, letW W2 t = true) → ∀ x, letW W x = true → letW W2 x = true
theorem shows_few {ss : List Str} (h : WdOkN (.few ss)) : Shows (.few ss) ss :=
  ⟨fun t ht => ⟨decide_eq_true ht, (h.2.2.2.2 t ht).1, Nat.le_trans (h.2.2.2.2 t ht).2 (by decide)⟩, fun W2 _ k x hx => k x (of_decide_eq_true hx)⟩
theorem shows_make {hd : Str} {lo hi : Int} {ms : List Str} {ts : List Str} (T : Tells markC (cs hd) lo hi ms (ts.map cs)) (h : ∀ t ∈ ts, letW (.make hd lo hi ms) t = true ∧ Sg t ∧ t.length ≤ 200) : Shows (.make hd lo hi ms) ts := by
  refine ⟨h, fun W2 ok k x hx => ?_⟩
  cases W2 with
  | few ss =>
    refine (T.few (ss := ss.map cs) (by rw [List.length_map]; exact ok.2.1) fun y hy => ?_).elim
    obtain ⟨t, ht, rfl⟩ := List.mem_map.mp hy
    exact List.mem_map.mpr ⟨t, of_decide_eq_true (k t ht), rfl⟩
  | make hd2 lo2 hi2 ms2 =>
    rw [letW_make] at hx ⊢
    refine T.make (fun y hy => ?_) _ hx
    obtain ⟨t, ht, rfl⟩ := List.mem_map.mp hy
    exact letW_make.mp (k t ht)
/-- a sign so many times -/
def repC (c : Nat) (n : Int) : Str := repS ⟨#[c]⟩ n
theorem cs_rep (c : Nat) (n : Int) : cs (repC c n) = List.replicate n.toNat c := by
  show ((List.replicate n.toNat [c]).flatten.toArray).toList = _
  rw [List.toList_toArray]
  induction n.toNat with
  | zero => rfl
  | succ k ih => rw [List.replicate_succ, List.flatten_cons, ih, List.replicate_succ]; rfl
theorem rep_len (c : Nat) (n : Int) : (repC c n).length = n.toNat := by rw [WordM.len, cs_rep, List.length_replicate]
theorem sg_rep {c : Nat} (h : c ∈ cs SIG) (n : Int) : Sg (repC c n) := fun d hd => by
  rw [cs_rep] at hd
  rw [(List.mem_replicate.mp hd).2]
  exact h
def signsM (m : Str) : List Nat := cs ((L2.getS SGN m).getD ⟨#[]⟩)
/-- the program's signs of some marks -/
def sgM : List Str → List Nat
  | [] => []
  | m :: r => (signsM m).take 7 ++ r.map fun m => (signsM m).headD 0
/-- the law's -/
def goodM (ms : List Str) : List Nat := (cs SIG).filter fun c => decide (markC c ∈ ms)
structure Signs (ms : List Str) (G : List Nat) : Prop where
  many : 7 ≤ G.length
  nd : G.Nodup
  cov : ∀ m ∈ ms, ∃ c ∈ G, markC c = m
  mine : ∀ c ∈ G, markC c ∈ ms
  sg : ∀ c ∈ G, c ∈ cs SIG
instance (ms : List Str) (G : List Nat) : Decidable (Signs ms G) :=
  decidable_of_iff (7 ≤ G.length ∧ G.Nodup ∧ (∀ m ∈ ms, ∃ c ∈ G, markC c = m) ∧ (∀ c ∈ G, markC c ∈ ms) ∧ ∀ c ∈ G, c ∈ cs SIG) ⟨fun ⟨a, b, c, d, e⟩ => ⟨a, b, c, d, e⟩, fun ⟨a, b, c, d, e⟩ => ⟨a, b, c, d, e⟩⟩
theorem signs_ok {b : Int} (h1 : 1 ≤ b) (h2 : b < 16) : Signs (bitsM b) (sgM (bitsM b)) ∧ Signs (bitsM b) (goodM (bitsM b)) ∧ (sgM (bitsM b)).length ≤ 10 := by
  have : b = 1 ∨ b = 2 ∨ b = 3 ∨ b = 4 ∨ b = 5 ∨ b = 6 ∨ b = 7 ∨ b = 8 ∨ b = 9 ∨ b = 10 ∨ b = 11 ∨ b = 12 ∨ b = 13 ∨ b = 14 ∨ b = 15 := by omega
  rcases this with e | e | e | e | e | e | e | e | e | e | e | e | e | e | e <;> subst e <;> decide +kernel
/-- the program's texts, the law's -/
def textsW : Wd → List Str
  | .few ss => ss
  | .make hd lo hi ms => ((sgM ms).map fun c => hd ++ repC c hi) ++ (if lo < hi then [hd ++ repC ((sgM ms).headD 0) lo] else [])
def witW : Wd → List Str
  | .few ss => ss
  | .make hd lo hi ms => (((goodM ms).map fun c => hd ++ repC c (if lo > 1 then lo else 1)) ++ (if lo = 0 then [hd] else [])) ++ [hd ++ repC ((goodM ms).headD 0) hi]
theorem head_in {G : List Nat} (h : 7 ≤ G.length) : G.headD 0 ∈ G := by
  cases G with
  | nil => simp at h
  | cons c G => exact List.mem_cons_self
theorem let_rep {hd : Str} {lo hi n : Int} {ms : List Str} {G : List Nat} (S : Signs ms G) (shd : Sg hd) (hl : hd.length ≤ 60) {c : Nat} (hc : c ∈ G) (h0 : 0 ≤ n) (h1 : lo ≤ n) (h2 : n ≤ hi) (h3 : hi ≤ 62) :
    letW (.make hd lo hi ms) (hd ++ repC c n) = true ∧ Sg (hd ++ repC c n) ∧ (hd ++ repC c n).length ≤ 200 := by
  refine ⟨letW_make.mpr ⟨_, by rw [WordM.app, cs_rep], ?_, ?_, fun d hd => ?_⟩, shd.app (sg_rep (S.sg c hc) n), ?_⟩
  · rw [List.length_replicate]; omega
  · rw [List.length_replicate]; omega
  · rw [(List.mem_replicate.mp hd).2]; exact S.mine c hc
  · rw [WordM.len, WordM.app, List.length_append, ← WordM.len, ← WordM.len, rep_len]; omega
theorem wit_show : ∀ {W : Wd}, WdOkN W → Shows W (witW W)
  | .few ss, h => shows_few h
  | .make hd lo hi ms, ⟨shd, hl, lo0, lohi, hi1, hi62, b, b1, b2, e⟩ => by
    subst e
    obtain ⟨_, S, _⟩ := signs_ok b1 b2
    have m1 : ∀ g ∈ goodM (bitsM b), hd ++ repC g (if lo > 1 then lo else 1) ∈ witW (.make hd lo hi (bitsM b)) := fun g hg => List.mem_append_left _ (List.mem_append_left _ (List.mem_map.mpr ⟨g, hg, rfl⟩))
    have m3 : hd ++ repC ((goodM (bitsM b)).headD 0) hi ∈ witW (.make hd lo hi (bitsM b)) := List.mem_append_right _ List.mem_cons_self
    refine shows_make ⟨⟨(if lo > 1 then lo else 1).toNat, goodM (bitsM b), by split <;> omega, S.many, S.nd, S.cov, fun g hg => ?_⟩, ?_, ?_⟩ fun t ht => ?_
    · exact List.mem_map.mpr ⟨_, m1 g hg, by rw [WordM.app, cs_rep]⟩
    · by_cases h : lo = 0
      · refine ⟨[], by rw [h]; exact Int.le_refl _, List.mem_map.mpr ⟨hd, ?_, by rw [List.append_nil]⟩⟩
        refine List.mem_append_left _ (List.mem_append_right _ ?_)
        rw [if_pos h]
        exact List.mem_cons_self
      · exact ⟨List.replicate (if lo > 1 then lo else 1).toNat ((goodM (bitsM b)).headD 0), by rw [List.length_replicate]; split <;> omega, List.mem_map.mpr ⟨_, m1 _ (head_in S.many), by rw [WordM.app, cs_rep]⟩⟩
    · exact ⟨List.replicate hi.toNat ((goodM (bitsM b)).headD 0), by rw [List.length_replicate]; omega, List.mem_map.mpr ⟨_, m3, by rw [WordM.app, cs_rep]⟩⟩
    · have ht : t ∈ (((goodM (bitsM b)).map fun c => hd ++ repC c (if lo > 1 then lo else 1)) ++ (if lo = 0 then [hd] else [])) ++ [hd ++ repC ((goodM (bitsM b)).headD 0) hi] := ht
      rcases List.mem_append.mp ht with z | z
      · rcases List.mem_append.mp z with z | z
        · obtain ⟨c, hc, rfl⟩ := List.mem_map.mp z
          exact let_rep S shd hl hc (by split <;> omega) (by split <;> omega) (by split <;> omega) hi62
        · split at z
          · rename_i h
            have : t = hd := by simpa using z
            subst this
            exact ⟨letW_make.mpr ⟨[], by simp, by rw [h]; exact Int.le_refl _, by show (0 : Int) ≤ hi; omega, fun c hc => nomatch hc⟩, shd, by omega⟩
          · simp at z
      · have : t = hd ++ repC ((goodM (bitsM b)).headD 0) hi := by simpa using z
        subst this
        exact let_rep S shd hl (head_in S.many) (by omega) lohi (by omega) hi62
/-- what parts them, by the program -/
def partW (W W2 : Wd) : Option Str := (textsW W).find? fun t => !letW W2 t
/-! ### words near by -/
open WordM
theorem menu2R {a b : Addr} {r : Int} (h0 : 0 ≤ r) (h2 : r < 2) : ∃ x, atI [V.ref a, V.ref b] r = some (.ref x) ∧ (x = a ∨ x = b) := by
  have : r = 0 ∨ r = 1 := by omega
  rcases this with e | e <;> subst e
  · exact ⟨_, rfl, .inl rfl⟩
  · exact ⟨_, rfl, .inr rfl⟩
theorem rising_take : ∀ (p : Str) (l : List Str) (n : Nat), risingS p l = true → risingS p (l.take n) = true
  | p, [], n, h => by rw [List.take_nil]; exact h
  | p, x :: l, 0, h => rfl
  | p, x :: l, n + 1, h => by
    have h : (!PySem.Spec.ltCps x.cps.toList p.cps.toList && risingS x l) = true := h
    rw [Bool.and_eq_true] at h
    show (!PySem.Spec.ltCps x.cps.toList p.cps.toList && risingS x (l.take n)) = true
    rw [h.1, rising_take x l n h.2]
    rfl
theorem sorted_take : ∀ (l : List Str) (n : Nat), sortedS l = true → sortedS (l.take n) = true
  | [], n, h => by rw [List.take_nil]; exact h
  | x :: l, 0, h => rfl
  | x :: l, n + 1, h => rising_take x l n h
theorem cut_from {ss : List Str} {k : Int} (h0 : 0 ≤ k) (h1 : k < ss.length) : cutV (ss.map V.str) (some k) none = (ss.drop k.toNat).map V.str := by
  unfold cutV
  rw [HT.sIx_none, show (some k) = some ((k.toNat : Nat) : Int) by rw [Int.toNat_of_nonneg h0], HT.sIx_nat, List.length_map, Nat.min_eq_left (by omega), List.take_of_length_le (by rw [List.length_drop, List.length_map]; exact Nat.le_refl _), List.map_drop]
theorem cut_to {ss : List Str} : cutV (ss.map V.str) none (some 6) = (ss.take 6).map V.str := by
  unfold cutV
  rw [HT.sIx_none, show (some (6 : Int)) = some ((6 : Nat) : Int) from rfl, HT.sIx_nat, List.length_map, List.drop_zero, Nat.sub_zero, List.map_take]
  by_cases h : 6 ≤ ss.length
  · rw [Nat.min_eq_left h]
  · rw [Nat.min_eq_right (by omega), List.take_of_length_le (by rw [List.length_map]; exact Nat.le_refl _), List.take_of_length_le (by rw [List.length_map]; omega)]
section
variable {P : Program} {w : World} {K : PySem.W.Frag} {mg : Str → Option Value} {base : Heap}
def spNear : Sp := fun vs H Q _ => ∃ (p c a : Addr) (W : Wd), vs = [.ref p, .ref a] ∧ DeckAt H p c ∧ WdAt H a W ∧ WdOk W ∧ ∀ (a' : Addr) (W' : Wd) (H' : Hp), WdAt H' a' W' → WdOkN W' → On p c H H' → Q (.ref a') H'
theorem sc_near : FnScope ["_law_deck_here", "_law_words_here", "_law_way", "_law_at", "_law_some", "_law_head", "_law_more", "_law_upper", "_law_least"] ["_law_deck_here", "_law_words_here"] (defScope s_law_near) := ⟨rfl, rfl, rfl, by decide +kernel, rfl, by decide +kernel, by decide +kernel⟩
theorem g_near (h : Has K mg "_law_near" s_law_near) (B : Own mg) (G_law_take : Good P w K mg base 2 "_law_take" ["_law_deck_here", "_law_most"] spTake) (G_law_text : Good P w K mg base 3 "_law_text" ["_law_deck_here", "_law_most"] spText)
    (G_law_unlike : Good P w K mg base 4 "_law_unlike" ["_law_deck_here", "_law_many", "_law_most"] spUnlike) (G_law_some_marks : Good P w K mg base 3 "_law_some_marks" ["_law_deck_here"] spSome) (G_law_words : Good P w K mg base 5 "_law_words" ["_law_deck_here"] spWords) :
    Good P w K mg base 6 "_law_near" ["_law_deck_here", "_law_words_here"] spNear := by
  refine h.good sc_near (fun _ _ _ _ _ _ us hl => match us, hl with | [_, _], _ => rfl) (fun vs H Q E q => ?_) (fun f cdv A outer s H vs Q E hr q => ?_)
  · obtain ⟨p, c, a, W, rfl, _⟩ := q
    rfl
  · obtain ⟨p, c, a, W, rfl, d, hW, hok, q⟩ := q
    have nd := sc_near.nd
    refine ⟨_, (pss_cons (ps_set (i := 2) nd rfl (by first | exact Or.inl rfl | exact Or.inr rfl) (pe_fn G_law_take (hr.mono (by first | decide | omega)) rfl (pa_c (pv 0) (pa_c pe_int pa_nil))))
      (pss_cons (ps_if (pt_cmpR op_eq (pv 2) pe_int (nomark _))
        (pss_one (ps_ret (pe_fn G_law_words (hr.mono (by first | decide | omega)) rfl (pa_c (pv 0) pa_nil))))
        pss_nil)
      (pss_cons (ps_if (pt_cmpR op_eq (pe_ix ix_tup (pv 1) pe_int (fun _ _ => rfl)) pe_str (nomark _))
        (pss_cons (ps_set (i := 3) nd rfl (by first | exact Or.inl rfl | exact Or.inr rfl) (pe_fn G_law_take (hr.mono (by first | decide | omega)) rfl (pa_c (pv 0) (pa_c (pe_callB call_len_seq rfl B.len PySem.boot_len (pa_c (pe_ix ix_tup (pv 1) pe_int (fun _ _ => rfl)) pa_nil)) pa_nil))))
        (pss_cons (ps_set (i := 4) nd rfl (by first | exact Or.inl rfl | exact Or.inr rfl) (pe_op op_cat (pe_callTy call_list_of rfl B.list_ boot_list (pa_c (pe_slice sl_tupW (pe_ix ix_tup (pv 1) pe_int (fun _ _ => rfl)) (po_some (pv 3)) po_none) pa_nil)) (pe_fn G_law_unlike (hr.mono (by first | decide | omega)) rfl (pa_c (pv 0) (pa_c (pe_ix ix_list (@pe_lstQ _ _ _ _ (@qa_lits _ _ [.int 0, .int 1, .int 6, .int 1, .int 0] rfl)) (pv 2) (fun _ _ => rfl)) (pa_c pe_int pa_nil))))))
        (pss_cons (ps_if (pt_cmpR op_lt (pv 2) pe_int (nomark _))
          (pss_one (ps_ret (@pe_tupQ _ _ _ _ _ (@qa_c _ _ _ _ _ pe_str (@qa_c _ _ _ _ _ (pe_callTy call_tuple_of rfl B.tuple_ boot_tuple (pa_c (pe_slice sl_list (pe_callB (call_sortedU rfl) rfl B.sorted boot_sorted (pa_c (pe_callTy (call_setS rfl) rfl B.set_ L2.boot_set (pa_c (pv 4) pa_nil)) pa_nil)) po_none (po_some pe_int)) pa_nil)) qa_nil rfl) rfl))))
          pss_nil)
        (pss_cons (ps_set (i := 5) nd rfl (by first | exact Or.inl rfl | exact Or.inr rfl) (pe_slice sl_str (pe_ix ix_tup (pe_ix ix_tup (pv 1) pe_int (fun _ _ => rfl)) (pv 3) (fun _ _ => rfl)) po_none (po_some (pe_fn G_law_take (hr.mono (by first | decide | omega)) rfl (pa_c (pv 0) (pa_c pe_int pa_nil))))))
        (pss_one (ps_ret (@pe_tupQ _ _ _ _ _ (@qa_c _ _ _ _ _ pe_str (@qa_c _ _ _ _ _ (pv 5) (@qa_c _ _ _ _ _ (pe_fn G_law_take (hr.mono (by first | decide | omega)) rfl (pa_c (pv 0) (pa_c pe_int pa_nil))) (@qa_c _ _ _ _ _ (pe_op op_add pe_int (pe_fn G_law_take (hr.mono (by first | decide | omega)) rfl (pa_c (pv 0) (pa_c pe_int pa_nil)))) (@qa_c _ _ _ _ _ (pe_fn G_law_some_marks (hr.mono (by first | decide | omega)) rfl (pa_c (pv 0) pa_nil)) qa_nil rfl) rfl) rfl) rfl) rfl))))))))
        pss_nil)
      (pss_cons (ps_set (i := 5) nd rfl (by first | exact Or.inl rfl | exact Or.inr rfl) (pe_ix ix_tup (pv 1) pe_int (fun _ _ => rfl)))
      (pss_cons (ps_if (pt_cmpR op_eq (pv 2) pe_int (nomark _))
        (pss_one (ps_set (i := 5) nd rfl (by first | exact Or.inl rfl | exact Or.inr rfl) (pe_slice sl_str (pv 5) po_none (po_some (pe_fn G_law_take (hr.mono (by first | decide | omega)) rfl (pa_c (pv 0) (pa_c (pe_op op_add (pe_callB call_len_str rfl B.len PySem.boot_len (pa_c (pv 5) pa_nil)) pe_int) pa_nil)))))))
        pss_nil)
      (pss_cons (ps_if (pt_cmpR op_eq (pv 2) pe_int (nomark _))
        (pss_one (ps_set (i := 5) nd rfl (by first | exact Or.inl rfl | exact Or.inr rfl) (pe_slice sl_str (pe_op op_add_str (pv 5) (pe_fn G_law_text (hr.mono (by first | decide | omega)) rfl (pa_c (pv 0) (pa_c pe_int pa_nil)))) po_none (po_some pe_int))))
        pss_nil)
      (pss_cons (ps_if (pt_cmpR op_eq (pv 2) pe_int (nomark _))
        (pss_cons (ps_setc (i := 6) (sc := defScope s_law_near) (XN := ["_law_deck_here", "_law_words_here", "_law_way", "_law_at", "_law_some", "_law_head", "_law_more", "_law_upper", "_law_least"]) (N := ["_law_text_here", "_law_head"]) (own := 1) (fr := [5]) rfl nd rfl (by first | exact Or.inl rfl | exact Or.inr rfl) ⟨rfl, by decide +kernel, by decide +kernel, by decide +kernel, rfl, by decide +kernel, by decide, by decide +kernel⟩ (pi_list (pe_fn G_law_unlike (hr.mono (by first | decide | omega)) rfl (pa_c (pv 0) (pa_c (pe_op op_add pe_int (pe_fn G_law_take (hr.mono (by first | decide | omega)) rfl (pa_c (pv 0) (pa_c pe_int pa_nil)))) (pa_c pe_int pa_nil))))) (fun _ _ _ _ _ => (pg_name (i := 0) (show (["_law_text_here", "_law_head"] : List Str).Nodup by decide +kernel) rfl (by first | exact Or.inl rfl | exact Or.inr rfl))) (fun _ _ _ _ _ => pf_nil) (fun _ _ _ _ _ => (pe_op op_add_str (pv 1) (pv 0))))
        (pss_one (ps_ret (@pe_tupQ _ _ _ _ _ (@qa_c _ _ _ _ _ pe_str (@qa_c _ _ _ _ _ (pe_callTy call_tuple_of rfl B.tuple_ boot_tuple (pa_c (pe_callB call_sortedS rfl B.sorted boot_sorted (pa_c (pv 6) pa_nil)) pa_nil)) qa_nil rfl) rfl)))))
        pss_nil)
      (pss_cons (ps_set (i := 7) nd rfl (by first | exact Or.inl rfl | exact Or.inr rfl) (pe_callB (call_max2 rfl) rfl B.max boot_max (pa_c pe_int (pa_c (pe_callB (call_min2 rfl) rfl B.min boot_min (pa_c (pe_op op_sub pe_int (pe_callB call_len_str rfl B.len PySem.boot_len (pa_c (pv 5) pa_nil))) (pa_c (pe_op op_sub (pe_op op_add (pe_ix ix_tup (pv 1) pe_int (fun _ _ => rfl)) (pe_fn G_law_take (hr.mono (by first | decide | omega)) rfl (pa_c (pv 0) (pa_c pe_int pa_nil)))) pe_int) pa_nil))) pa_nil))))
      (pss_cons (ps_set (i := 8) nd rfl (by first | exact Or.inl rfl | exact Or.inr rfl) (pe_callB (call_max2 rfl) rfl B.max boot_max (pa_c pe_int (pa_c (pe_callB (call_min2 rfl) rfl B.min boot_min (pa_c (pv 7) (pa_c (pe_op op_sub (pe_op op_add (pe_ix ix_tup (pv 1) pe_int (fun _ _ => rfl)) (pe_fn G_law_take (hr.mono (by first | decide | omega)) rfl (pa_c (pv 0) (pa_c pe_int pa_nil)))) pe_int) pa_nil))) pa_nil))))
      (pss_one (ps_ret (@pe_tupQ _ _ _ _ _ (@qa_c _ _ _ _ _ pe_str (@qa_c _ _ _ _ _ (pv 5) (@qa_c _ _ _ _ _ (pv 8) (@qa_c _ _ _ _ _ (pv 7) (@qa_c _ _ _ _ _ (pe_ix ix_list (@pe_lstQ _ _ _ _ (@qa_c _ _ _ _ _ (pe_ix ix_tup (pv 1) pe_int (fun _ _ => rfl)) (@qa_c _ _ _ _ _ (pe_fn G_law_some_marks (hr.mono (by first | decide | omega)) rfl (pa_c (pv 0) pa_nil)) qa_nil rfl) rfl)) (pe_fn G_law_take (hr.mono (by first | decide | omega)) rfl (pa_c (pv 0) (pa_c pe_int pa_nil))) (fun _ _ => rfl)) qa_nil rfl) rfl) rfl) rfl) rfl))))))))))))), ?_⟩
    refine ⟨_, rfl, p, c, _, rfl, d, by decide, big (by decide) (by decide), fun way H1 w0 w5 o1 => ?_⟩
    have hW1 := hW.on o1 d
    refine ⟨_, rfl, rfl, _, rfl, ?_⟩
    rw [dIw]
    refine ite2 (fun _ => ?_) (fun h0 => ?_)
    · exact ⟨_, rfl, p, c, rfl, o1.d, fun a' W' H2 hW' ok' o2 => q a' W' H2 hW' ok'.n (o1.trans o2)⟩
    have h0 : way ≠ 0 := fun z => h0 (decide_eq_true z)
    cases W with
    | few ss =>
      obtain ⟨t, ha, ht⟩ := hW1
      obtain ⟨hne, h6, hnd, hsr, hss⟩ := hok
      have hpos : 0 < ss.length := List.length_pos_iff.mpr hne
      refine ⟨_, rfl, a, _, _, _, rfl, rfl, SqT.of ha, rfl, rfl, _, rfl, ?_⟩
      refine ite2 (fun _ => ?_) (fun h => absurd (decide_eq_true rfl) h)
      refine ⟨_, rfl, _, rfl, a, _, _, _, rfl, rfl, SqT.of ha, rfl, t, _, rfl, .inr (SqT.of ht), p, c, _, rfl, o1.d, by rw [List.length_map]; omega, big (by rw [List.length_map]; omega) (by rw [List.length_map]; omega), fun k H2 k0 k1 o2 => ?_⟩
      rw [List.length_map] at k1
      have ha2 := o2.tup o1.d ha
      have ht2 := o2.tup o1.d ht
      have o12 := o1.trans o2
      refine ⟨_, rfl, a, _, _, _, rfl, rfl, SqT.of ha2, rfl, _, rfl, _, rfl, t, _, rfl, SqT.of ht2, fun u H3 s3 hu => ⟨u, _, rfl, .inr hu, fun l nl => ?_⟩⟩
      rw [cut_from k0 k1] at hu ⊢
      have o13 := Same.on o12 s3
      have o4 := o13.alloc (o := .lst ((ss.drop k.toNat).map V.str)) nl
      refine ⟨_, rfl, by show 5 ≤ sizeLine; decide, fun l5 n5 => ⟨_, rfl, ?_⟩⟩
      have o5 := o4.alloc (o := .lst [.int 0, .int 1, .int 6, .int 1, .int 0]) n5
      obtain ⟨m, hm, hm6⟩ : ∃ m : Int, atI [V.int 0, .int 1, .int 6, .int 1, .int 0] way = some (.int m) ∧ 0 ≤ m ∧ m ≤ 6 := by
        have : way = 1 ∨ way = 2 ∨ way = 3 ∨ way = 4 := by omega
        rcases this with e | e | e | e <;> subst e
        · exact ⟨_, rfl, by decide, by decide⟩
        · exact ⟨_, rfl, by decide, by decide⟩
        · exact ⟨_, rfl, by decide, by decide⟩
        · exact ⟨_, rfl, by decide, by decide⟩
      refine ⟨l5, _, _, _, rfl, rfl, SqL.of (at_new n5), hm, p, c, m, 3, rfl, o5.d, hm6.1, by omega, by decide, by decide, fun ls ts H6 lsp lsc hls hlen htx o6 => ?_⟩
      have hl6 : H6 l = some (.lst ((ss.drop k.toNat).map V.str)) := o6.lst (same_new n5 _ _ (at_new nl)) (o13.d.nep nl) (o13.d.nec nl)
      have hdl : (ss.drop k.toNat).length ≤ 6 := by rw [List.length_drop]; omega
      have htl : ts.length ≤ 6 := by omega
      refine ⟨l, ls, _, _, rfl, rfl, hl6, hls, by rw [List.length_map, List.length_map]; exact Nat.le_of_lt (small1000 (by omega)), fun l7 n7 => ?_⟩
      rw [← List.map_append]
      have o7 := (o5.trans o6).alloc (o := .lst ((ss.drop k.toNat ++ ts).map V.str)) n7
      have hall : ∀ x ∈ ss.drop k.toNat ++ ts, Sg x ∧ x.length ≤ 60 := fun x hx => by
        rcases List.mem_append.mp hx with z | z
        · exact hss x (List.mem_of_mem_drop z)
        · have := htx.2 x z
          exact ⟨this.1, by have := this.2; split at this <;> omega⟩
      have hex : ∃ x, x ∈ ss.drop k.toNat ++ ts := by
        have hlt : k.toNat < ss.length := by omega
        exact ⟨ss[k.toNat], List.mem_append_left _ (List.mem_iff_getElem.mpr ⟨0, by rw [List.length_drop]; omega, by simp⟩)⟩
      have hl13 : (ss.drop k.toNat ++ ts).length ≤ 12 := by rw [List.length_append]; omega
      have hat := at_strs (ss := ss) k0 k1
      have hl7 : upd H6 l7 (.lst ((ss.drop k.toNat ++ ts).map V.str)) l7 = some (.lst ((ss.drop k.toNat ++ ts).map V.str)) := at_new n7
      have ht7 : upd H6 l7 (.lst ((ss.drop k.toNat ++ ts).map V.str)) t = some (.tup (ss.map V.str)) := same_new n7 _ _ (o6.tup o5.d (same_new n5 _ _ (same_new nl _ _ (s3 _ _ ht2))))
      have ha7 : upd H6 l7 (.lst ((ss.drop k.toNat ++ ts).map V.str)) a = some (.tup [.str "few", .ref t]) := same_new n7 _ _ (o6.tup o5.d (same_new n5 _ _ (same_new nl _ _ (s3 _ _ ha2))))
      generalize upd H6 l7 (.lst ((ss.drop k.toNat ++ ts).map V.str)) = H7 at o7 hl7 ht7 ha7
      generalize ss.drop k.toNat ++ ts = us at hall hex hl13 hl7
      refine ⟨_, rfl, _, _, rfl, rfl, _, rfl, ?_⟩
      refine ite2 (fun _ => ?_) (fun _ => ?_)
      · refine ⟨_, rfl, l7, us, rfl, SqL.of hl7, by omega, fun u8 n8 => ⟨u8, _, rfl, at_new n8, ?_, fun zs l9 hp hs n9 => ?_⟩⟩
        · exact Nat.lt_of_le_of_lt (WordM.nodup_len (setL_nd us) fun x hx => (setL_mem us x).mp hx) (by omega)
        · have o8 := o7.alloc (o := setH P w u8 (setL us)) n8
          have o9 := o8.alloc (o := .lst (zs.map V.str)) n9
          refine ⟨_, rfl, l9, _, rfl, SqL.of (at_new n9), fun l10 n10 => ⟨l10, _, rfl, .inl ⟨SqL.of (at_new n10), fun t11 n11 => ?_⟩⟩⟩
          rw [cut_to] at n11 ⊢
          have o10 := o9.alloc (o := .lst ((zs.take 6).map V.str)) n10
          have o11 := o10.alloc (o := .tup ((zs.take 6).map V.str)) n11
          refine ⟨by show 2 ≤ sizeLine; decide, fun t12 n12 => ?_⟩
          have hzm : ∀ x ∈ zs, x ∈ us := fun x hx => (setL_mem us x).mp (hp.mem_iff.mp hx)
          refine q t12 (.few (zs.take 6)) _ ⟨t11, at_new n12, same_new n12 _ _ (at_new n11)⟩ ⟨?_, by rw [List.length_take]; omega, ?_, sorted_take zs 6 hs, ?_⟩ (o11.alloc n12)
          · obtain ⟨x, hx⟩ := hex
            have hx : x ∈ zs := hp.mem_iff.mpr ((setL_mem us x).mpr hx)
            intro z
            cases zs with
            | nil => simp at hx
            | cons y zs => simp at z
          · exact (hp.symm.nodup (setL_nd us)).sublist (List.take_sublist 6 zs)
          · intro x hx
            have := hall x (hzm x (List.mem_of_mem_take hx))
            exact ⟨this.1, by omega⟩
      · obtain ⟨s1, hs1, hm1⟩ := hat
        obtain ⟨ss1, sl1⟩ := hss s1 hm1
        refine ⟨_, rfl, a, _, _, _, rfl, rfl, SqT.of ha7, rfl, _, rfl, t, _, _, _, rfl, rfl, SqT.of ht7, hs1, _, rfl, p, c, _, rfl, o7.d, by decide, big (by decide) (by decide), fun k8 H8 e8 f8 o8 => ⟨_, rfl, s1, rfl, Nat.le_of_lt (small1000 (by omega)), ?_⟩⟩
        have hsl := WordM.slice_len s1 none (some k8)
        refine ⟨_, rfl, _, rfl, p, c, _, rfl, o8.d, by decide, big (by decide) (by decide), fun r9 H9 e9 f9 o9 => ⟨_, rfl, p, c, _, rfl, o9.d, by decide, big (by decide) (by decide), fun r10 H10 e10 f10 o10 => ⟨_, _, rfl, rfl, _, rfl, p, c, rfl, o10.d, fun tm bm H11 bm1 bm2 htm o11 => ⟨by show 5 ≤ sizeLine; decide, fun t12 n12 => ?_⟩⟩⟩⟩
        exact q t12 (.make (Txt.slice s1 none (some k8)) r9 (2 + r10) (bitsM bm)) _ ⟨tm, at_new n12, same_new n12 _ _ htm⟩ ⟨ss1.slice _ _, by omega, e9, by omega, by omega, by omega, bm, bm1, bm2, rfl⟩ (((((o7.trans o8).trans o9).trans o10).trans o11).alloc n12)
    | make hd lo hi ms =>
      obtain ⟨t, ha, ht⟩ := hW1
      obtain ⟨shd, hhd, lo0, lohi, hi1, hi60, b, b1, b2, rfl⟩ := hok
      have zhd : hd.length ≤ sizeLine := Nat.le_of_lt (small1000 (by omega))
      refine ⟨_, rfl, a, _, _, _, rfl, rfl, SqT.of ha, rfl, rfl, _, rfl, ?_⟩
      refine ite2 (fun h => absurd (of_decide_eq_true h) (by intro z; exact absurd (V.str.inj z) (by decide +kernel))) (fun _ => ?_)
      refine ⟨_, rfl, a, _, _, _, rfl, rfl, SqT.of ha, rfl, ?_⟩
      have h4 : way = 1 ∨ way = 2 ∨ way = 3 ∨ way = 4 := by omega
      rcases h4 with e | e | e | e <;> subst e
      · -- as it is
        refine ⟨_, rfl, rfl, _, rfl, ?_⟩
        refine ite2 (fun h => absurd (V.int.inj (of_decide_eq_true h)) (by decide)) (fun _ => ?_)
        refine ⟨_, rfl, rfl, _, rfl, ?_⟩
        refine ite2 (fun h => absurd (V.int.inj (of_decide_eq_true h)) (by decide)) (fun _ => ?_)
        refine ⟨_, rfl, rfl, _, rfl, ?_⟩
        refine ite2 (fun h => absurd (V.int.inj (of_decide_eq_true h)) (by decide)) (fun _ => ?_)
        have o2 := o1.d.on
        have ha2 := ha
        have ht2 := ht
        have shd' := shd
        have hhd' : hd.length ≤ 50 := by omega
        generalize hd = hd' at shd' hhd'
        have zh : hd'.length ≤ sizeLine := Nat.le_of_lt (small1000 (by omega))
        refine ⟨_, rfl, hd', rfl, zh, _, _, rfl, rfl, _, rfl, a, _, _, _, rfl, rfl, SqT.of ha2, rfl, _, rfl, p, c, _, rfl, o2.d, by decide, big (by decide) (by decide), fun r3 H3 e3 f3 o3 => ⟨_, _, rfl, rfl, _, _, rfl, rfl, _, _, rfl, _, _, rfl, ?_⟩⟩
        have ha3 := o3.tup o2.d ha2
        have ht3 := o3.tup o2.d ht2
        refine ⟨_, rfl, _, rfl, a, _, _, _, rfl, rfl, SqT.of ha3, rfl, _, rfl, p, c, _, rfl, o3.d, by decide, big (by decide) (by decide), fun r4 H4 e4 f4 o4 => ⟨_, _, rfl, rfl, _, _, rfl, rfl, _, _, rfl, _, _, rfl, ?_⟩⟩
        have ha4 := o4.tup o3.d ha3
        have ht4 := o4.tup o3.d ht3
        refine ⟨_, rfl, _, rfl, _, rfl, _, rfl, a, _, _, _, rfl, rfl, SqT.of ha4, rfl, _, rfl, p, c, rfl, o4.d, fun tm bm H5 bm1 bm2 htm o5 => ⟨by show 2 ≤ sizeLine; decide, fun l6 n6 => ?_⟩⟩
        have o6 := o5.alloc (o := .lst [.ref t, .ref tm]) n6
        refine ⟨_, rfl, p, c, _, rfl, o6.d, by decide, big (by decide) (by decide), fun r7 H7 e7 f7 o7 => ?_⟩
        obtain ⟨x, hx, hxx⟩ := menu2R (a := t) (b := tm) e7 f7
        have hl7 := o7.lst (at_new (o := .lst [.ref t, .ref tm]) n6) (o5.d.nep n6) (o5.d.nec n6)
        have hx7 : ∃ b', 1 ≤ b' ∧ b' < 16 ∧ H7 x = some (.tup ((bitsM b').map V.str)) := by
          have k56 := same_new (o := .lst [.ref t, .ref tm]) n6
          rcases hxx with z | z <;> subst z
          · exact ⟨b, b1, b2, o7.tup o6.d (k56 _ _ (o5.tup o4.d ht4))⟩
          · exact ⟨bm, bm1, bm2, o7.tup o6.d (k56 _ _ htm)⟩
        obtain ⟨b', b'1, b'2, hx7⟩ := hx7
        refine ⟨l6, _, _, _, rfl, rfl, SqL.of hl7, hx, by show 5 ≤ sizeLine; decide, fun t8 n8 => ?_⟩
        refine q t8 (.make hd' _ _ (bitsM b')) _ ⟨x, at_new n8, same_new n8 _ _ hx7⟩ ⟨shd', by omega, ?_, ?_, ?_, ?_, b', b'1, b'2, rfl⟩ ((((((o1.trans o2).trans o3).trans o4).trans o6).trans o7).alloc n8)
        · split <;> omega
        · split <;> split <;> split <;> split <;> omega
        · split <;> omega
        · split <;> split <;> omega
      · -- cut
        refine ⟨_, rfl, rfl, _, rfl, ?_⟩
        refine ite2 (fun _ => ?_) (fun h => absurd (decide_eq_true rfl) h)
        refine ⟨_, rfl, _, rfl, _, rfl, hd, rfl, zhd, _, _, rfl, rfl, p, c, _, rfl, o1.d, by omega, big (by omega) (by omega), fun k H2 k0 k1 o2 => ⟨_, rfl, hd, rfl, zhd, ?_⟩⟩
        have hsl := WordM.slice_len hd none (some k)
        have shd' := shd.slice none (some k)
        have hhd' : (Txt.slice hd none (some k)).length ≤ 50 := by omega
        have ha2 := o2.tup o1.d ha
        have ht2 := o2.tup o1.d ht
        refine ⟨_, rfl, rfl, _, rfl, ?_⟩
        refine ite2 (fun h => absurd (V.int.inj (of_decide_eq_true h)) (by decide)) (fun _ => ?_)
        refine ⟨_, rfl, rfl, _, rfl, ?_⟩
        refine ite2 (fun h => absurd (V.int.inj (of_decide_eq_true h)) (by decide)) (fun _ => ?_)
        generalize Txt.slice hd none (some k) = hd' at shd' hhd'
        have zh : hd'.length ≤ sizeLine := Nat.le_of_lt (small1000 (by omega))
        refine ⟨_, rfl, hd', rfl, zh, _, _, rfl, rfl, _, rfl, a, _, _, _, rfl, rfl, SqT.of ha2, rfl, _, rfl, p, c, _, rfl, o2.d, by decide, big (by decide) (by decide), fun r3 H3 e3 f3 o3 => ⟨_, _, rfl, rfl, _, _, rfl, rfl, _, _, rfl, _, _, rfl, ?_⟩⟩
        have ha3 := o3.tup o2.d ha2
        have ht3 := o3.tup o2.d ht2
        refine ⟨_, rfl, _, rfl, a, _, _, _, rfl, rfl, SqT.of ha3, rfl, _, rfl, p, c, _, rfl, o3.d, by decide, big (by decide) (by decide), fun r4 H4 e4 f4 o4 => ⟨_, _, rfl, rfl, _, _, rfl, rfl, _, _, rfl, _, _, rfl, ?_⟩⟩
        have ha4 := o4.tup o3.d ha3
        have ht4 := o4.tup o3.d ht3
        refine ⟨_, rfl, _, rfl, _, rfl, _, rfl, a, _, _, _, rfl, rfl, SqT.of ha4, rfl, _, rfl, p, c, rfl, o4.d, fun tm bm H5 bm1 bm2 htm o5 => ⟨by show 2 ≤ sizeLine; decide, fun l6 n6 => ?_⟩⟩
        have o6 := o5.alloc (o := .lst [.ref t, .ref tm]) n6
        refine ⟨_, rfl, p, c, _, rfl, o6.d, by decide, big (by decide) (by decide), fun r7 H7 e7 f7 o7 => ?_⟩
        obtain ⟨x, hx, hxx⟩ := menu2R (a := t) (b := tm) e7 f7
        have hl7 := o7.lst (at_new (o := .lst [.ref t, .ref tm]) n6) (o5.d.nep n6) (o5.d.nec n6)
        have hx7 : ∃ b', 1 ≤ b' ∧ b' < 16 ∧ H7 x = some (.tup ((bitsM b').map V.str)) := by
          have k56 := same_new (o := .lst [.ref t, .ref tm]) n6
          rcases hxx with z | z <;> subst z
          · exact ⟨b, b1, b2, o7.tup o6.d (k56 _ _ (o5.tup o4.d ht4))⟩
          · exact ⟨bm, bm1, bm2, o7.tup o6.d (k56 _ _ htm)⟩
        obtain ⟨b', b'1, b'2, hx7⟩ := hx7
        refine ⟨l6, _, _, _, rfl, rfl, SqL.of hl7, hx, by show 5 ≤ sizeLine; decide, fun t8 n8 => ?_⟩
        refine q t8 (.make hd' _ _ (bitsM b')) _ ⟨x, at_new n8, same_new n8 _ _ hx7⟩ ⟨shd', by omega, ?_, ?_, ?_, ?_, b', b'1, b'2, rfl⟩ ((((((o1.trans o2).trans o3).trans o4).trans o6).trans o7).alloc n8)
        · split <;> omega
        · split <;> split <;> split <;> split <;> omega
        · split <;> omega
        · split <;> split <;> omega
      · -- more of it
        refine ⟨_, rfl, rfl, _, rfl, ?_⟩
        refine ite2 (fun h => absurd (V.int.inj (of_decide_eq_true h)) (by decide)) (fun _ => ?_)
        refine ⟨_, rfl, rfl, _, rfl, ?_⟩
        refine ite2 (fun _ => ?_) (fun h => absurd (decide_eq_true rfl) h)
        refine ⟨_, rfl, _, rfl, p, c, 2, rfl, o1.d, by decide, by decide, fun x H2 sx hx o2 => ⟨hd, x, rfl, rfl, Nat.le_of_lt (small1000 (by omega)), _, rfl, _, rfl, ?_, ?_⟩⟩
        · rw [len_app]
          exact Nat.le_of_lt (small1000 (by omega))
        have hsl := WordM.slice_len (hd ++ x) none (some 50)
        rw [len_app] at hsl
        have shd' := (shd.app sx).slice none (some 50)
        have hhd' : (Txt.slice (hd ++ x) none (some 50)).length ≤ 50 := by omega
        have ha2 := o2.tup o1.d ha
        have ht2 := o2.tup o1.d ht
        refine ⟨_, rfl, rfl, _, rfl, ?_⟩
        refine ite2 (fun h => absurd (V.int.inj (of_decide_eq_true h)) (by decide)) (fun _ => ?_)
        generalize Txt.slice (hd ++ x) none (some 50) = hd' at shd' hhd'
        have zh : hd'.length ≤ sizeLine := Nat.le_of_lt (small1000 (by omega))
        refine ⟨_, rfl, hd', rfl, zh, _, _, rfl, rfl, _, rfl, a, _, _, _, rfl, rfl, SqT.of ha2, rfl, _, rfl, p, c, _, rfl, o2.d, by decide, big (by decide) (by decide), fun r3 H3 e3 f3 o3 => ⟨_, _, rfl, rfl, _, _, rfl, rfl, _, _, rfl, _, _, rfl, ?_⟩⟩
        have ha3 := o3.tup o2.d ha2
        have ht3 := o3.tup o2.d ht2
        refine ⟨_, rfl, _, rfl, a, _, _, _, rfl, rfl, SqT.of ha3, rfl, _, rfl, p, c, _, rfl, o3.d, by decide, big (by decide) (by decide), fun r4 H4 e4 f4 o4 => ⟨_, _, rfl, rfl, _, _, rfl, rfl, _, _, rfl, _, _, rfl, ?_⟩⟩
        have ha4 := o4.tup o3.d ha3
        have ht4 := o4.tup o3.d ht3
        refine ⟨_, rfl, _, rfl, _, rfl, _, rfl, a, _, _, _, rfl, rfl, SqT.of ha4, rfl, _, rfl, p, c, rfl, o4.d, fun tm bm H5 bm1 bm2 htm o5 => ⟨by show 2 ≤ sizeLine; decide, fun l6 n6 => ?_⟩⟩
        have o6 := o5.alloc (o := .lst [.ref t, .ref tm]) n6
        refine ⟨_, rfl, p, c, _, rfl, o6.d, by decide, big (by decide) (by decide), fun r7 H7 e7 f7 o7 => ?_⟩
        obtain ⟨x, hx, hxx⟩ := menu2R (a := t) (b := tm) e7 f7
        have hl7 := o7.lst (at_new (o := .lst [.ref t, .ref tm]) n6) (o5.d.nep n6) (o5.d.nec n6)
        have hx7 : ∃ b', 1 ≤ b' ∧ b' < 16 ∧ H7 x = some (.tup ((bitsM b').map V.str)) := by
          have k56 := same_new (o := .lst [.ref t, .ref tm]) n6
          rcases hxx with z | z <;> subst z
          · exact ⟨b, b1, b2, o7.tup o6.d (k56 _ _ (o5.tup o4.d ht4))⟩
          · exact ⟨bm, bm1, bm2, o7.tup o6.d (k56 _ _ htm)⟩
        obtain ⟨b', b'1, b'2, hx7⟩ := hx7
        refine ⟨l6, _, _, _, rfl, rfl, SqL.of hl7, hx, by show 5 ≤ sizeLine; decide, fun t8 n8 => ?_⟩
        refine q t8 (.make hd' _ _ (bitsM b')) _ ⟨x, at_new n8, same_new n8 _ _ hx7⟩ ⟨shd', by omega, ?_, ?_, ?_, ?_, b', b'1, b'2, rfl⟩ ((((((o1.trans o2).trans o3).trans o4).trans o6).trans o7).alloc n8)
        · split <;> omega
        · split <;> split <;> split <;> split <;> omega
        · split <;> omega
        · split <;> split <;> omega
      · -- few that begin with it
        refine ⟨_, rfl, rfl, _, rfl, ?_⟩
        refine ite2 (fun h => absurd (V.int.inj (of_decide_eq_true h)) (by decide)) (fun _ => ?_)
        refine ⟨_, rfl, rfl, _, rfl, ?_⟩
        refine ite2 (fun h => absurd (V.int.inj (of_decide_eq_true h)) (by decide)) (fun _ => ?_)
        refine ⟨_, rfl, rfl, _, rfl, ?_⟩
        refine ite2 (fun _ => ?_) (fun h => absurd (decide_eq_true rfl) h)
        refine ⟨_, rfl, _, rfl, p, c, _, rfl, o1.d, by decide, big (by decide) (by decide), fun r2 H2 a2 b2' o2 => ⟨_, _, rfl, rfl, p, c, _, 3, rfl, o2.d, by omega, by omega, by decide, by decide, fun ls ss H3 lsp lsc hls hlen htx o3 => ⟨ls, rfl, ⟨_, SqL.of hls⟩, fun g ng => ?_⟩⟩⟩
        have hlsa : ∀ o, upd H3 g o ls = some (.lst (ss.map V.str)) := fun o => same_new ng _ _ hls
        have hl3 : ∀ s ∈ ss, s.length ≤ 3 := fun s hs => by
          have := (htx.2 s hs).2
          split at this <;> omega
        refine comp_list (K := K) (xs := ss.map V.str) (fun i ys H' => H' = upd H3 g (.lst ys) ∧ ys = ((ss.take i).map fun s => hd ++ s).map V.str) ⟨rfl, rfl⟩ (fun i ys H' _ _ ⟨e, _⟩ => by rw [e]; exact SqL.of (hlsa _)) ?_ ?_
        · rintro i v ys H' hv _ ⟨rfl, rfl⟩
          rw [List.getElem?_map] at hv
          cases hi' : ss[i]? with
          | none => rw [hi'] at hv; cases hv
          | some s =>
            rw [hi'] at hv
            have hv : V.str s = v := Option.some.inj hv
            subst hv
            have := hl3 s (List.mem_of_getElem? hi')
            refine ⟨⟨[_], rfl, rfl⟩, noIfT ⟨_, rfl, _, rfl, hd, s, rfl, rfl, Nat.le_of_lt (small1000 (by omega)), upd_same, ?_, upd_upd, ?_⟩⟩
            · rw [List.length_map, List.length_map]
              exact Nat.lt_of_le_of_lt (List.length_take_le' _ _) (small1000 (by omega))
            · rw [List.take_add_one, hi', List.map_append, List.map_append]
              rfl
        · rintro ys H' hg ⟨rfl, rfl⟩
          have e : ((ss.take (ss.map V.str).length).map fun s => hd ++ s) = ss.map fun s => hd ++ s := by rw [List.length_map, List.take_length]
          rw [e] at hg ⊢
          refine ⟨_, rfl, g, ss.map fun s => hd ++ s, rfl, SqL.of hg, by rw [List.length_map]; omega, fun zs l8 hp8 hs8 n8 => ?_⟩
          have o8 := ((o1.trans o2).trans o3 |>.alloc (o := .lst ((ss.map fun s => hd ++ s).map V.str)) ng).alloc (o := .lst (zs.map V.str)) n8
          refine ⟨l8, _, rfl, .inl ⟨SqL.of (at_new n8), fun t9 n9 => ?_⟩⟩
          have o9 := o8.alloc (o := .tup (zs.map V.str)) n9
          refine ⟨by show 2 ≤ sizeLine; decide, fun t10 n10 => ?_⟩
          have hzl : zs.length = ss.length := by rw [hp8.length_eq, List.length_map]
          refine q t10 (.few zs) _ ⟨t9, at_new n10, same_new n10 _ _ (at_new n9)⟩ ⟨?_, by omega, ?_, hs8, ?_⟩ (o9.alloc n10)
          · intro z
            rw [z] at hzl
            simp at hzl
            omega
          · refine hp8.symm.nodup ?_
            unfold List.Nodup
            rw [List.pairwise_map]
            refine htx.1.imp fun {u v} hne e => hne ?_
            have h1 : cs hd ++ cs u = cs hd ++ cs v := by rw [← WordM.app, ← WordM.app, e]
            exact str_ext (List.append_cancel_left h1)
          · intro z hz
            obtain ⟨s, hs, rfl⟩ := List.mem_map.mp (hp8.mem_iff.mp hz)
            refine ⟨shd.app (htx.2 s hs).1, ?_⟩
            rw [WordM.len, WordM.app, List.length_append, ← WordM.len, ← WordM.len]
            have := hl3 s hs
            omega
end
/-! ### the law's texts that show words -/
open WordM ShowM
section
variable {P : Program} {w : World} {K : PySem.W.Frag} {mg : Str → Option Value} {base : Heap}
def spWit : Sp := fun vs H Q _ => ∃ (a : Addr) (W : Wd), vs = [.ref a] ∧ WdAt H a W ∧ WdOkN W ∧ ∀ (l : Addr) (H' : Hp), H l = none → Same H H' → H' l = some (.lst ((witW W).map V.str)) → Q (.ref l) H'
theorem sc_wit : FnScope ["_law_words_here", "_law_good", "_law_found"] ["_law_words_here"] (defScope s_law_witness) := ⟨rfl, rfl, rfl, by decide +kernel, rfl, by decide +kernel, by decide +kernel⟩
theorem g_wit (h : Has K mg "_law_witness" s_law_witness) (B : Own mg) (G_law_signs : Good P w K mg base 1 "_law_signs" [] spSigns) (G_law_mark : Good P w K mg base 1 "_law_mark" ["_law_sign"] spMark) : Good P w K mg base 2 "_law_witness" ["_law_words_here"] spWit := by
  refine h.good sc_wit (fun _ _ _ _ _ _ us hl => match us, hl with | [_], _ => rfl) (fun vs H Q E q => ?_) (fun f cdv A outer s H vs Q E hr q => ?_)
  · obtain ⟨a, W, rfl, _⟩ := q
    rfl
  · obtain ⟨a, W, rfl, hW, hok, q⟩ := q
    have nd := sc_wit.nd
    refine ⟨_, (pss_cons (ps_if (pt_cmpR op_eq (pe_ix ix_tup (pv 0) pe_int (fun _ _ => rfl)) pe_str (nomark _))
        (pss_one (ps_ret (pe_callTy call_list_of rfl B.list_ boot_list (pa_c (pe_ix ix_tup (pv 0) pe_int (fun _ _ => rfl)) pa_nil))))
        pss_nil)
      (pss_cons (ps_setc (i := 1) (sc := defScope s_law_witness) (XN := ["_law_words_here", "_law_good", "_law_found"]) (N := ["_law_sign", "_law_words_here"]) (own := 1) (fr := [0]) rfl nd rfl (by first | exact Or.inl rfl | exact Or.inr rfl) ⟨rfl, by decide +kernel, by decide +kernel, by decide +kernel, rfl, by decide +kernel, by decide, by decide +kernel⟩ (pi_str (pe_fn0 G_law_signs (hr.mono (by first | decide | omega)) rfl)) (fun _ _ _ _ _ => (pg_name (i := 0) (show (["_law_sign", "_law_words_here"] : List Str).Nodup by decide +kernel) rfl (by first | exact Or.inl rfl | exact Or.inr rfl))) (fun _ _ _ _ _ => pf_one (pt_cmpR (r := rIn K false) op_in_seq (pe_fn G_law_mark (hr.mono (by first | decide | omega)) rfl (pa_c (pv 0) pa_nil)) (pe_ix (r := rIxT K) ix_tup (pv 1) pe_int (fun _ _ => rfl)) rfl)) (fun _ _ _ _ _ => (pv 0)))
      (pss_cons (ps_setc (i := 2) (sc := defScope s_law_witness) (XN := ["_law_words_here", "_law_good", "_law_found"]) (N := ["_law_sign", "_law_words_here"]) (own := 1) (fr := [0]) rfl nd rfl (by first | exact Or.inl rfl | exact Or.inr rfl) ⟨rfl, by decide +kernel, by decide +kernel, by decide +kernel, rfl, by decide +kernel, by decide, by decide +kernel⟩ (pi_list (pv 1)) (fun _ _ _ _ _ => (pg_name (i := 0) (show (["_law_sign", "_law_words_here"] : List Str).Nodup by decide +kernel) rfl (by first | exact Or.inl rfl | exact Or.inr rfl))) (fun _ _ _ _ _ => pf_nil) (fun _ _ _ _ _ => (pe_op op_add_str (pe_ix (r := rIxT K) ix_tup (pv 1) pe_int (fun _ _ => rfl)) (pe_op op_mulS (pv 0) (pe_callB (call_max2 rfl) rfl B.max boot_max (pa_c pe_int (pa_c (pe_ix (r := rIxT K) ix_tup (pv 1) pe_int (fun _ _ => rfl)) pa_nil)))))))
      (pss_cons (ps_if (pt_cmpR op_eq (pe_ix ix_tup (pv 0) pe_int (fun _ _ => rfl)) pe_int (nomark _))
        (pss_one (ps_expr (pe_bm PySem.F.plainAttrs_list PySem.F.slot_list_append PySem.F.type_list_append mt_append (pv 2) (pa_c (pe_ix ix_tup (pv 0) pe_int (fun _ _ => rfl)) pa_nil))))
        pss_nil)
      (pss_one (ps_ret (pe_op op_cat (pv 2) (@pe_lstQ _ _ _ _ (@qa_c _ _ _ _ _ (pe_op op_add_str (pe_ix ix_tup (pv 0) pe_int (fun _ _ => rfl)) (pe_op op_mulS (pe_ix ix_list (pv 1) pe_int (fun _ _ => rfl)) (pe_ix ix_tup (pv 0) pe_int (fun _ _ => rfl)))) qa_nil rfl))))))))), ?_⟩
    cases W with
    | few ss =>
      obtain ⟨t, ha, ht⟩ := hW
      refine ⟨_, rfl, a, _, _, _, rfl, rfl, SqT.of ha, rfl, rfl, _, rfl, ?_⟩
      refine ite2 (fun _ => ?_) (fun h => absurd (decide_eq_true rfl) h)
      exact ⟨_, rfl, a, _, _, _, rfl, rfl, SqT.of ha, rfl, t, _, rfl, .inr (SqT.of ht), fun l nl => q l _ nl (same_new nl) (at_new nl)⟩
    | make hd lo hi ms =>
      obtain ⟨t, ha, ht⟩ := hW
      obtain ⟨shd, hhd, lo0, lohi, hi1, hi62, b, b1, b2, rfl⟩ := hok
      obtain ⟨_, S, _⟩ := signs_ok b1 b2
      generalize bitsM b = ms at ht q S
      have hsl : SIG.length = 94 := sig_len
      have gl : (goodM ms).length ≤ 94 := by
        refine Nat.le_trans (List.length_filter_le _ _) ?_
        rw [← WordM.len, hsl]
        exact Nat.le_refl _
      refine ⟨_, rfl, a, _, _, _, rfl, rfl, SqT.of ha, rfl, rfl, _, rfl, ?_⟩
      refine ite2 (fun h => absurd (of_decide_eq_true h) (by intro z; exact absurd (V.str.inj z) (by decide +kernel))) (fun _ => ?_)
      -- good
      refine ⟨rfl, SIG, rfl, fun g ng => ?_⟩
      have hag : ∀ o, upd H g o a = some (.tup [.str "make", .str hd, .int lo, .int hi, .ref t]) := fun o => same_new ng _ _ ha
      have htg : ∀ o, upd H g o t = some (.tup (ms.map V.str)) := fun o => same_new ng _ _ ht
      refine comp_str (x := SIG) (fun i ys H' => H' = upd H g (.lst ys) ∧ ys = (((cs SIG).take i).filter fun c => decide (markC c ∈ ms)).map fun c => V.str ⟨#[c]⟩) ⟨rfl, rfl⟩ ?_ ?_
      · rintro i cc ys H' hc _ ⟨rfl, rfl⟩
        have hc' : (cs SIG)[i]? = some cc := by rw [← hc]; simp
        have hts := take_stepF (fun c => decide (markC c ∈ ms)) hc'
        refine ⟨⟨[_], rfl, rfl⟩, _, rfl, cc, rfl, _, rfl, a, _, _, _, rfl, rfl, SqT.of (hag _), rfl, t, _, rfl, .inr (SqT.of (htg _)), rfl, flat_strs _, _, rfl, ?_⟩
        rw [show (if false = true then !inV (V.str (markC cc)) (ms.map V.str) else inV (V.str (markC cc)) (ms.map V.str)) = decide (markC cc ∈ ms) from inV_str]
        refine ite2 (fun h4 => ?_) (fun h4 => ?_)
        · refine ⟨_, rfl, upd_same, ?_, upd_upd, ?_⟩
          · rw [List.length_map]
            refine Nat.lt_of_le_of_lt (List.length_filter_le _ _) (Nat.lt_of_le_of_lt (List.length_take_le' _ _) ?_)
            rw [← WordM.len, hsl]
            decide
          · rw [hts, if_pos h4, List.map_append]
            rfl
        · refine ⟨upd_same, rfl, ?_⟩
          rw [hts, if_neg h4, List.append_nil]
      rintro ys H1 hg ⟨rfl, rfl⟩
      rw [List.take_of_length_le (by simp)] at hg ⊢
      have e : ((cs SIG).filter fun c => decide (markC c ∈ ms)).map (fun c => V.str ⟨#[c]⟩) = (goodM ms).map (fun c => V.str ⟨#[c]⟩) := rfl
      rw [e] at hg ⊢
      have s1 : Same H (upd H g (.lst ((goodM ms).map fun c => V.str ⟨#[c]⟩))) := same_new ng
      generalize upd H g (.lst ((goodM ms).map fun c => V.str ⟨#[c]⟩)) = H1 at hg s1
      have ha1 := s1 _ _ ha
      -- found
      refine ⟨_, rfl, g, rfl, ⟨_, SqL.of hg⟩, fun l nl => ?_⟩
      have hal : ∀ o, upd H1 l o a = some (.tup [.str "make", .str hd, .int lo, .int hi, .ref t]) := fun o => same_new nl _ _ ha1
      have hgl : ∀ o, upd H1 l o g = some (.lst ((goodM ms).map fun c => V.str ⟨#[c]⟩)) := fun o => same_new nl _ _ hg
      refine comp_list (K := K) (xs := (goodM ms).map fun c => V.str ⟨#[c]⟩) (fun i ys H' => H' = upd H1 l (.lst ys) ∧ ys = ((goodM ms).take i).map fun c => V.str (hd ++ repC c (if lo > 1 then lo else 1))) ⟨rfl, rfl⟩ (fun i ys H' _ _ ⟨e, _⟩ => by rw [e]; exact SqL.of (hgl _)) ?_ ?_
      · rintro i v ys H' hv _ ⟨rfl, rfl⟩
        rw [List.getElem?_map] at hv
        cases hi' : (goodM ms)[i]? with
        | none => rw [hi'] at hv; cases hv
        | some cc =>
          rw [hi'] at hv
          have hv : V.str ⟨#[cc]⟩ = v := Option.some.inj hv
          subst hv
          refine ⟨⟨[_], rfl, rfl⟩, noIfT ⟨_, rfl, a, _, _, _, rfl, rfl, SqT.of (hal _), rfl, _, rfl, _, rfl, a, _, _, _, rfl, rfl, SqT.of (hal _), rfl, 1, lo, rfl, ⟨#[cc]⟩, _, rfl, rfl, by show 1 ≤ 1000; decide, by split <;> omega, by split <;> omega, hd, repC cc (if lo > 1 then lo else 1), rfl, rfl, ?_, upd_same, lt_take _ _ (by omega), upd_upd, ?_⟩⟩
          · rw [rep_len]
            exact Nat.le_of_lt (small1000 (by split <;> omega))
          · rw [map_take _ hi']
      · rintro ys H' hl ⟨rfl, rfl⟩
        rw [List.length_map, List.take_length] at hl ⊢
        have s2 : Same H (upd H1 l (.lst ((goodM ms).map fun c => V.str (hd ++ repC c (if lo > 1 then lo else 1))))) := s1.alloc nl
        have nl0 : H l = none := s1.free nl
        have hg2 := hgl (.lst ((goodM ms).map fun c => V.str (hd ++ repC c (if lo > 1 then lo else 1))))
        have glr : g ≠ l := ne_of_none hg nl
        generalize upd H1 l (.lst ((goodM ms).map fun c => V.str (hd ++ repC c (if lo > 1 then lo else 1)))) = H2 at hl s2 hg2
        have ha2 := s2 _ _ ha
        have hh : atI ((goodM ms).map fun c => V.str ⟨#[c]⟩) 0 = some (.str ⟨#[(goodM ms).headD 0]⟩) := by
          have := S.many
          cases hq : goodM ms with
          | nil => rw [hq] at this; simp at this
          | cons x y => exact atI_nat (xs := (x :: y).map fun c => V.str ⟨#[c]⟩) (j := 0) rfl
        have e2 : ((goodM ms).map fun c => V.str (hd ++ repC c (if lo > 1 then lo else 1))) = ((goodM ms).map fun c => hd ++ repC c (if lo > 1 then lo else 1)).map V.str := by rw [List.map_map]; rfl
        rw [e2] at hl
        have gl2 : ((goodM ms).map fun c => hd ++ repC c (if lo > 1 then lo else 1)).length ≤ 94 := by rw [List.length_map]; exact gl
        have hx0 : lo = 0 → ((goodM ms).map fun c => hd ++ repC c (if lo > 1 then lo else 1)) ++ [hd] ++ [hd ++ repC ((goodM ms).headD 0) hi] = witW (.make hd lo hi ms) := fun z => by
          show _ = (((goodM ms).map fun c => hd ++ repC c (if lo > 1 then lo else 1)) ++ (if lo = 0 then [hd] else [])) ++ [hd ++ repC ((goodM ms).headD 0) hi]
          rw [if_pos (c := lo = 0) z]
        have hx1 : lo ≠ 0 → ((goodM ms).map fun c => hd ++ repC c (if lo > 1 then lo else 1)) ++ [hd ++ repC ((goodM ms).headD 0) hi] = witW (.make hd lo hi ms) := fun z => by
          show _ = (((goodM ms).map fun c => hd ++ repC c (if lo > 1 then lo else 1)) ++ (if lo = 0 then [hd] else [])) ++ [hd ++ repC ((goodM ms).headD 0) hi]
          rw [if_neg (c := lo = 0) z, List.append_nil]
        generalize ((goodM ms).map fun c => hd ++ repC c (if lo > 1 then lo else 1)) = xs0 at hl gl2 hx0 hx1
        refine ⟨_, rfl, a, _, _, _, rfl, rfl, SqT.of ha2, rfl, rfl, _, rfl, ?_⟩
        rw [dIw]
        refine ite2 (fun h5 => ?_) (fun h5 => ?_)
        · have h5 : lo = 0 := of_decide_eq_true h5
          refine ⟨_, rfl, .inl ⟨rfl, _, SqL.of hl⟩, _, rfl, a, _, _, _, rfl, rfl, SqT.of ha2, rfl, l, _, _, rfl, rfl, hl, by rw [List.length_map]; exact small1000 (by omega), ?_⟩
          have hx := hx0 h5
          have e3 : xs0.map V.str ++ [V.str hd] = (xs0 ++ [hd]).map V.str := by rw [List.map_append]; rfl
          rw [e3]
          have hl3 : upd H2 l (.lst ((xs0 ++ [hd]).map V.str)) l = some (.lst ((xs0 ++ [hd]).map V.str)) := upd_same
          have hg3 : upd H2 l (.lst ((xs0 ++ [hd]).map V.str)) g = some (.lst ((goodM ms).map fun c => V.str ⟨#[c]⟩)) := by rw [upd_ne glr]; exact hg2
          have s3 : Same H (upd H2 l (.lst ((xs0 ++ [hd]).map V.str))) := by
            intro b' o e
            rw [upd_ne (ne_of_none e nl0)]
            exact s2 b' o e
          have hxl : (xs0 ++ [hd]).length ≤ 95 := by rw [List.length_append]; show _ + 1 ≤ 95; omega
          generalize upd H2 l (.lst ((xs0 ++ [hd]).map V.str)) = H3 at hl3 hg3 s3
          generalize xs0 ++ [hd] = xs at hl3 hx hxl
          have ha3 := s3 _ _ ha
          refine ⟨_, rfl, _, rfl, a, _, _, _, rfl, rfl, SqT.of ha3, rfl, _, rfl, g, _, _, _, rfl, rfl, SqL.of hg3, hh, _, rfl, a, _, _, _, rfl, rfl, SqT.of ha3, rfl, ⟨#[(goodM ms).headD 0]⟩, hi, rfl, rfl, by show 1 ≤ 1000; decide, by omega, by omega, hd, repC _ hi, rfl, rfl, ?_, by show 1 ≤ sizeLine; decide, fun l5 n5 => ⟨l, l5, _, _, rfl, rfl, same_new n5 _ _ hl3, at_new n5, ?_, fun p np => ?_⟩⟩
          · rw [rep_len]
            exact Nat.le_of_lt (small1000 (by omega))
          · rw [List.length_map]
            show _ + 1 ≤ sizeLine
            exact Nat.le_of_lt (small1000 (by omega))
          · refine q p _ ((s3.alloc n5).free np) ((s3.alloc n5).alloc np) ?_
            rw [upd_same, ← hx, List.map_append]
            rfl
        · have h5 : lo ≠ 0 := fun z => h5 (decide_eq_true z)
          have hx := hx1 h5
          have hl3 := hl
          have hg3 := hg2
          have s3 := s2
          have hxl : xs0.length ≤ 95 := by omega
          generalize xs0 = xs at hl3 hx hxl
          have ha3 := s3 _ _ ha
          refine ⟨_, rfl, _, rfl, a, _, _, _, rfl, rfl, SqT.of ha3, rfl, _, rfl, g, _, _, _, rfl, rfl, SqL.of hg3, hh, _, rfl, a, _, _, _, rfl, rfl, SqT.of ha3, rfl, ⟨#[(goodM ms).headD 0]⟩, hi, rfl, rfl, by show 1 ≤ 1000; decide, by omega, by omega, hd, repC _ hi, rfl, rfl, ?_, by show 1 ≤ sizeLine; decide, fun l5 n5 => ⟨l, l5, _, _, rfl, rfl, same_new n5 _ _ hl3, at_new n5, ?_, fun p np => ?_⟩⟩
          · rw [rep_len]
            exact Nat.le_of_lt (small1000 (by omega))
          · rw [List.length_map]
            show _ + 1 ≤ sizeLine
            exact Nat.le_of_lt (small1000 (by omega))
          · refine q p _ ((s3.alloc n5).free np) ((s3.alloc n5).alloc np) ?_
            rw [upd_same, ← hx, List.map_append]
            rfl
end
/-! ### words met -/
open WordM ShowM
def fewO (l : List Str) : Option Wd := if l = [] then none else some (.few l)
/-- two makes met, the first one's head no shorter -/
def mkMet (h1 : Str) (lo1 hi1 : Int) (ms1 : List Str) (h2 : Str) (lo2 hi2 : Int) (ms2 : List Str) : Option Wd :=
  if (stW h1 h2 && (cs (restW h1 h2)).all fun c => decide (markC c ∈ ms2)) = true then
    let n : Int := (h1.length : Int) - (h2.length : Int)
    let least : Int := if lo2 - n > lo1 then lo2 - n else lo1
    let most : Int := if hi2 - n < hi1 then hi2 - n else hi1
    let marks := ms1.filter fun m => decide (m ∈ ms2)
    if least = 0 ∧ 0 ≤ most ∧ (most = 0 ∨ marks = []) then some (.few [h1]) else if most < least ∨ marks = [] then none else some (.make h1 least most marks)
  else none
def metO : Wd → Wd → Option Wd
  | .few ss, W2 => fewO (ss.filter fun t => letW W2 t)
  | .make h lo hi ms, .few ss => fewO (ss.filter fun t => letW (.make h lo hi ms) t)
  | .make h1 lo1 hi1 ms1, .make h2 lo2 hi2 ms2 => if h1.length < h2.length then mkMet h2 lo2 hi2 ms2 h1 lo1 hi1 ms1 else mkMet h1 lo1 hi1 ms1 h2 lo2 hi2 ms2
def letO : Option Wd → Str → Bool
  | none, _ => false
  | some W, x => letW W x
theorem bits_sub {b : Int} (h1 : 1 ≤ b) (h2 : b < 16) : bitsM b = MK.filter fun m => decide (m ∈ bitsM b) := by
  have : b = 1 ∨ b = 2 ∨ b = 3 ∨ b = 4 ∨ b = 5 ∨ b = 6 ∨ b = 7 ∨ b = 8 ∨ b = 9 ∨ b = 10 ∨ b = 11 ∨ b = 12 ∨ b = 13 ∨ b = 14 ∨ b = 15 := by omega
  rcases this with e | e | e | e | e | e | e | e | e | e | e | e | e | e | e <;> subst e <;> decide +kernel
theorem bits_comm {a b : Int} (a1 : 1 ≤ a) (a2 : a < 16) (b1 : 1 ≤ b) (b2 : b < 16) : ((bitsM a).filter fun m => decide (m ∈ bitsM b)) = (bitsM b).filter fun m => decide (m ∈ bitsM a) := by
  have ha := bits_sub a1 a2
  have hb := bits_sub b1 b2
  generalize bitsM a = A at ha hb ⊢
  generalize bitsM b = B at ha hb ⊢
  have h1 : (A.filter fun m => decide (m ∈ B)) = MK.filter fun m => decide (m ∈ A) && decide (m ∈ B) := by
    conv => lhs; rw [ha]
    rw [List.filter_filter]
    congr 1; funext m; rw [Bool.and_comm]
  have h2 : (B.filter fun m => decide (m ∈ A)) = MK.filter fun m => decide (m ∈ A) && decide (m ∈ B) := by
    conv => lhs; rw [hb]
    rw [List.filter_filter]
  rw [h1, h2]
theorem rising_pw : ∀ (p : Str) (l : List Str), risingS p l = true → ∀ x ∈ l, (cs x < cs p) → False := by
  intro p l
  induction l generalizing p with
  | nil => intro _ x hx; simp at hx
  | cons y l ih =>
    intro h x hx hlt
    have h : (!PySem.Spec.ltCps y.cps.toList p.cps.toList && risingS y l) = true := h
    rw [Bool.and_eq_true] at h
    have hy : ¬ (cs y < cs p) := by
      have := h.1
      rw [ltCps_eq] at this
      simpa using this
    rcases List.mem_cons.mp hx with z | z
    · subst z; exact hy hlt
    · have hxy : ¬ (cs x < cs y) := fun q => ih y h.2 x z q
      have h1 : cs p ≤ cs y := List.not_lt.mp hy
      have h2 : cs y ≤ cs x := List.not_lt.mp hxy
      exact absurd hlt (List.not_lt.mpr (List.le_trans h1 h2))
theorem sorted_pw : ∀ (l : List Str), sortedS l = true → l.Pairwise fun a b => cs a ≤ cs b
  | [], _ => .nil
  | x :: l, h => by
    have h : risingS x l = true := h
    refine .cons (fun y hy => List.not_lt.mp fun z => rising_pw x l h y hy z) (sorted_pw l ?_)
    cases l with
    | nil => rfl
    | cons y l =>
      have h : (!PySem.Spec.ltCps y.cps.toList x.cps.toList && risingS y l) = true := h
      rw [Bool.and_eq_true] at h
      exact h.2
theorem sorted_eq {l m : List Str} (hl : l.Pairwise fun a b => cs a ≤ cs b) (hm : m.Pairwise fun a b => cs a ≤ cs b) (nl : l.Nodup) (nm : m.Nodup) (h : ∀ x, x ∈ l ↔ x ∈ m) : l = m :=
  List.Perm.eq_of_pairwise (fun a b _ _ h1 h2 => str_ext (List.le_antisymm h1 h2)) hl hm ((List.perm_ext_iff_of_nodup nl nm).mpr h)
theorem stW_len {x y : Str} (h : stW x y = true) : y.length ≤ x.length := by
  obtain ⟨r, e⟩ := stW_iff.mp h
  rw [WordM.len, WordM.len, e, List.length_append]
  omega
theorem mkMet_len {h1 : Str} {lo1 hi1 : Int} {ms1 : List Str} {h2 : Str} {lo2 hi2 : Int} {ms2 : List Str} (hl : h1.length = h2.length) (hc : (ms1.filter fun m => decide (m ∈ ms2)) = ms2.filter fun m => decide (m ∈ ms1)) :
    mkMet h1 lo1 hi1 ms1 h2 lo2 hi2 ms2 = mkMet h2 lo2 hi2 ms2 h1 lo1 hi1 ms1 := by
  by_cases e : h1 = h2
  · subst e
    have hr : cs (restW h1 h1) = [] := restW_of (r := []) (by simp)
    unfold mkMet
    rw [hr, hc]
    have : (h1.length : Int) - (h1.length : Int) = 0 := by omega
    simp only [this, List.all_nil, Bool.and_true]
    have k1 : (if lo2 - 0 > lo1 then lo2 - 0 else lo1) = (if lo1 - 0 > lo2 then lo1 - 0 else lo2) := by split <;> split <;> omega
    have k2 : (if hi2 - 0 < hi1 then hi2 - 0 else hi1) = (if hi1 - 0 < hi2 then hi1 - 0 else hi2) := by split <;> split <;> omega
    rw [k1, k2]
  · have no : ∀ a b : Str, a.length = b.length → stW a b = true → a = b := fun a b hab h => by
      obtain ⟨r, e⟩ := stW_iff.mp h
      rw [WordM.len, WordM.len] at hab
      have : r = [] := by
        have := congrArg List.length e
        rw [List.length_append] at this
        exact List.eq_nil_of_length_eq_zero (by omega)
      rw [this, List.append_nil] at e
      exact str_ext e
    have n1 : stW h1 h2 = false := by
      cases q : stW h1 h2 with
      | false => rfl
      | true => exact absurd (no _ _ hl q) e
    have n2 : stW h2 h1 = false := by
      cases q : stW h2 h1 with
      | false => rfl
      | true => exact absurd (no _ _ hl.symm q).symm e
    unfold mkMet
    rw [n1, n2]
    rfl
theorem metO_comm {W W2 : Wd} (o1 : WdOkN W) (o2 : WdOkN W2) : metO W W2 = metO W2 W := by
  cases W with
  | few ss =>
    cases W2 with
    | few ss2 =>
      show fewO _ = fewO _
      congr 1
      refine sorted_eq ((sorted_pw _ o1.2.2.2.1).filter _) ((sorted_pw _ o2.2.2.2.1).filter _) (o1.2.2.1.filter _) (o2.2.2.1.filter _) fun x => ?_
      rw [List.mem_filter, List.mem_filter]
      show x ∈ ss ∧ decide (x ∈ ss2) = true ↔ x ∈ ss2 ∧ decide (x ∈ ss) = true
      rw [decide_eq_true_iff, decide_eq_true_iff]
      exact And.comm
    | make h lo hi ms => rfl
  | make h1 lo1 hi1 ms1 =>
    cases W2 with
    | few ss2 => rfl
    | make h2 lo2 hi2 ms2 =>
      obtain ⟨_, _, _, _, _, _, b1, b11, b12, rfl⟩ := o1
      obtain ⟨_, _, _, _, _, _, b2, b21, b22, rfl⟩ := o2
      show (if _ then _ else _) = (if _ then _ else _)
      rcases Nat.lt_trichotomy h1.length h2.length with z | z | z
      · rw [if_pos z, if_neg (by omega)]
      · rw [if_neg (by omega), if_neg (by omega)]
        exact mkMet_len z (bits_comm b11 b12 b21 b22)
      · rw [if_neg (by omega), if_pos z]
theorem metO_self {W : Wd} (o : WdOkN W) : metO W W = some W := by
  cases W with
  | few ss =>
    show fewO (ss.filter fun t => decide (t ∈ ss)) = _
    rw [List.filter_eq_self.mpr fun t ht => decide_eq_true ht, fewO, if_neg o.1]
  | make h lo hi ms =>
    obtain ⟨_, _, lo0, lohi, hi1, _, b, b1, b2, rfl⟩ := o
    show (if _ then _ else _) = _
    rw [if_neg (Nat.lt_irrefl _)]
    have hr : cs (restW h h) = [] := restW_of (r := []) (by simp)
    have hs : stW h h = true := stW_iff.mpr ⟨[], by simp⟩
    unfold mkMet
    rw [hr, hs, List.filter_eq_self.mpr fun t ht => decide_eq_true ht]
    have : (h.length : Int) - (h.length : Int) = 0 := by omega
    simp only [this, List.all_nil, Bool.and_true, if_true]
    have k1 : (if lo - 0 > lo then lo - 0 else lo) = lo := by split <;> omega
    have k2 : (if hi - 0 < hi then hi - 0 else hi) = hi := by split <;> omega
    rw [k1, k2, if_neg (fun z => by rcases z.2.2 with q | q; omega; exact bitsM_ne b1 b2 q), if_neg (fun z => by rcases z with q | q; omega; exact bitsM_ne b1 b2 q)]
/-- met, they let by what both let by -/
theorem mkMet_let {h1 : Str} {lo1 hi1 : Int} {ms1 : List Str} {h2 : Str} {lo2 hi2 : Int} {ms2 : List Str} (l0 : 0 ≤ lo1) (hl : h2.length ≤ h1.length) (x : Str) :
    letO (mkMet h1 lo1 hi1 ms1 h2 lo2 hi2 ms2) x = (letW (.make h1 lo1 hi1 ms1) x && letW (.make h2 lo2 hi2 ms2) x) := by
  rw [Bool.eq_iff_iff, Bool.and_eq_true, letW_make, letW_make]
  unfold mkMet
  by_cases hc : (stW h1 h2 && (cs (restW h1 h2)).all fun c => decide (markC c ∈ ms2)) = true
  · rw [if_pos hc]
    rw [Bool.and_eq_true, List.all_eq_true] at hc
    obtain ⟨d, hd⟩ := stW_iff.mp hc.1
    rw [restW_of hd] at hc
    have hdl : (h1.length : Int) - (h2.length : Int) = (d.length : Int) := by rw [WordM.len, WordM.len, hd, List.length_append]; omega
    dsimp only
    rw [hdl]
    have key : (MkL markC (cs h1) lo1 hi1 ms1 (cs x) ∧ MkL markC (cs h2) lo2 hi2 ms2 (cs x)) ↔ ∃ r, cs x = cs h1 ++ r ∧ lo1 ≤ (r.length : Int) ∧ (r.length : Int) ≤ hi1 ∧ lo2 - (d.length : Int) ≤ (r.length : Int) ∧ (r.length : Int) ≤ hi2 - (d.length : Int) ∧ ∀ c ∈ r, markC c ∈ ms1 ∧ markC c ∈ ms2 := by
      constructor
      · rintro ⟨⟨r, e, r1, r2, r3⟩, ⟨r', e', r1', r2', r3'⟩⟩
        have er : r' = d ++ r := by
          rw [e, hd, List.append_assoc] at e'
          exact (List.append_cancel_left e').symm
        subst er
        rw [List.length_append] at r1' r2'
        exact ⟨r, e, r1, r2, by omega, by omega, fun c hc => ⟨r3 c hc, r3' c (List.mem_append_right _ hc)⟩⟩
      · rintro ⟨r, e, r1, r2, r3, r4, r5⟩
        refine ⟨⟨r, e, r1, r2, fun c hc => (r5 c hc).1⟩, ⟨d ++ r, by rw [e, hd, List.append_assoc], by rw [List.length_append]; omega, by rw [List.length_append]; omega, fun c hc' => ?_⟩⟩
        rcases List.mem_append.mp hc' with z | z
        · exact of_decide_eq_true (hc.2 c z)
        · exact (r5 c z).2
    rw [key]
    have kl : ∀ n : Int, (if lo2 - (d.length : Int) > lo1 then lo2 - (d.length : Int) else lo1) ≤ n ↔ lo1 ≤ n ∧ lo2 - (d.length : Int) ≤ n := fun n => by split <;> omega
    have kh : ∀ n : Int, n ≤ (if hi2 - (d.length : Int) < hi1 then hi2 - (d.length : Int) else hi1) ↔ n ≤ hi1 ∧ n ≤ hi2 - (d.length : Int) := fun n => by split <;> omega
    have kl0 : 0 ≤ (if lo2 - (d.length : Int) > lo1 then lo2 - (d.length : Int) else lo1) := by split <;> omega
    generalize (if lo2 - (d.length : Int) > lo1 then lo2 - (d.length : Int) else lo1) = least at kl kl0
    generalize (if hi2 - (d.length : Int) < hi1 then hi2 - (d.length : Int) else hi1) = most at kh
    have km : ∀ m, m ∈ (ms1.filter fun m => decide (m ∈ ms2)) ↔ m ∈ ms1 ∧ m ∈ ms2 := fun m => by rw [List.mem_filter, decide_eq_true_iff]
    generalize (ms1.filter fun m => decide (m ∈ ms2)) = marks at km
    have key2 : (∃ r, cs x = cs h1 ++ r ∧ lo1 ≤ (r.length : Int) ∧ (r.length : Int) ≤ hi1 ∧ lo2 - (d.length : Int) ≤ (r.length : Int) ∧ (r.length : Int) ≤ hi2 - (d.length : Int) ∧ ∀ c ∈ r, markC c ∈ ms1 ∧ markC c ∈ ms2) ↔ MkL markC (cs h1) least most marks (cs x) :=
      ⟨fun ⟨r, e, r1, r2, r3, r4, r5⟩ => ⟨r, e, (kl _).mpr ⟨r1, r3⟩, (kh _).mpr ⟨r2, r4⟩, fun c hc => (km _).mpr (r5 c hc)⟩, fun ⟨r, e, r1, r2, r3⟩ => ⟨r, e, ((kl _).mp r1).1, ((kh _).mp r2).1, ((kl _).mp r1).2, ((kh _).mp r2).2, fun c hc => (km _).mp (r3 c hc)⟩⟩
    rw [key2]
    have nom : marks = [] → ∀ r : List Nat, (∀ c ∈ r, markC c ∈ marks) → r = [] := fun z r hr => by
      cases r with
      | nil => rfl
      | cons c r => have := hr c List.mem_cons_self; rw [z] at this; simp at this
    split
    · rename_i hf
      show decide (x ∈ [h1]) = true ↔ _
      rw [decide_eq_true_iff, List.mem_singleton]
      constructor
      · intro e
        subst e
        exact ⟨[], by simp, by show least ≤ ((0 : Nat) : Int); omega, by show ((0 : Nat) : Int) ≤ most; omega, fun c hc => nomatch hc⟩
      · rintro ⟨r, e, r1, r2, r3⟩
        have : r = [] := by
          rcases hf.2.2 with z | z
          · exact List.eq_nil_of_length_eq_zero (by omega)
          · exact nom z r r3
        rw [this, List.append_nil] at e
        exact str_ext e
    · split
      · rename_i hf hn
        show false = true ↔ _
        refine ⟨fun z => (nomatch z), ?_⟩
        rintro ⟨r, e, r1, r2, r3⟩
        rcases hn with z | z
        · omega
        · have := nom z r r3
          subst this
          have r1 : least ≤ ((0 : Nat) : Int) := r1
          have r2 : ((0 : Nat) : Int) ≤ most := r2
          exact absurd ⟨by omega, by omega, .inr z⟩ hf
      · exact letW_make
  · rw [if_neg hc]
    show false = true ↔ _
    refine ⟨fun z => (nomatch z), ?_⟩
    rintro ⟨⟨r, e, r1, r2, r3⟩, ⟨r', e', r1', r2', r3'⟩⟩
    refine absurd ?_ hc
    rw [WordM.len, WordM.len] at hl
    obtain ⟨d, hd⟩ : ∃ d, cs h1 = cs h2 ++ d := by
      rw [e] at e'
      rcases List.append_eq_append_iff.mp e' with ⟨a, ha, hb⟩ | ⟨a, ha, hb⟩
      · have := congrArg List.length ha
        rw [List.length_append] at this
        have : a = [] := List.eq_nil_of_length_eq_zero (by omega)
        rw [this, List.append_nil] at ha
        exact ⟨[], by rw [List.append_nil]; exact ha.symm⟩
      · exact ⟨a, ha⟩
    have er : r' = d ++ r := by
      rw [e, hd, List.append_assoc] at e'
      exact (List.append_cancel_left e').symm
    subst er
    rw [Bool.and_eq_true, List.all_eq_true, restW_of hd]
    exact ⟨stW_iff.mpr ⟨d, hd⟩, fun c hc => decide_eq_true (r3' c (List.mem_append_left _ hc))⟩
theorem fewO_let (l : List Str) (x : Str) : letO (fewO l) x = decide (x ∈ l) := by
  unfold fewO
  split
  · rename_i z; subst z; rfl
  · rfl
theorem metO_let {W W2 : Wd} (o1 : WdOkN W) (o2 : WdOkN W2) (x : Str) : letO (metO W W2) x = (letW W x && letW W2 x) := by
  have hf : ∀ (ss : List Str) (V : Wd), letO (fewO (ss.filter fun t => letW V t)) x = (letW (.few ss) x && letW V x) := fun ss V => by
    rw [fewO_let, Bool.eq_iff_iff, decide_eq_true_iff, List.mem_filter, Bool.and_eq_true]
    show _ ↔ decide (x ∈ ss) = true ∧ _
    rw [decide_eq_true_iff]
  cases W with
  | few ss => exact hf ss W2
  | make h1 lo1 hi1 ms1 =>
    cases W2 with
    | few ss2 => exact (hf ss2 _).trans (Bool.and_comm _ _)
    | make h2 lo2 hi2 ms2 =>
      show letO (if _ then _ else _) x = _
      split
      · rw [mkMet_let o2.2.2.1 (by omega), Bool.and_comm]
      · exact mkMet_let o1.2.2.1 (by omega) x
/-! ### words met, by the program and by the law -/
open WordM ShowM
def OWdAt (H : Hp) (v : V) : Option Wd → Prop
  | none => v = .non
  | some W => ∃ a, v = .ref a ∧ WdAt H a W
theorem OWdAt.same {H H' : Hp} {v : V} (s : Same H H') : ∀ {o : Option Wd}, OWdAt H v o → OWdAt H' v o
  | none, h => h
  | some _, ⟨a, e, h⟩ => ⟨a, e, h.same s⟩
/-- a few at new tuples -/
theorem few_at {H : Hp} {t a : Addr} {ss : List Str} (n : H t = none) (n2 : upd H t (.tup (ss.map V.str)) a = none) : WdAt (upd (upd H t (.tup (ss.map V.str))) a (.tup [.str "few", .ref t])) a (.few ss) :=
  ⟨t, at_new n2, same_new n2 _ _ (at_new n)⟩
section
variable {P : Program} {w : World} {K : PySem.W.Frag} {mg : Str → Option Value} {base : Heap}
def spFewMet : Sp := fun vs H Q _ => ∃ (a b : Addr) (ss : List Str) (W2 : Wd), vs = [.ref a, .ref b] ∧ WdAt H a (.few ss) ∧ WdAt H b W2 ∧ WdOkN (.few ss) ∧ WdOkN W2 ∧ ∀ (v : V) (H' : Hp), Same H H' → OWdAt H' v (fewO (ss.filter fun t => letW W2 t)) → Q v H'
theorem sc_fewmet : FnScope ["few", "other", "texts"] ["few", "other"] (defScope sfew_met) := ⟨rfl, rfl, rfl, by decide +kernel, rfl, by decide +kernel, by decide +kernel⟩
theorem g_fewmet (h : Has K mg "few_met" sfew_met) (B : Own mg) (Gwords_let : Good P w K mg base 3 "words_let" ["words", "text"] spLet) : Good P w K mg base 4 "few_met" ["few", "other"] spFewMet := by
  refine h.good sc_fewmet (fun _ _ _ _ _ _ us hl => match us, hl with | [_, _], _ => rfl) (fun vs H Q E q => ?_) (fun f cdv A outer s H vs Q E hr q => ?_)
  · obtain ⟨a, b, ss, W2, rfl, _⟩ := q
    rfl
  · obtain ⟨a, b, ss, W2, rfl, hW, hW2, ok, ok2, q⟩ := q
    have nd := sc_fewmet.nd
    refine ⟨_, (pss_cons (ps_set (i := 2) nd rfl (by first | exact Or.inl rfl | exact Or.inr rfl) (pe_callTy call_tuple_of rfl B.tuple_ boot_tuple (pa_c (pe_comp (sc := defScope sfew_met) (XN := ["few", "other", "texts"]) (N := ["text", "other"]) (own := 1) (fr := [1]) rfl ⟨rfl, by decide +kernel, by decide +kernel, by decide +kernel, rfl, by decide +kernel, by decide, by decide +kernel⟩ (pi_tup (pe_ix ix_tup (pv 0) pe_int (fun _ _ => rfl))) (fun _ _ _ _ _ => (pg_name (i := 0) (show (["text", "other"] : List Str).Nodup by decide +kernel) rfl (by first | exact Or.inl rfl | exact Or.inr rfl))) (fun _ _ _ _ _ => pf_one (pt_val (pe_fn Gwords_let (hr.mono (by first | decide | omega)) rfl (pa_c (pv 1) (pa_c (pv 0) pa_nil))))) (fun _ _ _ _ _ => (pv 0))) pa_nil)))
      (pss_one (ps_ret (pe_ifExp (pt_cmpR op_gt (pe_callB call_len_seq rfl B.len PySem.boot_len (pa_c (pv 2) pa_nil)) pe_int (nomark _)) (@pe_tupQ _ _ _ _ _ (@qa_c _ _ _ _ _ pe_str (@qa_c _ _ _ _ _ (pv 2) qa_nil rfl) rfl)) pe_non)))), ?_⟩
    obtain ⟨t, ha, ht⟩ := hW
    have h6 : ss.length ≤ 6 := ok.2.1
    refine ⟨_, rfl, a, _, _, _, rfl, rfl, SqT.of ha, rfl, t, rfl, ⟨_, SqT.of ht⟩, fun c nc => ?_⟩
    refine comp_tup (K := K) (xs := ss.map V.str) (fun i ys H' => Same H H' ∧ ys = ((ss.take i).filter fun t => letW W2 t).map V.str) ⟨same_new nc, rfl⟩ (fun i ys H' _ _ p => SqT.of (p.1 _ _ ht)) ?_ ?_
    · rintro i v ys H' hv hc ⟨s2, rfl⟩
      rw [List.getElem?_map] at hv
      cases hi' : ss[i]? with
      | none => rw [hi'] at hv; cases hv
      | some x =>
        rw [hi'] at hv
        have hv : V.str x = v := Option.some.inj hv
        subst hv
        obtain ⟨x2, x3⟩ := ok.2.2.2.2 x (List.mem_of_getElem? hi')
        have hts := take_stepF (fun t => letW W2 t) hi'
        refine ⟨⟨[_], rfl, rfl⟩, _, rfl, _, rfl, b, W2, x, rfl, hW2.same s2, ok2.hd, x2, by omega, fun H3 s3 => ⟨_, rfl, ?_⟩⟩
        refine ite2 (fun h4 => ?_) (fun h4 => ?_)
        · refine ⟨_, rfl, s3 _ _ hc, ?_, ?_, ?_⟩
          · rw [List.length_map]
            exact Nat.lt_of_le_of_lt (List.length_filter_le _ _) (Nat.lt_of_le_of_lt (List.length_take_le' _ _) (small1000 (by omega)))
          · intro b' o e
            rw [upd_ne (ne_of_none e nc)]
            exact s3 b' o (s2 b' o e)
          · rw [hts, if_pos h4, List.map_append]
            rfl
        · refine ⟨s3 _ _ hc, s2.trans s3, ?_⟩
          rw [hts, if_neg h4, List.append_nil]
    · rintro ys H2 hc ⟨s2, rfl⟩
      rw [List.length_map, List.take_length] at hc
      refine ⟨c, _, rfl, .inl ⟨SqL.of hc, fun t3 n3 => ?_⟩⟩
      have s3 := s2.alloc (o := .tup ((ss.filter fun t => letW W2 t).map V.str)) n3
      have hl : ((ss.filter fun t => letW W2 t).map V.str).length ≤ 6 := by rw [List.length_map]; exact Nat.le_trans (List.length_filter_le _ _) h6
      refine ⟨_, rfl, t3, _, rfl, .inr (SqT.of (at_new n3)), _, _, rfl, rfl, _, rfl, ?_⟩
      refine ite2 (fun h4 => ?_) (fun h4 => ?_)
      · have h4 : (0 : Int) < (((ss.filter fun t => letW W2 t).map V.str).length : Int) := of_decide_eq_true h4
        rw [List.length_map] at h4
        have ne : (ss.filter fun t => letW W2 t) ≠ [] := fun z => by rw [z] at h4; simp at h4
        refine ⟨_, rfl, by show 2 ≤ sizeLine; decide, fun a4 n4 => q _ _ (s3.alloc n4) ?_⟩
        rw [fewO, if_neg ne]
        exact ⟨a4, rfl, few_at n3 n4⟩
      · have h4 : ¬ (0 : Int) < (((ss.filter fun t => letW W2 t).map V.str).length : Int) := fun z => h4 (decide_eq_true z)
        rw [List.length_map] at h4
        have e : (ss.filter fun t => letW W2 t) = [] := List.eq_nil_of_length_eq_zero (by omega)
        refine q _ _ s3 ?_
        rw [fewO, if_pos e]
        rfl
/-- two makes, a condition on how long their heads are -/
def spMakes (C : Nat → Nat → Prop) (R : Str → Int → Int → List Str → Str → Int → Int → List Str → Option Wd) : Sp := fun vs H Q _ => ∃ (a b : Addr) (h1 : Str) (lo1 hi1 : Int) (ms1 : List Str) (h2 : Str) (lo2 hi2 : Int) (ms2 : List Str), vs = [.ref a, .ref b] ∧ WdAt H a (.make h1 lo1 hi1 ms1) ∧ WdAt H b (.make h2 lo2 hi2 ms2) ∧
  WdOkN (.make h1 lo1 hi1 ms1) ∧ WdOkN (.make h2 lo2 hi2 ms2) ∧ C h1.length h2.length ∧ ∀ (v : V) (H' : Hp), Same H H' → OWdAt H' v (R h1 lo1 hi1 ms1 h2 lo2 hi2 ms2) → Q v H'
theorem sc_makes : FnScope ["longer", "shorter", "head", "tail", "marks", "least", "most"] ["longer", "shorter"] (defScope smakes_met) := ⟨rfl, rfl, rfl, by decide +kernel, rfl, by decide +kernel, by decide +kernel⟩
theorem rest_len {x y : Str} (h : y.length ≤ x.length) : ((restW x y).length : Int) = (x.length : Int) - (y.length : Int) := by
  unfold restW
  rw [PyProof.Rows.slice_from_eq (b := (x.length : Int)) (by omega) (by omega) rfl]
  show (((((cs x).drop _).take _).toArray.size : Nat) : Int) = _
  rw [List.size_toArray, List.length_take, List.length_drop, ← WordM.len]
  omega
theorem g_makes (h : Has K mg "makes_met" smakes_met) (B : Own mg) (Gmarks_of : Good P w K mg base 2 "marks_of" ["text"] spMarks) : Good P w K mg base 3 "makes_met" ["longer", "shorter"] (spMakes (fun n m => m ≤ n) mkMet) := by
  refine h.good sc_makes (fun _ _ _ _ _ _ us hl => match us, hl with | [_, _], _ => rfl) (fun vs H Q E q => ?_) (fun f cdv A outer s H vs Q E hr q => ?_)
  · obtain ⟨a, b, h1, lo1, hi1, ms1, h2, lo2, hi2, ms2, rfl, _⟩ := q
    rfl
  · obtain ⟨a, b, h1, lo1, hi1, ms1, h2, lo2, hi2, ms2, rfl, hW, hW2, ok, ok2, hle, q⟩ := q
    have nd := sc_makes.nd
    refine ⟨_, (pss_cons (ps_set (i := 2) nd rfl (by first | exact Or.inl rfl | exact Or.inr rfl) (pe_ix ix_tup (pv 0) pe_int (fun _ _ => rfl)))
      (pss_cons (ps_set (i := 3) nd rfl (by first | exact Or.inl rfl | exact Or.inr rfl) (pe_slice sl_str (pv 2) (po_some (pe_callB call_len_str rfl B.len PySem.boot_len (pa_c (pe_ix ix_tup (pv 1) pe_int (fun _ _ => rfl)) pa_nil))) po_none))
      (pss_cons (ps_if (PW.pt (pw_or (pt_not (pt_val (pe_bm PySem.F.plainAttrs_str PySem.F.slot_str_startswith PySem.F.type_str_startswith mt_startswith (pv 2) (pa_c (pe_ix ix_tup (pv 1) pe_int (fun _ _ => rfl)) pa_nil)))) (pw_or1 (pt_not (pt_val (pe_callB (call_allL rfl) rfl B.all boot_all (pa_c (pe_comp (sc := defScope smakes_met) (XN := ["longer", "shorter", "head", "tail", "marks", "least", "most"]) (N := ["mark", "shorter"]) (own := 1) (fr := [1]) rfl ⟨rfl, by decide +kernel, by decide +kernel, by decide +kernel, rfl, by decide +kernel, by decide, by decide +kernel⟩ (pi_tup (pe_fn Gmarks_of (hr.mono (by first | decide | omega)) rfl (pa_c (pv 3) pa_nil))) (fun _ _ _ _ _ => (pg_name (i := 0) (show (["mark", "shorter"] : List Str).Nodup by decide +kernel) rfl (by first | exact Or.inl rfl | exact Or.inr rfl))) (fun _ _ _ _ _ => pf_nil) (fun _ _ _ _ _ => (pe_cmpR (r := rIn K false) op_in_seq (pv 0) (pe_ix (r := rIxT K) ix_tup (pv 1) pe_int (fun _ _ => rfl)) rfl))) pa_nil)))))))
        (pss_one (ps_ret pe_non))
        pss_nil)
      (pss_cons (ps_set (i := 4) nd rfl (by first | exact Or.inl rfl | exact Or.inr rfl) (pe_callTy call_tuple_of rfl B.tuple_ boot_tuple (pa_c (pe_comp (sc := defScope smakes_met) (XN := ["longer", "shorter", "head", "tail", "marks", "least", "most"]) (N := ["mark", "shorter"]) (own := 1) (fr := [1]) rfl ⟨rfl, by decide +kernel, by decide +kernel, by decide +kernel, rfl, by decide +kernel, by decide, by decide +kernel⟩ (pi_tup (pe_ix ix_tup (pv 0) pe_int (fun _ _ => rfl))) (fun _ _ _ _ _ => (pg_name (i := 0) (show (["mark", "shorter"] : List Str).Nodup by decide +kernel) rfl (by first | exact Or.inl rfl | exact Or.inr rfl))) (fun _ _ _ _ _ => pf_one (pt_cmpR (r := rIn K false) op_in_seq (pv 0) (pe_ix (r := rIxT K) ix_tup (pv 1) pe_int (fun _ _ => rfl)) rfl)) (fun _ _ _ _ _ => (pv 0))) pa_nil)))
      (pss_cons (ps_set (i := 5) nd rfl (by first | exact Or.inl rfl | exact Or.inr rfl) (pe_callB (call_max2 rfl) rfl B.max boot_max (pa_c (pe_ix ix_tup (pv 0) pe_int (fun _ _ => rfl)) (pa_c (pe_op op_sub (pe_ix ix_tup (pv 1) pe_int (fun _ _ => rfl)) (pe_callB call_len_str rfl B.len PySem.boot_len (pa_c (pv 3) pa_nil))) pa_nil))))
      (pss_cons (ps_set (i := 6) nd rfl (by first | exact Or.inl rfl | exact Or.inr rfl) (pe_callB (call_min2 rfl) rfl B.min boot_min (pa_c (pe_ix ix_tup (pv 0) pe_int (fun _ _ => rfl)) (pa_c (pe_op op_sub (pe_ix ix_tup (pv 1) pe_int (fun _ _ => rfl)) (pe_callB call_len_str rfl B.len PySem.boot_len (pa_c (pv 3) pa_nil))) pa_nil))))
      (pss_cons (ps_if (pt_cmpR op_eq (pe_callB call_len_seq rfl B.len PySem.boot_len (pa_c (pv 4) pa_nil)) pe_int (nomark _))
        (pss_one (ps_set (i := 6) nd rfl (by first | exact Or.inl rfl | exact Or.inr rfl) (pe_callB (call_min2 rfl) rfl B.min boot_min (pa_c (pv 6) (pa_c pe_int pa_nil)))))
        pss_nil)
      (pss_cons (ps_if (pt_cmpR op_gt (pv 5) (pv 6) (nomark _))
        (pss_one (ps_ret pe_non))
        pss_nil)
      (pss_cons (ps_if (pt_cmpR op_eq (pv 6) pe_int (nomark _))
        (pss_one (ps_ret (@pe_tupQ _ _ _ _ _ (@qa_c _ _ _ _ _ pe_str (@qa_c _ _ _ _ _ (@pe_tupQ _ _ _ _ _ (@qa_c _ _ _ _ _ (pv 2) qa_nil rfl)) qa_nil rfl) rfl))))
        pss_nil)
      (pss_one (ps_ret (@pe_tupQ _ _ _ _ _ (@qa_c _ _ _ _ _ pe_str (@qa_c _ _ _ _ _ (pv 2) (@qa_c _ _ _ _ _ (pv 5) (@qa_c _ _ _ _ _ (pv 6) (@qa_c _ _ _ _ _ (pv 4) qa_nil rfl) rfl) rfl) rfl) rfl))))))))))))), ?_⟩
    obtain ⟨t, ha, ht⟩ := hW
    obtain ⟨u, hb, hu⟩ := hW2
    obtain ⟨sh1, l1, lo10, lohi1, hi11, hi16, b1, b11, b12, rfl⟩ := ok
    obtain ⟨sh2, l2, lo20, lohi2, hi21, hi26, b2, b21, b22, rfl⟩ := ok2
    have hm4 : (bitsM b1).length ≤ 4 := by rw [bits_sub b11 b12]; exact List.length_filter_le _ _
    have z1 : h1.length ≤ sizeLine := Nat.le_of_lt (small1000 (by omega))
    have z2 : h2.length ≤ sizeLine := Nat.le_of_lt (small1000 (by omega))
    have hrl : (restW h1 h2).length ≤ 1000 := Nat.le_trans (WordM.slice_len ..) (by omega)
    have hrn := rest_len hle
    have zr : (restW h1 h2).length ≤ sizeLine := Nat.le_of_lt (small1000 hrl)
    have q' : ∀ (v : V) (H' : Hp) (o : Option Wd), Same H H' → OWdAt H' v o → mkMet h1 lo1 hi1 (bitsM b1) h2 lo2 hi2 (bitsM b2) = o → Q v H' := fun v H' o s k e => q v H' s (e ▸ k)
    refine ⟨_, rfl, a, _, _, _, rfl, rfl, SqT.of ha, rfl, ?_⟩
    refine ⟨_, rfl, _, rfl, b, _, _, _, rfl, rfl, SqT.of hb, rfl, h2, rfl, z2, _, rfl, h1, rfl, z1, ?_⟩
    refine ⟨_, rfl, rfl, _, rfl, b, _, _, _, rfl, rfl, SqT.of hb, rfl, h1, h2, rfl, rfl, _, rfl, ?_⟩
    show if (!stW h1 h2) = true then _ else _
    refine ite2 (fun h5 => ?_) (fun h5 => ?_)
    · have h5 : stW h1 h2 = false := by simpa using h5
      refine q' _ _ none (Same.refl H) rfl ?_
      unfold mkMet
      rw [h5]
      rfl
    have h5 : stW h1 h2 = true := by simpa using h5
    refine ⟨_, rfl, restW h1 h2, rfl, hrl, fun tm H1 _ s1 htm => ⟨tm, rfl, ⟨_, SqT.of htm⟩, fun c nc => ?_⟩⟩
    refine comp_tup (K := K) (xs := (marksS (restW h1 h2)).map V.str) (fun i ys H' => Same H1 H' ∧ ys = (((marksS (restW h1 h2)).take i).map fun m => decide (m ∈ bitsM b2)).map V.bl) ⟨same_new nc, rfl⟩ (fun i ys H' _ _ p => SqT.of (p.1 _ _ htm)) ?_ ?_
    · rintro i v ys H' hv hc ⟨s2, rfl⟩
      rw [List.getElem?_map] at hv
      cases hi' : (marksS (restW h1 h2))[i]? with
      | none => rw [hi'] at hv; cases hv
      | some m =>
        rw [hi'] at hv
        have hv : V.str m = v := Option.some.inj hv
        subst hv
        have s12 := s1.trans s2
        have hlen : (marksS (restW h1 h2)).length ≤ 4 := List.length_filter_le _ _
        refine ⟨⟨[_], rfl, rfl⟩, noIfT ⟨_, rfl, _, rfl, b, _, _, _, rfl, rfl, SqT.of (s12 _ _ hb), rfl, u, _, rfl, .inr (SqT.of (s12 _ _ hu)), rfl, flat_strs _, hc, ?_, ?_, ?_⟩⟩
        · rw [List.length_map, List.length_map]
          exact Nat.lt_of_le_of_lt (List.length_take_le' _ _) (small1000 (by omega))
        · intro c' o e
          rw [upd_ne (ne_of_none e nc)]
          exact s2 c' o e
        · rw [show (if false = true then !inV (V.str m) ((bitsM b2).map V.str) else inV (V.str m) ((bitsM b2).map V.str)) = decide (m ∈ bitsM b2) from inV_str, List.take_add_one, hi', List.map_append, List.map_append]
          rfl
    · rintro ys H2 hc ⟨s2, rfl⟩
      have s12 := s1.trans s2
      rw [List.length_map, List.take_length] at hc
      have hal : ((marksS (restW h1 h2)).map fun m => decide (m ∈ bitsM b2)).all id = (cs (restW h1 h2)).all fun c => decide (markC c ∈ bitsM b2) := by
        rw [← marks_all (x := restW h1 h2) (sh1.slice _ _) (bitsM b2), List.all_map]
        rfl
      refine ⟨c, _, rfl, SqL.of hc, _, rfl, ?_⟩
      rw [hal]
      refine ite2 (fun h6 => ?_) (fun h6 => ?_)
      · have h6 : ((cs (restW h1 h2)).all fun c => decide (markC c ∈ bitsM b2)) = false := by simpa using h6
        refine q' _ _ none s12 rfl ?_
        unfold mkMet
        rw [h6, Bool.and_false]
        rfl
      have h6 : ((cs (restW h1 h2)).all fun c => decide (markC c ∈ bitsM b2)) = true := by simpa using h6
      have ha2 := s12 _ _ ha
      have ht2 := s12 _ _ ht
      have hb2 := s12 _ _ hb
      have hu2 := s12 _ _ hu
      refine ⟨_, rfl, a, _, _, _, rfl, rfl, SqT.of ha2, rfl, t, rfl, ⟨_, SqT.of ht2⟩, fun e ne => ?_⟩
      refine comp_tup (K := K) (xs := (bitsM b1).map V.str) (fun i ys H' => Same H2 H' ∧ ys = (((bitsM b1).take i).filter fun m => decide (m ∈ bitsM b2)).map V.str) ⟨same_new ne, rfl⟩ (fun i ys H' _ _ p => SqT.of (p.1 _ _ ht2)) ?_ ?_
      · rintro i v ys H' hv hc ⟨s3, rfl⟩
        rw [List.getElem?_map] at hv
        cases hi' : (bitsM b1)[i]? with
        | none => rw [hi'] at hv; cases hv
        | some m =>
          rw [hi'] at hv
          have hv : V.str m = v := Option.some.inj hv
          subst hv
          have hts := take_stepF (fun m => decide (m ∈ bitsM b2)) hi'
          refine ⟨⟨[_], rfl, rfl⟩, _, rfl, _, rfl, b, _, _, _, rfl, rfl, SqT.of (s3 _ _ hb2), rfl, u, _, rfl, .inr (SqT.of (s3 _ _ hu2)), rfl, flat_strs _, _, rfl, ?_⟩
          rw [show (if false = true then !inV (V.str m) ((bitsM b2).map V.str) else inV (V.str m) ((bitsM b2).map V.str)) = decide (m ∈ bitsM b2) from inV_str]
          refine ite2 (fun h4 => ?_) (fun h4 => ?_)
          · refine ⟨_, rfl, hc, ?_, ?_, ?_⟩
            · rw [List.length_map]
              exact Nat.lt_of_le_of_lt (List.length_filter_le _ _) (Nat.lt_of_le_of_lt (List.length_take_le' _ _) (small1000 (by omega)))
            · intro b' o e
              rw [upd_ne (ne_of_none e ne)]
              exact s3 b' o e
            · rw [hts, if_pos h4, List.map_append]
              rfl
          · refine ⟨hc, s3, ?_⟩
            rw [hts, if_neg h4, List.append_nil]
      · rintro ys H3 he ⟨s3, rfl⟩
        rw [List.length_map, List.take_length] at he
        refine ⟨e, _, rfl, .inl ⟨SqL.of he, fun tk nk => ?_⟩⟩
        have s4 := (s12.trans s3).alloc (o := .tup (((bitsM b1).filter fun m => decide (m ∈ bitsM b2)).map V.str)) nk
        have hk := at_new (o := .tup (((bitsM b1).filter fun m => decide (m ∈ bitsM b2)).map V.str)) nk
        have hlm : (((bitsM b1).filter fun m => decide (m ∈ bitsM b2)).map V.str).length ≤ 4 := by rw [List.length_map]; exact Nat.le_trans (List.length_filter_le _ _) hm4
        generalize upd H3 tk (.tup (((bitsM b1).filter fun m => decide (m ∈ bitsM b2)).map V.str)) = H4 at s4 hk
        have ha4 := s4 _ _ ha
        have hb4 := s4 _ _ hb
        have emet : mkMet h1 lo1 hi1 (bitsM b1) h2 lo2 hi2 (bitsM b2) = (if (if lo2 - ((restW h1 h2).length : Int) > lo1 then lo2 - ((restW h1 h2).length : Int) else lo1) = 0 ∧ 0 ≤ (if hi2 - ((restW h1 h2).length : Int) < hi1 then hi2 - ((restW h1 h2).length : Int) else hi1) ∧ ((if hi2 - ((restW h1 h2).length : Int) < hi1 then hi2 - ((restW h1 h2).length : Int) else hi1) = 0 ∨ ((bitsM b1).filter fun m => decide (m ∈ bitsM b2)) = []) then some (.few [h1])
            else if (if hi2 - ((restW h1 h2).length : Int) < hi1 then hi2 - ((restW h1 h2).length : Int) else hi1) < (if lo2 - ((restW h1 h2).length : Int) > lo1 then lo2 - ((restW h1 h2).length : Int) else lo1) ∨ ((bitsM b1).filter fun m => decide (m ∈ bitsM b2)) = [] then none
            else some (.make h1 (if lo2 - ((restW h1 h2).length : Int) > lo1 then lo2 - ((restW h1 h2).length : Int) else lo1) (if hi2 - ((restW h1 h2).length : Int) < hi1 then hi2 - ((restW h1 h2).length : Int) else hi1) ((bitsM b1).filter fun m => decide (m ∈ bitsM b2)))) := by
          unfold mkMet
          rw [h5, h6, hrn]
          rfl
        have l0 : 0 ≤ (if lo2 - ((restW h1 h2).length : Int) > lo1 then lo2 - ((restW h1 h2).length : Int) else lo1) := by split <;> omega
        refine ⟨_, rfl, a, _, _, _, rfl, rfl, SqT.of ha4, rfl, _, rfl, b, _, _, _, rfl, rfl, SqT.of hb4, rfl, _, rfl, restW h1 h2, rfl, zr, _, _, rfl, rfl, _, _, rfl, ?_⟩
        refine ⟨_, rfl, a, _, _, _, rfl, rfl, SqT.of ha4, rfl, _, rfl, b, _, _, _, rfl, rfl, SqT.of hb4, rfl, _, rfl, restW h1 h2, rfl, zr, _, _, rfl, rfl, _, _, rfl, ?_⟩
        generalize (if lo2 - ((restW h1 h2).length : Int) > lo1 then lo2 - ((restW h1 h2).length : Int) else lo1) = least at emet l0
        generalize (if hi2 - ((restW h1 h2).length : Int) < hi1 then hi2 - ((restW h1 h2).length : Int) else hi1) = most at emet
        generalize ((bitsM b1).filter fun m => decide (m ∈ bitsM b2)) = marks at emet hk hlm
        refine ⟨_, rfl, tk, _, rfl, .inr (SqT.of hk), rfl, _, rfl, ?_⟩
        rw [dIw, List.length_map]
        refine ite2 (fun h7 => ?_) (fun h7 => ?_)
        · have h7 : ((marks.length : Nat) : Int) = 0 := of_decide_eq_true h7
          have em : marks = [] := List.eq_nil_of_length_eq_zero (by omega)
          refine ⟨_, rfl, _, _, rfl, ?_⟩
          refine ⟨_, rfl, _, rfl, _, _, rfl, rfl, _, rfl, ?_⟩
          refine ite2 (fun h8 => ?_) (fun h8 => ?_)
          · have h8 : (if (0 : Int) < most then 0 else most) < least := of_decide_eq_true h8
            refine q' _ _ none s4 rfl ?_
            rw [emet, if_neg (fun z => by rcases z with ⟨z1, z2, _⟩; split at h8 <;> omega), if_pos (.inr em)]
          · have h8 : ¬ (if (0 : Int) < most then 0 else most) < least := fun z => h8 (decide_eq_true z)
            have k : least = 0 ∧ 0 ≤ most ∧ (if (0 : Int) < most then 0 else most) = 0 := by split at h8 <;> (refine ⟨by omega, by omega, ?_⟩; split <;> omega)
            refine ⟨_, rfl, rfl, _, rfl, ?_⟩
            rw [dIw]
            refine ite2 (fun h9 => ?_) (fun h9 => absurd (decide_eq_true k.2.2) h9)
            refine ⟨_, rfl, by show 1 ≤ sizeLine; decide, fun t9 n9 => ⟨by show 2 ≤ sizeLine; decide, fun t10 n10 => q' _ _ (some (.few [h1])) ((s4.alloc n9).alloc n10) ⟨t10, rfl, few_at (ss := [h1]) n9 n10⟩ ?_⟩⟩
            rw [emet, if_pos ⟨k.1, k.2.1, .inr em⟩]
        · have h7 : marks ≠ [] := fun z => h7 (decide_eq_true (by rw [z]; rfl))
          refine ⟨_, rfl, _, rfl, _, _, rfl, rfl, _, rfl, ?_⟩
          refine ite2 (fun h8 => ?_) (fun h8 => ?_)
          · have h8 : most < least := of_decide_eq_true h8
            refine q' _ _ none s4 rfl ?_
            rw [emet, if_neg (fun z => by omega), if_pos (.inl h8)]
          · have h8 : ¬ most < least := fun z => h8 (decide_eq_true z)
            refine ⟨_, rfl, rfl, _, rfl, ?_⟩
            rw [dIw]
            refine ite2 (fun h9 => ?_) (fun h9 => ?_)
            · have h9 : most = 0 := of_decide_eq_true h9
              refine ⟨_, rfl, by show 1 ≤ sizeLine; decide, fun t9 n9 => ⟨by show 2 ≤ sizeLine; decide, fun t10 n10 => q' _ _ (some (.few [h1])) ((s4.alloc n9).alloc n10) ⟨t10, rfl, few_at (ss := [h1]) n9 n10⟩ ?_⟩⟩
              rw [emet, if_pos ⟨by omega, by omega, .inl h9⟩]
            · have h9 : most ≠ 0 := fun z => h9 (decide_eq_true z)
              refine ⟨_, rfl, _, rfl, _, rfl, _, rfl, by show 5 ≤ sizeLine; decide, fun t10 n10 => q' _ _ (some (.make h1 least most marks)) (s4.alloc n10) ⟨t10, rfl, tk, at_new n10, same_new n10 _ _ hk⟩ ?_⟩
              rw [emet, if_neg (fun z => by rcases z.2.2 with y | y; exact h9 y; exact h7 y), if_neg (fun z => by rcases z with y | y; exact h8 y; exact h7 y)]
def spMet (C : Wd → Wd → Prop) : Sp := fun vs H Q _ => ∃ (a b : Addr) (W W2 : Wd), vs = [.ref a, .ref b] ∧ WdAt H a W ∧ WdAt H b W2 ∧ WdOkN W ∧ WdOkN W2 ∧ C W W2 ∧ ∀ (v : V) (H' : Hp), Same H H' → OWdAt H' v (metO W W2) → Q v H'
theorem sc_wmet : FnScope ["one", "other"] ["one", "other"] (defScope swords_met) := ⟨rfl, rfl, rfl, by decide +kernel, rfl, by decide +kernel, by decide +kernel⟩
theorem g_wmet (h : Has K mg "words_met" swords_met) (B : Own mg) (Gfew_met : Good P w K mg base 4 "few_met" ["few", "other"] spFewMet) (Gmakes_met : Good P w K mg base 3 "makes_met" ["longer", "shorter"] (spMakes (fun n m => m ≤ n) mkMet)) : Good P w K mg base 5 "words_met" ["one", "other"] (spMet fun _ _ => True) := by
  refine h.good sc_wmet (fun _ _ _ _ _ _ us hl => match us, hl with | [_, _], _ => rfl) (fun vs H Q E q => ?_) (fun f cdv A outer s H vs Q E hr q => ?_)
  · obtain ⟨a, b, W, W2, rfl, _⟩ := q
    rfl
  · obtain ⟨a, b, W, W2, rfl, hW, hW2, ok, ok2, _, q⟩ := q
    have nd := sc_wmet.nd
    refine ⟨_, (pss_cons (ps_if (pt_cmpR op_eq (pe_ix ix_tup (pv 0) pe_int (fun _ _ => rfl)) pe_str (nomark _))
        (pss_one (ps_ret (pe_fn Gfew_met (hr.mono (by first | decide | omega)) rfl (pa_c (pv 0) (pa_c (pv 1) pa_nil)))))
        pss_nil)
      (pss_cons (ps_if (pt_cmpR op_eq (pe_ix ix_tup (pv 1) pe_int (fun _ _ => rfl)) pe_str (nomark _))
        (pss_one (ps_ret (pe_fn Gfew_met (hr.mono (by first | decide | omega)) rfl (pa_c (pv 1) (pa_c (pv 0) pa_nil)))))
        pss_nil)
      (pss_cons (ps_if (pt_cmpR op_lt (pe_callB call_len_str rfl B.len PySem.boot_len (pa_c (pe_ix ix_tup (pv 0) pe_int (fun _ _ => rfl)) pa_nil)) (pe_callB call_len_str rfl B.len PySem.boot_len (pa_c (pe_ix ix_tup (pv 1) pe_int (fun _ _ => rfl)) pa_nil)) (nomark _))
        (pss_one (ps_ret (pe_fn Gmakes_met (hr.mono (by first | decide | omega)) rfl (pa_c (pv 1) (pa_c (pv 0) pa_nil)))))
        pss_nil)
      (pss_one (ps_ret (pe_fn Gmakes_met (hr.mono (by first | decide | omega)) rfl (pa_c (pv 0) (pa_c (pv 1) pa_nil)))))))), ?_⟩
    cases W with
    | few ss =>
      obtain ⟨t, ha, ht⟩ := id hW
      refine ⟨_, rfl, a, _, _, _, rfl, rfl, SqT.of ha, rfl, rfl, _, rfl, ?_⟩
      refine ite2 (fun _ => ?_) (fun h => absurd (decide_eq_true rfl) h)
      exact ⟨_, rfl, _, rfl, a, b, ss, W2, rfl, hW, hW2, ok, ok2, fun v H' s' k => q v H' s' k⟩
    | make h1 lo1 hi1 ms1 =>
      obtain ⟨t, ha, ht⟩ := id hW
      refine ⟨_, rfl, a, _, _, _, rfl, rfl, SqT.of ha, rfl, rfl, _, rfl, ?_⟩
      refine ite2 (fun h => absurd (of_decide_eq_true h) (by intro z; exact absurd (V.str.inj z) (by decide +kernel))) (fun _ => ?_)
      cases W2 with
      | few ss =>
        obtain ⟨u, hb, hu⟩ := id hW2
        refine ⟨_, rfl, b, _, _, _, rfl, rfl, SqT.of hb, rfl, rfl, _, rfl, ?_⟩
        refine ite2 (fun _ => ?_) (fun h => absurd (decide_eq_true rfl) h)
        exact ⟨_, rfl, _, rfl, b, a, ss, _, rfl, hW2, hW, ok2, ok, fun v H' s' k => q v H' s' k⟩
      | make h2 lo2 hi2 ms2 =>
        obtain ⟨u, hb, hu⟩ := id hW2
        refine ⟨_, rfl, b, _, _, _, rfl, rfl, SqT.of hb, rfl, rfl, _, rfl, ?_⟩
        refine ite2 (fun h => absurd (of_decide_eq_true h) (by intro z; exact absurd (V.str.inj z) (by decide +kernel))) (fun _ => ?_)
        have z1 : h1.length ≤ sizeLine := Nat.le_of_lt (small1000 (Nat.le_trans ok.2.1 (by decide)))
        have z2 : h2.length ≤ sizeLine := Nat.le_of_lt (small1000 (Nat.le_trans ok2.2.1 (by decide)))
        refine ⟨_, rfl, a, _, _, _, rfl, rfl, SqT.of ha, rfl, h1, rfl, z1, _, rfl, b, _, _, _, rfl, rfl, SqT.of hb, rfl, h2, rfl, z2, _, _, rfl, rfl, _, rfl, ?_⟩
        refine ite2 (fun h5 => ?_) (fun h5 => ?_)
        · have h5 : ((h1.length : Nat) : Int) < (h2.length : Int) := of_decide_eq_true h5
          refine ⟨_, rfl, _, rfl, b, a, h2, lo2, hi2, ms2, h1, lo1, hi1, ms1, rfl, hW2, hW, ok2, ok, by omega, fun v H' s' k => q v H' s' ?_⟩
          show OWdAt H' v (if _ then _ else _)
          rw [if_pos (by omega)]
          exact k
        · have h5 : ¬ ((h1.length : Nat) : Int) < (h2.length : Int) := fun z => h5 (decide_eq_true z)
          refine ⟨_, rfl, _, rfl, a, b, h1, lo1, hi1, ms1, h2, lo2, hi2, ms2, rfl, hW, hW2, ok, ok2, by omega, fun v H' s' k => q v H' s' ?_⟩
          show OWdAt H' v (if _ then _ else _)
          rw [if_neg (by omega)]
          exact k
end
/-! ### words met, by the law -/
open WordM ShowM
section
variable {P : Program} {w : World} {K : PySem.W.Frag} {mg : Str → Option Value} {base : Heap}
def mkMetO (h1 : Str) (lo1 hi1 : Int) (ms1 : List Str) (h2 : Str) (lo2 hi2 : Int) (ms2 : List Str) : Option Wd := if h1.length < h2.length then mkMet h2 lo2 hi2 ms2 h1 lo1 hi1 ms1 else mkMet h1 lo1 hi1 ms1 h2 lo2 hi2 ms2
theorem sc_lmakes : FnScope ["_law_one", "_law_other", "_law_more", "_law_between", "_law_least", "_law_most", "_law_marks"] ["_law_one", "_law_other"] (defScope s_law_makes_met) := ⟨rfl, rfl, rfl, by decide +kernel, rfl, by decide +kernel, by decide +kernel⟩
theorem g_lmakes0 (h : Has K mg "_law_makes_met" s_law_makes_met) : Good P w K mg base 2 "_law_makes_met" ["_law_one", "_law_other"] (spMakes (fun _ _ => False) mkMetO) := by
  refine h.good sc_lmakes (fun _ _ _ _ _ _ us hl => match us, hl with | [_, _], _ => rfl) (fun vs H Q E q => ?_) (fun f cdv A outer s H vs Q E hr q => ?_)
  · obtain ⟨a, b, h1, lo1, hi1, ms1, h2, lo2, hi2, ms2, rfl, _⟩ := q
    rfl
  · obtain ⟨a, b, h1, lo1, hi1, ms1, h2, lo2, hi2, ms2, _, _, _, _, _, f, _⟩ := q
    exact f.elim
theorem eqO_nil (ns : List Str) : eqO (some (ns.map V.str)) (some []) = ns.isEmpty := by cases ns <;> rfl
theorem g_lmakes {k : Nat} {C C' : Nat → Nat → Prop} (h : Has K mg "_law_makes_met" s_law_makes_met) (B : Own mg) (G_law_mark : Good P w K mg base 1 "_law_mark" ["_law_sign"] spMark) (G_law_makes_met : Good P w K mg base (k + 2) "_law_makes_met" ["_law_one", "_law_other"] (spMakes C' mkMetO)) (hC : ∀ n m, C n m → n < m → C' m n) :
    Good P w K mg base (k + 3) "_law_makes_met" ["_law_one", "_law_other"] (spMakes C mkMetO) := by
  refine h.good sc_lmakes (fun _ _ _ _ _ _ us hl => match us, hl with | [_, _], _ => rfl) (fun vs H Q E q => ?_) (fun f cdv A outer s H vs Q E hr q => ?_)
  · obtain ⟨a, b, h1, lo1, hi1, ms1, h2, lo2, hi2, ms2, rfl, _⟩ := q
    rfl
  · obtain ⟨a, b, h1, lo1, hi1, ms1, h2, lo2, hi2, ms2, rfl, hW, hW2, ok, ok2, hle, q⟩ := q
    have nd := sc_lmakes.nd
    have hu := Nat.lt_of_succ_lt (hu_of hr)
    refine ⟨_, (pss_cons (ps_if (pt_cmpR op_gt (pe_callB call_len_str rfl B.len PySem.boot_len (pa_c (pe_ix ix_tup (pv 1) pe_int (fun _ _ => rfl)) pa_nil)) (pe_callB call_len_str rfl B.len PySem.boot_len (pa_c (pe_ix ix_tup (pv 0) pe_int (fun _ _ => rfl)) pa_nil)) (nomark _))
        (pss_one (ps_ret (pe_fn G_law_makes_met (hr.mono (by first | decide | omega)) rfl (pa_c (pv 1) (pa_c (pv 0) pa_nil)))))
        pss_nil)
      (pss_cons (ps_set (i := 2) nd rfl (by first | exact Or.inl rfl | exact Or.inr rfl) (pe_op op_sub (pe_callB call_len_str rfl B.len PySem.boot_len (pa_c (pe_ix ix_tup (pv 0) pe_int (fun _ _ => rfl)) pa_nil)) (pe_callB call_len_str rfl B.len PySem.boot_len (pa_c (pe_ix ix_tup (pv 1) pe_int (fun _ _ => rfl)) pa_nil))))
      (pss_cons (ps_set (i := 3) nd rfl (by first | exact Or.inl rfl | exact Or.inr rfl) (pe_slice sl_str (pe_ix ix_tup (pv 0) pe_int (fun _ _ => rfl)) (po_some (pe_callB call_len_str rfl B.len PySem.boot_len (pa_c (pe_ix ix_tup (pv 1) pe_int (fun _ _ => rfl)) pa_nil))) po_none))
      (pss_cons (ps_if (PW.pt (pw_or (pt_not (pt_val (pe_bm PySem.F.plainAttrs_str PySem.F.slot_str_startswith PySem.F.type_str_startswith mt_startswith (pe_ix ix_tup (pv 0) pe_int (fun _ _ => rfl)) (pa_c (pe_ix ix_tup (pv 1) pe_int (fun _ _ => rfl)) pa_nil)))) (pw_or1 (pt_cmpR (op_neL hu) (pe_comp (sc := defScope s_law_makes_met) (XN := ["_law_one", "_law_other", "_law_more", "_law_between", "_law_least", "_law_most", "_law_marks"]) (N := ["_law_sign", "_law_other"]) (own := 1) (fr := [1]) rfl ⟨rfl, by decide +kernel, by decide +kernel, by decide +kernel, rfl, by decide +kernel, by decide, by decide +kernel⟩ (pi_str (pv 3)) (fun _ _ _ _ _ => (pg_name (i := 0) (show (["_law_sign", "_law_other"] : List Str).Nodup by decide +kernel) rfl (by first | exact Or.inl rfl | exact Or.inr rfl))) (fun _ _ _ _ _ => pf_one (pt_cmpR (r := rIn K true) op_notIn_seq (pe_fn G_law_mark (hr.mono (by first | decide | omega)) rfl (pa_c (pv 0) pa_nil)) (pe_ix (r := rIxT K) ix_tup (pv 1) pe_int (fun _ _ => rfl)) rfl)) (fun _ _ _ _ _ => (pv 0))) (@pe_lstQ _ _ _ _ qa_nil) (nomark _)))))
        (pss_one (ps_ret pe_non))
        pss_nil)
      (pss_cons (ps_set (i := 4) nd rfl (by first | exact Or.inl rfl | exact Or.inr rfl) (pe_callB (call_max2 rfl) rfl B.max boot_max (pa_c (pe_ix ix_tup (pv 0) pe_int (fun _ _ => rfl)) (pa_c (pe_op op_sub (pe_ix ix_tup (pv 1) pe_int (fun _ _ => rfl)) (pv 2)) pa_nil))))
      (pss_cons (ps_set (i := 5) nd rfl (by first | exact Or.inl rfl | exact Or.inr rfl) (pe_callB (call_min2 rfl) rfl B.min boot_min (pa_c (pe_ix ix_tup (pv 0) pe_int (fun _ _ => rfl)) (pa_c (pe_op op_sub (pe_ix ix_tup (pv 1) pe_int (fun _ _ => rfl)) (pv 2)) pa_nil))))
      (pss_cons (ps_set (i := 6) nd rfl (by first | exact Or.inl rfl | exact Or.inr rfl) (pe_callTy call_tuple_of rfl B.tuple_ boot_tuple (pa_c (pe_comp (sc := defScope s_law_makes_met) (XN := ["_law_one", "_law_other", "_law_more", "_law_between", "_law_least", "_law_most", "_law_marks"]) (N := ["_law_mark_here", "_law_other"]) (own := 1) (fr := [1]) rfl ⟨rfl, by decide +kernel, by decide +kernel, by decide +kernel, rfl, by decide +kernel, by decide, by decide +kernel⟩ (pi_tup (pe_ix ix_tup (pv 0) pe_int (fun _ _ => rfl))) (fun _ _ _ _ _ => (pg_name (i := 0) (show (["_law_mark_here", "_law_other"] : List Str).Nodup by decide +kernel) rfl (by first | exact Or.inl rfl | exact Or.inr rfl))) (fun _ _ _ _ _ => pf_one (pt_cmpR (r := rIn K false) op_in_seq (pv 0) (pe_ix (r := rIxT K) ix_tup (pv 1) pe_int (fun _ _ => rfl)) rfl)) (fun _ _ _ _ _ => (pv 0))) pa_nil)))
      (pss_cons (ps_if (PW.pt (pw_and (pt_cmpR op_eq (pv 4) pe_int (nomark _)) (pw_and (pt_cmpR op_ge (pv 5) pe_int (nomark _)) (pw_and1 (PW.pt (pw_or (pt_cmpR op_eq (pv 5) pe_int (nomark _)) (pw_or1 (pt_cmpR (op_eqO hu) (pv 6) (@pe_tupQ _ _ _ _ _ qa_nil) (nomark _)))))))))
        (pss_one (ps_ret (@pe_tupQ _ _ _ _ _ (@qa_c _ _ _ _ _ pe_str (@qa_c _ _ _ _ _ (@pe_tupQ _ _ _ _ _ (@qa_c _ _ _ _ _ (pe_ix ix_tup (pv 0) pe_int (fun _ _ => rfl)) qa_nil rfl)) qa_nil rfl) rfl))))
        pss_nil)
      (pss_cons (ps_if (PW.pt (pw_or (pt_cmpR op_gt (pv 4) (pv 5) (nomark _)) (pw_or1 (pt_cmpR (op_eqO hu) (pv 6) (@pe_tupQ _ _ _ _ _ qa_nil) (nomark _)))))
        (pss_one (ps_ret pe_non))
        pss_nil)
      (pss_one (ps_ret (@pe_tupQ _ _ _ _ _ (@qa_c _ _ _ _ _ pe_str (@qa_c _ _ _ _ _ (pe_ix ix_tup (pv 0) pe_int (fun _ _ => rfl)) (@qa_c _ _ _ _ _ (pv 4) (@qa_c _ _ _ _ _ (pv 5) (@qa_c _ _ _ _ _ (pv 6) qa_nil rfl) rfl) rfl) rfl) rfl))))))))))))), ?_⟩
    have z1 : h1.length ≤ sizeLine := Nat.le_of_lt (small1000 (Nat.le_trans ok.2.1 (by decide)))
    have z2 : h2.length ≤ sizeLine := Nat.le_of_lt (small1000 (Nat.le_trans ok2.2.1 (by decide)))
    obtain ⟨t, ha, ht⟩ := id hW
    obtain ⟨u, hb, hu'⟩ := id hW2
    refine ⟨_, rfl, b, _, _, _, rfl, rfl, SqT.of hb, rfl, h2, rfl, z2, _, rfl, a, _, _, _, rfl, rfl, SqT.of ha, rfl, h1, rfl, z1, _, _, rfl, rfl, _, rfl, ?_⟩
    refine ite2 (fun h5 => ?_) (fun h5 => ?_)
    · have h5 : ((h1.length : Nat) : Int) < (h2.length : Int) := of_decide_eq_true h5
      refine ⟨_, rfl, _, rfl, b, a, h2, lo2, hi2, ms2, h1, lo1, hi1, ms1, rfl, hW2, hW, ok2, ok, hC _ _ hle (by omega), fun v H' s' k => q v H' s' ?_⟩
      unfold mkMetO at k ⊢
      rw [if_neg (by omega)] at k
      rw [if_pos (by omega)]
      exact k
    have h5 : ¬ ((h1.length : Nat) : Int) < (h2.length : Int) := fun z => h5 (decide_eq_true z)
    have hle : h2.length ≤ h1.length := by omega
    have eM : mkMetO h1 lo1 hi1 ms1 h2 lo2 hi2 ms2 = mkMet h1 lo1 hi1 ms1 h2 lo2 hi2 ms2 := by unfold mkMetO; rw [if_neg (by omega)]
    have q' : ∀ (v : V) (H' : Hp) (o : Option Wd), Same H H' → OWdAt H' v o → mkMet h1 lo1 hi1 ms1 h2 lo2 hi2 ms2 = o → Q v H' := fun v H' o s k e => q v H' s (by rw [eM, e]; exact k)
    obtain ⟨sh1, l1, lo10, lohi1, hi11, hi16, b1, b11, b12, rfl⟩ := ok
    obtain ⟨sh2, l2, lo20, lohi2, hi21, hi26, b2, b21, b22, rfl⟩ := ok2
    have hm4 : (bitsM b1).length ≤ 4 := by rw [bits_sub b11 b12]; exact List.length_filter_le _ _
    have hrl : (restW h1 h2).length ≤ 1000 := Nat.le_trans (WordM.slice_len ..) (by omega)
    refine ⟨_, rfl, a, _, _, _, rfl, rfl, SqT.of ha, rfl, h1, rfl, z1, _, rfl, b, _, _, _, rfl, rfl, SqT.of hb, rfl, h2, rfl, z2, _, _, rfl, rfl, ?_⟩
    refine ⟨_, rfl, a, _, _, _, rfl, rfl, SqT.of ha, rfl, _, rfl, b, _, _, _, rfl, rfl, SqT.of hb, rfl, h2, rfl, z2, _, rfl, h1, rfl, z1, ?_⟩
    refine ⟨_, rfl, a, _, _, _, rfl, rfl, SqT.of ha, rfl, rfl, _, rfl, b, _, _, _, rfl, rfl, SqT.of hb, rfl, h1, h2, rfl, rfl, _, rfl, ?_⟩
    show if (!stW h1 h2) = true then _ else _
    refine ite2 (fun h6 => ?_) (fun h6 => ?_)
    · have h6 : stW h1 h2 = false := by simpa using h6
      refine q' _ _ none (Same.refl H) rfl ?_
      unfold mkMet
      rw [h6]
      rfl
    have h6 : stW h1 h2 = true := by simpa using h6
    refine ⟨_, rfl, restW h1 h2, rfl, fun c nc => ?_⟩
    have hbc : ∀ o, upd H c o b = some (.tup [.str "make", .str h2, .int lo2, .int hi2, .ref u]) := fun o => same_new nc _ _ hb
    have huc : ∀ o, upd H c o u = some (.tup ((bitsM b2).map V.str)) := fun o => same_new nc _ _ hu'
    refine comp_str (x := restW h1 h2) (fun i ys H' => H' = upd H c (.lst ys) ∧ ys = (((cs (restW h1 h2)).take i).filter fun c => !decide (markC c ∈ bitsM b2)).map fun c => V.str ⟨#[c]⟩) ⟨rfl, rfl⟩ ?_ ?_
    · rintro i cc ys H' hc _ ⟨rfl, rfl⟩
      have hc' : (cs (restW h1 h2))[i]? = some cc := by rw [← hc]; simp
      have hts := take_stepF (fun c => !decide (markC c ∈ bitsM b2)) hc'
      refine ⟨⟨[_], rfl, rfl⟩, _, rfl, cc, rfl, _, rfl, b, _, _, _, rfl, rfl, SqT.of (hbc _), rfl, u, _, rfl, .inr (SqT.of (huc _)), rfl, flat_strs _, _, rfl, ?_⟩
      rw [show (if true = true then !inV (V.str (markC cc)) ((bitsM b2).map V.str) else inV (V.str (markC cc)) ((bitsM b2).map V.str)) = !decide (markC cc ∈ bitsM b2) from by rw [if_pos rfl, inV_str]]
      refine ite2 (fun h4 => ?_) (fun h4 => ?_)
      · refine ⟨_, rfl, upd_same, ?_, upd_upd, ?_⟩
        · rw [List.length_map]
          refine Nat.lt_of_le_of_lt (List.length_filter_le _ _) (Nat.lt_of_le_of_lt (List.length_take_le' _ _) ?_)
          rw [← WordM.len]
          exact small1000 hrl
        · rw [hts, if_pos h4, List.map_append]
          rfl
      · refine ⟨upd_same, rfl, ?_⟩
        rw [hts, if_neg h4, List.append_nil]
    · rintro ys H2 hc ⟨rfl, rfl⟩
      rw [List.take_of_length_le (by simp)] at hc ⊢
      have hl : ((cs (restW h1 h2)).filter fun c => !decide (markC c ∈ bitsM b2)).map (fun c => V.str ⟨#[c]⟩) = (((cs (restW h1 h2)).filter fun c => !decide (markC c ∈ bitsM b2)).map fun c => (⟨#[c]⟩ : Str)).map V.str := by rw [List.map_map]; rfl
      have hemp : (((cs (restW h1 h2)).filter fun c => !decide (markC c ∈ bitsM b2)).map fun c => (⟨#[c]⟩ : Str)).isEmpty = (cs (restW h1 h2)).all fun c => decide (markC c ∈ bitsM b2) := by
        rw [← filter_not]
        cases (cs (restW h1 h2)).filter fun c => !decide (markC c ∈ bitsM b2) <;> rfl
      rw [hl] at hc ⊢
      generalize (((cs (restW h1 h2)).filter fun c => !decide (markC c ∈ bitsM b2)).map fun c => (⟨#[c]⟩ : Str)) = strange at hc hemp
      have s1 : Same H (upd H c (.lst (strange.map V.str))) := same_new nc
      refine ⟨Nat.zero_le _, fun e ne => ?_⟩
      have s2 := s1.alloc (o := .lst []) ne
      refine ⟨c, e, _, [], rfl, rfl, SqL.of (same_new ne _ _ hc), SqL.of (at_new ne), flat_strs _, rfl, _, rfl, ?_⟩
      rw [show (if true = true then !eqVs (strange.map V.str) [] else eqVs (strange.map V.str) []) = !strange.isEmpty from by rw [if_pos rfl, eqVs_nilS], hemp]
      generalize upd (upd H c (.lst (strange.map V.str))) e (.lst []) = H3 at s2
      refine ite2 (fun h7 => ?_) (fun h7 => ?_)
      · have h7 : ((cs (restW h1 h2)).all fun c => decide (markC c ∈ bitsM b2)) = false := by simpa using h7
        refine q' _ _ none s2 rfl ?_
        unfold mkMet
        rw [h7, Bool.and_false]
        rfl
      have h7 : ((cs (restW h1 h2)).all fun c => decide (markC c ∈ bitsM b2)) = true := by simpa using h7
      have ha2 := s2 _ _ ha
      have ht2 := s2 _ _ ht
      have hb2 := s2 _ _ hb
      have hu2 := s2 _ _ hu'
      have emet : mkMet h1 lo1 hi1 (bitsM b1) h2 lo2 hi2 (bitsM b2) = (if (if lo2 - ((h1.length : Int) - (h2.length : Int)) > lo1 then lo2 - ((h1.length : Int) - (h2.length : Int)) else lo1) = 0 ∧ 0 ≤ (if hi2 - ((h1.length : Int) - (h2.length : Int)) < hi1 then hi2 - ((h1.length : Int) - (h2.length : Int)) else hi1) ∧ ((if hi2 - ((h1.length : Int) - (h2.length : Int)) < hi1 then hi2 - ((h1.length : Int) - (h2.length : Int)) else hi1) = 0 ∨ ((bitsM b1).filter fun m => decide (m ∈ bitsM b2)) = []) then some (.few [h1])
          else if (if hi2 - ((h1.length : Int) - (h2.length : Int)) < hi1 then hi2 - ((h1.length : Int) - (h2.length : Int)) else hi1) < (if lo2 - ((h1.length : Int) - (h2.length : Int)) > lo1 then lo2 - ((h1.length : Int) - (h2.length : Int)) else lo1) ∨ ((bitsM b1).filter fun m => decide (m ∈ bitsM b2)) = [] then none
          else some (.make h1 (if lo2 - ((h1.length : Int) - (h2.length : Int)) > lo1 then lo2 - ((h1.length : Int) - (h2.length : Int)) else lo1) (if hi2 - ((h1.length : Int) - (h2.length : Int)) < hi1 then hi2 - ((h1.length : Int) - (h2.length : Int)) else hi1) ((bitsM b1).filter fun m => decide (m ∈ bitsM b2)))) := by
        unfold mkMet
        rw [h6, h7]
        rfl
      refine ⟨_, rfl, a, _, _, _, rfl, rfl, SqT.of ha2, rfl, _, rfl, b, _, _, _, rfl, rfl, SqT.of hb2, rfl, _, rfl, _, _, rfl, rfl, _, _, rfl, ?_⟩
      refine ⟨_, rfl, a, _, _, _, rfl, rfl, SqT.of ha2, rfl, _, rfl, b, _, _, _, rfl, rfl, SqT.of hb2, rfl, _, rfl, _, _, rfl, rfl, _, _, rfl, ?_⟩
      generalize (if lo2 - ((h1.length : Int) - (h2.length : Int)) > lo1 then lo2 - ((h1.length : Int) - (h2.length : Int)) else lo1) = least at emet
      generalize (if hi2 - ((h1.length : Int) - (h2.length : Int)) < hi1 then hi2 - ((h1.length : Int) - (h2.length : Int)) else hi1) = most at emet
      refine ⟨_, rfl, a, _, _, _, rfl, rfl, SqT.of ha2, rfl, t, rfl, ⟨_, SqT.of ht2⟩, fun e2 ne2 => ?_⟩
      refine comp_tup (K := K) (xs := (bitsM b1).map V.str) (fun i ys H' => Same H3 H' ∧ ys = (((bitsM b1).take i).filter fun m => decide (m ∈ bitsM b2)).map V.str) ⟨same_new ne2, rfl⟩ (fun i ys H' _ _ p => SqT.of (p.1 _ _ ht2)) ?_ ?_
      · rintro i v ys H' hv hc ⟨s3, rfl⟩
        rw [List.getElem?_map] at hv
        cases hi' : (bitsM b1)[i]? with
        | none => rw [hi'] at hv; cases hv
        | some m =>
          rw [hi'] at hv
          have hv : V.str m = v := Option.some.inj hv
          subst hv
          have hts := take_stepF (fun m => decide (m ∈ bitsM b2)) hi'
          refine ⟨⟨[_], rfl, rfl⟩, _, rfl, _, rfl, b, _, _, _, rfl, rfl, SqT.of (s3 _ _ hb2), rfl, u, _, rfl, .inr (SqT.of (s3 _ _ hu2)), rfl, flat_strs _, _, rfl, ?_⟩
          rw [show (if false = true then !inV (V.str m) ((bitsM b2).map V.str) else inV (V.str m) ((bitsM b2).map V.str)) = decide (m ∈ bitsM b2) from inV_str]
          refine ite2 (fun h4 => ?_) (fun h4 => ?_)
          · refine ⟨_, rfl, hc, ?_, ?_, ?_⟩
            · rw [List.length_map]
              exact Nat.lt_of_le_of_lt (List.length_filter_le _ _) (Nat.lt_of_le_of_lt (List.length_take_le' _ _) (small1000 (by omega)))
            · intro b' o e
              rw [upd_ne (ne_of_none e ne2)]
              exact s3 b' o e
            · rw [hts, if_pos h4, List.map_append]
              rfl
          · refine ⟨hc, s3, ?_⟩
            rw [hts, if_neg h4, List.append_nil]
      · rintro ys H4 he ⟨s3, rfl⟩
        rw [List.length_map, List.take_length] at he
        refine ⟨e2, _, rfl, .inl ⟨SqL.of he, fun tk nk => ?_⟩⟩
        have s4 := (s2.trans s3).alloc (o := .tup (((bitsM b1).filter fun m => decide (m ∈ bitsM b2)).map V.str)) nk
        have hk := at_new (o := .tup (((bitsM b1).filter fun m => decide (m ∈ bitsM b2)).map V.str)) nk
        generalize upd H4 tk (.tup (((bitsM b1).filter fun m => decide (m ∈ bitsM b2)).map V.str)) = H5 at s4 hk
        generalize ((bitsM b1).filter fun m => decide (m ∈ bitsM b2)) = marks at emet hk
        have eqt : ∀ (H' : Hp) (e' : Addr), H' tk = some (.tup (marks.map V.str)) → H' e' = some (.tup []) → ∃ o o', OV K H' (.ref tk) o ∧ OV K H' (.ref e') o' ∧ eqO o o' = marks.isEmpty := fun H' e' k1 k2 =>
          ⟨some (marks.map V.str), some [], .inr ⟨tk, _, rfl, SqT.of k1, flat_strs _, rfl⟩, .inr ⟨e', _, rfl, SqT.of k2, rfl, rfl⟩, eqO_nil marks⟩
        refine' share (J := fun H' => Same H5 H' ∧ ¬ (least = 0 ∧ 0 ≤ most ∧ (most = 0 ∨ marks = []))) _ (fun rest => ?main) ?rest
        case main =>
          have hfew : least = 0 ∧ 0 ≤ most ∧ (most = 0 ∨ marks = []) → mkMet h1 lo1 hi1 (bitsM b1) h2 lo2 hi2 (bitsM b2) = some (.few [h1]) := fun z => by rw [emet, if_pos z]
          refine ⟨_, rfl, rfl, _, rfl, ?_⟩
          rw [dIw]
          refine ite2 (fun c1 => ?_) (fun c1 => ?_)
          · have c1 : least = 0 := of_decide_eq_true c1
            refine ⟨_, rfl, _, _, rfl, rfl, _, rfl, ?_⟩
            refine ite2 (fun c2 => ?_) (fun c2 => ?_)
            · have c2 : 0 ≤ most := of_decide_eq_true c2
              refine ⟨_, rfl, rfl, _, rfl, ?_⟩
              rw [dIw]
              refine ite2 (fun c3 => ?_) (fun c3 => ?_)
              · have c3 : most = 0 := of_decide_eq_true c3
                have ha5 := s4 _ _ ha
                exact ⟨_, rfl, a, _, _, _, rfl, rfl, SqT.of ha5, rfl, by show 1 ≤ sizeLine; decide, fun t9 n9 => ⟨by show 2 ≤ sizeLine; decide, fun t10 n10 => q' _ _ (some (.few [h1])) ((s4.alloc n9).alloc n10) ⟨t10, rfl, few_at (ss := [h1]) n9 n10⟩ (hfew ⟨c1, c2, .inl c3⟩)⟩⟩
              · have c3 : most ≠ 0 := fun z => c3 (decide_eq_true z)
                refine ⟨_, rfl, by show 0 ≤ sizeLine; decide, fun e5 n5 => ?_⟩
                obtain ⟨o, o', v1, v2, v3⟩ := eqt _ e5 (same_new n5 _ _ hk) (at_new n5)
                refine ⟨o, o', v1, v2, _, rfl, ?_⟩
                rw [show (if false = true then !eqO o o' else eqO o o') = marks.isEmpty from v3]
                have s5 := s4.alloc (o := .tup []) n5
                have s55 : Same H5 (upd H5 e5 (.tup [])) := same_new n5
                generalize upd H5 e5 (.tup []) = H6 at s5 s55
                refine ite2 (fun c4 => ?_) (fun c4 => ?_)
                · have c4 : marks = [] := List.isEmpty_iff.mp c4
                  have ha5 := s5 _ _ ha
                  exact ⟨_, rfl, a, _, _, _, rfl, rfl, SqT.of ha5, rfl, by show 1 ≤ sizeLine; decide, fun t9 n9 => ⟨by show 2 ≤ sizeLine; decide, fun t10 n10 => q' _ _ (some (.few [h1])) ((s5.alloc n9).alloc n10) ⟨t10, rfl, few_at (ss := [h1]) n9 n10⟩ (hfew ⟨c1, c2, .inr c4⟩)⟩⟩
                · exact rest _ ⟨s55, fun z => by rcases z.2.2 with y | y; exact c3 y; exact c4 (List.isEmpty_iff.mpr y)⟩
            · exact rest _ ⟨Same.refl _, fun z => c2 (decide_eq_true z.2.1)⟩
          · exact rest _ ⟨Same.refl _, fun z => c1 (decide_eq_true z.1)⟩
        case rest =>
          rintro H6 ⟨s56, hn⟩
          have s6 := s4.trans s56
          have hk6 := s56 _ _ hk
          have ha6 := s6 _ _ ha
          refine ⟨_, rfl, _, rfl, _, _, rfl, rfl, _, rfl, ?_⟩
          refine ite2 (fun c1 => ?_) (fun c1 => ?_)
          · have c1 : most < least := of_decide_eq_true c1
            exact q' _ _ none s6 rfl (by rw [emet, if_neg hn, if_pos (.inl c1)])
          · have c1 : ¬ most < least := fun z => c1 (decide_eq_true z)
            refine ⟨_, rfl, by show 0 ≤ sizeLine; decide, fun e5 n5 => ?_⟩
            obtain ⟨o, o', v1, v2, v3⟩ := eqt _ e5 (same_new n5 _ _ hk6) (at_new n5)
            refine ⟨o, o', v1, v2, _, rfl, ?_⟩
            rw [show (if false = true then !eqO o o' else eqO o o') = marks.isEmpty from v3]
            have s7 := s6.alloc (o := .tup []) n5
            have hk7 := same_new (o := .tup []) n5 _ _ hk6
            generalize upd H6 e5 (.tup []) = H7 at s7 hk7
            refine ite2 (fun c4 => ?_) (fun c4 => ?_)
            · exact q' _ _ none s7 rfl (by rw [emet, if_neg hn, if_pos (.inr (List.isEmpty_iff.mp c4))])
            · have ha7 := s7 _ _ ha
              exact ⟨_, rfl, a, _, _, _, rfl, rfl, SqT.of ha7, rfl, _, rfl, _, rfl, _, rfl, by show 5 ≤ sizeLine; decide, fun t10 n10 => q' _ _ (some (.make h1 least most marks)) (s7.alloc n10) ⟨t10, rfl, tk, at_new n10, same_new n10 _ _ hk7⟩ (by
                rw [emet, if_neg hn, if_neg (fun z => by rcases z with y | y; exact c1 y; exact c4 (List.isEmpty_iff.mpr y))])⟩
theorem sc_lmet : FnScope ["_law_one", "_law_other", "_law_some"] ["_law_one", "_law_other"] (defScope s_law_met) := ⟨rfl, rfl, rfl, by decide +kernel, rfl, by decide +kernel, by decide +kernel⟩
theorem g_lmet0 (h : Has K mg "_law_met" s_law_met) : Good P w K mg base 5 "_law_met" ["_law_one", "_law_other"] (spMet fun _ _ => False) := by
  refine h.good sc_lmet (fun _ _ _ _ _ _ us hl => match us, hl with | [_, _], _ => rfl) (fun vs H Q E q => ?_) (fun f cdv A outer s H vs Q E hr q => ?_)
  · obtain ⟨a, b, W, W2, rfl, _⟩ := q
    rfl
  · obtain ⟨a, b, W, W2, _, _, _, _, _, f, _⟩ := q
    exact f.elim
def Wd.isFew : Wd → Prop
  | .few _ => True
  | .make .. => False
theorem g_lmet {k : Nat} {C C' : Wd → Wd → Prop} (h : Has K mg "_law_met" s_law_met) (B : Own mg) (G_law_words_let : Good P w K mg base 2 "_law_words_let" ["_law_words_here", "_law_text_here"] spLet) (G_law_makes_met : Good P w K mg base 4 "_law_makes_met" ["_law_one", "_law_other"] (spMakes (fun _ _ => True) mkMetO))
    (G_law_met : Good P w K mg base (k + 5) "_law_met" ["_law_one", "_law_other"] (spMet C')) (hC : ∀ W W2, C W W2 → ¬ W.isFew → W2.isFew → C' W2 W) : Good P w K mg base (k + 6) "_law_met" ["_law_one", "_law_other"] (spMet C) := by
  refine h.good sc_lmet (fun _ _ _ _ _ _ us hl => match us, hl with | [_, _], _ => rfl) (fun vs H Q E q => ?_) (fun f cdv A outer s H vs Q E hr q => ?_)
  · obtain ⟨a, b, W, W2, rfl, _⟩ := q
    rfl
  · obtain ⟨a, b, W, W2, rfl, hW, hW2, ok, ok2, hc, q⟩ := q
    have nd := sc_lmet.nd
    have hu := Nat.lt_of_succ_lt (hu_of hr)
    refine ⟨_, (pss_cons (ps_if (PW.pt (pw_and (pt_cmpR op_eq (pe_ix ix_tup (pv 0) pe_int (fun _ _ => rfl)) pe_str (nomark _)) (pw_and1 (pt_cmpR op_eq (pe_ix ix_tup (pv 1) pe_int (fun _ _ => rfl)) pe_str (nomark _)))))
        (pss_one (ps_ret (pe_fn G_law_makes_met (hr.mono (by first | decide | omega)) rfl (pa_c (pv 0) (pa_c (pv 1) pa_nil)))))
        pss_nil)
      (pss_cons (ps_if (pt_cmpR op_eq (pe_ix ix_tup (pv 0) pe_int (fun _ _ => rfl)) pe_str (nomark _))
        (pss_one (ps_ret (pe_fn G_law_met (hr.mono (by first | decide | omega)) rfl (pa_c (pv 1) (pa_c (pv 0) pa_nil)))))
        pss_nil)
      (pss_cons (ps_set (i := 2) nd rfl (by first | exact Or.inl rfl | exact Or.inr rfl) (pe_callTy call_tuple_of rfl B.tuple_ boot_tuple (pa_c (pe_comp (sc := defScope s_law_met) (XN := ["_law_one", "_law_other", "_law_some"]) (N := ["_law_text_here", "_law_other"]) (own := 1) (fr := [1]) rfl ⟨rfl, by decide +kernel, by decide +kernel, by decide +kernel, rfl, by decide +kernel, by decide, by decide +kernel⟩ (pi_tup (pe_ix ix_tup (pv 0) pe_int (fun _ _ => rfl))) (fun _ _ _ _ _ => (pg_name (i := 0) (show (["_law_text_here", "_law_other"] : List Str).Nodup by decide +kernel) rfl (by first | exact Or.inl rfl | exact Or.inr rfl))) (fun _ _ _ _ _ => pf_one (pt_val (pe_fn G_law_words_let (hr.mono (by first | decide | omega)) rfl (pa_c (pv 1) (pa_c (pv 0) pa_nil))))) (fun _ _ _ _ _ => (pv 0))) pa_nil)))
      (pss_cons (ps_if (pt_cmpR (op_eqO hu) (pv 2) (@pe_tupQ _ _ _ _ _ qa_nil) (nomark _))
        (pss_one (ps_ret pe_non))
        pss_nil)
      (pss_one (ps_ret (@pe_tupQ _ _ _ _ _ (@qa_c _ _ _ _ _ pe_str (@qa_c _ _ _ _ _ (pv 2) qa_nil rfl) rfl)))))))), ?_⟩
    cases W with
    | few ss =>
      obtain ⟨t, ha, ht⟩ := id hW
      have h6 : ss.length ≤ 6 := ok.2.1
      refine ⟨_, rfl, a, _, _, _, rfl, rfl, SqT.of ha, rfl, rfl, _, rfl, ?_⟩
      refine ite2 (fun h => absurd (of_decide_eq_true h) (by intro z; exact absurd (V.str.inj z) (by decide +kernel))) (fun _ => ?_)
      refine ⟨_, rfl, a, _, _, _, rfl, rfl, SqT.of ha, rfl, rfl, _, rfl, ?_⟩
      refine ite2 (fun h => absurd (of_decide_eq_true h) (by intro z; exact absurd (V.str.inj z) (by decide +kernel))) (fun _ => ?_)
      refine ⟨_, rfl, a, _, _, _, rfl, rfl, SqT.of ha, rfl, t, rfl, ⟨_, SqT.of ht⟩, fun c nc => ?_⟩
      refine comp_tup (K := K) (xs := ss.map V.str) (fun i ys H' => Same H H' ∧ ys = ((ss.take i).filter fun t => letW W2 t).map V.str) ⟨same_new nc, rfl⟩ (fun i ys H' _ _ p => SqT.of (p.1 _ _ ht)) ?_ ?_
      · rintro i v ys H' hv hc ⟨s2, rfl⟩
        rw [List.getElem?_map] at hv
        cases hi' : ss[i]? with
        | none => rw [hi'] at hv; cases hv
        | some x =>
          rw [hi'] at hv
          have hv : V.str x = v := Option.some.inj hv
          subst hv
          obtain ⟨x2, x3⟩ := ok.2.2.2.2 x (List.mem_of_getElem? hi')
          have hts := take_stepF (fun t => letW W2 t) hi'
          refine ⟨⟨[_], rfl, rfl⟩, _, rfl, _, rfl, b, W2, x, rfl, hW2.same s2, ok2.hd, x2, by omega, fun H3 s3 => ⟨_, rfl, ?_⟩⟩
          refine ite2 (fun h4 => ?_) (fun h4 => ?_)
          · refine ⟨_, rfl, s3 _ _ hc, ?_, ?_, ?_⟩
            · rw [List.length_map]
              exact Nat.lt_of_le_of_lt (List.length_filter_le _ _) (Nat.lt_of_le_of_lt (List.length_take_le' _ _) (small1000 (by omega)))
            · intro b' o e
              rw [upd_ne (ne_of_none e nc)]
              exact s3 b' o (s2 b' o e)
            · rw [hts, if_pos h4, List.map_append]
              rfl
          · refine ⟨s3 _ _ hc, s2.trans s3, ?_⟩
            rw [hts, if_neg h4, List.append_nil]
      · rintro ys H2 hc ⟨s2, rfl⟩
        rw [List.length_map, List.take_length] at hc
        refine ⟨c, _, rfl, .inl ⟨SqL.of hc, fun t3 n3 => ?_⟩⟩
        have s3 := s2.alloc (o := .tup ((ss.filter fun t => letW W2 t).map V.str)) n3
        have hk := at_new (o := .tup ((ss.filter fun t => letW W2 t).map V.str)) n3
        refine ⟨_, rfl, by show 0 ≤ sizeLine; decide, fun e5 n5 => ?_⟩
        refine ⟨some ((ss.filter fun t => letW W2 t).map V.str), some [], .inr ⟨t3, _, rfl, SqT.of (same_new n5 _ _ hk), flat_strs _, rfl⟩, .inr ⟨e5, _, rfl, SqT.of (at_new n5), rfl, rfl⟩, _, rfl, ?_⟩
        rw [show (if false = true then !eqO (some ((ss.filter fun t => letW W2 t).map V.str)) (some []) else eqO (some ((ss.filter fun t => letW W2 t).map V.str)) (some [])) = (ss.filter fun t => letW W2 t).isEmpty from eqO_nil _]
        have s5 := s3.alloc (o := .tup []) n5
        have hk5 := same_new (o := .tup []) n5 _ _ hk
        refine ite2 (fun h4 => ?_) (fun h4 => ?_)
        · refine q _ _ s5 ?_
          show OWdAt _ _ (fewO _)
          rw [fewO, if_pos (List.isEmpty_iff.mp h4)]
          rfl
        · refine ⟨_, rfl, by show 2 ≤ sizeLine; decide, fun a4 n4 => q _ _ (s5.alloc n4) ?_⟩
          show OWdAt _ _ (fewO _)
          rw [fewO, if_neg (fun z => h4 (List.isEmpty_iff.mpr z))]
          exact ⟨a4, rfl, t3, at_new n4, same_new n4 _ _ hk5⟩
    | make h1 lo1 hi1 ms1 =>
      obtain ⟨t, ha, ht⟩ := id hW
      refine ⟨_, rfl, a, _, _, _, rfl, rfl, SqT.of ha, rfl, rfl, _, rfl, ?_⟩
      refine ite2 (fun _ => ?_) (fun h => absurd (decide_eq_true rfl) h)
      cases W2 with
      | few ss =>
        obtain ⟨u, hb, hu'⟩ := id hW2
        refine ⟨_, rfl, b, _, _, _, rfl, rfl, SqT.of hb, rfl, rfl, _, rfl, ?_⟩
        refine ite2 (fun h => absurd (of_decide_eq_true h) (by intro z; exact absurd (V.str.inj z) (by decide +kernel))) (fun _ => ?_)
        refine ⟨_, rfl, a, _, _, _, rfl, rfl, SqT.of ha, rfl, rfl, _, rfl, ?_⟩
        refine ite2 (fun _ => ?_) (fun h => absurd (decide_eq_true rfl) h)
        exact ⟨_, rfl, _, rfl, b, a, _, _, rfl, hW2, hW, ok2, ok, hC _ _ hc (fun z => z) trivial, fun v H' s' k => q v H' s' (by rw [metO_comm ok ok2]; exact k)⟩
      | make h2 lo2 hi2 ms2 =>
        obtain ⟨u, hb, hu'⟩ := id hW2
        refine ⟨_, rfl, b, _, _, _, rfl, rfl, SqT.of hb, rfl, rfl, _, rfl, ?_⟩
        refine ite2 (fun _ => ?_) (fun h => absurd (decide_eq_true rfl) h)
        exact ⟨_, rfl, _, rfl, a, b, h1, lo1, hi1, ms1, h2, lo2, hi2, ms2, rfl, hW, hW2, ok, ok2, trivial, fun v H' s' k => q v H' s' k⟩
end
/-! ### repr of words -/
open WordM ShowM
def rpOf (t : Addr) : Wd → List Rp
  | .few ss => [.lf (.str "few"), .tup t (ss.map Lf.str)]
  | .make hd lo hi ms => [.lf (.str "make"), .lf (.str hd), .lf (.int lo), .lf (.int hi), .tup t (ms.map Lf.str)]
def reprO : Option Wd → Str
  | none => "None"
  | some W => tupleText ((rpOf 0 W).map Rp.t)
theorem rp_t (t : Addr) : ∀ W : Wd, (rpOf t W).map Rp.t = (rpOf 0 W).map Rp.t
  | .few _ => rfl
  | .make .. => rfl
/-- words that are not too great to be written -/
def WdR : Wd → Prop
  | .few ss => ss.length ≤ 100 ∧ ∀ s ∈ ss, Sg s ∧ s.length ≤ 200
  | .make hd lo hi ms => Sg hd ∧ hd.length ≤ 200 ∧ 0 ≤ lo ∧ lo ≤ 100 ∧ 0 ≤ hi ∧ hi ≤ 100 ∧ ms.length ≤ 100 ∧ ∀ m ∈ ms, m ∈ MK
def OWdR : Option Wd → Prop
  | none => True
  | some W => WdR W
theorem sg_small {x : Str} (h : Sg x) : ∀ c ∈ x.cps.toList, c < 16 ^ 8 := fun c hc => by
  have : ∀ c ∈ cs SIG, c < 16 ^ 8 := by decide +kernel
  exact this c (h c hc)
theorem repr_sg {x : Str} (h : Sg x) (hl : x.length ≤ 200) : (reprText x).length ≤ 2002 := Nat.le_trans (PySem.StrLaws.reprText_len x (sg_small h)) (by omega)
theorem mk_sg : ∀ m ∈ MK, Sg m ∧ m.length ≤ 200 := by decide +kernel
theorem lf_strs {ss : List Str} : (ss.map Lf.str).map Lf.v = ss.map V.str := by rw [List.map_map]; rfl
theorem log_small {i : Int} (h0 : 0 ≤ i) (h1 : i ≤ 100) : i.natAbs.log2 < 1920 := by
  have k : ∀ n ∈ List.range 101, (((n : Nat) : Int)).natAbs.log2 < 1920 := by decide +kernel
  have := k i.toNat (List.mem_range.mpr (by omega))
  rwa [Int.toNat_of_nonneg h0] at this
theorem int_small {i : Int} (h0 : 0 ≤ i) (h1 : i ≤ 100) : (Lf.int i).t.length ≤ 2002 := by
  have k : ∀ n ∈ List.range 101, (Str.ofString (toString (((n : Nat) : Int)))).length ≤ 2002 := by decide +kernel
  have := k i.toNat (List.mem_range.mpr (by omega))
  rwa [Int.toNat_of_nonneg h0] at this
theorem tup_small {ss : List Str} (hl : ss.length ≤ 100) (h : ∀ s ∈ ss, Sg s ∧ s.length ≤ 200) : (tupleText ((ss.map Lf.str).map Lf.t)).length ≤ 200404 := by
  refine Nat.le_trans (tupleText_le (B := 2002) fun t ht => ?_) ?_
  · rw [List.map_map] at ht
    obtain ⟨s, hs, rfl⟩ := List.mem_map.mp ht
    exact repr_sg (h s hs).1 (h s hs).2
  · rw [List.length_map, List.length_map]
    omega
theorem repr_wd {K : PySem.W.Frag} {H : Hp} {v : V} {Q : VK} {o : Option Wd} (h : OWdAt H v o) (r : OWdR o) (q : Q (.str (reprO o)) H) : rRepr K [v] H Q := by
 cases o with
 | none =>
  have e : v = .non := h
  subst e
  exact .inl ⟨.non, rfl, trivial, q⟩
 | some W => cases W with
  | few ss =>
    obtain ⟨a, e, t, ha, ht⟩ := h
    obtain ⟨hl, hs⟩ := r
    subst e
    refine .inr ⟨a, rpOf t (.few ss), rfl, SqT.of ha, fun i hi => ?_, fun i hi => ?_, ?_, by rw [rp_t]; exact q⟩
    · rcases List.mem_cons.mp hi with z | z
      · subst z; exact (show (reprText "few").length ≤ 100000 by decide +kernel)
      · have : i = .tup t (ss.map Lf.str) := by simpa using z
        subst this
        refine ⟨by rw [lf_strs]; exact SqT.of ht, fun l hl' => ?_⟩
        obtain ⟨s, hs', rfl⟩ := List.mem_map.mp hl'
        exact Nat.le_trans (repr_sg (hs s hs').1 (hs s hs').2) (by decide)
    · rcases List.mem_cons.mp hi with z | z
      · subst z; simp [Rp.ad]
      · have : i = .tup t (ss.map Lf.str) := by simpa using z
        subst this
        intro y
        have y : a = t := by simpa [Rp.ad] using y
        rw [y] at ha
        rw [ha] at ht
        have k := HO.tup.inj (Option.some.inj ht)
        have k2 : (ss.map V.str)[1]? = some (V.ref t) := by rw [← k]; rfl
        rw [List.getElem?_map] at k2
        cases q2 : ss[1]? with
        | none => rw [q2] at k2; cases k2
        | some m => rw [q2] at k2; cases k2
    · refine Nat.le_trans (tupleText_le (B := 200404) fun x hx => ?_) ?_
      · have hx : x = (Lf.str "few").t ∨ x = tupleText ((ss.map Lf.str).map Lf.t) := by simpa [rpOf, Rp.t] using hx
        rcases hx with z | z <;> subst z
        · decide +kernel
        · exact tup_small hl hs
      · rw [List.length_map]
        show 2 * (200404 + 2) + 4 ≤ sizeLine
        decide
  | make hd lo hi ms =>
    obtain ⟨a, e, t, ha, ht⟩ := h
    obtain ⟨h1, h2, l1, l2, m1, m2, hl, hs⟩ := r
    subst e
    have hs' : ∀ s ∈ ms, Sg s ∧ s.length ≤ 200 := fun s k => mk_sg s (hs s k)
    have all : ∀ i ∈ rpOf t (.make hd lo hi ms), i = .lf (.str "make") ∨ i = .lf (.str hd) ∨ i = .lf (.int lo) ∨ i = .lf (.int hi) ∨ i = .tup t (ms.map Lf.str) := fun i k => by simpa [rpOf] using k
    refine .inr ⟨a, rpOf t (.make hd lo hi ms), rfl, SqT.of ha, fun i k => ?_, fun i k => ?_, ?_, by rw [rp_t]; exact q⟩
    · rcases all i k with z | z | z | z | z <;> subst z
      · exact (show (reprText "make").length ≤ 100000 by decide +kernel)
      · exact Nat.le_trans (repr_sg h1 h2) (by decide)
      · exact log_small l1 l2
      · exact log_small m1 m2
      · refine ⟨by rw [lf_strs]; exact SqT.of ht, fun l hl' => ?_⟩
        obtain ⟨s, k', rfl⟩ := List.mem_map.mp hl'
        exact Nat.le_trans (repr_sg (hs' s k').1 (hs' s k').2) (by decide)
    · rcases all i k with z | z | z | z | z <;> subst z
      · simp [Rp.ad]
      · simp [Rp.ad]
      · simp [Rp.ad]
      · simp [Rp.ad]
      · intro y
        have y : a = t := by simpa [Rp.ad] using y
        rw [y] at ha
        rw [ha] at ht
        have k := HO.tup.inj (Option.some.inj ht)
        have k2 : (ms.map V.str)[2]? = some (V.int lo) := by rw [← k]; rfl
        rw [List.getElem?_map] at k2
        cases q2 : ms[2]? with
        | none => rw [q2] at k2; cases k2
        | some m => rw [q2] at k2; cases k2
    · refine Nat.le_trans (tupleText_le (B := 200404) fun x hx => ?_) ?_
      · obtain ⟨i, k, rfl⟩ := List.mem_map.mp hx
        rcases all i k with z | z | z | z | z <;> subst z
        · decide +kernel
        · exact Nat.le_trans (repr_sg h1 h2) (by decide)
        · exact Nat.le_trans (int_small l1 l2) (by decide)
        · exact Nat.le_trans (int_small m1 m2) (by decide)
        · exact tup_small hl hs'
      · rw [List.length_map]
        show 5 * (200404 + 2) + 4 ≤ sizeLine
        decide
theorem WdOkN.r : ∀ {W : Wd}, WdOkN W → WdR W
  | .few ss, h => ⟨Nat.le_trans h.2.1 (by decide), fun s hs => ⟨(h.2.2.2.2 s hs).1, Nat.le_trans (h.2.2.2.2 s hs).2 (by decide)⟩⟩
  | .make hd lo hi ms, ⟨h1, h2, h3, h4, h5, h6, b, b1, b2, e⟩ => by
    subst e
    refine ⟨h1, Nat.le_trans h2 (by decide), by omega, by omega, by omega, by omega, ?_, bitsM_sub b⟩
    have : ∀ b : Int, (bitsM b).length ≤ 4 := fun b => by
      unfold bitsM
      rw [List.length_map]
      exact List.length_filter_le _ _
    exact Nat.le_trans (this b) (by decide)
/-! ### the law -/
open WordM ShowM
theorem wit_len : ∀ {W : Wd}, WdOkN W → (witW W).length ≤ 1000
  | .few ss, h => Nat.le_trans h.2.1 (by decide)
  | .make hd lo hi ms, h => by
    have gl : (goodM ms).length ≤ 94 := by
      refine Nat.le_trans (List.length_filter_le _ _) ?_
      rw [← WordM.len, sig_len]
      exact Nat.le_refl _
    show ((((goodM ms).map _) ++ (if lo = 0 then [hd] else [])) ++ [_]).length ≤ 1000
    rw [List.length_append, List.length_append, List.length_map]
    split <;> simp <;> omega
theorem WdR.hd : ∀ {W : Wd}, WdR W → W.hdOk
  | .few _, _ => trivial
  | .make .., h => Nat.le_trans h.2.1 (by decide)
theorem metO_r {W W2 : Wd} (o1 : WdOkN W) (o2 : WdOkN W2) : OWdR (metO W W2) := by
  have hf : ∀ (ss : List Str) (f : Str → Bool), WdOkN (.few ss) → OWdR (fewO (ss.filter f)) := fun ss f ok => by
    unfold fewO
    split
    · trivial
    · have := ok.r
      exact ⟨Nat.le_trans (List.length_filter_le _ _) this.1, fun s hs => this.2 s (List.mem_filter.mp hs).1⟩
  have hm : ∀ h1 lo1 hi1 ms1 h2 lo2 hi2 ms2, WdOkN (.make h1 lo1 hi1 ms1) → WdOkN (.make h2 lo2 hi2 ms2) → OWdR (mkMet h1 lo1 hi1 ms1 h2 lo2 hi2 ms2) := fun h1 lo1 hi1 ms1 h2 lo2 hi2 ms2 k1 k2 => by
    have r1 := k1.r
    obtain ⟨_, _, a3, a4, a5, a6, _⟩ := k1
    obtain ⟨_, _, c3, c4, c5, c6, _⟩ := k2
    unfold mkMet
    by_cases hs : (stW h1 h2 && (cs (restW h1 h2)).all fun c => decide (markC c ∈ ms2)) = true
    · rw [if_pos hs]
      rw [Bool.and_eq_true] at hs
      have hl := stW_len hs.1
      have L : 0 ≤ (if lo2 - ((h1.length : Int) - (h2.length : Int)) > lo1 then lo2 - ((h1.length : Int) - (h2.length : Int)) else lo1) ∧ (if lo2 - ((h1.length : Int) - (h2.length : Int)) > lo1 then lo2 - ((h1.length : Int) - (h2.length : Int)) else lo1) ≤ 100 := by split <;> omega
      have Mo : (if hi2 - ((h1.length : Int) - (h2.length : Int)) < hi1 then hi2 - ((h1.length : Int) - (h2.length : Int)) else hi1) ≤ 100 := by split <;> omega
      dsimp only
      generalize (if lo2 - ((h1.length : Int) - (h2.length : Int)) > lo1 then lo2 - ((h1.length : Int) - (h2.length : Int)) else lo1) = least at L
      generalize (if hi2 - ((h1.length : Int) - (h2.length : Int)) < hi1 then hi2 - ((h1.length : Int) - (h2.length : Int)) else hi1) = most at Mo
      by_cases p1 : least = 0 ∧ 0 ≤ most ∧ (most = 0 ∨ (ms1.filter fun m => decide (m ∈ ms2)) = [])
      · rw [if_pos p1]
        exact ⟨by show 1 ≤ 100; decide, fun s hs => by
          have : s = h1 := by simpa using hs
          subst this
          exact ⟨r1.1, r1.2.1⟩⟩
      · rw [if_neg p1]
        by_cases p2 : most < least ∨ (ms1.filter fun m => decide (m ∈ ms2)) = []
        · rw [if_pos p2]
          trivial
        · rw [if_neg p2]
          have p3 : ¬ most < least := fun z => p2 (.inl z)
          exact ⟨r1.1, r1.2.1, L.1, L.2, by omega, Mo, Nat.le_trans (List.length_filter_le _ _) r1.2.2.2.2.2.2.1, fun m hm => r1.2.2.2.2.2.2.2 m (List.mem_filter.mp hm).1⟩
    · rw [if_neg hs]
      trivial
  cases W with
  | few ss => exact hf ss _ o1
  | make h1 lo1 hi1 ms1 =>
    cases W2 with
    | few ss => exact hf ss _ o2
    | make h2 lo2 hi2 ms2 =>
      show OWdR (if _ then _ else _)
      split
      · exact hm _ _ _ _ _ _ _ _ o2 o1
      · exact hm _ _ _ _ _ _ _ _ o1 o2
section
variable {P : Program} {w : World} {K : PySem.W.Frag} {mg : Str → Option Value} {base : Heap}
def spLaw (K : PySem.W.Frag) : Sp := fun vs H Q _ => ∃ (a : Addr) (ns : List Int), vs = [.ref a] ∧ SqL K H a (ns.map V.int) ∧ ns.length ≤ 63 ∧ ∀ H', Q (.bl true) H'
theorem sc_law : FnScope ["_law_script", "_law_deck_here", "_law_turn", "_law_one", "_law_other", "_law_due", "_law_pair", "_law_text_here", "_law_both"] ["_law_script"] (defScope slaw) := ⟨rfl, rfl, rfl, by decide +kernel, rfl, by decide +kernel, by decide +kernel⟩
theorem ok_law {f : Addr} {fd : FuncData} (F : Fun K "law" "law" slaw f fd) (B : OwnS mg) (G_law_deck : Good P w K mg base 1 "_law_deck" ["_law_script"] (spDeck K)) (G_law_words : Good P w K mg base 5 "_law_words" ["_law_deck_here"] spWords) (G_law_near : Good P w K mg base 6 "_law_near" ["_law_deck_here", "_law_words_here"] spNear)
    (G_law_met : Good P w K mg base 7 "_law_met" ["_law_one", "_law_other"] (spMet fun _ _ => True)) (Gwords_met : Good P w K mg base 5 "words_met" ["one", "other"] (spMet fun _ _ => True)) (G_law_witness : Good P w K mg base 2 "_law_witness" ["_law_words_here"] spWit) (G_law_words_let : Good P w K mg base 2 "_law_words_let" ["_law_words_here", "_law_text_here"] spLet) : FnOk P w K mg base CX0 8 f fd ["_law_script"] (spLaw K) := by
  refine F.ok sc_law (fun vs H Q E q => ?_) (fun cdv A outer s H vs Q E hr q => ?_)
  · obtain ⟨a, ns, rfl, _⟩ := q
    rfl
  · obtain ⟨aa, ns, rfl, hS, hlen, q⟩ := q
    have nd := sc_law.nd
    refine ⟨_, (pss_cons (ps_set (i := 1) nd rfl (by first | exact Or.inl rfl | exact Or.inr rfl) (pe_fn G_law_deck (hr.mono (by first | decide | omega)) rfl (pa_c (pv 0) pa_nil)))
      (pss_cons (ps_for PassesOwn.never rfl (pi_range1 rfl B.range (pa_c pe_int pa_nil)) (pg_name (i := 2) nd rfl (by first | exact Or.inl rfl | exact Or.inr rfl))
        (pss_cons (ps_set (i := 3) nd rfl (by first | exact Or.inl rfl | exact Or.inr rfl) (pe_fn G_law_words (hr.mono (by first | decide | omega)) rfl (pa_c (pv 1) pa_nil)))
        (pss_cons (ps_set (i := 4) nd rfl (by first | exact Or.inl rfl | exact Or.inr rfl) (pe_fn G_law_near (hr.mono (by first | decide | omega)) rfl (pa_c (pv 1) (pa_c (pv 3) pa_nil))))
        (pss_cons (ps_set (i := 5) nd rfl (by first | exact Or.inl rfl | exact Or.inr rfl) (pe_fn G_law_met (hr.mono (by first | decide | omega)) rfl (pa_c (pv 3) (pa_c (pv 4) pa_nil))))
        (pss_cons (ps_for PassesOwn.never rfl (pi_list (@pe_lstQ _ _ _ _ (@qa_c _ _ _ _ _ (@pe_tupQ _ _ _ _ _ (@qa_c _ _ _ _ _ (pv 3) (@qa_c _ _ _ _ _ (pv 4) qa_nil rfl) rfl)) (@qa_c _ _ _ _ _ (@pe_tupQ _ _ _ _ _ (@qa_c _ _ _ _ _ (pv 4) (@qa_c _ _ _ _ _ (pv 3) qa_nil rfl) rfl)) (@qa_c _ _ _ _ _ (@pe_tupQ _ _ _ _ _ (@qa_c _ _ _ _ _ (pv 3) (@qa_c _ _ _ _ _ (pv 4) qa_nil rfl) rfl)) qa_nil rfl) rfl) rfl))) (pg_name (i := 6) nd rfl (by first | exact Or.inl rfl | exact Or.inr rfl))
          (pss_one (ps_if (pt_cmpR op_ne (pe_callB (call_reprT hr.gd hr.r16) rfl B.repr L2.boot_repr (pa_c (pe_fn Gwords_met (hr.mono (by first | decide | omega)) rfl (pa_c (pe_ix ix_tup (pv 6) pe_int (fun _ _ => rfl)) (pa_c (pe_ix ix_tup (pv 6) pe_int (fun _ _ => rfl)) pa_nil))) pa_nil)) (pe_callB (call_reprT hr.gd hr.r16) rfl B.repr L2.boot_repr (pa_c (pv 5) pa_nil)) (nomark _))
            (pss_one (ps_ret pe_bl))
            pss_nil)))
        (pss_cons (ps_if (pt_cmpR op_ne (pe_callB (call_reprT hr.gd hr.r16) rfl B.repr L2.boot_repr (pa_c (pe_fn Gwords_met (hr.mono (by first | decide | omega)) rfl (pa_c (pv 3) (pa_c (pv 3) pa_nil))) pa_nil)) (pe_callB (call_reprT hr.gd hr.r16) rfl B.repr L2.boot_repr (pa_c (pv 3) pa_nil)) (nomark _))
          (pss_one (ps_ret pe_bl))
          pss_nil)
        (pss_one (ps_for PassesOwn.never rfl (pi_list (pe_op op_cat (pe_fn G_law_witness (hr.mono (by first | decide | omega)) rfl (pa_c (pv 3) pa_nil)) (pe_fn G_law_witness (hr.mono (by first | decide | omega)) rfl (pa_c (pv 4) pa_nil)))) (pg_name (i := 7) nd rfl (by first | exact Or.inl rfl | exact Or.inr rfl))
          (pss_cons (ps_set (i := 8) nd rfl (by first | exact Or.inl rfl | exact Or.inr rfl) (pe_and (pe_fn G_law_words_let (hr.mono (by first | decide | omega)) rfl (pa_c (pv 3) (pa_c (pv 7) pa_nil))) (pe_one (pe_fn G_law_words_let (hr.mono (by first | decide | omega)) rfl (pa_c (pv 4) (pa_c (pv 7) pa_nil))))))
          (pss_one (ps_if (pt_cmpR op_ne (pv 8) (pe_and (pe_cmpR op_notN (pv 5) pe_non (nomark _)) (pe_one (pe_fn G_law_words_let (hr.mono (by first | decide | omega)) rfl (pa_c (pv 5) (pa_c (pv 7) pa_nil))))) (nomark _))
            (pss_one (ps_ret pe_bl))
            pss_nil)))))))))))
      (pss_one (ps_ret pe_bl)))), ?_⟩
    refine ⟨_, rfl, aa, ns, rfl, hS, fun p c H1 np nc d1 s1 => ?_⟩
    refine ⟨4, rfl, by decide, by decide, for_range (n := 4) (fun i σ H2 => DeckAt H2 p c ∧ ∃ v2 v3 v4 v5 v6 v7 v8 : Option V, σ = [some (.ref aa), some (.ref p), v2, v3, v4, v5, v6, v7, v8]) ⟨d1, none, none, none, none, none, none, none, rfl⟩ ?_ ?_⟩
    · rintro i σ H2 _ ⟨d2, v2, v3, v4, v5, v6, v7, v8, rfl⟩
      refine ⟨_, rfl, p, c, rfl, d2, fun a W H3 hW hok o3 => ?_⟩
      refine ⟨_, rfl, _, rfl, p, c, a, W, rfl, o3.d, hW, hok, fun b W2 H4 hW2 ok2 o4 => ?_⟩
      have hW4 := hW.on o4 o3.d
      have ok1 := hok.n
      refine ⟨_, rfl, _, rfl, a, b, W, W2, rfl, hW4, hW2, ok1, ok2, trivial, fun v H5 s5 hv => ?_⟩
      have o5 := Same.on (o3.trans o4) s5
      have hWa5 := hW4.same s5
      have hWb5 := hW2.same s5
      have rD : OWdR (metO W W2) := metO_r ok1 ok2
      refine ⟨_, rfl, _, rfl, by show 2 ≤ sizeLine; decide, fun t1 n1 => ⟨_, rfl, _, rfl, by show 2 ≤ sizeLine; decide, fun t2 n2 => ⟨_, rfl, _, rfl, by show 2 ≤ sizeLine; decide, fun t3 n3 => ⟨by show 3 ≤ sizeLine; decide, fun l nl => ?_⟩⟩⟩⟩
      have sA : Same H5 (upd (upd (upd (upd H5 t1 (.tup [.ref a, .ref b])) t2 (.tup [.ref b, .ref a])) t3 (.tup [.ref a, .ref b])) l (.lst [.ref t1, .ref t2, .ref t3])) := (((same_new n1).alloc n2).alloc n3).alloc nl
      have k1 : (upd (upd (upd (upd H5 t1 (.tup [.ref a, .ref b])) t2 (.tup [.ref b, .ref a])) t3 (.tup [.ref a, .ref b])) l (.lst [.ref t1, .ref t2, .ref t3])) t1 = some (.tup [.ref a, .ref b]) := same_new nl _ _ (same_new n3 _ _ (same_new n2 _ _ (at_new n1)))
      have k2 : (upd (upd (upd (upd H5 t1 (.tup [.ref a, .ref b])) t2 (.tup [.ref b, .ref a])) t3 (.tup [.ref a, .ref b])) l (.lst [.ref t1, .ref t2, .ref t3])) t2 = some (.tup [.ref b, .ref a]) := same_new nl _ _ (same_new n3 _ _ (at_new n2))
      have k3 : (upd (upd (upd (upd H5 t1 (.tup [.ref a, .ref b])) t2 (.tup [.ref b, .ref a])) t3 (.tup [.ref a, .ref b])) l (.lst [.ref t1, .ref t2, .ref t3])) t3 = some (.tup [.ref a, .ref b]) := same_new nl _ _ (at_new n3)
      have kl : (upd (upd (upd (upd H5 t1 (.tup [.ref a, .ref b])) t2 (.tup [.ref b, .ref a])) t3 (.tup [.ref a, .ref b])) l (.lst [.ref t1, .ref t2, .ref t3])) l = some (.lst [.ref t1, .ref t2, .ref t3]) := at_new nl
      generalize (upd (upd (upd (upd H5 t1 (.tup [.ref a, .ref b])) t2 (.tup [.ref b, .ref a])) t3 (.tup [.ref a, .ref b])) l (.lst [.ref t1, .ref t2, .ref t3])) = H6 at sA k1 k2 k3 kl
      have o6 := Same.on o5 sA
      have hWa := hWa5.same sA
      have hWb := hWb5.same sA
      have hv6 := hv.same sA
      refine ⟨l, rfl, ⟨_, SqL.of kl⟩, for_list (K := K) (xs := [.ref t1, .ref t2, .ref t3]) (fun j σ H7 => Same H6 H7 ∧ ∃ v6 : Option V, σ = [some (.ref aa), some (.ref p), some (.int (0 + (i : Int))), some (.ref a), some (.ref b), some v, v6, v7, v8]) ⟨Same.refl _, _, rfl⟩ (fun j σ H7 _ p7 => SqL.of (p7.1 _ _ kl)) ?_ ?_⟩
      · rintro j vv σ H7 hvv ⟨s7, v6, rfl⟩
        have pr : ∃ (t x y : Addr) (Wx Wy : Wd), vv = .ref t ∧ H7 t = some (.tup [.ref x, .ref y]) ∧ WdAt H7 x Wx ∧ WdAt H7 y Wy ∧ WdOkN Wx ∧ WdOkN Wy ∧ metO Wx Wy = metO W W2 := by
          match j, hvv with
          | 0, hvv => exact ⟨t1, a, b, W, W2, (Option.some.inj hvv).symm, s7 _ _ k1, hWa.same s7, hWb.same s7, ok1, ok2, rfl⟩
          | 1, hvv => exact ⟨t2, b, a, W2, W, (Option.some.inj hvv).symm, s7 _ _ k2, hWb.same s7, hWa.same s7, ok2, ok1, metO_comm ok2 ok1⟩
          | 2, hvv => exact ⟨t3, a, b, W, W2, (Option.some.inj hvv).symm, s7 _ _ k3, hWa.same s7, hWb.same s7, ok1, ok2, rfl⟩
          | j + 3, hvv => exact absurd hvv (by simp)
        obtain ⟨t, x, y, Wx, Wy, rfl, ht, hx, hy, okx, oky, em⟩ := pr
        refine ⟨_, rfl, t, _, _, _, rfl, rfl, SqT.of ht, rfl, _, rfl, t, _, _, _, rfl, rfl, SqT.of ht, rfl, x, y, Wx, Wy, rfl, hx, hy, okx, oky, trivial, fun vr H8 s8 hvr => ?_⟩
        rw [em] at hvr
        unfold tNil
        refine repr_wd hvr rD ?_
        refine ⟨_, rfl, ?_⟩
        dsimp only
        refine repr_wd (hv6.same (s7.trans s8)) rD ?_
        refine ⟨rfl, _, rfl, ?_⟩
        refine iteNS rfl ?_
        exact ⟨s7.trans s8, _, rfl⟩
      · rintro σ H7 ⟨s7, v6, rfl⟩
        have hWa7 := hWa.same s7
        have hWb7 := hWb.same s7
        refine ⟨_, rfl, _, rfl, a, a, W, W, rfl, hWa7, hWa7, ok1, ok1, trivial, fun vr H8 s8 hvr => ?_⟩
        rw [metO_self ok1] at hvr
        unfold tNil
        refine repr_wd hvr ok1.r ?_
        refine ⟨_, rfl, ?_⟩
        dsimp only
        refine repr_wd (o := some W) ⟨a, rfl, hWa7.same s8⟩ ok1.r ?_
        refine ⟨rfl, _, rfl, ?_⟩
        refine iteNS rfl ?_
        have s78 := s7.trans s8
        refine ⟨_, rfl, a, W, rfl, hWa.same s78, ok1, fun l1 H9 n9 s9 hl1 => ⟨_, rfl, b, W2, rfl, (hWb.same s78).same s9, ok2, fun l2 H10 n10 s10 hl2 => ?_⟩⟩
        have wl1 := wit_len ok1
        have wl2 := wit_len ok2
        refine ⟨l1, l2, _, _, rfl, rfl, s10 _ _ hl1, hl2, by rw [List.length_map, List.length_map]; exact Nat.le_trans (Nat.add_le_add wl1 wl2) (by decide), fun l3 n3' => ?_⟩
        rw [← List.map_append]
        have s11 := ((s78.trans s9).trans s10).alloc (o := .lst ((witW W ++ witW W2).map V.str)) n3'
        have hl3 := at_new (o := .lst ((witW W ++ witW W2).map V.str)) n3'
        generalize upd H10 l3 (.lst ((witW W ++ witW W2).map V.str)) = H11 at s11 hl3
        have o11 := Same.on o6 s11
        have tx : ∀ x ∈ witW W ++ witW W2, Sg x ∧ x.length ≤ 200 := fun x hx => by
          rcases List.mem_append.mp hx with z | z
          · exact ((wit_show ok1).1 x z).2
          · exact ((wit_show ok2).1 x z).2
        refine ⟨l3, rfl, ⟨_, SqL.of hl3⟩, for_list (K := K) (xs := (witW W ++ witW W2).map V.str) (fun j σ H12 => Same H11 H12 ∧ ∃ v7 v8 : Option V, σ = [some (.ref aa), some (.ref p), some (.int (0 + (i : Int))), some (.ref a), some (.ref b), some v, v6, v7, v8]) ⟨Same.refl _, _, _, rfl⟩ (fun j σ H12 _ p12 => SqL.of (p12.1 _ _ hl3)) ?_ ?_⟩
        · rintro j vv σ H12 hvv ⟨s12, v7, v8, rfl⟩
          rw [List.getElem?_map] at hvv
          cases hi' : (witW W ++ witW W2)[j]? with
          | none => rw [hi'] at hvv; cases hvv
          | some x =>
            rw [hi'] at hvv
            have hvv : V.str x = vv := Option.some.inj hvv
            subst hvv
            obtain ⟨sx, lx⟩ := tx x (List.mem_of_getElem? hi')
            have s61 := s11.trans s12
            have ml := metO_let ok1 ok2 x
            refine ⟨_, rfl, _, rfl, a, W, x, rfl, hWa.same s61, ok1.hd, sx, by omega, fun H13 s13 => ⟨_, rfl, ?_⟩⟩
            have s62 := s61.trans s13
            refine' share2 (J := fun (bb : Bool) H14 => Same H13 H14 ∧ bb = (letW W x && letW W2 x)) _ (fun rest => ?main) ?rest
            case main =>
              refine ite2 (fun c1 => ?_) (fun c1 => ?_)
              · refine ⟨_, rfl, _, rfl, b, W2, x, rfl, hWb.same s62, ok2.hd, sx, by omega, fun H14 s14 => ?_⟩
                have e : letW W2 x = (letW W x && letW W2 x) := by rw [c1]; rfl
                generalize hbb : letW W2 x = bb at e
                exact rest bb H14 ⟨s14, by rw [hbb]; exact e⟩
              · have c1 : letW W x = false := by simpa using c1
                exact rest false H13 ⟨Same.refl _, by rw [c1]; rfl⟩
            case rest =>
              rintro bb H14 ⟨s14, eb⟩
              rw [← ml] at eb
              have hvd := ((hv6.same s62).same s14)
              have s63 := s62.trans s14
              cases em : metO W W2 with
              | none =>
                rw [em] at hvd eb
                have hvd : v = .non := hvd
                subst hvd
                have eb : bb = false := eb
                subst eb
                refine ⟨_, rfl, _, rfl, rfl, _, rfl, ?_⟩
                refine ite2 (fun h => absurd h (by decide)) (fun _ => ?_)
                refine ⟨rfl, _, rfl, ?_⟩
                refine iteNS rfl ?_
                exact ⟨(s12.trans s13).trans s14, _, _, rfl⟩
              | some WD =>
                rw [em] at hvd eb rD
                obtain ⟨ad, hvd, hWD⟩ := hvd
                subst hvd
                have eb : bb = letW WD x := eb
                subst eb
                refine ⟨_, rfl, _, rfl, rfl, _, rfl, ?_⟩
                refine ite2 (fun _ => ?_) (fun h => absurd rfl h)
                refine ⟨_, rfl, _, rfl, ad, WD, x, rfl, hWD, rD.hd, sx, by omega, fun H15 s15 => ?_⟩
                refine ⟨rfl, _, rfl, ?_⟩
                refine iteNS rfl ?_
                exact ⟨((s12.trans s13).trans s14).trans s15, _, _, rfl⟩
        · rintro σ H12 ⟨s12, v7, v8, rfl⟩
          exact ⟨(Same.on o11 s12).d, _, _, _, _, _, _, _, rfl⟩
    · rintro σ H2 ⟨d2, v2, v3, v4, v5, v6, v7, v8, rfl⟩
      exact q H2
end
open PySem
theorem all_mk {l : PySem.W.OpenLaw} {w : World} {K : PySem.W.Frag} {h : Heap} {mg : Str → Option Value} {fa : Addr} (X : K.In h) (G : h.Ns mainGlobals mg) (hfa : mg "law" = some (.ref fa)) {f0 : Addr} {od0 an0 : Option Addr} {sl0 : Array (Option Value)} {oc0 kV0 dc0 pm0 cd0 ct0 : Value} {f1 : Addr} {od1 an1 : Option Addr} {sl1 : Array (Option Value)} {oc1 kV1 dc1 pm1 cd1 ct1 : Value} {f2 : Addr} {od2 an2 : Option Addr} {sl2 : Array (Option Value)} {oc2 kV2 dc2 pm2 cd2 ct2 : Value} {f3 : Addr} {od3 an3 : Option Addr} {sl3 : Array (Option Value)} {oc3 kV3 dc3 pm3 cd3 ct3 : Value} {f4 : Addr} {od4 an4 : Option Addr} {sl4 : Array (Option Value)} {oc4 kV4 dc4 pm4 cd4 ct4 : Value} {f5 : Addr} {od5 an5 : Option Addr} {sl5 : Array (Option Value)} {oc5 kV5 dc5 pm5 cd5 ct5 : Value} {f6 : Addr} {od6 an6 : Option Addr} {sl6 : Array (Option Value)} {oc6 kV6 dc6 pm6 cd6 ct6 : Value} {f7 : Addr} {od7 an7 : Option Addr} {sl7 : Array (Option Value)} {oc7 kV7 dc7 pm7 cd7 ct7 : Value} {f8 : Addr} {od8 an8 : Option Addr} {sl8 : Array (Option Value)} {oc8 kV8 dc8 pm8 cd8 ct8 : Value} {f9 : Addr} {od9 an9 : Option Addr} {sl9 : Array (Option Value)} {oc9 kV9 dc9 pm9 cd9 ct9 : Value} {f10 : Addr} {od10 an10 : Option Addr} {sl10 : Array (Option Value)} {oc10 kV10 dc10 pm10 cd10 ct10 : Value} {f11 : Addr} {od11 an11 : Option Addr} {sl11 : Array (Option Value)} {oc11 kV11 dc11 pm11 cd11 ct11 : Value} {f12 : Addr} {od12 an12 : Option Addr} {sl12 : Array (Option Value)} {oc12 kV12 dc12 pm12 cd12 ct12 : Value} {f13 : Addr} {od13 an13 : Option Addr} {sl13 : Array (Option Value)} {oc13 kV13 dc13 pm13 cd13 ct13 : Value} {f14 : Addr} {od14 an14 : Option Addr} {sl14 : Array (Option Value)} {oc14 kV14 dc14 pm14 cd14 ct14 : Value} {f15 : Addr} {od15 an15 : Option Addr} {sl15 : Array (Option Value)} {oc15 kV15 dc15 pm15 cd15 ct15 : Value} {f16 : Addr} {od16 an16 : Option Addr} {sl16 : Array (Option Value)} {oc16 kV16 dc16 pm16 cd16 ct16 : Value} {f17 : Addr} {od17 an17 : Option Addr} {sl17 : Array (Option Value)} {oc17 kV17 dc17 pm17 cd17 ct17 : Value} {f18 : Addr} {od18 an18 : Option Addr} {sl18 : Array (Option Value)} {oc18 kV18 dc18 pm18 cd18 ct18 : Value} {f19 : Addr} {od19 an19 : Option Addr} {sl19 : Array (Option Value)} {oc19 kV19 dc19 pm19 cd19 ct19 : Value} {f20 : Addr} {od20 an20 : Option Addr} {sl20 : Array (Option Value)} {oc20 kV20 dc20 pm20 cd20 ct20 : Value}
    (a0 : PySem.W.nsIn K mainGlobals "has_mark" = some (some (.ref f0))) (l0 : K.lookup f0 = some ⟨oc0, od0, .func (PySem.W.fnOf "has_mark" "has_mark" (defArgs shas_mark) (defBody shas_mark) (defScope shas_mark) .none kV0 dc0 pm0 an0 cd0 ct0), sl0⟩) (c0 : PySem.W.codeIn K cd0 "has_mark" = true) (k0 : PySem.W.keepIn K (.ref f0) = true)
    (a1 : PySem.W.nsIn K mainGlobals "marks_of" = some (some (.ref f1))) (l1 : K.lookup f1 = some ⟨oc1, od1, .func (PySem.W.fnOf "marks_of" "marks_of" (defArgs smarks_of) (defBody smarks_of) (defScope smarks_of) .none kV1 dc1 pm1 an1 cd1 ct1), sl1⟩) (c1 : PySem.W.codeIn K cd1 "marks_of" = true) (k1 : PySem.W.keepIn K (.ref f1) = true)
    (a2 : PySem.W.nsIn K mainGlobals "words_let" = some (some (.ref f2))) (l2 : K.lookup f2 = some ⟨oc2, od2, .func (PySem.W.fnOf "words_let" "words_let" (defArgs swords_let) (defBody swords_let) (defScope swords_let) .none kV2 dc2 pm2 an2 cd2 ct2), sl2⟩) (c2 : PySem.W.codeIn K cd2 "words_let" = true) (k2 : PySem.W.keepIn K (.ref f2) = true)
    (a3 : PySem.W.nsIn K mainGlobals "makes_met" = some (some (.ref f3))) (l3 : K.lookup f3 = some ⟨oc3, od3, .func (PySem.W.fnOf "makes_met" "makes_met" (defArgs smakes_met) (defBody smakes_met) (defScope smakes_met) .none kV3 dc3 pm3 an3 cd3 ct3), sl3⟩) (c3 : PySem.W.codeIn K cd3 "makes_met" = true) (k3 : PySem.W.keepIn K (.ref f3) = true)
    (a4 : PySem.W.nsIn K mainGlobals "few_met" = some (some (.ref f4))) (l4 : K.lookup f4 = some ⟨oc4, od4, .func (PySem.W.fnOf "few_met" "few_met" (defArgs sfew_met) (defBody sfew_met) (defScope sfew_met) .none kV4 dc4 pm4 an4 cd4 ct4), sl4⟩) (c4 : PySem.W.codeIn K cd4 "few_met" = true) (k4 : PySem.W.keepIn K (.ref f4) = true)
    (a5 : PySem.W.nsIn K mainGlobals "words_met" = some (some (.ref f5))) (l5 : K.lookup f5 = some ⟨oc5, od5, .func (PySem.W.fnOf "words_met" "words_met" (defArgs swords_met) (defBody swords_met) (defScope swords_met) .none kV5 dc5 pm5 an5 cd5 ct5), sl5⟩) (c5 : PySem.W.codeIn K cd5 "words_met" = true) (k5 : PySem.W.keepIn K (.ref f5) = true)
    (a6 : PySem.W.nsIn K mainGlobals "_law_mixed" = some (some (.ref f6))) (l6 : K.lookup f6 = some ⟨oc6, od6, .func (PySem.W.fnOf "_law_mixed" "_law_mixed" (defArgs s_law_mixed) (defBody s_law_mixed) (defScope s_law_mixed) .none kV6 dc6 pm6 an6 cd6 ct6), sl6⟩) (c6 : PySem.W.codeIn K cd6 "_law_mixed" = true) (k6 : PySem.W.keepIn K (.ref f6) = true)
    (a7 : PySem.W.nsIn K mainGlobals "_law_deck" = some (some (.ref f7))) (l7 : K.lookup f7 = some ⟨oc7, od7, .func (PySem.W.fnOf "_law_deck" "_law_deck" (defArgs s_law_deck) (defBody s_law_deck) (defScope s_law_deck) .none kV7 dc7 pm7 an7 cd7 ct7), sl7⟩) (c7 : PySem.W.codeIn K cd7 "_law_deck" = true) (k7 : PySem.W.keepIn K (.ref f7) = true)
    (a8 : PySem.W.nsIn K mainGlobals "_law_take" = some (some (.ref f8))) (l8 : K.lookup f8 = some ⟨oc8, od8, .func (PySem.W.fnOf "_law_take" "_law_take" (defArgs s_law_take) (defBody s_law_take) (defScope s_law_take) .none kV8 dc8 pm8 an8 cd8 ct8), sl8⟩) (c8 : PySem.W.codeIn K cd8 "_law_take" = true) (k8 : PySem.W.keepIn K (.ref f8) = true)
    (a9 : PySem.W.nsIn K mainGlobals "_law_signs" = some (some (.ref f9))) (l9 : K.lookup f9 = some ⟨oc9, od9, .func (PySem.W.fnOf "_law_signs" "_law_signs" (defArgs s_law_signs) (defBody s_law_signs) (defScope s_law_signs) .none kV9 dc9 pm9 an9 cd9 ct9), sl9⟩) (c9 : PySem.W.codeIn K cd9 "_law_signs" = true) (k9 : PySem.W.keepIn K (.ref f9) = true)
    (a10 : PySem.W.nsIn K mainGlobals "_law_text" = some (some (.ref f10))) (l10 : K.lookup f10 = some ⟨oc10, od10, .func (PySem.W.fnOf "_law_text" "_law_text" (defArgs s_law_text) (defBody s_law_text) (defScope s_law_text) .none kV10 dc10 pm10 an10 cd10 ct10), sl10⟩) (c10 : PySem.W.codeIn K cd10 "_law_text" = true) (k10 : PySem.W.keepIn K (.ref f10) = true)
    (a11 : PySem.W.nsIn K mainGlobals "_law_unlike" = some (some (.ref f11))) (l11 : K.lookup f11 = some ⟨oc11, od11, .func (PySem.W.fnOf "_law_unlike" "_law_unlike" (defArgs s_law_unlike) (defBody s_law_unlike) (defScope s_law_unlike) .none kV11 dc11 pm11 an11 cd11 ct11), sl11⟩) (c11 : PySem.W.codeIn K cd11 "_law_unlike" = true) (k11 : PySem.W.keepIn K (.ref f11) = true)
    (a12 : PySem.W.nsIn K mainGlobals "_law_mark" = some (some (.ref f12))) (l12 : K.lookup f12 = some ⟨oc12, od12, .func (PySem.W.fnOf "_law_mark" "_law_mark" (defArgs s_law_mark) (defBody s_law_mark) (defScope s_law_mark) .none kV12 dc12 pm12 an12 cd12 ct12), sl12⟩) (c12 : PySem.W.codeIn K cd12 "_law_mark" = true) (k12 : PySem.W.keepIn K (.ref f12) = true)
    (a13 : PySem.W.nsIn K mainGlobals "_law_words_let" = some (some (.ref f13))) (l13 : K.lookup f13 = some ⟨oc13, od13, .func (PySem.W.fnOf "_law_words_let" "_law_words_let" (defArgs s_law_words_let) (defBody s_law_words_let) (defScope s_law_words_let) .none kV13 dc13 pm13 an13 cd13 ct13), sl13⟩) (c13 : PySem.W.codeIn K cd13 "_law_words_let" = true) (k13 : PySem.W.keepIn K (.ref f13) = true)
    (a14 : PySem.W.nsIn K mainGlobals "_law_some_marks" = some (some (.ref f14))) (l14 : K.lookup f14 = some ⟨oc14, od14, .func (PySem.W.fnOf "_law_some_marks" "_law_some_marks" (defArgs s_law_some_marks) (defBody s_law_some_marks) (defScope s_law_some_marks) .none kV14 dc14 pm14 an14 cd14 ct14), sl14⟩) (c14 : PySem.W.codeIn K cd14 "_law_some_marks" = true) (k14 : PySem.W.keepIn K (.ref f14) = true)
    (a15 : PySem.W.nsIn K mainGlobals "_law_words" = some (some (.ref f15))) (l15 : K.lookup f15 = some ⟨oc15, od15, .func (PySem.W.fnOf "_law_words" "_law_words" (defArgs s_law_words) (defBody s_law_words) (defScope s_law_words) .none kV15 dc15 pm15 an15 cd15 ct15), sl15⟩) (c15 : PySem.W.codeIn K cd15 "_law_words" = true) (k15 : PySem.W.keepIn K (.ref f15) = true)
    (a16 : PySem.W.nsIn K mainGlobals "_law_near" = some (some (.ref f16))) (l16 : K.lookup f16 = some ⟨oc16, od16, .func (PySem.W.fnOf "_law_near" "_law_near" (defArgs s_law_near) (defBody s_law_near) (defScope s_law_near) .none kV16 dc16 pm16 an16 cd16 ct16), sl16⟩) (c16 : PySem.W.codeIn K cd16 "_law_near" = true) (k16 : PySem.W.keepIn K (.ref f16) = true)
    (a17 : PySem.W.nsIn K mainGlobals "_law_witness" = some (some (.ref f17))) (l17 : K.lookup f17 = some ⟨oc17, od17, .func (PySem.W.fnOf "_law_witness" "_law_witness" (defArgs s_law_witness) (defBody s_law_witness) (defScope s_law_witness) .none kV17 dc17 pm17 an17 cd17 ct17), sl17⟩) (c17 : PySem.W.codeIn K cd17 "_law_witness" = true) (k17 : PySem.W.keepIn K (.ref f17) = true)
    (a18 : PySem.W.nsIn K mainGlobals "_law_makes_met" = some (some (.ref f18))) (l18 : K.lookup f18 = some ⟨oc18, od18, .func (PySem.W.fnOf "_law_makes_met" "_law_makes_met" (defArgs s_law_makes_met) (defBody s_law_makes_met) (defScope s_law_makes_met) .none kV18 dc18 pm18 an18 cd18 ct18), sl18⟩) (c18 : PySem.W.codeIn K cd18 "_law_makes_met" = true) (k18 : PySem.W.keepIn K (.ref f18) = true)
    (a19 : PySem.W.nsIn K mainGlobals "_law_met" = some (some (.ref f19))) (l19 : K.lookup f19 = some ⟨oc19, od19, .func (PySem.W.fnOf "_law_met" "_law_met" (defArgs s_law_met) (defBody s_law_met) (defScope s_law_met) .none kV19 dc19 pm19 an19 cd19 ct19), sl19⟩) (c19 : PySem.W.codeIn K cd19 "_law_met" = true) (k19 : PySem.W.keepIn K (.ref f19) = true)
    (a20 : PySem.W.nsIn K mainGlobals "law" = some (some (.ref f20))) (l20 : K.lookup f20 = some ⟨oc20, od20, .func (PySem.W.fnOf "law" "law" (defArgs slaw) (defBody slaw) (defScope slaw) .none kV20 dc20 pm20 an20 cd20 ct20), sl20⟩) (c20 : PySem.W.codeIn K cd20 "law" = true) (k20 : PySem.W.keepIn K (.ref f20) = true)
    (z0 : PySem.W.nsIn K mainGlobals "len" = some none) (z1 : PySem.W.nsIn K mainGlobals "range" = some none) (z2 : PySem.W.nsIn K mainGlobals "isinstance" = some none) (z3 : PySem.W.nsIn K mainGlobals "int" = some none) (z4 : PySem.W.nsIn K mainGlobals "bool" = some none) (z5 : PySem.W.nsIn K mainGlobals "str" = some none) (z6 : PySem.W.nsIn K mainGlobals "list" = some none) (z7 : PySem.W.nsIn K mainGlobals "tuple" = some none) (z8 : PySem.W.nsIn K mainGlobals "dict" = some none) (z9 : PySem.W.nsIn K mainGlobals "sum" = some none) (z10 : PySem.W.nsIn K mainGlobals "min" = some none) (z11 : PySem.W.nsIn K mainGlobals "max" = some none) (z12 : PySem.W.nsIn K mainGlobals "all" = some none) (z13 : PySem.W.nsIn K mainGlobals "any" = some none) (z14 : PySem.W.nsIn K mainGlobals "abs" = some none) (z15 : PySem.W.nsIn K mainGlobals "zip" = some none) (z16 : PySem.W.nsIn K mainGlobals "sorted" = some none) (z17 : PySem.W.nsIn K mainGlobals "set" = some none) (z18 : PySem.W.nsIn K mainGlobals "enumerate" = some none) {aSIGNS aMARKS : Addr} {tk1 tk2 tk3 tk4 tk5 tk6 tk7 tk8 um1 um2 um3 um4 : Tok} {epS nM : Nat} {ddM : Option Addr} {slM : Array (Option Value)}
    (zr : PySem.W.nsIn K mainGlobals "repr" = some none)
    (aS : PySem.W.nsIn K mainGlobals "SIGNS" = some (some (.ref aSIGNS)))
    (lS : K.lookup aSIGNS = some ⟨.type "dict", none, .dict #[{ hash := PyData.keyHash w.params ("figure" : Str), key := .str "figure" tk1, val := .str "0123456789" tk2 }, { hash := PyData.keyHash w.params ("great" : Str), key := .str "great" tk3, val := .str "ABCDEFGHIJKLMNOPQRSTUVWXYZ" tk4 }, { hash := PyData.keyHash w.params ("other" : Str), key := .str "other" tk5, val := .str " !\"#$&'()*+,-./:;<=>?\x40[\\]^_`{|}~" tk6 }, { hash := PyData.keyHash w.params ("small" : Str), key := .str "small" tk7, val := .str "abcdefghijklmnopqrstuvwxyz" tk8 }] epS, #[]⟩)
    (aM : PySem.W.nsIn K mainGlobals "MARKS" = some (some (.ref aMARKS)))
    (lM : K.lookup aMARKS = some ⟨.type "tuple", ddM, .seq #[.str "figure" um1, .str "great" um2, .str "other" um3, .str "small" um4] nM, slM⟩) :
    ∃ fd : FuncData, (∀ (s : Shared) (v : Value), BindsTo s fd ⟨[v], []⟩ [("_law_script", v)]) ∧ ∀ base : Heap, K.In base → base.Ns mainGlobals mg → FnOk l.prog w K mg base CX0 8 fa fd ["_law_script"] (spLaw K) := by
  have e := hfa.symm.trans (PySem.W.mg_of X G a20)
  cases e
  have B : Own mg := own_mk X G z0 z1 z2 z3 z4 z5 z6 z7 z8 z9 z10 z11 z12 z13 z14 z15 z16 z17 z18
  have hhas_mark : Has K mg "has_mark" shas_mark := has_mk (st := shas_mark) X G a0 l0 c0 k0
  have hmarks_of : Has K mg "marks_of" smarks_of := has_mk (st := smarks_of) X G a1 l1 c1 k1
  have hwords_let : Has K mg "words_let" swords_let := has_mk (st := swords_let) X G a2 l2 c2 k2
  have hmakes_met : Has K mg "makes_met" smakes_met := has_mk (st := smakes_met) X G a3 l3 c3 k3
  have hfew_met : Has K mg "few_met" sfew_met := has_mk (st := sfew_met) X G a4 l4 c4 k4
  have hwords_met : Has K mg "words_met" swords_met := has_mk (st := swords_met) X G a5 l5 c5 k5
  have h_law_mixed : Has K mg "_law_mixed" s_law_mixed := has_mk (st := s_law_mixed) X G a6 l6 c6 k6
  have h_law_deck : Has K mg "_law_deck" s_law_deck := has_mk (st := s_law_deck) X G a7 l7 c7 k7
  have h_law_take : Has K mg "_law_take" s_law_take := has_mk (st := s_law_take) X G a8 l8 c8 k8
  have h_law_signs : Has K mg "_law_signs" s_law_signs := has_mk (st := s_law_signs) X G a9 l9 c9 k9
  have h_law_text : Has K mg "_law_text" s_law_text := has_mk (st := s_law_text) X G a10 l10 c10 k10
  have h_law_unlike : Has K mg "_law_unlike" s_law_unlike := has_mk (st := s_law_unlike) X G a11 l11 c11 k11
  have h_law_mark : Has K mg "_law_mark" s_law_mark := has_mk (st := s_law_mark) X G a12 l12 c12 k12
  have h_law_words_let : Has K mg "_law_words_let" s_law_words_let := has_mk (st := s_law_words_let) X G a13 l13 c13 k13
  have h_law_some_marks : Has K mg "_law_some_marks" s_law_some_marks := has_mk (st := s_law_some_marks) X G a14 l14 c14 k14
  have h_law_words : Has K mg "_law_words" s_law_words := has_mk (st := s_law_words) X G a15 l15 c15 k15
  have h_law_near : Has K mg "_law_near" s_law_near := has_mk (st := s_law_near) X G a16 l16 c16 k16
  have h_law_witness : Has K mg "_law_witness" s_law_witness := has_mk (st := s_law_witness) X G a17 l17 c17 k17
  have h_law_makes_met : Has K mg "_law_makes_met" s_law_makes_met := has_mk (st := s_law_makes_met) X G a18 l18 c18 k18
  have h_law_met : Has K mg "_law_met" s_law_met := has_mk (st := s_law_met) X G a19 l19 c19 k19
  refine ⟨PySem.W.fnOf "law" "law" (defArgs slaw) (defBody slaw) (defScope slaw) .none kV20 dc20 pm20 an20 cd20 ct20, fun s v => .of_eq rfl, fun base _ _ => ?_⟩
  have BS : OwnS mg := { toOwn := B, repr := PySem.W.mg_none_of X G zr }
  have mSIGNS : mg "SIGNS" = some (.ref aSIGNS) := PySem.W.mg_of X G aS
  have DS : KDict K w.params aSIGNS SGN := ⟨⟨_, _, lS, ⟨rfl, ⟨_, rfl⟩, ⟨_, rfl⟩, rfl, ⟨_, rfl⟩, ⟨_, rfl⟩, rfl, ⟨_, rfl⟩, ⟨_, rfl⟩, rfl, ⟨_, rfl⟩, ⟨_, rfl⟩, trivial⟩⟩, by decide +kernel⟩
  have mMARKS : mg "MARKS" = some (.ref aMARKS) := PySem.W.mg_of X G aM
  have TM : ∀ H, SqT K H aMARKS (MK.map V.str) := fun H => .inr ⟨_, _, _, lM, rfl, rfl, by show 4 ≤ sizeLine; decide, .cons ⟨_, rfl⟩ (.cons ⟨_, rfl⟩ (.cons ⟨_, rfl⟩ (.cons ⟨_, rfl⟩ .nil)))⟩
  have G1 : Good l.prog w K mg base 1 "_law_mixed" ["_law_number", "_law_k"] spMixed := g_mixed h_law_mixed
  have G2 : Good l.prog w K mg base 2 "_law_take" ["_law_deck_here", "_law_most"] spTake := g_take h_law_take G1
  have G3 : Good l.prog w K mg base 1 "_law_signs" [] spSigns := g_signs h_law_signs
  have G4 : Good l.prog w K mg base 3 "_law_text" ["_law_deck_here", "_law_most"] spText := g_text h_law_text B G2 G3
  have G5 : Good l.prog w K mg base 1 "_law_mark" ["_law_sign"] spMark := g_mark h_law_mark
  have G6 : Good l.prog w K mg base 4 "_law_unlike" ["_law_deck_here", "_law_many", "_law_most"] spUnlike := g_unlike h_law_unlike B G3 G4
  have GS : Good l.prog w K mg base 3 "_law_some_marks" ["_law_deck_here"] spSome := g_some h_law_some_marks B G2
  have G7 : Good l.prog w K mg base 5 "_law_words" ["_law_deck_here"] spWords := g_words h_law_words B G2 G4 G6 GS
  have GM : Good l.prog w K mg base 2 "marks_of" ["text"] spMarks := g_marks hmarks_of B mMARKS TM (g_hasm hhas_mark B mSIGNS DS)
  have G8 : Good l.prog w K mg base 3 "words_let" ["words", "text"] spLet := g_let hwords_let B GM
  have GW : Good l.prog w K mg base 5 "words_met" ["one", "other"] (spMet fun _ _ => True) := g_wmet hwords_met B (g_fewmet hfew_met B G8) (g_makes hmakes_met B GM)
  have GL : Good l.prog w K mg base 2 "_law_words_let" ["_law_words_here", "_law_text_here"] spLet := g_llet h_law_words_let B G5
  have GK1 : Good l.prog w K mg base 3 "_law_makes_met" ["_law_one", "_law_other"] (spMakes (fun n m => m ≤ n) mkMetO) := g_lmakes (k := 0) h_law_makes_met B G5 (g_lmakes0 h_law_makes_met) (fun n m h1 h2 => absurd h1 (Nat.not_le.mpr h2))
  have GK2 : Good l.prog w K mg base 4 "_law_makes_met" ["_law_one", "_law_other"] (spMakes (fun _ _ => True) mkMetO) := g_lmakes (k := 1) h_law_makes_met B G5 GK1 (fun n m _ h2 => Nat.le_of_lt h2)
  have GT1 : Good l.prog w K mg base 6 "_law_met" ["_law_one", "_law_other"] (spMet fun W _ => W.isFew) := g_lmet (k := 0) h_law_met B GL GK2 (g_lmet0 h_law_met) (fun W W2 h1 h2 _ => h2 h1)
  have GT2 : Good l.prog w K mg base 7 "_law_met" ["_law_one", "_law_other"] (spMet fun _ _ => True) := g_lmet (k := 1) h_law_met B GL GK2 GT1 (fun W W2 _ _ h3 => h3)
  have GN : Good l.prog w K mg base 6 "_law_near" ["_law_deck_here", "_law_words_here"] spNear := g_near h_law_near B G2 G4 G6 GS G7
  exact ok_law (fun_mk (st := slaw) l20 c20 k20) BS (g_deck h_law_deck B) G7 GN GT2 GW (g_wit h_law_witness B G3 G5) GL
theorem walk {l : PySem.W.OpenLaw} {q : Program} {loose : List Str} {XP : (Str → Option Value) → Heap → Prop} {YP : World → Heap → Prop} {d : DefRec} {K : Params → PySem.W.Frag} (hn : l.most = some 63) (hdf : d.params.defaults = [])
    (hY : ∀ (w : World) (h : Heap), YP w h → (K w.params).In h)
    (F : ∀ (w : World) (mg : Str → Option Value) (fa : Addr) (h : Heap), (K w.params).In h → h.Ns mainGlobals mg → mg d.name = some (.ref fa) →
      ∃ fd : FuncData, (∀ (s : Shared) (u : Value), BindsTo s fd ⟨[u], []⟩ [("_law_script", u)]) ∧ ∀ base : Heap, (K w.params).In base → base.Ns mainGlobals mg → FnOk l.prog w (K w.params) mg base CX0 8 fa fd ["_law_script"] (spLaw (K w.params))) :
    PySem.W.WalkO q loose XP YP l.row.toRowW d [] (fun f vs => PySem.call f vs) :=
  L2.walk_of (n := 63) (k := 8) (x := "_law_script") (CX := fun _ => CX0) (sp := fun w => spLaw (K w.params)) hn (by decide) hdf ⟨rfl, by decide, by decide, rfl⟩ hY F (fun _ _ a ns hl _ hS => ⟨a, ns, rfl, hS, hl, fun _ => rfl⟩) fun _ _ _ _ _ z => z
end My
open PySem PySem.W PyProof.Rows
set_option maxRecDepth 100000 in
set_option maxHeartbeats 0 in
theorem PySem.Challenge.cw_leastform_k24_words_met_holds : PySem.Challenge.rw_leastform_k24_words_met.Holds := by
  w_on; o_law; k_head; (case hw => w_witness2)
  k_fill
  refine My.walk (l := PySem.Challenge.rw_leastform_k24_words_met) rfl rfl (fun w h Y => PySem.W.kIn_of Y) ?F
  case F =>
    intro w mg fa h KX G hmg
    refine' My.all_mk KX G hmg ?a0 ?l0 ?c0 ?k0 ?a1 ?l1 ?c1 ?k1 ?a2 ?l2 ?c2 ?k2 ?a3 ?l3 ?c3 ?k3 ?a4 ?l4 ?c4 ?k4 ?a5 ?l5 ?c5 ?k5 ?a6 ?l6 ?c6 ?k6 ?a7 ?l7 ?c7 ?k7 ?a8 ?l8 ?c8 ?k8 ?a9 ?l9 ?c9 ?k9 ?a10 ?l10 ?c10 ?k10 ?a11 ?l11 ?c11 ?k11 ?a12 ?l12 ?c12 ?k12 ?a13 ?l13 ?c13 ?k13 ?a14 ?l14 ?c14 ?k14 ?a15 ?l15 ?c15 ?k15 ?a16 ?l16 ?c16 ?k16 ?a17 ?l17 ?c17 ?k17 ?a18 ?l18 ?c18 ?k18 ?a19 ?l19 ?c19 ?k19 ?a20 ?l20 ?c20 ?k20 ?z0 ?z1 ?z2 ?z3 ?z4 ?z5 ?z6 ?z7 ?z8 ?z9 ?z10 ?z11 ?z12 ?z13 ?z14 ?z15 ?z16 ?z17 ?z18 ?zr ?aS ?lS ?aM ?lM
    (case a0 => k_is)
    (case l0 => k_is)
    (case c0 => k_is)
    (case k0 => k_is)
    (case a1 => k_is)
    (case l1 => k_is)
    (case c1 => k_is)
    (case k1 => k_is)
    (case a2 => k_is)
    (case l2 => k_is)
    (case c2 => k_is)
    (case k2 => k_is)
    (case a3 => k_is)
    (case l3 => k_is)
    (case c3 => k_is)
    (case k3 => k_is)
    (case a4 => k_is)
    (case l4 => k_is)
    (case c4 => k_is)
    (case k4 => k_is)
    (case a5 => k_is)
    (case l5 => k_is)
    (case c5 => k_is)
    (case k5 => k_is)
    (case a6 => k_is)
    (case l6 => k_is)
    (case c6 => k_is)
    (case k6 => k_is)
    (case a7 => k_is)
    (case l7 => k_is)
    (case c7 => k_is)
    (case k7 => k_is)
    (case a8 => k_is)
    (case l8 => k_is)
    (case c8 => k_is)
    (case k8 => k_is)
    (case a9 => k_is)
    (case l9 => k_is)
    (case c9 => k_is)
    (case k9 => k_is)
    (case a10 => k_is)
    (case l10 => k_is)
    (case c10 => k_is)
    (case k10 => k_is)
    (case a11 => k_is)
    (case l11 => k_is)
    (case c11 => k_is)
    (case k11 => k_is)
    (case a12 => k_is)
    (case l12 => k_is)
    (case c12 => k_is)
    (case k12 => k_is)
    (case a13 => k_is)
    (case l13 => k_is)
    (case c13 => k_is)
    (case k13 => k_is)
    (case a14 => k_is)
    (case l14 => k_is)
    (case c14 => k_is)
    (case k14 => k_is)
    (case a15 => k_is)
    (case l15 => k_is)
    (case c15 => k_is)
    (case k15 => k_is)
    (case a16 => k_is)
    (case l16 => k_is)
    (case c16 => k_is)
    (case k16 => k_is)
    (case a17 => k_is)
    (case l17 => k_is)
    (case c17 => k_is)
    (case k17 => k_is)
    (case a18 => k_is)
    (case l18 => k_is)
    (case c18 => k_is)
    (case k18 => k_is)
    (case a19 => k_is)
    (case l19 => k_is)
    (case c19 => k_is)
    (case k19 => k_is)
    (case a20 => k_is)
    (case l20 => k_is)
    (case c20 => k_is)
    (case k20 => k_is)
    (case z0 => k_is)
    (case z1 => k_is)
    (case z2 => k_is)
    (case z3 => k_is)
    (case z4 => k_is)
    (case z5 => k_is)
    (case z6 => k_is)
    (case z7 => k_is)
    (case z8 => k_is)
    (case z9 => k_is)
    (case z10 => k_is)
    (case z11 => k_is)
    (case z12 => k_is)
    (case z13 => k_is)
    (case z14 => k_is)
    (case z15 => k_is)
    (case z16 => k_is)
    (case z17 => k_is)
    (case z18 => k_is)
    (case zr => k_is)
    (case aS => k_is)
    (case lS => k_is)
    (case aM => k_is)
    (case lM => k_is)
#print axioms PySem.Challenge.cw_leastform_k24_words_met_holds
