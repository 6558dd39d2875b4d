import PyProof.Rows.All
import Wide.All
import OpenK.AllK
import Wide.FinOn
import Lean
import PyProof.EqAt
import PyProof.EqKinds
import PyProof.TupleCall
import PyProof.NeKinds
import PyProof.IsiTupleOf
import PyProof.IsiHeapPairs
import PyProof.IsiPairs
import PyProof.ConsumeWalk
import PyProof.Rows.SumAny
import PyProof.FitsBits
import PyProof.Rows.SeqMore
import PyProof.ZipIter
import PyProof.TupleIter
import PyProof.LongRange
import PyProof.Rows.Range3
import PyProof.Rows.SortWalk
import PyProof.Rows.SortStr
import PyProof.StrWalks
import PyProof.DictRoads
import PyProof.MeetsStr
import PyProof.Rows.StrNews2
import PyProof.StrLawsIn
import PyProof.StrLaws
import PyProof.Rows.CatFin
import PyProof.Rows.StrClose5
import PyProof.SetKind
import PyProof.Rows.SetFrom
import PyProof.Rows.StrInSeq
import PyProof.WalkLemmas
import PyProof.CollectWalk
import PyProof.Seq
import PyProof.ForAny
import PyProof.MakeMany
import PyProof.DictKinds
import PyProof.Rows.SortShell
import PyProof.StrOps2
import PyProof.ReprNest
import PyProof.CallFns
import PyProof.StrLawsRepr
import PyProof.FString5
import OpenK.KOwn
import KE.KIsAll
import PyProof.ExcArgsOwn
import KE.RegKIsAll
import PyProof.DictIter
import PyProof.DictItems
import PyProof.DictItemsLoops
import PyProof.DictWalks
import KE.KDictList
import KE.KMinKey
import PyProof.ListRange
import PyProof.Rows.CallKwBuiltin
import KE.KDictOf
import PyProof.AttrMissHeap
import PyProof.EnumMake
import PyProof.EnumFor
import PyProof.Rows.RuleB_bool
import KE.KEqDict
import PyProof.StrCalls6
import PyProof.StrLawsReplace
import PyProof.Rows.FStr
import PyProof.Rows.StrJoin2
import PyProof.WalksMore
import PyProof.TupleOfStr
import KE.KUnpack
import PyProof.MaxThree
import KE.KSortTup
import PyProof.MeetsSeq2
import PyProof.FactsAll.set_2
import PyProof.FactsAll.subtypes_5
import KE.KRevIter
import KE.KIntText
import PyProof.Rows.StrDouble
import PySem.Challenge.RW_leastform_k79_values_read
set_option Elab.async false
set_option linter.all false
set_option maxRecDepth 100000
set_option maxHeartbeats 4000000
namespace L2
open PySem PySem.Spec PyProof.Rows
abbrev Key := Sum Int Str
def keyIs : Key -> Value -> Bool
 | .inl k, v => Value.isInt k v
 | .inr x, v => Value.isStrOf x v
def keyH (w : World) : Key -> Int
 | .inl k => hashInt k
 | .inr x => hashStr w x
theorem keyIs_shape : ∀ {k : Key} {v : Value}, keyIs k v = true -> (∃ i t, k = Sum.inl i /\ v = Value.int i t) \/ (∃ x t, k = Sum.inr x /\ v = Value.str x t)
 | .inl i, v, h => by
  obtain ⟨t, e⟩ := Value.isInt_shape (k := i) (v := v) h
  exact .inl ⟨i, t, rfl, e⟩
 | .inr x, v, h => by
  obtain ⟨t, e⟩ := Value.isStrOf_shape (x := x) (v := v) h
  exact .inr ⟨x, t, rfl, e⟩
theorem keyIs_int (i : Int) (t : Tok) : keyIs (.inl i) (.int i t) = true := by simp [keyIs, Value.isInt]
theorem keyIs_str (x : Str) (t : Tok) : keyIs (.inr x) (.str x t) = true := by simp [keyIs, Value.isStrOf]
theorem key_ll (a b : Int) : decide ((Sum.inl a : Key) = Sum.inl b) = (a == b) := by
 by_cases e : a = b
 ·subst e; simp
 ·have h : ¬ (Sum.inl a : Key) = Sum.inl b := fun q => e (Sum.inl.inj q)
  rw [decide_eq_false h]
  exact (beq_eq_false_iff_ne.mpr e).symm
theorem key_rr (a b : Str) : decide ((Sum.inr a : Key) = Sum.inr b) = decide (a = b) := by
 by_cases e : a = b
 ·subst e; simp
 ·have h : ¬ (Sum.inr a : Key) = Sum.inr b := fun q => e (Sum.inr.inj q)
  rw [decide_eq_false h, decide_eq_false e]
theorem key_lr (a : Int) (b : Str) : decide ((Sum.inl a : Key) = Sum.inr b) = false := decide_eq_false (fun q => nomatch q)
theorem key_rl (a : Str) (b : Int) : decide ((Sum.inr a : Key) = Sum.inl b) = false := decide_eq_false (fun q => nomatch q)
def mixKind (prog : Program) (w : World) : PySem.KeyKind prog w Key where
 is := keyIs
 hash := keyH w
 inj := fun v a b ha hb => by
  rcases keyIs_shape ha with ⟨i, t, rfl, rfl⟩ | ⟨x, t, rfl, rfl⟩
  ·rcases keyIs_shape hb with ⟨j, u, rfl, e⟩ | ⟨y, u, rfl, e⟩
   ·injection e with e1 _; rw [e1]
   ·exact nomatch e
  ·rcases keyIs_shape hb with ⟨j, u, rfl, e⟩ | ⟨y, u, rfl, e⟩
   ·exact nomatch e
   ·injection e with e1 _; rw [e1]
 byValue := fun k v h => by
  rcases keyIs_shape h with ⟨i, t, rfl, rfl⟩ | ⟨x, t, rfl, rfl⟩ <;> rfl
 pyHash := fun hv h => by
  rcases keyIs_shape hv with ⟨i, t, rfl, rfl⟩ | ⟨x, t, rfl, rfl⟩
  ·exact wpAny_pyHash_int h
  ·exact wpAny_pyHash_str h
 eqBool := fun hu hv h => by
  rcases keyIs_shape hu with ⟨i, t, rfl, rfl⟩ | ⟨x, t, rfl, rfl⟩
  ·rcases keyIs_shape hv with ⟨j, u, rfl, rfl⟩ | ⟨y, u, rfl, rfl⟩
   ·rw [key_ll] at h; exact wpAny_eqBool_int h
   ·rw [key_lr] at h; exact SeqAt.EqAt.int_str i t y u _ _ _ _ h
  ·rcases keyIs_shape hv with ⟨j, u, rfl, rfl⟩ | ⟨y, u, rfl, rfl⟩
   ·rw [key_rl] at h; exact SeqAt.EqAt.str_int x t j u _ _ _ _ h
   ·rw [key_rr] at h; exact wpAny_eqBool_str h
 «strs» := fun k x t v h => by
  rcases keyIs_shape h with ⟨i, u, rfl, e⟩ | ⟨y, u, rfl, e⟩
  ·exact nomatch e
  ·injection e with e1 _
   subst e1
   cases v <;> rfl
theorem mixKind_int (prog : Program) (w : World) (i : Int) (t : Tok) : (mixKind prog w).is (.inl i) (.int i t) = true := keyIs_int i t
theorem mixKind_str (prog : Program) (w : World) (x : Str) (t : Tok) : (mixKind prog w).is (.inr x) (.str x t) = true := keyIs_str x t
end L2
namespace L2
open PySem PySem.Spec PyProof.Rows
inductive V where
 | non | bl (b : Bool) | int (i : Int) | str (x : Str) | byt (b : Array UInt8) | flt (b : UInt64) | ref (a : Addr) | ty (n : String)
 deriving DecidableEq
def RelV : V -> Value -> Prop
 | .non, u => u = Value.none
 | .bl b, u => u = Value.bool b
 | .int i, u => ∃ t, u = Value.int i t
 | .str x, u => ∃ t, u = Value.str x t
 | .byt b, u => ∃ t, u = Value.bytes b t
 | .flt b, u => ∃ t, u = Value.float b t
 | .ref a, u => u = Value.ref a
 | .ty n, u => u = Value.type n
abbrev Vals : List V -> List Value -> Prop := Paired RelV
theorem Vals.length {xs : List V} {us : List Value} (r : Vals xs us) : xs.length = us.length := Paired.length r
theorem Vals.get : ∀ {xs : List V} {us : List Value} {i : Nat} {x : V}, Vals xs us -> xs[i]? = some x -> ∃ u, us[i]? = some u /\ RelV x u
 | _, _, _, _, .nil, e => by simp at e
 | _, _, 0, _, .cons r _, e => by simp at e; subst e; exact ⟨_, rfl, r⟩
 | _, _, i + 1, x, .cons _ t, e => by
  obtain ⟨u, h1, h2⟩ := Vals.get (i := i) (x := x) t (by simpa using e)
  exact ⟨u, by simpa using h1, h2⟩
theorem Vals.set {x : V} {u : Value} (r : RelV x u) : ∀ {xs : List V} {us : List Value} (i : Nat), Vals xs us -> Vals (xs.set i x) (us.set i u)
 | _, _, _, .nil => .nil
 | _, _, 0, .cons _ t => .cons r t
 | _, _, i + 1, .cons q t => .cons q (Vals.set r i t)
theorem Vals.append : ∀ {xs ys : List V} {us ws : List Value}, Vals xs us -> Vals ys ws -> Vals (xs ++ ys) (us ++ ws)
 | _, _, _, _, .nil, s => s
 | _, _, _, _, .cons r t, s => .cons r (Vals.append t s)
theorem Vals.take : ∀ {xs : List V} {us : List Value} (n : Nat), Vals xs us -> Vals (xs.take n) (us.take n)
 | _, _, 0, _ => .nil
 | _, _, _ + 1, .nil => .nil
 | _, _, n + 1, .cons r t => .cons r (Vals.take n t)
theorem Vals.drop : ∀ {xs : List V} {us : List Value} (n : Nat), Vals xs us -> Vals (xs.drop n) (us.drop n)
 | _, _, 0, r => r
 | _, _, _ + 1, .nil => .nil
 | _, _, n + 1, .cons _ t => Vals.drop n t
def RelO : Option V -> Option Value -> Prop
 | some v, some u => RelV v u
 | none, none => True
 | _, _ => False
def KV {κ : Type} : List (κ × V) -> List (κ × Value) -> Prop := Paired fun (p : κ × V) (q : κ × Value) => p.1 = q.1 /\ RelV p.2 q.2
def kV : Key -> V
 | .inl i => .int i
 | .inr x => .str x
inductive HO where
 /-- a list -/
 | lst (xs : List V)
 /-- a tuple (never changes) -/
 | tup (xs : List V)
 /-- a dict whose keys are ints and texts; one whose keys are tuples of ints and texts (the empty one is both) -/
 | dK (kvs : List (Key × V)) | dT (kvs : List (List Key × V))
 /-- a set of ints: its members, its size -/
 | set (S : Int -> Bool) (n : Nat)
 /-- an instance of the class at C, its dict at dx, its attributes -/
 | ins (C dx : Addr) (fs : List (Str × V))
 /-- the dict of the instance at x -/
 | own (x : Addr)
 /-- the dict of an exception -/
 | xd (fs : List (Str × V))
 /-- a bound method, f of x -/
 | met (f x : Addr)
 /-- a range object lo, lo + 1, .. below hi -/
 | rng (lo hi : Int)
 /-- a thing that is known to the object (the script; a dict while a loop walks it): read, never written while it is so -/
 | frz (o : Obj) (u : HO)
 /-- a code object's table -/
 | tbl (ps : Array Value)
 /-- any other thing, by what is true of its one object (a def of one's own: SetO a S n := HO.ext fun h => ..) -/
 | ext (φ : Heap -> Prop)
abbrev Hp := Addr -> Option HO
def upd (H : Hp) (a : Addr) (o : HO) : Hp := fun b => if b = a then some o else H b
theorem upd_same {H : Hp} {a : Addr} {o : HO} : upd H a o a = some o := by unfold upd; rw [if_pos rfl]
theorem upd_ne {H : Hp} {a b : Addr} {o : HO} (h : b ≠ a) : upd H a o b = H b := by unfold upd; rw [if_neg h]
theorem ne_of {H : Hp} {a b : Addr} {o u : HO} (h : H a = some o) (h' : H b = some u) (d : o ≠ u) : a ≠ b := by
 intro e; subst e; rw [h] at h'; exact d (Option.some.inj h')
theorem ne_of_none {H : Hp} {a b : Addr} {o : HO} (h : H a = some o) (h' : H b = none) : a ≠ b := by
 intro e; subst e; rw [h] at h'; cases h'
section
variable (P : Program) (w : World)
def ObjOk (H : Hp) (h : Heap) (a : Addr) : HO -> Prop
 | .lst xs => xs.length <= sizeLine /\ ∃ (its : List Value) (n : Nat), Vals xs its /\ h.get? a = some { cls := .type "list", data := .seq its.toArray n }
 | .tup xs => xs.length <= sizeLine /\ ∃ its : List Value, Vals xs its /\ IsTup h a its.toArray
 | .dK kvs => kvs.length <= sizeLine /\ (a == sysModules) = false /\ ∃ vs, KV kvs vs /\ h.DictOf (mixKind P w) a vs
 | .dT kvs => kvs.length <= sizeLine /\ (a == sysModules) = false /\ ∃ xs : List (List Key × Addr × Value),
   Paired (fun (p : List Key × V) (q : List Key × Addr × Value) => p.1 = q.1 /\ H q.2.1 = some (.tup (p.1.map kV)) /\ RelV p.2 q.2.2) kvs xs /\
   ∃ o es ep, h.get? a = some o /\ o.ExactDict /\ o.data = .dict es ep /\ es.toList = xs.map (entryOfKey (tupleKind (mixKind P w))) /\ (xs.map (·.1)).Nodup
 | .set S n => h.SetOf (intKind P w) a S n
 | .ins C dx fs => H dx = some (.own a) /\ fs.length <= 1000 /\ dx ≠ a /\ h.get? a = some (PySem.W.instObj C dx) /\
   ∃ mA, h.Ns1 dx mA /\ (∀ f, RelO (fs.lookup f) (mA f)) /\ PySem.Within mA (fs.map (·.1))
 | .own _ => ∃ o, h.get? a = some o
 | .xd fs => ∃ mA, h.Ns1 a mA /\ ∀ f, RelO (fs.lookup f) (mA f)
 | .rng lo hi => ∃ t u v, h.get? a = some { cls := .type "range", data := .fields #[.int lo t, .int hi u, .int 1 v] }
 | .frz o u => h.get? a = some o /\ ObjOk H h a u
 | .tbl ps => h.get? a = some { cls := .none, data := .fields ps }
 | .met f x => h.get? a = some (PySem.W.methodObj (.ref f) (.ref x))
 | .ext φ => φ h /\ (∃ o, h.get? a = some o) /\ ∀ h1 h2 : Heap, φ h1 -> (∀ o, h1.get? a = some o -> h2.get? a = some o) -> φ h2
def HOk (H : Hp) (h : Heap) : Prop := ∀ a o, H a = some o -> ObjOk P w H h a o
end
section
variable {P : Program} {w : World} {H H' : Hp} {h h' : Heap} {a : Addr} {o : HO}
theorem ObjOk.lt (x : ObjOk P w H h a o) : a < h.objs.size := by
 cases o with
 | lst xs => obtain ⟨_, _, _, _, e⟩ := x; exact Heap.lt_size e
 | tup xs => obtain ⟨_, _, _, p⟩ := x; exact p.lt
 | dK kvs => obtain ⟨_, _, _, _, o, _, _, e, _⟩ := x; exact Heap.lt_size e
 | dT kvs => obtain ⟨_, _, _, _, o, _, _, e, _⟩ := x; exact Heap.lt_size e
 | set S n => obtain ⟨o, _, _, _, e, _⟩ := x; exact Heap.lt_size e
 | ins C dx fs => obtain ⟨_, _, _, e, _⟩ := x; exact Heap.lt_size e
 | own y => obtain ⟨_, e⟩ := x; exact Heap.lt_size e
 | xd fs => obtain ⟨_, ⟨_, _, _, e, _⟩, _⟩ := x; exact Heap.lt_size e
 | rng lo hi => obtain ⟨_, _, _, e⟩ := x; exact Heap.lt_size e
 | frz ob u => obtain ⟨e, _⟩ := x; exact Heap.lt_size e
 | tbl ps => exact Heap.lt_size (show h.get? a = some _ from x)
 | met f y => exact Heap.lt_size (show h.get? a = some _ from x)
 | ext φ => obtain ⟨_, ⟨_, e⟩, _⟩ := x; exact Heap.lt_size e
theorem Paired.mapP {α β : Type} {F G : α -> β -> Prop} : ∀ {l₁ : List α} {l₂ : List β}, Paired F l₁ l₂ -> (∀ a b, F a b -> G a b) -> Paired G l₁ l₂
 | _, _, .nil, _ => .nil
 | _, _, .cons r t, f => .cons (f _ _ r) (Paired.mapP t f)
theorem ObjOk.stay (x : ObjOk P w H h a o) (k : ∀ b u, (b = a \/ H b = some (.own a)) -> h.get? b = some u -> h'.get? b = some u)
  (ho : ∀ b, H b = some (.own a) -> H' b = some (.own a)) (ht : ∀ b xs, H b = some (.tup xs) -> H' b = some (.tup xs)) : ObjOk P w H' h' a o := by
 induction o with
 | lst xs => obtain ⟨z, its, n, r, e⟩ := x; exact ⟨z, its, n, r, k _ _ (.inl rfl) e⟩
 | tup xs => obtain ⟨z, its, r, ob, e, c⟩ := x; exact ⟨z, its, r, ob, k _ _ (.inl rfl) e, c⟩
 | dK kvs => obtain ⟨z, y, vs, r, ob, es, ep, e, c⟩ := x; exact ⟨z, y, vs, r, ob, es, ep, k _ _ (.inl rfl) e, c⟩
 | dT kvs =>
  obtain ⟨z, y, xs, r, ob, es, ep, e, c⟩ := x
  exact ⟨z, y, xs, Paired.mapP r fun p q z => ⟨z.1, ht _ _ z.2.1, z.2.2⟩, ob, es, ep, k _ _ (.inl rfl) e, c⟩
 | set S n => obtain ⟨ob, es, ep, t, e, c⟩ := x; exact ⟨ob, es, ep, t, k _ _ (.inl rfl) e, c⟩
 | ins C dx fs =>
  obtain ⟨d, z, ne, e, mA, ⟨od, es, ep, e2, c⟩, r⟩ := x
  exact ⟨ho _ d, z, ne, k _ _ (.inl rfl) e, mA, ⟨od, es, ep, k _ _ (.inr d) e2, c⟩, r⟩
 | own y => obtain ⟨ob, e⟩ := x; exact ⟨ob, k _ _ (.inl rfl) e⟩
 | xd fs => obtain ⟨mA, ⟨od, es, ep, e, c⟩, r⟩ := x; exact ⟨mA, ⟨od, es, ep, k _ _ (.inl rfl) e, c⟩, r⟩
 | rng lo hi => obtain ⟨t, u, v, e⟩ := x; exact ⟨t, u, v, k _ _ (.inl rfl) e⟩
 | frz ob u ih => obtain ⟨e, q⟩ := x; exact ⟨k _ _ (.inl rfl) e, ih q⟩
 | tbl ps =>
  have e : h.get? a = some { cls := .none, data := .fields ps } := x
  show h'.get? a = some { cls := .none, data := .fields ps }
  exact k a _ (.inl rfl) e
 | met f y =>
  have e : h.get? a = some (PySem.W.methodObj (.ref f) (.ref y)) := x
  show h'.get? a = some (PySem.W.methodObj (.ref f) (.ref y))
  exact k a _ (.inl rfl) e
 | ext φ => obtain ⟨p, ⟨o, e⟩, st⟩ := x; exact ⟨st _ _ p fun o q => k _ _ (.inl rfl) q, ⟨o, k _ _ (.inl rfl) e⟩, st⟩
theorem HOk.lt (x : HOk P w H h) (e : H a = some o) : a < h.objs.size := (x a o e).lt
theorem HOk.fresh (x : HOk P w H h) (e : h.objs.size <= a) : H a = none := by
 cases q : H a with
 | none => rfl
 | some u => exact absurd (Nat.lt_of_lt_of_le (x.lt q) e) (Nat.lt_irrefl _)
theorem HOk.kept (x : HOk P w H h) (k : ∀ b u, h.get? b = some u -> h'.get? b = some u) : HOk P w H h' := fun a o e =>
 (x a o e).stay (fun b u _ q => k b u q) (fun _ q => q) fun _ _ q => q
theorem HOk.laid (x : HOk P w H h) (k : ∀ b u, h.get? b = some u -> h'.get? b = some u) (hp : h.objs.size <= a) (new : ObjOk P w (upd H a o) h' a o) : HOk P w (upd H a o) h' := fun b u e => by
 have hn := x.fresh hp
 by_cases hb : b = a
 ·subst hb; rw [upd_same] at e; cases e; exact new
 ·rw [upd_ne hb] at e
  exact (x b u e).stay (fun c v _ q => k c v q) (fun c q => by rw [upd_ne (ne_of_none q hn)]; exact q) fun c xs q => by rw [upd_ne (ne_of_none q hn)]; exact q
end
def Rd (H : Hp) (a : Addr) (u : HO) : Prop := H a = some u \/ ∃ o, H a = some (.frz o u)
theorem Rd.ok {P : Program} {w : World} {H : Hp} {h : Heap} {a : Addr} {u : HO} (r : Rd H a u) (x : HOk P w H h) : ObjOk P w H h a u := by
 rcases r with r | ⟨o, r⟩
 ·exact x a u r
 ·obtain ⟨_, q⟩ := x a _ r
  exact q
def Mut : Option HO -> Prop
 | some (.lst _) => True
 | some (.dK _) => True
 | some (.dT _) => True
 | some (.set _ _) => True
 | some (.ins _ _ _) => True
 | some (.ext _) => True
 | _ => False
section
variable {P : Program} {w : World} {H : Hp} {h h' : Heap} {x e : Addr} {o' : HO}
theorem HOk.write (ok : HOk P w H h) (mu : Mut (H x)) (he : e = x \/ H e = some (.own x)) (k : ∀ b u, b ≠ e -> h.get? b = some u -> h'.get? b = some u) (heo : ∃ u, h'.get? e = some u)
  (new : ObjOk P w (upd H x o') h' x o') : HOk P w (upd H x o') h' := fun b u q => by
 have nown : ∀ c y, H c = some (.own y) -> c ≠ x := fun c y r z => by subst z; rw [r] at mu; exact mu
 have ntup : ∀ c xs, H c = some (.tup xs) -> c ≠ x := fun c xs r z => by subst z; rw [r] at mu; exact mu
 by_cases hb : b = x
 ·subst hb; rw [upd_same] at q; cases q; exact new
 ·rw [upd_ne hb] at q
  by_cases hbe : b = e
  ·have q' : H b = some (.own x) := by
    rcases he with z | z
    ·exact absurd (hbe.trans z) hb
    ·rw [hbe]; exact z
   rw [q] at q'; cases q'
   obtain ⟨v, hv⟩ := heo
   exact ⟨v, by rw [hbe]; exact hv⟩
  ·refine (ok b u q).stay (fun c v hc r => k c v ?_ r) (fun c r => by rw [upd_ne (nown c b r)]; exact r) fun c xs r => by rw [upd_ne (ntup c xs r)]; exact r
   rcases hc with rfl | hc
   ·exact hbe
   ·rintro rfl
    rcases he with z | z
    ·exact nown c b hc z
    ·rw [hc] at z; cases z; exact hb rfl
end
structure Un (fs ex : List Addr) (H H' : Hp) (h h' : Heap) : Prop where
 keep : ∀ b o, h.get? b = some o -> H b = none -> b ∉ fs -> b ∉ ex -> h'.get? b = some o
 slot : ∀ b o, h.get? b = some o -> H b = none -> b ∈ fs -> b ∉ ex -> ∃ sl, h'.get? b = some { o with slots := sl }
 free : ∀ b o, h.get? b = some o -> H b = none -> b ∉ ex -> H' b = none
 there : ∀ b o, h.get? b = some o -> b ∉ ex -> ∃ o', h'.get? b = some o'
 tups : ∀ b xs, H b = some (.tup xs) -> H' b = some (.tup xs)
 frzs : ∀ b o u, H b = some (.frz o u) -> H' b = some (.frz o u)
 tbls : ∀ b ps, H b = some (.tbl ps) -> ∃ more, H' b = some (.tbl (ps ++ more))
section
variable {fs fs' ex ex' : List Addr} {H H1 H2 : Hp} {h h1 h2 h' : Heap} {a x e : Addr} {o : HO}
theorem Un.any (u : Un fs ex H H1 h h1) {b : Addr} {ob : Obj} (q : h.get? b = some ob) (n : H b = none) (hx : b ∉ ex) : ∃ sl, h1.get? b = some { ob with slots := sl } := by
 by_cases hb : b ∈ fs
 ·exact u.slot b ob q n hb hx
 ·exact ⟨ob.slots, u.keep b ob q n hb hx⟩
theorem Un.kept (k : ∀ b u, h.get? b = some u -> h'.get? b = some u) : Un fs ex H H h h' :=
 ⟨fun b ob q _ _ _ => k b ob q, fun b ob q _ _ _ => ⟨ob.slots, k b ob q⟩, fun _ _ _ n _ => n, fun b ob q _ => ⟨ob, k b ob q⟩, fun _ _ q => q, fun _ _ _ q => q, fun _ ps q => ⟨#[], by rw [q]; simp⟩⟩
theorem Un.refl : Un fs ex H H h h := Un.kept fun _ _ q => q
theorem Un.laid (k : ∀ b u, h.get? b = some u -> h'.get? b = some u) (hp : h.objs.size <= a) (hn : H a = none) : Un fs ex H (upd H a o) h h' where
 keep := fun b u q _ _ _ => k b u q
 slot := fun b u q _ _ _ => ⟨u.slots, k b u q⟩
 free := fun b u q n _ => by rw [upd_ne (Nat.ne_of_lt (Nat.lt_of_lt_of_le (Heap.lt_size q) hp))]; exact n
 there := fun b u q _ => ⟨u, k b u q⟩
 tups := fun b xs q => by rw [upd_ne (ne_of_none q hn)]; exact q
 frzs := fun b u xs q => by rw [upd_ne (ne_of_none q hn)]; exact q
 tbls := fun b ps q => ⟨#[], by rw [upd_ne (ne_of_none q hn), q]; simp⟩
theorem Un.write (mu : Mut (H x)) (he : e = x \/ H e = some (.own x)) (k : ∀ b u, b ≠ e -> h.get? b = some u -> h'.get? b = some u) (heo : ∃ u, h'.get? e = some u) : Un fs ex H (upd H x o) h h' := by
 have hx : ∀ b, H b = none -> b ≠ x := fun b n z => by subst z; rw [n] at mu; exact mu
 have hb : ∀ b, H b = none -> b ≠ e := fun b n z => by
  subst z
  rcases he with r | r
  ·exact hx b n r
  ·rw [n] at r; cases r
 have hm : ∀ b u, H b = some u -> ¬ Mut (some u) -> b ≠ x := fun b u q nm z => by subst z; rw [q] at mu; exact nm mu
 refine ⟨fun b u q n _ _ => k b u (hb b n) q, fun b u q n _ _ => ⟨u.slots, k b u (hb b n) q⟩, fun b u q n _ => by rw [upd_ne (hx b n)]; exact n, fun b u q _ => ?_,
  fun b xs q => by rw [upd_ne (hm b _ q fun z => z)]; exact q, fun b u xs q => by rw [upd_ne (hm b _ q fun z => z)]; exact q, fun b ps q => ⟨#[], by rw [upd_ne (hm b _ q fun z => z), q]; simp⟩⟩
 by_cases hbe : b = e
 ·subst hbe; exact heo
 ·exact ⟨u, k b u hbe q⟩
end
def trk (h : Heap) (H : Hp) : List Addr := (List.range h.objs.size).filter fun a => (H a).isSome
def hidT (h : Heap) (H : Hp) : Heap := PySem.W.hideAll h (trk h H)
theorem hidT_size (h : Heap) (H : Hp) : (hidT h H).objs.size = h.objs.size := PySem.W.hideAll_size _ _
theorem hidT_get {h : Heap} {H : Hp} {b : Addr} {o : Obj} (e : h.get? b = some o) (n : H b = none) : (hidT h H).get? b = some o :=
 PySem.W.hideAll_get _ e fun hm => by
  have q : (H b).isSome = true := (List.mem_filter.mp hm).2
  rw [n] at q; simp at q
theorem of_hidT {h : Heap} {H : Hp} {b : Addr} {o : Obj} (e : (hidT h H).get? b = some o) : h.get? b = some o /\ H b = none := by
 have e' : h.get? b = some o := PySem.W.of_hideAll (trk h H) e
 refine ⟨e', ?_⟩
 cases q : H b with
 | none => rfl
 | some x =>
  have hm : b ∈ trk h H := List.mem_filter.mpr ⟨List.mem_range.mpr (Heap.lt_size e'), by simp [q]⟩
  have z : (hidT h H).get? b = none := PySem.W.hideAll_none (trk h H) hm
  rw [z] at e; cases e
end L2
namespace L2
open PySem PySem.Spec PyProof.Rows
structure Mod (K : PySem.W.Frag) (mg : Str -> Option Value) (base : Heap) : Prop where
 kin : K.In base
 glob : base.Ns mainGlobals mg
 blt : ∃ mb, base.Ns builtinsNs mb /\ ∀ x : Str, x ≠ "__name__" -> mb x = bootBuiltins x
 nolimit : base.NoLimit
structure Cx where
 prog : Program
 w : World
 K : PySem.W.Frag
 mg : Str -> Option Value
 base : Heap
 A : Around
 N : List Str
 s₀ : Shared
 H₀ : Hp
 env : Env
 outer : List Env
 stack : List Env
 ex : List Addr
 fn : Str -> Bool
 calm : Bool
 pn : List (Addr × Obj)
 xe : Value -> Shared -> Prop
def frs (l : List Env) : List Addr := l.filterMap (·.frame)
abbrev Cx.fs (X : Cx) : List Addr := frs X.outer
def Vis (sc : Scope) (x : Str) : Prop := sc.names.lookup x = some .local \/ sc.names.lookup x = some .cell \/ sc.names.lookup x = some .free
def Loc (sc : Scope) (x : Str) : Prop := sc.names.lookup x = some .local \/ sc.names.lookup x = some .cell
def Look (env : Env) (h : Heap) (m : Str -> Option Value) (x : Str) (u : Value) : Prop :=
 (env.kindOf x = some .local /\ m x = some u) \/ ((env.kindOf x = some .cell \/ env.kindOf x = some .free) /\ ∃ c, env.cells.lookup x = some c /\ h.IsCell c (some u))
structure Cx.Ok (X : Cx) : Prop where
 mod : Mod X.K X.mg X.base
 kind : X.env.scope.kind = .function
 glob : X.env.globals = mainGlobals
 blt : X.env.builtins = builtinsNs
 above : X.s₀.heap.objs.size <= X.env.locals
 inj : ∀ x y c, X.env.cells.lookup x = some c -> X.env.cells.lookup y = some c -> x = y
 has : ∀ x, (X.env.kindOf x = some .cell \/ X.env.kindOf x = some .free) -> ∃ c, X.env.cells.lookup x = some c
 cab : ∀ x c, X.fn x = true -> X.env.cells.lookup x = some c -> X.s₀.heap.objs.size <= c
 hd : X.calm = true -> X.A.handled = none
 frames : X.A.frames = some X.stack
 stk : X.stack = X.outer \/ (X.stack = X.env :: X.outer /\ X.env.frame = some X.env.locals)
 exf : ∀ b ∈ X.ex, b ≠ X.env.locals /\ ∀ x c, X.env.cells.lookup x = some c -> c ≠ b
 bs : ∀ b o, X.base.get? b = some o -> X.s₀.heap.get? b = some o /\ X.H₀ b = none
 bsz : X.base.objs.size <= X.s₀.heap.objs.size
 noex : ∀ b o, X.base.get? b = some o -> b ∉ X.ex
 exfs : ∀ b ∈ X.ex, b ∉ X.fs
 funs : X.s₀.heap.FunFrames X.base X.outer
 frf : ∀ b ∈ X.fs, X.H₀ b = none
structure Inv (X : Cx) (pins : List (Addr × Obj)) (σ : List (Option V)) (H : Hp) (s : Shared) : Prop where
 ok : X.Ok
 os : s.os = X.s₀.os
 bare : AllBare s.gens
 base : Un X.fs X.ex X.H₀ H X.s₀.heap s.heap
 loc : ∃ m, s.heap.Ns X.env.locals m /\ ∀ (i : Nat) (x : Str) (v : V), X.N[i]? = some x -> σ[i]? = some (some v) -> Vis X.env.scope x -> ∃ u, RelV v u /\ Look X.env s.heap m x u
 cell : ∀ x c, X.env.cells.lookup x = some c -> ∃ v, s.heap.IsCell c v
 free : H X.env.locals = none
 freeC : ∀ x c, X.env.cells.lookup x = some c -> H c = none
 pin : ∀ p ∈ X.pn ++ pins, s.heap.get? p.1 = some p.2 /\ H p.1 = none /\ p.1 ≠ X.env.locals /\ p.1 ∉ X.fs /\ ∀ v, p.2.data ≠ .cell v
 hok : HOk X.prog X.w H s.heap
 len : σ.length = X.N.length
section
variable {X : Cx} {pins : List (Addr × Obj)} {σ : List (Option V)} {H H' : Hp} {s : Shared} {h' : Heap}
theorem Cx.Ok.nofr (ok : X.Ok) {b : Addr} {o : Obj} (e : X.base.get? b = some o) : b ∉ X.fs := fun hb => by
 have := (ok.funs.mem hb).1
 rw [e] at this; cases this
theorem Inv.bs (I : Inv X pins σ H s) : ∀ b o, X.base.get? b = some o -> s.heap.get? b = some o /\ H b = none := fun b o e =>
 ⟨I.base.keep b o (I.ok.bs b o e).1 (I.ok.bs b o e).2 (I.ok.nofr e) (I.ok.noex b o e), I.base.free b o (I.ok.bs b o e).1 (I.ok.bs b o e).2 (I.ok.noex b o e)⟩
theorem Inv.bk (I : Inv X pins σ H s) : ∀ b o, X.base.get? b = some o -> s.heap.get? b = some o := fun b o e => (I.bs b o e).1
theorem Inv.mod (I : Inv X pins σ H s) : Mod X.K X.mg X.base := I.ok.mod
theorem Inv.kIn (I : Inv X pins σ H s) : X.K.In s.heap := I.ok.mod.kin.keeps I.bk
theorem Inv.lt (I : Inv X pins σ H s) : X.env.locals < s.heap.objs.size := let ⟨_, hn, _⟩ := I.loc; hn.lt
theorem Inv.sz (I : Inv X pins σ H s) : X.s₀.heap.objs.size <= s.heap.objs.size := Nat.le_trans I.ok.above (Nat.le_of_lt I.lt)
theorem Inv.nofs (I : Inv X pins σ H s) {a : Addr} (h : s.heap.objs.size <= a) : a ∉ X.fs := fun hb => by
 obtain ⟨_, o, ho, _⟩ := I.ok.funs.mem hb
 exact absurd (Nat.lt_of_lt_of_le (Heap.lt_size ho) (Nat.le_trans I.sz h)) (Nat.lt_irrefl _)
theorem Inv.cne (I : Inv X pins σ H s) : ∀ x c, X.env.cells.lookup x = some c -> c ≠ X.env.locals := fun x c e z => by
 obtain ⟨v, o, ho, hd⟩ := I.cell x c e
 obtain ⟨m, ⟨o', es, ep, ho', hd', _⟩, _⟩ := I.loc
 rw [z, ho'] at ho; cases ho; rw [hd'] at hd; cases hd
theorem Inv.funs (I : Inv X pins σ H s) : s.heap.FunFrames X.base X.outer := by
 have all : ∀ (l : List Env), (∀ b ∈ frs l, b ∈ X.fs) -> X.s₀.heap.FunFrames X.base l -> s.heap.FunFrames X.base l := by
  intro l
  induction l with
  | nil => intro _ _; trivial
  | cons env r ih =>
   intro hs hl
   obtain ⟨hk, ⟨L, o, hf, hn, ho, hd⟩, hr⟩ := hl
   have hL : L ∈ X.fs := hs L (by unfold frs; rw [List.filterMap_cons, hf]; exact List.mem_cons_self)
   obtain ⟨sl, e⟩ := I.base.slot L o ho (I.ok.frf L hL) hL fun z => I.ok.exfs L z hL
   exact ⟨hk, ⟨L, _, hf, hn, e, hd⟩, ih (fun b hb => hs b (by unfold frs; rw [List.filterMap_cons, hf]; exact List.mem_cons_of_mem _ hb)) hr⟩
 exact all X.outer (fun _ hb => hb) I.ok.funs
theorem Inv.stack (I : Inv X pins σ H s) : s.heap.FunFrames X.base X.stack := by
 rcases I.ok.stk with e | ⟨e, hf⟩
 ·rw [e]; exact I.funs
 ·rw [e]
  obtain ⟨m, hn, _⟩ := I.loc
  refine .cons (by rw [I.ok.kind]; decide) hf hn ?_ I.funs
  exact Heap.get?_none_of_le (Nat.le_trans I.ok.bsz I.ok.above)
theorem Inv.stkSub (I : Inv X pins σ H s) : ∀ b ∈ frs X.stack, b ∈ X.env.locals :: X.fs := fun b hb => by
 rcases I.ok.stk with e | ⟨e, hf⟩
 ·rw [e] at hb; exact List.mem_cons_of_mem _ hb
 ·rw [e] at hb
  unfold frs at hb
  rw [List.filterMap_cons, hf] at hb
  exact hb
theorem Inv.stkFree (I : Inv X pins σ H s) : ∀ b ∈ frs X.stack, H b = none := fun b hb => by
 rcases List.mem_cons.mp (I.stkSub b hb) with e | hb
 ·rw [e]; exact I.free
 ·obtain ⟨_, o, ho, _⟩ := I.ok.funs.mem hb
  exact I.base.free b o ho (I.ok.frf b hb) fun z => I.ok.exfs b z hb
theorem Inv.step {g' : Array GenState} {t' : Nat} {d' : Drawn} {ch : List Addr} (I : Inv X pins σ H s)
  (hch : ∀ b ∈ ch, (b ∈ X.ex \/ X.s₀.heap.objs.size <= b) /\ b ≠ X.env.locals /\ (∀ x c, X.env.cells.lookup x = some c -> c ≠ b) /\ ∀ p ∈ X.pn ++ pins, p.1 ≠ b)
  (keep : ∀ b o, b ≠ X.env.locals -> b ∉ X.fs -> b ∉ ch -> s.heap.get? b = some o -> H b = none -> h'.get? b = some o)
  (slot : ∀ b o, b ≠ X.env.locals -> b ∈ X.fs -> b ∉ ch -> s.heap.get? b = some o -> H b = none -> ∃ sl, h'.get? b = some { o with slots := sl }) (free : ∀ b o, b ∉ ch -> s.heap.get? b = some o -> H b = none -> H' b = none)
  (there : ∀ b o, b ∉ ch -> s.heap.get? b = some o -> ∃ o', h'.get? b = some o')
  (tups : ∀ b xs, H b = some (.tup xs) -> H' b = some (.tup xs)) (frzs : ∀ b o u, H b = some (.frz o u) -> H' b = some (.frz o u)) (tbls : ∀ b ps, H b = some (.tbl ps) -> ∃ more, H' b = some (.tbl (ps ++ more)))
  (ns : ∀ m, s.heap.Ns X.env.locals m -> h'.Ns X.env.locals m) (hok : HOk X.prog X.w H' h') (hg : AllBare g') :
  Inv X pins σ H' { s with heap := h', gens := g', drawn := d', toks := t' } := by
 have neL : ∀ b o, X.s₀.heap.get? b = some o -> b ≠ X.env.locals := fun b o e => Nat.ne_of_lt (Nat.lt_of_lt_of_le (Heap.lt_size e) I.ok.above)
 have neC : ∀ b o, X.s₀.heap.get? b = some o -> b ∉ X.ex -> b ∉ ch := fun b o e hx hb => by
  rcases (hch b hb).1 with z | z
  ·exact hx z
  ·exact absurd (Nat.lt_of_lt_of_le (Heap.lt_size e) z) (Nat.lt_irrefl _)
 have cellK : ∀ x c, X.env.cells.lookup x = some c -> ∀ v, s.heap.IsCell c v -> h'.IsCell c v := fun x c e v ⟨o, ho, hd⟩ => by
  have nch : c ∉ ch := fun z => (hch c z).2.2.1 x c e rfl
  by_cases hc : c ∈ X.fs
  ·obtain ⟨sl, q⟩ := slot c o (I.cne x c e) hc nch ho (I.freeC x c e)
   exact ⟨_, q, hd⟩
  ·exact ⟨o, keep c o (I.cne x c e) hc nch ho (I.freeC x c e), hd⟩
 refine ⟨I.ok, I.os, hg, ⟨fun b o e n hb hx => ?_, fun b o e n hb hx => ?_, fun b o e n hx => ?_, fun b o e hx => ?_, fun b xs e => tups b xs (I.base.tups b xs e), fun b o xs e => frzs b o xs (I.base.frzs b o xs e), fun b ps e => ?_⟩, ?_, fun x c e => ?_, ?_, fun x c e => ?_, fun p hp => ?_, hok, I.len⟩
 ·exact keep b o (neL b o e) hb (neC b o e hx) (I.base.keep b o e n hb hx) (I.base.free b o e n hx)
 ·obtain ⟨sl, e1⟩ := I.base.slot b o e n hb hx
  obtain ⟨sl', e2⟩ := slot b _ (neL b o e) hb (neC b o e hx) e1 (I.base.free b o e n hx)
  exact ⟨sl', e2⟩
 ·obtain ⟨o', e1⟩ := I.base.there b o e hx
  exact free b o' (neC b o e hx) e1 (I.base.free b o e n hx)
 ·obtain ⟨o', e1⟩ := I.base.there b o e hx
  exact there b o' (neC b o e hx) e1
 ·obtain ⟨m1, e1⟩ := I.base.tbls b ps e
  obtain ⟨m2, e2⟩ := tbls b _ e1
  exact ⟨m1 ++ m2, by rw [e2, Array.append_assoc]⟩
 ·obtain ⟨m, hn, hl⟩ := I.loc
  refine ⟨m, ns m hn, fun i x v e1 e2 e3 => ?_⟩
  obtain ⟨u, r, l⟩ := hl i x v e1 e2 e3
  refine ⟨u, r, ?_⟩
  rcases l with l | ⟨k, c, e, z⟩
  ·exact .inl l
  ·exact .inr ⟨k, c, e, cellK x c e _ z⟩
 ·obtain ⟨v, z⟩ := I.cell x c e
  exact ⟨v, cellK x c e v z⟩
 ·obtain ⟨m, ⟨o, _, _, ho, _⟩, _⟩ := I.loc
  exact free _ o (fun z => (hch _ z).2.1 rfl) ho I.free
 ·obtain ⟨v, o, ho, hd⟩ := I.cell x c e
  exact free c o (fun z => (hch c z).2.2.1 x c e rfl) ho (I.freeC x c e)
 ·obtain ⟨e, n, ne, nf, d⟩ := I.pin p hp
  have nch : p.1 ∉ ch := fun z => (hch p.1 z).2.2.2 p hp rfl
  exact ⟨keep p.1 p.2 ne nf nch e n, free p.1 p.2 nch e n, ne, nf, d⟩
theorem Inv.un {t' : Nat} (I : Inv X pins σ H s) (u : Un X.fs [] H H' s.heap h') (hok : HOk X.prog X.w H' h') : Inv X pins σ H' { s with heap := h', toks := t' } := by
 obtain ⟨m, ⟨o, es, ep, ho, r⟩, _⟩ := id I.loc
 obtain ⟨sl, hL⟩ := u.any ho I.free (by simp)
 exact I.step (g' := s.gens) (d' := s.drawn) (ch := []) (fun _ z => nomatch z) (fun b o _ hb _ e n => u.keep b o e n hb (by simp)) (fun b o _ hb _ e n => u.slot b o e n hb (by simp)) (fun b o _ e n => u.free b o e n (by simp)) (fun b o _ e => u.there b o e (by simp)) u.tups u.frzs u.tbls (fun m' hm => by
  obtain ⟨o', es', ep', ho', r'⟩ := hm
  rw [ho] at ho'; cases ho'
  exact ⟨_, es', ep', hL, r'⟩) hok I.bare
theorem Inv.call {g' : Array GenState} {t' : Nat} {d' : Drawn} {ch : List Addr} (I : Inv X pins σ H s) (u : Un (frs X.stack) ch H H' s.heap h') (hok : HOk X.prog X.w H' h') (hg : AllBare g')
  (hch : ∀ b ∈ ch, (b ∈ X.ex \/ X.s₀.heap.objs.size <= b) /\ b ≠ X.env.locals /\ (∀ x c, X.env.cells.lookup x = some c -> c ≠ b) /\ ∀ p ∈ X.pn ++ pins, p.1 ≠ b) :
  Inv X pins σ H' { s with heap := h', gens := g', drawn := d', toks := t' } := by
 obtain ⟨m, ⟨o, es, ep, ho, r⟩, _⟩ := id I.loc
 obtain ⟨sl, hL⟩ := u.any ho I.free fun z => (hch _ z).2.1 rfl
 exact I.step (ch := ch) hch (fun b o hL hb hc e n => u.keep b o e n (fun z => (List.mem_cons.mp (I.stkSub b z)).elim hL hb) hc) (fun b o _ _ hc e n => u.any e n hc) (fun b o hc e n => u.free b o e n hc) (fun b o hc e => u.there b o e hc) u.tups u.frzs u.tbls (fun m' hm => by
  obtain ⟨o', es', ep', ho', r'⟩ := hm
  rw [ho] at ho'; cases ho'
  exact ⟨_, es', ep', hL, r'⟩) hok hg
theorem Inv.turned {t' : Nat} {it : Addr} (I : Inv X pins σ H s) (k : ∀ b o, b ≠ it -> s.heap.get? b = some o -> h'.get? b = some o) (hn : H it = none) (hL : it ≠ X.env.locals)
  (h1 : it ∈ X.ex \/ X.s₀.heap.objs.size <= it) (h2 : ∀ x c, X.env.cells.lookup x = some c -> c ≠ it) (h3 : ∀ p ∈ X.pn ++ pins, p.1 ≠ it) : Inv X pins σ H { s with heap := h', toks := t' } := by
 have nit : ∀ b u, H b = some u -> b ≠ it := fun b u e z => by rw [z, hn] at e; cases e
 refine I.step (g' := s.gens) (d' := s.drawn) (ch := [it]) (fun b hb => ?_) (fun b o _ _ hc e _ => k b o (fun z => hc (by simp [z])) e) (fun b o _ _ hc e _ => ⟨o.slots, k b o (fun z => hc (by simp [z])) e⟩) (fun _ _ _ _ n => n)
  (fun b o hc e => ⟨o, k b o (fun z => hc (by simp [z])) e⟩) (fun _ _ e => e) (fun _ _ _ e => e) (fun b ps e => ⟨#[], by rw [e]; simp⟩) (fun m hm => ?_) (fun b u e => ?_) I.bare
 ·have e : b = it := by simpa using hb
  subst e
  exact ⟨h1, hL, h2, h3⟩
 ·obtain ⟨o, es, ep, ho, r⟩ := hm
  exact ⟨o, es, ep, k _ o (Ne.symm hL) ho, r⟩
 ·refine (I.hok b u e).stay (fun c v hc q => k c v ?_ q) (fun _ q => q) fun _ _ q => q
  rcases hc with z | z
  ·rw [z]; exact nit b u e
  ·exact nit c _ z
theorem Inv.tok (I : Inv X pins σ H s) (t : Nat) : Inv X pins σ H { s with toks := t } := I.un (h' := s.heap) (t' := t) Un.refl I.hok
theorem Inv.kept {t' : Nat} (I : Inv X pins σ H s) (k : ∀ b u, s.heap.get? b = some u -> h'.get? b = some u) : Inv X pins σ H { s with heap := h', toks := t' } := I.un (Un.kept k) (I.hok.kept k)
theorem Inv.laid {a : Addr} {o : HO} {t' : Nat} (I : Inv X pins σ H s) (k : ∀ b u, s.heap.get? b = some u -> h'.get? b = some u) (hp : s.heap.objs.size <= a) (new : ObjOk X.prog X.w (upd H a o) h' a o) :
  Inv X pins σ (upd H a o) { s with heap := h', toks := t' } := I.un (Un.laid k hp (I.hok.fresh hp)) (I.hok.laid k hp new)
theorem Inv.write {x e : Addr} {o : HO} {t' : Nat} (I : Inv X pins σ H s) (mu : Mut (H x)) (he : e = x \/ H e = some (.own x)) (k : ∀ b u, b ≠ e -> s.heap.get? b = some u -> h'.get? b = some u) (heo : ∃ u, h'.get? e = some u)
  (new : ObjOk X.prog X.w (upd H x o) h' x o) : Inv X pins σ (upd H x o) { s with heap := h', toks := t' } := I.un (Un.write mu he k heo) (I.hok.write mu he k heo new)
theorem Inv.weak {σ' : List (Option V)} (I : Inv X pins σ H s) (hl : σ'.length = σ.length) (w : ∀ (i : Nat) v, σ'[i]? = some (some v) -> σ[i]? = some (some v)) : Inv X pins σ' H s :=
 ⟨I.ok, I.os, I.bare, I.base, let ⟨m, hn, hl'⟩ := I.loc; ⟨m, hn, fun i x v e1 e2 e3 => hl' i x v e1 (w i v e2) e3⟩, I.cell, I.free, I.freeC, I.pin, I.hok, hl.trans I.len⟩
theorem Inv.pins_of {pins' : List (Addr × Obj)} (I : Inv X pins σ H s) (h : ∀ p ∈ pins', s.heap.get? p.1 = some p.2 /\ H p.1 = none /\ p.1 ≠ X.env.locals /\ p.1 ∉ X.fs /\ ∀ v, p.2.data ≠ .cell v) : Inv X pins' σ H s :=
 ⟨I.ok, I.os, I.bare, I.base, I.loc, I.cell, I.free, I.freeC, fun p hp => (List.mem_append.mp hp).elim (fun z => I.pin p (List.mem_append_left _ z)) (h p), I.hok, I.len⟩
theorem nodup_ix {N : List Str} (hN : N.Nodup) {i j : Nat} {x : Str} (a : N[i]? = some x) (b : N[j]? = some x) : i = j := by
 obtain ⟨h1, e1⟩ := List.getElem?_eq_some_iff.mp a
 obtain ⟨h2, e2⟩ := List.getElem?_eq_some_iff.mp b
 exact (List.getElem_inj hN).mp (e1.trans e2.symm)
theorem store_ok2 {M : Model} {A : Around} {E : Value -> Shared -> Prop} {i : Nat} {x : Str} {v : V} {u : Value} {Q : Unit -> Shared -> Prop} (I : Inv X pins σ H s) (hN : X.N.Nodup) (hi : X.N[i]? = some x) (hx : Loc X.env.scope x) (r : RelV v u)
  (h : ∀ s', Inv X pins (σ.set i (some v)) H s' -> (∃ a, Heap.SameBut a s.heap s'.heap /\ (a = X.env.locals \/ X.env.cells.lookup x = some a)) -> Q () s') (hf : X.fn x = true \/ X.env.scope.names.lookup x = some .local := by first | exact .inl rfl | exact .inr rfl | assumption) : wpAny M A (storeName X.env x u) Q E s := by
 obtain ⟨m, hn, hl⟩ := id I.loc
 have hcls : (X.env.scope.kind == .class || (X.env.scope.kind == .module && X.env.locals != X.env.globals)) = false := by rw [I.ok.kind]; rfl
 have hiσ : i < σ.length := by rw [I.len]; exact (List.getElem?_eq_some_iff.mp hi).1
 have cne := I.cne
 have tracked : ∀ {a : Addr} {h' : Heap}, (∃ o, s.heap.get? a = some o /\ H a = none) -> Heap.SameBut a s.heap h' -> HOk X.prog X.w H h' := fun {a h'} ha hs b ob e => by
  obtain ⟨_, _, hfree⟩ := ha
  refine (I.hok b ob e).stay (fun c w' hc q => (hs.2 c ?_).trans q) (fun _ q => q) fun _ _ q => q
  rintro rfl
  rcases hc with rfl | hc
  ·rw [hfree] at e; cases e
  ·rw [hfree] at hc; cases hc
 rcases hx with hk | hk
 ·refine wpAny_storeName_local hk hn (fun h' hn' hs => ?_) hcls
  obtain ⟨oL, _, _, hoL, _⟩ := id hn
  refine h _ ⟨I.ok, I.os, I.bare, ⟨fun b o e n hb hx => ?_, fun b o e n hb hx => ?_, I.base.free, fun b o e hx => ?_, I.base.tups, I.base.frzs, I.base.tbls⟩, ⟨_, hn', fun j y v' e1 e2 e3 => ?_⟩, fun y c e => ?_, I.free, I.freeC, fun p hp => ?_, tracked ⟨oL, hoL, I.free⟩ hs, by simpa using I.len⟩ ⟨_, hs, .inl rfl⟩
  ·exact (hs.2 b (Nat.ne_of_lt (Nat.lt_of_lt_of_le (Heap.lt_size e) I.ok.above))).trans (I.base.keep b o e n hb hx)
  ·obtain ⟨sl, e1⟩ := I.base.slot b o e n hb hx
   exact ⟨sl, (hs.2 b (Nat.ne_of_lt (Nat.lt_of_lt_of_le (Heap.lt_size e) I.ok.above))).trans e1⟩
  ·obtain ⟨o', e1⟩ := I.base.there b o e hx
   exact ⟨o', (hs.2 b (Nat.ne_of_lt (Nat.lt_of_lt_of_le (Heap.lt_size e) I.ok.above))).trans e1⟩
  ·by_cases hj : j = i
   ·subst hj
    rw [hi] at e1; cases e1
    rw [List.getElem?_set_self hiσ] at e2
    cases e2
    exact ⟨u, r, .inl ⟨hk, by simp⟩⟩
   ·rw [List.getElem?_set_ne (Ne.symm hj)] at e2
    obtain ⟨u', r', q⟩ := hl j y v' e1 e2 e3
    refine ⟨u', r', ?_⟩
    rcases q with ⟨k, e⟩ | ⟨k, c, e, z⟩
    ·refine .inl ⟨k, ?_⟩
     have : y ≠ x := fun e => hj (nodup_ix hN e1 (e ▸ hi))
     simp [this, e]
    ·exact .inr ⟨k, c, e, z.sameBut hs (cne y c e)⟩
  ·obtain ⟨w', z⟩ := I.cell y c e
   exact ⟨w', z.sameBut hs (cne y c e)⟩
  ·obtain ⟨e, n, ne, nf, d⟩ := I.pin p hp
   exact ⟨(hs.2 p.1 ne).trans e, n, ne, nf, d⟩
 ·have hfn : X.fn x = true := by
   rcases hf with z | z
   ·exact z
   ·rw [z] at hk; cases hk
  obtain ⟨c, hc⟩ := I.ok.has x (.inl hk)
  obtain ⟨w', z⟩ := I.cell x c hc
  refine wpAny_storeName_cell I.ok.kind hk hc z (fun h' hc' hs => ?_)
  obtain ⟨oc, hoc, hocd⟩ := id z
  refine h { s with heap := h' } ⟨I.ok, I.os, I.bare, ⟨fun b o e n hb hx => ?_, fun b o e n hb hx => ?_, I.base.free, fun b o e hx => ?_, I.base.tups, I.base.frzs, I.base.tbls⟩, ⟨m, hn.sameBut hs (Ne.symm (cne x c hc)), fun j y v' e1 e2 e3 => ?_⟩, fun y c' e => ?_, I.free, I.freeC, fun p hp => ?_, tracked ⟨oc, hoc, I.freeC x c hc⟩ hs, by simpa using I.len⟩ ⟨c, hs, .inr hc⟩
  ·exact (hs.2 b (Nat.ne_of_lt (Nat.lt_of_lt_of_le (Heap.lt_size e) (I.ok.cab x c hfn hc)))).trans (I.base.keep b o e n hb hx)
  ·obtain ⟨sl, e1⟩ := I.base.slot b o e n hb hx
   exact ⟨sl, (hs.2 b (Nat.ne_of_lt (Nat.lt_of_lt_of_le (Heap.lt_size e) (I.ok.cab x c hfn hc)))).trans e1⟩
  ·obtain ⟨o', e1⟩ := I.base.there b o e hx
   exact ⟨o', (hs.2 b (Nat.ne_of_lt (Nat.lt_of_lt_of_le (Heap.lt_size e) (I.ok.cab x c hfn hc)))).trans e1⟩
  ·by_cases hj : j = i
   ·subst hj
    rw [hi] at e1; cases e1
    rw [List.getElem?_set_self hiσ] at e2
    cases e2
    exact ⟨u, r, .inr ⟨.inl hk, c, hc, hc'⟩⟩
   ·rw [List.getElem?_set_ne (Ne.symm hj)] at e2
    obtain ⟨u', r', q⟩ := hl j y v' e1 e2 e3
    refine ⟨u', r', ?_⟩
    rcases q with q | ⟨k, c', e, z'⟩
    ·exact .inl q
    ·refine .inr ⟨k, c', e, z'.sameBut hs ?_⟩
     rintro rfl
     exact hj (nodup_ix hN e1 (I.ok.inj _ _ _ e hc ▸ hi))
  ·by_cases hcc : c' = c
   ·subst hcc; exact ⟨_, hc'⟩
   ·obtain ⟨w2, z2⟩ := I.cell y c' e
    exact ⟨w2, z2.sameBut hs hcc⟩
  ·obtain ⟨e, n, ne, nf, d⟩ := I.pin p hp
   refine ⟨(hs.2 p.1 ?_).trans e, n, ne, nf, d⟩
   intro q
   rw [q, hoc] at e
   have q' : oc = p.2 := Option.some.inj e
   exact d w' (by rw [<- q']; exact hocd)
theorem store_ok {M : Model} {A : Around} {E : Value -> Shared -> Prop} {i : Nat} {x : Str} {v : V} {u : Value} {Q : Unit -> Shared -> Prop} (I : Inv X pins σ H s) (hN : X.N.Nodup) (hi : X.N[i]? = some x) (hx : Loc X.env.scope x) (r : RelV v u)
  (h : ∀ s', Inv X pins (σ.set i (some v)) H s' -> Q () s') (hf : X.fn x = true \/ X.env.scope.names.lookup x = some .local := by first | exact .inl rfl | exact .inr rfl | assumption) : wpAny M A (storeName X.env x u) Q E s :=
 store_ok2 I hN hi hx r (fun s' I' _ => h s' I') hf
theorem Inv.call' {s' : Shared} {ch : List Addr} (I : Inv X pins σ H s) (ho : s'.os = s.os) (u : Un (frs X.stack) ch H H' s.heap s'.heap) (hok : HOk X.prog X.w H' s'.heap) (hg : AllBare s'.gens)
  (hch : ∀ b ∈ ch, (b ∈ X.ex \/ X.s₀.heap.objs.size <= b) /\ b ≠ X.env.locals /\ (∀ x c, X.env.cells.lookup x = some c -> c ≠ b) /\ ∀ p ∈ X.pn ++ pins, p.1 ≠ b) : Inv X pins σ H' s' := by
 obtain ⟨h', g', d', t', o'⟩ := s'
 have e : o' = s.os := ho
 subst e
 exact I.call (g' := g') (t' := t') (d' := d') u hok hg hch
end
abbrev XK := Value -> Option Addr -> Hp -> Prop
abbrev St := List (Option V)
abbrev VK := V -> Hp -> Prop
abbrev TE := St -> Hp -> VK -> Prop
abbrev TT := St -> Hp -> (Bool -> Hp -> Prop) -> Prop
abbrev TA := St -> Hp -> (List V -> Hp -> Prop) -> Prop
structure Ends where
 nx : St -> Hp -> Prop
 rt : VK
 bk : St -> Hp -> Prop := fun _ _ => False
 ct : St -> Hp -> Prop := fun _ _ => False
abbrev TS := Ends -> St -> Hp -> Prop
def EP (X : Cx) (pins : List (Addr × Obj)) (σ : St) (Q : VK) (u : Value) (s' : Shared) : Prop := ∃ v H', Inv X pins σ H' s' /\ RelV v u /\ Q v H'
def TP (X : Cx) (pins : List (Addr × Obj)) (σ : St) (Q : Bool -> Hp -> Prop) (b : Bool) (s' : Shared) : Prop := ∃ H', Inv X pins σ H' s' /\ Q b H'
def AP (X : Cx) (pins : List (Addr × Obj)) (σ : St) (Q : List V -> Hp -> Prop) (us : List Value) (s' : Shared) : Prop := ∃ vs H', Inv X pins σ H' s' /\ Vals vs us /\ Q vs H'
def SP (X : Cx) (pins : List (Addr × Obj)) (D : Ends) (f : Flow) (s' : Shared) : Prop :=
 match f with
 | .next => ∃ σ' H', Inv X pins σ' H' s' /\ D.nx σ' H'
 | .brk => ∃ σ' H', Inv X pins σ' H' s' /\ D.bk σ' H'
 | .cont => ∃ σ' H', Inv X pins σ' H' s' /\ D.ct σ' H'
 | .ret u => ∃ v σ' H', Inv X pins σ' H' s' /\ RelV v u /\ D.rt v H'
def PE (X : Cx) (e : Expr) (t : TE) : Prop :=
 ∀ (pins : List (Addr × Obj)) (s : Shared) (σ : St) (H : Hp) (Q : VK), Inv X pins σ H s -> t σ H Q -> wpAny (model X.prog X.w) X.A (eval e X.env) (EP X pins σ Q) X.xe s
def PT (X : Cx) (e : Expr) (t : TT) : Prop :=
 ∀ (pins : List (Addr × Obj)) (s : Shared) (σ : St) (H : Hp) (Q : Bool -> Hp -> Prop), Inv X pins σ H s -> t σ H Q -> wpAny (model X.prog X.w) X.A (isTrue e X.env (eval e X.env)) (TP X pins σ Q) X.xe s
def PW (X : Cx) (e : Expr) (t : TT) : Prop :=
 ∀ (whole : Sem Value) (pins : List (Addr × Obj)) (s : Shared) (σ : St) (H : Hp) (Q : Bool -> Hp -> Prop), Inv X pins σ H s -> t σ H Q -> wpAny (model X.prog X.w) X.A (isTrue e X.env whole) (TP X pins σ Q) X.xe s
theorem PW.pt {X : Cx} {e : Expr} {t : TT} (h : PW X e t) : PT X e t := h _
def PA (X : Cx) (es : List Expr) (t : TA) : Prop :=
 ∀ (pos : Pos) (pins : List (Addr × Obj)) (s : Shared) (σ : St) (H : Hp) (Q : List V -> Hp -> Prop), Inv X pins σ H s -> t σ H Q -> wpAny (model X.prog X.w) X.A (spliced (backTo pos (starEach es X.env))) (AP X pins σ Q) X.xe s
def PS (X : Cx) (st : Stmt) (t : TS) : Prop :=
 ∀ (pins : List (Addr × Obj)) (s : Shared) (σ : St) (H : Hp) (D : Ends), Inv X pins σ H s -> t D σ H -> wpAny (model X.prog X.w) X.A (exec st X.env) (SP X pins D) X.xe s
def PSs (X : Cx) (st : List Stmt) (t : TS) : Prop :=
 ∀ (pins : List (Addr × Obj)) (s : Shared) (σ : St) (H : Hp) (D : Ends), Inv X pins σ H s -> t D σ H -> wpAny (model X.prog X.w) X.A (execs st X.env) (SP X pins D) X.xe s
theorem thn {α : Type} {t : Sem α} {Q Q' : α -> Shared -> Prop} {M : Model} {A : Around} {E : Value -> Shared -> Prop} {s : Shared} (h : wpAny M A t Q E s) (hQ : ∀ a s, Q a s -> Q' a s) : wpAny M A t Q' E s := wpAny_mono h hQ fun _ _ x => x
end L2
namespace L2
open PySem PySem.Spec PyProof.Rows
section
variable {X : Cx}
def tVar (i : Nat) : TE := fun σ H Q => ∃ v, σ[i]? = some (some v) /\ Q v H
def tC (v : V) : TE := fun _ H Q => Q v H
theorem pe_var {i : Nat} {x : Str} {pos : Pos} (hN : X.N[i]? = some x) (hv : Vis X.env.scope x) (hd : (x == ("__debug__" : Str)) = false := by decide) (hcd : (x == ("__classdict__" : Str)) = false := by decide) : PE X (.Name x pos) (tVar i) := by
 intro pins s σ H Q I h
 obtain ⟨v, e, h⟩ := h
 obtain ⟨m, hn, hl⟩ := I.loc
 obtain ⟨u, r, l⟩ := hl i x v hN e hv
 have fin : EP X pins σ Q u s := ⟨v, H, I, r, h⟩
 rcases l with ⟨hk, hm⟩ | ⟨hk, c, hc, hcell⟩
 ·exact wpAny_Name (wpAny_loadName_local I.ok.kind hk hn hm fin) hd
 ·rcases hk with hk | hk
  ·exact wpAny_Name (wpAny_loadName_cell I.ok.kind hk hc hcell fin) hd
  ·exact wpAny_Name (wpAny_loadName_free I.ok.kind hk hc hcell fin hcd) hd
theorem pe_int {i j pos} : PE X (.Constant (.int i) j pos) (tC (.int i)) := fun _ _ _ H _ I h => wpAny_Constant_int ⟨.int i, H, I.tok _, ⟨_, rfl⟩, h⟩
theorem pe_bl {b j pos} : PE X (.Constant (.bool b) j pos) (tC (.bl b)) := fun _ _ _ H _ I h => Constant_bool ⟨.bl b, H, I, rfl, h⟩
theorem pe_non {j pos} : PE X (.Constant .none j pos) (tC .non) := fun _ _ _ H _ I h => Constant_none ⟨.non, H, I, rfl, h⟩
theorem pe_str {x j pos} : PE X (.Constant (.str x) j pos) (tC (.str x)) := fun _ _ _ H _ I h => Calls.Constant_str ⟨.str x, H, I.tok _, ⟨_, rfl⟩, h⟩
def Gl (X : Cx) (x : Str) : Prop := X.env.kindOf x = some .globalImplicit
theorem ld_glob {E : Value -> Shared -> Prop} {pins : List (Addr × Obj)} {s : Shared} {σ : St} {H : Hp} {x : Str} {u : Value} {pos : Pos} {Q : Value -> Shared -> Prop} (I : Inv X pins σ H s) (hg : Gl X x) (hm : X.mg x = some u) (h : Q u s)
  (hd : (x == ("__debug__" : Str)) = false := by decide) : wpAny (model X.prog X.w) X.A (eval (.Name x pos) X.env) Q E s :=
 Calls.Name_function_global I.ok.kind hg (Calls.loadGlobal_global (by rw [I.ok.glob]; exact I.mod.glob.keeps I.bk) hm h) hd
theorem ld_blt {E : Value -> Shared -> Prop} {pins : List (Addr × Obj)} {s : Shared} {σ : St} {H : Hp} {x : Str} {u : Value} {pos : Pos} {Q : Value -> Shared -> Prop} (I : Inv X pins σ H s) (hg : Gl X x) (hm : X.mg x = none) (hv : bootBuiltins x = some u) (h : Q u s)
  (hn : x ≠ "__name__" := by decide) (hd : (x == ("__debug__" : Str)) = false := by decide) : wpAny (model X.prog X.w) X.A (eval (.Name x pos) X.env) Q E s := by
 obtain ⟨mb, h1, h2⟩ := I.mod.blt
 exact Calls.Name_function_global I.ok.kind hg (Calls.loadGlobal_builtin (by rw [I.ok.glob]; exact I.mod.glob.keeps I.bk) hm (by rw [I.ok.blt]; exact h1.keeps I.bk) ((h2 x hn).trans hv) h) hd
theorem pe_glob {x : Str} {v : V} {u : Value} {pos : Pos} (hg : Gl X x) (hm : X.mg x = some u) (r : RelV v u) (hd : (x == ("__debug__" : Str)) = false := by decide) : PE X (.Name x pos) (tC v) :=
 fun _ _ _ H _ I h => ld_glob I hg hm ⟨v, H, I, r, h⟩ hd
theorem pe_bltn {x : Str} {v : V} {u : Value} {pos : Pos} (hg : Gl X x) (hm : X.mg x = none) (hv : bootBuiltins x = some u) (r : RelV v u) (hn : x ≠ "__name__" := by decide) (hd : (x == ("__debug__" : Str)) = false := by decide) : PE X (.Name x pos) (tC v) :=
 fun _ _ _ H _ I h => ld_blt I hg hm hv ⟨v, H, I, r, h⟩ hn hd
variable {a b : Expr} {ta tb : TE} {pos : Pos}
def tB (t : TE) : TT := fun σ H Q => t σ H fun x H1 => ∃ c, x = .bl c /\ Q c H1
theorem pt_val {e : Expr} {t : TE} (h : PE X e t) (he : ∀ whole, isTrue e X.env whole = (do let v <- whole; standAt e.pos; holding [v] (truthy v)) := by intro _; rfl) : PT X e (tB t) := by
 intro pins s σ H Q I hw
 refine isTrue_plain (thn (h pins s σ H _ I hw) fun v s1 ⟨x, H1, I1, r1, q1⟩ => ?_) (he _)
 obtain ⟨d, rfl, q⟩ := q1
 cases r1
 exact wpAny_truthy_bool ⟨H1, I1, q⟩
variable {tA tB' : TT} {rest : List Expr}
def tAnd (t u : TT) : TT := fun σ H Q => t σ H fun c H1 => if c = true then u σ H1 Q else Q false H1
def tOr (t u : TT) : TT := fun σ H Q => t σ H fun c H1 => if c = true then Q true H1 else u σ H1 Q
def tNot (t : TT) : TT := fun σ H Q => t σ H fun c H1 => Q (!c) H1
theorem pw_and1 (ha : PT X a tA) : PW X (.BoolOp .And [a] pos) tA := by
 intro wh pins s σ H Q I h
 refine isTrue_and (thn (ha pins s σ H Q I h) fun c s1 e => ?_)
 cases c with
 | true => exact isTrue_and_nil e
 | false => exact e
theorem pw_or1 (ha : PT X a tA) : PW X (.BoolOp .Or [a] pos) tA := by
 intro wh pins s σ H Q I h
 refine isTrue_or (thn (ha pins s σ H Q I h) fun c s1 e => ?_)
 cases c with
 | false => exact isTrue_or_nil e
 | true => exact e
theorem pw_and (ha : PT X a tA) (hb : PW X (.BoolOp .And (b :: rest) pos) tB') : PW X (.BoolOp .And (a :: b :: rest) pos) (tAnd tA tB') := by
 intro wh pins s σ H Q I h
 refine isTrue_and (thn (ha pins s σ H _ I h) fun c s1 ⟨H1, I1, q1⟩ => ?_)
 cases c with
 | true => exact hb wh pins s1 σ H1 Q I1 q1
 | false => exact ⟨H1, I1, q1⟩
theorem pw_or (ha : PT X a tA) (hb : PW X (.BoolOp .Or (b :: rest) pos) tB') : PW X (.BoolOp .Or (a :: b :: rest) pos) (tOr tA tB') := by
 intro wh pins s σ H Q I h
 refine isTrue_or (thn (ha pins s σ H _ I h) fun c s1 ⟨H1, I1, q1⟩ => ?_)
 cases c with
 | true => exact ⟨H1, I1, q1⟩
 | false => exact hb wh pins s1 σ H1 Q I1 q1
theorem pt_not (ha : PT X a tA) : PT X (.UnaryOp .Not a pos) (tNot tA) := by
 intro pins s σ H Q I h
 exact isTrue_not (ha pins s σ H (fun c H1 => Q (!c) H1) I h)
def tAndV (ta tb : TE) : TE := fun σ H Q => ta σ H fun x H1 => ∃ c, x = .bl c /\ if c = true then tb σ H1 Q else Q (.bl false) H1
theorem pe_one {op} {t : TE} (h : PE X a t) : PE X (.BoolOp op [a] pos) t := fun pins s σ H Q I hw => BoolOp_one (h pins s σ H Q I hw)
theorem pe_and (ha : PE X a ta) (hb : PE X (.BoolOp .And (b :: rest) pos) tb) : PE X (.BoolOp .And (a :: b :: rest) pos) (tAndV ta tb) := by
 intro pins s σ H Q I h
 refine BoolOp_and (thn (ha pins s σ H _ I h) fun v s1 ⟨x, H1, I1, r1, q1⟩ => ?_)
 obtain ⟨c, rfl, q1⟩ := q1
 cases r1
 refine wpAny_truthy_bool ?_
 cases c with
 | true => exact hb pins s1 σ H1 Q I1 q1
 | false => exact ⟨.bl false, H1, I1, rfl, q1⟩
end
end L2
namespace L2
open PySem PySem.Spec PyProof.Rows
def SqL (K : PySem.W.Frag) (H : Hp) (a : Addr) (xs : List V) : Prop :=
 Rd H a (.lst xs) \/
  ∃ (o : Obj) (its : Array Value) (n : Nat), K.lookup a = some o /\ o.cls = .type "list" /\ o.dict = none /\ o.data = .seq its n /\ its.size <= sizeLine /\ Vals xs its.toList
def SqT (K : PySem.W.Frag) (H : Hp) (a : Addr) (xs : List V) : Prop :=
 Rd H a (.tup xs) \/
  ∃ (o : Obj) (its : Array Value) (n : Nat), K.lookup a = some o /\ o.cls = .type "tuple" /\ o.data = .seq its n /\ its.size <= sizeLine /\ Vals xs its.toList
def absV : Value -> Option V
 | .none => some .non
 | .bool b => some (.bl b)
 | .int i _ => some (.int i)
 | .str x _ => some (.str x)
 | .bytes b _ => some (.byt b)
 | .float b _ => some (.flt b)
 | .ref a => some (.ref a)
 | .type n => some (.ty n)
 | _ => none
theorem RelV.abs {x : V} {u : Value} (r : RelV x u) : absV u = some x := by
 cases x with
 | non => cases r; rfl
 | bl _ => cases r; rfl
 | int _ => obtain ⟨t, rfl⟩ := r; rfl
 | str _ => obtain ⟨t, rfl⟩ := r; rfl
 | byt _ => obtain ⟨t, rfl⟩ := r; rfl
 | flt _ => obtain ⟨t, rfl⟩ := r; rfl
 | ref _ => cases r; rfl
 | ty _ => cases r; rfl
theorem RelV.inj {x y : V} {u : Value} (r : RelV x u) (q : RelV y u) : x = y := Option.some.inj (r.abs.symm.trans q.abs)
theorem Vals.inj : ∀ {xs ys : List V} {us : List Value}, Vals xs us -> Vals ys us -> xs = ys
 | _, _, _, .nil, .nil => rfl
 | _, _, _, .cons r t, .cons r' t' => by rw [r.inj r', Vals.inj t t']
section
variable {X : Cx} {pins : List (Addr × Obj)} {σ : St} {H : Hp} {s : Shared} {a : Addr} {xs ys : List V}
theorem SqL.of {K : PySem.W.Frag} (h : H a = some (.lst xs)) : SqL K H a xs := .inl (.inl h)
theorem SqT.of {K : PySem.W.Frag} (h : H a = some (.tup xs)) : SqT K H a xs := .inl (.inl h)
theorem Inv.list (I : Inv X pins σ H s) (h : SqL X.K H a xs) : ∃ its : List Value, Vals xs its /\ PlainL s.heap a its.toArray /\ xs.length <= sizeLine := by
 rcases h with h | ⟨o, its, n, hk, hc, hd, hs, hz, r⟩
 ·obtain ⟨z, its, n, r, e⟩ := h.ok I.hok
  exact ⟨its, r, ⟨_, n, e, rfl, rfl, rfl⟩, z⟩
 ·refine ⟨its.toList, r, ⟨o, n, I.kIn a o hk, hc, hd, by simpa using hs⟩, ?_⟩
  have e := r.length
  simp only [Array.length_toList] at e
  omega
theorem Inv.tuple (I : Inv X pins σ H s) (h : SqT X.K H a xs) : ∃ its : List Value, Vals xs its /\ IsTup s.heap a its.toArray /\ xs.length <= sizeLine := by
 rcases h with h | ⟨o, its, n, hk, hc, hs, hz, r⟩
 ·obtain ⟨z, its, r, p⟩ := h.ok I.hok
  exact ⟨its, r, p, z⟩
 ·refine ⟨its.toList, r, ⟨o, I.kIn a o hk, hc, n, by simpa using hs⟩, ?_⟩
  have e := r.length
  simp only [Array.length_toList] at e
  omega
theorem Inv.list_inj (I : Inv X pins σ H s) (h : SqL X.K H a xs) (h' : SqL X.K H a ys) : xs = ys := by
 obtain ⟨its, r, ⟨o, n, e, _, _, d⟩, _⟩ := I.list h
 obtain ⟨its', r', ⟨o', n', e', _, _, d'⟩, _⟩ := I.list h'
 rw [e] at e'; cases e'
 rw [d] at d'
 injection d' with d1 _
 have : its = its' := by simpa using congrArg Array.toList d1
 subst this
 exact r.inj r'
theorem Inv.tuple_inj (I : Inv X pins σ H s) (h : SqT X.K H a xs) (h' : SqT X.K H a ys) : xs = ys := by
 obtain ⟨its, r, ⟨o, e, _, n, d⟩, _⟩ := I.tuple h
 obtain ⟨its', r', ⟨o', e', _, n', d'⟩, _⟩ := I.tuple h'
 rw [e] at e'; cases e'
 rw [d] at d'
 injection d' with d1 _
 have : its = its' := by simpa using congrArg Array.toList d1
 subst this
 exact r.inj r'
end
abbrev Cx.wish (X : Cx) (E : Value -> Shared -> Prop) : Cx := { X with xe := E }
abbrev Cx.nox (X : Cx) : Cx := X.wish fun _ _ => False
theorem Cx.Ok.wish {X : Cx} (ok : X.Ok) (E : Value -> Shared -> Prop) : (X.wish E).Ok :=
 ⟨ok.mod, ok.kind, ok.glob, ok.blt, ok.above, ok.inj, ok.has, ok.cab, ok.hd, ok.frames, ok.stk, ok.exf, ok.bs, ok.bsz, ok.noex, ok.exfs, ok.funs, ok.frf⟩
theorem Cx.Ok.unwish {X : Cx} {E : Value -> Shared -> Prop} (ok : (X.wish E).Ok) : X.Ok :=
 ⟨ok.mod, ok.kind, ok.glob, ok.blt, ok.above, ok.inj, ok.has, ok.cab, ok.hd, ok.frames, ok.stk, ok.exf, ok.bs, ok.bsz, ok.noex, ok.exfs, ok.funs, ok.frf⟩
section
variable {X : Cx} {pins : List (Addr × Obj)} {σ : St} {H : Hp} {s : Shared} {E : Value -> Shared -> Prop}
theorem Inv.wish (I : Inv X pins σ H s) (E : Value -> Shared -> Prop) : Inv (X.wish E) pins σ H s := ⟨I.ok.wish E, I.os, I.bare, I.base, I.loc, I.cell, I.free, I.freeC, I.pin, I.hok, I.len⟩
theorem Inv.unwish (I : Inv (X.wish E) pins σ H s) : Inv X pins σ H s := ⟨I.ok.unwish, I.os, I.bare, I.base, I.loc, I.cell, I.free, I.freeC, I.pin, I.hok, I.len⟩
theorem SP.unwish {D : Ends} {f : Flow} {s' : Shared} (h : SP (X.wish E) pins D f s') : SP X pins D f s' := by
 cases f with
 | next => obtain ⟨σ', H', I, q⟩ := h; exact ⟨σ', H', I.unwish, q⟩
 | brk => obtain ⟨σ', H', I, q⟩ := h; exact ⟨σ', H', I.unwish, q⟩
 | cont => obtain ⟨σ', H', I, q⟩ := h; exact ⟨σ', H', I.unwish, q⟩
 | ret u => obtain ⟨v, σ', H', I, r, q⟩ := h; exact ⟨v, σ', H', I.unwish, r, q⟩
theorem PSs.nox {st : List Stmt} {t : TS} (h : PSs X.nox st t) : PSs X st t := fun pins s σ H D I hw =>
 wpAny_mono (h pins s σ H D (I.wish _) hw) (fun _ _ q => q.unwish) fun _ _ z => False.elim z
end
section
variable {X : Cx} {st : Stmt} {rest : List Stmt} {t u : TS} {e : Expr} {te : TE} {pos : Pos}
def tNext : TS := fun D σ H => D.nx σ H
def tSeq (t u : TS) : TS := fun D σ H => t { D with nx := u D } σ H
theorem pss_nil : PSs X [] tNext := fun _ _ σ H _ I h => wpAny_execs_nil ⟨σ, H, I, h⟩
theorem pss_cons (h1 : PS X st t) (h2 : PSs X rest u) : PSs X (st :: rest) (tSeq t u) := by
 intro pins s σ H D I h
 refine wpAny_execs_cons (thn (h1 pins s σ H { D with nx := u D } I h) fun f s1 q => ?_)
 cases f with
 | next =>
  obtain ⟨σ', H', I', q⟩ := q
  exact h2 pins s1 σ' H' D I' q
 | ret v => exact q
 | brk => exact q
 | cont => exact q
theorem pss_one (h1 : PS X st t) : PSs X [st] t := by
 intro pins s σ H D I h
 refine wpAny_execs_cons (thn (h1 pins s σ H D I h) fun f s1 q => ?_)
 cases f with
 | next => exact wpAny_execs_nil q
 | ret v => exact q
 | brk => exact q
 | cont => exact q
theorem Inv.quiet {pins : List (Addr × Obj)} {σ : St} {H : Hp} {s : Shared} (I : Inv X pins σ H s) : interactive X.env = false := by simp [interactive, I.ok.kind]
def tDrop (te : TE) : TS := fun D σ H => te σ H fun _ H1 => D.nx σ H1
theorem ps_expr (he : PE X e te) (hs : swapsWith e none pos.line X.env = pure false := by rfl) : PS X (.Expr e pos) (tDrop te) := by
 intro pins s σ H D I h
 exact wpAny_Expr_any (thn (he pins s σ H _ I h) fun v s1 ⟨x, H1, I1, r1, q1⟩ => ⟨σ, H1, I1, q1⟩) I.quiet hs
def tRet (te : TE) : TS := fun D σ H => te σ H D.rt
theorem ps_ret (he : PE X e te) : PS X (.Return (some e) pos) (tRet te) := by
 intro pins s σ H D I h
 exact wpAny_Return_some (thn (he pins s σ H _ I h) fun v s1 ⟨x, H1, I1, r1, q1⟩ => ⟨x, σ, H1, I1, r1, q1⟩)
def tIfS (c : TT) (t u : TS) : TS := fun D σ H => c σ H fun b H1 => if b = true then t D σ H1 else u D σ H1
theorem ps_if {c : Expr} {a b : List Stmt} {tc : TT} (hc : PT X c tc) (ha : PSs X a t) (hb : PSs X b u) : PS X (.If c a b pos) (tIfS tc t u) := by
 intro pins s σ H D I h
 refine wpAny_If (thn (hc pins s σ H _ I h) fun d s1 ⟨H1, I1, q1⟩ => ?_)
 cases d with
 | true => exact ha pins s1 σ H1 D I1 q1
 | false => exact hb pins s1 σ H1 D I1 q1
def tNever : TS := fun _ _ _ => False
theorem pss_never {sts : List Stmt} : PSs X sts tNever := fun _ _ _ _ _ _ h => h.elim
end
abbrev TG := V -> St -> Hp -> (St -> Hp -> Prop) -> Prop
abbrev TGs := List V -> St -> Hp -> (St -> Hp -> Prop) -> Prop
def PG (X : Cx) (target : Expr) (t : TG) : Prop :=
 ∀ (pins : List (Addr × Obj)) (s : Shared) (σ : St) (H : Hp) (v : V) (u : Value) (Q : St -> Hp -> Prop), Inv X pins σ H s -> RelV v u -> t v σ H Q ->
  wpAny (model X.prog X.w) X.A (assign target X.env u) (fun _ s' => ∃ σ' H', Inv X pins σ' H' s' /\ Q σ' H') X.xe s
def PGs (X : Cx) (ts : List Expr) (t : TGs) : Prop :=
 ∀ (pins : List (Addr × Obj)) (s : Shared) (σ : St) (H : Hp) (vs : List V) (us : List Value) (Q : St -> Hp -> Prop), Inv X pins σ H s -> Vals vs us -> t vs σ H Q ->
  wpAny (model X.prog X.w) X.A (assignInOrder ((assignEach ts X.env).map (·.2)) us) (fun _ s' => ∃ σ' H', Inv X pins σ' H' s' /\ Q σ' H') X.xe s
abbrev TSet := V -> V -> V -> Hp -> (Hp -> Prop) -> Prop
def PSet (X : Cx) (t : TSet) : Prop :=
 ∀ (pins : List (Addr × Obj)) (s : Shared) (σ : St) (H : Hp) (o i v : V) (ov iv u : Value) (Q : Hp -> Prop), Inv X pins σ H s -> RelV o ov -> RelV i iv -> RelV v u -> t o i v H Q ->
  wpAny (model X.prog X.w) X.A (setItem ov iv u) (fun _ s' => ∃ H', Inv X pins σ H' s' /\ Q H') X.xe s
section
variable {X : Cx} {pos : Pos}
def gName (i : Nat) : TG := fun v σ H Q => Q (σ.set i (some v)) H
theorem pg_name {i : Nat} {x : Str} (hN : X.N.Nodup) (hi : X.N[i]? = some x) (hx : Loc X.env.scope x) (hf : X.fn x = true \/ X.env.scope.names.lookup x = some .local := by first | exact .inl rfl | exact .inr rfl | assumption) : PG X (.Name x pos) (gName i) := by
 intro pins s σ H v u Q I r h
 exact wpAny_assign_Name (store_ok I hN hi hx r (fun s' I' => ⟨_, H, I', h⟩) hf)
def gNil : TGs := fun vs σ H Q => vs = [] /\ Q σ H
def gCons (t : TG) (u : TGs) : TGs := fun vs σ H Q => ∃ v r, vs = v :: r /\ t v σ H fun σ' H' => u r σ' H' Q
theorem pgs_nil : PGs X [] gNil := by
 intro pins s σ H vs us Q I r h
 obtain ⟨e, h⟩ := h
 subst e
 cases r
 exact assignInOrder_nil ⟨σ, H, I, h⟩
theorem pgs_cons {e : Expr} {es : List Expr} {t : TG} {u : TGs} (h1 : PG X e t) (h2 : PGs X es u)
  (hs : (assignEach (e :: es) X.env).map (·.2) = assign e X.env :: (assignEach es X.env).map (·.2) := by rfl) : PGs X (e :: es) (gCons t u) := by
 intro pins s σ H vs us Q I r h
 obtain ⟨v, vr, e1, h⟩ := h
 subst e1
 cases r with
 | cons r rr =>
  rw [hs]
  refine assignInOrder_cons (thn (h1 pins s σ H _ _ _ I r h) fun _ s1 ⟨σ1, H1, I1, q1⟩ => ?_)
  exact h2 pins s1 σ1 H1 _ _ Q I1 rr q1
def gTup (K : PySem.W.Frag) (n : Nat) (t : TGs) : TG := fun v σ H Q => ∃ a xs, v = .ref a /\ SqT K H a xs /\ xs.length = n /\ t xs σ H Q
theorem pg_tup {es : List Expr} {k : Nat} {t : TGs} {n : Nat} (hc : X.calm = true) (h : PGs X es t)
  (hn : (assignEach es X.env).length = n := by rfl) (hst : (assignEach es X.env).findIdx? (·.1) = none := by rfl) : PG X (.Tuple es k pos) (gTup X.K n t) := by
 intro pins s σ H v u Q I r hw
 obtain ⟨a, xs, e1, hq, hl, hw⟩ := hw
 subst e1
 cases r
 obtain ⟨its, rv, ht, hz⟩ := I.tuple hq
 refine assign_Tuple_tuple (I.ok.hd hc) ht (by simp [hn, <- hl, rv.length]) hst fun h' hx => ?_
 have I1 : Inv X pins σ H { s with heap := h' } := I.kept (t' := s.toks) fun b o e => hx b o (Nat.ne_of_lt (Heap.lt_size e)) e
 exact h pins _ σ H xs _ Q I1 (by simpa using rv) hw
def gSub (to ti : TE) (t : TSet) : TG := fun v σ H Q => to σ H fun o H1 => ti σ H1 fun i H2 => t o i v H2 fun H3 => Q σ H3
theorem pg_sub {o i : Expr} {to ti : TE} {t : TSet} (ho : PE X o to) (hi : PE X i ti) (hs : PSet X t)
  (ha : ∀ v, assign (.Subscript o i pos) X.env v = (do
   let ov <- holding [v] (eval o X.env)
   let iv <- holding [v, ov] (eval i X.env)
   standAt pos
   holding [v, ov, iv] (setItem ov iv v)
   release [v, ov, iv] []) := by intro _; rfl) : PG X (.Subscript o i pos) (gSub to ti t) := by
 intro pins s σ H v u Q I r h
 rw [ha]
 refine wpAny_bind (wpAny_holding (thn (ho pins s σ H _ I h) fun ov s1 ⟨x, H1, I1, r1, q1⟩ => ?_))
 refine wpAny_bind (wpAny_holding (thn (hi pins s1 σ H1 _ I1 q1) fun iv s2 ⟨y, H2, I2, r2, q2⟩ => ?_))
 refine wpAny_bind (wpAny_standAt (wpAny_bind (wpAny_holding (thn (hs pins s2 σ H2 x y v ov iv u _ I2 r1 r2 r q2) fun _ s3 ⟨H3, I3, q3⟩ => ?_))))
 exact wpAny_release ⟨σ, H3, I3, q3⟩
def tAsg (te : TE) (g : TG) : TS := fun D σ H => te σ H fun x H1 => g x σ H1 D.nx
theorem ps_asg {tg e : Expr} {te : TE} {g : TG} (he : PE X e te) (hg : PG X tg g) (hs : swapsWithSole [tg] e pos.line X.env = pure false := by rfl) (hw : swappedStores [tg] e X.env = pure none := by rfl)
  (h1 : (assignEach [tg] X.env).map (·.2) = [assign tg X.env] := by rfl) : PS X (.Assign [tg] e pos) (tAsg te g) := by
 intro pins s σ H D I h
 refine wpAny_Assign_stores (thn (he pins s σ H _ I h) fun v s1 ⟨x, H1, I1, r1, q1⟩ => ?_) hs hw
 rw [h1]
 exact thn (hg pins s1 σ H1 x v _ I1 r1 q1) fun _ s2 q => q
theorem ps_set {i : Nat} {x : Str} {e : Expr} {te : TE} {pos' : Pos} (hN : X.N.Nodup) (hi : X.N[i]? = some x) (hx : Loc X.env.scope x) (he : PE X e te) (hs : swapsWith e (some (.Name x pos')) pos.line X.env = pure false := by rfl) (hf : X.fn x = true \/ X.env.scope.names.lookup x = some .local := by first | exact .inl rfl | exact .inr rfl | assumption) :
  PS X (.Assign [.Name x pos'] e pos) (tAsg te (gName i)) := by
 intro pins s σ H D I h
 refine wpAny_Assign_Name (thn (he pins s σ H _ I h) fun v s1 ⟨y, H1, I1, r1, q1⟩ => ?_) hs
 exact store_ok I1 hN hi hx r1 (fun s2 I2 => ⟨_, H1, I2, q1⟩) hf
end
section
variable {X : Cx} {pos : Pos}
def tWhile (c : TT) (tb : TS) : TS := fun D σ H => ∃ W : Nat -> St -> Hp -> Prop, (∃ m, W m σ H) /\ ∀ m σ H, W m σ H ->
 c σ H fun b H1 => if b = true then ∃ N : St -> Hp -> Prop, (∀ σ' H', N σ' H' -> ∃ m', m' < m /\ W m' σ' H') /\ tb { D with nx := N, ct := N, bk := D.nx } σ H1 else D.nx σ H1
theorem ps_while {c : Expr} {body : List Stmt} {tc : TT} {tb : TS} (hp : PassesOwn (model X.prog X.w) X.A X.env X.xe) (hc : PT X c tc) (hb : PSs X body tb) : PS X (.While c body [] pos) (tWhile tc tb) := by
 intro pins s σ H D I h
 obtain ⟨W, ⟨m0, w0⟩, turn⟩ := h
 refine wpAny_While (codeAny_whileLoop (fun n s' => ∃ σ' H', Inv X pins σ' H' s' /\ W n σ' H') ?_ m0 ⟨σ, H, I, w0⟩)
 rintro n s1 ⟨σ1, H1, I1, w1⟩
 refine wpAny_passesOwn hp (thn (hc pins s1 σ1 H1 _ I1 (turn n σ1 H1 w1)) fun b s2 ⟨H2, I2, q2⟩ => ?_)
 cases b with
 | true =>
  obtain ⟨N, hN, q2⟩ := q2
  rw [if_pos rfl]
  refine wpAny_passesOwn hp (thn (hb pins s2 σ1 H2 _ I2 q2) fun f s3 q3 => ?_)
  cases f with
  | next =>
   obtain ⟨σ3, H3, I3, n3⟩ := q3
   obtain ⟨m', hm, w3⟩ := hN σ3 H3 n3
   exact ⟨m', hm, σ3, H3, I3, w3⟩
  | cont =>
   obtain ⟨σ3, H3, I3, n3⟩ := q3
   obtain ⟨m', hm, w3⟩ := hN σ3 H3 n3
   exact ⟨m', hm, σ3, H3, I3, w3⟩
  | brk => exact q3
  | ret v => exact q3
 | false =>
  rw [if_neg Bool.false_ne_true]
  exact wpAny_execs_nil ⟨σ1, H2, I2, q2⟩
end
structure It where
 go : Nat -> Hp -> Prop
 yld : Nat -> Hp -> V -> Hp -> Prop
 stop : Nat -> Hp -> Prop
def FpOk (X : Cx) (pins : List (Addr × Obj)) (H : Hp) (b : Addr) : Prop :=
 H b = none /\ b ≠ X.env.locals /\ b ∉ X.fs /\ (b ∈ X.ex \/ X.s₀.heap.objs.size <= b) /\ (∀ x c, X.env.cells.lookup x = some c -> c ≠ b) /\ ∀ p ∈ X.pn ++ pins, p.1 ≠ b
theorem Inv.fpOk {X : Cx} {pins : List (Addr × Obj)} {σ : St} {H H' : Hp} {s : Shared} {b : Addr} (I : Inv X pins σ H s) (hb : s.heap.objs.size <= b) (hn : H' b = none) : FpOk X pins H' b := by
 refine ⟨hn, Nat.ne_of_gt (Nat.lt_of_lt_of_le I.lt hb), I.nofs hb, .inr (Nat.le_trans I.sz hb), fun x c e z => ?_, fun p hp z => ?_⟩
 ·obtain ⟨v, q⟩ := I.cell x c e
  exact absurd (Nat.lt_of_lt_of_le q.lt (by rw [z]; exact hb)) (Nat.lt_irrefl _)
 ·exact absurd (Nat.lt_of_lt_of_le (Heap.lt_size (I.pin p hp).1) (by rw [z]; exact hb)) (Nat.lt_irrefl _)
structure Turn (P : Program) (w : World) (K : PySem.W.Frag) (tg : Expr) (J : It) (fp : List Addr) (it : Addr) (tn : Nat -> Heap -> Prop) : Prop where
 mem : it ∈ fp
 obj : ∀ i h, tn i h -> ∀ b ∈ fp, ∃ o, h.get? b = some o /\ ∀ v, o.data ≠ .cell v
 keep : ∀ i h h', tn i h -> (∀ b ∈ fp, ∀ o, h.get? b = some o -> h'.get? b = some o) -> tn i h'
 item : ∀ (X : Cx), X.prog = P -> X.w = w -> X.K = K -> X.calm = true -> ∀ (i : Nat) (pins : List (Addr × Obj)) (s : Shared) (σ : St) (H : Hp) (E : Value -> Shared -> Prop), Inv X pins σ H s -> (∀ b ∈ fp, FpOk X pins H b) -> tn i s.heap -> J.go i H ->
  wpAny (model P w) X.A (pyNext (.ref it)) (fun r s1 => ∃ u, r = some u /\
   wpAny (model P w) X.A (letOwnedTupleGo tg (.ref it) u) (fun _ s2 => ∃ x H', Inv X pins σ H' s2 /\ RelV x u /\ J.yld i H x H' /\ tn (i + 1) s2.heap /\ ∀ b ∈ fp, H' b = none) E s1) E s
 done : ∀ (X : Cx), X.prog = P -> X.w = w -> X.K = K -> X.calm = true -> ∀ (i : Nat) (pins : List (Addr × Obj)) (s : Shared) (σ : St) (H : Hp) (E : Value -> Shared -> Prop), Inv X pins σ H s -> (∀ b ∈ fp, FpOk X pins H b) -> tn i s.heap -> J.stop i H ->
  wpAny (model P w) X.A (pyNext (.ref it)) (fun r s1 => r = none /\ Inv X pins σ H s1) E s
 self : ∀ (A : Around) (i : Nat) (s : Shared) (Q : Value -> Shared -> Prop) (E : Value -> Shared -> Prop), tn i s.heap -> Q (.ref it) s -> wpAny (model P w) A (pyIter (.ref it)) Q E s
abbrev TI := St -> Hp -> (It -> Hp -> Prop) -> Prop
def PIE (X : Cx) (pins : List (Addr × Obj)) (σ : St) (tg : Expr) (R : It -> Hp -> Prop) (itv : Value) (s2 : Shared) : Prop :=
 ∃ (it : Addr) (fp : List Addr) (tn : Nat -> Heap -> Prop) (J : It) (H' : Hp), itv = .ref it /\ Inv X pins σ H' s2 /\ Turn X.prog X.w X.K tg J fp it tn /\ tn 0 s2.heap /\ (∀ b ∈ fp, FpOk X pins H' b) /\ R J H'
def PI (X : Cx) (tg iter : Expr) (wi : TI) : Prop :=
 ∀ (pins : List (Addr × Obj)) (s : Shared) (σ : St) (H : Hp) (R : It -> Hp -> Prop), Inv X pins σ H s -> wi σ H R ->
  wpAny (model X.prog X.w) X.A (eval iter X.env) (fun v s1 => wpAny (model X.prog X.w) X.A (pyIter v) (PIE X pins σ tg R) X.xe s1) X.xe s
theorem go_of {M : Model} {A : Around} {E : Value -> Shared -> Prop} {s : Shared} {tg : Expr} {it : Addr} {u : Value} {o : Obj} {n : String} {vs : Array Value} {Q : Unit -> Shared -> Prop} (ho : s.heap.get? it = some o) (hc : o.cls = .type n) (hd : o.data = .fields vs)
    (hn : ["enumerate", "zip", "dict_itemiterator", "dict_reverseitemiterator", "odict_iterator", "itertools.zip_longest", "itertools.pairwise"].contains n = false) (hQ : Q () s) : wpAny M A (letOwnedTupleGo tg (.ref it) u) Q E s := by
  unfold letOwnedTupleGo
  cases tg <;> first
    | exact wpAny_pure hQ
    | (cases u <;> first
        | exact wpAny_pure hQ
        | (refine wpAny_bind (wpAny_load ho ?_)
           rw [hc, hd]
           show wpAny M A (if (["enumerate", "zip", "dict_itemiterator", "dict_reverseitemiterator", "odict_iterator", "itertools.zip_longest", "itertools.pairwise"].contains n && vs[0]? == some (rawInt _)) = true then _ else _) Q E s
           rw [if_neg (by intro h; rw [hn, Bool.false_and] at h; cases h)]
           exact wpAny_pure hQ))
def Itl (K : PySem.W.Frag) (a : Addr) : It :=
 ⟨fun i H => ∃ xs x, SqL K H a xs /\ xs[i]? = some x, fun i H x H' => H' = H /\ ∀ xs, SqL K H a xs -> xs[i]? = some x, fun i H => ∃ xs, SqL K H a xs /\ xs.length <= i⟩
def Itt (K : PySem.W.Frag) (a : Addr) : It :=
 ⟨fun i H => ∃ xs x, SqT K H a xs /\ xs[i]? = some x, fun i H x H' => H' = H /\ ∀ xs, SqT K H a xs -> xs[i]? = some x, fun i H => ∃ xs, SqT K H a xs /\ xs.length <= i⟩
def Itr (lo : Int) (n : Nat) : It := ⟨fun i _ => i < n, fun i H x H' => H' = H /\ x = .int (lo + i), fun i _ => n <= i⟩
theorem turn_list {P : Program} {w : World} {K : PySem.W.Frag} {tg : Expr} (a it : Addr) : Turn P w K tg (Itl K a) [it] it (fun i h => h.IsListIter it a i) where
 mem := by simp
 obj := fun i h st b hb => by
  have e : b = it := by simpa using hb
  subst e
  obtain ⟨o, e, c, d⟩ := st
  exact ⟨o, e, fun v z => by rw [d] at z; cases z⟩
 keep := fun i h h' st k => st.at fun o e => k it (by simp) o e
 item := by
  intro X hP hw hK hc i pins s σ H E I hf st hg
  subst hP hw hK
  obtain ⟨xs, x, hq, hx⟩ := hg
  obtain ⟨its, rv, p, hz⟩ := I.list hq
  obtain ⟨u, hu, ru⟩ := rv.get hx
  obtain ⟨f0, f1, f2, f3, f4, f5⟩ := hf it (by simp)
  refine wpAny_pyNext_list_item st p.isList (x := u) (by simpa using hu) fun h' st' sb => ?_
  have I1 : Inv X pins σ H { s with heap := h' } := I.turned (t' := s.toks) (fun b o hb e => (sb.2 b hb).trans e) f0 f1 f3 f4 f5
  obtain ⟨o, e, c, d⟩ := id st'
  exact ⟨u, rfl, go_of (s := { s with heap := h' }) e c d (by decide) ⟨x, H, I1, ru, ⟨rfl, fun ys hy => by rw [I.list_inj hy hq]; exact hx⟩, st', fun b hb => (hf b hb).1⟩⟩
 done := by
  intro X hP hw hK hc i pins s σ H E I hf st hg
  subst hP hw hK
  obtain ⟨xs, hq, hx⟩ := hg
  obtain ⟨its, rv, p, hz⟩ := I.list hq
  obtain ⟨f0, f1, f2, f3, f4, f5⟩ := hf it (by simp)
  have hl := rv.length
  exact wpAny_pyNext_list_end (I.ok.hd hc) st p.isList (by simp; omega) fun h' eb => ⟨rfl, I.turned (t' := s.toks) (fun b o hb e => eb b o hb e) f0 f1 f3 f4 f5⟩
 self := fun _ _ _ _ _ st h => wpAny_pyIter_listiter st h
theorem turn_tuple {P : Program} {w : World} {K : PySem.W.Frag} {tg : Expr} (a it : Addr) : Turn P w K tg (Itt K a) [it] it (fun i h => h.IsTupleIter it a i) where
 mem := by simp
 obj := fun i h st b hb => by
  have e : b = it := by simpa using hb
  subst e
  obtain ⟨o, e, c, d⟩ := st
  exact ⟨o, e, fun v z => by rw [d] at z; cases z⟩
 keep := fun i h h' st k => st.at fun o e => k it (by simp) o e
 item := by
  intro X hP hw hK hc i pins s σ H E I hf st hg
  subst hP hw hK
  obtain ⟨xs, x, hq, hx⟩ := hg
  obtain ⟨its, rv, p, hz⟩ := I.tuple hq
  obtain ⟨u, hu, ru⟩ := rv.get hx
  obtain ⟨f0, f1, f2, f3, f4, f5⟩ := hf it (by simp)
  refine wpAny_pyNext_tuple_item st (show s.heap.IsTuple a its.toArray from p) (x := u) (by simpa using hu) fun h' st' sb => ?_
  have I1 : Inv X pins σ H { s with heap := h' } := I.turned (t' := s.toks) (fun b o hb e => (sb.2 b hb).trans e) f0 f1 f3 f4 f5
  obtain ⟨o, e, c, d⟩ := id st'
  exact ⟨u, rfl, go_of (s := { s with heap := h' }) e c d (by decide) ⟨x, H, I1, ru, ⟨rfl, fun ys hy => by rw [I.tuple_inj hy hq]; exact hx⟩, st', fun b hb => (hf b hb).1⟩⟩
 done := by
  intro X hP hw hK hc i pins s σ H E I hf st hg
  subst hP hw hK
  obtain ⟨xs, hq, hx⟩ := hg
  obtain ⟨its, rv, p, hz⟩ := I.tuple hq
  obtain ⟨f0, f1, f2, f3, f4, f5⟩ := hf it (by simp)
  have hl := rv.length
  exact wpAny_pyNext_tuple_end (I.ok.hd hc) st (show s.heap.IsTuple a its.toArray from p) (by simp; omega) fun h' eb => ⟨rfl, I.turned (t' := s.toks) (fun b o hb e => eb b o hb e) f0 f1 f3 f4 f5⟩
 self := fun _ _ _ _ _ st h => wpAny_pyIter_tupleiter st h
theorem turn_range {P : Program} {w : World} {K : PySem.W.Frag} {tg : Expr} (it : Addr) (lo : Int) (n : Nat) : Turn P w K tg (Itr lo n) [it] it (fun i h => IsRangeIter h it (lo + (i : Nat) * 1) ((n : Int) - (i : Nat)) 1) where
 mem := by simp
 obj := fun i h st b hb => by
  have e : b = it := by simpa using hb
  subst e
  exact ⟨_, st, fun v z => by
   have z' : Data.fields _ = Data.cell v := z
   cases z'⟩
 keep := fun i h h' st k => k it (by simp) _ st
 item := by
  intro X hP hw hK hc i pins s σ H E I hf st hg
  subst hP hw hK
  obtain ⟨f0, f1, f2, f3, f4, f5⟩ := hf it (by simp)
  have W := Walks.range (prog := X.prog) (w := X.w) (I.ok.hd hc) it lo 1 n
  refine W.item i s _ _ hg st fun v h' tk hv st' kk => ?_
  obtain ⟨t, rfl⟩ := hv
  have I1 : Inv X pins σ H { s with heap := h', toks := tk } := I.turned (fun b o hb e => kk b o (by simpa using hb) e) f0 f1 f3 f4 f5
  refine ⟨_, rfl, go_of (s := { s with heap := h', toks := tk }) (n := "range_iterator") st' rfl rfl (by decide) ⟨.int (lo + i), H, I1, ⟨t, ?_⟩, ⟨rfl, rfl⟩, st', fun b hb => (hf b hb).1⟩⟩
  rw [Int.mul_one]
 done := by
  intro X hP hw hK hc i pins s σ H E I hf st hg
  subst hP hw hK
  obtain ⟨f0, f1, f2, f3, f4, f5⟩ := hf it (by simp)
  exact wpAny_pyNext_range_end (I.ok.hd hc) st (by have : n <= i := hg; omega) fun h' eb => ⟨rfl, I.turned (t' := s.toks) (fun b o hb e => eb b o hb e) f0 f1 f3 f4 f5⟩
 self := fun _ _ _ _ _ st h => wpAny_pyIter_rangeiter st h
end L2
namespace L2
open PySem PySem.Spec PyProof.Rows
section
variable {X : Cx} {tg : Expr}
theorem range_it {pins : List (Addr × Obj)} {σ : St} {H : Hp} {s : Shared} {R : It -> Hp -> Prop} {E : Value -> Shared -> Prop} {lo hi : Int} {t u v : Tok} {tk : Nat} (I : Inv X pins σ H s) (h1 : -(2 ^ 62) <= lo) (h2 : lo < 2 ^ 62) (h3 : -(2 ^ 62) <= hi) (h4 : hi < 2 ^ 62)
  (q : R (Itr lo (hi - lo).toNat) H) : wpAny (model X.prog X.w) X.A (pyIter (.ref s.heap.objs.size)) (PIE X pins σ tg R) E { s with heap := s.heap.push { cls := .type "range", data := .fields #[.int lo t, .int hi u, .int 1 v] }, toks := tk } := by
 refine wpAny_pyIter_range (IsRange.new ..) (small_one h1 h2 h3 h4) ?_
 have I1 : Inv X pins σ H { s with heap := s.heap.push { cls := .type "range", data := .fields #[.int lo t, .int hi u, .int 1 v] }, toks := tk } := I.kept fun b o e => Heap.get?_push_of_some _ e
 refine ⟨(s.heap.push { cls := .type "range", data := .fields #[.int lo t, .int hi u, .int 1 v] }).objs.size, [(s.heap.push { cls := .type "range", data := .fields #[.int lo t, .int hi u, .int 1 v] }).objs.size], _, _, H, rfl,
  I1.kept (t' := tk) fun b o e => Heap.get?_push_of_some _ e, turn_range _ lo (hi - lo).toNat, ?_, fun b hb => ?_, q⟩
 ·have e1 : lo + ((0 : Nat) : Int) * 1 = lo := by simp
  have e2 : (((hi - lo).toNat : Nat) : Int) - ((0 : Nat) : Int) = Builtin.Range.rangeSize lo hi 1 := by rw [rangeSize_one]; split <;> omega
  show IsRangeIter _ _ (lo + ((0 : Nat) : Int) * 1) ((((hi - lo).toNat : Nat) : Int) - ((0 : Nat) : Int)) 1
  rw [e1, e2]
  exact Heap.get?_push_size _ rfl
 ·have e : b = (s.heap.push { cls := .type "range", data := .fields #[.int lo t, .int hi u, .int 1 v] }).objs.size := by simpa using hb
  subst e
  exact I1.fpOk (Nat.le_refl _) (I1.hok.fresh (Nat.le_refl _))
def iRng1 (ta : TA) : TI := fun σ H R => ta σ H fun vs H1 => ∃ j : Int, vs = [.int j] /\ -(2 ^ 62) <= j /\ j < 2 ^ 62 /\ R (Itr 0 j.toNat) H1
theorem pi_range1 {a : Expr} {ta : TA} {p pos : Pos} (hg : Gl X "range") (hm : X.mg "range" = none) (ha : PA X [a] ta) (hs : starEach [a] X.env = [(false, eval a X.env)] := by rfl) : PI X tg (.Call (.Name "range" p) [a] [] pos) (iRng1 ta) := by
 intro pins s σ H R I h
 refine Call_ (ld_blt I hg hm boot_range (PyProof.Rows.callWith_type1 (thn (ha pos pins s σ H _ I h) fun us s1 ⟨vs, H1, I1, r1, q1⟩ => ?_) hs rfl))
 obtain ⟨j, e, q1, q2, q⟩ := q1
 subst e
 cases r1 with
 | cons r rr =>
  cases rr
  obtain ⟨t, rfl⟩ := r
  exact call_range_1 (range_it I1 (by omega) (by omega) q1 q2 (by simpa using q))
def tFor (wi : TI) (g : TG) (tb : TS) : TS := fun D σ H => wi σ H fun J H1 => ∃ W : Nat -> Nat -> St -> Hp -> Prop, (∃ m, W 0 m σ H1) /\ ∀ i m σ H, W i m σ H ->
 (J.stop i H /\ D.nx σ H) \/ (J.go i H /\ ∃ N : St -> Hp -> Prop, (∀ σ' H', N σ' H' -> ∃ m', m' < m /\ W (i + 1) m' σ' H') /\ ∀ x H', J.yld i H x H' -> g x σ H' fun σ2 H2 => tb { D with nx := N, ct := N, bk := D.nx } σ2 H2)
def pinsAt (fp : List Addr) (h : Heap) : List (Addr × Obj) := fp.filterMap fun b => (h.get? b).map fun o => (b, o)
theorem mem_pinsAt {fp : List Addr} {h : Heap} {b : Addr} {o : Obj} (hb : b ∈ fp) (e : h.get? b = some o) : (b, o) ∈ pinsAt fp h := List.mem_filterMap.mpr ⟨b, hb, by rw [e]; rfl⟩
theorem of_pinsAt {fp : List Addr} {h : Heap} {p : Addr × Obj} (hp : p ∈ pinsAt fp h) : p.1 ∈ fp /\ h.get? p.1 = some p.2 := by
 obtain ⟨b, hb, e⟩ := List.mem_filterMap.mp hp
 cases q : h.get? b with
 | none => rw [q] at e; cases e
 | some o =>
  rw [q] at e
  have e' : (b, o) = p := Option.some.inj e
  subst e'
  exact ⟨hb, q⟩
theorem Inv.pinned {pins : List (Addr × Obj)} {σ : St} {H : Hp} {s : Shared} {fp : List Addr} (I : Inv X pins σ H s) (hf : ∀ b ∈ fp, FpOk X pins H b) (ho : ∀ b ∈ fp, ∃ o, s.heap.get? b = some o /\ ∀ v, o.data ≠ .cell v) : Inv X (pins ++ pinsAt fp s.heap) σ H s :=
 I.pins_of fun p hp => (List.mem_append.mp hp).elim (fun z => I.pin p (List.mem_append_right _ z)) fun z => by
  obtain ⟨hb, e⟩ := of_pinsAt z
  obtain ⟨f0, f1, f2, _⟩ := hf p.1 hb
  obtain ⟨o, e', d⟩ := ho p.1 hb
  rw [e] at e'; cases e'
  exact ⟨e, f0, f1, f2, d⟩
theorem Inv.unpinned {pins pl : List (Addr × Obj)} {σ : St} {H : Hp} {s : Shared} (I : Inv X (pins ++ pl) σ H s) : Inv X pins σ H s := I.pins_of fun p hp => I.pin p (List.mem_append_right _ (List.mem_append_left _ hp))
theorem ps_for {iter : Expr} {body : List Stmt} {wi : TI} {g : TG} {tb : TS} {pos : Pos} (hp : PassesOwn (model X.prog X.w) X.A X.env X.xe) (hc : X.calm = true) (hi : PI X tg iter wi) (hg : PG X tg g) (hb : PSs X body tb)
  (hs : ∀ x, foldedSetIterable iter X.env x = pure x := by intro _; rfl) : PS X (.For tg iter body [] pos) (tFor wi g tb) := by
 intro pins s σ H D I h
 refine wpAny_For (thn (hi pins s σ H _ I h) fun v s1 h1 => thn h1 fun itv s2 h2 => ?_) hs
 obtain ⟨it, fp, tn, J, H2, e, I2, T, st2, f2, W, ⟨m0, w0⟩, turn⟩ := h2
 subst e
 -- what stays true of the iterator's objects through the loop
 have stat : ∀ {H' : Hp}, (∀ b ∈ fp, H' b = none) -> ∀ b ∈ fp, FpOk X pins H' b := fun hn b hb => ⟨hn b hb, (f2 b hb).2⟩
 refine codeAny_forLoop_any (fun n s' => ∃ i σ' H', Inv X pins σ' H' s' /\ tn i s'.heap /\ (∀ b ∈ fp, H' b = none) /\ W i n σ' H') ?_ m0 ⟨0, σ, H2, I2, st2, fun b hb => (f2 b hb).1, w0⟩
 rintro n s3 ⟨i, σ3, H3, I3, st3, fr3, w3⟩
 rcases turn i n σ3 H3 w3 with ⟨stop, qn⟩ | ⟨go, N, hN, step⟩
 ·refine wpAny_passesOwn hp (thn (T.done X rfl rfl rfl hc i pins s3 σ3 H3 X.xe I3 (stat fr3) st3 stop) fun r s4 ⟨hr, I4⟩ => ?_)
  subst hr
  exact wpAny_execs_nil ⟨σ3, H3, I4, qn⟩
 ·refine wpAny_passesOwn hp (thn (T.item X rfl rfl rfl hc i pins s3 σ3 H3 X.xe I3 (stat fr3) st3 go) fun r s4 ⟨u, hr, h4⟩ => ?_)
  subst hr
  refine wpAny_passesOwn hp (thn h4 fun _ s5 ⟨x, H5, I5, r5, y5, st5, fr5⟩ => ?_)
  have I5' := I5.pinned (stat fr5) (T.obj _ _ st5)
  refine wpAny_passesOwn hp (thn (hg _ s5 σ3 H5 x u _ I5' r5 (step x H5 y5)) fun _ s6 ⟨σ6, H6, I6, q6⟩ => ?_)
  refine wpAny_passesOwn hp (thn (hb _ s6 σ6 H6 _ I6 q6) fun f s7 q7 => ?_)
  have again : ∀ {σ7 : St} {H7 : Hp}, Inv X (pins ++ pinsAt fp s5.heap) σ7 H7 s7 -> N σ7 H7 -> ∃ m, m < n /\ ∃ i σ' H', Inv X pins σ' H' s7 /\ tn i s7.heap /\ (∀ b ∈ fp, H' b = none) /\ W i m σ' H' := fun {σ7 H7} I7 n7 => by
   obtain ⟨m', hm, w7⟩ := hN σ7 H7 n7
   refine ⟨m', hm, i + 1, σ7, H7, I7.unpinned, T.keep _ _ _ st5 fun b hb o e => (I7.pin (b, o) (List.mem_append_right _ (List.mem_append_right _ (mem_pinsAt hb e)))).1, fun b hb => ?_, w7⟩
   obtain ⟨o, e, d⟩ := T.obj _ _ st5 b hb
   exact (I7.pin (b, o) (List.mem_append_right _ (List.mem_append_right _ (mem_pinsAt hb e)))).2.1
  cases f with
  | next => obtain ⟨σ7, H7, I7, n7⟩ := q7; exact again I7 n7
  | cont => obtain ⟨σ7, H7, I7, n7⟩ := q7; exact again I7 n7
  | brk => obtain ⟨σ7, H7, I7, q7⟩ := q7; exact ⟨σ7, H7, I7.unpinned, q7⟩
  | ret v => obtain ⟨x7, σ7, H7, I7, r7, q7⟩ := q7; exact ⟨x7, σ7, H7, I7.unpinned, r7, q7⟩
end
end L2
namespace L2
open PySem PySem.Spec PyProof.Rows
abbrev R2 := V -> V -> Hp -> VK -> Prop
def OpR (X : Cx) (f : Value -> Value -> Sem Value) (r : R2) : Prop :=
 ∀ (pins : List (Addr × Obj)) (s : Shared) (σ : St) (H : Hp) (x y : V) (v u : Value) (Q : VK), Inv X pins σ H s -> RelV x v -> RelV y u -> r x y H Q ->
  wpAny (model X.prog X.w) X.A (f v u) (EP X pins σ Q) X.xe s
def UnR (X : Cx) (f : Value -> Sem Value) (r : V -> Hp -> VK -> Prop) : Prop :=
 ∀ (pins : List (Addr × Obj)) (s : Shared) (σ : St) (H : Hp) (x : V) (v : Value) (Q : VK), Inv X pins σ H s -> RelV x v -> r x H Q ->
  wpAny (model X.prog X.w) X.A (f v) (EP X pins σ Q) X.xe s
def CallR (X : Cx) (f : Value) (r : List V -> Hp -> VK -> Prop) : Prop :=
 ∀ (pins : List (Addr × Obj)) (s : Shared) (σ : St) (H : Hp) (xs : List V) (us : List Value) (Q : VK), Inv X pins σ H s -> Vals xs us -> r xs H Q ->
  wpAny (model X.prog X.w) X.A (call f us) (EP X pins σ Q) X.xe s
def tOp (r : R2) (ta tb : TE) : TE := fun σ H Q => ta σ H fun x H1 => tb σ H1 fun y H2 => r x y H2 Q
def tUn (r : V -> Hp -> VK -> Prop) (ta : TE) : TE := fun σ H Q => ta σ H fun x H1 => r x H1 Q
def rI (C : Int -> Int -> Prop) (g : Int -> Int -> V) : R2 := fun x y H Q => ∃ i j, x = .int i /\ y = .int j /\ C i j /\ Q (g i j) H
def rI0 (g : Int -> Int -> V) : R2 := fun x y H Q => ∃ i j, x = .int i /\ y = .int j /\ Q (g i j) H
def rU (g : Int -> V) : V -> Hp -> VK -> Prop := fun x H Q => ∃ i, x = .int i /\ Q (g i) H
section
variable {X : Cx} {a b c : Expr} {ta tb tc : TE} {pos : Pos}
theorem binT (ha : PE X a ta) (hb : PE X b tb) {pins : List (Addr × Obj)} {s : Shared} {σ : St} {H : Hp} {R : V -> V -> Hp -> Prop} (I : Inv X pins σ H s)
  (h : ta σ H fun x H1 => tb σ H1 fun y H2 => R x y H2) {Q : Value -> Shared -> Prop} {f : Value -> Value -> Sem Value}
  (hf : ∀ v u s2 x y H2, Inv X pins σ H2 s2 -> RelV x v -> RelV y u -> R x y H2 -> wpAny (model X.prog X.w) X.A (f v u) Q X.xe s2) :
  wpAny (model X.prog X.w) X.A (eval a X.env) (fun v s₁ => wpAny (model X.prog X.w) X.A (eval b X.env) (fun u s₂ => wpAny (model X.prog X.w) X.A (f v u) Q X.xe s₂) X.xe s₁) X.xe s := by
 refine thn (ha pins s σ H _ I h) fun v s1 ⟨x, H1, I1, r1, q1⟩ => ?_
 refine thn (hb pins s1 σ H1 _ I1 q1) fun u s2 ⟨y, H2, I2, r2, q2⟩ => ?_
 exact hf v u s2 x y H2 I2 r1 r2 q2
theorem pe_op {op : Operator} {r : R2} (ho : OpR X (binaryOp op) r) (ha : PE X a ta) (hb : PE X b tb) : PE X (.BinOp a op b pos) (tOp r ta tb) := by
 intro pins s σ H Q I h
 exact wpAny_BinOp (binT ha hb I h fun v u s2 x y H2 I2 rx ry q => ho pins s2 σ H2 x y v u Q I2 rx ry q)
theorem pe_un {op : UnaryOp} {r : V -> Hp -> VK -> Prop} (ho : UnR X (unaryOp op) r) (ha : PE X a ta) : PE X (.UnaryOp op a pos) (tUn r ta) := by
 intro pins s σ H Q I h
 exact UnaryOp_ (thn (ha pins s σ H _ I h) fun v s1 ⟨x, H1, I1, r1, q1⟩ => ho pins s1 σ H1 x v Q I1 r1 q1)
theorem opI {f : Value -> Value -> Sem Value} {C : Int -> Int -> Prop} {g : Int -> Int -> Int}
  (rule : ∀ (i j : Int) (t u : Tok) (s : Shared) (Q : Value -> Shared -> Prop) (E : Value -> Shared -> Prop), C i j -> Q (.int (g i j) s.toks) { s with toks := s.toks + 1 } -> wpAny (model X.prog X.w) X.A (f (.int i t) (.int j u)) Q E s) :
  OpR X f (rI C fun i j => .int (g i j)) := by
 intro pins s σ H x y v u Q I rx ry h
 obtain ⟨i, j, rfl, rfl, hc, q⟩ := h
 obtain ⟨t, rfl⟩ := rx
 obtain ⟨t', rfl⟩ := ry
 exact rule i j t t' s _ _ hc ⟨.int (g i j), H, I.tok _, ⟨_, rfl⟩, q⟩
theorem opI0 {f : Value -> Value -> Sem Value} {g : Int -> Int -> Int}
  (rule : ∀ (i j : Int) (t u : Tok) (s : Shared) (Q : Value -> Shared -> Prop) (E : Value -> Shared -> Prop), Q (.int (g i j) s.toks) { s with toks := s.toks + 1 } -> wpAny (model X.prog X.w) X.A (f (.int i t) (.int j u)) Q E s) :
  OpR X f (rI0 fun i j => .int (g i j)) := by
 intro pins s σ H x y v u Q I rx ry h
 obtain ⟨i, j, rfl, rfl, q⟩ := h
 obtain ⟨t, rfl⟩ := rx
 obtain ⟨t', rfl⟩ := ry
 exact rule i j t t' s _ _ ⟨.int (g i j), H, I.tok _, ⟨_, rfl⟩, q⟩
theorem opB0 {f : Value -> Value -> Sem Value} {g : Int -> Int -> Bool}
  (rule : ∀ (i j : Int) (t u : Tok) (s : Shared) (Q : Value -> Shared -> Prop) (E : Value -> Shared -> Prop), Q (.bool (g i j)) s -> wpAny (model X.prog X.w) X.A (f (.int i t) (.int j u)) Q E s) :
  OpR X f (rI0 fun i j => .bl (g i j)) := by
 intro pins s σ H x y v u Q I rx ry h
 obtain ⟨i, j, rfl, rfl, q⟩ := h
 obtain ⟨t, rfl⟩ := rx
 obtain ⟨t', rfl⟩ := ry
 exact rule i j t t' s _ _ ⟨.bl (g i j), H, I, rfl, q⟩
def CDiv (i j : Int) : Prop := 0 < j /\ j < 1073741824
def CPow (i j : Int) : Prop := 0 <= j /\ j <= 1000000 /\ i.natAbs < 2 ^ 64
def CMul (i j : Int) : Prop := (-(2 ^ 64) < i /\ i < 2 ^ 64) \/ (-(2 ^ 64) < j /\ j < 2 ^ 64)
theorem CMul.ok {i j : Int} (h : CMul i j) : IntMulOk i j := by
 rcases h with ⟨h1, h2⟩ | ⟨h1, h2⟩
 ·exact .of_left (intBits_le_64 h1 h2)
 ·exact .of_right (intBits_le_64 h1 h2)
theorem op_add : OpR X (binaryOp .Add) (rI0 fun i j => .int (i + j)) := opI0 fun _ _ _ _ _ _ _ q => add_int q
theorem op_sub : OpR X (binaryOp .Sub) (rI0 fun i j => .int (i - j)) := opI0 fun _ _ _ _ _ _ _ q => sub_int q
theorem op_mul : OpR X (binaryOp .Mult) (rI CMul fun i j => .int (i * j)) := opI fun _ _ _ _ _ _ _ hc q => mul_int q hc.ok
theorem op_fdiv : OpR X (binaryOp .FloorDiv) (rI CDiv fun i j => .int (i / j)) := opI fun i j _ _ _ _ _ hc q => by
 have h1 : (0 : Int) < j := hc.1
 have h2 : j < 1073741824 := hc.2
 exact floordiv_int (by omega) (by rw [Int.fdiv_eq_ediv_of_nonneg i (by omega)]; exact q) (.inl (PyProof.noPylong_small (by omega)))
theorem op_mod : OpR X (binaryOp .Mod) (rI (fun _ j => 0 < j) fun i j => .int (i % j)) := opI fun i j _ _ _ _ _ hc q => by
 have h1 : (0 : Int) < j := hc
 exact mod_int' (by omega) (by rw [Int.fmod_eq_emod_of_nonneg i (by omega)]; exact q)
theorem op_pow : OpR X (binaryOp .Pow) (rI CPow fun i j => .int (i ^ j.toNat)) := opI fun _ _ _ _ _ _ _ hc q => pow_int_small hc.1 hc.2.1 hc.2.2 q
theorem unI {f : Value -> Sem Value} {g : Int -> Int}
  (rule : ∀ (i : Int) (t : Tok) (s : Shared) (Q : Value -> Shared -> Prop) (E : Value -> Shared -> Prop), Q (.int (g i) s.toks) { s with toks := s.toks + 1 } -> wpAny (model X.prog X.w) X.A (f (.int i t)) Q E s) :
  UnR X f (rU fun i => .int (g i)) := by
 intro pins s σ H x v Q I rx h
 obtain ⟨i, rfl, q⟩ := h
 obtain ⟨t, rfl⟩ := rx
 exact rule i t s _ _ ⟨.int (g i), H, I.tok _, ⟨_, rfl⟩, q⟩
theorem un_neg : UnR X (unaryOp .USub) (rU fun i => .int (-i)) := unI fun _ _ _ _ _ q => neg_int q
end
section
variable {X : Cx} {a b c : Expr} {ta tb tc : TE} {pos : Pos}
theorem fin_bl {pins : List (Addr × Obj)} {σ : St} {H : Hp} {s : Shared} {Q : VK} {k k' : Bool} (I : Inv X pins σ H s) (q : Q (.bl k) H) (e : k = k') : EP X pins σ Q (.bool k') s := by
 subst e
 exact ⟨.bl k, H, I, rfl, q⟩
theorem op_lt : OpR X (compareOp .Lt) (rI0 fun i j => .bl (decide (i < j))) := opB0 fun _ _ _ _ _ _ _ q => lt_int q
theorem op_gt : OpR X (compareOp .Gt) (rI0 fun i j => .bl (decide (j < i))) := opB0 fun _ _ _ _ _ _ _ q => gt_int q
theorem op_lt_str : OpR X (compareOp .Lt) (fun x y H Q => ∃ i j, x = .str i /\ y = .str j /\ Q (.bl (decide (i.cps.toList < j.cps.toList))) H) := by
 intro pins s σ H x y v u Q I rx ry h
 obtain ⟨i, j, rfl, rfl, q⟩ := h
 obtain ⟨t, rfl⟩ := rx
 obtain ⟨t', rfl⟩ := ry
 exact lt_str (fin_bl I q rfl)
theorem op_in_str : OpR X (compareOp .In) (fun x y H Q => ∃ i j, x = .str i /\ y = .str j /\ Q (.bl (!(Builtin.Str.occurrences j i 0 j.length 1).isEmpty)) H) := by
 intro pins s σ H x y v u Q I rx ry h
 obtain ⟨i, j, rfl, rfl, q⟩ := h
 obtain ⟨t, rfl⟩ := rx
 obtain ⟨t', rfl⟩ := ry
 exact in_str (fin_bl I q rfl)
theorem op_isN : OpR X (compareOp .Is) (fun x y H Q => y = .non /\ Q (.bl (decide (x = .non))) H) := by
 intro pins s σ H x y v u Q I rx ry h
 obtain ⟨rfl, q⟩ := h
 cases ry
 refine is_none_gen (fin_bl I q ?_)
 cases x <;> first
  | (cases rx; rfl)
  | (obtain ⟨t, rfl⟩ := rx; rfl)
theorem OpR.or {f : Value -> Value -> Sem Value} {r r' : R2} (h : OpR X f r) (h' : OpR X f r') : OpR X f (fun x y H Q => r x y H Q \/ r' x y H Q) := by
 intro pins s σ H x y v u Q I rx ry q
 rcases q with q | q
 ·exact h pins s σ H x y v u Q I rx ry q
 ·exact h' pins s σ H x y v u Q I rx ry q
theorem nomark (b : Expr) {op : CmpOp} (h : op ≠ .In := by decide) (h2 : op ≠ .NotIn := by decide) : behindInMarks op b = false := by
 have e1 : (op == CmpOp.In) = false := by cases op <;> first | rfl | exact absurd rfl h
 have e2 : (op == CmpOp.NotIn) = false := by cases op <;> first | rfl | exact absurd rfl h2
 cases b <;> simp [behindInMarks, e1, e2]
theorem pe_cmpR {op : CmpOp} {r : R2} (ho : OpR X (compareOp op) r) (ha : PE X a ta) (hb : PE X b tb) (hm : behindInMarks op b = false) : PE X (.Compare a [op] [b] pos) (tOp r ta tb) := by
 intro pins s σ H Q I h
 exact wpAny_Compare1 (binT ha hb I h fun v u s2 x y H2 I2 rx ry q => ho pins s2 σ H2 x y v u Q I2 rx ry q) hm
def tTest (t : TE) : TT := fun σ H Q => t σ H fun x H' => ∃ k, x = .bl k /\ Q k H'
theorem pt_cmpR {op : CmpOp} {r : R2} (ho : OpR X (compareOp op) r) (ha : PE X a ta) (hb : PE X b tb) (hm : behindInMarks op b = false) : PT X (.Compare a [op] [b] pos) (tTest (tOp r ta tb)) := by
 intro pins s σ H Q I h
 refine wpAny_isTrue_Compare1 (thn (ha pins s σ H _ I h) fun v s1 ⟨x, H1, I1, r1, q1⟩ => thn (hb pins s1 σ H1 _ I1 q1) fun u s2 ⟨y, H2, I2, r2, q2⟩ =>
  thn (ho pins s2 σ H2 x y v u _ I2 r1 r2 q2) fun c s3 ⟨z, H3, I3, r3, k, e, q3⟩ => ?_) hm
 subst e
 cases r3
 exact wpAny_truthy_bool ⟨H3, I3, q3⟩
def tChain (r r' : R2) (ta tb tc : TE) : TE := fun σ H Q => ta σ H fun x H1 => tb σ H1 fun y H2 => r x y H2 fun z H3 => ∃ k, z = .bl k /\
 (if k = true then tc σ H3 fun w' H4 => r' y w' H4 Q else Q (.bl false) H3)
theorem pe_chain {op op' : CmpOp} {r r' : R2} (ho : OpR X (compareOp op) r) (ho' : OpR X (compareOp op') r') (ha : PE X a ta) (hb : PE X b tb) (hc : PE X c tc)
  (hm : lastMarks [op, op'] [b, c] = false := by with_unfolding_all rfl) : PE X (.Compare a [op, op'] [b, c] pos) (tChain r r' ta tb tc) := by
 intro pins s σ H Q I h
 refine Compare_chain (thn (ha pins s σ H _ I h) fun v s1 ⟨x, H1, I1, r1, q1⟩ => chain_link (thn (hb pins s1 σ H1 _ I1 q1) fun u s2 ⟨y, H2, I2, r2, q2⟩ =>
  thn (ho pins s2 σ H2 x y v u _ I2 r1 r2 q2) fun d s3 ⟨z, H3, I3, r3, k, e, q3⟩ => ?_)) hm
 subst e
 cases r3
 refine wpAny_truthy_bool ?_
 cases k with
 | false => exact ite_ff ⟨.bl false, H3, I3, rfl, q3⟩
 | true => exact ite_tt (chain_last (thn (hc pins s3 σ H3 _ I3 q3) fun w' s4 ⟨z', H4, I4, r4, q4⟩ => ho' pins s4 σ H4 y z' u w' Q I4 r2 r4 q4))
theorem line63 : (sizeLine : Nat) < 2 ^ 63 := by rw [sizeLine_eq]; decide
theorem op_add_str : OpR X (binaryOp .Add) (fun x y H Q => ∃ i j, x = .str i /\ y = .str j /\ i.length + j.length <= sizeLine /\ Q (.str (i ++ j)) H) := by
 intro pins s σ H x y v u Q I rx ry h
 obtain ⟨i, j, rfl, rfl, hz, q⟩ := h
 obtain ⟨t, rfl⟩ := rx
 obtain ⟨t', rfl⟩ := ry
 exact add_str (fun t' tk => ⟨.str (i ++ j), H, I.tok _, ⟨_, rfl⟩, q⟩) hz
theorem vals1 {x : V} {us : List Value} (r : Vals [x] us) : ∃ u, us = [u] /\ RelV x u := by
 cases r with
 | cons r1 r2 => cases r2; exact ⟨_, rfl, r1⟩
theorem vals2 {x y : V} {us : List Value} (r : Vals [x, y] us) : ∃ u w', us = [u, w'] /\ RelV x u /\ RelV y w' := by
 cases r with
 | cons r1 r2 =>
  cases r2 with
  | cons r3 r4 => cases r4; exact ⟨_, _, rfl, r1, r3⟩
theorem call_max2 (hc : X.calm = true) : CallR X (.builtin "max") (fun xs H Q => ∃ i j, xs = [.int i, .int j] /\ Q (.int (if j > i then j else i)) H) := by
 intro pins s σ H xs us Q I r h
 obtain ⟨i, j, rfl, q⟩ := h
 obtain ⟨u, w', rfl, ⟨t, rfl⟩, ⟨t', rfl⟩⟩ := vals2 r
 refine max_two_ints (I.ok.hd hc) fun h' tk k => ⟨_, H, I.kept k, ?_, q⟩
 by_cases hj : j > i
 ·rw [if_pos hj, if_pos hj]; exact ⟨_, rfl⟩
 ·rw [if_neg hj, if_neg hj]; exact ⟨_, rfl⟩
theorem call_int1 : CallR X (.type "int") (fun xs H Q => (∃ i, xs = [.int i] /\ Q (.int i) H) \/ ∃ k, xs = [.bl k] /\ Q (.int (if k then 1 else 0)) H) := by
 intro pins s σ H xs us Q I r h
 rcases h with ⟨i, rfl, q⟩ | ⟨k, rfl, q⟩
 ·obtain ⟨u, rfl, t, rfl⟩ := vals1 r
  exact call_int_int ⟨.int i, H, I, ⟨_, rfl⟩, q⟩
 ·obtain ⟨u, rfl, r1⟩ := vals1 r
  cases r1
  exact call_int_bool ⟨.int (if k then 1 else 0), H, I.tok _, ⟨_, rfl⟩, q⟩
theorem call_str_int : CallR X (.type "str") (fun xs H Q => ∃ i, xs = [.int i] /\ i.natAbs.log2 < 1920 /\ Q (.str (toString i)) H) := by
 intro pins s σ H xs us Q I r h
 obtain ⟨i, rfl, hz, q⟩ := h
 obtain ⟨u, rfl, t, rfl⟩ := vals1 r
 exact PySem.P.str_of_int hz ⟨.str _, H, I.tok _, ⟨_, rfl⟩, q⟩
theorem call_ord : CallR X (.builtin "ord") (fun xs H Q => ∃ x, xs = [.str x] /\ x.length = 1 /\ Q (.int (x.cps.getD 0 0 : Nat)) H) := by
 intro pins s σ H xs us Q I r h
 obtain ⟨x, rfl, hz, q⟩ := h
 obtain ⟨u, rfl, t, rfl⟩ := vals1 r
 exact ord_of_one hz ⟨.int _, H, I.tok _, ⟨_, rfl⟩, q⟩
end
end L2
namespace L2
open PySem PySem.Spec PyProof.Rows
structure ObjM (h : Heap) (x dx C : Addr) (mA : Str -> Option Value) : Prop where
 obj : h.get? x = some (PySem.W.instObj C dx)
 ns : h.Ns1 dx mA
 ne : dx ≠ x
theorem lookIn_ns {h : Heap} {dx : Addr} {mA : Str -> Option Value} (n : h.Ns1 dx mA) : ∃ od, h.get? dx = some od /\ ∀ name, PySem.W.lookIn name od = some (mA name) := by
 obtain ⟨o, es, ep, ho, hd, hk, _, hm⟩ := n
 refine ⟨o, ho, fun name => ?_⟩
 have e := hm name
 unfold nsFind findBy at e
 rw [<- Array.find?_toList] at e
 unfold PySem.W.lookIn
 rw [hd]
 dsimp only
 split
 ·rename_i y q
  rw [q] at e
  exact congrArg some e
 ·rename_i q
  rw [q] at e
  have a : es.toList.any (·.refKey) = false := by
   rw [List.any_eq_false]
   intro y hy
   obtain ⟨z, t, hkey⟩ := hk y (Array.mem_toList_iff.mp hy)
   simp [DictEntry.refKey, hkey]
  have a' : ¬ es.toList.any (·.refKey) = true := by rw [a]; exact Bool.false_ne_true
  rw [if_neg a']
  exact congrArg some e
theorem ObjM.look {h : Heap} {x dx C : Addr} {mA : Str -> Option Value} (I : ObjM h x dx C mA) : ∃ od, PySem.W.InstAt h x (PySem.W.instObj C dx) C (some od) /\ ∀ name, PySem.W.lookIn name od = some (mA name) :=
 let ⟨od, ho, hl⟩ := lookIn_ns I.ns
 ⟨od, ⟨I.obj, rfl, rfl, ho⟩, hl⟩
section
variable {prog : Program} {w : World} {A : Around} {E : Value -> Shared -> Prop} {s : Shared} {K : PySem.W.Frag} {x dx C f : Addr} {mA : Str -> Option Value} {name : Str} {v : Value}
theorem get_map {expr : Bool} {Q : Value -> Shared -> Prop} (X : K.In s.heap) (I : ObjM s.heap x dx C mA) (hg : PySem.W.plainGet K C name = true) (hh : PySem.W.hasDictIn K C = true)
  (ha : PySem.W.findIn K (.ref C) name = some none) (hv : mA name = some v) (hv' : PySem.W.handedIn v = true) (h : Q v { s with toks := s.toks + 1 }) :
  wpAny (model prog w) A (getAttr (.ref x) name expr) Q E s := by
 obtain ⟨od, J, hl⟩ := I.look
 exact PySem.W.get_value X J (PySem.W.plainGet_of hg).1 (PySem.W.findObj_own hh ha rfl (by rw [hl, hv])) hv' h
theorem get_meth {pl : Sem Bool} {Q : Value × List Value -> Shared -> Prop} (X : K.In s.heap) (I : ObjM s.heap x dx C mA) (hg : PySem.W.plainGet K C name = true)
  (hf : PySem.W.findIn K (.ref C) name = some (some (.ref f))) (ht : PySem.W.isFn K (.ref f) = true) (hv : mA name = none) (h : Q (.ref f, [.ref x]) s) :
  wpAny (model prog w) A (getMethod (.ref x) name pl) Q E s := by
 obtain ⟨od, J, hl⟩ := I.look
 exact PySem.W.method_fn X J (PySem.W.plainGet_of hg).1 (PySem.W.plainGet_of hg).2 hf (beq_iff_eq.mp ht) (by show (PySem.W.lookIn name od).map (·.isSome) = some false; rw [hl, hv]; rfl) h
theorem set_map {ns : List Str} {Q : Unit -> Shared -> Prop} (X : K.In s.heap) (I : ObjM s.heap x dx C mA)
  (hs : PySem.W.findIn K (.ref C) "__setattr__" = some (some (.builtin "object.__setattr__"))) (hp : PySem.W.plainOver K C = true) (ht : PySem.W.takerIn K C name = some none) (hh : PySem.W.hasDictIn K C = true)
  (hw : PySem.Within mA ns) (hsz : ns.length <= sizeLine)
  (h : ∀ h', ObjM h' x dx C (fun y => if y = name then some v else mA y) -> Heap.SameBut dx s.heap h' -> Q () { s with heap := h', toks := s.toks + 2 }) :
  wpAny (model prog w) A (setAttr (.ref x) name v) Q E s := by
 obtain ⟨od, J, hl⟩ := I.look
 refine PySem.W.set_plain X J hs (PySem.W.osa_open (s := { s with toks := s.toks + 1 }) (r := none) X J hp ht fun b => ?_)
 obtain ⟨cd, hc, hd'⟩ := PySem.W.any_some hh
 have hx : s.heap.get? x = some ⟨.ref C, some dx, .plain, #[]⟩ := I.obj
 refine wpAny_bind (wpAny_pure (wpAny_bind (wpAny_bind (wpAny_loadPart hx (wpAny_bind (PySem.W.Looks.here (s := { s with toks := s.toks + 1 }) (PySem.W.looks_clsIn X hc) ?_))))))
 rw [hd']
 refine wpAny_pure (a := some dx) (wpAny_bind (wpAny_pure (wpAny_bind ?_)))
 refine wpAny_nsSet1 (s := { s with toks := s.toks + 1 }) I.ns fun h' hn2 hs2 => ?_
 obtain ⟨oD, esD, epD, hoD, hdD, hcD⟩ := hn2.count (PySem.Within.cons name v hw)
 refine wpAny_bind (wpAny_lookBehind hoD (by rw [hdD]; exact pastItsLine_dict (Nat.le_trans hcD (by rw [List.length_cons]; omega))) ?_)
 exact wpAny_pure (h _ ⟨(hs2.2 _ (Ne.symm I.ne)).trans I.obj, hn2, I.ne⟩ hs2)
theorem make_map {R : Result -> Shared -> Prop} {vs : List Value} {kw : List (Str × Value)} (X : K.In s.heap) (hm : PySem.W.makesIn K C = true)
  (hi : PySem.W.findIn K (.ref C) "__init__" = some (some (.ref f))) (hf : PySem.W.typeIn K (.ref f) = some (.type "function"))
  (h : codeAny (model prog w) (A.under (.builtin "type.__call__" ⟨.ref C :: vs, kw⟩)) (.call (.ref f) ⟨.ref (s.heap.objs.size + 1) :: vs, kw⟩) (PySem.W.InitBack (s.heap.objs.size + 1) R)
   { s with heap := (s.heap.push PySem.W.emptyDict).push (PySem.W.instObj C s.heap.objs.size) }) :
  codeAny (model prog w) A (.call (.ref C) ⟨vs, kw⟩) R s := by
 obtain ⟨hh, g, d, t, os⟩ := s
 exact PySem.W.make_core (PySem.W.makes_of X hm) (PySem.W.looks_findIn X hi) (fun self => PySem.W.bind_fn X self hf) (.inl rfl) h
end
def putF (f : Str) (v : V) : List (Str × V) -> List (Str × V)
 | [] => [(f, v)]
 | (g, x) :: r => if g = f then (g, v) :: r else (g, x) :: putF f v r
theorem lookup_putF (f g : Str) (v : V) : ∀ fs : List (Str × V), (putF f v fs).lookup g = if g = f then some v else fs.lookup g
 | [] => by
  show List.lookup g [(f, v)] = _
  by_cases h : g = f
  ·have hb : (g == f) = true := beq_iff_eq.mpr h
   simp only [List.lookup, hb, if_pos h]
  ·have hb : (g == f) = false := beq_eq_false_iff_ne.mpr h
   simp only [List.lookup, hb, if_neg h]
 | (k, x) :: r => by
  have ih := lookup_putF f g v r
  rw [show putF f v ((k, x) :: r) = (if k = f then (k, v) :: r else (k, x) :: putF f v r) from rfl]
  by_cases hk : k = f
  ·rw [if_pos hk]
   by_cases h : g = k
   ·have hb : (g == k) = true := beq_iff_eq.mpr h
    simp only [List.lookup, hb, if_pos (h.trans hk)]
   ·have hb : (g == k) = false := beq_eq_false_iff_ne.mpr h
    simp only [List.lookup, hb, if_neg (fun e : g = f => h (e.trans hk.symm))]
  ·rw [if_neg hk]
   by_cases h : g = k
   ·have hb : (g == k) = true := beq_iff_eq.mpr h
    simp only [List.lookup, hb, if_neg (fun e : g = f => hk (h.symm.trans e))]
   ·have hb : (g == k) = false := beq_eq_false_iff_ne.mpr h
    simp only [List.lookup, hb]
    exact ih
theorem keys_putF (f : Str) (v : V) : ∀ fs : List (Str × V), f ∈ (putF f v fs).map (·.1) /\ ∀ g, g ∈ fs.map (·.1) -> g ∈ (putF f v fs).map (·.1)
 | [] => ⟨by simp [putF], fun g h => by simp at h⟩
 | (k, x) :: r => by
  obtain ⟨i1, i2⟩ := keys_putF f v r
  rw [show putF f v ((k, x) :: r) = (if k = f then (k, v) :: r else (k, x) :: putF f v r) from rfl]
  by_cases hk : k = f
  ·rw [if_pos hk]
   subst hk
   exact ⟨by simp, fun g h => by simpa using h⟩
  ·rw [if_neg hk]
   refine ⟨?_, fun g h => ?_⟩
   ·rw [List.map_cons]
    exact List.mem_cons_of_mem _ i1
   ·rw [List.map_cons] at h ⊢
    rcases List.mem_cons.mp h with e | e
    ·exact List.mem_cons.mpr (.inl e)
    ·exact List.mem_cons_of_mem _ (i2 g e)
theorem length_putF (f : Str) (v : V) : ∀ fs : List (Str × V), (putF f v fs).length <= fs.length + 1
 | [] => by simp [putF]
 | (k, x) :: r => by
  have ih := length_putF f v r
  rw [show putF f v ((k, x) :: r) = (if k = f then (k, v) :: r else (k, x) :: putF f v r) from rfl]
  by_cases hk : k = f
  ·rw [if_pos hk, List.length_cons, List.length_cons]; omega
  ·rw [if_neg hk, List.length_cons, List.length_cons]; omega
theorem RelO.some_of {v : V} {o : Option Value} (r : RelO (some v) o) : ∃ u, o = some u /\ RelV v u := by
 cases o with
 | none => exact (show False from r).elim
 | some u => exact ⟨u, rfl, r⟩
theorem RelO.none_of {o : Option Value} (r : RelO none o) : o = none := by
 cases o with
 | none => rfl
 | some u => exact (show False from r).elim
theorem handed_of {v : V} {u : Value} (r : RelV v u) : PySem.W.handedIn u = true := by
 cases v with
 | non => cases (show u = Value.none from r); rfl
 | bl b => cases (show u = Value.bool b from r); rfl
 | int i => obtain ⟨t, e⟩ := (show ∃ t, u = Value.int i t from r); cases e; rfl
 | str x => obtain ⟨t, e⟩ := (show ∃ t, u = Value.str x t from r); cases e; rfl
 | byt b => obtain ⟨t, e⟩ := (show ∃ t, u = Value.bytes b t from r); cases e; rfl
 | flt b => obtain ⟨t, e⟩ := (show ∃ t, u = Value.float b t from r); cases e; rfl
 | ref a => cases (show u = Value.ref a from r); rfl
 | ty n => cases (show u = Value.type n from r); rfl
section
variable {P : Program} {w : World} {H H' : Hp} {h h' : Heap} {a C dx : Addr} {fs fs' : List (Str × V)}
theorem ins_get (hok : HOk P w H h) (e : H a = some (.ins C dx fs)) : ∃ mA, ObjM h a dx C mA /\ (∀ f, RelO (fs.lookup f) (mA f)) /\ PySem.Within mA (fs.map (·.1)) /\ fs.length <= 1000 /\ H dx = some (.own a) := by
 obtain ⟨d, z, ne, ob, mA, n, r, q⟩ := (show ObjOk P w H h a (.ins C dx fs) from hok a _ e)
 exact ⟨mA, ⟨ob, n, ne⟩, r, q, z, d⟩
end
structure Cls (K : PySem.W.Frag) (C : Addr) : Prop where
 pg : PySem.W.plainGet K C Str.empty = true
 hd : PySem.W.hasDictIn K C = true
 po : PySem.W.plainOver K C = true
 sa : PySem.W.findIn K (.ref C) "__setattr__" = some (some (.builtin "object.__setattr__"))
theorem Cls.get {K : PySem.W.Frag} {C : Addr} (c : Cls K C) (f : Str) : PySem.W.plainGet K C f = true := c.pg
def NoAttr (K : PySem.W.Frag) (C : Addr) (f : Str) : Prop := PySem.W.findIn K (.ref C) f = some none
theorem NoAttr.taker {K : PySem.W.Frag} {C : Addr} {f : Str} (n : NoAttr K C f) : PySem.W.takerIn K C f = some none := by
 unfold PySem.W.takerIn
 rw [show PySem.W.findIn K (.ref C) f = some none from n]
 rfl
structure Meth (K : PySem.W.Frag) (C : Addr) (m : Str) (f : Addr) : Prop where
 at_ : PySem.W.findIn K (.ref C) m = some (some (.ref f))
 fn : PySem.W.isFn K (.ref f) = true
 kp : PySem.W.keepIn K (.ref f) = true
section
variable {X : Cx} {pins : List (Addr × Obj)} {σ : St} {H : Hp} {s : Shared} {a C dx : Addr} {fs : List (Str × V)} {f : Str} {v : V} {A : Around} {E : Value -> Shared -> Prop}
theorem getattr_ok {b : Bool} {Q : Value -> Shared -> Prop} (I : Inv X pins σ H s) (e : H a = some (.ins C dx fs)) (c : Cls X.K C) (n : NoAttr X.K C f) (l : fs.lookup f = some v)
  (h : ∀ u s', Inv X pins σ H s' -> RelV v u -> Q u s') : wpAny (model X.prog X.w) A (getAttr (.ref a) f b) Q E s := by
 obtain ⟨mA, O, r, _, _, _⟩ := ins_get I.hok e
 obtain ⟨u, hu, ru⟩ := RelO.some_of (v := v) (o := mA f) (by rw [<- l]; exact r f)
 exact get_map I.kIn O (c.get f) c.hd n hu (handed_of ru) (h u _ (I.tok _) ru)
theorem getmeth_ok {m : Str} {g : Addr} {pl : Sem Bool} {Q : Value × List Value -> Shared -> Prop} (I : Inv X pins σ H s) (e : H a = some (.ins C dx fs)) (c : Cls X.K C) (k : Meth X.K C m g) (l : fs.lookup m = none)
  (h : Q (.ref g, [.ref a]) s) : wpAny (model X.prog X.w) A (getMethod (.ref a) m pl) Q E s := by
 obtain ⟨mA, O, r, _, _, _⟩ := ins_get I.hok e
 have hn : mA m = none := RelO.none_of (by rw [<- l]; exact r m)
 exact get_meth I.kIn O (c.get m) k.at_ k.fn hn h
theorem setattr_ok {y : V} {u : Value} {Q : Unit -> Shared -> Prop} (I : Inv X pins σ H s) (e : H a = some (.ins C dx fs)) (c : Cls X.K C) (n : NoAttr X.K C f) (hl : fs.length < 1000) (ry : RelV y u)
  (h : ∀ s', Inv X pins σ (upd H a (.ins C dx (putF f y fs))) s' -> Q () s') : wpAny (model X.prog X.w) A (setAttr (.ref a) f u) Q E s := by
 obtain ⟨mA, O, r, wi, _, ho⟩ := ins_get I.hok e
 have hz : (fs.map (·.1)).length <= sizeLine := by rw [List.length_map, sizeLine_eq]; omega
 refine set_map I.kIn O c.sa c.po n.taker c.hd wi hz fun h' O' sb => h _ ?_
 have hd : ∃ o, h'.get? dx = some o := let ⟨o, _, _, e', _⟩ := O'.ns; ⟨o, e'⟩
 refine I.write (x := a) (e := dx) (by rw [e]; exact True.intro) (.inr ho) (fun b q hb z => (sb.2 b hb).trans z) hd ?_
 refine ⟨by rw [upd_ne O.ne]; exact ho, ?_, O.ne, O'.obj, _, O'.ns, fun g => ?_, fun g hg => ?_⟩
 ·have := length_putF f y fs; omega
 ·show RelO ((putF f y fs).lookup g) (if g = f then some u else mA g)
  rw [lookup_putF]
  by_cases q : g = f
  ·rw [if_pos q, if_pos q]; exact ry
  ·rw [if_neg q, if_neg q]; exact r g
 ·by_cases q : g = f
  ·rw [q]; exact (keys_putF f y fs).1
  ·refine (keys_putF f y fs).2 g (wi g fun z => hg ?_)
   show (if g = f then some u else mA g) = none
   rw [if_neg q]; exact z
theorem Inv.made (I : Inv X pins σ H s) : Inv X pins σ (upd (upd H s.heap.objs.size (.own (s.heap.objs.size + 1))) (s.heap.objs.size + 1) (.ins C s.heap.objs.size []))
  { s with heap := (s.heap.push PySem.W.emptyDict).push (PySem.W.instObj C s.heap.objs.size) } := by
 have e1 : (s.heap.push PySem.W.emptyDict).get? s.heap.objs.size = some PySem.W.emptyDict := Heap.get?_push_size s.heap rfl
 have e2 : ((s.heap.push PySem.W.emptyDict).push (PySem.W.instObj C s.heap.objs.size)).get? (s.heap.objs.size + 1) = some (PySem.W.instObj C s.heap.objs.size) := by
  have := Heap.get?_push_size (s.heap.push PySem.W.emptyDict) (o := PySem.W.instObj C s.heap.objs.size) rfl
  rwa [Heap.size_push] at this
 have e3 : (s.heap.push PySem.W.emptyDict).Ns s.heap.objs.size (fun _ => none) := ⟨PySem.W.emptyDict, #[], _, e1, rfl, (fun e he => absurd he (by simp)), fun _ => rfl⟩
 have I1 := I.laid (a := s.heap.objs.size) (o := .own (s.heap.objs.size + 1)) (h' := s.heap.push PySem.W.emptyDict) (t' := s.toks) (fun b u q => Heap.get?_push_of_some _ q) (Nat.le_refl _) ⟨_, e1⟩
 refine I1.laid (a := s.heap.objs.size + 1) (o := .ins C s.heap.objs.size []) (t' := s.toks) (fun b u q => Heap.get?_push_of_some _ q) (Nat.le_of_eq (Heap.size_push _ _)) ?_
 have ne : s.heap.objs.size ≠ s.heap.objs.size + 1 := Nat.ne_of_lt (Nat.lt_succ_self _)
 refine ⟨by rw [upd_ne ne, upd_same], Nat.zero_le _, ne, e2, fun _ => none, (Heap.Ns1.of_empty e3).at fun o q => Heap.get?_push_of_some _ q, fun _ => True.intro, fun y hy => absurd rfl hy⟩
theorem attr_of {prog : Program} {w : World} {env : Env} {e : Expr} {f : Str} {pos : Pos} {s : Shared} {Q : Value -> Shared -> Prop} (hb : attributeBase e f env (eval e env) = eval e env)
  (h : wpAny (model prog w) A (eval e env) (fun o s₁ => wpAny (model prog w) A (getAttr o f true) Q E s₁) E s) : wpAny (model prog w) A (eval (.Attribute e f pos) env) Q E s :=
 Attribute_any_ h (by rw [arm_eval_Attribute, hb])
end
def tFld (K : PySem.W.Frag) (ta : TE) (f : Str) : TE := fun σ H Q => ta σ H fun x H1 => ∃ a C dx fs v, x = .ref a /\ H1 a = some (.ins C dx fs) /\ Cls K C /\ NoAttr K C f /\ fs.lookup f = some v /\ Q v H1
def sFld (K : PySem.W.Frag) (ta tv : TE) (f : Str) : TS := fun D σ H => tv σ H fun y H1 => ta σ H1 fun x H2 => ∃ a C dx fs, x = .ref a /\ H2 a = some (.ins C dx fs) /\ Cls K C /\ NoAttr K C f /\ fs.length < 1000 /\
 D.nx σ (upd H2 a (.ins C dx (putF f y fs)))
section
variable {X : Cx} {o e value : Expr} {f : Str} {pos pos' tpos : Pos} {ta tv : TE}
theorem pe_fld (he : PE X e ta) (hb : attributeBase e f X.env (eval e X.env) = eval e X.env) : PE X (.Attribute e f pos) (tFld X.K ta f) := by
 intro pins s σ H Q I h
 refine attr_of hb (thn (he pins s σ H _ I h) fun u s1 ⟨x, H1, I1, rx, a, C, dx, fs, v, ex, ea, c, n, l, q⟩ => ?_)
 subst ex
 obtain rfl : u = Value.ref a := rx
 exact getattr_ok I1 ea c n l fun u' s2 I2 ru => ⟨v, H1, I2, ru, q⟩
theorem ps_fld (ha : PE X o ta) (hv : PE X value tv) (hs : swapsWith value (some (.Attribute o f pos')) pos.line X.env = pure false) : PS X (.Assign [.Attribute o f pos'] value pos) (sFld X.K ta tv f) := by
 intro pins s σ H D I h
 refine plainObj_wpAny_Assign_Attribute (thn (hv pins s σ H _ I h) fun u s1 ⟨y, H1, I1, ry, q⟩ => thn (ha pins s1 σ H1 _ I1 q) fun ov s2 ⟨x, H2, I2, rx, a, C, dx, fs, ex, ea, c, n, l, q2⟩ => ?_) hs
 subst ex
 obtain rfl : ov = Value.ref a := rx
 exact setattr_ok I2 ea c n l ry fun s3 I3 => ⟨σ, _, I3, q2⟩
end
end L2
namespace L2
open PySem PySem.Spec PyProof.Rows
structure Room (k : Nat) (A : Around) : Prop where
 hd : A.handled = none
 dp : A.depth + 3 * k + 5 < recursionLimit
 un : A.units + 16 * k + 200 < cLine
 gd : A.guards = some []
theorem Room.mono {j k : Nat} {A : Around} (r : Room k A) (h : j <= k) : Room j A := ⟨r.hd, by have := r.dp; omega, by have := r.un; omega, r.gd⟩
theorem Room.deeper {k : Nat} {A : Around} (r : Room (k + 1) A) (env : Env) : Room k (A.deeper env) :=
 ⟨r.hd, by have := r.dp; show A.depth + 1 + 3 * k + 5 < _; omega, by have := r.un; show A.units + 3 + 16 * k + 200 < _; omega, r.gd⟩
theorem make_depth {A : Around} {C : Addr} {us : List Value} {kw : List (Str × Value)} : (A.under (.builtin "type.__call__" ⟨.ref C :: us, kw⟩)).depth = A.depth + 1 := by
 first | rfl | simp [Around.under, Code.weight, Code.isCreation, Code.isGuard, Code.isCaller, Code.frames, Code.isFrame, guardIds]
theorem make_units {A : Around} {C : Addr} {us : List Value} {kw : List (Str × Value)} : (A.under (.builtin "type.__call__" ⟨.ref C :: us, kw⟩)).units = A.units + 1 := by
 first | rfl | simp [Around.under, Code.cUnits, Code.frames, Code.isFrame]
theorem Room.make {k : Nat} {A : Around} (r : Room (k + 1) A) (C : Addr) (us : List Value) (kw : List (Str × Value)) : Room k (A.under (.builtin "type.__call__" ⟨.ref C :: us, kw⟩)) :=
 ⟨r.hd, by have := r.dp; rw [make_depth]; omega, by have := r.un; rw [make_units]; omega, r.gd⟩
theorem Room.depth {k : Nat} {A : Around} (r : Room k A) : A.depth < recursionLimit := by have := r.dp; omega
theorem Room.units {k : Nat} {A : Around} (r : Room k A) : A.units + 64 < cLine := by have := r.un; omega
def tNil : TA := fun _ H Q => Q [] H
def tCons (ta : TE) (tr : TA) : TA := fun σ H Q => ta σ H fun x H1 => tr σ H1 fun xs H2 => Q (x :: xs) H2
section
variable {X : Cx} {e : Expr} {es : List Expr} {te : TE} {t : TA} {pos : Pos}
theorem pa_nil : PA X [] tNil := fun _ _ _ _ H Q I h => Calls.spliced_nil ⟨[], H, I, .nil, h⟩
theorem pa_cons (ha : PE X e te) (hr : PA X es t) (hs : starEach (e :: es) X.env = (false, eval e X.env) :: starEach es X.env := by rfl) : PA X (e :: es) (tCons te t) := by
 intro pos pins s σ H Q I h
 rw [hs]
 show wpAny _ _ (spliced ((false, eval e X.env) :: backTo pos (starEach es X.env))) _ _ s
 refine Calls.spliced_cons (thn (ha pins s σ H _ I h) fun u s1 ⟨x, H1, I1, r1, q1⟩ => ?_)
 exact thn (hr pos pins s1 σ H1 _ I1 q1) fun us s2 ⟨xs, H2, I2, r2, q2⟩ => ⟨x :: xs, H2, I2, .cons r1 r2, q2⟩
def tTup (t : TA) : TE := fun σ H Q => t σ H fun xs H1 => xs.length <= sizeLine /\ ∀ p, H1 p = none -> Q (.ref p) (upd H1 p (.tup xs))
def tLst (t : TA) : TE := fun σ H Q => t σ H fun xs H1 => xs.length <= sizeLine /\ ∀ p, H1 p = none -> Q (.ref p) (upd H1 p (.lst xs))
theorem pe_tup {x1} (h : PA X es t) : PE X (.Tuple es x1 pos) (tTup t) := by
 intro pins s σ H Q I hq
 refine wpAny_Tuple_spliced (thn (h pos pins s σ H _ I hq) fun us s1 ⟨xs, H1, I1, r, z, q⟩ => ⟨by rw [<- r.length]; exact z, ?_⟩)
 have hf : H1 s1.heap.objs.size = none := I1.hok.fresh (Nat.le_refl _)
 refine ⟨.ref s1.heap.objs.size, upd H1 s1.heap.objs.size (.tup xs), I1.laid (t' := s1.toks) (fun b u e => Heap.get?_push_of_some _ e) (Nat.le_refl _) ?_, rfl, q _ hf⟩
 exact ⟨z, us, r, ⟨_, Heap.get?_push_size _ rfl, rfl, _, rfl⟩⟩
theorem pe_lst (h : PA X es t) : PE X (.List es pos) (tLst t) := by
 intro pins s σ H Q I hq
 refine wpAny_List_spliced (thn (h pos pins s σ H _ I hq) fun us s1 ⟨xs, H1, I1, r, z, q⟩ => ⟨by rw [<- r.length]; exact z, ?_⟩)
 have hf : H1 s1.heap.objs.size = none := I1.hok.fresh (Nat.le_refl _)
 refine ⟨.ref s1.heap.objs.size, upd H1 s1.heap.objs.size (.lst xs), I1.laid (t' := s1.toks) (fun b u e => Heap.get?_push_of_some _ e) (Nat.le_refl _) ?_, rfl, q _ hf⟩
 exact ⟨z, us, 0, r, Heap.get?_push_size _ rfl⟩
end
abbrev Sp := List V -> Hp -> VK -> XK -> Prop
abbrev CXT := List Env -> Hp -> Shared -> XK -> Value -> Shared -> Prop
structure Env0 (P : Program) (w : World) (K : PySem.W.Frag) (mg : Str -> Option Value) (base : Heap) (A : Around) (outer : List Env) (s : Shared) (H : Hp) : Prop where
 frames : A.frames = some outer
 mod : Mod K mg base
 bs : ∀ b o, base.get? b = some o -> s.heap.get? b = some o /\ H b = none
 bsz : base.objs.size <= s.heap.objs.size
 funs : s.heap.FunFrames base outer
 frf : ∀ b ∈ frs outer, H b = none
 hok : HOk P w H s.heap
 bare : AllBare s.gens
def CE (outer : List Env) (P : Program) (w : World) (H : Hp) (s : Shared) (Q : VK) (u : Value) (s' : Shared) : Prop :=
 ∃ v H', s'.os = s.os /\ AllBare s'.gens /\ Un (frs outer) [] H H' s.heap s'.heap /\ HOk P w H' s'.heap /\ RelV v u /\ Q v H'
def CR (CX : CXT) (outer : List Env) (P : Program) (w : World) (H : Hp) (s : Shared) (Q : VK) (E : XK) (r : Result) (s' : Shared) : Prop :=
 match r with
 | .ok (.ret u) => CE outer P w H s Q u s'
 | .ok _ => False
 | .error e => CX outer H s E e s'
structure FnOk (P : Program) (w : World) (K : PySem.W.Frag) (mg : Str -> Option Value) (base : Heap) (CX : CXT) (k : Nat) (f : Addr) (fd : FuncData) (ps : List Str) (sp : Sp) : Prop where
 len : ∀ vs H Q E, sp vs H Q E -> vs.length = ps.length
 run : ∀ (A : Around) (outer : List Env) (s : Shared) (H : Hp) (args : Args) (us : List Value) (vs : List V) (Q : VK) (E : XK), Room k A -> Env0 P w K mg base A outer s H -> BindsTo s fd args (ps.zip us) -> Vals vs us -> sp vs H Q E ->
  codeAny (model P w) A (.call (.ref f) args) (CR CX outer P w H s Q E) s
theorem FnOk.imp {P : Program} {w : World} {K : PySem.W.Frag} {mg : Str -> Option Value} {base : Heap} {CX : CXT} {k : Nat} {f : Addr} {fd : FuncData} {ps : List Str} {sp sp' : Sp} (F : FnOk P w K mg base CX k f fd ps sp)
  (h : ∀ vs H Q E, sp' vs H Q E -> sp vs H Q E) : FnOk P w K mg base CX k f fd ps sp' :=
 ⟨fun vs H Q E q => F.len vs H Q E (h _ _ _ _ q), fun A outer s H args us vs Q E hr he hb hv hs => F.run A outer s H args us vs Q E hr he hb hv (h _ _ _ _ hs)⟩
theorem Env0.make {P : Program} {w : World} {K : PySem.W.Frag} {mg : Str -> Option Value} {base : Heap} {A : Around} {outer : List Env} {s : Shared} {H : Hp} (e : Env0 P w K mg base A outer s H) (C : Addr) (us : List Value) (kw : List (Str × Value)) :
  Env0 P w K mg base (A.under (.builtin "type.__call__" ⟨.ref C :: us, kw⟩)) outer s H := ⟨by first | exact e.frames | (simpa [Around.under, Code.envs, Code.isFrame, pushEnvs] using e.frames), e.mod, e.bs, e.bsz, e.funs, e.frf, e.hok, e.bare⟩
section
variable {X : Cx} {pins : List (Addr × Obj)} {σ : St} {H : Hp} {s s' : Shared}
theorem Inv.env0 (I : Inv X pins σ H s) : Env0 X.prog X.w X.K X.mg X.base X.A X.stack s H :=
 ⟨I.ok.frames, I.ok.mod, I.bs, Nat.le_trans I.ok.bsz I.sz, I.stack, I.stkFree, I.hok, I.bare⟩
theorem Inv.after {Q : VK} {u : Value} (I : Inv X pins σ H s) (h : CE X.stack X.prog X.w H s Q u s') : EP X pins σ Q u s' := by
 obtain ⟨v, H', os, bare, un, hok, r, q⟩ := h
 obtain ⟨hh, g, d, t, os'⟩ := s'
 obtain rfl : os' = s.os := os
 exact ⟨v, H', I.call (h' := hh) (g' := g) (d' := d) (t' := t) (ch := []) un hok bare (fun b z => absurd z (by simp)), r, q⟩
end
def tCall (sp : Sp) (dvs : List V) (E : XK) (t : TA) : TE := fun σ H Q => t σ H fun vs H1 => sp (vs ++ dvs) H1 Q E
def tMeth (C : Addr) (m : Str) (sp : Sp) (dvs : List V) (E : XK) (ta : TE) (t : TA) : TE := fun σ H Q => ta σ H fun x H1 => ∃ a dx fs, x = .ref a /\ H1 a = some (.ins C dx fs) /\ fs.lookup m = none /\
 t σ H1 fun vs H2 => sp (x :: (vs ++ dvs)) H2 Q E
def tMake (C : Addr) (sp : Sp) (dvs : List V) (E : XK) (t : TA) : TE := fun σ H Q => t σ H fun vs H1 => ∀ x dx, H1 x = none -> H1 dx = none -> dx ≠ x ->
 sp (.ref x :: (vs ++ dvs)) (upd (upd H1 dx (.own x)) x (.ins C dx [])) (fun v H2 => v = .non /\ Q (.ref x) H2) E
def Binds (K : PySem.W.Frag) (fd : FuncData) (ps : List Str) (ds : List Value) : Prop :=
 ∀ (s : Shared) (us : List Value), K.In s.heap -> (us ++ ds).length = ps.length -> BindsTo s fd ⟨us, []⟩ (ps.zip (us ++ ds))
theorem Binds.all {K : PySem.W.Frag} {fd : FuncData} {ps : List Str} (h : ∀ us : List Value, us.length = ps.length -> bindArgs fd ⟨us, []⟩ = pure (ps.zip us)) : Binds K fd ps [] := fun s us _ hl => by
 rw [List.append_nil] at hl ⊢
 exact .of_eq (h us hl)
def Passes (CX : CXT) (X : Cx) (E : XK) : Prop := ∀ (pins : List (Addr × Obj)) (σ : St) (H : Hp) (s : Shared) (e : Value) (s' : Shared), Inv X pins σ H s -> CX X.stack H s E e s' -> X.xe e s'
section
variable {X : Cx} {CX : CXT} {k : Nat} {f C : Addr} {fd : FuncData} {ps : List Str} {sp : Sp} {dvs : List V} {ds : List Value} {E : XK} {x m : Str} {p pos apos : Pos} {e o : Expr} {es : List Expr} {ta : TE} {t : TA}
theorem run_fn {pins : List (Addr × Obj)} {σ : St} {H : Hp} {s : Shared} {Q : VK} {us : List Value} {vs : List V} (F : FnOk X.prog X.w X.K X.mg X.base CX k f fd ps sp) (hr : Room k X.A) (hb : Binds X.K fd ps ds) (hd : Vals dvs ds) (hx : Passes CX X E)
  (I : Inv X pins σ H s) (r : Vals vs us) (h : sp (vs ++ dvs) H Q E) : wpAny (model X.prog X.w) X.A (call (.ref f) us) (EP X pins σ Q) X.xe s := by
 have r2 : Vals (vs ++ dvs) (us ++ ds) := r.append hd
 have hl : (us ++ ds).length = ps.length := by rw [<- r2.length]; exact F.len _ _ _ _ h
 refine wpAny_call (codeAny_mono (F.run X.A X.stack s H ⟨us, []⟩ (us ++ ds) (vs ++ dvs) Q E hr I.env0 (hb s us I.kIn hl) r2 h) fun r s' hq => ?_)
 cases r with
 | error e => exact hx pins σ H s e s' I hq
 | ok fl =>
  cases fl with
  | ret u => exact I.after hq
  | next => exact False.elim hq
  | brk => exact False.elim hq
  | cont => exact False.elim hq
theorem pe_call (F : FnOk X.prog X.w X.K X.mg X.base CX k f fd ps sp) (hr : Room k X.A) (hg : Gl X x) (hm : X.mg x = some (.ref f)) (hk : PySem.W.keepIn X.K (.ref f) = true) (hb : Binds X.K fd ps ds) (hd : Vals dvs ds) (hx : Passes CX X E)
  (ha : PA X (e :: es) t) (hdb : (x == ("__debug__" : Str)) = false := by decide) (he : starEach (e :: es) X.env = (false, eval e X.env) :: starEach es X.env := by rfl) (hpl : (backTo pos (starEach es X.env)).any (·.1) = false := by rfl) :
  PE X (.Call (.Name x p) (e :: es) [] pos) (tCall sp dvs E t) := by
 intro pins s σ H Q I h
 refine wpAny_Call_Name_kw (ld_glob I hg hm ?_ hdb)
 refine PySem.W.callWith_K (h₀ := X.base) I.ok.mod.kin hk (thn (ha pos pins s σ H _ I h) fun us s1 ⟨vs, H1, I1, r, q⟩ => ⟨I1.kIn, ?_⟩) he hpl
 exact run_fn F hr hb hd hx I1 r q
theorem pe_call0 (F : FnOk X.prog X.w X.K X.mg X.base CX k f fd ps sp) (hr : Room k X.A) (hg : Gl X x) (hm : X.mg x = some (.ref f)) (hk : PySem.W.keepIn X.K (.ref f) = true) (hb : Binds X.K fd ps ds) (hd : Vals dvs ds) (hx : Passes CX X E)
  (hdb : (x == ("__debug__" : Str)) = false := by decide) : PE X (.Call (.Name x p) [] [] pos) (tCall sp dvs E tNil) := by
 intro pins s σ H Q I h
 refine wpAny_Call_Name_kw (ld_glob I hg hm ?_ hdb)
 exact PySem.W.callWith_K0 I.kIn hk (run_fn (us := []) F hr hb hd hx I .nil h)
theorem pe_meth {pl : Sem Bool} (he : PE X o ta) (c : Cls X.K C) (hm : Meth X.K C m f) (F : FnOk X.prog X.w X.K X.mg X.base CX k f fd ps sp) (hr : Room k X.A) (hb : Binds X.K fd ps ds) (hd : Vals dvs ds) (hx : Passes CX X E) (ha : PA X (e :: es) t)
  (hst : starEach (e :: es) X.env = (false, eval e X.env) :: starEach es X.env := by rfl) (hpl : (backTo pos (starEach es X.env)).any (·.1) = false := by rfl)
  (ht : eval (.Call (.Attribute o m apos) (e :: es) [] pos) X.env = (do
   let ov <- eval o X.env
   standAt apos.atName
   let (f, first) <- holding [ov] (getMethod ov m pl)
   callWith pos f first (backTo pos (starEach (e :: es) X.env)) (backToKw pos (keywordEach [] X.env))) := by rfl) :
  PE X (.Call (.Attribute o m apos) (e :: es) [] pos) (tMeth C m sp dvs E ta t) := by
 intro pins s σ H Q I h
 refine PySem.W.methodCall_KW (pl := pl) (thn (he pins s σ H _ I h) fun u s1 ⟨x, H1, I1, rx, a, dx, fs, ex, ea, l, q⟩ => ?_) ht
 subst ex
 obtain rfl : u = Value.ref a := rx
 refine getmeth_ok I1 ea c hm l ?_
 refine PySem.W.callWith_K (first := [.ref a]) (h₀ := X.base) I.ok.mod.kin hm.kp (thn (ha pos pins s1 σ H1 _ I1 q) fun us s2 ⟨vs, H2, I2, r, q2⟩ => ⟨I2.kIn, ?_⟩) hst hpl
 exact run_fn (us := .ref a :: us) (vs := .ref a :: vs) F hr hb hd hx I2 (.cons rfl r) q2
theorem pe_meth0 {pl : Sem Bool} (he : PE X o ta) (c : Cls X.K C) (hm : Meth X.K C m f) (F : FnOk X.prog X.w X.K X.mg X.base CX k f fd ps sp) (hr : Room k X.A) (hb : Binds X.K fd ps ds) (hd : Vals dvs ds) (hx : Passes CX X E)
  (ht : eval (.Call (.Attribute o m apos) [] [] pos) X.env = (do
   let ov <- eval o X.env
   standAt apos.atName
   let (f, first) <- holding [ov] (getMethod ov m pl)
   callWith pos f first (backTo pos (starEach [] X.env)) (backToKw pos (keywordEach [] X.env))) := by rfl) :
  PE X (.Call (.Attribute o m apos) [] [] pos) (tMeth C m sp dvs E ta tNil) := by
 intro pins s σ H Q I h
 refine PySem.W.methodCall_KW (pl := pl) (thn (he pins s σ H _ I h) fun u s1 ⟨x, H1, I1, rx, a, dx, fs, ex, ea, l, q⟩ => ?_) ht
 subst ex
 obtain rfl : u = Value.ref a := rx
 refine getmeth_ok I1 ea c hm l ?_
 exact PySem.W.callWith_K0 (first := [.ref a]) I1.kIn hm.kp (run_fn (us := [.ref a]) (vs := [.ref a]) F hr hb hd hx I1 (.cons rfl .nil) q)
structure Mk (K : PySem.W.Frag) (C f : Addr) : Prop where
 makes : PySem.W.makesIn K C = true
 init : PySem.W.findIn K (.ref C) "__init__" = some (some (.ref f))
 fn : PySem.W.isFn K (.ref f) = true
 kp : PySem.W.keepIn K (.ref C) = true
theorem run_make {pins : List (Addr × Obj)} {σ : St} {H : Hp} {s : Shared} {Q : VK} {us : List Value} {vs : List V} (M : Mk X.K C f) (F : FnOk X.prog X.w X.K X.mg X.base CX k f fd ps sp) (hr : Room (k + 1) X.A) (hb : Binds X.K fd ps ds) (hd : Vals dvs ds)
  (hx : Passes CX X E) (I : Inv X pins σ H s) (r : Vals vs us)
  (h : ∀ x dx, H x = none -> H dx = none -> dx ≠ x -> sp (.ref x :: (vs ++ dvs)) (upd (upd H dx (.own x)) x (.ins C dx [])) (fun v H2 => v = .non /\ Q (.ref x) H2) E) :
  wpAny (model X.prog X.w) X.A (call (.ref C) us) (EP X pins σ Q) X.xe s := by
 have hq := h (s.heap.objs.size + 1) s.heap.objs.size (I.hok.fresh (Nat.le_succ _)) (I.hok.fresh (Nat.le_refl _)) (Nat.ne_of_lt (Nat.lt_succ_self _))
 have I2 := Inv.made (C := C) I
 have r2 : Vals (V.ref (s.heap.objs.size + 1) :: (vs ++ dvs)) (Value.ref (s.heap.objs.size + 1) :: (us ++ ds)) := .cons rfl (r.append hd)
 have hl : (Value.ref (s.heap.objs.size + 1) :: us ++ ds).length = ps.length := by
  have e := r2.length
  rw [F.len _ _ _ _ hq] at e
  exact e.symm
 refine wpAny_call (make_map (f := f) I.kIn M.makes M.init (beq_iff_eq.mp M.fn) (codeAny_mono (F.run _ X.stack _ _ ⟨Value.ref (s.heap.objs.size + 1) :: us, []⟩ (Value.ref (s.heap.objs.size + 1) :: (us ++ ds)) _ _ E (hr.make C us [])
  (I2.env0.make C us []) (hb _ (Value.ref (s.heap.objs.size + 1) :: us) I2.kIn hl) r2 hq) fun r s' hq' => ?_))
 cases r with
 | error e => exact hx pins σ _ _ e s' I2 hq'
 | ok fl =>
  cases fl with
  | ret u =>
   obtain ⟨v, H', I3, rv, ev, q3⟩ := I2.after hq'
   subst ev
   exact ⟨rv, ⟨V.ref (s.heap.objs.size + 1), H', I3, rfl, q3⟩⟩
  | next => exact False.elim hq'
  | brk => exact False.elim hq'
  | cont => exact False.elim hq'
theorem pe_make (M : Mk X.K C f) (F : FnOk X.prog X.w X.K X.mg X.base CX k f fd ps sp) (hr : Room (k + 1) X.A) (hg : Gl X x) (hm : X.mg x = some (.ref C)) (hb : Binds X.K fd ps ds) (hd : Vals dvs ds) (hx : Passes CX X E)
  (ha : PA X (e :: es) t) (hdb : (x == ("__debug__" : Str)) = false := by decide) (he : starEach (e :: es) X.env = (false, eval e X.env) :: starEach es X.env := by rfl) (hpl : (backTo pos (starEach es X.env)).any (·.1) = false := by rfl) :
  PE X (.Call (.Name x p) (e :: es) [] pos) (tMake C sp dvs E t) := by
 intro pins s σ H Q I h
 refine wpAny_Call_Name_kw (ld_glob I hg hm ?_ hdb)
 refine PySem.W.callWith_K (h₀ := X.base) I.ok.mod.kin M.kp (thn (ha pos pins s σ H _ I h) fun us s1 ⟨vs, H1, I1, r, q⟩ => ⟨I1.kIn, ?_⟩) he hpl
 exact run_make M F hr hb hd hx I1 r q
end
structure FnScope (N P : List Str) (sc : Scope) : Prop where
 kind : sc.kind = .function
 co : sc.isCoroutine = false
 gen : sc.isGenerator = false
 nd : N.Nodup
 pre : N.take P.length = P
 par : ∀ x ∈ P, sc.names.lookup x = some .local \/ sc.names.lookup x = some .cell
 nofree : ∀ y ∈ sc.names, y.2 ≠ .free
theorem fsc {N P : List Str} {sc : Scope} (h : sc.kind = .function /\ sc.isCoroutine = false /\ sc.isGenerator = false /\ N.Nodup /\ N.take P.length = P /\ (∀ x ∈ P, sc.names.lookup x = some .local \/ sc.names.lookup x = some .cell) /\ ∀ y ∈ sc.names, y.2 ≠ .free) : FnScope N P sc := ⟨h.1, h.2.1, h.2.2.1, h.2.2.2.1, h.2.2.2.2.1, h.2.2.2.2.2.1, h.2.2.2.2.2.2⟩
theorem bindL_out {kindOf : Str -> Option NameKind} {x : Str} : ∀ {binds : List (Str × Value)} {m : Str -> Option Value}, (∀ v, (x, v) ∉ binds) -> bindL kindOf binds m x = m x
 | [], _, _ => rfl
 | (n, v) :: r, m, h => by
  unfold bindL
  rw [bindL_out fun w hw => h w (List.mem_cons_of_mem _ hw)]
  split
  ·have : x ≠ n := by rintro rfl; exact h v List.mem_cons_self
   simp [this]
  ·rfl
theorem bindC_out {kindOf : Str -> Option NameKind} {x : Str} : ∀ {binds : List (Str × Value)} {m : Str -> Option Value}, (∀ v, (x, v) ∉ binds) -> bindC kindOf binds m x = m x
 | [], _, _ => rfl
 | (n, v) :: r, m, h => by
  unfold bindC
  rw [bindC_out fun w hw => h w (List.mem_cons_of_mem _ hw)]
  split
  ·rfl
  ·have : x ≠ n := by rintro rfl; exact h v List.mem_cons_self
   simp [this]
theorem bindL_get {kindOf : Str -> Option NameKind} {x : Str} {v : Value} : ∀ {P : List Str} {vs : List Value} {i : Nat} {m : Str -> Option Value}, P.Nodup -> P[i]? = some x -> vs[i]? = some v -> kindOf x = some .local ->
  bindL kindOf (P.zip vs) m x = some v
 | [], _, _, _, _, h, _, _ => by simp at h
 | _ :: _, [], _, _, _, _, h, _ => by simp at h
 | p :: P, w :: vs, 0, m, nd, h1, h2, hk => by
  simp at h1 h2; subst h1; subst h2
  show bindL kindOf ((p, w) :: P.zip vs) m p = _
  unfold bindL
  rw [bindL_out fun v hv => (List.nodup_cons.mp nd).1 (List.of_mem_zip hv).1, if_pos hk]
  simp
 | p :: P, w :: vs, i + 1, m, nd, h1, h2, hk => by
  show bindL kindOf ((p, w) :: P.zip vs) m x = _
  unfold bindL
  exact bindL_get (i := i) (List.nodup_cons.mp nd).2 (by simpa using h1) (by simpa using h2) hk
theorem bindC_get {kindOf : Str -> Option NameKind} {x : Str} {v : Value} : ∀ {P : List Str} {vs : List Value} {i : Nat} {m : Str -> Option Value}, P.Nodup -> P[i]? = some x -> vs[i]? = some v -> kindOf x ≠ some .local ->
  bindC kindOf (P.zip vs) m x = some v
 | [], _, _, _, _, h, _, _ => by simp at h
 | _ :: _, [], _, _, _, _, h, _ => by simp at h
 | p :: P, w :: vs, 0, m, nd, h1, h2, hk => by
  simp at h1 h2; subst h1; subst h2
  show bindC kindOf ((p, w) :: P.zip vs) m p = _
  unfold bindC
  rw [bindC_out fun v hv => (List.nodup_cons.mp nd).1 (List.of_mem_zip hv).1, if_neg hk]
  simp
 | p :: P, w :: vs, i + 1, m, nd, h1, h2, hk => by
  show bindC kindOf ((p, w) :: P.zip vs) m x = _
  unfold bindC
  exact bindC_get (i := i) (List.nodup_cons.mp nd).2 (by simpa using h1) (by simpa using h2) hk
def start (N : List Str) (vs : List V) : St := vs.map some ++ List.replicate (N.length - vs.length) none
def cxOf (CX : CXT) (P : Program) (w : World) (K : PySem.W.Frag) (mg : Str -> Option Value) (base : Heap) (N : List Str) (qual : Str) (scope : Scope) (f : Addr) (cd : Value) (A : Around) (outer : List Env) (s : Shared) (H : Hp) (E : XK) : Cx where
 prog := P
 w := w
 K := K
 mg := mg
 base := base
 A := A.deeper (envOfC qual scope s.heap.objs.size f cd)
 N := N
 s₀ := s
 H₀ := H
 env := envOfC qual scope s.heap.objs.size f cd
 outer := outer
 stack := envOfC qual scope s.heap.objs.size f cd :: outer
 ex := []
 calm := true
 fn := fun _ => true
 pn := []
 xe := fun e s' => wpAny (model P w) (A.deeper (envOfC qual scope s.heap.objs.size f cd)) (leaving (envOfC qual scope s.heap.objs.size f cd) e) (fun _ s'' => CX outer H s E e s'') (fun e' s'' => CX outer H s E e' s'') s'
theorem cell_has {sc : Scope} {n : Nat} {x : Str} (h : sc.names.lookup x = some .cell) : ∃ c, (cellsFrom n sc.names []).lookup x = some c := by
 have q := PySem.W.cellsFrom_some sc.names n [] (.inl h)
 exact Option.isSome_iff_exists.mp q
theorem inv_start {CX : CXT} {P : Program} {w : World} {K : PySem.W.Frag} {mg : Str -> Option Value} {base : Heap} {N ps : List Str} {qual : Str} {scope : Scope} {f : Addr} {cd : Value} {A : Around} {outer : List Env} {s s1 : Shared} {H : Hp} {E : XK} {us : List Value} {vs : List V}
  (S : FnScope N ps scope) (hd : A.handled = none) (e0 : Env0 P w K mg base A outer s H) (hl : vs.length = ps.length) (r : Vals vs us)
  (x : InCallC s s.heap.objs.size (bindL (envOfC qual scope s.heap.objs.size f cd).kindOf (ps.zip us) fun _ => none) (cellsFrom (s.heap.objs.size + 1) scope.names []) (bindC (envOfC qual scope s.heap.objs.size f cd).kindOf (ps.zip us) fun _ => none) s1) :
  Inv (cxOf CX P w K mg base N qual scope f cd A outer s H E) [] (start N vs) H s1 := by
 have hpl : ps.length <= N.length := by have := congrArg List.length S.pre; rw [List.length_take] at this; omega
 obtain ⟨h1, tk, rfl, hk⟩ := x.done
 have noA : ∀ b : Addr, b ∉ (cxOf CX P w K mg base N qual scope f cd A outer s H E).ex := fun b z => absurd (show b ∈ ([] : List Addr) from z) (by simp)
 refine ⟨⟨e0.mod, S.kind, rfl, rfl, Nat.le_refl _, fun y z c h1 h2 => ?_, fun y hy => ?_, fun y c _ h => ?_, fun _ => hd, Around.frames_deeper e0.frames, .inr ⟨rfl, rfl⟩, fun b z => absurd z (noA b), e0.bs, e0.bsz, fun b _ _ => noA b, fun b z => absurd z (noA b), e0.funs, e0.frf⟩,
  rfl, e0.bare, Un.kept hk, ⟨_, x.toInCall.ns, fun i y v h1 h2 h3 => ?_⟩, fun y c h => ⟨_, x.cell y c h⟩, e0.hok.fresh (Nat.le_refl _), fun y c h => ?_, fun p hp => absurd (show p ∈ ([] : List (Addr × Obj)) from hp) (by simp), e0.hok.kept hk, ?_⟩
 ·exact name_of_addr x.apart (PySem.mem_of_lookup h1) (PySem.mem_of_lookup h2)
 ·have hy : scope.names.lookup y = some .cell \/ scope.names.lookup y = some .free := hy
  rcases hy with hy | hy
  ·exact cell_has hy
  ·exact absurd rfl (S.nofree _ (PySem.mem_of_lookup hy))
 ·exact Nat.le_of_lt (x.above y c (PySem.mem_of_lookup h))
 ·have hi : i < vs.length := by
   unfold start at h2
   by_cases hi : i < vs.length
   ·exact hi
   ·rw [List.getElem?_append_right (by simpa using hi)] at h2
    rw [List.getElem?_replicate] at h2
    split at h2 <;> cases h2
  have ha : vs[i]? = some v := by
   unfold start at h2
   rw [List.getElem?_append_left (by simpa using hi), List.getElem?_map] at h2
   cases e : vs[i]? with
   | none => rw [e] at h2; cases h2
   | some a => rw [e] at h2; cases h2; rfl
  obtain ⟨u, hu, rv⟩ := r.get ha
  have hp : ps[i]? = some y := by
   rw [<- S.pre, List.getElem?_take_of_lt (by omega)]; exact h1
  have ndP : ps.Nodup := by rw [<- S.pre]; exact S.nd.sublist (List.take_sublist _ _)
  refine ⟨u, rv, ?_⟩
  rcases S.par y (List.mem_of_getElem? hp) with k | k
  ·exact .inl ⟨k, bindL_get ndP hp hu k⟩
  ·obtain ⟨c, e⟩ := cell_has (n := s.heap.objs.size + 1) k
   refine .inr ⟨.inl k, c, e, ?_⟩
   have q := x.cell y c e
   rw [bindC_get ndP hp hu (by show scope.names.lookup y ≠ _; rw [k]; decide)] at q
   exact q
 ·exact e0.hok.fresh (Nat.le_of_lt (x.above y c (PySem.mem_of_lookup h)))
 ·unfold start
  show _ = N.length
  rw [List.length_append, List.length_map, List.length_replicate]
  omega
theorem fn_of {CX : CXT} {P : Program} {w : World} {K : PySem.W.Frag} {mg : Str -> Option Value} {base : Heap} {k : Nat} {f : Addr} {name qual : Str} {params : Arguments} {body : List Stmt} {scope : Scope} {dV kV doc pm cdv ct oc : Value} {an od : Option Addr}
  {osl : Array (Option Value)} {N ps : List Str} {sp : Sp} (lk : K.lookup f = some ⟨oc, od, .func (PySem.W.fnOf name qual params body scope dV kV doc pm an cdv ct), osl⟩) (hcd : PySem.W.codeIn K cdv qual = true) (S : FnScope N ps scope)
  (len : ∀ vs H Q E, sp vs H Q E -> vs.length = ps.length)
  (hbody : ∀ (A : Around) (outer : List Env) (s : Shared) (H : Hp) (vs : List V) (Q : VK) (E : XK), Room k (A.deeper (envOfC qual scope s.heap.objs.size f cdv)) -> sp vs H Q E ->
   ∃ t, PSs (cxOf CX P w K mg base N qual scope f cdv A outer s H E) body t /\ t { nx := fun _ H' => Q .non H', rt := Q } (start N vs) H) :
  FnOk P w K mg base CX (k + 1) f (PySem.W.fnOf name qual params body scope dV kV doc pm an cdv ct) ps sp := by
 refine ⟨len, fun A outer s H args us vs Q E hr e0 hb r hsp => ?_⟩
 have hl := len _ _ _ _ hsp
 have KX : K.In s.heap := e0.mod.kin.keeps fun b o e => (e0.bs b o e).1
 have lim : s.heap.NoLimit := e0.mod.nolimit.keeps fun b o e => (e0.bs b o e).1
 have hkind : ∀ y ∈ ps.zip us, scope.names.lookup y.1 = some .local \/ (scope.names.lookup y.1 = some .cell /\ ((cellsFrom (s.heap.objs.size + 1) scope.names []).lookup y.1).isSome = true) := fun ⟨n, v⟩ hy => by
  rcases S.par n (List.of_mem_zip hy).1 with q | q
  ·exact .inl q
  ·exact .inr ⟨q, PySem.W.cellsFrom_some _ _ _ (.inl q)⟩
 refine codeAny_call_function hr.depth (KX _ _ lk) rfl S.co S.gen rfl (PySem.W.codeRec_of KX hcd) (hb _ _ _ _ ?_)
 refine wpAny_newFunctionEnv_cells S.kind hkind fun env he s1 x => ?_
 subst he
 refine ⟨lim.keeps x.toInCall.keep, codeAny_func ?_⟩
 obtain ⟨t, ht, hq⟩ := hbody A outer s H vs Q E (hr.deeper _) hsp
 have I : Inv (cxOf CX P w K mg base N qual scope f cdv A outer s H E) [] (start N vs) H s1 := inv_start S hr.hd e0 hl r x
 refine wpAny_mono (ht [] s1 (start N vs) H _ I hq) (fun fl s' hs => ?_) fun e s' hs => hs
 have fin : ∀ {σ' : St} {H' : Hp} {v : V} {u : Value}, Inv (cxOf CX P w K mg base N qual scope f cdv A outer s H E) [] σ' H' s' -> RelV v u -> Q v H' -> CE outer P w H s Q u s' :=
  fun {σ' H' v u} J rv q => ⟨v, H', J.os, J.bare, J.base, J.hok, rv, q⟩
 cases fl with
 | ret u =>
  obtain ⟨v, σ', H', J, rv, q⟩ := hs
  exact fin J rv q
 | next =>
  obtain ⟨σ', H', J, q⟩ := hs
  exact fin (v := V.non) (u := Value.none) J rfl q
 | brk =>
  obtain ⟨_, _, _, q⟩ := hs
  exact False.elim q
 | cont =>
  obtain ⟨_, _, _, q⟩ := hs
  exact False.elim q
end L2
namespace L2
open PySem PySem.Spec PyProof.Rows
section
variable {X : Cx} {x : Str} {p pos : Pos} {e : Expr} {es : List Expr} {t : TA} {id T : String} {r : List V -> Hp -> VK -> Prop}
def tCB (r : List V -> Hp -> VK -> Prop) (t : TA) : TE := fun σ H Q => t σ H fun vs H1 => r vs H1 Q
theorem pe_callB (hc : CallR X (.builtin id) r) (hg : Gl X x) (hm : X.mg x = none) (hv : bootBuiltins x = some (.builtin id)) (ha : PA X (e :: es) t) (hn : x ≠ "__name__" := by decide) (hdb : (x == ("__debug__" : Str)) = false := by decide)
  (he : starEach (e :: es) X.env = (false, eval e X.env) :: starEach es X.env := by rfl) (hpl : (backTo pos (starEach es X.env)).any (·.1) = false := by rfl) : PE X (.Call (.Name x p) (e :: es) [] pos) (tCB r t) := by
 intro pins s σ H Q I h
 refine wpAny_Call_Name_kw (ld_blt I hg hm hv ?_ hn hdb)
 exact PyProof.Rows.callWith_builtin1 (thn (ha pos pins s σ H _ I h) fun us s1 ⟨vs, H1, I1, r1, q1⟩ => hc pins s1 σ H1 vs us Q I1 r1 q1) he hpl
theorem pe_callTy (hc : CallR X (.type T) r) (hg : Gl X x) (hm : X.mg x = none) (hv : bootBuiltins x = some (.type T)) (ha : PA X (e :: es) t) (hn : x ≠ "__name__" := by decide) (hdb : (x == ("__debug__" : Str)) = false := by decide)
  (he : starEach (e :: es) X.env = (false, eval e X.env) :: starEach es X.env := by rfl) (hpl : (backTo pos (starEach es X.env)).any (·.1) = false := by rfl) : PE X (.Call (.Name x p) (e :: es) [] pos) (tCB r t) := by
 intro pins s σ H Q I h
 refine wpAny_Call_Name_kw (ld_blt I hg hm hv ?_ hn hdb)
 exact PyProof.Rows.callWith_type1 (thn (ha pos pins s σ H _ I h) fun us s1 ⟨vs, H1, I1, r1, q1⟩ => hc pins s1 σ H1 vs us Q I1 r1 q1) he hpl
end
end L2
namespace HT
open PySem PyProof.Rows
section
variable {prog : Program} {w : World} {A : Around} {E : Value -> Shared -> Prop} {s : Shared}
theorem cat_tup {t b : Addr} {vs ws : List Value} {Q : Value -> Shared -> Prop} (ht : IsTup s.heap t vs.toArray) (hb : IsTup s.heap b ws.toArray) (hv : vs ≠ [])
  (h1 : ws = [] -> Q (.ref t) s) (h2 : ws ≠ [] -> Q (.ref s.heap.objs.size) { s with heap := s.heap.push { cls := .type "tuple", data := .seq (vs ++ ws).toArray } })
  (hsz : vs.length + ws.length <= sizeLine) : wpAny (model prog w) A (binaryOp .Add (.ref t) (.ref b)) Q E s := by
 obtain ⟨⟨cls, dd, data, sl⟩, ho, hc, n, hd⟩ := id ht
 obtain ⟨⟨cls2, dd2, data2, sl2⟩, ho2, hc2, n2, hd2⟩ := id hb
 simp only at hc hd hc2 hd2
 subst hc hd hc2 hd2
 have e : vs.toArray ++ ws.toArray = (vs ++ ws).toArray := by simp
 by_cases hw : ws = []
 ·exact concat_meets ⟨_, ho, rfl⟩ ⟨_, ho2, rfl⟩ noFill_tuple_add seq_tuple_add PySem.F.slot_tuple_add PySem.F.entry_tuple_add (PySem.F.args_tuple_add_2 _ _)
   (tuple_addW1 t b vs.toArray ws.toArray n n2 dd dd2 sl sl2 (by simpa using hv) (by simp [hw])) ⟨ho, ho2, h1 hw⟩
 ·refine concat_meets ⟨_, ho, rfl⟩ ⟨_, ho2, rfl⟩ noFill_tuple_add seq_tuple_add PySem.F.slot_tuple_add PySem.F.entry_tuple_add (PySem.F.args_tuple_add_2 _ _)
   (tuple_addW2 t b vs.toArray ws.toArray n n2 dd dd2 sl sl2 (by simpa using hv) (by simpa using hw) (by rw [List.size_toArray, List.size_toArray]; exact hsz)) ⟨ho, ho2, ?_⟩
  rw [e]
  exact h2 hw
def sIx (n d : Nat) : Option Int -> Nat
 | none => d
 | some v => if v < 0 then (v + (n : Int)).toNat else min v.toNat n
theorem sIx_le (n d : Nat) (hd : d <= n) (o : Option Int) : sIx n d o <= n := by
 cases o with
 | none => exact hd
 | some v =>
  show (if v < 0 then (v + (n : Int)).toNat else min v.toNat n) <= n
  by_cases hv : v < 0
  ·rw [if_pos hv]; omega
  ·rw [if_neg hv]; exact Nat.min_le_right _ _
theorem clip_eq (v : Int) (n d : Nat) : (if v < 0 then max (v + (n : Int)) 0 else min v (n : Int)) = ((sIx n d (some v) : Nat) : Int) := by
 show (if v < 0 then max (v + (n : Int)) 0 else min v (n : Int)) = (((if v < 0 then (v + (n : Int)).toNat else min v.toNat n) : Nat) : Int)
 by_cases hv : v < 0
 ·simp only [if_pos hv]; omega
 ·simp only [if_neg hv]; omega
theorem adjust_gen (lo hi : Option Int) (n : Nat) : Builtin.Slice.sliceAdjust lo hi 1 (n : Int) = (((sIx n 0 lo : Nat) : Int), ((sIx n n hi : Nat) : Int)) := by
 have h1 : ¬ ((1 : Int) < 0) := by omega
 unfold Builtin.Slice.sliceAdjust
 simp only [h1, if_false]
 refine Prod.ext ?_ ?_
 ·cases lo with
  | none => rfl
  | some v => exact clip_eq v n 0
 ·cases hi with
  | none => rfl
  | some v => exact clip_eq v n n
theorem places_gen (i j : Nat) : Builtin.Slice.slicePlaces (i : Int) (j : Int) 1 = j - i := by
 unfold Builtin.Slice.slicePlaces
 have h1 : (1 : Int) > 0 := by omega
 simp only [h1, if_true, Int.ediv_one]
 split <;> omega
theorem slicePart_ {v : Value} {o : Option Int} {Q : Option Int -> Shared -> Prop} (p : IsPart v o) (h : Q o s) : wpAny (model prog w) A (Builtin.Slice.slicePartIndex v) Q E s := by
 cases p with
 | none => exact slicePart_none h
 | int i t => exact slicePart_int h
theorem sliceApplied_gen {sl : Addr} {vl vu : Value} {lo hi : Option Int} {n : Nat} {Q : Int × Int × Nat -> Shared -> Prop} (hs : s.heap.IsSliceOf sl vl vu .none) (pl : IsPart vl lo) (pu : IsPart vu hi)
  (h : Q (((sIx n 0 lo : Nat) : Int), 1, sIx n n hi - sIx n 0 lo) s) : wpAny (model prog w) A (Builtin.Slice.sliceApplied (.ref sl) (pure (n : Int))) Q E s := by
 obtain ⟨os, hos, hcs, hds⟩ := id hs
 unfold Builtin.Slice.sliceApplied Builtin.Slice.sliceFields
 refine wpAny_bind (wpAny_bind (wpAny_field hos hds (x := vl) rfl (wpAny_bind (wpAny_field hos hds (x := vu) rfl (wpAny_bind (wpAny_field hos hds (x := .none) rfl (wpAny_pure ?_)))))))
 refine wpAny_bind (slicePart_none ?_)
 show wpAny _ _ (if ((1 : Int) == 0) = true then _ else _) _ _ s
 rw [if_neg (by decide)]
 refine wpAny_bind (slicePart_ pl (wpAny_bind (slicePart_ pu (wpAny_bind (wpAny_pure ?_)))))
 show wpAny _ _ (match Builtin.Slice.sliceAdjust lo hi 1 (n : Int) with | (lo, hi) => pure (lo, (1 : Int), Builtin.Slice.slicePlaces lo hi 1)) _ _ s
 rw [adjust_gen lo hi n]
 show wpAny _ _ (pure (((sIx n 0 lo : Nat) : Int), (1 : Int), Builtin.Slice.slicePlaces ((sIx n 0 lo : Nat) : Int) ((sIx n n hi : Nat) : Int) 1)) _ _ s
 rw [places_gen]
 exact wpAny_pure h
theorem pick_gen (xs : Array Value) (i k : Nat) : ((List.range k).filterMap fun (m : Nat) => xs[((i : Int) + (m : Int) * 1).toNat]?).toArray = ((xs.toList.drop i).take k).toArray := by
 have e : (fun (m : Nat) => xs[((i : Int) + (m : Int) * 1).toNat]?) = fun m => xs[i + m]? := by
  funext m
  have : ((i : Int) + (m : Int) * 1).toNat = i + m := by omega
  rw [this]
 rw [e]
 have := pick_run xs i k
 rw [List.filterMap_map] at this
 have e2 : ((fun x => xs[x]?) ∘ fun x => i + x) = fun m => xs[i + m]? := rfl
 rw [e2] at this
 rw [this]
theorem getItem_tuple_cut {t sl : Addr} {items : Array Value} {vl vu : Value} {lo hi : Option Int} {Q : Value -> Shared -> Prop} (ht : IsTup s.heap t items) (hs : s.heap.IsSliceOf sl vl vu .none) (pl : IsPart vl lo) (pu : IsPart vu hi)
  (hw : ¬ (sIx items.size 0 lo = 0 /\ sIx items.size items.size hi = items.size))
  (h : Q (.ref s.heap.objs.size) { s with heap := s.heap.push { cls := .type "tuple", data := .seq ((items.toList.drop (sIx items.size 0 lo)).take (sIx items.size items.size hi - sIx items.size 0 lo)).toArray } })
  (hsz : items.size <= sizeLine) : wpAny (model prog w) A (getItem (.ref t) (.ref sl)) Q E s := by
 have htake : sizeOk (.seq ((items.toList.drop (sIx items.size 0 lo)).take (sIx items.size items.size hi - sIx items.size 0 lo)).toArray) := by
  show ((items.toList.drop (sIx items.size 0 lo)).take (sIx items.size items.size hi - sIx items.size 0 lo)).toArray.size <= sizeLine
  rw [List.size_toArray, List.length_take, List.length_drop, Array.length_toList]
  omega
 have hj : sIx items.size items.size hi <= items.size := sIx_le _ _ (Nat.le_refl _) hi
 obtain ⟨os, hos, hcs, hds⟩ := id hs
 have hTs : s.TypeIs (.ref sl) "slice" := ⟨os, hos, hcs⟩
 unfold getItem
 try with_reducible refine wpAny_holding ?_
 first | refine wpAny_bind (wpAny_pure ?_) | skip
 refine wpAny_bind (wpAny_sequenceKey ht.typeIs (by decide) ?_)
 refine wpAny_bind (wpAny_callSpecial?_slot (name := Str.ofString "__getitem__") ht.typeIs PyProof.Rows.slot_tuple_getitem
  (wpAny_call_entry PyProof.Rows.slot_tuple_getitem ht.typeIs entry_tuple_getitem ?_ (args_tuple_getitem _ _)))
 show wpAny _ _ (Builtin.Tuple.tupleItemsOf (.ref t) >>= _) _ _ s
 refine wpAny_bind (tupleItemsOf_ ht ?_)
 refine wpAny_bind (wpAny_typeOf hTs ?_)
 rw [if_pos (by decide)]
 refine wpAny_bind (sliceApplied_gen hs pl pu ?_)
 have hno : ¬ ((((sIx items.size 0 lo : Nat) : Int) == 0 && (1 : Int) == 1 && (sIx items.size items.size hi - sIx items.size 0 lo) == items.size) = true) := by
  intro q
  rw [Bool.and_eq_true, Bool.and_eq_true] at q
  have q1 : ((sIx items.size 0 lo : Nat) : Int) = 0 := eq_of_beq q.1.1
  have q2 : sIx items.size items.size hi - sIx items.size 0 lo = items.size := eq_of_beq q.2
  exact hw ⟨by omega, by omega⟩
 show wpAny _ _ (if (((sIx items.size 0 lo : Nat) : Int) == 0 && (1 : Int) == 1 && (sIx items.size items.size hi - sIx items.size 0 lo) == items.size) = true then _ else _) _ _ s
 rw [if_neg hno, pick_gen]
 first
  | exact wpAny_bind (m := Builtin.Tuple.tupleExact _) (wpAny_newObj_type (wpAny_pure ⟨_, rfl, wpAny_pure h⟩) htake)
  | exact wpAny_bind (m := Builtin.Tuple.tupleExact _) (wpAny_newObj_type (wpAny_bind (wpAny_pure (wpAny_pure ⟨_, rfl, wpAny_pure h⟩))) htake)
  | exact wpAny_bind (wpAny_bind (m := Builtin.Tuple.tupleExact _) (wpAny_newObj_type (wpAny_pure (wpAny_pure ⟨_, rfl, wpAny_pure h⟩)) htake))
  | exact wpAny_bind (wpAny_bind (m := Builtin.Tuple.tupleExact _) (wpAny_newObj_type (wpAny_pure ⟨_, rfl, wpAny_pure h⟩) htake))
end
end HT
namespace L2
open PySem PySem.Spec PyProof.Rows
abbrev TO := St -> Hp -> (Option Int -> Hp -> Prop) -> Prop
def PO (X : Cx) (e : Option Expr) (t : TO) : Prop :=
 ∀ (pins : List (Addr × Obj)) (s : Shared) (σ : St) (H : Hp) (Q : Option Int -> Hp -> Prop), Inv X pins σ H s -> t σ H Q ->
  wpAny (model X.prog X.w) X.A (evalPart e X.env) (fun u s' => ∃ o H', Inv X pins σ H' s' /\ IsPart u o /\ Q o H') X.xe s
def tNoPart : TO := fun _ H Q => Q none H
def tPart (t : TE) : TO := fun σ H Q => t σ H fun x H1 => ∃ i, x = .int i /\ Q (some i) H1
theorem intsAre_of {ns : List Int} : ∀ {us : List Value}, Vals (ns.map V.int) us -> IntsAre us ns := by
 induction ns with
 | nil => intro us r; rw [List.map_nil] at r; cases r; exact .nil
 | cons n ns ih =>
  intro us r
  rw [List.map_cons] at r
  cases r with
  | cons r1 r2 =>
   obtain ⟨t, e⟩ := r1
   subst e
   exact .cons n t (ih r2)
section
variable {X : Cx} {e : Expr} {te : TE} {lo hi : Option Expr} {tl th : TO} {pos p2 : Pos}
theorem po_none : PO X none tNoPart := by
 intro pins s σ H Q I h
 rw [evalPart_none]
 exact wpAny_pure ⟨none, H, I, .none, h⟩
theorem po_some (h : PE X e te) : PO X (some e) (tPart te) := by
 intro pins s σ H Q I hw
 rw [evalPart_some]
 refine thn (h pins s σ H _ I hw) fun u s1 ⟨x, H1, I1, r1, q1⟩ => ?_
 obtain ⟨i, rfl, q⟩ := q1
 obtain ⟨t, rfl⟩ := r1
 exact ⟨some i, H1, I1, .int i t, q⟩
def SlR (X : Cx) (r : V -> Option Int -> Option Int -> Hp -> VK -> Prop) : Prop :=
 ∀ (pins : List (Addr × Obj)) (s : Shared) (σ : St) (H : Hp) (x : V) (v vl vu : Value) (lo hi : Option Int) (sl : Addr) (Q : VK), Inv X pins σ H s -> RelV x v -> s.heap.IsSliceOf sl vl vu .none -> IsPart vl lo -> IsPart vu hi -> r x lo hi H Q ->
  ∃ T id, typeLookup (.type T) "__getitem__" = pure (some (.builtin id)) /\ s.TypeIs v T /\ wpAny (model X.prog X.w) X.A (getItem v (.ref sl)) (EP X pins σ Q) X.xe s
theorem SlR.or {r r' : V -> Option Int -> Option Int -> Hp -> VK -> Prop} (h : SlR X r) (h' : SlR X r') : SlR X (fun x lo hi H Q => r x lo hi H Q \/ r' x lo hi H Q) := by
 intro pins s σ H x v vl vu lo hi sl Q I rx hs pl pu q
 rcases q with q | q
 ·exact h pins s σ H x v vl vu lo hi sl Q I rx hs pl pu q
 ·exact h' pins s σ H x v vl vu lo hi sl Q I rx hs pl pu q
def tSl (r : V -> Option Int -> Option Int -> Hp -> VK -> Prop) (te : TE) (tl th : TO) : TE := fun σ H Q => te σ H fun x H1 => tl σ H1 fun l H2 => th σ H2 fun u H3 => r x l u H3 Q
theorem pe_slice {r : V -> Option Int -> Option Int -> Hp -> VK -> Prop} (hr : SlR X r) (he : PE X e te) (hl : PO X lo tl) (hu : PO X hi th) : PE X (.Subscript e (.Slice lo hi none p2) pos) (tSl r te tl th) := by
 intro pins s σ H Q I h
 refine Subscript_ (thn (he pins s σ H _ I h) fun v s1 ⟨x, H1, I1, r1, q1⟩ => ?_)
 refine wpAny_Slice (thn (hl pins s1 σ H1 _ I1 q1) fun vl s2 ⟨l, H2, I2, pl, q2⟩ => thn (hu pins s2 σ H2 _ I2 q2) fun vu s3 ⟨u, H3, I3, pu, q3⟩ => ?_)
 rw [evalPart_none]
 refine wpAny_pure ?_
 have I4 : Inv X pins σ H3 { s3 with heap := s3.heap.push { cls := .type "slice", data := .fields #[vl, vu, .none] } } := I3.kept (t' := s3.toks) fun b ob q => Heap.get?_push_of_some _ q
 obtain ⟨T, id, hT, ht, hg⟩ := hr pins { s3 with heap := s3.heap.push { cls := .type "slice", data := .fields #[vl, vu, .none] } } σ H3 x v vl vu l u s3.heap.objs.size Q I4 r1 (Heap.IsSliceOf.new ..) pl pu q3
 show wpAny (model X.prog X.w) X.A (subscriptTail e (.Slice lo hi none p2) v (.ref s3.heap.objs.size)) (EP X pins σ Q) X.xe { s3 with heap := s3.heap.push { cls := .type "slice", data := .fields #[vl, vu, .none] } }
 exact tail_any (ops := [.ref s3.heap.objs.size, v]) ht hT hg (by with_unfolding_all rfl)
def cutV (xs : List V) (lo hi : Option Int) : List V := (xs.drop (HT.sIx xs.length 0 lo)).take (HT.sIx xs.length xs.length hi - HT.sIx xs.length 0 lo)
theorem cutV_length (xs : List V) (lo hi : Option Int) : (cutV xs lo hi).length <= xs.length := by
 unfold cutV
 rw [List.length_take, List.length_drop]
 omega
def rSlT (K : PySem.W.Frag) : V -> Option Int -> Option Int -> Hp -> VK -> Prop := fun x lo hi H Q => ∃ a xs, x = .ref a /\ SqT K H a xs /\
 ¬ (HT.sIx xs.length 0 lo = 0 /\ HT.sIx xs.length xs.length hi = xs.length) /\ ∀ p, H p = none -> Q (.ref p) (upd H p (.tup (cutV xs lo hi)))
theorem sl_tup : SlR X (rSlT X.K) := by
 intro pins s σ H x v vl vu lo hi sl Q I rx hs pl pu h
 obtain ⟨a, xs, rfl, hx, hw, q⟩ := h
 cases rx
 obtain ⟨its, r, ht, hz⟩ := I.tuple hx
 have hlen : its.toArray.size = xs.length := by rw [List.size_toArray]; exact r.length.symm
 refine ⟨"tuple", _, PyProof.Rows.slot_tuple_getitem.lookup, ht.typeIs, ?_⟩
 refine HT.getItem_tuple_cut ht hs pl pu (by rw [hlen]; exact hw) ?_ (by rw [hlen]; exact hz)
 rw [hlen]
 refine ⟨.ref s.heap.objs.size, _, I.laid (t' := s.toks) (o := .tup (cutV xs lo hi)) (fun b ob q => Heap.get?_push_of_some _ q) (Nat.le_refl _) ?_, rfl, q _ (I.hok.fresh (Nat.le_refl _))⟩
 exact ⟨Nat.le_trans (cutV_length xs lo hi) hz, _, (r.drop (HT.sIx xs.length 0 lo)).take (HT.sIx xs.length xs.length hi - HT.sIx xs.length 0 lo), IsTup.new _ _⟩
def rCatT (K : PySem.W.Frag) : R2 := fun x y H Q => ∃ a b xs ys, x = .ref a /\ y = .ref b /\ SqT K H a xs /\ SqT K H b ys /\ xs ≠ [] /\ xs.length + ys.length <= sizeLine /\
 (ys = [] -> Q (.ref a) H) /\ (ys ≠ [] -> ∀ p, H p = none -> Q (.ref p) (upd H p (.tup (xs ++ ys))))
theorem Vals.nil_iff {xs : List V} {us : List Value} (r : Vals xs us) : us = [] ↔ xs = [] := by
 cases r with
 | nil => simp
 | cons _ _ => simp
theorem op_catT : OpR X (binaryOp .Add) (rCatT X.K) := by
 intro pins s σ H x y v u Q I rx ry h
 obtain ⟨a, b, xs, ys, rfl, rfl, ha, hb, hx, hz, q1, q2⟩ := h
 cases rx
 cases ry
 obtain ⟨its, r1, p1, _⟩ := I.tuple ha
 obtain ⟨its2, r2, p2, _⟩ := I.tuple hb
 refine HT.cat_tup p1 p2 (fun z => hx (r1.nil_iff.mp z)) (fun z => ⟨.ref a, H, I, rfl, q1 (r2.nil_iff.mp z)⟩) (fun z => ?_) (by rw [<- r1.length, <- r2.length]; exact hz)
 refine ⟨.ref s.heap.objs.size, _, I.laid (t' := s.toks) (o := .tup (xs ++ ys)) (fun b ob q => Heap.get?_push_of_some _ q) (Nat.le_refl _) ?_, rfl, q2 (fun w => z (r2.nil_iff.mpr w)) _ (I.hok.fresh (Nat.le_refl _))⟩
 exact ⟨by rw [List.length_append]; exact hz, _, r1.append r2, IsTup.new _ _⟩
end
end L2
namespace L2
open PySem PySem.Spec PyProof.Rows
def ixN (n : Nat) (i : Int) : Option Nat := if 0 <= i then (if i < n then some i.toNat else none) else if -(n : Int) <= i then some (i + n).toNat else none
def atI {α : Type} (xs : List α) (i : Int) : Option α := (ixN xs.length i).bind fun j => xs[j]?
theorem ixN_seq {n : Nat} {i : Int} {j : Nat} (h : ixN n i = some j) : seqIndex? i n = some j /\ j < n /\ -(n : Int) <= i /\ i < n := by
 unfold ixN at h
 by_cases h0 : 0 <= i
 ·rw [if_pos h0] at h
  by_cases h1 : i < n
  ·rw [if_pos h1] at h
   have e : i.toNat = j := Option.some.inj h
   exact ⟨by rw [seqIndex_of h0 h1, e], by omega, by omega, h1⟩
  ·rw [if_neg h1] at h; cases h
 ·rw [if_neg h0] at h
  by_cases h1 : -(n : Int) <= i
  ·rw [if_pos h1] at h
   have e : (i + n).toNat = j := Option.some.inj h
   exact ⟨by rw [seqIndex_neg (by omega) h1, e], by omega, h1, by omega⟩
  ·rw [if_neg h1] at h; cases h
theorem atI_get {α : Type} {xs : List α} {i : Int} {v : α} (h : atI xs i = some v) : ∃ j, seqIndex? i xs.length = some j /\ xs[j]? = some v /\ j < xs.length /\ -(xs.length : Int) <= i /\ i < xs.length := by
 unfold atI at h
 cases e : ixN xs.length i with
 | none => rw [e] at h; cases h
 | some j =>
  rw [e] at h
  obtain ⟨h1, h2, h3, h4⟩ := ixN_seq e
  exact ⟨j, h1, h, h2, h3, h4⟩
theorem atI_nat {α : Type} {xs : List α} {j : Nat} {v : α} (h : xs[j]? = some v) : atI xs (j : Int) = some v := by
 have hj : j < xs.length := (List.getElem?_eq_some_iff.mp h).1
 have e : ixN xs.length (j : Int) = some j := by
  unfold ixN
  rw [if_pos (by omega), if_pos (by omega)]; simp
 unfold atI; rw [e]; exact h
def PlainIx (b : Expr) : Prop := ∀ o i, subscripted b false o i = operate [o, i] (getItem o i)
def IxR (X : Cx) (r : R2) : Prop :=
 ∀ (value slice : Expr) (pins : List (Addr × Obj)) (s : Shared) (σ : St) (H : Hp) (x y : V) (v u : Value) (Q : VK), Inv X pins σ H s -> RelV x v -> RelV y u -> r x y H Q ->
  subscripted slice false v u = operate [v, u] (getItem v u) -> wpAny (model X.prog X.w) X.A (subscriptTail value slice v u) (EP X pins σ Q) X.xe s
def MtR (X : Cx) (id : String) (r : V -> List V -> Hp -> VK -> Prop) : Prop :=
 ∀ (pins : List (Addr × Obj)) (s : Shared) (σ : St) (H : Hp) (x : V) (xs : List V) (v : Value) (us : List Value) (Q : VK), Inv X pins σ H s -> RelV x v -> Vals xs us -> r x xs H Q ->
  wpAny (model X.prog X.w) X.A (call (.builtin id) (v :: us)) (EP X pins σ Q) X.xe s
section
variable {X : Cx} {a b : Expr} {ta tb : TE} {pos : Pos}
theorem IxR.or {r r' : R2} (h : IxR X r) (h' : IxR X r') : IxR X (fun x y H Q => r x y H Q \/ r' x y H Q) := by
 intro value slice pins s σ H x y v u Q I rx ry q hs
 rcases q with q | q
 ·exact h value slice pins s σ H x y v u Q I rx ry q hs
 ·exact h' value slice pins s σ H x y v u Q I rx ry q hs
theorem pe_ix {r : R2} (hr : IxR X r) (ha : PE X a ta) (hb : PE X b tb) (hs : PlainIx b) : PE X (.Subscript a b pos) (tOp r ta tb) := by
 intro pins s σ H Q I h
 exact Subscript_ (binT ha hb I h fun v u s2 x y H2 I2 rx ry q => hr a b pins s2 σ H2 x y v u Q I2 rx ry q (hs _ _))
def rIxL (K : PySem.W.Frag) : R2 := fun x y H Q => ∃ p xs i v, x = .ref p /\ y = .int i /\ SqL K H p xs /\ atI xs i = some v /\ Q v H
def rIxT (K : PySem.W.Frag) : R2 := fun x y H Q => ∃ p xs i v, x = .ref p /\ y = .int i /\ SqT K H p xs /\ atI xs i = some v /\ Q v H
def rIxS : R2 := fun x y H Q => ∃ z i c, x = .str z /\ y = .int i /\ z.length <= sizeLine /\ atI z.cps.toList i = some c /\ Q (.str ⟨#[c]⟩) H
theorem ix_list : IxR X (rIxL X.K) := by
 intro value slice pins s σ H x y v u Q I rx ry h hs
 obtain ⟨p, xs, i, z, rfl, rfl, hq, he, q⟩ := h
 cases rx
 obtain ⟨t, rfl⟩ := ry
 obtain ⟨its, r, pl, hz⟩ := I.list hq
 obtain ⟨j, h1, h2, h3, h4, h5⟩ := atI_get he
 obtain ⟨w, ew, rw'⟩ := r.get h2
 have hl := r.length
 have hn := line63
 have fin : EP X pins σ Q w s := ⟨z, H, I, rw', q⟩
 by_cases h0 : 0 <= i
 ·have hj : i.toNat = j := by
   rw [seqIndex_of h0 h5] at h1
   exact Option.some.inj h1
  exact item_listR pl.isList h0 (by omega) (by rw [hj]; simpa using ew) fin hs
 ·have hj : (i + (its.toArray.size : Int)).toNat = j := by
   rw [seqIndex_neg (by omega) h4] at h1
   rw [List.size_toArray, <- hl]
   exact Option.some.inj h1
  exact subscriptTail_builtinR (x := w) pl.isList.typeIs slot_list_getitem.lookup
   (wpAny_getItem_list_neg (Q := fun r s' => r = w /\ EP X pins σ Q r s') pl.isList (by omega) (by rw [List.size_toArray] <;> omega) (by omega) (by rw [hj]; simpa using ew) ⟨rfl, fin⟩) hs
theorem ix_tup : IxR X (rIxT X.K) := by
 intro value slice pins s σ H x y v u Q I rx ry h hs
 obtain ⟨p, xs, i, z, rfl, rfl, hq, he, q⟩ := h
 cases rx
 obtain ⟨t, rfl⟩ := ry
 obtain ⟨its, r, pl, hz⟩ := I.tuple hq
 obtain ⟨j, h1, h2, h3, h4, h5⟩ := atI_get he
 obtain ⟨w, ew, rw'⟩ := r.get h2
 have hl := r.length
 have hn := line63
 have fin : EP X pins σ Q w s := ⟨z, H, I, rw', q⟩
 exact subscriptTail_builtinR (x := w) pl.typeIs slot_tuple_getitem.lookup
  (getItem_tuple (j := j) (Q := fun r s' => r = w /\ EP X pins σ Q r s') pl (by omega) (by omega) (by rw [List.size_toArray, <- hl]; exact h1) (by simpa using ew) ⟨rfl, fin⟩) hs
theorem ix_str : IxR X rIxS := by
 intro value slice pins s σ H x y v u Q I rx ry h hs
 obtain ⟨z, i, c, rfl, rfl, hz, he, q⟩ := h
 obtain ⟨t, rfl⟩ := rx
 obtain ⟨t', rfl⟩ := ry
 obtain ⟨j, h1, h2, h3, h4, h5⟩ := atI_get he
 have hl : z.cps.toList.length = z.length := by simp [Str.length]
 rw [hl] at h1 h4 h5
 have hn := line63
 exact tail_any (typeIs_str s z t) slot_str_getitem.lookup (getItem_str (c := c) (by
  have e1 : decide (i < -(2 ^ 63 : Int)) = false := decide_eq_false (by omega)
  have e2 : decide (i >= 2 ^ 63) = false := decide_eq_false (by omega)
  rw [e1, e2, Bool.or_false]) (by rw [h1]; simpa using h2) ⟨.str ⟨#[c]⟩, H, I.tok _, ⟨_, rfl⟩, q⟩) hs
def rIx (K : PySem.W.Frag) : R2 := fun x y H Q => rIxL K x y H Q \/ rIxT K x y H Q \/ rIxS x y H Q
theorem ix_seq : IxR X (rIx X.K) := ix_list.or (ix_tup.or ix_str)
theorem mapSeq_set (its : List Value) (n j : Nat) (u : Value) : Obj.mapSeq (·.setIfInBounds j u) { cls := .type "list", data := .seq its.toArray n } = { cls := .type "list", data := .seq (its.set j u).toArray n } := by
 simp [Obj.mapSeq]
theorem Inv.lst {pins : List (Addr × Obj)} {σ : St} {H : Hp} {s : Shared} {p : Addr} {xs : List V} (I : Inv X pins σ H s) (h : H p = some (.lst xs)) :
  ∃ (its : List Value) (n : Nat), Vals xs its /\ s.heap.get? p = some { cls := .type "list", data := .seq its.toArray n } /\ xs.length <= sizeLine := by
 obtain ⟨z, its, n, r, e⟩ := I.hok p _ h
 exact ⟨its, n, r, e, z⟩
theorem Inv.lstUpd {pins : List (Addr × Obj)} {σ : St} {H : Hp} {s : Shared} {p : Addr} {xs ys : List V} {its its' : List Value} {n n' : Nat} {f : Obj -> Obj} (I : Inv X pins σ H s) (h : H p = some (.lst xs))
  (ho : s.heap.get? p = some { cls := .type "list", data := .seq its.toArray n }) (hf : f { cls := .type "list", data := .seq its.toArray n } = { cls := .type "list", data := .seq its'.toArray n' }) (r : Vals ys its') (hz : ys.length <= sizeLine) (t : Nat) :
  Inv X pins σ (upd H p (.lst ys)) { s with heap := s.heap.update p f, toks := t } := by
 have e : (s.heap.update p f).get? p = some { cls := .type "list", data := .seq its'.toArray n' } := by
  rw [Heap.get?_update_self f ho (by rw [hf] <;> rfl), hf]
 refine I.write (x := p) (e := p) (by rw [h]; trivial) (.inl rfl) (fun b u hb q => (Heap.get?_update_other _ _ (Ne.symm hb)).trans q) ⟨_, e⟩ ?_
 exact ⟨hz, its', n', r, e⟩
def rSetL : V -> V -> V -> Hp -> (Hp -> Prop) -> Prop := fun o i v H Q => ∃ p xs k j, o = .ref p /\ i = .int k /\ H p = some (.lst xs) /\ ixN xs.length k = some j /\ Q (upd H p (.lst (xs.set j v)))
theorem set_list : PSet X rSetL := by
 intro pins s σ H o i v ov iv u Q I ro ri rv h
 obtain ⟨p, xs, k, j, rfl, rfl, hp, hj, q⟩ := h
 cases ro
 obtain ⟨t, rfl⟩ := ri
 obtain ⟨its, n, r, ho, hz⟩ := I.lst hp
 obtain ⟨h1, h2, h3, h4⟩ := ixN_seq hj
 have hl := r.length
 have hn := line63
 have I' : Inv X pins σ (upd H p (.lst (xs.set j v))) { s with heap := s.heap.update p (Obj.mapSeq (·.setIfInBounds j u)) } :=
  I.lstUpd hp ho (mapSeq_set its n j u) (r.set rv j) (by rw [List.length_set]; exact hz) s.toks
 by_cases h0 : 0 <= k
 ·have hk : k.toNat = j := by
   rw [seqIndex_of h0 h4] at h1
   exact Option.some.inj h1
  exact PySem.W.ki_setAt ho h0 (by omega) (by rw [List.size_toArray, <- hl]; exact h4) (by rw [hk]; exact ⟨_, I', q⟩)
 ·have hk : (k + (its.toArray.size : Int)).toNat = j := by
   rw [seqIndex_neg (by omega) h3] at h1
   rw [List.size_toArray, <- hl]
   exact Option.some.inj h1
  exact PySem.W.ki_setBack ho (by omega) (by rw [List.size_toArray, <- hl]; exact h3) (by omega) (by rw [hk]; exact ⟨_, I', q⟩)
theorem slice_bounds (lo hi : Option Int) (n : Nat) : (sliceBounds lo hi none n).1 = ((HT.sIx n 0 lo : Nat) : Int) /\ (sliceBounds lo hi none n).2.1 = ((HT.sIx n n hi : Nat) : Int) /\ (sliceBounds lo hi none n).2.2 = 1 := by
 refine ⟨?_, ?_, rfl⟩
 ·cases lo with
  | none => simp [sliceBounds, HT.sIx]
  | some i =>
   simp only [sliceBounds, HT.sIx, Option.getD_none, show (1 : Int) > 0 by decide, if_true]
   by_cases h : i < 0
   ·simp only [h, if_true] <;> omega
   ·simp only [h, if_false] <;> omega
 ·cases hi with
  | none => simp [sliceBounds, HT.sIx]
  | some i =>
   simp only [sliceBounds, HT.sIx, Option.getD_none, show (1 : Int) > 0 by decide, if_true]
   by_cases h : i < 0
   ·simp only [h, if_true] <;> omega
   ·simp only [h, if_false] <;> omega
theorem slicePick_cut (its : List Value) (lo hi : Option Int) : slicePick its.toArray lo hi none = ((its.drop (HT.sIx its.length 0 lo)).take (HT.sIx its.length its.length hi - HT.sIx its.length 0 lo)).toArray := by
 obtain ⟨h1, h2, h3⟩ := slice_bounds lo hi its.toArray.size
 unfold slicePick
 rw [h1, h2, h3]
 simp only [sliceRange_one, pick_run, List.size_toArray] <;> rfl
def rSlL (K : PySem.W.Frag) : V -> Option Int -> Option Int -> Hp -> VK -> Prop := fun x lo hi H Q => ∃ a xs, x = .ref a /\ SqL K H a xs /\ ∀ p, H p = none -> Q (.ref p) (upd H p (.lst (cutV xs lo hi)))
theorem sl_list : SlR X (rSlL X.K) := by
 intro pins s σ H x v vl vu lo hi sl Q I rx hs pl pu h
 obtain ⟨a, xs, rfl, hx, q⟩ := h
 cases rx
 obtain ⟨its, r, ht, hz⟩ := I.list hx
 have hlen := r.length
 refine ⟨"list", _, slot_list_getitem.lookup, ht.isList.typeIs, ?_⟩
 refine wpAny_getItem_list_slice ht.isList hs pl pu .none (by simp) ?_ (by rw [List.size_toArray] <;> omega)
 rw [slicePick_cut, <- hlen]
 refine ⟨.ref s.heap.objs.size, _, I.laid (t' := s.toks) (o := .lst (cutV xs lo hi)) (fun b ob q => Heap.get?_push_of_some _ q) (Nat.le_refl _) ?_, rfl, q _ (I.hok.fresh (Nat.le_refl _))⟩
 exact ⟨Nat.le_trans (cutV_length xs lo hi) hz, _, 0, (r.drop (HT.sIx xs.length 0 lo)).take (HT.sIx xs.length xs.length hi - HT.sIx xs.length 0 lo), Heap.get?_push_size _ rfl⟩
def flatV : V -> Bool
 | .non => true
 | .bl _ => true
 | .int _ => true
 | .str _ => true
 | _ => false
def eqV : V -> V -> Bool
 | .non, .non => true
 | .bl a, .bl b => a == b
 | .bl a, .int b => (if a then 1 else 0) == b
 | .int a, .bl b => a == (if b then 1 else 0)
 | .int a, .int b => a == b
 | .str a, .str b => a == b
 | _, _ => false
theorem eqAt_V {A : Around} {s : Shared} {y x : V} {u v : Value} (ry : RelV y u) (rx : RelV x v) (fy : flatV y = true) (fx : flatV x = true) : SeqAt.EqAt A s u v (eqV y x) := by
 cases y with
 | non =>
  cases ry
  cases x with
  | non => cases rx; exact SeqAt.EqAt.same _
  | bl b => cases rx; exact SeqAt.EqAt.none_bool b
  | int b => obtain ⟨t, rfl⟩ := rx; exact SeqAt.EqAt.none_int b t
  | str b => obtain ⟨t, rfl⟩ := rx; exact SeqAt.EqAt.none_str b t
  | _ => exact absurd (show false = true from fx) Bool.false_ne_true
 | bl a =>
  cases ry
  cases x with
  | non => cases rx; exact SeqAt.EqAt.bool_none a
  | bl b => cases rx; exact SeqAt.EqAt.bool_bool a b
  | int b => obtain ⟨t, rfl⟩ := rx; exact SeqAt.EqAt.bool_int a b t
  | str b => obtain ⟨t, rfl⟩ := rx; exact SeqAt.EqAt.bool_str a b t
  | _ => exact absurd (show false = true from fx) Bool.false_ne_true
 | int a =>
  obtain ⟨t', rfl⟩ := ry
  cases x with
  | non => cases rx; exact SeqAt.EqAt.int_none a t'
  | bl b => cases rx; exact SeqAt.EqAt.int_bool a t' b
  | int b => obtain ⟨t, rfl⟩ := rx; exact SeqAt.EqAt.int_int a t' b t
  | str b => obtain ⟨t, rfl⟩ := rx; exact SeqAt.EqAt.int_str a t' b t
  | _ => exact absurd (show false = true from fx) Bool.false_ne_true
 | str a =>
  obtain ⟨t', rfl⟩ := ry
  cases x with
  | non => cases rx; exact SeqAt.EqAt.str_none a t'
  | bl b => cases rx; exact SeqAt.EqAt.str_bool a t' b
  | int b => obtain ⟨t, rfl⟩ := rx; exact SeqAt.EqAt.str_int a t' b t
  | str b => obtain ⟨t, rfl⟩ := rx; exact SeqAt.EqAt.str_str a t' b t
  | _ => exact absurd (show false = true from fx) Bool.false_ne_true
 | _ => exact absurd (show false = true from fy) Bool.false_ne_true
theorem op_notIn_str : OpR X (compareOp .NotIn) (fun x y H Q => ∃ i j, x = .str i /\ y = .str j /\ Q (.bl (!(!(Builtin.Str.occurrences j i 0 j.length 1).isEmpty))) H) := by
 intro pins s σ H x y v u Q I rx ry h
 obtain ⟨i, j, rfl, rfl, q⟩ := h
 obtain ⟨t, rfl⟩ := rx
 obtain ⟨t', rfl⟩ := ry
 exact notIn_str ⟨.bl _, H, I, rfl, q⟩
theorem call_len_seq : CallR X (.builtin "len") (fun xs H Q => ∃ p ys, xs = [.ref p] /\ (SqL X.K H p ys \/ SqT X.K H p ys) /\ Q (.int ys.length) H) := by
 intro pins s σ H xs us Q I r h
 obtain ⟨p, ys, rfl, hq, q⟩ := h
 obtain ⟨u, rfl, rx⟩ := vals1 r
 cases rx
 have hn := line63
 rcases hq with hq | hq
 ·obtain ⟨its, r', pl, hz⟩ := I.list hq
  have hlen := r'.length
  exact Calls.call_len_list pl.isList (by simp only [List.size_toArray] <;> omega) ⟨.int ys.length, H, I.tok _, ⟨s.toks + 1, by rw [List.size_toArray, hlen]⟩, q⟩
 ·obtain ⟨its, r', pl, hz⟩ := I.tuple hq
  have hlen := r'.length
  exact len_tuple pl (by simp only [List.size_toArray] <;> omega) ⟨.int ys.length, H, I.tok _, ⟨s.toks + 1, by rw [List.size_toArray, hlen]⟩, q⟩
theorem call_len_str : CallR X (.builtin "len") (fun xs H Q => ∃ z, xs = [.str z] /\ z.length <= sizeLine /\ Q (.int z.length) H) := by
 intro pins s σ H xs us Q I r h
 obtain ⟨z, rfl, hz, q⟩ := h
 obtain ⟨u, rfl, t, rfl⟩ := vals1 r
 have hn := line63
 exact len_str (by omega) ⟨.int z.length, H, I.tok _, ⟨_, rfl⟩, q⟩
theorem CallR.or {f : Value} {r r' : List V -> Hp -> VK -> Prop} (h : CallR X f r) (h' : CallR X f r') : CallR X f (fun xs H Q => r xs H Q \/ r' xs H Q) := by
 intro pins s σ H xs us Q I rs q
 rcases q with q | q
 ·exact h pins s σ H xs us Q I rs q
 ·exact h' pins s σ H xs us Q I rs q
theorem call_list_of : CallR X (.type "list") (fun xs H Q => ∃ p ys, xs = [.ref p] /\ (SqL X.K H p ys \/ SqT X.K H p ys) /\ ∀ l, H l = none -> Q (.ref l) (upd H l (.lst ys))) := by
 intro pins s σ H xs us Q I r h
 obtain ⟨p, ys, rfl, hq, q⟩ := h
 obtain ⟨u, rfl, rx⟩ := vals1 r
 cases rx
 have fin : ∀ (its : List Value), Vals ys its -> ys.length <= sizeLine -> ∀ (h' : Heap) (c' : Nat), (∀ b o', s.heap.get? b = some o' -> h'.get? b = some o') ->
   h'.get? s.heap.objs.size = some { cls := .type "list", dict := none, data := .seq its.toArray c', slots := #[] } -> EP X pins σ Q (.ref s.heap.objs.size) { s with heap := h' } := fun its r' hz h' c' kp e =>
  ⟨.ref s.heap.objs.size, _, I.laid (t' := s.toks) kp (Nat.le_refl _) (show ObjOk X.prog X.w _ h' _ (.lst ys) from ⟨hz, its, c', r', e⟩), rfl, q _ (I.hok.fresh (Nat.le_refl _))⟩
 rcases hq with hq | hq
 ·obtain ⟨its, r', pl, hz⟩ := I.list hq
  have hlen := r'.length
  obtain ⟨o, ho, hc, n, hd⟩ := pl.isList
  exact call_list_seq p (.inl rfl) ho hc hd (fun h' c' kp e => fin its r' hz h' c' kp e) (by simp only [List.size_toArray] <;> omega)
 ·obtain ⟨its, r', pl, hz⟩ := I.tuple hq
  have hlen := r'.length
  obtain ⟨o, ho, hc, n, hd⟩ := pl
  exact call_list_seq p (.inr rfl) ho hc hd (fun h' c' kp e => fin its r' hz h' c' kp e) (by simp only [List.size_toArray] <;> omega)
def tyV (K : PySem.W.Frag) (T : String) (x : V) (H : Hp) : Prop := match x with
 | .str _ => T = "str"
 | .int _ => T = "int"
 | .ref p => (T = "list" /\ ∃ xs, SqL K H p xs) \/ (T = "tuple" /\ ∃ o, K.lookup p = some o /\ o.cls = .type "tuple" /\ o.dict = none) \/
   (T = "dict" /\ ((∃ kvs, H p = some (.dK kvs)) \/ ∃ kvs, H p = some (.dT kvs))) \/ (T = "set" /\ ∃ S n, H p = some (.set S n))
 | _ => False
theorem tyV_is {pins : List (Addr × Obj)} {σ : St} {H : Hp} {s : Shared} {T : String} {x : V} {v : Value} (I : Inv X pins σ H s) (r : RelV x v) (ty : tyV X.K T x H) :
  s.TypeIs v T /\ ∀ a, v = .ref a -> ∃ ob, s.heap.get? a = some ob /\ ob.dict = none := by
 cases x with
 | str z =>
  obtain ⟨t, rfl⟩ := r
  cases (show T = "str" from ty)
  exact ⟨typeIs_str s z t, fun _ e => nomatch e⟩
 | int i =>
  obtain ⟨t, rfl⟩ := r
  cases (show T = "int" from ty)
  exact ⟨typeIs_int s i t, fun _ e => nomatch e⟩
 | ref p =>
  cases r
  rcases ty with ⟨rfl, xs, hq⟩ | ⟨rfl, o, hk, hc, hd⟩ | ⟨rfl, hk⟩ | ⟨rfl, S, n, hk⟩
  ·obtain ⟨its, _, pl, _⟩ := I.list hq
   refine ⟨pl.isList.typeIs, fun a e => ?_⟩
   cases e
   obtain ⟨o, n, e, c, hd, _⟩ := pl
   exact ⟨o, e, hd⟩
  ·refine ⟨⟨o, I.kIn p o hk, hc⟩, fun a e => ?_⟩
   cases e
   exact ⟨o, I.kIn _ o hk, hd⟩
  ·have z : ∃ o, s.heap.get? p = some o /\ o.ExactDict := by
    rcases hk with ⟨kvs, hk⟩ | ⟨kvs, hk⟩
    ·obtain ⟨_, _, _, _, o, _, _, e, ex, _⟩ := I.hok p _ hk
     exact ⟨o, e, ex⟩
    ·obtain ⟨_, _, _, _, o, _, _, e, ex, _⟩ := I.hok p _ hk
     exact ⟨o, e, ex⟩
   obtain ⟨o, e, ex⟩ := z
   refine ⟨⟨o, e, ex.1⟩, fun a e2 => ?_⟩
   cases e2
   exact ⟨o, e, ex.2.1⟩
  ·obtain ⟨o, _, _, _, e, ex, _⟩ := I.hok p _ hk
   refine ⟨⟨o, e, ex.1⟩, fun a e2 => ?_⟩
   cases e2
   exact ⟨o, e, ex.2.1⟩
 | _ => exact False.elim ty
def tBM0 (K : PySem.W.Frag) (T : String) (r : V -> List V -> Hp -> VK -> Prop) (to : TE) : TE := fun σ H Q => to σ H fun x H1 => tyV K T x H1 /\ r x [] H1 Q
def tBM (K : PySem.W.Frag) (T : String) (r : V -> List V -> Hp -> VK -> Prop) (to : TE) (t : TA) : TE := fun σ H Q => to σ H fun x H1 => tyV K T x H1 /\ t σ H1 fun xs H2 => r x xs H2 Q
variable {o e : Expr} {es : List Expr} {to : TE} {t : TA} {name : Str} {apos cpos : Pos} {T id : String} {r : V -> List V -> Hp -> VK -> Prop}
theorem pe_bm0 (pa : PlainAttrs T) (slot : Slot T name id) (hty : typeOf (.builtin id) = pure (.type "method_descriptor")) (hm : MtR X id r) (ho : PE X o to)
  (hbase : attributeBase o name X.env (eval o X.env) = eval o X.env := by rfl) (hline : (apos.endLine == cpos.line) = true := by rfl) : PE X (.Call (.Attribute o name apos) [] [] cpos) (tBM0 X.K T r to) := by
 intro pins s σ H Q I h
 refine wpAny_Call_method0_late hbase hline (thn (ho pins s σ H _ I h) fun v s1 ⟨x, H1, I1, r1, ty, q1⟩ => ?_)
 obtain ⟨h1, h2⟩ := tyV_is I1 r1 ty
 exact ⟨T, id, pa, slot, hty, h1, h2, Calls.callWith_builtin rfl (PySem.evalArgs_none (hm pins s1 σ H1 x [] v [] Q I1 r1 .nil q1))⟩
theorem pe_bm (pa : PlainAttrs T) (slot : Slot T name id) (hty : typeOf (.builtin id) = pure (.type "method_descriptor")) (hm : MtR X id r) (ho : PE X o to) (ha : PA X (e :: es) t)
  (hbase : attributeBase o name X.env (eval o X.env) = eval o X.env := by rfl)
  (hfew : ((backTo cpos (starEach (e :: es) X.env)).all (fun x => !x.1) && (backToKw cpos (keywordEach [] X.env)).all (fun x => x.1.isSome)
   && decide ((e :: es).length + ([] : List Keyword).length + (if ([] : List Keyword).isEmpty then 0 else 1) < 30)) = true := by rfl)
  (hline : (apos.endLine == cpos.line) = true := by rfl) (hs : starEach (e :: es) X.env = (false, eval e X.env) :: starEach es X.env := by rfl) (hplain : (backTo cpos (starEach es X.env)).any (·.1) = false := by rfl) :
  PE X (.Call (.Attribute o name apos) (e :: es) [] cpos) (tBM X.K T r to t) := by
 intro pins s σ H Q I h
 refine wpAny_Call_method_late hbase hfew hline rfl (thn (ho pins s σ H _ I h) fun v s1 ⟨x, H1, I1, r1, ty, q1⟩ => ?_)
 obtain ⟨h1, h2⟩ := tyV_is I1 r1 ty
 refine ⟨T, id, pa, slot, hty, h1, h2, ?_⟩
 have hA := ha cpos pins s1 σ H1 _ I1 q1
 rw [hs] at hA ⊢
 refine Calls.callWith_builtin (by show (false || (backTo cpos (starEach es X.env)).any (·.1)) = false; rw [hplain] <;> rfl) (Calls.evalArgs_plain ?_)
 exact thn hA fun us s2 ⟨vs, H2, I2, r2, q2⟩ => hm pins s2 σ H2 x vs v us Q I2 r1 r2 q2
end
end L2
namespace L2
open PySem PySem.Spec PyProof.Rows
def MtM (X : Cx) (id : String) (r : V -> List V -> Hp -> VK -> Prop) : Prop :=
 ∀ (pins : List (Addr × Obj)) (s : Shared) (σ : St) (H : Hp) (x : V) (xs : List V) (v : Value) (us : List Value) (Q : VK), Inv X pins σ H s -> RelV x v -> Vals xs us -> r x xs H Q ->
  wpAny (model X.prog X.w) X.A (call (.builtin id) (v :: us)) (EP X pins σ Q) X.xe s
theorem Vals.one : ∀ {x : V} {us : List Value}, Vals [x] us -> ∃ u, us = [u] /\ RelV x u
 | _, _, .cons r .nil => ⟨_, rfl, r⟩
theorem Vals.zero : ∀ {us : List Value}, Vals [] us -> us = []
 | _, .nil => rfl
theorem Vals.dropLast {xs : List V} {us : List Value} (h : Vals xs us) : Vals xs.dropLast us.dropLast := by
 induction h with
 | nil => exact .nil
 | cons r t ih =>
  cases t with
  | nil => exact .nil
  | cons q t' => exact .cons r ih
theorem Vals.eraseIdx : ∀ {xs : List V} {us : List Value} (i : Nat), Vals xs us -> Vals (xs.eraseIdx i) (us.eraseIdx i)
 | _, _, _, .nil => .nil
 | _, _, 0, .cons _ t => t
 | _, _, i + 1, .cons r t => .cons r (Vals.eraseIdx i t)
theorem Vals.reverse {xs : List V} {us : List Value} (h : Vals xs us) : Vals xs.reverse us.reverse := by
 induction h with
 | nil => exact .nil
 | cons r t ih => rw [List.reverse_cons, List.reverse_cons]; exact Vals.append ih (.cons r .nil)
theorem Vals.rep {xs : List V} {us : List Value} (h : Vals xs us) : ∀ k : Nat, Vals (List.replicate k xs).flatten (List.replicate k us).flatten
 | 0 => .nil
 | k + 1 => by
  rw [List.replicate_succ, List.replicate_succ, List.flatten_cons, List.flatten_cons]
  exact Vals.append h (Vals.rep h k)
theorem erase_last {α : Type} (l : List α) : l.eraseIdx (l.length - 1) = l.dropLast := by
 induction l with
 | nil => rfl
 | cons a r ih =>
  cases r with
  | nil => rfl
  | cons b r =>
   have e : (a :: b :: r).length - 1 = ((b :: r).length - 1) + 1 := by
    have h1 : (a :: b :: r).length = r.length + 2 := rfl
    have h2 : (b :: r).length = r.length + 1 := rfl
    omega
   rw [e, List.eraseIdx_cons_succ, ih]
   all_goals rfl
theorem len_erase {α : Type} : ∀ (l : List α) (i : Nat), (l.eraseIdx i).length <= l.length
 | [], _ => Nat.le_refl _
 | _ :: _, 0 => Nat.le_succ _
 | _ :: r, i + 1 => Nat.succ_le_succ (len_erase r i)
theorem foldl_rep (its : List Value) : ∀ (k : Nat) (acc : List Value),
  List.foldl (fun x1 x2 => x1 ++ x2) acc.toArray (List.replicate k its.toArray) = (acc ++ (List.replicate k its).flatten).toArray
 | 0, acc => by simp
 | k + 1, acc => by
  have e : acc.toArray ++ its.toArray = (acc ++ its).toArray := by simp
  have e2 : (acc ++ its) ++ (List.replicate k its).flatten = acc ++ (List.replicate (k + 1) its).flatten := by
   rw [List.replicate_succ, List.flatten_cons, List.append_assoc]
  rw [<- e2, <- foldl_rep its k (acc ++ its), <- e, List.replicate_succ, List.foldl_cons]
section
variable {X : Cx} {pins : List (Addr × Obj)} {σ : St} {H : Hp} {s : Shared} {l b : Addr} {xs ys zs : List V}
theorem Inv.lset {its its' : List Value} {n : Nat} {f : Array Value -> Array Value} {t' : Nat} (I : Inv X pins σ H s) (hH : H l = some (.lst xs))
  (e : s.heap.get? l = some { cls := .type "list", data := .seq its.toArray n }) (hf : f its.toArray = its'.toArray) (hv : Vals ys its') (hz : ys.length <= sizeLine) :
  Inv X pins σ (upd H l (.lst ys)) { s with heap := s.heap.update l (Obj.mapSeq f), toks := t' } := by
 have q := PySem.IsL.update e f
 rw [hf] at q
 refine I.write (x := l) (e := l) (by rw [hH]; exact trivial) (.inl rfl) (fun b' u hb hu => (Heap.get?_update_other s.heap (Obj.mapSeq f) (Ne.symm hb)).trans hu) ⟨_, q⟩ ?_
 exact ⟨hz, its', _, hv, q⟩
theorem Inv.lnew {its : List Value} {t' : Nat} (I : Inv X pins σ H s) (hv : Vals ys its) (hz : ys.length <= sizeLine) :
  Inv X pins σ (upd H s.heap.objs.size (.lst ys)) { s with heap := s.heap.push { cls := .type "list", data := .seq its.toArray }, toks := t' } :=
 I.laid (fun _ _ q => Heap.get?_push_of_some _ q) (Nat.le_refl _) ⟨hz, its, 0, hv, Heap.get?_push_size _ rfl⟩
theorem Inv.fresh (I : Inv X pins σ H s) : H s.heap.objs.size = none := I.hok.fresh (Nat.le_refl _)
theorem Inv.lstM (I : Inv X pins σ H s) (hH : H l = some (.lst xs)) : xs.length <= sizeLine /\ ∃ (its : List Value) (n : Nat), Vals xs its /\ xs.length = its.length /\ s.heap.get? l = some { cls := .type "list", data := .seq its.toArray n } := by
 obtain ⟨z, its, n, r, e⟩ := I.hok l _ hH
 exact ⟨z, its, n, r, r.length, e⟩
theorem notLongL {n : Nat} (h : n <= sizeLine) : Builtin.List.listTooLong n = false := by
 unfold Builtin.List.listTooLong
 exact decide_eq_false (by omega)
end
section
variable {X : Cx}
def rAppend : V -> List V -> Hp -> VK -> Prop := fun x vs H Q => ∃ l xs y, x = .ref l /\ vs = [y] /\ H l = some (.lst xs) /\ xs.length < sizeLine /\ Q .non (upd H l (.lst (xs ++ [y])))
theorem mt_append : MtM X "list.append" rAppend := by
 intro pins s σ H x vs v us Q I rx rv h
 obtain ⟨l, xs, y, rfl, rfl, hH, hz, q⟩ := h
 cases rx
 obtain ⟨u, rfl, ru⟩ := rv.one
 obtain ⟨z, its, n, r, hl, e⟩ := I.lstM hH
 refine call_meets F.slot_list_append ⟨_, e, rfl⟩ F.entry_list_append (F.args_list_append_2 _ _) (PySem.list_append l its.toArray n u (by rw [List.size_toArray]; omega)) ⟨e, ?_⟩
 refine ⟨.non, _, I.lset (its' := its ++ [u]) hH e (by simp) (r.append (.cons ru .nil)) ?_, rfl, q⟩
 rw [List.length_append, List.length_singleton]
 omega
def rPop : V -> List V -> Hp -> VK -> Prop := fun x vs H Q => ∃ l xs y, x = .ref l /\ vs = [] /\ H l = some (.lst xs) /\ xs[xs.length - 1]? = some y /\ Q y (upd H l (.lst xs.dropLast))
theorem mt_pop : MtM X "list.pop" rPop := by
 intro pins s σ H x vs v us Q I rx rv h
 obtain ⟨l, xs, y, rfl, rfl, hH, hy, q⟩ := h
 cases rx
 have hus := rv.zero
 subst hus
 obtain ⟨z, its, n, r, hl, e⟩ := I.lstM hH
 obtain ⟨u, hu, ru⟩ := r.get hy
 have hy' : its.toArray[its.toArray.size - 1]? = some u := by
  show its.toArray[its.length - 1]? = some u
  rw [<- Array.getElem?_toList, <- hl]
  exact hu
 refine call_meets F.slot_list_pop ⟨_, e, rfl⟩ F.entry_list_pop (F.args_list_pop_1 _) (MeetsSeq.list_pop_last l its.toArray n u hy' (by rw [List.size_toArray]; omega)) ⟨e, ?_⟩
 refine ⟨y, _, I.lset (its' := its.dropLast) hH e ?_ r.dropLast ?_, ru, q⟩
 ·show its.toArray.eraseIdxIfInBounds (its.toArray.size - 1) = its.dropLast.toArray
  rw [List.size_toArray, List.eraseIdxIfInBounds_toArray, erase_last]
 ·rw [List.length_dropLast]
  omega
def rPopAt : V -> List V -> Hp -> VK -> Prop := fun x vs H Q => ∃ l xs i k y, x = .ref l /\ vs = [.int i] /\ H l = some (.lst xs) /\ -(2 ^ 63) <= i /\ i < 2 ^ 63 /\ seqIndex? i xs.length = some k /\ xs[k]? = some y /\ Q y (upd H l (.lst (xs.eraseIdx k)))
theorem mt_popAt : MtM X "list.pop" rPopAt := by
 intro pins s σ H x vs v us Q I rx rv h
 obtain ⟨l, xs, i, k, y, rfl, rfl, hH, h1, h2, hk, hy, q⟩ := h
 cases rx
 obtain ⟨u, rfl, ru⟩ := rv.one
 obtain ⟨t, rfl⟩ := ru
 obtain ⟨z, its, n, r, hl, e⟩ := I.lstM hH
 obtain ⟨w, hw, rw'⟩ := r.get hy
 refine call_meets F.slot_list_pop ⟨_, e, rfl⟩ F.entry_list_pop (F.args_list_pop_2 _ _)
  (MeetsSeq.list_pop_at l its.toArray n i t k w (fitsIndex_both h1 h2) (by rw [List.size_toArray, <- hl]; exact hk) (by rw [<- Array.getElem?_toList]; exact hw) (by rw [List.size_toArray]; omega)) ⟨e, ?_⟩
 refine ⟨y, _, I.lset (its' := its.eraseIdx k) hH e ?_ (r.eraseIdx k) ?_, rw', q⟩
 ·show its.toArray.eraseIdxIfInBounds k = (its.eraseIdx k).toArray
  rw [List.eraseIdxIfInBounds_toArray]
 ·have := len_erase xs k
  omega
theorem len_rep {α : Type} (xs : List α) (k : Nat) : (List.replicate k xs).flatten.length = k * xs.length := by
 induction k with
 | zero => simp
 | succ k ih => rw [List.replicate_succ, List.flatten_cons, List.length_append, ih, Nat.succ_mul, Nat.add_comm]
end
end L2
namespace Att
open PySem PySem.W PySem.Calls PyProof.Rows
theorem ints_of_wellAll {P : Params} {h : Heap} : ∀ (ns : List Int) (vs : List Value), WellAll P h vs (ns.map WData.int) -> IntsAre vs ns := by
 intro ns
 induction ns with
 | nil =>
  intro vs w
  rw [List.map_nil] at w
  cases w
  exact .nil
 | cons n ns ih =>
  intro vs w
  rw [List.map_cons] at w
  cases w with
  | cons a b =>
   cases a
   exact .cons _ _ (ih _ b)
theorem script_of {l : OpenLaw} {n : Nat} (hn : l.most = some n) {P : Params} {h : Heap} {args : List WData} {vals : List Value}
  (hpre : l.row.toRowW.claim.pre args = true) (hwl : WellAll P h vals args) :
  ∃ a vs ns, vals = [Value.ref a] /\ args = [WData.list (ns.map WData.int)] /\ h.get? a = some { cls := .type "list", data := .seq vs.toArray } /\ IntsAre vs ns /\ ns.length <= n := by
 have hsh : WShape.hasAll [] args [.list .int] = true := (pre_splitW hpre).1
 have hc : l.pre.holds [] { args := args } = true := (pre_splitW hpre).2
 obtain ⟨d, r, rfl, h1, h2⟩ := hasAllW_cons hsh
 obtain rfl := hasAllW_nil h2
 obtain ⟨xs, rfl, h3⟩ := hasW_list h1
 obtain ⟨ns, rfl⟩ := items_int h3
 have hlen : ns.length <= n := by
  unfold OpenLaw.pre at hc
  have h4 : (WTm.not (.lt (.lit (.int (n : Int))) (.len (.arg 0)))).holds [] { args := [.list (ns.map .int)] } = true := by
   have h4 := (holds_andW hc).1
   rw [hn] at h4
   exact h4
  have h5 := condW_of h4 (w_not (w_lt w_lit (w_len_list (w_arg rfl))))
  rw [List.length_map] at h5
  refine Nat.le_of_not_lt fun q => ?_
  have q' : (n : Int) < ((ns.length : Nat) : Int) := by omega
  first
   | (rw [decide_eq_true q'] at h5; exact absurd h5 (by decide))
   | (simp at h5; omega)
 cases hwl with
 | cons w1 w2 =>
  cases w2
  cases w1 with
  | list ho hall => exact ⟨_, _, ns, rfl, rfl, ho, ints_of_wellAll ns _ hall, hlen⟩
theorem post_true (l : OpenLaw) (args : List WData) : l.row.toRowW.claim.post args (.bool true) args = true :=
 postW_of (r := l.row.toRowW) (X := (true == true))
  (show WShape.has [] (.bool true) .bool = true by first | rfl | decide | simp [WShape.has, WShape.arms, WShape.armsAll])
  (show (WTm.eq .res (.lit (.bool true))).value [] { args := args, res := some (.bool true), after := args } = some (.bool (true == true)) from w_eq_bool (w_res rfl) w_lit) rfl
theorem attach_call {l : OpenLaw} {n : Nat} {q : Program} {loose : List Str} {XP : (Str -> Option Value) -> Heap -> Prop} {YP : World -> Heap -> Prop} {d : DefRec}
  (hn : l.most = some n) (hdf : d.params.defaults = [])
  (call : ∀ (w : World) (s₀ s₁ : Shared) (mg mb : Str -> Option Value) (fa : Addr) (o : Obj) (pm cd doc : Value) (a : Addr) (vs : List Value) (ns : List Int),
   Ground q loose [] XP w s₀ mg mb s₁.heap -> YP w s₁.heap ->
   s₁.heap.get? fa = some o -> o.data = .func (docDef d.name d.params d.body d.scope pm cd doc) -> s₁.heap.CodeRec cd d.name -> mg d.name = some (.ref fa) ->
   s₁.heap.get? a = some { cls := .type "list", data := .seq vs.toArray } -> IntsAre vs ns -> ns.length <= n -> s₁.gens = #[] ->
   codeAny (model l.prog w) callerA (.call (.ref fa) ⟨[.ref a], []⟩) (fun r s' => r = .ok (.ret (.bool true)) /\ OldK s₁.heap s'.heap /\ s'.os = s₁.os /\ AllBare s'.gens) s₁) :
  WalkO q loose XP YP l.row.toRowW d [] (fun f vs => PySem.call f vs) := by
 intro w s₀ s₁ mg mb G Y fa o pm cd doc dV kV ho hd hcd hD hmg hg args vals as hpre hlay hrd hwl hlo
 obtain rfl : dV = .none := Dflts.none hD hdf
 obtain rfl : kV = .none := Dflts.noKw hD
 obtain ⟨a, vs, ns, rfl, rfl, hobj, hints, hlen⟩ := script_of hn hpre hwl
 refine enter_call (codeAny_mono (call w s₀ s₁ mg mb fa o pm cd doc a vs ns G Y ho (fd_plain hd) hcd hmg hobj hints hlen hg) fun r s' hq => ?_)
 obtain ⟨rfl, h2, h3, h4⟩ := hq
 exact ⟨.inl ⟨.bool true, .bool true, [], rfl, fun _ => rfl, .bool true, post_true l _, fun _ => ⟨List.Pairwise.nil, fun _ hm => (nomatch hm)⟩⟩, h2, h3, h4⟩
end Att
namespace L2
open PySem PySem.Spec PyProof.Rows
theorem vals_ints : ∀ {vs : List Value} {ns : List Int}, IntsAre vs ns -> Vals (ns.map V.int) vs
 | _, _, .nil => .nil
 | _, _, .cons n t h => .cons ⟨t, rfl⟩ (vals_ints h)
def Only (H : Hp) : Prop := ∀ b, H b = none \/ ∃ o xs, H b = some (.frz o (.lst xs))
theorem law_call {P : Program} {w : World} {K : PySem.W.Frag} {mg mb : Str -> Option Value} {CX : CXT} {k : Nat} {fa a : Addr} {fd : FuncData} {x : Str} {sp : Sp} {s₁ : Shared} {vs : List Value} {ns : List Int}
  (KX : K.In s₁.heap) (hns : s₁.heap.Ns mainGlobals mg) (hb : s₁.heap.Ns builtinsNs mb) (hbb : ∀ x : Str, x ≠ "__name__" -> mb x = bootBuiltins x) (hlim : s₁.heap.NoLimit) (hg : s₁.gens = #[])
  (ha : s₁.heap.get? a = some { cls := .type "list", data := .seq vs.toArray }) (hi : IntsAre vs ns) (hl : ns.length <= sizeLine) (hr : Room k callerA)
  (F : ∀ base : Heap, K.In base -> base.Ns mainGlobals mg -> FnOk P w K mg base CX k fa fd [x] sp) (hbind : ∀ (s : Shared) (u : Value), BindsTo s fd ⟨[u], []⟩ [(x, u)])
  (hsp : ∀ H : Hp, Only H -> SqL K H a (ns.map V.int) -> sp [.ref a] H (fun v _ => v = .bl true) fun _ _ _ => False)
  (hCX : ∀ H e s', CX [] H s₁ (fun _ _ _ => False) e s' -> False) :
  codeAny (model P w) callerA (.call (.ref fa) ⟨[.ref a], []⟩) (fun r s' => r = .ok (.ret (.bool true)) /\ OldK s₁.heap s'.heap /\ s'.os = s₁.os /\ AllBare s'.gens) s₁ := by
 have rv := vals_ints hi
 have lenV := hi.length
 -- from an abstract heap in which nothing but the script may be tracked
 have core : ∀ H : Hp, Only H -> SqL K H a (ns.map V.int) -> HOk P w H s₁.heap -> (∀ b, H b ≠ none -> b = a) -> (H a ≠ none -> K.lookup a = none) ->
   codeAny (model P w) callerA (.call (.ref fa) ⟨[.ref a], []⟩) (fun r s' => r = .ok (.ret (.bool true)) /\ OldK s₁.heap s'.heap /\ s'.os = s₁.os /\ AllBare s'.gens) s₁ := by
  intro H hO hS hok hA hK
  have base_of : ∀ {b : Addr} {o : Obj}, s₁.heap.get? b = some o -> H b = none -> (hidT s₁.heap H).get? b = some o := fun e n => hidT_get e n
  have noA : ∀ {b : Addr} {o : Obj} {es : Array DictEntry} {ep : Nat}, s₁.heap.get? b = some o -> o.data = .dict es ep -> H b = none := fun {b o es ep} e d => by
   cases q : H b with
   | none => rfl
   | some u =>
    have e' : b = a := hA b (by rw [q]; simp)
    subst e'
    rw [ha] at e; cases e
    have d' : Data.seq vs.toArray _ = Data.dict es ep := d
    cases d'
  have nsK : ∀ {b : Addr} {m : Str -> Option Value}, s₁.heap.Ns b m -> (hidT s₁.heap H).Ns b m := fun {b m} ⟨o, es, ep, e, d, r⟩ => ⟨o, es, ep, base_of e (noA e d), d, r⟩
  have hKb : K.In (hidT s₁.heap H) := fun b o e => base_of (KX b o e) (by
   cases q : H b with
   | none => rfl
   | some u =>
    have e' : b = a := hA b (by rw [q]; simp)
    subst e'
    rw [hK (by rw [q]; simp)] at e; cases e)
  have hM : Mod K mg (hidT s₁.heap H) := ⟨hKb, nsK hns, ⟨mb, nsK hb, hbb⟩, let ⟨mc, h1, h2⟩ := hlim; ⟨mc, nsK h1, h2⟩⟩
  have e0 : Env0 P w K mg (hidT s₁.heap H) callerA [] s₁ H := ⟨rfl, hM, fun b o e => of_hidT e, Nat.le_of_eq (hidT_size _ _), trivial, fun b hb => absurd (show b ∈ ([] : List Addr) from hb) (by simp), hok, .of_eq hg⟩
  refine codeAny_mono ((F _ hKb (nsK hns)).run callerA [] s₁ H ⟨[.ref a], []⟩ [.ref a] [.ref a] _ _ hr e0 (hbind s₁ (.ref a)) (.cons rfl .nil) (hsp H hO hS)) fun r s' h => ?_
  cases r with
  | error e => exact (hCX H e s' h).elim
  | ok fl =>
   cases fl with
   | next => exact False.elim h
   | brk => exact False.elim h
   | cont => exact False.elim h
   | ret u =>
    obtain ⟨v, H', os, bare, un, hok', r', q⟩ := h
    have q' : v = .bl true := q
    subst q'
    obtain rfl : u = Value.bool true := r'
    refine ⟨rfl, OldK.of_keep fun b o e => ?_, os, bare⟩
    cases q : H b with
    | none => exact un.keep b o e q (by intro z; exact absurd (show b ∈ ([] : List Addr) from z) (by simp)) (by simp)
    | some u =>
     rcases hO b with z | ⟨ob, xs, z⟩
     ·rw [q] at z; cases z
     ·have z2 := un.frzs b ob _ z
      obtain ⟨e1, _⟩ := hok b _ z
      obtain ⟨e2, _⟩ := hok' b _ z2
      rw [e] at e1; cases e1
      exact e2
 cases hk : K.lookup a with
 | some o =>
  -- the script is one of the module's own objects
  have e := KX a o hk
  rw [ha] at e
  cases e
  refine core (fun _ => none) (fun _ => .inl rfl) (.inr ⟨_, vs.toArray, _, hk, rfl, rfl, rfl, by rw [List.size_toArray, lenV]; exact hl, by simpa using rv⟩) (fun b u z => by have z' : (none : Option HO) = some u := z; cases z') (fun b z => absurd rfl z) fun z => absurd rfl z
 | none =>
  refine core (fun b => if b = a then some (.frz { cls := .type "list", data := .seq vs.toArray } (.lst (ns.map V.int))) else none) (fun b => ?_) (.inl (.inr ⟨{ cls := .type "list", data := .seq vs.toArray }, if_pos rfl⟩)) (fun b u z => ?_) (fun b z => ?_) fun _ => hk
  ·by_cases hb : b = a
   ·exact .inr ⟨_, _, if_pos hb⟩
   ·exact .inl (if_neg hb)
  ·by_cases hb : b = a
   ·have z' := (if_pos hb).symm.trans z
    cases z'
    subst hb
    exact ⟨ha, by rw [List.length_map]; exact hl, vs, _, rv, ha⟩
   ·have z' := (if_neg hb).symm.trans z
    cases z'
  ·by_cases hb : b = a
   ·exact hb
   ·exact absurd (if_neg hb) z
end L2
namespace L2
open PySem PySem.Spec PyProof.Rows
theorem walk_of {l : PySem.W.OpenLaw} {n k : Nat} {q : Program} {loose : List Str} {XP : (Str -> Option Value) -> Heap -> Prop} {YP : World -> Heap -> Prop} {d : DefRec} {K : Params -> PySem.W.Frag} {CX : World -> CXT} {sp : World -> Sp} {x : Str}
  (hn : l.most = some n) (hn2 : n <= sizeLine) (hdf : d.params.defaults = []) (hr : Room k callerA)
  (hY : ∀ (w : World) (h : Heap), YP w h -> (K w.params).In h)
  (F : ∀ (w : World) (mg : Str -> Option Value) (fa : Addr) (h : Heap), (K w.params).In h -> h.Ns mainGlobals mg -> mg d.name = some (.ref fa) ->
   ∃ fd : FuncData, (∀ (s : Shared) (u : Value), BindsTo s fd ⟨[u], []⟩ [(x, u)]) /\
    ∀ base : Heap, (K w.params).In base -> base.Ns mainGlobals mg -> FnOk l.prog w (K w.params) mg base (CX w) k fa fd [x] (sp w))
  (hsp : ∀ (w : World) (H : Hp) (a : Addr) (ns : List Int), ns.length <= n -> Only H -> SqL (K w.params) H a (ns.map V.int) -> sp w [.ref a] H (fun v _ => v = .bl true) fun _ _ _ => False)
  (hCX : ∀ (w : World) (H : Hp) (s : Shared) (e : Value) (s' : Shared), CX w [] H s (fun _ _ _ => False) e s' -> False) :
  PySem.W.WalkO q loose XP YP l.row.toRowW d [] (fun f vs => PySem.call f vs) := by
 refine Att.attach_call hn hdf fun w s₀ s₁ mg mb fa o pm cd doc a vs ns G Y ho hd hcd hmg hobj hints hlen hg => ?_
 have KX := hY w _ Y
 obtain ⟨fd, hb, hF⟩ := F w mg fa _ KX G.T.g hmg
 exact law_call KX G.T.g G.T.b G.T.builtins G.T.nolimit hg hobj hints (Nat.le_trans hlen hn2) hr hF hb (fun H hO hS => hsp w H a ns hlen hO hS) fun H e s' => hCX w H s₁ e s'
end L2
namespace L2
open PySem PySem.Spec PyProof.Rows
def inClass (s : Stmt) (j : Nat) : Stmt := match s with
 | .ClassDef _ _ _ body _ _ _ _ _ _ _ => body.getD j (.Pass ⟨0, 0, 0, 0⟩)
 | _ => .Pass ⟨0, 0, 0, 0⟩
def defArgs (s : Stmt) : Arguments := match s with
 | .FunctionDef _ a _ _ _ _ _ _ _ _ => a
 | _ => { posonlyargs := [], args := [], vararg := none, kwonlyargs := [], kw_defaults := [], kwarg := none, defaults := [] }
def defBody (s : Stmt) : List Stmt := match s with
 | .FunctionDef _ _ b _ _ _ _ _ _ _ => b
 | _ => []
def defScope (s : Stmt) : Scope := match s with
 | .FunctionDef _ _ _ _ _ _ sc _ _ _ => sc
 | _ => { kind := .function, names := [], isGenerator := false, isCoroutine := false }
abbrev CX0 : CXT := fun _ _ _ _ _ _ => False
abbrev E0 : XK := fun _ _ _ => False
theorem pass0 {X : Cx} : Passes CX0 X E0 := fun _ _ _ _ _ _ _ h => h.elim
structure Fun (K : PySem.W.Frag) (x qual : Str) (st : Stmt) (f : Addr) (fd : FuncData) : Prop where
 ex : ∃ (oc : Value) (od : Option Addr) (kV doc pm : Value) (an : Option Addr) (cdv ct : Value) (osl : Array (Option Value)),
  fd = PySem.W.fnOf x qual (defArgs st) (defBody st) (defScope st) .none kV doc pm an cdv ct /\ K.lookup f = some ⟨oc, od, .func fd, osl⟩ /\ PySem.W.codeIn K cdv qual = true
 kp : PySem.W.keepIn K (.ref f) = true
section
variable {P : Program} {w : World} {K : PySem.W.Frag} {mg : Str -> Option Value} {base : Heap}
theorem Fun.ok {x qual : Str} {st : Stmt} {f : Addr} {fd : FuncData} {N ps : List Str} {k : Nat} {sp : Sp} (F : Fun K x qual st f fd) (S : FnScope N ps (defScope st)) (len : ∀ vs H Q E, sp vs H Q E -> vs.length = ps.length)
  (hbody : ∀ (cdv : Value) (A : Around) (outer : List Env) (s : Shared) (H : Hp) (vs : List V) (Q : VK) (E : XK), Room k (A.deeper (envOfC qual (defScope st) s.heap.objs.size f cdv)) -> sp vs H Q E ->
   ∃ t, PSs (cxOf CX0 P w K mg base N qual (defScope st) f cdv A outer s H E).nox (defBody st) t /\ t { nx := fun _ H' => Q .non H', rt := Q } (start N vs) H) : FnOk P w K mg base CX0 (k + 1) f fd ps sp := by
 obtain ⟨oc, od, kV, doc, pm, an, cdv, ct, osl, rfl, lk, hcd⟩ := F.ex
 refine fn_of lk hcd S len fun A outer s H vs Q E hr hsp => ?_
 obtain ⟨t, h, q⟩ := hbody cdv A outer s H vs Q E hr hsp
 exact ⟨t, h.nox, q⟩
theorem Fun.binds {x qual : Str} {st : Stmt} {f : Addr} {fd : FuncData} {ps : List Str} (F : Fun K x qual st f fd)
  (h : ∀ (kV doc pm : Value) (an : Option Addr) (cdv ct : Value) (us : List Value), us.length = ps.length -> bindArgs (PySem.W.fnOf x qual (defArgs st) (defBody st) (defScope st) .none kV doc pm an cdv ct) ⟨us, []⟩ = pure (ps.zip us)) : Binds K fd ps [] := by
 obtain ⟨oc, od, kV, doc, pm, an, cdv, ct, osl, rfl, lk, hcd⟩ := F.ex
 exact .all (h kV doc pm an cdv ct)
theorem fun_mk {x qual : Str} {st : Stmt} {f : Addr} {oc : Value} {od an : Option Addr} {osl : Array (Option Value)} {kV doc pm cdv ct : Value} (l : K.lookup f = some ⟨oc, od, .func (PySem.W.fnOf x qual (defArgs st) (defBody st) (defScope st) .none kV doc pm an cdv ct), osl⟩)
  (c : PySem.W.codeIn K cdv qual = true) (k : PySem.W.keepIn K (.ref f) = true) : Fun K x qual st f (PySem.W.fnOf x qual (defArgs st) (defBody st) (defScope st) .none kV doc pm an cdv ct) := ⟨⟨oc, od, kV, doc, pm, an, cdv, ct, osl, rfl, l, c⟩, k⟩
end
theorem hu_of {A : Around} {k : Nat} (hr : Room k A) : A.units + 1 < cLine := Nat.lt_of_le_of_lt (Nat.add_le_add_left (by decide : 1 <= 64) _) hr.units
theorem small1000 {n : Nat} (h : n <= 1000) : n < sizeLine := Nat.lt_of_le_of_lt h (by decide)
section
variable {X : Cx}
theorem pv (i : Nat) {x : Str} {pos : Pos} (hN : X.N[i]? = some x := by rfl) (hv : Vis X.env.scope x := by first | exact Or.inl rfl | exact Or.inr (Or.inl rfl) | exact Or.inr (Or.inr rfl)) (hd : (x == ("__debug__" : Str)) = false := by decide)
  (hcd : (x == ("__classdict__" : Str)) = false := by decide) : PE X (.Name x pos) (tVar i) := pe_var hN hv hd hcd
end
theorem iteF {A B : Prop} (h : B) : if false = true then A else B := by
 rw [if_neg Bool.false_ne_true]
 exact h
theorem iteT {A B : Prop} (h : A) : if true = true then A else B := by
 rw [if_pos rfl]
 exact h
theorem ite2 {c A B : Prop} [Decidable c] (h1 : c -> A) (h2 : ¬ c -> B) : if c then A else B := by
 by_cases h : c
 ·rw [if_pos h]
  exact h1 h
 ·rw [if_neg h]
  exact h2 h
def Same (H H' : Hp) : Prop := ∀ b o, H b = some o -> H' b = some o
theorem Same.refl (H : Hp) : Same H H := fun _ _ h => h
theorem Same.free {H H' : Hp} (e : Same H H') {l : Addr} (h : H' l = Option.none) : H l = Option.none := by
 cases q : H l with
 | none => rfl
 | some o =>
  rw [e l o q] at h
  cases h
end L2
namespace L2
open PySem PySem.Spec PyProof.Rows
theorem closure_names {env : Env} : ∀ (names : List (Str × NameKind)) (acc : List (Str × Addr)), (∀ y ∈ names, y.2 = .free -> ∃ c, env.cells.lookup y.1 = some c) ->
  ∃ cl, (forIn names acc (fun (x : Str × NameKind) (cs : List (Str × Addr)) => if (x.2 == NameKind.free) = true then (do let c <- cellOf env x.1; pure (ForInStep.yield ((x.1, c) :: cs))) else pure (ForInStep.yield cs)) : Sem (List (Str × Addr))) = pure cl /\
   (∀ x c, cl.lookup x = some c -> env.cells.lookup x = some c \/ acc.lookup x = some c) /\ (∀ x c, acc.lookup x = some c -> ∃ c', cl.lookup x = some c') /\ ∀ y ∈ names, y.2 = .free -> ∃ c, cl.lookup y.1 = some c
 | [], acc, _ => ⟨acc, rfl, fun _ _ h => .inr h, fun _ c h => ⟨c, h⟩, fun _ h => nomatch h⟩
 | (n, k) :: r, acc, h => by
  rw [List.forIn_cons]
  by_cases hk : k = .free
  ·subst hk
   obtain ⟨c, hc⟩ := h (n, .free) List.mem_cons_self rfl
   obtain ⟨cl, h1, h2, h3, h4⟩ := closure_names r ((n, c) :: acc) fun y hy => h y (List.mem_cons_of_mem _ hy)
   refine ⟨cl, ?_, fun x d e => ?_, fun x d e => ?_, fun y hy e => ?_⟩
   ·have e1 : cellOf env n = pure c := by unfold cellOf; rw [hc]
    simp only [beq_self_eq_true, if_true, e1, pure_bind]
    exact h1
   ·rcases h2 x d e with z | z
    ·exact .inl z
    ·rw [List.lookup_cons] at z
     split at z
     ·rename_i hx
      cases z
      have : x = n := eq_of_beq hx
      subst this
      exact .inl hc
     ·exact .inr z
   ·refine h3 x (if x == n then c else d) ?_
    rw [List.lookup_cons]
    cases hx : x == n with
    | true => simp [hx]
    | false => simp [hx, e]
   ·rcases List.mem_cons.mp hy with z | z
    ·subst z
     exact h3 n c (by simp [List.lookup_cons])
    ·exact h4 y z e
  ·have hb : (k == NameKind.free) = false := by simpa using hk
   obtain ⟨cl, h1, h2, h3, h4⟩ := closure_names r acc fun y hy => h y (List.mem_cons_of_mem _ hy)
   refine ⟨cl, ?_, h2, h3, fun y hy e => ?_⟩
   ·simp only [hb, Bool.false_eq_true, if_false, pure_bind]
    exact h1
   ·rcases List.mem_cons.mp hy with z | z
    ·subst z
     exact absurd e hk
    ·exact h4 y z e
theorem closure_ok {scope : Scope} {env : Env} (h : ∀ y ∈ scope.names, y.2 = .free -> ∃ c, env.cells.lookup y.1 = some c) :
  ∃ cl, closureFor scope env = pure cl /\ (∀ x c, cl.lookup x = some c -> env.cells.lookup x = some c) /\ ∀ y ∈ scope.names, y.2 = .free -> ∃ c, cl.lookup y.1 = some c := by
 obtain ⟨cl, h1, h2, h3, h4⟩ := closure_names scope.names [] h
 refine ⟨cl, ?_, fun x c e => (h2 x c e).elim id fun z => (by cases z), h4⟩
 unfold closureFor
 refine Eq.trans ?_ h1
 refine Eq.trans (bind_pure _) ?_
 rfl
theorem lookup_relabel_free {env : Env} : ∀ {names : List (Str × NameKind)} {x : Str}, names.lookup x = some .free ->
  (names.map fun (n, k) => if (k == NameKind.free && env.scope.kind == .function && env.kindOf n == some .cell) then (n, NameKind.cell) else (n, k)).lookup x = some .cell \/
  (names.map fun (n, k) => if (k == NameKind.free && env.scope.kind == .function && env.kindOf n == some .cell) then (n, NameKind.cell) else (n, k)).lookup x = some .free
 | [], _, h => by simp at h
 | (n, k) :: r, x, h => by
  have ih := @lookup_relabel_free env r x
  show List.lookup x ((if (k == NameKind.free && env.scope.kind == .function && env.kindOf n == some .cell) = true then (n, NameKind.cell) else (n, k)) :: _) = _ \/ List.lookup x ((if (k == NameKind.free && env.scope.kind == .function && env.kindOf n == some .cell) = true then (n, NameKind.cell) else (n, k)) :: _) = _
  by_cases hc : (k == NameKind.free && env.scope.kind == .function && env.kindOf n == some .cell) = true
  ·rw [if_pos hc]
   cases hx : x == n with
   | true => simp only [List.lookup_cons, hx]; exact .inl trivial
   | false =>
    simp only [List.lookup_cons, hx] at h ⊢
    exact ih h
  ·rw [if_neg hc]
   cases hx : x == n with
   | true =>
    simp only [List.lookup_cons, hx] at h ⊢
    exact .inr h
   | false =>
    simp only [List.lookup_cons, hx] at h ⊢
    exact ih h
theorem mem_relabel {env : Env} {names : List (Str × NameKind)} (hn : ∀ y ∈ names, y.2 ≠ .cell) {x : Str} {k : NameKind} (hk : k = .cell \/ k = .free)
  (h : (names.map fun (n, k) => if (k == NameKind.free && env.scope.kind == .function && env.kindOf n == some .cell) then (n, NameKind.cell) else (n, k)).lookup x = some k) : (x, NameKind.free) ∈ names := by
 obtain ⟨⟨n, k'⟩, hm, e⟩ := List.mem_map.mp (PySem.mem_of_lookup h)
 simp only at e
 split at e
 ·rename_i hc
  rw [Bool.and_eq_true, Bool.and_eq_true] at hc
  have : k' = .free := eq_of_beq hc.1.1
  subst this
  injection e with e1 _
  subst e1
  exact hm
 ·injection e with e1 e2
  subst e1 e2
  rcases hk with z | z
  ·exact absurd z (hn _ hm)
  ·subst z; exact hm
def cxComp (X : Cx) (N : List Str) (scope : Scope) (cl : List (Str × Addr)) (C : Addr) (fp : List Addr) (s : Shared) (H : Hp) : Cx where
 prog := X.prog
 w := X.w
 K := X.K
 mg := X.mg
 base := X.base
 A := X.A
 N := N
 s₀ := s
 H₀ := H
 env := compEnvC scope cl C X.env
 outer := X.stack
 stack := X.stack
 ex := fp
 fn := fun _ => false
 calm := X.calm
 pn := []
 xe := fun _ _ => False
structure CompScope (sc : Scope) (XN N : List Str) (own : Nat) (fr : List Nat) (scope : Scope) : Prop where
 kind : scope.kind = .function
 nocell : ∀ y ∈ scope.names, y.2 ≠ .cell
 free : ∀ y ∈ scope.names, y.2 = .free -> sc.names.lookup y.1 = some .cell \/ sc.names.lookup y.1 = some .free
 loc : ∀ y ∈ scope.names, y.2 = .local -> scope.names.lookup y.1 = some .local
 names : N.drop own = fr.filterMap fun i => XN[i]?
 frl : ∀ i ∈ fr, i < XN.length
 len : own <= N.length
 vis : ∀ x ∈ N.drop own, scope.names.lookup x = some .free
def σf (fr : List Nat) (σ : St) : St := fr.map fun i => σ.getD i none
def σc (own : Nat) (fr : List Nat) (σ : St) : St := List.replicate own none ++ σf fr σ
section
variable {X : Cx} {pins : List (Addr × Obj)} {σ : St} {H : Hp} {s : Shared} {N : List Str} {own : Nat} {fr : List Nat} {scope : Scope}
theorem filterMap_all {XN : List Str} : ∀ {fr : List Nat}, (∀ i ∈ fr, i < XN.length) -> ∀ (j : Nat), (fr.filterMap fun i => XN[i]?)[j]? = (fr[j]?).bind fun i => XN[i]?
 | [], _, j => by simp
 | i :: r, h, j => by
  have hi : i < XN.length := h i List.mem_cons_self
  rw [List.filterMap_cons, List.getElem?_eq_getElem hi]
  cases j with
  | zero => simp [hi]
  | succ j => simpa using filterMap_all (fun k hk => h k (List.mem_cons_of_mem _ hk)) j
theorem inv_comp {cl : List (Str × Addr)} {fp : List Addr} {h' : Heap} (I : Inv X pins σ H s) (S : CompScope X.env.scope X.N N own fr scope) (hcl : ∀ x c, cl.lookup x = some c -> X.env.cells.lookup x = some c)
  (hcf : ∀ y ∈ scope.names, y.2 = .free -> ∃ c, cl.lookup y.1 = some c) (hfp : ∀ b ∈ fp, FpOk X pins H b) (hfo : ∀ b ∈ fp, ∃ o, s.heap.get? b = some o)
  (hns : h'.Ns s.heap.objs.size fun _ => none) (hk : ∀ b o, s.heap.get? b = some o -> h'.get? b = some o) :
  Inv (cxComp X N scope cl s.heap.objs.size fp s H) [] (σc own fr σ) H { s with heap := h' } := by
 have kindE : ∀ x, (Env.kindOf (compEnvC scope cl s.heap.objs.size X.env) x) = (relabel scope X.env).names.lookup x := fun x => rfl
 have memF : ∀ x, (Env.kindOf (compEnvC scope cl s.heap.objs.size X.env) x = some .cell \/ Env.kindOf (compEnvC scope cl s.heap.objs.size X.env) x = some .free) -> (x, NameKind.free) ∈ scope.names := fun x hx => by
  rcases hx with z | z
  ·exact mem_relabel (env := X.env) S.nocell (.inl rfl) z
  ·exact mem_relabel (env := X.env) S.nocell (.inr rfl) z
 refine ⟨⟨I.ok.mod, S.kind, I.ok.glob, I.ok.blt, Nat.le_refl _, fun x y c h1 h2 => I.ok.inj x y c (hcl x c h1) (hcl y c h2), fun x hx => hcf (x, .free) (memF x hx) rfl, fun x c h => absurd (show false = true from h) (by decide), I.ok.hd, I.ok.frames, .inl rfl, fun b hb => ?_, I.bs, Nat.le_trans I.ok.bsz I.sz, fun b o e hb => ?_, fun b hb z => ?_, I.stack, I.stkFree⟩,
  rfl, I.bare, Un.kept hk, ⟨_, hns, fun i x v e1 e2 e3 => ?_⟩, fun x c e => ?_, I.hok.fresh (Nat.le_refl _), fun x c e => I.freeC x c (hcl x c e), fun p hp => absurd (show p ∈ ([] : List (Addr × Obj)) from hp) (by simp), I.hok.kept hk, ?_⟩
 ·obtain ⟨o, ho⟩ := hfo b hb
  exact ⟨Nat.ne_of_lt (Heap.lt_size ho), fun x c e => (hfp b hb).2.2.2.2.1 x c (hcl x c e)⟩
 ·rcases (hfp b hb).2.2.2.1 with z | z
  ·exact I.ok.noex b o e z
  ·exact absurd (Nat.lt_of_lt_of_le (Heap.lt_size (I.ok.bs b o e).1) z) (Nat.lt_irrefl _)
 ·rcases List.mem_cons.mp (I.stkSub b z) with q | q
  ·exact (hfp b hb).2.1 q
  ·exact (hfp b hb).2.2.1 q
 ·have hi : own <= i := by
   rcases Nat.lt_or_ge i own with z | z
   ·have e2' : (σc own fr σ)[i]? = some (some v) := e2
    unfold σc at e2'
    rw [List.getElem?_append_left (by simpa using z), List.getElem?_replicate] at e2'
    split at e2' <;> cases e2'
   ·exact z
  have e2' : (σf fr σ)[i - own]? = some (some v) := by
   have e2' : (σc own fr σ)[i]? = some (some v) := e2
   unfold σc at e2'
   rw [List.getElem?_append_right (by simpa using hi)] at e2'
   simpa using e2'
  have e1' : (N.drop own)[i - own]? = some x := by
   have e1' : N[i]? = some x := e1
   rw [List.getElem?_drop]
   rw [show own + (i - own) = i by omega]
   exact e1'
  have hv : scope.names.lookup x = some .free := S.vis x (List.mem_of_getElem? e1')
  have hx : X.env.scope.names.lookup x = some .cell \/ X.env.scope.names.lookup x = some .free := S.free (x, .free) (PySem.mem_of_lookup hv) rfl
  rw [S.names, filterMap_all S.frl] at e1'
  unfold σf at e2'
  rw [List.getElem?_map] at e2'
  cases q : fr[i - own]? with
  | none => rw [q] at e2'; cases e2'
  | some j =>
   rw [q] at e1' e2'
   have e1'' : X.N[j]? = some x := e1'
   have e2'' : σ.getD j none = some v := Option.some.inj e2'
   have e3' : σ[j]? = some (some v) := by
    rw [List.getD_eq_getElem?_getD] at e2''
    cases z : σ[j]? with
    | none => rw [z] at e2''; cases e2''
    | some y => rw [z] at e2''; exact congrArg some e2''
   obtain ⟨m, hn, hl⟩ := I.loc
   obtain ⟨u, r, l⟩ := hl j x v e1'' e3' (.inr hx)
   refine ⟨u, r, .inr ⟨lookup_relabel_free (env := X.env) hv, ?_⟩⟩
   rcases l with ⟨k, _⟩ | ⟨_, c, hc, z⟩
   ·have k' : X.env.scope.names.lookup x = some .local := k
    rw [k'] at hx
    rcases hx with z | z <;> cases z
   ·obtain ⟨c', hc'⟩ := hcf (x, .free) (PySem.mem_of_lookup hv) rfl
    have := hcl x c' hc'
    rw [hc] at this
    cases this
    exact ⟨c, hc', z.keeps hk⟩
 ·obtain ⟨v, z⟩ := I.cell x c (hcl x c e)
  exact ⟨v, z.keeps hk⟩
 ·show (σc own fr σ).length = N.length
  unfold σc σf
  have h1 := congrArg List.length S.names
  have h2 : (fr.filterMap fun i => X.N[i]?).length = fr.length := by
   have : ∀ (l : List Nat), (∀ i ∈ l, i < X.N.length) -> (l.filterMap fun i => X.N[i]?).length = l.length := by
    intro l
    induction l with
    | nil => intro _; rfl
    | cons i r ih =>
     intro h
     rw [List.filterMap_cons, List.getElem?_eq_getElem (h i List.mem_cons_self)]
     simp [ih fun k hk => h k (List.mem_cons_of_mem _ hk)]
   exact this fr S.frl
  rw [List.length_drop, h2] at h1
  rw [List.length_append, List.length_replicate, List.length_map]
  have := S.len
  omega
end
section
variable {prog : Program} {w : World} {A : Around} {R : Result -> Shared -> Prop} {s : Shared}
theorem compLoop_any {elt target iter : Expr} {ifs : List Expr} {scope : Scope} {pos : Pos} {it acc : Value} {env : Env} (I : Nat -> Shared -> Prop)
  (turn : ∀ n s, I n s -> wpAny (model prog w) A (pyNext it) (fun r s₁ => match r with
   | none => R (.ok .next) s₁
   | some v => wpAny (model prog w) A (letOwnedTupleGo target it v) (fun _ s' => wpAny (model prog w) A (assign target env v) (fun _ s₂ =>
     wpAny (model prog w) A (forIn ifs true fun c r => if r = true then do let ok <- isTrue c env (eval c env); pure (ForInStep.yield ok) else pure (ForInStep.yield r)) (fun ok s₃ =>
      if ok = true then wpAny (model prog w) A (eval elt env) (fun x s₄ =>
       wpAny (model prog w) A (call (.builtin "list.append") [acc, x]) (fun _ s₅ => ∃ m, m < n /\ I m s₅) (fun _ _ => False) s₄) (fun _ _ => False) s₃
      else ∃ m, m < n /\ I m s₃) (fun _ _ => False) s₂) (fun _ _ => False) s') (fun _ _ => False) s₁) (fun _ _ => False) s)
  (n : Nat) (h : I n s) : codeAny (model prog w) A (.compLoop (.ListComp elt [⟨target, iter, ifs, 0⟩] scope pos) 0 it acc env) R s := by
 refine codeAny_loop rfl I (fun n s hI => ?_) n h
 show wpAny _ A ((compTurn (.ListComp elt [⟨target, iter, ifs, 0⟩] scope pos) 0 it acc env).onRaise (fun x => do noteFrame x env; theTreesLotGoes x)) _ _ s
 refine wpAny_noted ?_
 rw [compTurn_list]
 refine wpAny_bind (wpAny_standAt (wpAny_bind (wpAny_mono (turn n s hI) (fun r s₁ h₁ => ?_) fun _ _ z => False.elim z)))
 cases r with
 | none => exact wpAny_pure h₁
 | some v =>
  refine wpAny_bind (wpAny_mono h₁ (fun _ s' h' => ?_) fun _ _ z => False.elim z)
  refine wpAny_bind (wpAny_mono h' (fun _ s₂ h₂ => wpAny_bind (wpAny_mono h₂ (fun ok s₃ h₃ => ?_) fun _ _ z => False.elim z)) fun _ _ z => False.elim z)
  cases ok with
  | false => exact wpAny_pure ⟨rfl, h₃⟩
  | true =>
   exact wpAny_bind (wpAny_bind (wpAny_mono h₃ (fun x s₄ h₄ => wpAny_bind (wpAny_mono h₄ (fun _ s₅ h₅ => wpAny_pure (wpAny_pure ⟨rfl, h₅⟩)) fun _ _ z => False.elim z)) fun _ _ z => False.elim z))
end
def CompW (J : It) (a : Addr) (own : Nat) (fr : List Nat) (g : TG) (tf : TT) (te : TE) (σ : St) (H1 : Hp) (Q : VK) : Prop :=
 ∃ (n : Nat) (Pv : Nat -> List V -> Hp -> Prop), Pv 0 [] (upd H1 a (.lst [])) /\ ∀ i ys H2, i <= n -> H2 a = some (.lst ys) -> Pv i ys H2 ->
  (J.stop i H2 /\ Q (.ref a) H2) \/ (i < n /\ J.go i H2 /\ ∀ x H3, J.yld i H2 x H3 -> g x (σc own fr σ) H3 fun σ4 H4 => (∃ ow, ow.length = own /\ σ4 = ow ++ σf fr σ) /\ tf σ4 H4 fun b H5 =>
   if b = true then te σ4 H5 fun y H6 => H6 a = some (.lst ys) /\ ys.length < sizeLine /\ Pv (i + 1) (ys ++ [y]) (upd H6 a (.lst (ys ++ [y])))
   else H5 a = some (.lst ys) /\ Pv (i + 1) ys H5)
def PFs (X : Cx) (ifs : List Expr) (t : TT) : Prop :=
 ∀ (pins : List (Addr × Obj)) (s : Shared) (σ : St) (H : Hp) (Q : Bool -> Hp -> Prop), Inv X pins σ H s -> t σ H Q ->
  wpAny (model X.prog X.w) X.A (forIn ifs true fun c r => if r = true then do let ok <- isTrue c X.env (eval c X.env); pure (ForInStep.yield ok) else pure (ForInStep.yield r)) (TP X pins σ Q) X.xe s
def tNoIf : TT := fun _ H Q => Q true H
theorem pf_nil {X : Cx} : PFs X [] tNoIf := fun pins s σ H Q I h => wpAny_tests_nil ⟨H, I, h⟩
section
variable {X : Cx} {pins : List (Addr × Obj)} {σ : St} {H : Hp} {s : Shared} {N : List Str} {own : Nat} {fr : List Nat} {scope : Scope} {cl : List (Str × Addr)} {elt tg iter : Expr} {ifs : List Expr} {pos : Pos}
 {it : Addr} {fp : List Addr} {tn : Nat -> Heap -> Prop} {J : It} {g : TG} {tf : TT} {te : TE} {Q : VK} {E : Value -> Shared -> Prop}
theorem comp_block {RR : Value -> Addr -> Result -> Shared -> Prop} (hc : X.calm = true) (S : CompScope X.env.scope X.N N own fr scope) (hcl : ∀ x c, cl.lookup x = some c -> X.env.cells.lookup x = some c)
  (hcf : ∀ y ∈ scope.names, y.2 = .free -> ∃ c, cl.lookup y.1 = some c)
  (hg : ∀ C s H, PG (cxComp X N scope cl C fp s H) tg g) (hf : ∀ C s H, PFs (cxComp X N scope cl C fp s H) ifs tf) (he : ∀ C s H, PE (cxComp X N scope cl C fp s H) elt te)
  (I : Inv X pins σ H s) (T : Turn X.prog X.w X.K tg J fp it tn) (st : tn 0 s.heap) (hfp : ∀ b ∈ fp, FpOk X pins H b) (hw : ∀ a, H a = none -> CompW J a own fr g tf te σ H Q)
  (hRR : ∀ a C s' H', Inv X pins σ H' s' -> Q (.ref a) H' -> FpOk X pins H' C -> (∃ m, s'.heap.Ns C m) -> RR (.ref a) C (.ok .next) s') :
  wpAny (model X.prog X.w) X.A (newList []) (fun acc s₃ => wpAny (model X.prog X.w) X.A (newFunctionEnv scope X.env.globals cl [] X.env.qual none .none (some X.env)) (fun cenv s₄ =>
   codeAny (model X.prog X.w) X.A (.compStart (.ListComp elt [⟨tg, iter, ifs, 0⟩] scope pos) 0 (.ref it) acc { cenv with scope := relabel scope X.env }) (RR acc cenv.locals) s₄) E s₃) E s := by
 refine wpAny_newObj_type (wpAny_newFunctionEnv S.nocell (by intro y hy; simp at hy) (fun h₁ hns₁ hsb₁ => ?_) S.kind)
 dsimp only at hns₁ hsb₁ ⊢
 have I3 : Inv X pins σ (upd H s.heap.objs.size (.lst [])) { s with heap := s.heap.push { cls := .type "list", dict := none, data := .seq ([] : List Value).toArray } } := I.lnew (ys := []) (t' := s.toks) .nil (Nat.zero_le _)
 have hfo : ∀ b ∈ fp, ∃ o, s.heap.get? b = some o := fun b hb => let ⟨o, ho, _⟩ := T.obj _ _ st b hb; ⟨o, ho⟩
 have hlt : ∀ b ∈ fp, b < s.heap.objs.size := fun b hb => let ⟨o, ho⟩ := hfo b hb; Heap.lt_size ho
 have fp3 : ∀ b ∈ fp, FpOk X pins (upd H s.heap.objs.size (.lst [])) b := fun b hb => ⟨by rw [upd_ne (Nat.ne_of_lt (hlt b hb))]; exact (hfp b hb).1, (hfp b hb).2⟩
 obtain ⟨n0, W, w0, turn⟩ := hw s.heap.objs.size I.fresh
 generalize hs3 : ({ s with heap := s.heap.push { cls := .type "list", dict := none, data := .seq ([] : List Value).toArray } } : Shared) = s3 at I3
 have eh : s3.heap = s.heap.push { cls := .type "list", dict := none, data := .seq ([] : List Value).toArray } := by rw [<- hs3]
 rw [<- eh] at hns₁ hsb₁ ⊢
 have hk : ∀ b o, s3.heap.get? b = some o -> h₁.get? b = some o := fun b o e => hsb₁.extBut b o (Nat.ne_of_lt (Heap.lt_size e)) (Heap.get?_push_of_some _ e)
 have hk0 : ∀ b o, s.heap.get? b = some o -> s3.heap.get? b = some o := fun b o e => by rw [eh]; exact Heap.get?_push_of_some _ e
 have J0 : Inv (cxComp X N scope cl s3.heap.objs.size fp s3 (upd H s.heap.objs.size (.lst []))) [] (σc own fr σ) (upd H s.heap.objs.size (.lst [])) { s3 with heap := h₁ } :=
  inv_comp I3 S hcl hcf fp3 (fun b hb => let ⟨o, ho⟩ := hfo b hb; ⟨o, hk0 b o ho⟩) hns₁ hk
 have st0 : tn 0 h₁ := T.keep _ _ _ st fun b _ o e => hk b o (hk0 b o e)
 have stat : ∀ {H' : Hp}, (∀ b ∈ fp, H' b = none) -> ∀ b ∈ fp, FpOk (cxComp X N scope cl s3.heap.objs.size fp s3 (upd H s.heap.objs.size (.lst []))) [] H' b := fun hn b hb =>
  ⟨hn b hb, (J0.ok.exf b hb).1, J0.ok.exfs b hb, .inl hb, (J0.ok.exf b hb).2, fun p hp => absurd (show p ∈ ([] : List (Addr × Obj)) from hp) (by simp)⟩
 have loop : ∀ s4 : Shared, s4 = { s3 with heap := h₁ } -> codeAny (model X.prog X.w) X.A (.compLoop (.ListComp elt [⟨tg, iter, ifs, 0⟩] scope pos) 0 (.ref it) (.ref s.heap.objs.size) (compEnvC scope cl s3.heap.objs.size X.env))
   (RR (.ref s.heap.objs.size) s3.heap.objs.size) s4 := by
  rintro s4 rfl
  refine compLoop_any (fun n s' => ∃ i ow H' ys, Inv (cxComp X N scope cl s3.heap.objs.size fp s3 (upd H s.heap.objs.size (.lst []))) [] (ow ++ σf fr σ) H' s' /\ ow.length = own /\ tn i s'.heap /\ (∀ b ∈ fp, H' b = none) /\ H' s.heap.objs.size = some (.lst ys) /\ (n = n0 - i /\ i <= n0) /\ W i ys H') ?_ n0
   ⟨0, List.replicate own none, _, [], J0, by simp, st0, fun b hb => (fp3 b hb).1, upd_same, ⟨rfl, Nat.zero_le _⟩, w0⟩
  rintro n s5 ⟨i, ow, H5, ys, I5, hlo, st5, fr5, ha5, ⟨rfl, hi5⟩, w5⟩
  rcases turn i ys H5 hi5 ha5 w5 with ⟨stop, qn⟩ | ⟨hin, go, step⟩
  ·refine thn (T.done (cxComp X N scope cl s3.heap.objs.size fp s3 (upd H s.heap.objs.size (.lst []))) rfl rfl rfl hc i [] s5 _ H5 (fun _ _ => False) I5 (stat fr5) st5 stop) fun r s6 ⟨hr, I6⟩ => ?_
   subst hr
   have IX : Inv X pins σ H5 s6 := I3.call' I6.os I6.base I6.hok I6.bare fun b hb => let ⟨_, f2, _, f4, f5, f6⟩ := fp3 b hb; ⟨f4, f2, f5, f6⟩
   refine hRR _ _ s6 H5 IX qn (I3.fpOk (Nat.le_refl _) I6.free) ?_
   obtain ⟨m, hn, _⟩ := I6.loc
   exact ⟨m, hn⟩
  ·refine thn (T.item (cxComp X N scope cl s3.heap.objs.size fp s3 (upd H s.heap.objs.size (.lst []))) rfl rfl rfl hc i [] s5 _ H5 (fun _ _ => False) I5 (stat fr5) st5 go) fun r s6 ⟨u, hr, h6⟩ => ?_
   subst hr
   refine thn h6 fun _ s7 ⟨x, H7, I7, r7, y7, st7, fr7⟩ => ?_
   have I7' := (I7.pinned (stat fr7) (T.obj _ _ st7)).weak (σ' := σc own fr σ) (by unfold σc; simp [hlo]) (fun j v e => by
    unfold σc at e
    rcases Nat.lt_or_ge j own with z | z
    ·rw [List.getElem?_append_left (by simpa using z), List.getElem?_replicate] at e
     split at e <;> cases e
    ·rw [List.getElem?_append_right (by simpa using z)] at e
     rw [List.getElem?_append_right (by rw [hlo]; exact z), hlo]
     simpa using e)
   refine thn (hg _ _ _ _ s7 _ H7 x u _ I7' r7 (step x H7 y7)) fun _ s8 ⟨σ8, H8, I8, ⟨ow8, hl8, e8⟩, q8⟩ => ?_
   refine thn (hf _ _ _ _ s8 _ H8 _ I8 q8) fun ok s9 ⟨H9, I9, q9⟩ => ?_
   have again : ∀ {H' : Hp} {s' : Shared}, Inv (cxComp X N scope cl s3.heap.objs.size fp s3 (upd H s.heap.objs.size (.lst []))) ([] ++ pinsAt fp s7.heap) σ8 H' s' -> ∀ {ys' : List V}, H' s.heap.objs.size = some (.lst ys') -> W (i + 1) ys' H' ->
     ∃ m, m < n0 - i /\ ∃ i ow H' ys, Inv (cxComp X N scope cl s3.heap.objs.size fp s3 (upd H s.heap.objs.size (.lst []))) [] (ow ++ σf fr σ) H' s' /\ ow.length = own /\ tn i s'.heap /\ (∀ b ∈ fp, H' b = none) /\ H' s.heap.objs.size = some (.lst ys) /\ (m = n0 - i /\ i <= n0) /\ W i ys H' := fun {H' s'} I' {ys'} ha hw' => by
    refine ⟨n0 - (i + 1), by omega, i + 1, ow8, H', ys', e8 ▸ I'.unpinned, hl8, T.keep _ _ _ st7 fun b hb o e => (I'.pin (b, o) (List.mem_append_right _ (List.mem_append_right _ (mem_pinsAt hb e)))).1, fun b hb => ?_, ha, ⟨rfl, hin⟩, hw'⟩
    obtain ⟨o, e, _⟩ := T.obj _ _ st7 b hb
    exact (I'.pin (b, o) (List.mem_append_right _ (List.mem_append_right _ (mem_pinsAt hb e)))).2.1
   cases ok with
   | false =>
    have q9' : H9 s.heap.objs.size = some (.lst ys) /\ W (i + 1) ys H9 := by simpa using q9
    obtain ⟨ha, hw'⟩ := q9'
    show if false = true then _ else _
    rw [if_neg (by decide)]
    exact again I9 ha hw'
   | true =>
    rw [if_pos rfl] at q9
    show if true = true then _ else _
    rw [if_pos rfl]
    refine thn (he _ _ _ _ s9 _ H9 _ I9 q9) fun y s10 ⟨v10, H10, I10, r10, ha10, hz10, hw'⟩ => ?_
    refine thn (mt_append _ s10 _ H10 (.ref s.heap.objs.size) [v10] (.ref s.heap.objs.size) [y] (fun _ H' => H' = upd H10 s.heap.objs.size (.lst (ys ++ [v10]))) I10 rfl (.cons r10 .nil) ⟨_, ys, v10, rfl, rfl, ha10, hz10, rfl⟩) fun _ s11 ⟨_, H11, I11, _, e11⟩ => ?_
    subst e11
    exact again I11 upd_same hw'
 exact codeAny_compStart_list (loop _ (by rw [<- hs3]; rfl)) (T.self X.A 0 _ _ _ st0 (loop _ (by rw [<- hs3]; rfl)))
end
def tComp (own : Nat) (fr : List Nat) (wi : TI) (g : TG) (tf : TT) (te : TE) : TE := fun σ H Q => wi σ H fun J H1 => ∀ a, H1 a = none -> CompW J a own fr g tf te σ H1 Q
section
variable {X : Cx} {sc : Scope} {XN N : List Str} {own : Nat} {fr : List Nat} {scope : Scope} {elt tg iter : Expr} {ifs : List Expr} {pos : Pos} {wi : TI} {g : TG} {tf : TT} {te : TE}
theorem pe_comp (hc : X.calm = true) (S : CompScope sc XN N own fr scope) (hi : PI X tg iter wi)
  (hg : ∀ cl C fp s H, PG (cxComp X N scope cl C fp s H) tg g) (hf : ∀ cl C fp s H, PFs (cxComp X N scope cl C fp s H) ifs tf) (he : ∀ cl C fp s H, PE (cxComp X N scope cl C fp s H) elt te)
  (hs : ∀ x, foldedSetIterable iter X.env x = pure x := by intro _; rfl) (hsc : X.env.scope = sc := by rfl) (hxn : X.N = XN := by rfl) : PE X (.ListComp elt [⟨tg, iter, ifs, 0⟩] scope pos) (tComp own fr wi g tf te) := by
 subst hsc hxn
 intro pins s σ H Q I h
 obtain ⟨cl, c1, c2, c3⟩ := closure_ok (scope := scope) (env := X.env) fun y hy e => I.ok.has y.1 (S.free y hy e)
 rw [eval_ListComp]
 refine wpAny_comprehension_free (use := none) rfl hs c1 S.kind S.loc (thn (hi pins s σ H _ I h) fun xv s1 h1 => thn h1 fun itv s2 h2 => ?_)
 obtain ⟨it, fp, tn, J, H2, e, I2, T, st2, f2, hw⟩ := h2
 subst e
 refine comp_block hc S c2 c3 (fun C s H => hg cl C fp s H) (fun C s H => hf cl C fp s H) (fun C s H => he cl C fp s H) I2 T st2 f2 hw fun a C s' H' I' q fC ⟨m, hn⟩ => ?_
 refine ⟨m, hn, fun h' hs' => ?_⟩
 obtain ⟨f0, f1, _, f3, f4, f5⟩ := fC
 exact ⟨.ref a, H', I'.turned (t' := s'.toks) (fun b o hb e => hs'.extBut b o hb e) f0 f1 f3 f4 f5, rfl, q⟩
theorem ps_setc {i : Nat} {x : Str} {pos' spos : Pos} (hc : X.calm = true) (hN : X.N.Nodup) (hx : X.N[i]? = some x) (hl : Loc X.env.scope x) (S : CompScope sc XN N own fr scope) (hi : PI X tg iter wi)
  (hg : ∀ cl C fp s H, PG (cxComp X N scope cl C fp s H) tg g) (hf : ∀ cl C fp s H, PFs (cxComp X N scope cl C fp s H) ifs tf) (he : ∀ cl C fp s H, PE (cxComp X N scope cl C fp s H) elt te)
  (hsw : swapsWith (.ListComp elt [⟨tg, iter, ifs, 0⟩] scope pos) (some (.Name x pos')) spos.line X.env = pure true := by rfl)
  (hf' : X.fn x = true \/ X.env.scope.names.lookup x = some .local := by first | exact .inl rfl | exact .inr rfl | assumption)
  (hs : ∀ x, foldedSetIterable iter X.env x = pure x := by intro _; rfl) (hsc : X.env.scope = sc := by rfl) (hxn : X.N = XN := by rfl) : PS X (.Assign [.Name x pos'] (.ListComp elt [⟨tg, iter, ifs, 0⟩] scope pos) spos) (tAsg (tComp own fr wi g tf te) (gName i)) := by
 subst hsc hxn
 intro pins s σ H D I h
 obtain ⟨cl, c1, c2, c3⟩ := closure_ok (scope := scope) (env := X.env) fun y hy e => I.ok.has y.1 (S.free y hy e)
 rw [exec_Assign_Name_used _ _ _ _ hsw]
 refine wpAny_bind (wpAny_standAt (wpAny_bind ?_))
 show wpAny _ X.A (do let _ <- comprehension (.ListComp elt [⟨tg, iter, ifs, 0⟩] scope pos) scope X.env _ (newList []) false (eval iter X.env) (some (assign (.Name x pos') X.env))) _ _ s
 refine wpAny_bind (wpAny_mono (wpAny_comprehension_free (use := some (assign (.Name x pos') X.env)) (Q := fun _ s' => SP X pins D .next s') rfl hs c1 S.kind S.loc
  (thn (hi pins s σ H _ I h) fun xv s1 h1 => thn h1 fun itv s2 h2 => ?_)) (fun _ s' hq => wpAny_pure (wpAny_pure hq)) fun _ _ e => e)
 obtain ⟨it, fp, tn, J, H2, e, I2, T, st2, f2, hw⟩ := h2
 subst e
 refine comp_block hc S c2 c3 (fun C s H => hg cl C fp s H) (fun C s H => hf cl C fp s H) (fun C s H => he cl C fp s H) I2 T st2 f2 hw fun a C s' H' I' q fC ⟨m, hn⟩ => ?_
 obtain ⟨f0, f1, f2', f3, f4, f5⟩ := fC
 show wpAny _ _ (assign (.Name x pos') X.env (.ref a)) _ _ _
 refine wpAny_assign_Name (store_ok2 I' hN hx hl (show RelV (.ref a) (.ref a) from rfl) (fun s2 J2 ⟨b, hb, hb'⟩ => ?_) hf')
 have hbC : C ≠ b := by
  rcases hb' with z | z
  ·rw [z]; exact f1
  ·exact fun e => f4 _ _ z e.symm
 refine ⟨m, hn.sameBut hb hbC, fun h' hs' => ?_⟩
 exact ⟨_, H', J2.turned (t' := s2.toks) (fun b o hb e => hs'.extBut b o hb e) f0 f1 f3 f4 f5, q⟩
end
end L2
namespace L2
open PySem PySem.Spec PyProof.Rows
section
variable {X : Cx}
def TyV (K : PySem.W.Frag) (T : String) (x : V) (H : Hp) (b : Bool) : Prop := match x with
 | .non => b = false
 | .bl _ => b = (T == "bool" || T == "int")
 | .int _ => b = (T == "int")
 | .str _ => b = (T == "str")
 | .ref a => (∃ xs, SqL K H a xs /\ b = (T == "list")) \/ (∃ xs, SqT K H a xs /\ b = (T == "tuple")) \/ (∃ kvs, Rd H a (.dK kvs) /\ b = (T == "dict"))
 | _ => False
theorem isi_none {prog : Program} {w : World} {A : Around} {E : Value -> Shared -> Prop} {s : Shared} {Q : Value -> Shared -> Prop} {T : String} (hne : (Value.type "NoneType" == Value.type T) = false) (hty : typeOf (.type T) = pure (.type "type"))
  (hsub : isSubtype (.type "NoneType") (.type T) = pure false) (h : Q (.bool false) { s with toks := s.toks + 1 }) : wpAny (model prog w) A (call (.builtin "isinstance") [.none, .type T]) Q E s :=
 call_isinstance (S := fun _ R s => R (.ok (.ret (.bool false))) { s with toks := s.toks + 1 }) (fun _ _ _ _ s hs => by
  obtain ⟨h, g, d, t, os⟩ := s
  exact isinstance_outer (isinstance_nested_false_none hne hty hsub hs)) h
theorem Inv.lcls {pins : List (Addr × Obj)} {σ : St} {H : Hp} {s : Shared} {a : Addr} {xs : List V} (I : Inv X pins σ H s) (h : SqL X.K H a xs) : ∃ o, s.heap.get? a = some o /\ o.cls = .type "list" := by
 obtain ⟨its, r, pl, hz⟩ := I.list h
 obtain ⟨o, ho, hc, _⟩ := pl.isList
 exact ⟨o, ho, hc⟩
theorem Inv.tcls {pins : List (Addr × Obj)} {σ : St} {H : Hp} {s : Shared} {a : Addr} {xs : List V} (I : Inv X pins σ H s) (h : SqT X.K H a xs) : ∃ o, s.heap.get? a = some o /\ o.cls = .type "tuple" := by
 obtain ⟨its, r, ⟨o, ho, hc, _⟩, hz⟩ := I.tuple h
 exact ⟨o, ho, hc⟩
theorem Inv.dcls {pins : List (Addr × Obj)} {σ : St} {H : Hp} {s : Shared} {a : Addr} {kvs : List (Key × V)} (I : Inv X pins σ H s) (h : Rd H a (.dK kvs)) : ∃ o, s.heap.get? a = some o /\ o.cls = .type "dict" := by
 obtain ⟨_, _, vs, _, dd⟩ := h.ok I.hok
 obtain ⟨o, ho, hc⟩ := dd.typeIs
 exact ⟨o, ho, hc⟩
theorem call_isi_int : CallR X (.builtin "isinstance") (fun xs H Q => ∃ x b, xs = [x, .ty "int"] /\ TyV X.K "int" x H b /\ Q (.bl b) H) := by
 intro pins s σ H xs us Q I r h
 obtain ⟨x, b, rfl, hx, q⟩ := h
 obtain ⟨u, w', rfl, rx, ry⟩ := vals2 r
 cases ry
 cases x with
 | non => cases rx; cases hx; exact isi_none (by decide +kernel) F.isi_meta_int F.sub_NoneType_int ⟨.bl _, H, I.tok _, rfl, q⟩
 | bl k => cases rx; cases hx; exact IsiPair.bool_int ⟨.bl _, H, I, rfl, q⟩
 | int i => obtain ⟨t, rfl⟩ := rx; cases hx; exact IsiPair.int_int ⟨.bl _, H, I, rfl, q⟩
 | str i => obtain ⟨t, rfl⟩ := rx; cases hx; exact IsiPair.str_int ⟨.bl _, H, I.tok _, rfl, q⟩
 | ref a =>
  cases rx
  rcases hx with ⟨xs, hx, rfl⟩ | ⟨xs, hx, rfl⟩ | ⟨xs, hx, rfl⟩
  ·obtain ⟨o, ho, hc⟩ := I.lcls hx; exact IsiPair.list_int ho hc ⟨.bl _, H, I.tok _, rfl, q⟩
  ·obtain ⟨o, ho, hc⟩ := I.tcls hx; exact IsiPair.tuple_int ho hc ⟨.bl _, H, I.tok _, rfl, q⟩
  ·obtain ⟨o, ho, hc⟩ := I.dcls hx; exact IsiPair.dict_int ho hc ⟨.bl _, H, I.tok _, rfl, q⟩
 | _ => exact False.elim hx
theorem call_isi_bool : CallR X (.builtin "isinstance") (fun xs H Q => ∃ x b, xs = [x, .ty "bool"] /\ TyV X.K "bool" x H b /\ Q (.bl b) H) := by
 intro pins s σ H xs us Q I r h
 obtain ⟨x, b, rfl, hx, q⟩ := h
 obtain ⟨u, w', rfl, rx, ry⟩ := vals2 r
 cases ry
 cases x with
 | non => cases rx; cases hx; exact isi_none (by decide +kernel) F.isi_meta_bool F.sub_NoneType_bool ⟨.bl _, H, I.tok _, rfl, q⟩
 | bl k => cases rx; cases hx; exact IsiPair.bool_bool ⟨.bl _, H, I, rfl, q⟩
 | int i => obtain ⟨t, rfl⟩ := rx; cases hx; exact IsiPair.int_bool ⟨.bl _, H, I.tok _, rfl, q⟩
 | str i => obtain ⟨t, rfl⟩ := rx; cases hx; exact IsiPair.str_bool ⟨.bl _, H, I.tok _, rfl, q⟩
 | ref a =>
  cases rx
  rcases hx with ⟨xs, hx, rfl⟩ | ⟨xs, hx, rfl⟩ | ⟨xs, hx, rfl⟩
  ·obtain ⟨o, ho, hc⟩ := I.lcls hx; exact IsiPair.list_bool ho hc ⟨.bl _, H, I.tok _, rfl, q⟩
  ·obtain ⟨o, ho, hc⟩ := I.tcls hx; exact IsiPair.tuple_bool ho hc ⟨.bl _, H, I.tok _, rfl, q⟩
  ·obtain ⟨o, ho, hc⟩ := I.dcls hx; exact IsiPair.dict_bool ho hc ⟨.bl _, H, I.tok _, rfl, q⟩
 | _ => exact False.elim hx
theorem call_isi_str : CallR X (.builtin "isinstance") (fun xs H Q => ∃ x b, xs = [x, .ty "str"] /\ TyV X.K "str" x H b /\ Q (.bl b) H) := by
 intro pins s σ H xs us Q I r h
 obtain ⟨x, b, rfl, hx, q⟩ := h
 obtain ⟨u, w', rfl, rx, ry⟩ := vals2 r
 cases ry
 cases x with
 | non => cases rx; cases hx; exact isi_none (by decide +kernel) F.isi_meta_str F.sub_NoneType_str ⟨.bl _, H, I.tok _, rfl, q⟩
 | bl k => cases rx; cases hx; exact IsiPair.bool_str ⟨.bl _, H, I.tok _, rfl, q⟩
 | int i => obtain ⟨t, rfl⟩ := rx; cases hx; exact IsiPair.int_str ⟨.bl _, H, I.tok _, rfl, q⟩
 | str i => obtain ⟨t, rfl⟩ := rx; cases hx; exact IsiPair.str_str ⟨.bl _, H, I, rfl, q⟩
 | ref a =>
  cases rx
  rcases hx with ⟨xs, hx, rfl⟩ | ⟨xs, hx, rfl⟩ | ⟨xs, hx, rfl⟩
  ·obtain ⟨o, ho, hc⟩ := I.lcls hx; exact IsiPair.list_str ho hc ⟨.bl _, H, I.tok _, rfl, q⟩
  ·obtain ⟨o, ho, hc⟩ := I.tcls hx; exact IsiPair.tuple_str ho hc ⟨.bl _, H, I.tok _, rfl, q⟩
  ·obtain ⟨o, ho, hc⟩ := I.dcls hx; exact IsiPair.dict_str ho hc ⟨.bl _, H, I.tok _, rfl, q⟩
 | _ => exact False.elim hx
theorem call_isi_list : CallR X (.builtin "isinstance") (fun xs H Q => ∃ x b, xs = [x, .ty "list"] /\ TyV X.K "list" x H b /\ Q (.bl b) H) := by
 intro pins s σ H xs us Q I r h
 obtain ⟨x, b, rfl, hx, q⟩ := h
 obtain ⟨u, w', rfl, rx, ry⟩ := vals2 r
 cases ry
 cases x with
 | non => cases rx; cases hx; exact isi_none (by decide +kernel) F.isi_meta_list F.sub_NoneType_list ⟨.bl _, H, I.tok _, rfl, q⟩
 | bl k => cases rx; cases hx; exact IsiPair.bool_list ⟨.bl _, H, I.tok _, rfl, q⟩
 | int i => obtain ⟨t, rfl⟩ := rx; cases hx; exact IsiPair.int_list ⟨.bl _, H, I.tok _, rfl, q⟩
 | str i => obtain ⟨t, rfl⟩ := rx; cases hx; exact IsiPair.str_list ⟨.bl _, H, I.tok _, rfl, q⟩
 | ref a =>
  cases rx
  rcases hx with ⟨xs, hx, rfl⟩ | ⟨xs, hx, rfl⟩ | ⟨xs, hx, rfl⟩
  ·obtain ⟨o, ho, hc⟩ := I.lcls hx; exact IsiPair.list_list ho hc ⟨.bl _, H, I, rfl, q⟩
  ·obtain ⟨o, ho, hc⟩ := I.tcls hx; exact IsiPair.tuple_list ho hc ⟨.bl _, H, I.tok _, rfl, q⟩
  ·obtain ⟨o, ho, hc⟩ := I.dcls hx; exact IsiPair.dict_list ho hc ⟨.bl _, H, I.tok _, rfl, q⟩
 | _ => exact False.elim hx
theorem call_isi_tuple : CallR X (.builtin "isinstance") (fun xs H Q => ∃ x b, xs = [x, .ty "tuple"] /\ TyV X.K "tuple" x H b /\ Q (.bl b) H) := by
 intro pins s σ H xs us Q I r h
 obtain ⟨x, b, rfl, hx, q⟩ := h
 obtain ⟨u, w', rfl, rx, ry⟩ := vals2 r
 cases ry
 cases x with
 | non => cases rx; cases hx; exact isi_none (by decide +kernel) F.isi_meta_tuple F.sub_NoneType_tuple ⟨.bl _, H, I.tok _, rfl, q⟩
 | bl k => cases rx; cases hx; exact IsiPair.bool_tuple ⟨.bl _, H, I.tok _, rfl, q⟩
 | int i => obtain ⟨t, rfl⟩ := rx; cases hx; exact IsiPair.int_tuple ⟨.bl _, H, I.tok _, rfl, q⟩
 | str i => obtain ⟨t, rfl⟩ := rx; cases hx; exact IsiPair.str_tuple ⟨.bl _, H, I.tok _, rfl, q⟩
 | ref a =>
  cases rx
  rcases hx with ⟨xs, hx, rfl⟩ | ⟨xs, hx, rfl⟩ | ⟨xs, hx, rfl⟩
  ·obtain ⟨o, ho, hc⟩ := I.lcls hx; exact IsiPair.list_tuple ho hc ⟨.bl _, H, I.tok _, rfl, q⟩
  ·obtain ⟨o, ho, hc⟩ := I.tcls hx; exact IsiPair.tuple_tuple ho hc ⟨.bl _, H, I, rfl, q⟩
  ·obtain ⟨o, ho, hc⟩ := I.dcls hx; exact IsiPair.dict_tuple ho hc ⟨.bl _, H, I.tok _, rfl, q⟩
 | _ => exact False.elim hx
theorem call_isi_dict : CallR X (.builtin "isinstance") (fun xs H Q => ∃ x b, xs = [x, .ty "dict"] /\ TyV X.K "dict" x H b /\ Q (.bl b) H) := by
 intro pins s σ H xs us Q I r h
 obtain ⟨x, b, rfl, hx, q⟩ := h
 obtain ⟨u, w', rfl, rx, ry⟩ := vals2 r
 cases ry
 cases x with
 | non => cases rx; cases hx; exact isi_none (by decide +kernel) F.isi_meta_dict F.sub_NoneType_dict ⟨.bl _, H, I.tok _, rfl, q⟩
 | bl k => cases rx; cases hx; exact IsiPair.bool_dict ⟨.bl _, H, I.tok _, rfl, q⟩
 | int i => obtain ⟨t, rfl⟩ := rx; cases hx; exact IsiPair.int_dict ⟨.bl _, H, I.tok _, rfl, q⟩
 | str i => obtain ⟨t, rfl⟩ := rx; cases hx; exact IsiPair.str_dict ⟨.bl _, H, I.tok _, rfl, q⟩
 | ref a =>
  cases rx
  rcases hx with ⟨xs, hx, rfl⟩ | ⟨xs, hx, rfl⟩ | ⟨xs, hx, rfl⟩
  ·obtain ⟨o, ho, hc⟩ := I.lcls hx; exact IsiPair.list_dict ho hc ⟨.bl _, H, I.tok _, rfl, q⟩
  ·obtain ⟨o, ho, hc⟩ := I.tcls hx; exact IsiPair.tuple_dict ho hc ⟨.bl _, H, I.tok _, rfl, q⟩
  ·obtain ⟨o, ho, hc⟩ := I.dcls hx; exact IsiPair.dict_dict ho hc ⟨.bl _, H, I, rfl, q⟩
 | _ => exact False.elim hx
theorem call_sumL (hc : X.calm = true) : CallR X (.builtin "sum") (fun xs H Q => ∃ (p : Addr) (ns : List Int), xs = [.ref p] /\ SqL X.K H p (ns.map V.int) /\ Q (.int ns.sum) H) := by
 intro pins s σ H xs us Q I r h
 obtain ⟨p, ns, rfl, hq, q⟩ := h
 obtain ⟨u, rfl, rx⟩ := vals1 r
 cases rx
 obtain ⟨its, rv, pl, hz⟩ := I.list hq
 have hi : IntsAre its ns := intsAre_of rv
 have hall := hi.allInts
 have e0 := hi.numsOf
 obtain ⟨xs, ex⟩ := hall.items
 have e1 : numsOf (intItems xs).toList = ns := by rw [<- ex]; exact e0
 rw [nums_intItems] at e1
 have hl := pl.isList
 rw [ex] at hl
 refine sum_intListG (I.ok.hd hc) hl fun h' tk t' hk => ⟨.int ns.sum, H, I.kept hk, ⟨t', ?_⟩, q⟩
 rw [preSum_eq, List.take_of_length_le (by simp), e1]
theorem truth_bools {prog : Program} {w : World} {A : Around} {bs : List Bool} {its : List Value} (rv : Vals (bs.map V.bl) its) : TruthOf prog w A (fun i v => its.toArray[i]? = some v) fun i => bs.getD i false := by
 intro i v s Q E hP hQ
 have hi : its[i]? = some v := by simpa using hP
 have hl := rv.length
 rw [List.length_map] at hl
 have hlt : i < bs.length := by rw [hl]; exact (List.getElem?_eq_some_iff.mp hi).1
 obtain ⟨u, hu, ru⟩ := rv.get (i := i) (x := V.bl (bs.getD i false)) (by rw [List.getElem?_map, List.getD_eq_getElem?_getD, List.getElem?_eq_getElem hlt]; rfl)
 rw [hi] at hu
 cases hu
 cases ru
 exact wpAny_truthy_bool hQ
theorem range_all (bs : List Bool) : (List.range bs.length).all (fun i => bs.getD i false) = bs.all id := by
 induction bs with
 | nil => rfl
 | cons b r ih =>
  rw [List.length_cons, List.range_succ_eq_map, List.all_cons, List.all_cons, List.all_map]
  rw [<- ih]
  rfl
theorem call_allL (hc : X.calm = true) : CallR X (.builtin "all") (fun xs H Q => ∃ (p : Addr) (bs : List Bool), xs = [.ref p] /\ SqL X.K H p (bs.map V.bl) /\ Q (.bl (bs.all id)) H) := by
 intro pins s σ H xs us Q I r h
 obtain ⟨p, bs, rfl, hq, q⟩ := h
 obtain ⟨u, rfl, rx⟩ := vals1 r
 cases rx
 obtain ⟨its, rv, pl, hz⟩ := I.list hq
 have hlt : p < s.heap.objs.size := by obtain ⟨_, e, _⟩ := pl.isList; exact Heap.lt_size e
 have hll := rv.length
 rw [List.length_map] at hll
 refine call_all_walk (wpAny_pyIter_list pl.isList ?_)
 refine ⟨s.heap.objs.size, _, _, _, _, _, fun i => bs.getD i false, rfl, Walks.list (A := X.A.in1) (I.ok.hd hc) _ p (Nat.ne_of_lt hlt) its.toArray, ⟨⟨_, Heap.get?_push_size _ rfl, rfl, rfl⟩, pl.isList.at fun o e => Heap.get?_push_of_some _ e⟩, truth_bools rv, fun h' tk hk => ?_⟩
 refine ⟨.bl (bs.all id), H, I.kept fun b o e => hk b o (by simpa using Nat.ne_of_lt (Heap.lt_size e)) (Heap.get?_push_of_some _ e), ?_, q⟩
 show Value.bool _ = Value.bool _
 rw [List.size_toArray, <- hll, range_all]
def eqVs : List V -> List V -> Bool
 | [], [] => true
 | x :: xs, y :: ys => eqV x y && eqVs xs ys
 | _, _ => false
theorem eqVs_len : ∀ {xs ys : List V}, xs.length ≠ ys.length -> eqVs xs ys = false
 | [], [], h => absurd rfl h
 | [], _ :: _, _ => rfl
 | _ :: _, [], _ => rfl
 | x :: xs, y :: ys, h => by
  have := eqVs_len (xs := xs) (ys := ys) (fun e => h (by simp [e]))
  simp [eqVs, this]
theorem eqVs_range : ∀ {xs ys : List V}, xs.length = ys.length -> (List.range xs.length).all (fun i => eqV (xs.getD i .non) (ys.getD i .non)) = eqVs xs ys
 | [], [], _ => rfl
 | [], _ :: _, h => by simp at h
 | _ :: _, [], h => by simp at h
 | x :: xs, y :: ys, h => by
  have ih := eqVs_range (xs := xs) (ys := ys) (by simpa using h)
  rw [List.length_cons, List.range_succ_eq_map, List.all_cons, List.all_map]
  show (eqV x y && (List.range xs.length).all fun i => eqV (xs.getD i .non) (ys.getD i .non)) = (eqV x y && eqVs xs ys)
  rw [ih]
theorem vals_at {A : Around} {s : Shared} {xs ys : List V} {us ws : List Value} (r : Vals xs us) (r' : Vals ys ws) (fx : xs.all flatV = true) (fy : ys.all flatV = true) (j : Nat) (h1 : j < us.toArray.size) (h2 : j < ws.toArray.size) :
  SeqAt.EqAt A s us.toArray[j] ws.toArray[j] (eqV (xs.getD j .non) (ys.getD j .non)) := by
 have l1 := r.length
 have l2 := r'.length
 have k1 : j < xs.length := by rw [l1]; simpa using h1
 have k2 : j < ys.length := by rw [l2]; simpa using h2
 obtain ⟨u, hu, ru⟩ := r.get (i := j) (x := xs.getD j .non) (by rw [List.getD_eq_getElem?_getD, List.getElem?_eq_getElem k1]; rfl)
 obtain ⟨w', hw, rw'⟩ := r'.get (i := j) (x := ys.getD j .non) (by rw [List.getD_eq_getElem?_getD, List.getElem?_eq_getElem k2]; rfl)
 have e1 : us.toArray[j] = u := by
  obtain ⟨_, e⟩ := List.getElem?_eq_some_iff.mp hu
  simpa using e
 have e2 : ws.toArray[j] = w' := by
  obtain ⟨_, e⟩ := List.getElem?_eq_some_iff.mp hw
  simpa using e
 rw [e1, e2]
 refine eqAt_V ru rw' (List.all_eq_true.mp fx _ ?_) (List.all_eq_true.mp fy _ ?_)
 ·rw [List.getD_eq_getElem?_getD, List.getElem?_eq_getElem k1]; exact List.getElem_mem k1
 ·rw [List.getD_eq_getElem?_getD, List.getElem?_eq_getElem k2]; exact List.getElem_mem k2
def rEqL (K : PySem.W.Frag) (neg : Bool) : R2 := fun x y H Q => ∃ p q xs ys, x = .ref p /\ y = .ref q /\ SqL K H p xs /\ SqL K H q ys /\ xs.all flatV = true /\ ys.all flatV = true /\ Q (.bl (if neg then !eqVs xs ys else eqVs xs ys)) H
theorem op_eqL (hu : X.A.units < cLine) : OpR X (compareOp .Eq) (rEqL X.K false) := by
 intro pins s σ H x y v u Q I rx ry h
 obtain ⟨p, q, xs, ys, rfl, rfl, hx, hy, fx, fy, k⟩ := h
 cases rx
 cases ry
 obtain ⟨us, r1, p1, z1⟩ := I.list hx
 obtain ⟨ws, r2, p2, z2⟩ := I.list hy
 by_cases hl : xs.length = ys.length
 ·refine SeqAt.eq_listAt p1.isList p2.isList (by simp [<- r1.length, <- r2.length, hl]) hu (fun j h1 h2 => vals_at r1 r2 fx fy j h1 h2) ⟨.bl (eqVs xs ys), H, I, ?_, k⟩
  show Value.bool _ = Value.bool _
  rw [List.size_toArray, <- r1.length, eqVs_range hl]
 ·refine SeqAt.eq_list_lengthsAt p1.isList p2.isList (by simp [<- r1.length, <- r2.length, hl]) hu ⟨.bl (eqVs xs ys), H, I, ?_, k⟩
  rw [eqVs_len hl]; rfl
theorem sliceRev (n : Nat) : sliceRange (sliceBounds none none (some (-1)) n).1 (sliceBounds none none (some (-1)) n).2.1 (sliceBounds none none (some (-1)) n).2.2 = (List.range n).map fun k => n - 1 - k := by
 have e : sliceBounds none none (some (-1)) n = ((n : Int) - 1, -1, -1) := by simp [sliceBounds]
 rw [e]
 unfold sliceRange
 simp only [show ¬ ((-1 : Int) > 0) by decide, if_false]
 by_cases hn : n = 0
 ·subst hn; simp
 ·have h1 : (n : Int) - 1 > -1 := by omega
  rw [if_pos h1]
  have h2 : (((n : Int) - 1 - -1 - -1 - 1) / (- -1)).toNat = n := by
   rw [show (n : Int) - 1 - -1 - -1 - 1 = n by omega, show (- -1 : Int) = 1 by decide, Int.ediv_one]
   exact Int.toNat_natCast n
  rw [h2]
  refine List.map_congr_left fun k hk => ?_
  have := List.mem_range.mp hk
  omega
theorem fm_congr {α β : Type} {f g : α -> Option β} : ∀ {l : List α}, (∀ x ∈ l, f x = g x) -> l.filterMap f = l.filterMap g
 | [], _ => rfl
 | x :: r, h => by rw [List.filterMap_cons, List.filterMap_cons, h x List.mem_cons_self, fm_congr fun y hy => h y (List.mem_cons_of_mem _ hy)]
theorem pick_rev' {α : Type} : ∀ zs : List α, (List.range zs.length).filterMap (fun k => zs.reverse[zs.length - 1 - k]?) = zs
 | [] => rfl
 | z :: r => by
  rw [List.length_cons, List.range_succ_eq_map, List.filterMap_cons, List.filterMap_map]
  have h0 : (z :: r).reverse[r.length + 1 - 1 - 0]? = some z := by simp
  rw [h0]
  have h1 : List.filterMap ((fun k => (z :: r).reverse[r.length + 1 - 1 - k]?) ∘ Nat.succ) (List.range r.length) = List.filterMap (fun k => r.reverse[r.length - 1 - k]?) (List.range r.length) := by
   apply fm_congr
   intro k hk
   have hk := List.mem_range.mp hk
   show (z :: r).reverse[r.length + 1 - 1 - (k + 1)]? = r.reverse[r.length - 1 - k]?
   rw [List.reverse_cons, List.getElem?_append_left (by simp; omega)]
   rw [show r.length + 1 - 1 - (k + 1) = r.length - 1 - k by omega]
  rw [h1, pick_rev' r]
theorem pick_rev {α : Type} (xs : List α) : ((List.range xs.length).map fun k => xs.length - 1 - k).filterMap (fun i => xs[i]?) = xs.reverse := by
 have := pick_rev' xs.reverse
 rw [List.length_reverse, List.reverse_reverse] at this
 rw [List.filterMap_map]
 exact this
theorem slicePick_rev (its : List Value) : slicePick its.toArray none none (some (-1)) = its.reverse.toArray := by
 unfold slicePick
 rw [List.size_toArray, sliceRev]
 congr 1
 have := pick_rev its
 simpa using this
def tRev (K : PySem.W.Frag) (te tst : TE) : TE := fun σ H Q => te σ H fun x H1 => tst σ H1 fun y H2 => y = .int (-1) /\ ∃ p xs, x = .ref p /\ SqL K H2 p xs /\ ∀ l, H2 l = none -> Q (.ref l) (upd H2 l (.lst xs.reverse))
theorem pe_rev {e st : Expr} {te tst : TE} {pos p2 : Pos} (he : PE X e te) (hst : PE X st tst) (ht : ∀ o r, letTemporaryGo e o r = pure () := by intro _ _; rfl) : PE X (.Subscript e (.Slice none none (some st) p2) pos) (tRev X.K te tst) := by
 intro pins s σ H Q I h
 refine wpAny_Subscript_Slice_step (T := "list") slot_list_getitem.lookup (thn (he pins s σ H _ I h) fun v s1 ⟨x, H1, I1, r1, q1⟩ => ?_) ht
 refine wpAny_Slice ?_
 rw [evalPart_none, evalPart_some]
 refine wpAny_pure (wpAny_pure (thn (hst pins s1 σ H1 _ I1 q1) fun vs s2 ⟨y, H2, I2, r2, q2⟩ => ?_))
 obtain ⟨rfl, p, xs, rfl, hx, q⟩ := q2
 obtain ⟨t, rfl⟩ := r2
 cases r1
 have I3 : Inv X pins σ H2 { s2 with heap := s2.heap.push { cls := .type "slice", data := .fields #[.none, .none, .int (-1) t] } } := I2.kept (t' := s2.toks) fun b ob q => Heap.get?_push_of_some _ q
 obtain ⟨its, rv, pl, hz⟩ := I3.list hx
 refine ⟨pl.isList.typeIs, ?_⟩
 refine wpAny_getItem_list_slice pl.isList (Heap.IsSliceOf.new ..) .none .none (.int (-1) t) (by decide) ?_ (by rw [List.size_toArray, <- rv.length]; exact hz)
 rw [slicePick_rev]
 refine ⟨.ref _, _, I3.laid (t' := s2.toks) (o := .lst xs.reverse) (fun b ob q => Heap.get?_push_of_some _ q) (Nat.le_refl _) ?_, rfl, q _ (I3.hok.fresh (Nat.le_refl _))⟩
 exact ⟨by rw [List.length_reverse]; exact hz, _, 0, rv.reverse, Heap.get?_push_size _ rfl⟩
theorem op_isB : OpR X (compareOp .Is) (fun x y H Q => ∃ b, y = .bl b /\ Q (.bl (decide (x = .bl b))) H) := by
 intro pins s σ H x y v u Q I rx ry h
 obtain ⟨b, rfl, q⟩ := h
 cases ry
 cases x with
 | non => cases rx; exact wpAny_is_plain rfl ⟨.bl _, H, I, (by simp [RelV]), q⟩
 | bl k => cases rx; exact wpAny_is_plain rfl ⟨.bl _, H, I, (by cases k <;> cases b <;> rfl), q⟩
 | int i => obtain ⟨t, rfl⟩ := rx; exact wpAny_is_plain rfl ⟨.bl _, H, I, (by simp [RelV]), q⟩
 | str i => obtain ⟨t, rfl⟩ := rx; exact wpAny_is_plain rfl ⟨.bl _, H, I, (by simp [RelV]), q⟩
 | byt i => obtain ⟨t, rfl⟩ := rx; exact wpAny_is_plain rfl ⟨.bl _, H, I, (by simp [RelV]), q⟩
 | flt i => obtain ⟨t, rfl⟩ := rx; exact wpAny_is_plain rfl ⟨.bl _, H, I, (by simp [RelV]), q⟩
 | ref i => cases rx; exact wpAny_is_plain rfl ⟨.bl _, H, I, (by simp [RelV]), q⟩
 | ty i => cases rx; exact wpAny_is_plain rfl ⟨.bl _, H, I, (by simp [RelV]), q⟩
def BigOk (j : Int) : Prop := j.natAbs < 2 ^ 1024
theorem BigOk.log {j : Int} (h : BigOk j) : j.natAbs.log2 < 9000 := by
 by_cases h0 : j.natAbs = 0
 ·rw [h0]; decide +kernel
 ·have : j.natAbs.log2 < 1024 := (Nat.log2_lt h0).mpr h
  omega
theorem op_mulB : OpR X (binaryOp .Mult) (rI (fun i j => BigOk i /\ BigOk j) fun i j => .int (i * j)) := opI fun i j _ _ _ _ _ hc q => by
 have bits : ∀ {x : Int}, BigOk x -> Builtin.Int.intBits x <= 2 ^ 20 := fun {x} h => by
  unfold Builtin.Int.intBits
  split
  ·exact Nat.zero_le _
  ·rename_i h0
   have h0' : x.natAbs ≠ 0 := fun z => h0 (by simpa using z)
   have : x.natAbs.log2 < 1024 := (Nat.log2_lt h0').mpr h
   omega
 exact mul_int q (.of_bits (bits hc.1) (bits hc.2))
theorem op_fdivL : OpR X (binaryOp .FloorDiv) (rI (fun _ j => 0 < j /\ BigOk j) fun i j => .int (i / j)) := opI fun i j _ _ _ _ _ hc q => by
 have h1 : (0 : Int) < j := hc.1
 exact floordiv_int (by omega) (by rw [Int.fdiv_eq_ediv_of_nonneg i (by omega)]; exact q) (.inl (PyProof.noPylong_of_log2 hc.2.log))
end
end L2
namespace L2
open PySem PySem.Spec PyProof.Rows
def isStar : Expr -> Bool
 | .Starred .. => true
 | _ => false
theorem star_cons {e : Expr} {rest : List Expr} {env : Env} (h : isStar e = false) : starEach (e :: rest) env = (false, eval e env) :: starEach rest env := by
 cases e <;> first | rfl | exact Bool.noConfusion h
theorem pa_c {X : Cx} {e : Expr} {es : List Expr} {te : TE} {t : TA} (ha : PE X e te) (hr : PA X es t) (h : isStar e = false := by rfl) : PA X (e :: es) (tCons te t) := pa_cons ha hr (star_cons h)
def Good (P : Program) (w : World) (K : PySem.W.Frag) (mg : Str -> Option Value) (base : Heap) (k : Nat) (x : Str) (ps : List Str) (sp : Sp) : Prop :=
 ∃ (f : Addr) (fd : FuncData), FnOk P w K mg base CX0 k f fd ps sp /\ Binds K fd ps [] /\ mg x = some (.ref f) /\ PySem.W.keepIn K (.ref f) = true
section
variable {X : Cx} {k : Nat} {x : Str} {ps : List Str} {sp : Sp} {e : Expr} {es : List Expr} {t : TA} {p pos : Pos}
theorem pe_fn (G : Good X.prog X.w X.K X.mg X.base k x ps sp) (hr : Room k X.A) (hg : Gl X x) (ha : PA X (e :: es) t) (hdb : (x == ("__debug__" : Str)) = false := by decide)
  (hst : isStar e = false := by rfl) (hpl : (backTo pos (starEach es X.env)).any (·.1) = false := by rfl) : PE X (.Call (.Name x p) (e :: es) [] pos) (tCall sp [] E0 t) := by
 obtain ⟨f, fd, F, b, m, kp⟩ := G
 exact pe_call F hr hg m kp b .nil pass0 ha hdb (star_cons hst) hpl
theorem pe_fn0 (G : Good X.prog X.w X.K X.mg X.base k x ps sp) (hr : Room k X.A) (hg : Gl X x) (hdb : (x == ("__debug__" : Str)) = false := by decide) : PE X (.Call (.Name x p) [] [] pos) (tCall sp [] E0 tNil) := by
 obtain ⟨f, fd, F, b, m, kp⟩ := G
 exact pe_call0 F hr hg m kp b .nil pass0 hdb
end
def Has (K : PySem.W.Frag) (mg : Str -> Option Value) (x : Str) (st : Stmt) : Prop := ∃ (f : Addr) (fd : FuncData), Fun K x x st f fd /\ mg x = some (.ref f)
theorem Has.good {P : Program} {w : World} {K : PySem.W.Frag} {mg : Str -> Option Value} {base : Heap} {x : Str} {st : Stmt} {N ps : List Str} {k : Nat} {sp : Sp} (h : Has K mg x st) (S : FnScope N ps (defScope st))
  (hb : ∀ (kV doc pm : Value) (an : Option Addr) (cdv ct : Value) (us : List Value), us.length = ps.length -> bindArgs (PySem.W.fnOf x x (defArgs st) (defBody st) (defScope st) .none kV doc pm an cdv ct) ⟨us, []⟩ = pure (ps.zip us))
  (len : ∀ vs H Q E, sp vs H Q E -> vs.length = ps.length)
  (hbody : ∀ (f : Addr) (cdv : Value) (A : Around) (outer : List Env) (s : Shared) (H : Hp) (vs : List V) (Q : VK) (E : XK), Room k (A.deeper (envOfC x (defScope st) s.heap.objs.size f cdv)) -> sp vs H Q E ->
   ∃ t, PSs (cxOf CX0 P w K mg base N x (defScope st) f cdv A outer s H E).nox (defBody st) t /\ t { nx := fun _ H' => Q .non H', rt := Q } (start N vs) H) : Good P w K mg base (k + 1) x ps sp := by
 obtain ⟨f, fd, F, m⟩ := h
 exact ⟨f, fd, F.ok S len fun cdv A outer s H vs Q E hr q => hbody f cdv A outer s H vs Q E hr q, F.binds hb, m, F.kp⟩
theorem has_mk {K : PySem.W.Frag} {h : Heap} {mg : Str -> Option Value} {x : Str} {st : Stmt} {f : Addr} {oc : Value} {od an : Option Addr} {osl : Array (Option Value)} {kV doc pm cdv ct : Value} (X : K.In h) (G : h.Ns mainGlobals mg)
  (a : PySem.W.nsIn K mainGlobals x = some (some (.ref f))) (l : K.lookup f = some ⟨oc, od, .func (PySem.W.fnOf x x (defArgs st) (defBody st) (defScope st) .none kV doc pm an cdv ct), osl⟩)
  (c : PySem.W.codeIn K cdv x = true) (k : PySem.W.keepIn K (.ref f) = true) : Has K mg x st := ⟨f, _, fun_mk l c k, PySem.W.mg_of X G a⟩
structure Own (mg : Str -> Option Value) : Prop where
 len : mg "len" = none
 range : mg "range" = none
 isinstance : mg "isinstance" = none
 int_ : mg "int" = none
 bool_ : mg "bool" = none
 str_ : mg "str" = none
 list_ : mg "list" = none
 tuple_ : mg "tuple" = none
 dict_ : mg "dict" = none
 sum : mg "sum" = none
 min : mg "min" = none
 max : mg "max" = none
 all : mg "all" = none
 any : mg "any" = none
 abs : mg "abs" = none
 zip : mg "zip" = none
 sorted : mg "sorted" = none
 set_ : mg "set" = none
 enumerate : mg "enumerate" = none
theorem own_mk {K : PySem.W.Frag} {h : Heap} {mg : Str -> Option Value} (X : K.In h) (G : h.Ns mainGlobals mg) (z1 : PySem.W.nsIn K mainGlobals "len" = some none) (z2 : PySem.W.nsIn K mainGlobals "range" = some none)
    (z3 : PySem.W.nsIn K mainGlobals "isinstance" = some none) (z4 : PySem.W.nsIn K mainGlobals "int" = some none) (z5 : PySem.W.nsIn K mainGlobals "bool" = some none) (z6 : PySem.W.nsIn K mainGlobals "str" = some none)
    (z7 : PySem.W.nsIn K mainGlobals "list" = some none) (z8 : PySem.W.nsIn K mainGlobals "tuple" = some none) (z9 : PySem.W.nsIn K mainGlobals "dict" = some none) (z10 : PySem.W.nsIn K mainGlobals "sum" = some none)
    (z11 : PySem.W.nsIn K mainGlobals "min" = some none) (z12 : PySem.W.nsIn K mainGlobals "max" = some none) (z13 : PySem.W.nsIn K mainGlobals "all" = some none) (z14 : PySem.W.nsIn K mainGlobals "any" = some none)
    (z15 : PySem.W.nsIn K mainGlobals "abs" = some none) (z16 : PySem.W.nsIn K mainGlobals "zip" = some none) (z17 : PySem.W.nsIn K mainGlobals "sorted" = some none) (z18 : PySem.W.nsIn K mainGlobals "set" = some none)
    (z19 : PySem.W.nsIn K mainGlobals "enumerate" = some none) : Own mg :=
  ⟨PySem.W.mg_none_of X G z1, PySem.W.mg_none_of X G z2, PySem.W.mg_none_of X G z3, PySem.W.mg_none_of X G z4, PySem.W.mg_none_of X G z5, PySem.W.mg_none_of X G z6, PySem.W.mg_none_of X G z7, PySem.W.mg_none_of X G z8, PySem.W.mg_none_of X G z9, PySem.W.mg_none_of X G z10,
   PySem.W.mg_none_of X G z11, PySem.W.mg_none_of X G z12, PySem.W.mg_none_of X G z13, PySem.W.mg_none_of X G z14, PySem.W.mg_none_of X G z15, PySem.W.mg_none_of X G z16, PySem.W.mg_none_of X G z17, PySem.W.mg_none_of X G z18, PySem.W.mg_none_of X G z19⟩
structure DeckAt (H : Hp) (p c : Addr) : Prop where
 ne : p ≠ c
 dk : ∃ S k : Int, H p = some (.lst [.ref c, .int S, .int k])
 cs : ∃ ns : List Int, H c = some (.lst (ns.map V.int)) /\ ns.length <= 64
structure On (p c : Addr) (H H' : Hp) : Prop where
 d : DeckAt H' p c
 e : ∀ b o, H b = some o -> b ≠ p -> b ≠ c -> H' b = some o
section
variable {p c a : Addr} {H H1 H2 : Hp} {o : HO}
theorem DeckAt.nep (d : DeckAt H p c) (h : H a = none) : a ≠ p := fun z => by
 obtain ⟨S, k, e⟩ := d.dk
 rw [z, e] at h; cases h
theorem DeckAt.nec (d : DeckAt H p c) (h : H a = none) : a ≠ c := fun z => by
 obtain ⟨ns, e, _⟩ := d.cs
 rw [z, e] at h; cases h
theorem DeckAt.alloc (d : DeckAt H p c) (h : H a = none) : DeckAt (upd H a o) p c := by
 obtain ⟨S, k, e⟩ := d.dk
 obtain ⟨ns, e', l⟩ := d.cs
 exact ⟨d.ne, ⟨S, k, by rw [upd_ne (d.nep h).symm]; exact e⟩, ns, by rw [upd_ne (d.nec h).symm]; exact e', l⟩
theorem On.trans (x : On p c H H1) (y : On p c H1 H2) : On p c H H2 := ⟨y.d, fun b o h hp hc => y.e b o (x.e b o h hp hc) hp hc⟩
theorem On.alloc (x : On p c H H1) (h : H1 a = none) : On p c H (upd H1 a o) :=
 ⟨x.d.alloc h, fun b u q hp hc => by rw [upd_ne (ne_of_none (x.e b u q hp hc) h)]; exact x.e b u q hp hc⟩
end
def spMixed : Sp := fun vs H Q _ => ∃ n k : Int, vs = [.int n, .int k] /\ ∀ r : Int, Q (.int r) H
def spDeck (K : PySem.W.Frag) : Sp := fun vs H Q _ => ∃ (a : Addr) (ns : List Int), vs = [.ref a] /\ SqL K H a (ns.map V.int) /\ ∀ (p c : Addr) (H' : Hp), H p = none -> H c = none -> DeckAt H' p c -> Same H H' -> Q (.ref p) H'
def spTake : Sp := fun vs H Q _ => ∃ (p c : Addr) (m : Int), vs = [.ref p, .int m] /\ DeckAt H p c /\ 0 < m /\ BigOk m /\ ∀ (r : Int) (H' : Hp), 0 <= r -> r < m -> On p c H H' -> Q (.int r) H'
end L2
namespace L2
open PySem PySem.Spec PyProof.Rows
theorem ObjOk.there {P : Program} {w : World} {H : Hp} {h : Heap} {a : Addr} {o : HO} (x : ObjOk P w H h a o) : ∃ ob, h.get? a = some ob := by
 cases o with
 | lst xs => obtain ⟨_, _, _, _, e⟩ := x; exact ⟨_, e⟩
 | tup xs => obtain ⟨_, _, _, ob, e, _⟩ := x; exact ⟨_, e⟩
 | dK kvs => obtain ⟨_, _, _, _, o, _, _, e, _⟩ := x; exact ⟨_, e⟩
 | dT kvs => obtain ⟨_, _, _, _, o, _, _, e, _⟩ := x; exact ⟨_, e⟩
 | set S n => obtain ⟨o, _, _, _, e, _⟩ := x; exact ⟨_, e⟩
 | ins C dx fs => obtain ⟨_, _, _, e, _⟩ := x; exact ⟨_, e⟩
 | own y => obtain ⟨_, e⟩ := x; exact ⟨_, e⟩
 | xd fs => obtain ⟨_, ⟨_, _, _, e, _⟩, _⟩ := x; exact ⟨_, e⟩
 | rng lo hi => obtain ⟨_, _, _, e⟩ := x; exact ⟨_, e⟩
 | frz ob u => obtain ⟨e, _⟩ := x; exact ⟨_, e⟩
 | tbl ps => exact ⟨_, (show h.get? a = some _ from x)⟩
 | met f y => exact ⟨_, (show h.get? a = some _ from x)⟩
 | ext φ => obtain ⟨_, ⟨_, e⟩, _⟩ := x; exact ⟨_, e⟩
end L2
namespace L2
open PySem PySem.Spec PyProof.Rows
section
variable {X : Cx}
theorem same_new {H : Hp} {a : Addr} {o : HO} (h : H a = none) : Same H (upd H a o) := fun b u q => by rw [upd_ne (ne_of_none q h)]; exact q
def rCatG (K : PySem.W.Frag) : R2 := fun x y H Q => ∃ a b xs ys, x = .ref a /\ y = .ref b /\ SqT K H a xs /\ SqT K H b ys /\ xs.length + ys.length <= sizeLine /\ ∀ r H', SqT K H' r (xs ++ ys) -> Same H H' -> Q (.ref r) H'
theorem op_catG : OpR X (binaryOp .Add) (rCatG X.K) := by
 intro pins s σ H x y v u Q I rx ry h
 obtain ⟨a, b, xs, ys, rfl, rfl, ha, hb, hz, q⟩ := h
 by_cases hx : xs = []
 ·subst hx
  cases rx
  cases ry
  obtain ⟨its, r1, p1, _⟩ := I.tuple ha
  obtain ⟨its2, r2, p2, _⟩ := I.tuple hb
  obtain ⟨⟨cls, dd, data, sl⟩, ho, hc, n, hd⟩ := id p1
  obtain ⟨⟨cls2, dd2, data2, sl2⟩, ho2, hc2, n2, hd2⟩ := id p2
  simp only at hc hd hc2 hd2
  subst hc hd hc2 hd2
  have e1 : its = [] := r1.nil_iff.mpr rfl
  exact concat_meets ⟨_, ho, rfl⟩ ⟨_, ho2, rfl⟩ noFill_tuple_add seq_tuple_add PySem.F.slot_tuple_add PySem.F.entry_tuple_add (PySem.F.args_tuple_add_2 _ _)
   (tuple_addW0 a b its.toArray its2.toArray n n2 dd dd2 sl sl2 (by simp [e1])) ⟨ho, ho2, ⟨.ref b, H, I, rfl, q b H hb (Same.refl H)⟩⟩
 ·refine op_catT pins s σ H (.ref a) (.ref b) v u Q I rx ry ⟨a, b, xs, ys, rfl, rfl, ha, hb, hx, hz, fun e => q a H (by rw [e, List.append_nil]; exact ha) (Same.refl H), fun _ p hp => q p _ (SqT.of upd_same) (same_new hp)⟩
structure QA (X : Cx) (es : List Expr) (t : TA) : Prop where
 p : PA X es t
theorem qa_nil : QA X [] tNil := ⟨pa_nil⟩
theorem qa_c {e : Expr} {es : List Expr} {te : TE} {t : TA} (ha : PE X e te) (hr : QA X es t) (h : isStar e = false := by rfl) : QA X (e :: es) (tCons te t) := ⟨pa_c ha hr.p h⟩
theorem pe_lstQ {es : List Expr} {t : TA} {pos : Pos} (h : QA X es t) : PE X (.List es pos) (tLst t) := pe_lst h.p
theorem Inv.big {pins : List (Addr × Obj)} {σ : St} {H : Hp} {s : Shared} (I : Inv X pins σ H s) : sysModules < s.heap.objs.size := by
 have h : mainGlobals < s.heap.objs.size := (I.mod.glob.keeps I.bk).lt
 exact Nat.lt_trans (by decide) h
theorem dk_empty {P : Program} {w : World} {H : Hp} (h : Heap) (hb : sysModules < h.objs.size) : ObjOk P w H (h.push { cls := .type "dict", data := .dict #[] }) h.objs.size (.dK []) :=
 ⟨Nat.zero_le _, beq_eq_false_iff_ne.mpr (Ne.symm (Nat.ne_of_lt hb)), [], .nil, Heap.DictOf.new h⟩
def tDNewK : TE := fun _ H Q => ∀ p, H p = none -> Q (.ref p) (upd H p (.dK []))
theorem pe_dnewK {pos : Pos} : PE X (.Dict [] [] pos) tDNewK := fun pins s σ H Q I h =>
 wpAny_Dict_empty ⟨.ref s.heap.objs.size, _, I.laid (a := s.heap.objs.size) (o := .dK []) (t' := s.toks) (fun _ _ q => Heap.get?_push_of_some _ q) (Nat.le_refl _) (dk_empty s.heap I.big), rfl, h _ (I.hok.fresh (Nat.le_refl _))⟩
end
end L2
namespace L2
open PySem PySem.Spec PyProof.Rows
section
variable {prog : Program} {w : World} {A : Around} {E : Value -> Shared -> Prop} {s : Shared}
theorem nextT_item {j t : Addr} {k : Nat} {vs : Array Value} {v : Value} {Q : Value -> Shared -> Prop} (hj : s.heap.IsTupleIter j t k) (ht : s.heap.IsTuple t vs) (hv : vs[k]? = some v)
  (q : ∀ h', h'.IsTupleIter j t (k + 1) -> Heap.SameBut j s.heap h' -> Q v { s with heap := h' }) : wpAny (model prog w) A (Builtin.SmallTypes.nextOf (.ref j)) Q E s := by
 obtain ⟨oj, ej, cj, dj⟩ := id hj
 obtain ⟨ot, et, _, nt, dt⟩ := id ht
 unfold Builtin.SmallTypes.nextOf
 refine wpAny_bind (wpAny_callSpecial?_slot (name := Str.ofString "__next__") hj.typeIs F.slot_tuple_iterator_next (wpAny_call_entry F.slot_tuple_iterator_next hj.typeIs F.entry_tuple_iterator_next ?_ (F.args_tuple_iterator_next_1 _)))
 refine wpAny_bind (m := field (.ref j) 0) (wpAny_field ej dj (x := .ref t) rfl ?_)
 have nn : ¬ ((Value.ref t == Value.none) = true) := Bool.false_ne_true
 show wpAny (model prog w) A.in1 (if (Value.ref t == Value.none) = true then _ else _) _ _ s
 rw [if_neg nn]
 refine wpAny_bind (m := field (.ref j) 1) (wpAny_field ej dj (x := .int k 0) rfl (wpAny_bind (m := seqItems? (.ref t)) (wpAny_seqItems et dt ?_)))
 simp only [Int.toNat_natCast, hv]
 refine wpAny_bind (wpAny_setField ej dj (by simp) (wpAny_pure ⟨v, rfl, wpAny_pure (q _ ⟨_, Heap.get?_update_self _ ej (Obj.isFreed_of_fields (Obj.data_mapFields dj _)), (Obj.cls_mapFields ..).trans cj, ?_⟩ (Heap.SameBut.update ..))⟩))
 rw [Obj.data_mapFields dj]
 simp [rawInt]
theorem nextT_end {j t : Addr} {k : Nat} {vs : Array Value} {Q : Value -> Shared -> Prop} (hh : A.handled = none) (hj : s.heap.IsTupleIter j t k) (ht : s.heap.IsTuple t vs) (hv : vs[k]? = none)
  (q : ∀ h' e, Heap.ExtBut j s.heap h' -> (∃ o, h'.get? e = some o /\ o.cls = .type "StopIteration") -> E (.ref e) { s with heap := h' }) : wpAny (model prog w) A (Builtin.SmallTypes.nextOf (.ref j)) Q E s := by
 obtain ⟨oj, ej, cj, dj⟩ := id hj
 obtain ⟨ot, et, _, nt, dt⟩ := id ht
 unfold Builtin.SmallTypes.nextOf
 refine wpAny_bind (wpAny_callSpecial?_slot (name := Str.ofString "__next__") hj.typeIs F.slot_tuple_iterator_next (wpAny_call_entry F.slot_tuple_iterator_next hj.typeIs F.entry_tuple_iterator_next ?_ (F.args_tuple_iterator_next_1 _)))
 refine wpAny_bind (m := field (.ref j) 0) (wpAny_field ej dj (x := .ref t) rfl ?_)
 have nn : ¬ ((Value.ref t == Value.none) = true) := Bool.false_ne_true
 show wpAny (model prog w) A.in1 (if (Value.ref t == Value.none) = true then _ else _) _ _ s
 rw [if_neg nn]
 refine wpAny_bind (m := field (.ref j) 1) (wpAny_field ej dj (x := .int k 0) rfl (wpAny_bind (m := seqItems? (.ref t)) (wpAny_seqItems et dt ?_)))
 simp only [Int.toNat_natCast, hv]
 refine wpAny_bind (wpAny_rule (wpAny_bind (wpAny_setField ej dj (by simp) (wpAny_bind (m := newExc (.type "StopIteration") []) ?_))))
 unfold newExc newTuple
 refine wpAny_bind (wpAny_newObj_type (wpAny_bind (m := firstArgMember _ _) (wpAny_of_eq (a := Value.none) (by first | rfl | (simp only [firstArgMember]; rfl)) (wpAny_newObj_type ?_ (by size_fits)))) (by size_fits))
 unfold raiseNew
 refine wpAny_bind (wpAny_handled ?_)
 rw [show A.in1.handled = none from hh]
 exact wpAny_bind (wpAny_pure (wpAny_throw (q _ _ (((Heap.SameBut.update ..).extBut.push _).push _) ⟨_, Heap.get?_push_size _ rfl, rfl⟩)))
structure Step (prog : Program) (w : World) (i l : Addr) (it : Nat -> Heap -> Prop) (sq : Heap -> Array Value -> Prop) : Prop where
 obj : ∀ k h, it k h -> ∃ o, h.get? i = some o /\ ∀ v, o.data ≠ .cell v
 itk : ∀ k h h', it k h -> (∀ o, h.get? i = some o -> h'.get? i = some o) -> it k h'
 sqk : ∀ h h' vs, sq h vs -> (∀ o, h.get? l = some o -> h'.get? l = some o) -> sq h' vs
 item : ∀ (A : Around) (E : Value -> Shared -> Prop) (s : Shared) (k : Nat) (vs : Array Value) (v : Value) (Q : Value -> Shared -> Prop), it k s.heap -> sq s.heap vs -> vs[k]? = some v ->
  (∀ h', it (k + 1) h' -> Heap.SameBut i s.heap h' -> Q v { s with heap := h' }) -> wpAny (model prog w) A (Builtin.SmallTypes.nextOf (.ref i)) Q E s
 done : ∀ (A : Around) (E : Value -> Shared -> Prop) (s : Shared) (k : Nat) (vs : Array Value) (Q : Value -> Shared -> Prop), A.handled = none -> it k s.heap -> sq s.heap vs -> vs[k]? = none ->
  (∀ h' e, Heap.ExtBut i s.heap h' -> (∃ o, h'.get? e = some o /\ o.cls = .type "StopIteration") -> E (.ref e) { s with heap := h' }) -> wpAny (model prog w) A (Builtin.SmallTypes.nextOf (.ref i)) Q E s
theorem step_list (i l : Addr) : Step prog w i l (fun k h => h.IsListIter i l k) (fun h vs => h.IsList l vs) where
 obj := fun k h x => let ⟨o, e, _, d⟩ := x; ⟨o, e, fun v z => by rw [d] at z; cases z⟩
 itk := fun k h h' x f => let ⟨o, e, r⟩ := x; ⟨o, f o e, r⟩
 sqk := fun h h' vs x f => let ⟨o, e, r⟩ := x; ⟨o, f o e, r⟩
 item := fun A E s k vs v Q a b c q => wpAny_nextOf_list_item a b c q
 done := fun A E s k vs Q hh a b c q => wpAny_nextOf_list_end hh a b c q
theorem step_tup (i l : Addr) : Step prog w i l (fun k h => h.IsTupleIter i l k) (fun h vs => h.IsTuple l vs) where
 obj := fun k h x => let ⟨o, e, _, d⟩ := x; ⟨o, e, fun v z => by rw [d] at z; cases z⟩
 itk := fun k h h' x f => let ⟨o, e, r⟩ := x; ⟨o, f o e, r⟩
 sqk := fun h h' vs x f => let ⟨o, e, r⟩ := x; ⟨o, f o e, r⟩
 item := fun A E s k vs v Q a b c q => nextT_item a b c q
 done := fun A E s k vs Q hh a b c q => nextT_end hh a b c q
section
variable {z TI TO i1 i2 l1 l2 : Addr} {it1 it2 : Nat -> Heap -> Prop} {sq1 sq2 : Heap -> Array Value -> Prop}
theorem zn_item (S1 : Step prog w i1 l1 it1 sq1) (S2 : Step prog w i2 l2 it2 sq2) (D : ZipApart z TI TO i1 i2 l1 l2) {k1 k2 : Nat} {xs ys : Array Value} {x y a b : Value} {Q : Value -> Shared -> Prop}
  (hz : IsZip s.heap z TI TO .none) (hI : IsPair s.heap TI (.ref i1) (.ref i2)) (hO : IsPair s.heap TO a b) (j1 : it1 k1 s.heap) (j2 : it2 k2 s.heap) (q1 : sq1 s.heap xs) (q2 : sq2 s.heap ys)
  (hx : xs[k1]? = some x) (hy : ys[k2]? = some y)
  (q : ∀ h', IsZip h' z TI TO (rawInt s.heap.objs.size) -> IsPair h' TO x y -> it1 (k1 + 1) h' -> it2 (k2 + 1) h' -> IsPair h' s.heap.objs.size x y -> h'.objs.size = s.heap.objs.size + 1 ->
   (∀ c o, c ≠ z -> c ≠ TO -> c ≠ i1 -> c ≠ i2 -> s.heap.get? c = some o -> h'.get? c = some o) -> Q (.ref s.heap.objs.size) { s with heap := h' }) :
  wpAny (model prog w) A (Builtin.«zip.__next__» ⟨[.ref z], []⟩) (fun f s' => ∃ v, f = .done (.ret v) /\ Q v s') E s := by
 refine wpAny_bind (m := field (.ref z) 2) (wpAny_field hz rfl (x := .bool false) rfl (wpAny_bind (m := field (.ref z) 3) (wpAny_field hz rfl (x := .ref TI) rfl (wpAny_bind (wpAny_seqItems hI rfl ?_)))))
 refine wpAny_bind (m := Builtin.SmallTypes.ownedTupleIsFree (.ref z)) (wpAny_bind (wpAny_field hz rfl (x := .none) rfl (wpAny_pure ?_)))
 simp only [if_true]
 refine wpAny_bind (wpAny_rule (wpAny_bind (wpAny_field hz rfl (x := .ref TO) rfl (wpAny_bind (wpAny_setField_rec hz (by simp) fun h1 hz1 s1 => ?_)))))
 have hz1 : IsZip h1 z TI TO .ellipsis := hz1
 refine wpAny_bind ?_
 simp only [List.zipIdx_cons, List.zipIdx_nil, List.forIn_cons, List.forIn_nil]
 have e1 : ∀ c o, c ≠ z -> s.heap.get? c = some o -> h1.get? c = some o := fun c o hc e => s1.extBut _ _ hc e
 refine wpAny_bind (wpAny_bind (wpAny_onRaise (wpAny_bind (m := Builtin.SmallTypes.nextOf (.ref i1)) (S1.item _ _ _ k1 xs x _ (S1.itk _ _ _ j1 fun o e => e1 _ o D.i1z e) (S1.sqk _ _ _ q1 fun o e => e1 _ o D.l1z e) hx fun h2 j1' s2 => wpAny_pure ?_))))
 have e2 : ∀ c o, c ≠ z -> c ≠ i1 -> s.heap.get? c = some o -> h2.get? c = some o := fun c o c1 c2 e => s2.extBut _ _ c2 (e1 c o c1 e)
 have hO2 : IsPair h2 TO a b := e2 _ _ D.TOz D.TOi1 hO
 refine wpAny_bind (wpAny_seqItems hO2 rfl (wpAny_bind (wpAny_updateSeq_pair hO2 fun h3 hO3 s3 => wpAny_bind (wpAny_letGo (wpAny_pure ?_)))))
 have hO3 : IsPair h3 TO x b := hO3
 have e3 : ∀ c o, c ≠ z -> c ≠ i1 -> c ≠ TO -> s.heap.get? c = some o -> h3.get? c = some o := fun c o c1 c2 c3 e => s3.extBut _ _ c3 (e2 c o c1 c2 e)
 refine wpAny_bind (wpAny_bind (wpAny_onRaise (wpAny_bind (m := Builtin.SmallTypes.nextOf (.ref i2)) (S2.item _ _ _ k2 ys y _ (S2.itk _ _ _ j2 fun o e => e3 _ o D.i2z D.i12.symm D.TOi2.symm e) (S2.sqk _ _ _ q2 fun o e => e3 _ o D.l2z D.l2i1 D.l2TO e) hy fun h4 j2' s4 => wpAny_pure ?_))))
 have hO4 : IsPair h4 TO x b := s4.extBut _ _ D.TOi2 hO3
 refine wpAny_bind (wpAny_seqItems hO4 rfl (wpAny_bind (wpAny_updateSeq_pair hO4 fun h5 hO5 s5 => wpAny_bind (wpAny_letGo (wpAny_pure (wpAny_pure ?_))))))
 have hO5 : IsPair h5 TO x y := hO5
 refine wpAny_bind (wpAny_seqItems hO5 rfl (wpAny_bind (wpAny_newTuple ?_)))
 have hs5 : h5.objs.size = s.heap.objs.size := by rw [s5.1, s4.1, s3.1, s2.1, s1.1]
 have hz5 : IsZip h5 z TI TO .ellipsis := s5.extBut _ _ D.TOz.symm (s4.extBut _ _ D.i2z.symm (s3.extBut _ _ D.TOz.symm (s2.extBut _ _ D.i1z.symm hz1)))
 have e5 : ∀ c o, c ≠ z -> c ≠ TO -> c ≠ i1 -> c ≠ i2 -> s.heap.get? c = some o -> h5.get? c = some o := fun c o c1 c2 c3 c4 e => s5.extBut _ _ c2 (s4.extBut _ _ c4 (e3 c o c1 c3 c2 e))
 have lz : z < h5.objs.size := Heap.lt_size hz5
 refine wpAny_bind (m := Builtin.SmallTypes.ownedTupleHandOut (.ref z) (.ref h5.objs.size)) ?_
 unfold Builtin.SmallTypes.ownedTupleHandOut
 have hz6 : IsZip (h5.push { cls := .type "tuple", data := .seq #[x, y] }) z TI TO .ellipsis := Heap.get?_push_of_some _ hz5
 refine wpAny_bind (wpAny_setField_rec hz6 (by simp) fun h7 hz7 s7 => ?_)
 have hz7 : IsZip h7 z TI TO (rawInt h5.objs.size) := hz7
 refine wpAny_setField_rec hz7 (by simp) fun h8 hz8 s8 => ?_
 have hz8 : IsZip h8 z TI TO (rawInt h5.objs.size) := hz8
 have e8 : ∀ c o, c ≠ z -> h5.get? c = some o -> h8.get? c = some o := fun c o c1 e => s8.extBut _ _ c1 (s7.extBut _ _ c1 (Heap.get?_push_of_some _ e))
 have p8 : IsPair h8 h5.objs.size x y := s8.extBut _ _ (Nat.ne_of_gt lz) (s7.extBut _ _ (Nat.ne_of_gt lz) (Heap.get?_push_size _ rfl))
 have n8 : h8.objs.size = h5.objs.size + 1 := by rw [s8.1, s7.1, Heap.size_push]
 rw [hs5] at hz8 p8 n8
 refine wpAny_pure ⟨_, rfl, ?_⟩
 show Q (Value.ref h5.objs.size) _
 rw [hs5]
 exact q h8 hz8 (e8 _ _ D.TOz hO5) (S1.itk _ _ _ j1' fun o e => e8 _ o D.i1z (s5.extBut _ _ D.TOi1.symm (s4.extBut _ _ D.i12 (s3.extBut _ _ D.TOi1.symm e)))) (S2.itk _ _ _ j2' fun o e => e8 _ o D.i2z (s5.extBut _ _ D.TOi2.symm e)) p8 n8
  fun c o c1 c2 c3 c4 e => e8 c o c1 (e5 c o c1 c2 c3 c4 e)
theorem zn_end (S1 : Step prog w i1 l1 it1 sq1) (S2 : Step prog w i2 l2 it2 sq2) (D : ZipApart z TI TO i1 i2 l1 l2) (hh : A.handled = none) {k1 k2 : Nat} {xs ys : Array Value} {a b : Value} {Q : Fin -> Shared -> Prop}
  (hz : IsZip s.heap z TI TO .none) (hI : IsPair s.heap TI (.ref i1) (.ref i2)) (hO : IsPair s.heap TO a b) (j1 : it1 k1 s.heap) (j2 : it2 k2 s.heap) (q1 : sq1 s.heap xs) (q2 : sq2 s.heap ys)
  (hn : xs[k1]? = none \/ ys[k2]? = none)
  (q : ∀ h' e, (∀ c o, c ≠ z -> c ≠ TO -> c ≠ i1 -> c ≠ i2 -> s.heap.get? c = some o -> h'.get? c = some o) -> (∃ o, h'.get? e = some o /\ o.cls = .type "StopIteration") -> E (.ref e) { s with heap := h' }) :
  wpAny (model prog w) A (Builtin.«zip.__next__» ⟨[.ref z], []⟩) Q E s := by
 refine wpAny_bind (m := field (.ref z) 2) (wpAny_field hz rfl (x := .bool false) rfl (wpAny_bind (m := field (.ref z) 3) (wpAny_field hz rfl (x := .ref TI) rfl (wpAny_bind (wpAny_seqItems hI rfl ?_)))))
 refine wpAny_bind (m := Builtin.SmallTypes.ownedTupleIsFree (.ref z)) (wpAny_bind (wpAny_field hz rfl (x := .none) rfl (wpAny_pure ?_)))
 simp only [if_true]
 refine wpAny_bind (wpAny_rule (wpAny_bind (wpAny_field hz rfl (x := .ref TO) rfl (wpAny_bind (wpAny_setField_rec hz (by simp) fun h1 hz1 s1 => ?_)))))
 have hz1 : IsZip h1 z TI TO .ellipsis := hz1
 refine wpAny_bind ?_
 simp only [List.zipIdx_cons, List.zipIdx_nil, List.forIn_cons, List.forIn_nil]
 have e1 : ∀ c o, c ≠ z -> s.heap.get? c = some o -> h1.get? c = some o := fun c o hc e => s1.extBut _ _ hc e
 have ez : ∀ {h : Heap} {e : Addr} {o : Obj}, IsZip h z TI TO .ellipsis -> h.get? e = some o -> o.cls = .type "StopIteration" -> e ≠ z := fun hz ho hc x => by
  subst x
  rw [hz] at ho
  cases ho
  simp at hc
 cases hx : xs[k1]? with
 | none =>
  refine wpAny_bind (wpAny_bind (wpAny_onRaise (wpAny_bind (m := Builtin.SmallTypes.nextOf (.ref i1)) (S1.done _ _ _ k1 xs _ hh (S1.itk _ _ _ j1 fun o e => e1 _ o D.i1z e) (S1.sqk _ _ _ q1 fun o e => e1 _ o D.l1z e) hx fun h2 e s2 he => ?_))))
  obtain ⟨oe, ho, hc⟩ := he
  have hz2 : IsZip h2 z TI TO .ellipsis := s2 _ _ D.i1z.symm hz1
  exact wpAny_setField_rec hz2 (by simp) fun h3 _ s3 => q h3 e (fun c o c1 _ c3 _ u => s3.extBut _ _ c1 (s2 _ _ c3 (e1 c o c1 u))) ⟨oe, s3.extBut _ _ (ez hz2 ho hc) ho, hc⟩
 | some x =>
  have hy : ys[k2]? = none := by
   rcases hn with h | h
   ·rw [hx] at h; cases h
   ·exact h
  refine wpAny_bind (wpAny_bind (wpAny_onRaise (wpAny_bind (m := Builtin.SmallTypes.nextOf (.ref i1)) (S1.item _ _ _ k1 xs x _ (S1.itk _ _ _ j1 fun o e => e1 _ o D.i1z e) (S1.sqk _ _ _ q1 fun o e => e1 _ o D.l1z e) hx fun h2 j1' s2 => wpAny_pure ?_))))
  have e2 : ∀ c o, c ≠ z -> c ≠ i1 -> s.heap.get? c = some o -> h2.get? c = some o := fun c o c1 c2 e => s2.extBut _ _ c2 (e1 c o c1 e)
  have hO2 : IsPair h2 TO a b := e2 _ _ D.TOz D.TOi1 hO
  refine wpAny_bind (wpAny_seqItems hO2 rfl (wpAny_bind (wpAny_updateSeq_pair hO2 fun h3 hO3 s3 => wpAny_bind (wpAny_letGo (wpAny_pure ?_)))))
  have e3 : ∀ c o, c ≠ z -> c ≠ i1 -> c ≠ TO -> s.heap.get? c = some o -> h3.get? c = some o := fun c o c1 c2 c3 e => s3.extBut _ _ c3 (e2 c o c1 c2 e)
  refine wpAny_bind (wpAny_bind (wpAny_onRaise (wpAny_bind (m := Builtin.SmallTypes.nextOf (.ref i2)) (S2.done _ _ _ k2 ys _ hh (S2.itk _ _ _ j2 fun o e => e3 _ o D.i2z D.i12.symm D.TOi2.symm e) (S2.sqk _ _ _ q2 fun o e => e3 _ o D.l2z D.l2i1 D.l2TO e) hy fun h4 e s4 he => ?_))))
  obtain ⟨oe, ho, hc⟩ := he
  have hz4 : IsZip h4 z TI TO .ellipsis := s4 _ _ D.i2z.symm (s3.extBut _ _ D.TOz.symm (s2.extBut _ _ D.i1z.symm hz1))
  exact wpAny_setField_rec hz4 (by simp) fun h5 _ s5 => q h5 e (fun c o c1 c2 c3 c4 u => s5.extBut _ _ c1 (s4 _ _ c4 (e3 c o c1 c3 c2 u))) ⟨oe, s5.extBut _ _ (ez hz4 ho hc) ho, hc⟩
end
abbrev zT1 (hp : Heap) (a b : Addr) : Heap := hp.push { cls := .type "tuple_iterator", data := .fields #[.ref a, .int 0 0] }
abbrev zT2 (hp : Heap) (a b : Addr) : Heap := (zT1 hp a b).push { cls := .type "tuple_iterator", data := .fields #[.ref b, .int 0 0] }
abbrev zT3 (hp : Heap) (a b : Addr) : Heap := (zT2 hp a b).push { cls := .type "tuple", data := .seq #[.ref hp.objs.size, .ref (zT1 hp a b).objs.size] }
abbrev zT4 (hp : Heap) (a b : Addr) : Heap := (zT3 hp a b).push { cls := .type "tuple", data := .seq #[.none, .none] }
abbrev zT5 (hp : Heap) (a b : Addr) : Heap := (zT4 hp a b).push { cls := .type "zip", data := .fields #[.none, .bool false, .bool false, .ref (zT2 hp a b).objs.size, .ref (zT3 hp a b).objs.size] }
theorem zipT_new (a b : Addr) (xs ys : Array Value) : Meets (Builtin.«zip.__new__» ⟨[.type "zip", .ref a, .ref b], []⟩) (fun _ R s => s.heap.IsTuple a xs /\ s.heap.IsTuple b ys /\ R (.ok (.ret (.ref (zT4 s.heap a b).objs.size))) { s with heap := zT5 s.heap a b }) :=
 .of_wp fun prog w A R s h => by
  obtain ⟨hp, g, d, tk, os⟩ := s
  obtain ⟨ha, hb, h⟩ := h
  have sz := sub_zip
  have ha : Heap.IsTuple (Shared.heap ⟨hp, g, d, tk, os⟩) a xs := ha
  have hb : Heap.IsTuple (Shared.heap ⟨hp.push { cls := .type "tuple_iterator", data := .fields #[.ref a, .int 0 0] }, g, d, tk, os⟩) b ys := Heap.IsTuple.push hb _
  wp_walk using wpAny_pyIter_tuple ha, wpAny_pyIter_tuple hb
  exact ⟨_, rfl, h⟩
theorem call_zipT {a b : Addr} {xs ys : Array Value} {Q : Value -> Shared -> Prop} (ha : s.heap.IsTuple a xs) (hb : s.heap.IsTuple b ys)
  (q : ∀ h', IsZip h' (s.heap.objs.size + 4) (s.heap.objs.size + 2) (s.heap.objs.size + 3) .none -> IsPair h' (s.heap.objs.size + 2) (.ref s.heap.objs.size) (.ref (s.heap.objs.size + 1)) -> IsPair h' (s.heap.objs.size + 3) .none .none ->
   h'.IsTupleIter s.heap.objs.size a 0 -> h'.IsTupleIter (s.heap.objs.size + 1) b 0 -> h'.objs.size = s.heap.objs.size + 5 -> (∀ c o, s.heap.get? c = some o -> h'.get? c = some o) -> Q (.ref (s.heap.objs.size + 4)) { s with heap := h' }) :
  wpAny (model prog w) A (call (.type "zip") [.ref a, .ref b]) Q E s := by
 refine callType_new F.called_zip (by decide) (F.typeCall_zip_2 _ _) (F.newCall_zip_2 _ _) (fun o => F.args_object_init_3 o _ _) F.entry_zip_new (zipT_new a b xs ys) ⟨ha, hb, ?_⟩
 have n1 : (zT1 s.heap a b).objs.size = s.heap.objs.size + 1 := Heap.size_push ..
 have n2 : (zT2 s.heap a b).objs.size = s.heap.objs.size + 2 := by rw [Heap.size_push, n1]
 have n3 : (zT3 s.heap a b).objs.size = s.heap.objs.size + 3 := by rw [Heap.size_push, n2]
 have n4 : (zT4 s.heap a b).objs.size = s.heap.objs.size + 4 := by rw [Heap.size_push, n3]
 have n5 : (zT5 s.heap a b).objs.size = s.heap.objs.size + 5 := by rw [Heap.size_push, n4]
 have p5 : (zT5 s.heap a b).get? (zT4 s.heap a b).objs.size = some _ := Heap.get?_push_size _ rfl
 have p4 : (zT5 s.heap a b).get? (zT3 s.heap a b).objs.size = some _ := Heap.get?_push_of_some _ (Heap.get?_push_size _ rfl)
 have p3 : (zT5 s.heap a b).get? (zT2 s.heap a b).objs.size = some _ := Heap.get?_push_of_some _ (Heap.get?_push_of_some _ (Heap.get?_push_size _ rfl))
 have p2 : (zT5 s.heap a b).get? (zT1 s.heap a b).objs.size = some _ := Heap.get?_push_of_some _ (Heap.get?_push_of_some _ (Heap.get?_push_of_some _ (Heap.get?_push_size _ rfl)))
 have p1 : (zT5 s.heap a b).get? s.heap.objs.size = some _ := Heap.get?_push_of_some _ (Heap.get?_push_of_some _ (Heap.get?_push_of_some _ (Heap.get?_push_of_some _ (Heap.get?_push_size _ rfl))))
 show _ /\ _
 rw [n2, n3, n4] at p5
 rw [n1, n2] at p3
 rw [n3] at p4
 rw [n1] at p2
 rw [n4]
 exact ⟨⟨_, p5, rfl⟩, q _ p5 p3 p4 ⟨_, p1, rfl, rfl⟩ ⟨_, p2, rfl, rfl⟩ n5 fun c o e => Heap.get?_push_of_some _ (Heap.get?_push_of_some _ (Heap.get?_push_of_some _ (Heap.get?_push_of_some _ (Heap.get?_push_of_some _ e))))⟩
end
section
variable {X : Cx} {pins : List (Addr × Obj)} {σ : St} {H : Hp} {s : Shared} {h' : Heap}
theorem Inv.turnedL {t' : Nat} {ch : List Addr} (I : Inv X pins σ H s) (hf : ∀ b ∈ ch, FpOk X pins H b) (k : ∀ b o, b ∉ ch -> s.heap.get? b = some o -> h'.get? b = some o) : Inv X pins σ H { s with heap := h', toks := t' } := by
 have nit : ∀ b u, H b = some u -> b ∉ ch := fun b u e z => by rw [(hf b z).1] at e; cases e
 refine I.step (g' := s.gens) (d' := s.drawn) (ch := ch) (fun b hb => ?_) (fun b o _ _ hc e _ => k b o hc e) (fun b o _ _ hc e _ => ⟨o.slots, k b o hc e⟩) (fun _ _ _ _ n => n)
  (fun b o hc e => ⟨o, k b o hc e⟩) (fun _ _ e => e) (fun _ _ _ e => e) (fun b ps e => ⟨#[], by rw [e]; simp⟩) (fun m hm => ?_) (fun b u e => ?_) I.bare
 ·obtain ⟨_, f1, _, f3, f4, f5⟩ := hf b hb
  exact ⟨f3, f1, f4, f5⟩
 ·obtain ⟨o, es, ep, ho, r⟩ := hm
  exact ⟨o, es, ep, k _ o (fun z => (hf _ z).2.1 rfl) ho, r⟩
 ·refine (I.hok b u e).stay (fun c v hc q => k c v ?_ q) (fun _ q => q) fun _ _ q => q
  rcases hc with z | z
  ·rw [z]; exact nit b u e
  ·exact nit c _ z
end
def SqX (t : Bool) (K : PySem.W.Frag) (H : Hp) (a : Addr) (xs : List V) : Prop := match t with
 | false => SqL K H a xs
 | true => SqT K H a xs
def Itz (t : Bool) (K : PySem.W.Frag) (a b : Addr) : It :=
  ⟨fun i H => ∃ xs ys x y, SqX t K H a xs /\ SqX t K H b ys /\ xs[i]? = some x /\ ys[i]? = some y,
   fun i H v H' => ∃ p x y, v = .ref p /\ H p = none /\ H' = upd H p (.tup [x, y]) /\ (∀ xs, SqX t K H a xs -> xs[i]? = some x) /\ ∀ ys, SqX t K H b ys -> ys[i]? = some y,
   fun i H => ∃ xs ys, SqX t K H a xs /\ SqX t K H b ys /\ (xs.length <= i \/ ys.length <= i)⟩
def itX (t : Bool) (i a : Addr) (k : Nat) (h : Heap) : Prop := match t with
 | false => h.IsListIter i a k
 | true => h.IsTupleIter i a k
def sqX (t : Bool) (a : Addr) (h : Heap) (vs : Array Value) : Prop := match t with
 | false => h.IsList a vs
 | true => h.IsTuple a vs
theorem step_X {prog : Program} {w : World} (t : Bool) (i a : Addr) : Step prog w i a (itX t i a) (sqX t a) := by
 cases t
 ·exact step_list i a
 ·exact step_tup i a
section
variable {X : Cx} {pins : List (Addr × Obj)} {σ : St} {H : Hp} {s : Shared}
theorem Inv.sqX {t : Bool} {a : Addr} {xs : List V} (I : Inv X pins σ H s) (h : SqX t X.K H a xs) : ∃ vs : List Value, Vals xs vs /\ L2.sqX t a s.heap vs.toArray /\ xs.length <= sizeLine := by
 cases t
 ·obtain ⟨its, r, p, hz⟩ := I.list h
  exact ⟨its, r, p.isList, hz⟩
 ·obtain ⟨its, r, p, hz⟩ := I.tuple h
  exact ⟨its, r, p, hz⟩
theorem Inv.sqX_inj {t : Bool} {a : Addr} {xs ys : List V} (I : Inv X pins σ H s) (h : SqX t X.K H a xs) (h' : SqX t X.K H a ys) : xs = ys := by
 cases t
 ·exact I.list_inj h h'
 ·exact I.tuple_inj h h'
end
theorem turn_zip {P : Program} {w : World} {K : PySem.W.Frag} {es : List Expr} {ek : Nat} {pos : Pos} (t : Bool) (a b z TI TO i1 i2 : Addr) (D : ZipApart z TI TO i1 i2 a b) :
  Turn P w K (.Tuple es ek pos) (Itz t K a b) [z, TI, TO, i1, i2] z (fun i h => IsZip h z TI TO .none /\ IsPair h TI (.ref i1) (.ref i2) /\ (∃ x y, IsPair h TO x y) /\ itX t i1 a i h /\ itX t i2 b i h) where
 mem := by simp
 obj := fun i h st c hc => by
  obtain ⟨hz, hI, ⟨x, y, hO⟩, j1, j2⟩ := st
  simp only [List.mem_cons, List.not_mem_nil, or_false] at hc
  rcases hc with e | e | e | e | e <;> subst e
  ·exact ⟨_, hz, fun v u => by cases u⟩
  ·exact ⟨_, hI, fun v u => by cases u⟩
  ·exact ⟨_, hO, fun v u => by cases u⟩
  ·exact (step_X (prog := P) (w := w) t _ a).obj _ _ j1
  ·exact (step_X (prog := P) (w := w) t _ b).obj _ _ j2
 keep := fun i h h' st k => by
  obtain ⟨hz, hI, ⟨x, y, hO⟩, j1, j2⟩ := st
  exact ⟨k z (by simp) _ hz, k TI (by simp) _ hI, ⟨x, y, k TO (by simp) _ hO⟩, (step_X (prog := P) (w := w) t i1 a).itk _ _ _ j1 fun o e => k i1 (by simp) o e, (step_X (prog := P) (w := w) t i2 b).itk _ _ _ j2 fun o e => k i2 (by simp) o e⟩
 item := by
  intro X hP hw hK hc i pins s σ H E I hf st hg
  subst hP hw hK
  obtain ⟨xs, ys, x, y, qa, qb, hx, hy⟩ := hg
  obtain ⟨hz, hI, ⟨x0, y0, hO⟩, j1, j2⟩ := st
  obtain ⟨va, ra, pa, za⟩ := I.sqX qa
  obtain ⟨vb, rb, pb, zb⟩ := I.sqX qb
  obtain ⟨u, hu, ru⟩ := ra.get hx
  obtain ⟨v, hv, rv⟩ := rb.get hy
  have hT : s.TypeIs (.ref z) "zip" := ⟨_, hz, rfl⟩
  unfold pyNext
  refine wpAny_bind (wpAny_attempt (wpAny_callSpecial?_slot (name := Str.ofString "__next__") hT F.slot_zip_next (wpAny_call_entry F.slot_zip_next hT F.entry_zip_next (zn_item (step_X t i1 a) (step_X t i2 b) D hz hI hO j1 j2 pa pb (x := u) (y := v) (by simpa using hu) (by simpa using hv)
   fun h' a1 a2 a3 a4 a5 a6 a7 => wpAny_pure ⟨_, rfl, ?_⟩) (F.args_zip_next_1 _))))
  refine wpAny_letOwnedTupleGo_zip (s := { s with heap := h' }) a1 fun h2 b1 b2 => ?_
  have hn : ∀ c ∈ [z, TI, TO, i1, i2], c ≠ s.heap.objs.size := fun c hc' e => by
   obtain ⟨o, ho, _⟩ : ∃ o, s.heap.get? c = some o /\ True := by
    simp only [List.mem_cons, List.not_mem_nil, or_false] at hc'
    rcases hc' with q | q | q | q | q
    ·exact ⟨_, q ▸ hz, trivial⟩
    ·exact ⟨_, q ▸ hI, trivial⟩
    ·exact ⟨_, q ▸ hO, trivial⟩
    ·obtain ⟨o, ho, _⟩ := (step_X (prog := X.prog) (w := X.w) t i1 a).obj _ _ j1; exact ⟨o, q ▸ ho, trivial⟩
    ·obtain ⟨o, ho, _⟩ := (step_X (prog := X.prog) (w := X.w) t i2 b).obj _ _ j2; exact ⟨o, q ▸ ho, trivial⟩
   exact absurd (Heap.lt_size ho) (by rw [e]; exact Nat.lt_irrefl _)
  have I0 : Inv X pins σ (upd H s.heap.objs.size (.tup [x, y])) { s with heap := s.heap.push { cls := .type "tuple", data := .seq #[u, v] } } :=
   I.laid (t' := s.toks) (fun c o e => Heap.get?_push_of_some _ e) (Nat.le_refl _) ⟨by show 2 <= sizeLine; decide, [u, v], .cons ru (.cons rv .nil), IsTup.new _ _⟩
  have hf0 : ∀ c ∈ [z, TI, TO, i1, i2], FpOk X pins (upd H s.heap.objs.size (.tup [x, y])) c := fun c hc' => ⟨by rw [upd_ne (hn c hc')]; exact (hf c hc').1, (hf c hc').2⟩
  have I1 : Inv X pins σ (upd H s.heap.objs.size (.tup [x, y])) { s with heap := h2 } := Inv.turnedL (s := { s with heap := s.heap.push { cls := .type "tuple", data := .seq #[u, v] } }) (t' := s.toks) (ch := [z, TI, TO, i1, i2]) I0 hf0 fun c o hc' e => by
   simp only [List.mem_cons, List.not_mem_nil, or_false, not_or] at hc'
   obtain ⟨c1, c2, c3, c4, c5⟩ := hc'
   by_cases hcn : c = s.heap.objs.size
   ·subst hcn
    have e' : (s.heap.push { cls := .type "tuple", data := .seq #[u, v] }).get? s.heap.objs.size = some o := e
    rw [Heap.get?_push_size _ rfl] at e'
    cases e'
    exact b2.extBut _ _ c1 a5
   ·refine b2.extBut _ _ c1 (a7 c o c1 c3 c4 c5 ?_)
    have e' : (s.heap.push { cls := .type "tuple", data := .seq #[u, v] }).get? c = some o := e
    rw [Heap.get?_push_ne _ _ _ hcn] at e'
    exact e'
  refine ⟨.ref s.heap.objs.size, _, I1, rfl, ⟨_, x, y, rfl, I.hok.fresh (Nat.le_refl _), rfl, fun xs' h => by rw [I.sqX_inj h qa]; exact hx, fun ys' h => by rw [I.sqX_inj h qb]; exact hy⟩, ⟨b1, ?_, ⟨u, v, b2.extBut _ _ D.TOz a2⟩, ?_, ?_⟩, fun c hc' => (hf0 c hc').1⟩
  ·exact b2.extBut _ _ D.TIz (a7 _ _ D.TIz D.TITO D.TIi1 D.TIi2 hI)
  ·exact (step_X (prog := X.prog) (w := X.w) t i1 a).itk _ _ _ a3 fun o e => b2.extBut _ _ D.i1z e
  ·exact (step_X (prog := X.prog) (w := X.w) t i2 b).itk _ _ _ a4 fun o e => b2.extBut _ _ D.i2z e
 done := by
  intro X hP hw hK hc i pins s σ H E I hf st hg
  subst hP hw hK
  obtain ⟨xs, ys, qa, qb, hl⟩ := hg
  obtain ⟨hz, hI, ⟨x0, y0, hO⟩, j1, j2⟩ := st
  obtain ⟨va, ra, pa, za⟩ := I.sqX qa
  obtain ⟨vb, rb, pb, zb⟩ := I.sqX qb
  have la := ra.length
  have lb := rb.length
  have hT : s.TypeIs (.ref z) "zip" := ⟨_, hz, rfl⟩
  unfold pyNext
  refine wpAny_bind (wpAny_attempt (wpAny_callSpecial?_slot (name := Str.ofString "__next__") hT F.slot_zip_next (wpAny_call_entry F.slot_zip_next hT F.entry_zip_next (zn_end (step_X t i1 a) (step_X t i2 b) D (show X.A.in1.handled = none from I.ok.hd hc) hz hI hO j1 j2 pa pb
   (hl.elim (fun h => .inl (by simp; omega)) fun h => .inr (by simp; omega)) fun h' e k he => ?_) (F.args_zip_next_1 _))))
  obtain ⟨o, ho, hce⟩ := he
  refine wpAny_bind (wpAny_isInstance (T := "StopIteration") (b := true) ⟨o, ho, hce⟩ isSubtype_stop (wpAny_pure ⟨rfl, I.turnedL (t' := s.toks) hf fun c o hc' e => ?_⟩))
  simp only [List.mem_cons, List.not_mem_nil, or_false, not_or] at hc'
  exact k c o hc'.1 hc'.2.2.1 hc'.2.2.2.1 hc'.2.2.2.2 e
 self := fun _ _ _ _ _ st h => wpAny_pyIter_zip st.1 h
theorem zapart {n a b : Nat} (ha : a < n) (hb : b < n) : ZipApart (n + 4) (n + 2) (n + 3) n (n + 1) a b := by
 constructor <;> (intro (e : (_ : Nat) = _); omega)
theorem boot_zip' : bootBuiltins "zip" = some (.type "zip") := by decide +kernel
section
variable {X : Cx}
def iZip (K : PySem.W.Frag) (ta : TA) : TI := fun σ H R => ta σ H fun vs H1 => ∃ (t : Bool) (a b : Addr), vs = [.ref a, .ref b] /\ (∃ xs, SqX t K H1 a xs) /\ (∃ ys, SqX t K H1 b ys) /\ R (Itz t K a b) H1
theorem pi_zip {a b : Expr} {ta : TA} {es : List Expr} {ek : Nat} {p pos pos' : Pos} (hg : Gl X "zip") (hm : X.mg "zip" = none) (ha : PA X [a, b] ta) (hs : starEach [a, b] X.env = [(false, eval a X.env), (false, eval b X.env)] := by rfl) (hs2 : starEach [b] X.env = [(false, eval b X.env)] := by rfl) :
  PI X (.Tuple es ek pos') (.Call (.Name "zip" p) [a, b] [] pos) (iZip X.K ta) := by
 intro pins s σ H R I h
 refine Call_ (ld_blt I hg hm boot_zip' (PyProof.Rows.callWith_type1 (thn (ha pos pins s σ H _ I h) fun us s1 ⟨vs, H1, I1, r1, q1⟩ => ?_) (by rw [hs, hs2]) (by rw [hs2]; rfl)))
 obtain ⟨t, a, b, e, ⟨xs, hx⟩, ⟨ys, hy⟩, q⟩ := q1
 subst e
 obtain ⟨u, w', rfl, rx, ry⟩ := vals2 r1
 cases rx
 cases ry
 obtain ⟨va, ra, pa, za⟩ := I1.sqX hx
 obtain ⟨vb, rb, pb, zb⟩ := I1.sqX hy
 have la : a < s1.heap.objs.size := by
  cases t
  ·obtain ⟨o, e, _⟩ := pa; exact Heap.lt_size e
  ·obtain ⟨o, e, _⟩ := pa; exact Heap.lt_size e
 have lb : b < s1.heap.objs.size := by
  cases t
  ·obtain ⟨o, e, _⟩ := pb; exact Heap.lt_size e
  ·obtain ⟨o, e, _⟩ := pb; exact Heap.lt_size e
 have fin : ∀ h' : Heap, IsZip h' (s1.heap.objs.size + 4) (s1.heap.objs.size + 2) (s1.heap.objs.size + 3) .none -> IsPair h' (s1.heap.objs.size + 2) (.ref s1.heap.objs.size) (.ref (s1.heap.objs.size + 1)) -> IsPair h' (s1.heap.objs.size + 3) .none .none ->
   itX t s1.heap.objs.size a 0 h' -> itX t (s1.heap.objs.size + 1) b 0 h' -> h'.objs.size = s1.heap.objs.size + 5 -> (∀ c o, s1.heap.get? c = some o -> h'.get? c = some o) ->
   wpAny (model X.prog X.w) X.A (pyIter (.ref (s1.heap.objs.size + 4))) (PIE X pins σ (.Tuple es ek pos') R) X.xe { s1 with heap := h' } := by
  intro h' hz hI hO j1 j2 _ k
  refine wpAny_pyIter_zip hz ?_
  refine ⟨_, [s1.heap.objs.size + 4, s1.heap.objs.size + 2, s1.heap.objs.size + 3, s1.heap.objs.size, s1.heap.objs.size + 1], _, _, H1, rfl, I1.kept (t' := s1.toks) k, turn_zip t a b _ _ _ _ _ ?_, ⟨hz, hI, ⟨_, _, hO⟩, j1, j2⟩, fun c hc => ?_, q⟩
  ·exact zapart la lb
  ·have : s1.heap.objs.size <= c := by
    simp only [List.mem_cons, List.not_mem_nil, or_false] at hc
    rcases hc with e | e | e | e | e <;> (rw [e]; first | exact Nat.le_refl _ | exact Nat.le_add_right _ _)
   exact I1.fpOk this (I1.hok.fresh this)
 cases t
 ·exact call_zip_2 pa pb fin
 ·exact call_zipT pa pb fin
end
section
variable {X : Cx}
theorem call_max1 (hc : X.calm = true) : CallR X (.builtin "max") (fun xs H Q => ∃ (p : Addr) (ns : List Int), xs = [.ref p] /\ SqL X.K H p (ns.map V.int) /\ 0 < ns.length /\ ∀ M, M ∈ ns -> (∀ a ∈ ns, a <= M) -> Q (.int M) H) := by
 intro pins s σ H xs us Q I r h
 obtain ⟨p, ns, rfl, hq, hn, q⟩ := h
 obtain ⟨u, rfl, rx⟩ := vals1 r
 cases rx
 obtain ⟨its, rv, pl, hz⟩ := I.list hq
 have hi : IntsAre its ns := intsAre_of rv
 obtain ⟨zs, ez⟩ := hi.allInts.items
 have en : ns = zs.toList.map (·.1) := by rw [<- hi.numsOf, <- nums_intItems, <- ez]
 have hz0 : 0 < zs.size := by rw [en, List.length_map, Array.length_toList] at hn; exact hn
 have hl := pl.isList
 rw [ez] at hl
 refine max_intList (I.ok.hd hc) hl hz0 fun v h' tk hv hk => ?_
 obtain ⟨t, rfl⟩ := intItems_at hv
 obtain ⟨h1, h2⟩ := argBest_gt (numAt zs) (zs.size - 1)
 refine ⟨.int _, H, I.kept hk, ⟨t, rfl⟩, q _ ?_ fun a ha => ?_⟩
 ·rw [en, numAt_eq]
  exact getD_mem (by rw [List.length_map, Array.length_toList]; omega)
 ·rw [en] at ha
  obtain ⟨j, hj, rfl⟩ := mem_getD ha
  rw [List.length_map, Array.length_toList] at hj
  have := h2 j (by omega)
  rw [numAt_eq zs j] at this
  exact this
end
end L2
namespace L2
open PySem PySem.Spec PyProof.Rows
theorem vals_ofInts {us : List Value} {ns : List Int} (h : IntsAre us ns) : Vals (ns.map V.int) us := by
 induction h with
 | nil => exact .nil
 | cons n t _ ih => exact .cons ⟨t, rfl⟩ ih
section
variable {X : Cx}
theorem call_sortedI : CallR X (.builtin "sorted") (fun xs H Q => ∃ (p : Addr) (ns : List Int), xs = [.ref p] /\ SqL X.K H p (ns.map V.int) /\ ns.length < 64 /\
  ∀ (ns' : List Int) (l : Addr), ns'.Perm ns -> ns'.Pairwise (· <= ·) -> H l = none -> Q (.ref l) (upd H l (.lst (ns'.map V.int)))) := by
 intro pins s σ H xs us Q I r h
 obtain ⟨p, ns, rfl, hq, h64, q⟩ := h
 obtain ⟨u, rfl, rx⟩ := vals1 r
 cases rx
 obtain ⟨its, rv, pl, hz⟩ := I.list hq
 have hi : IntsAre its ns := intsAre_of rv
 have hll := rv.length
 rw [List.length_map] at hll
 refine sorted_ints pl.isList hi (by omega) fun out ns' a1 a2 a3 => ?_
 obtain ⟨e, he⟩ := sortedAll_at s.heap its out
 have hlen := a2.length_eq
 refine ⟨.ref (s.heap.objs.size + 1), _, I.laid (t' := s.toks) (fun b o e => sortedAll_old e) (Nat.le_succ _) (show ObjOk X.prog X.w _ _ _ (.lst (ns'.map V.int)) from ⟨?_, out.toList, e, vals_ofInts a1, he⟩), rfl, q ns' _ a2 a3 (I.hok.fresh (Nat.le_succ _))⟩
 rw [List.length_map, hlen]
 exact Nat.le_of_lt (Nat.lt_trans h64 (by decide))
end
end L2
namespace L2
open PySem PySem.Spec PyProof.Rows
def Its (x : Str) : It := ⟨fun i _ => i < x.cps.size, fun i H v H' => H' = H /\ ∃ c, x.cps[i]? = some c /\ v = .str ⟨#[c]⟩, fun i _ => x.cps.size <= i⟩
theorem turn_strA {P : Program} {w : World} {K : PySem.W.Frag} {tg : Expr} (it : Addr) (x : Str) (t : Tok) : Turn P w K tg (Its x) [it] it (fun i h => h.IsStrIter it "str_ascii_iterator" x t i) where
 mem := by simp
 obj := fun i h st b hb => by
  have e : b = it := by simpa using hb
  subst e
  obtain ⟨o, e, c, d⟩ := st
  exact ⟨o, e, fun v z => by rw [d] at z; cases z⟩
 keep := fun i h h' st k => let ⟨o, ho, r⟩ := st; ⟨o, k it (by simp) o ho, r⟩
 item := by
  intro X hP hw hK hc i pins s σ H E I hf st hg
  subst hP hw hK
  obtain ⟨f0, f1, f2, f3, f4, f5⟩ := hf it (by simp)
  have W := Walks.strAscii (prog := X.prog) (w := X.w) (I.ok.hd hc) it x t
  refine W.item i s _ _ hg st fun v h' tk hv st' kk => ?_
  obtain ⟨c, u, hc', rfl⟩ := hv
  have I1 : Inv X pins σ H { s with heap := h', toks := tk } := I.turned (fun b o hb e => kk b o (by simpa using hb) e) f0 f1 f3 f4 f5
  obtain ⟨o, e, c1, d⟩ := id st'
  exact ⟨_, rfl, go_of (s := { s with heap := h', toks := tk }) e c1 d (by decide) ⟨.str ⟨#[c]⟩, H, I1, ⟨u, rfl⟩, ⟨rfl, c, hc', rfl⟩, st', fun b hb => (hf b hb).1⟩⟩
 done := by
  intro X hP hw hK hc i pins s σ H E I hf st hg
  subst hP hw hK
  obtain ⟨f0, f1, f2, f3, f4, f5⟩ := hf it (by simp)
  exact wpAny_pyNext_ascii_end (I.ok.hd hc) st (by have : x.cps.size <= i := hg; simp; omega) fun h' eb => ⟨rfl, I.turned (t' := s.toks) (fun b o hb e => eb b o hb e) f0 f1 f3 f4 f5⟩
 self := fun _ _ _ _ _ st h => wpAny_pyIter_striter_ascii st h
theorem turn_strW {P : Program} {w : World} {K : PySem.W.Frag} {tg : Expr} (it : Addr) (x : Str) (t : Tok) : Turn P w K tg (Its x) [it] it (fun i h => h.IsStrIter it "str_iterator" x t i) where
 mem := by simp
 obj := fun i h st b hb => by
  have e : b = it := by simpa using hb
  subst e
  obtain ⟨o, e, c, d⟩ := st
  exact ⟨o, e, fun v z => by rw [d] at z; cases z⟩
 keep := fun i h h' st k => let ⟨o, ho, r⟩ := st; ⟨o, k it (by simp) o ho, r⟩
 item := by
  intro X hP hw hK hc i pins s σ H E I hf st hg
  subst hP hw hK
  obtain ⟨f0, f1, f2, f3, f4, f5⟩ := hf it (by simp)
  have W := Walks.strWide (prog := X.prog) (w := X.w) (I.ok.hd hc) it x t
  refine W.item i s _ _ hg st fun v h' tk hv st' kk => ?_
  obtain ⟨c, u, hc', rfl⟩ := hv
  have I1 : Inv X pins σ H { s with heap := h', toks := tk } := I.turned (fun b o hb e => kk b o (by simpa using hb) e) f0 f1 f3 f4 f5
  obtain ⟨o, e, c1, d⟩ := id st'
  exact ⟨_, rfl, go_of (s := { s with heap := h', toks := tk }) e c1 d (by decide) ⟨.str ⟨#[c]⟩, H, I1, ⟨u, rfl⟩, ⟨rfl, c, hc', rfl⟩, st', fun b hb => (hf b hb).1⟩⟩
 done := by
  intro X hP hw hK hc i pins s σ H E I hf st hg
  subst hP hw hK
  obtain ⟨f0, f1, f2, f3, f4, f5⟩ := hf it (by simp)
  exact wpAny_pyNext_wide_end (I.ok.hd hc) st (by have : x.cps.size <= i := hg; simp; omega) fun h' eb => ⟨rfl, I.turned (t' := s.toks) (fun b o hb e => eb b o hb e) f0 f1 f3 f4 f5⟩
 self := fun _ _ _ _ _ st h => wpAny_pyIter_striter_wide st h
section
variable {X : Cx}
def rFind : V -> List V -> Hp -> VK -> Prop := fun x vs H Q => ∃ i j, x = .str i /\ vs = [.str j] /\ ∀ n : Int, Q (.int n) H
theorem mt_find : MtM X "str.find" rFind := by
 intro pins s σ H x vs v us Q I rx rv h
 obtain ⟨i, j, rfl, rfl, q⟩ := h
 obtain ⟨t, rfl⟩ := rx
 obtain ⟨u, rfl, t', rfl⟩ := rv.one
 exact call_gives F.slot_str_find (typeIs_str _ _ _) F.entry_str_find (F.args_str_find_2 _ _) (gives_str_find i j t t') ⟨.int _, H, I.tok _, ⟨_, rfl⟩, q _⟩
end
section
variable {X : Cx}
def rSlS : V -> Option Int -> Option Int -> Hp -> VK -> Prop := fun x lo hi H Q => ∃ z, x = .str z /\ z.length <= sizeLine /\ Q (.str (Txt.slice z lo hi)) H
theorem sl_str : SlR X rSlS := by
 intro pins s σ H x v vl vu lo hi sl Q I rx hs pl pu h
 obtain ⟨z, rfl, hz, q⟩ := h
 obtain ⟨t, rfl⟩ := rx
 obtain ⟨o, ho, hc, hd⟩ := hs
 refine ⟨"str", _, F.slot_str_getitem.lookup, typeIs_str _ _ _, ?_⟩
 have fin : ∀ t' k, EP X pins σ Q (.str (Txt.slice z lo hi) t') { s with toks := k } := fun t' k => ⟨.str _, H, I.tok k, ⟨t', rfl⟩, q⟩
 cases pl with
 | none => cases pu with
  | none => exact wpAny_getItem_str_slice (l := none) (u := none) (st := none) ⟨o, ho, hc, hd⟩ rfl (post_val_or_str ⟨Nat.le_trans (Txt.slice_le z _ _) hz, fin⟩)
  | int j uj => exact wpAny_getItem_str_slice (l := none) (u := some (j, uj)) (st := none) ⟨o, ho, hc, hd⟩ rfl (post_val_or_str ⟨Nat.le_trans (Txt.slice_le z _ _) hz, fin⟩)
 | int i ui => cases pu with
  | none => exact wpAny_getItem_str_slice (l := some (i, ui)) (u := none) (st := none) ⟨o, ho, hc, hd⟩ rfl (post_val_or_str ⟨Nat.le_trans (Txt.slice_le z _ _) hz, fin⟩)
  | int j uj => exact wpAny_getItem_str_slice (l := some (i, ui)) (u := some (j, uj)) (st := none) ⟨o, ho, hc, hd⟩ rfl (post_val_or_str ⟨Nat.le_trans (Txt.slice_le z _ _) hz, fin⟩)
theorem strsAre_of {ss : List Str} : ∀ {us : List Value}, Vals (ss.map V.str) us -> StrsAre us ss := by
 induction ss with
 | nil => intro us r; rw [List.map_nil] at r; cases r; exact .nil
 | cons n ns ih =>
  intro us r
  rw [List.map_cons] at r
  cases r with
  | cons r1 r2 =>
   obtain ⟨t, e⟩ := r1
   subst e
   exact .cons n t (ih r2)
theorem vals_ofStrs {us : List Value} {ss : List Str} (h : StrsAre us ss) : Vals (ss.map V.str) us := by
 induction h with
 | nil => exact .nil
 | cons n t _ ih => exact .cons ⟨t, rfl⟩ ih
theorem call_sortedS : CallR X (.builtin "sorted") (fun xs H Q => ∃ (p : Addr) (ss : List Str), xs = [.ref p] /\ SqL X.K H p (ss.map V.str) /\ ss.length < 64 /\
  ∀ (ss' : List Str) (l : Addr), ss'.Perm ss -> sortedS ss' = true -> H l = none -> Q (.ref l) (upd H l (.lst (ss'.map V.str)))) := by
 intro pins s σ H xs us Q I r h
 obtain ⟨p, ns, rfl, hq, h64, q⟩ := h
 obtain ⟨u, rfl, rx⟩ := vals1 r
 cases rx
 obtain ⟨its, rv, pl, hz⟩ := I.list hq
 have hi : StrsAre its ns := strsAre_of rv
 have hll := rv.length
 rw [List.length_map] at hll
 refine sorted_strs pl.isList hi (by omega) fun out ns' a1 a2 a3 => ?_
 obtain ⟨e, he⟩ := sortedAll_at s.heap its out
 have hlen := a2.length_eq
 refine ⟨.ref (s.heap.objs.size + 1), _, I.laid (t' := s.toks) (fun b o e => sortedAll_old e) (Nat.le_succ _) (show ObjOk X.prog X.w _ _ _ (.lst (ns'.map V.str)) from ⟨?_, out.toList, e, vals_ofStrs a1, he⟩), rfl, q ns' _ a2 a3 (I.hok.fresh (Nat.le_succ _))⟩
 rw [List.length_map, hlen]
 exact Nat.le_of_lt (Nat.lt_trans h64 (by decide))
def catS (ss : List Str) : List Nat := (ss.map fun s => s.cps.toList).flatten
theorem toks_of : ∀ {us : List Value} {ss : List Str}, StrsAre us ss -> ∃ l : List (Str × Tok), us = strValues l /\ l.map (·.1) = ss
 | _, _, .nil => ⟨[], rfl, rfl⟩
 | _, _, .cons y t h => by
  obtain ⟨l, e1, e2⟩ := toks_of h
  exact ⟨(y, t) :: l, by rw [e1]; rfl, by simp [e2]⟩
theorem join_cat : ∀ ss : List Str, (Str.join ⟨#[]⟩ ss).cps.toList = catS ss
 | [] => rfl
 | [x] => by simp [Str.join, catS]
 | x :: y :: r => by
  have ih := join_cat (y :: r)
  show ((x ++ (⟨#[]⟩ : Str) ++ Str.join ⟨#[]⟩ (y :: r)) : Str).cps.toList = _
  have e : ∀ a b : Str, (a ++ b).cps.toList = a.cps.toList ++ b.cps.toList := fun a b => by
   show (a.cps ++ b.cps).toList = _
   simp
  rw [e, e, ih]
  simp [catS]
theorem sum_len : ∀ (ss : List Str) (n : Nat), ss.foldl (fun a s => a + s.length + 0) n = n + (catS ss).length
 | [], n => by simp [catS]
 | s :: r, n => by
  rw [List.foldl_cons, sum_len r]
  simp [catS, Str.length]
  omega
def rJoin (K : PySem.W.Frag) : V -> List V -> Hp -> VK -> Prop := fun x vs H Q => ∃ p ss, x = .str ⟨#[]⟩ /\ vs = [.ref p] /\ SqL K H p (ss.map V.str) /\ (catS ss).length <= 100000 /\ ∀ z : Str, z.cps.toList = catS ss -> Q (.str z) H
theorem mt_join : MtM X "str.join" (rJoin X.K) := by
 intro pins s σ H x vs v us Q I rx rv h
 obtain ⟨p, ss, rfl, rfl, hq, hz, q⟩ := h
 obtain ⟨t, rfl⟩ := rx
 obtain ⟨u, rfl, ru⟩ := rv.one
 cases ru
 obtain ⟨its, rv, pl, hz'⟩ := I.list hq
 obtain ⟨l, e1, e2⟩ := toks_of (strsAre_of rv)
 have hl := pl.isList
 rw [e1] at hl
 have hlen : ((l.map (·.1)).toArray.foldl (fun a s => a + s.length + (⟨#[]⟩ : Str).length) 0) = (catS ss).length := by
  rw [e2, List.foldl_toArray]
  show ss.foldl (fun a s => a + s.length + 0) 0 = _
  rw [sum_len]
  omega
 refine call_meets F.slot_str_join (typeIs_str _ _ _) F.entry_str_join (F.args_str_join_2 _ _) (meets_str_join_list ⟨#[]⟩ t p l (by
  rw [hlen]
  show decide (_ > sizeLine) = false
  exact decide_eq_false (Nat.not_lt.mpr (Nat.le_trans hz (by decide))))) ⟨hl, ?_⟩
 have hj : ∀ z : Str, z = Str.join ⟨#[]⟩ ss -> ∀ t' k, EP X pins σ Q (.str z t') { s with toks := k } := fun z e t' k => ⟨.str z, H, I.tok k, ⟨t', rfl⟩, q z (by rw [e, join_cat])⟩
 have hlz : (Str.join ⟨#[]⟩ ss).length <= sizeLine := by
  show (Str.join ⟨#[]⟩ ss).cps.size <= _
  rw [<- Array.length_toList, join_cat]
  exact Nat.le_trans hz (by decide)
 match l, e2 with
 | [], e2 => exact ⟨by rw [StrLaws.glued_eq_join]; exact Nat.zero_le _, hj _ (by rw [<- e2]; rw [StrLaws.glued_eq_join]) _ _⟩
 | [pp], e2 => exact hj _ (by rw [<- e2]; rfl) _ s.toks
 | a :: b :: r, e2 => exact ⟨by rw [StrLaws.glued_eq_join, e2]; exact hlz, hj _ (by rw [StrLaws.glued_eq_join, e2]) _ _⟩
end
end L2
namespace L2
open PySem PySem.Spec PyProof.Rows
theorem strs_len : ∀ {vs : List Value} {ss : List Str}, StrsAre vs ss -> vs.length = ss.length
 | _, _, .nil => rfl
 | _, _, .cons _ _ h => by simp [strs_len h]
end L2
namespace L2
open PySem PySem.Spec PyProof.Rows
theorem strs_at : ∀ {vs : List Value} {ss : List Str}, StrsAre vs ss -> ∀ (i : Nat) (v : Value), vs[i]? = some v -> ∃ t, v = .str (ss.getD i ⟨#[]⟩) t
 | _, _, .nil, i, v, h => by simp at h
 | _, _, .cons y t hr, 0, v, h => by
  simp at h
  exact ⟨t, by rw [<- h]; rfl⟩
 | _, _, .cons y t hr, i + 1, v, h => by
  simp only [List.getElem?_cons_succ] at h
  obtain ⟨u, e⟩ := strs_at hr i v h
  exact ⟨u, by rw [e]; rfl⟩
end L2
namespace L2
open PySem PySem.Spec PyProof.Rows
section
variable {X : Cx}
theorem Inv.draw {pins : List (Addr × Obj)} {σ : St} {H : Hp} {s : Shared} (I : Inv X pins σ H s) (d : Drawn) : Inv X pins σ H { s with drawn := d } :=
 ⟨I.ok, I.os, I.bare, I.base, I.loc, I.cell, I.free, I.freeC, I.pin, I.hok, I.len⟩
def repS (x : Str) (n : Int) : Str := ⟨(List.replicate n.toNat x.cps.toList).flatten.toArray⟩
def rMulS : R2 := fun x y H Q => ∃ (z : Str) (n : Int), x = .str z /\ y = .int n /\ z.length <= 1000 /\ n <= 1000 /\ -1000 <= n /\ Q (.str (repS z n)) H
theorem fold_rep (x : Array Nat) : ∀ n (acc : Array Nat), ((List.replicate n x).foldl (· ++ ·) acc) = (acc.toList ++ (List.replicate n x.toList).flatten).toArray
 | 0, acc => by simp
 | n + 1, acc => by
  rw [List.replicate_succ, List.foldl_cons, fold_rep x n, List.replicate_succ, List.flatten_cons]
  simp
theorem op_mulS : OpR X (binaryOp .Mult) rMulS := by
 intro pins s σ H x y v u Q I rx ry h
 obtain ⟨z, n, rfl, rfl, hz, n1, n0, q⟩ := h
 obtain ⟨t, rfl⟩ := rx
 obtain ⟨t', rfl⟩ := ry
 have fin : ∀ (w : Str) (k : Tok) (tk : Nat), w = repS z n -> EP X pins σ Q (.str w k) { s with toks := tk } := fun w k tk e => ⟨.str w, H, I.tok tk, ⟨k, rfl⟩, by rw [e]; exact q⟩
 have pos : ∀ m : Nat, m <= 1000 -> z.length * m <= 1000000 := fun m hm => Nat.mul_le_mul hz hm
 refine P.mul_str (by rw [decide_eq_false (by omega), decide_eq_false (by omega)]; rfl) (fun h1 _ h2 => ?_) (fun h1 _ => ?_) ?_
 ·have : (2 ^ 63 - 1) / n >= 1000 := by
   have h3 : n <= 1000 := n1
   have h4 : 0 < n := by omega
   rw [ge_iff_le, Int.le_ediv_iff_mul_le h4]
   omega
  omega
 ·show decide (_ > sizeLine) = false
  refine decide_eq_false (Nat.not_lt.mpr (Nat.le_trans (pos n.toNat (by omega)) (by decide)))
 ·split
  ·refine ⟨by decide, fin _ _ _ ?_⟩
   unfold repS
   rw [show n.toNat = 0 by omega]
   rfl
  ·split
   ·rename_i h1 h2
    refine fin _ _ s.toks ?_
    rw [Bool.or_eq_true] at h2
    unfold repS
    rcases h2 with h3 | h3
    ·have : n = 1 := by simpa using h3
     rw [this]
     simp
    ·have hz0 : z.cps = #[] := by
      have : z.cps.size = 0 := by simpa [Str.length] using h3
      exact Array.size_eq_zero_iff.mp this
     have e : ∀ m : Nat, (List.replicate m ([] : List Nat)).flatten = [] := fun m => by
      induction m with
      | zero => rfl
      | succ m ih => rw [List.replicate_succ, List.flatten_cons, ih]; rfl
     obtain ⟨zc⟩ := z
     have hz0 : zc = #[] := hz0
     subst hz0
     show (⟨#[]⟩ : Str) = ⟨(List.replicate n.toNat ([] : List Nat)).flatten.toArray⟩
     rw [e]
   ·refine ⟨?_, fin _ _ _ ?_⟩
    ·show (List.foldl (fun x1 x2 => x1 ++ x2) #[] (List.replicate n.toNat z.cps)).size <= _
     rw [fold_rep, List.size_toArray, List.length_append, len_rep]
     show 0 + n.toNat * z.cps.toList.length <= _
     have := pos n.toNat (by omega)
     rw [Nat.mul_comm] at this
     have e : z.cps.toList.length = z.length := by simp [Str.length]
     rw [e]
     exact Nat.le_trans (by omega) (show 1000000 <= sizeLine by decide)
    ·unfold repS
     rw [fold_rep]
     simp
def rSlW (K : PySem.W.Frag) : V -> Option Int -> Option Int -> Hp -> VK -> Prop := fun x lo hi H Q => ∃ a xs, x = .ref a /\ SqT K H a xs /\ ∀ p H', Same H H' -> SqT K H' p (cutV xs lo hi) -> Q (.ref p) H'
theorem getItem_whole {prog : Program} {w : World} {A : Around} {E : Value -> Shared -> Prop} {s : Shared} {t sl : Addr} {items : Array Value} {vl vu : Value} {lo hi : Option Int} {Q : Value -> Shared -> Prop} (ht : IsTup s.heap t items) (hs : s.heap.IsSliceOf sl vl vu .none) (pl : IsPart vl lo) (pu : IsPart vu hi)
  (hw : HT.sIx items.size 0 lo = 0 /\ HT.sIx items.size items.size hi = items.size) (h : Q (.ref t) s) : wpAny (model prog w) A (getItem (.ref t) (.ref sl)) Q E s := by
 obtain ⟨os, hos, hcs, hds⟩ := id hs
 have hTs : s.TypeIs (.ref sl) "slice" := ⟨os, hos, hcs⟩
 unfold getItem
 try with_reducible refine wpAny_holding ?_
 first | refine wpAny_bind (wpAny_pure ?_) | skip
 refine wpAny_bind (wpAny_sequenceKey ht.typeIs (by decide) ?_)
 refine wpAny_bind (wpAny_callSpecial?_slot (name := Str.ofString "__getitem__") ht.typeIs PyProof.Rows.slot_tuple_getitem (wpAny_call_entry PyProof.Rows.slot_tuple_getitem ht.typeIs entry_tuple_getitem ?_ (args_tuple_getitem _ _)))
 show wpAny _ _ (Builtin.Tuple.tupleItemsOf (.ref t) >>= _) _ _ s
 refine wpAny_bind (tupleItemsOf_ ht (wpAny_bind (wpAny_typeOf hTs ?_)))
 rw [if_pos (by decide)]
 refine wpAny_bind (HT.sliceApplied_gen hs pl pu ?_)
 rw [hw.1, hw.2]
 dsimp only
 rw [if_pos (by simp)]
 unfold Builtin.Tuple.tupleIsExact
 refine wpAny_bind (wpAny_bind (wpAny_typeOf ht.typeIs (wpAny_pure ?_)))
 rw [if_pos (by decide)]
 exact wpAny_bind (wpAny_rule (wpAny_pure ⟨_, rfl, wpAny_pure h⟩))
theorem cut_all {xs : List V} {lo hi : Option Int} (hw : HT.sIx xs.length 0 lo = 0 /\ HT.sIx xs.length xs.length hi = xs.length) : cutV xs lo hi = xs := by
 unfold cutV
 rw [hw.1, hw.2, List.drop_zero, Nat.sub_zero, List.take_length]
theorem sl_tupW : SlR X (rSlW X.K) := by
 intro pins s σ H x v vl vu lo hi sl Q I rx hs pl pu h
 obtain ⟨a, xs, rfl, hx, q⟩ := h
 by_cases hw : HT.sIx xs.length 0 lo = 0 /\ HT.sIx xs.length xs.length hi = xs.length
 ·cases rx
  obtain ⟨its, r, ht, hz⟩ := I.tuple hx
  have hlen : its.toArray.size = xs.length := by rw [List.size_toArray]; exact r.length.symm
  refine ⟨"tuple", _, PyProof.Rows.slot_tuple_getitem.lookup, ht.typeIs, ?_⟩
  exact getItem_whole ht hs pl pu (by rw [hlen]; exact hw) ⟨.ref a, H, I, rfl, q a H (fun _ _ e => e) (by rw [cut_all hw]; exact hx)⟩
 ·exact sl_tup pins s σ H _ v vl vu lo hi sl Q I rx hs pl pu ⟨a, xs, rfl, hx, hw, fun p np => q p _ (fun b o e => by rw [upd_ne (ne_of_none e np)]; exact e) (SqT.of upd_same)⟩
end
end L2
namespace L2
open PySem PySem.Spec PyProof.Rows
theorem best_gt (f : Nat -> List Nat) : ∀ n, argBest (fun i j => decide (f j < f i)) n <= n /\ ∀ j, j <= n -> f j <= f (argBest (fun i j => decide (f j < f i)) n)
 | 0 => ⟨Nat.le_refl _, fun j hj => by rw [Nat.le_zero.mp hj]; exact List.le_refl _⟩
 | n + 1 => by
  obtain ⟨h1, h2⟩ := best_gt f n
  show (if decide (f (argBest _ n) < f (n + 1)) = true then n + 1 else argBest _ n) <= n + 1 /\ ∀ j, j <= n + 1 -> f j <= f (if decide (f (argBest _ n) < f (n + 1)) = true then n + 1 else argBest _ n)
  by_cases h : f (argBest (fun i j => decide (f j < f i)) n) < f (n + 1)
  ·rw [if_pos (decide_eq_true h)]
   refine ⟨Nat.le_refl _, fun j hj => ?_⟩
   rcases Nat.lt_or_eq_of_le hj with z | z
   ·exact List.le_trans (h2 j (by omega)) (List.le_of_lt h)
   ·rw [z]; exact List.le_refl _
  ·rw [if_neg (fun z => h (of_decide_eq_true z))]
   refine ⟨by omega, fun j hj => ?_⟩
   rcases Nat.lt_or_eq_of_le hj with z | z
   ·exact h2 j (by omega)
   ·rw [z]; exact List.not_lt.mp h
theorem getD_memS {l : List Str} {i : Nat} (h : i < l.length) : l.getD i ⟨#[]⟩ ∈ l := by
 rw [List.getD_eq_getElem?_getD, List.getElem?_eq_getElem h]
 exact List.getElem_mem h
theorem mem_getDS {l : List Str} {a : Str} (h : a ∈ l) : ∃ j, j < l.length /\ l.getD j ⟨#[]⟩ = a := by
 obtain ⟨j, hj, e⟩ := List.mem_iff_getElem.mp h
 exact ⟨j, hj, by rw [List.getD_eq_getElem?_getD, List.getElem?_eq_getElem hj]; exact e⟩
section
variable {prog : Program} {w : World} {A : Around} {E : Value -> Shared -> Prop} {s : Shared} {l : Addr} {its : Array Value} {ss : List Str}
theorem cmp_strs_gt {P : Nat -> Value -> Prop} (val : Nat -> Str) (hval : ∀ i v, P i v -> ∃ t, v = .str (val i) t) : CmpOf prog w A .Gt P (fun i j => decide ((val j).cps.toList < (val i).cps.toList)) := fun i j vi vj s Q E hi hj h => by
 obtain ⟨t, rfl⟩ := hval i vi hi
 obtain ⟨u, rfl⟩ := hval j vj hj
 exact richCompare_gives (op := .Gt) (typeIs_str s _ t) (typeIs_str s _ u) F.slot_str_gt F.entry_str_gt (F.args_str_gt_2 _ _) (gives_str_gt _ _ t u) (fun x => nomatch x) h
theorem iter_listG {Q : Value -> Shared -> Prop} (hl : s.heap.IsList l its)
  (h : ∀ s₂ : Shared, s₂ = { s with heap := s.heap.push { cls := .type "list_iterator", data := .fields #[.ref l, .int 0 0] } } ->
   (s₂.heap.IsListIter s.heap.objs.size l 0 /\ s₂.heap.IsList l its) -> (∀ b ∈ [s.heap.objs.size, l], b < s₂.heap.objs.size) -> l ≠ s.heap.objs.size -> Q (.ref s.heap.objs.size) s₂) :
  wpAny (model prog w) A (pyIter (.ref l)) Q E s := by
 have hlt : l < s.heap.objs.size := by obtain ⟨_, e, _⟩ := hl; exact Heap.lt_size e
 refine wpAny_pyIter_list hl (h _ rfl ⟨⟨_, Heap.get?_push_size _ rfl, rfl, rfl⟩, hl.push _⟩ (fun b hb => ?_) (Nat.ne_of_lt hlt))
 show b < (s.heap.push _).objs.size
 rw [Heap.size_push]
 simp only [List.mem_cons, List.not_mem_nil, or_false] at hb
 rcases hb with z | z
 ·rw [z]; exact Nat.lt_succ_self _
 ·rw [z]; exact Nat.lt_succ_of_lt hlt
theorem max_strs {Q : Value -> Shared -> Prop} (hh : A.handled = none) (hl : s.heap.IsList l its) (hi : StrsAre its.toList ss) (hne : 0 < ss.length)
  (h : ∀ x t h' tk, x ∈ ss -> (∀ y ∈ ss, y.cps.toList <= x.cps.toList) -> (∀ b o, s.heap.get? b = some o -> h'.get? b = some o) -> Q (.str x t) { s with heap := h', toks := tk }) :
  wpAny (model prog w) A (call (.builtin "max") [.ref l]) Q E s := by
 have hsz : its.size = ss.length := by rw [<- Array.length_toList, strs_len hi]
 refine call_max_walk (iter_listG hl fun s₂ e st hfp hlI => ?_)
 subst e
 refine ⟨_, _, _, _, _, _, _, rfl, Walks.list (A := A.in1) hh _ l hlI its, st, hfp, by omega, cmp_strs_gt (fun i => ss.getD i ⟨#[]⟩) (fun i v hv => strs_at hi i v (by rw [Array.getElem?_toList]; exact hv)), fun v h' tk hP hk => ?_⟩
 obtain ⟨t, rfl⟩ := strs_at hi _ v (by rw [Array.getElem?_toList]; exact hP)
 obtain ⟨b1, b2⟩ := best_gt (fun i => (ss.getD i ⟨#[]⟩).cps.toList) (its.size - 1)
 refine h _ t h' tk (getD_memS (by omega)) (fun y hy => ?_) (old_kept hk)
 obtain ⟨j, hj, rfl⟩ := mem_getDS hy
 exact b2 j (by omega)
end
section
variable {X : Cx}
theorem call_max1S (hc : X.calm = true) : CallR X (.builtin "max") (fun xs H Q => ∃ (p : Addr) (ss : List Str), xs = [.ref p] /\ SqL X.K H p (ss.map V.str) /\ 0 < ss.length /\ ∀ x, x ∈ ss -> (∀ y ∈ ss, y.cps.toList <= x.cps.toList) -> Q (.str x) H) := by
 intro pins s σ H xs us Q I r h
 obtain ⟨p, ss, rfl, hq, hn, q⟩ := h
 obtain ⟨u, rfl, rx⟩ := vals1 r
 cases rx
 obtain ⟨its, rv, pl, hz⟩ := I.list hq
 refine max_strs (I.ok.hd hc) pl.isList (strsAre_of rv) hn fun x t h' tk h1 h2 hk => ?_
 exact ⟨.str _, H, I.kept hk, ⟨t, rfl⟩, q _ h1 h2⟩
end
end L2
namespace L2
open PySem PySem.Spec PyProof.Rows
open PySem PySem.Spec PyProof.Rows
section
variable {κ : Type} [DecidableEq κ]
def valV (kvs : List (κ × V)) (k : κ) : Option V := (kvs.find? fun kv => decide (kv.1 = k)).map (·.2)
def putK (kvs : List (κ × V)) (k : κ) (v : V) : List (κ × V) :=
 if (kvs.any fun kv => decide (kv.1 = k)) = true then kvs.map (fun kv => if kv.1 = k then (kv.1, v) else kv) else kvs ++ [(k, v)]
theorem valV_pos {p : κ × V} {r : List (κ × V)} {k : κ} (e : p.1 = k) : valV (p :: r) k = some p.2 := by simp [valV, List.find?_cons, e]
theorem valV_neg {p : κ × V} {r : List (κ × V)} {k : κ} (e : ¬ p.1 = k) : valV (p :: r) k = valV r k := by simp [valV, List.find?_cons, e]
theorem valV_any (k : κ) : ∀ kvs : List (κ × V), (kvs.any fun kv => decide (kv.1 = k)) = (valV kvs k).isSome
 | [] => rfl
 | p :: r => by
  rw [List.any_cons]
  by_cases e : p.1 = k
  ·simp only [valV_pos e, decide_eq_true e, Bool.true_or, Option.isSome_some]
  ·rw [valV_neg e, decide_eq_false e, Bool.false_or]; exact valV_any k r
theorem length_putK (kvs : List (κ × V)) (k : κ) (v : V) : (putK kvs k v).length <= kvs.length + 1 := by
 unfold putK
 split
 ·rw [List.length_map]; omega
 ·rw [List.length_append, List.length_cons, List.length_nil]; omega
theorem putK_new {kvs : List (κ × V)} {k : κ} (v : V) (h : valV kvs k = none) : putK kvs k v = kvs ++ [(k, v)] := by
 unfold putK
 rw [valV_any, h]
 exact if_neg (by decide)
theorem RelO.isSome_eq {o : Option V} {u : Option Value} (r : RelO o u) : o.isSome = u.isSome := by
 cases o with
 | none => cases u with
  | none => rfl
  | some _ => exact (show False from r).elim
 | some _ => cases u with
  | none => exact (show False from r).elim
  | some _ => rfl
theorem KV.val {kvs : List (κ × V)} {vs : List (κ × Value)} (r : KV kvs vs) (k : κ) : RelO (valV kvs k) (valueAt vs k) := by
 unfold KV at r
 induction r with
 | nil => exact True.intro
 | @cons p q ps qs h t ih =>
  obtain ⟨h1, h2⟩ := h
  by_cases e : p.1 = k
  ·have e' : q.1 = k := h1.symm.trans e
   have b : valueAt (q :: qs) k = some q.2 := by simp [valueAt, List.find?_cons, e']
   rw [valV_pos e, b]; exact h2
  ·have e' : ¬ q.1 = k := fun z => e (h1.trans z)
   have b : valueAt (q :: qs) k = valueAt qs k := by simp [valueAt, List.find?_cons, e']
   rw [valV_neg e, b]; exact ih
theorem KV.any {kvs : List (κ × V)} {vs : List (κ × Value)} (r : KV kvs vs) (k : κ) : (kvs.any fun kv => decide (kv.1 = k)) = vs.any fun kv => decide (kv.1 = k) := by
 unfold KV at r
 induction r with
 | nil => rfl
 | cons h t ih => rw [List.any_cons, List.any_cons, ih, h.1]
theorem KV.repl {kvs : List (κ × V)} {vs : List (κ × Value)} (r : KV kvs vs) (k : κ) {y : V} {u : Value} (ry : RelV y u) :
  KV (kvs.map fun kv => if kv.1 = k then (kv.1, y) else kv) (vs.map fun kv => if kv.1 = k then (kv.1, u) else kv) := by
 unfold KV at r ⊢
 induction r with
 | nil => exact .nil
 | @cons p q ps qs h t ih =>
  rw [List.map_cons, List.map_cons]
  refine .cons ?_ ih
  obtain ⟨h1, h2⟩ := h
  by_cases e : p.1 = k
  ·rw [if_pos e, if_pos (h1.symm.trans e)]; exact ⟨h1, ry⟩
  ·rw [if_neg e, if_neg (fun z => e (h1.trans z))]; exact ⟨h1, h2⟩
theorem KV.put {kvs : List (κ × V)} {vs : List (κ × Value)} (r : KV kvs vs) (k : κ) {y : V} {u : Value} (ry : RelV y u) : KV (putK kvs k y) (stored vs k u) := by
 unfold putK stored
 rw [r.any k]
 by_cases e : (vs.any fun kv => decide (kv.1 = k)) = true
 ·rw [if_pos e, if_pos e]; exact r.repl k ry
 ·rw [if_neg e, if_neg e]; exact Paired.snoc r ⟨rfl, ry⟩
theorem KV.length {kvs : List (κ × V)} {vs : List (κ × Value)} (r : KV kvs vs) : kvs.length = vs.length := Paired.length r
end
theorem kV_is {P : Program} {w : World} {k : Key} {u : Value} (r : RelV (kV k) u) : (mixKind P w).is k u = true := by
 cases k with
 | inl i => obtain ⟨t, e⟩ := (show ∃ t, u = Value.int i t from r); subst e; exact mixKind_int P w i t
 | inr x => obtain ⟨t, e⟩ := (show ∃ t, u = Value.str x t from r); subst e; exact mixKind_str P w x t
theorem items_are {P : Program} {w : World} : ∀ {ks : List Key} {us : List Value}, Vals (ks.map kV) us -> ItemsAre (mixKind P w) ks us
 | [], _, r => by rw [List.map_nil] at r; cases r; exact .nil
 | k :: ks, _, r => by
  rw [List.map_cons] at r
  cases r with
  | cons h t => exact .cons (kV_is h) (items_are t)
abbrev KT (H : Hp) : List (List Key × V) -> List (List Key × Addr × Value) -> Prop := Paired fun p q => p.1 = q.1 /\ H q.2.1 = some (.tup (p.1.map kV)) /\ RelV p.2 q.2.2
theorem KT.val {H : Hp} {kvs : List (List Key × V)} {xs : List (List Key × Addr × Value)} (r : KT H kvs xs) (k : List Key) : RelO (valV kvs k) ((atKey xs k).map (·.2)) := by
 induction r with
 | nil => exact True.intro
 | @cons p q ps qs h t ih =>
  obtain ⟨h1, _, h2⟩ := h
  by_cases e : p.1 = k
  ·have e' : q.1 = k := h1.symm.trans e
   have b : atKey (q :: qs) k = some q.2 := by simp [atKey, List.find?_cons, e']
   rw [valV_pos e, b]; exact h2
  ·have e' : ¬ q.1 = k := fun z => e (h1.trans z)
   have b : atKey (q :: qs) k = atKey qs k := by simp [atKey, List.find?_cons, e']
   rw [valV_neg e, b]; exact ih
theorem KT.repl {H : Hp} {kvs : List (List Key × V)} {xs : List (List Key × Addr × Value)} (r : KT H kvs xs) (k : List Key) {y : V} {u : Value} (ry : RelV y u) :
  KT H (kvs.map fun kv => if kv.1 = k then (kv.1, y) else kv) (xs.map (putAt k u)) := by
 induction r with
 | nil => exact .nil
 | @cons p q ps qs h t ih =>
  rw [List.map_cons, List.map_cons]
  refine .cons ?_ ih
  obtain ⟨h1, h2, h3⟩ := h
  unfold putAt
  by_cases e : p.1 = k
  ·rw [if_pos e, if_pos (h1.symm.trans e)]; exact ⟨h1, h2, ry⟩
  ·rw [if_neg e, if_neg (fun z => e (h1.trans z))]; exact ⟨h1, h2, h3⟩
theorem KT.put {H : Hp} {kvs : List (List Key × V)} {xs : List (List Key × Addr × Value)} (r : KT H kvs xs) (k : List Key) {b : Addr} {y : V} {u : Value} (hb : H b = some (.tup (k.map kV))) (ry : RelV y u) :
  KT H (putK kvs k y) (storedH xs k b u) := by
 have e : (kvs.any fun kv => decide (kv.1 = k)) = (atKey xs k).isSome := by
  rw [valV_any, (r.val k).isSome_eq, Option.isSome_map]
 unfold putK storedH
 rw [e]
 by_cases q : (atKey xs k).isSome = true
 ·rw [if_pos q, if_pos q]; exact r.repl k ry
 ·rw [if_neg q, if_neg q]; exact Paired.snoc r ⟨rfl, hb, ry⟩
theorem KT.keeps {H H' : Hp} {kvs : List (List Key × V)} {xs : List (List Key × Addr × Value)} (r : KT H kvs xs) (ht : ∀ b ys, H b = some (.tup ys) -> H' b = some (.tup ys)) : KT H' kvs xs :=
 Paired.mapP r fun _ _ z => ⟨z.1, ht _ _ z.2.1, z.2.2⟩
section
variable {P : Program} {w : World} {H : Hp} {h : Heap} {a : Addr}
theorem rd_of {u : HO} (ok : HOk P w H h) (e : Rd H a u) : ObjOk P w H h a u := e.ok ok
theorem dk_rd {kvs : List (Key × V)} (ok : HOk P w H h) (e : Rd H a (.dK kvs)) : kvs.length <= sizeLine /\ (a == sysModules) = false /\ ∃ vs, KV kvs vs /\ h.DictOf (mixKind P w) a vs :=
 show ObjOk P w H h a (.dK kvs) from rd_of ok e
theorem dk_of {kvs : List (Key × V)} (ok : HOk P w H h) (e : H a = some (.dK kvs)) : kvs.length <= sizeLine /\ (a == sysModules) = false /\ ∃ vs, KV kvs vs /\ h.DictOf (mixKind P w) a vs := dk_rd ok (.inl e)
theorem key_of {ks : List Key} (ok : HOk P w H h) (e : H a = some (.tup (ks.map kV))) : (tupleKind (mixKind P w)).is h ks a := by
 obtain ⟨_, its, r, o, h1, h2, n, h3⟩ := (show ObjOk P w H h a (.tup (ks.map kV)) from ok a _ e)
 exact ⟨o, its.toArray, n, h1, h2, h3, by simpa using items_are r⟩
theorem dt_rd {kvs : List (List Key × V)} (ok : HOk P w H h) (e : Rd H a (.dT kvs)) : kvs.length <= sizeLine /\ (a == sysModules) = false /\
  ∃ xs, KT H kvs xs /\ h.DictOfH (tupleKind (mixKind P w)) a xs := by
 obtain ⟨z, y, xs, r, o, es, ep, h1, h2, h3, h4, h5⟩ := (show ObjOk P w H h a (.dT kvs) from rd_of ok e)
 refine ⟨z, y, xs, r, o, es, ep, h1, h2, h3, h4, fun x hx => ?_, h5⟩
 have all : ∀ {l : List (List Key × V)} {m : List (List Key × Addr × Value)}, KT H l m -> ∀ x ∈ m, (tupleKind (mixKind P w)).is h x.1 x.2.1 := by
  intro l m q
  induction q with
  | nil => intro x hx; exact nomatch hx
  | @cons p q ps qs hq t ih =>
   intro x hx
   rcases List.mem_cons.mp hx with e | hx
   ·subst e
    exact key_of ok (by rw [<- hq.1]; exact hq.2.1)
   ·exact ih x hx
 exact all r x hx
theorem dt_of {kvs : List (List Key × V)} (ok : HOk P w H h) (e : H a = some (.dT kvs)) : kvs.length <= sizeLine /\ (a == sysModules) = false /\
  ∃ xs, KT H kvs xs /\ h.DictOfH (tupleKind (mixKind P w)) a xs := dt_rd ok (.inl e)
end
def DGet (H : Hp) (a : Addr) (y : V) (r : Option V) : Prop :=
 (∃ kvs k, Rd H a (.dK kvs) /\ y = kV k /\ r = valV kvs k) \/ ∃ kvs k b, Rd H a (.dT kvs) /\ y = .ref b /\ H b = some (.tup (k.map kV)) /\ r = valV kvs k
def DPut (H : Hp) (a : Addr) (y v : V) (H' : Hp) : Prop :=
 (∃ kvs k, H a = some (.dK kvs) /\ y = kV k /\ kvs.length < sizeLine /\ H' = upd H a (.dK (putK kvs k v))) \/
 ∃ kvs k b, H a = some (.dT kvs) /\ y = .ref b /\ H b = some (.tup (k.map kV)) /\ kvs.length < sizeLine /\ H' = upd H a (.dT (putK kvs k v))
theorem DPut.k {H : Hp} {a : Addr} {kvs : List (Key × V)} {k : Key} {v : V} (e : H a = some (.dK kvs)) (hl : kvs.length < sizeLine) : DPut H a (kV k) v (upd H a (.dK (putK kvs k v))) := .inl ⟨kvs, k, e, rfl, hl, rfl⟩
section
variable {X : Cx} {pins : List (Addr × Obj)} {σ : St} {H : Hp} {s : Shared} {a : Addr} {y v : V} {u r : Value} {o : Option V} {A : Around} {E : Value -> Shared -> Prop}
theorem d_getItem {Q : Value -> Shared -> Prop} (hu : A.units + 1 < cLine) (I : Inv X pins σ H s) (g : DGet H a y (some v)) (ry : RelV y u) (h : ∀ w' s', Inv X pins σ H s' -> RelV v w' -> Q w' s') :
  wpAny (model X.prog X.w) A (getItem (.ref a) u) Q E s := by
 rcases g with ⟨kvs, k, e, ey, l⟩ | ⟨kvs, k, b, e, ey, eb, l⟩
 ·subst ey
  obtain ⟨z, hd, vs, rel, dd⟩ := dk_rd I.hok e
  obtain ⟨w', hw, rw'⟩ := RelO.some_of (v := v) (o := valueAt vs k) (by rw [l]; exact rel.val k)
  exact wpAny_getItem_of (kV_is ry) dd.mapOf hw (h w' _ (I.tok _) rw')
 ·subst ey
  cases (show u = Value.ref b from ry)
  obtain ⟨z, hd, xs, rel, dd⟩ := dt_rd I.hok e
  obtain ⟨w', hw, rw'⟩ := RelO.some_of (v := v) (o := (atKey xs k).map (·.2)) (by rw [l]; exact rel.val k)
  obtain ⟨p, hp, hp2⟩ := Option.map_eq_some_iff.mp hw
  refine wpAny_getItem_heap (tupleKind_room_in1 hu) (key_of I.hok eb) dd hp ?_
  rw [hp2]
  exact h w' _ (I.tok _) rw'
theorem d_in {Q : Value -> Shared -> Prop} (hu : A.units + 1 < cLine) (I : Inv X pins σ H s) (g : DGet H a y o) (ry : RelV y u) (h : ∀ s', Inv X pins σ H s' -> Q (.bool o.isSome) s') :
  wpAny (model X.prog X.w) A (compareOp .In u (.ref a)) Q E s := by
 rcases g with ⟨kvs, k, e, ey, l⟩ | ⟨kvs, k, b, e, ey, eb, l⟩
 ·subst ey
  obtain ⟨z, hd, vs, rel, dd⟩ := dk_rd I.hok e
  refine wpAny_in_of (kV_is ry) hd dd.mapOf ?_
  rw [<- (rel.val k).isSome_eq, <- l]
  exact h _ (I.tok _)
 ·subst ey
  cases (show u = Value.ref b from ry)
  obtain ⟨z, hd, xs, rel, dd⟩ := dt_rd I.hok e
  refine wpAny_in_heap (tupleKind_room_in1 hu) (key_of I.hok eb) hd dd ?_
  have q := (rel.val k).isSome_eq
  rw [Option.isSome_map] at q
  rw [<- q, <- l]
  exact h _ (I.tok _)
theorem d_notIn {Q : Value -> Shared -> Prop} (hu : A.units + 1 < cLine) (I : Inv X pins σ H s) (g : DGet H a y o) (ry : RelV y u) (h : ∀ s', Inv X pins σ H s' -> Q (.bool (!o.isSome)) s') :
  wpAny (model X.prog X.w) A (compareOp .NotIn u (.ref a)) Q E s := by
 rcases g with ⟨kvs, k, e, ey, l⟩ | ⟨kvs, k, b, e, ey, eb, l⟩
 ·subst ey
  obtain ⟨z, hd, vs, rel, dd⟩ := dk_rd I.hok e
  refine wpAny_notIn_of (kV_is ry) hd dd.mapOf ?_
  rw [<- (rel.val k).isSome_eq, <- l]
  exact h _ (I.tok _)
 ·subst ey
  cases (show u = Value.ref b from ry)
  obtain ⟨z, hd, xs, rel, dd⟩ := dt_rd I.hok e
  refine wpAny_notIn_heap (tupleKind_room_in1 hu) (key_of I.hok eb) hd dd ?_
  have q := (rel.val k).isSome_eq
  rw [Option.isSome_map] at q
  rw [<- q, <- l]
  exact h _ (I.tok _)
theorem d_write {h' : Heap} {t' : Nat} {ob : HO} (I : Inv X pins σ H s) (mu : Mut (H a)) (hs : Heap.SameBut a s.heap h') (he : ∃ q, h'.get? a = some q) (new : ObjOk X.prog X.w (upd H a ob) h' a ob) :
  Inv X pins σ (upd H a ob) { s with heap := h', toks := t' } :=
 I.write (x := a) (e := a) mu (.inl rfl) (fun b q hb z => (hs.2 b hb).trans z) he new
theorem dk_new {P : Program} {w : World} {H' : Hp} {h' : Heap} {kvs : List (Key × V)} {vs : List (Key × Value)} (z : kvs.length <= sizeLine) (hd : (a == sysModules) = false) (rel : KV kvs vs) (dd : h'.DictOf (mixKind P w) a vs) :
  ObjOk P w H' h' a (.dK kvs) := ⟨z, hd, vs, rel, dd⟩
theorem d_setItem {H' : Hp} {Q : Unit -> Shared -> Prop} (hu : A.units + 1 < cLine) (I : Inv X pins σ H s) (g : DPut H a y v H') (ry : RelV y u) (rv : RelV v r) (h : ∀ s', Inv X pins σ H' s' -> Q () s') :
  wpAny (model X.prog X.w) A (setItem (.ref a) u r) Q E s := by
 rcases g with ⟨kvs, k, e, ey, l, eH⟩ | ⟨kvs, k, b, e, ey, eb, l, eH⟩
 ·subst ey eH
  obtain ⟨z, hd, vs, rel, dd⟩ := dk_of I.hok e
  have hz : vs.length <= sizeLine := by rw [<- rel.length]; exact z
  have hl : (putK kvs k v).length <= sizeLine := by have := length_putK kvs k v; omega
  refine wpAny_setItem_pairs (hsz := hz) (kV_is ry) dd fun h' dd' hs => h _ ?_
  have he : ∃ q, h'.get? a = some q := let ⟨q, _, _, hq, _⟩ := dd'; ⟨q, hq⟩
  exact d_write I (by rw [e]; exact True.intro) hs he (dk_new hl hd (rel.put k rv) dd')
 ·subst ey eH
  cases (show u = Value.ref b from ry)
  obtain ⟨z, hd, xs, rel, dd⟩ := dt_of I.hok e
  have hz : xs.length <= sizeLine := by rw [<- Paired.length rel]; exact z
  have hl : (putK kvs k v).length <= sizeLine := by have := length_putK kvs k v; omega
  refine wpAny_setItem_heap (hsz := hz) (tupleKind_room_in1 hu) (key_of I.hok eb) dd fun h' dd' hs => h _ ?_
  obtain ⟨q, es, ep, hq, h2, h3, h4, _, h5⟩ := dd'
  refine d_write I (by rw [e]; exact True.intro) hs ⟨q, hq⟩ ⟨hl, hd, _, (rel.put k eb rv).keeps fun c ys ec => ?_, q, es, ep, hq, h2, h3, h4, h5⟩
  rw [upd_ne (ne_of ec e (fun z => nomatch z))]
  exact ec
end
section
variable {X : Cx} {pins : List (Addr × Obj)} {σ : St} {H : Hp} {s : Shared} {a : Addr} {kvs : List (Key × V)} {k : Key} {u : Value} {A : Around} {E : Value -> Shared -> Prop}
theorem d_clear {Q : Value -> Shared -> Prop} (I : Inv X pins σ H s) (e : H a = some (.dK kvs)) (h : ∀ s', Inv X pins σ (upd H a (.dK [])) s' -> Q .none s') : wpAny (model X.prog X.w) A (call (.builtin "dict.clear") [.ref a]) Q E s := by
 obtain ⟨z, hd, vs, rel, dd⟩ := dk_of I.hok e
 refine call_meetsIn PySem.F.slot_dict_clear dd.typeIs PySem.F.entry_dict_clear (PySem.F.args_dict_clear_1 _) (meets_dict_clear (mixKind X.prog X.w) a) ⟨vs, dd, by rw [<- rel.length]; exact z, fun h' dd' hs => h _ ?_⟩
 have he : ∃ q, h'.get? a = some q := let ⟨q, _, _, hq, _⟩ := dd'; ⟨q, hq⟩
 exact d_write (t' := s.toks) I (by rw [e]; exact True.intro) hs he (dk_new (Nat.zero_le _) hd .nil dd')
theorem d_len {Q : Value -> Shared -> Prop} (I : Inv X pins σ H s) (e : Rd H a (.dK kvs)) (h : ∀ t s', Inv X pins σ H s' -> Q (.int kvs.length t) s') : wpAny (model X.prog X.w) A (call (.builtin "len") [.ref a]) Q E s := by
 obtain ⟨z, hd, vs, rel, dd⟩ := dk_rd I.hok e
 refine call_len_dict hd dd (by rw [<- rel.length]; rw [sizeLine_eq] at z; omega) ?_
 rw [<- rel.length]
 exact h _ _ (I.tok _)
end
theorem dict_typeIs {X : Cx} {pins : List (Addr × Obj)} {σ : St} {H : Hp} {s : Shared} {a : Addr} {y : V} {o : Option V} (I : Inv X pins σ H s) (g : DGet H a y o) : s.TypeIs (.ref a) "dict" := by
 rcases g with ⟨kvs, k, e, _, _⟩ | ⟨kvs, k, b, e, _, _, _⟩
 ·obtain ⟨_, _, vs, _, dd⟩ := dk_rd I.hok e
  exact dd.typeIs
 ·obtain ⟨_, _, xs, _, dd⟩ := dt_rd I.hok e
  exact dd.typeIs
def sDPut (td ty tv : TE) : TS := fun D σ H => tv σ H fun v H1 => td σ H1 fun x H2 => ty σ H2 fun y H3 => ∃ a H4, x = .ref a /\ DPut H3 a y v H4 /\ D.nx σ H4
section
variable {X : Cx} {o i e value : Expr} {pos pos' tpos : Pos} {td ty tv : TE}
theorem ps_dput (hu : X.A.units + 1 < cLine) (ho : PE X o td) (hi : PE X i ty) (hv : PE X value tv) (hs : swapsWith value (some (.Subscript o i pos')) pos.line X.env = pure false) :
  PS X (.Assign [.Subscript o i pos'] value pos) (sDPut td ty tv) := by
 intro pins s σ H D I h
 refine wpAny_Assign_Subscript (thn (hv pins s σ H _ I h) fun r s1 ⟨v, H1, I1, rv, q1⟩ => thn (ho pins s1 σ H1 _ I1 q1) fun u s2 ⟨x, H2, I2, rx, q2⟩ => thn (hi pins s2 σ H2 _ I2 q2) fun iv s3 ⟨y, H3, I3, ry, a, H4, ex, g, q3⟩ => ?_) hs
 subst ex
 obtain rfl : u = Value.ref a := rx
 exact d_setItem hu I3 g ry rv fun s4 I4 => ⟨σ, H4, I4, q3⟩
end
def tPairs : List (TE × TE) -> St -> Hp -> (List (V × V) -> Hp -> Prop) -> Prop
 | [], _, H, Q => Q [] H
 | (tk, tv) :: r, σ, H, Q => tk σ H fun x H1 => tv σ H1 fun y H2 => tPairs r σ H2 fun ps H3 => Q ((x, y) :: ps) H3
abbrev VV : List (V × V) -> List (Value × Value) -> Prop := Paired fun p q => RelV p.1 q.1 /\ RelV p.2 q.2
def PPs (X : Cx) (pos : Pos) (keys : List (Option Expr)) (values : List Expr) (trs : List (TE × TE)) : Prop :=
 ∀ (pins : List (Addr × Obj)) (s : Shared) (σ : St) (H : Hp) (Q : List (V × V) -> Hp -> Prop), Inv X pins σ H s -> tPairs trs σ H Q ->
  wpAny (model X.prog X.w) X.A (evalPairs (pairTrees keys values X.env pos)) (fun vs s' => ∃ ps H', Inv X pins σ H' s' /\ VV ps vs /\ Q ps H') X.xe s
theorem pps_nil {X : Cx} {pos : Pos} : PPs X pos [] [] [] := fun pins s σ H Q I h => pairTrees_nil_walk ⟨[], H, I, .nil, h⟩
theorem pps_cons {X : Cx} {pos : Pos} {k v : Expr} {ks : List (Option Expr)} {vs : List Expr} {tk tv : TE} {trs : List (TE × TE)} (hk : PE X k tk) (hv : PE X v tv) (hr : PPs X pos ks vs trs) :
  PPs X pos (some k :: ks) (v :: vs) ((tk, tv) :: trs) := fun pins s σ H Q I h =>
 pairTrees_cons_walk (thn (hk pins s σ H _ I h) fun u s1 ⟨x, H1, I1, rx, q1⟩ => thn (hv pins s1 σ H1 _ I1 q1) fun w2 s2 ⟨y, H2, I2, ry, q2⟩ =>
  thn (hr pins s2 σ H2 _ I2 q2) fun ws s3 ⟨ps, H3, I3, rel, q3⟩ => ⟨(x, y) :: ps, H3, I3, .cons ⟨rx, ry⟩ rel, q3⟩)
def mergeK (kvs more : List (Key × V)) : List (Key × V) := more.foldl (fun acc kv => putK acc kv.1 kv.2) kvs
theorem KV.merge : ∀ {more : List (Key × V)} {rs : List (Key × Value)} {kvs : List (Key × V)} {vs : List (Key × Value)}, KV more rs -> KV kvs vs -> KV (mergeK kvs more) (merged vs rs) := by
 intro more rs kvs vs r
 unfold KV at r
 induction r generalizing kvs vs with
 | nil => intro q; exact q
 | @cons p q ps qs h t ih =>
  intro r0
  have e : KV (putK kvs p.1 p.2) (stored vs q.1 q.2) := by
   have := r0.put p.1 h.2
   rw [<- h.1]; exact this
  exact ih e
theorem length_mergeK : ∀ (more kvs : List (Key × V)), (mergeK kvs more).length <= kvs.length + more.length
 | [], kvs => by show kvs.length <= kvs.length + 0; omega
 | p :: r, kvs => by
  have h1 := length_mergeK r (putK kvs p.1 p.2)
  have h2 := length_putK kvs p.1 p.2
  show (mergeK (putK kvs p.1 p.2) r).length <= _
  rw [List.length_cons]; omega
theorem carries_of {P : Program} {w : World} : ∀ {kvs : List (Key × V)} {ws : List (Value × Value)}, VV (kvs.map fun kv => (kV kv.1, kv.2)) ws -> ∃ rs, Carries (mixKind P w) ws rs /\ KV kvs rs
 | [], _, r => by rw [List.map_nil] at r; cases r; exact ⟨[], True.intro, .nil⟩
 | p :: kvs, _, r => by
  rw [List.map_cons] at r
  cases r with
  | @cons a b as bs h t =>
   obtain ⟨rs, c, q⟩ := carries_of (P := P) (w := w) t
   obtain ⟨b1, b2⟩ := b
   exact ⟨(p.1, b2) :: rs, ⟨kV_is h.1, rfl, c⟩, .cons ⟨rfl, h.2⟩ q⟩
def tDisp (trs : List (TE × TE)) : TE := fun σ H Q => ∀ p, H p = none -> tPairs trs σ (upd H p (.dK [])) fun ps H2 => H2 p = some (.dK []) /\ ∃ kvs : List (Key × V), ps = kvs.map (fun kv => (kV kv.1, kv.2)) /\ kvs.length <= 15 /\ Q (.ref p) (upd H2 p (.dK (mergeK [] kvs)))
theorem pe_disp {X : Cx} {pos : Pos} {keys : List (Option Expr)} {values : List Expr} {trs : List (TE × TE)} (h : PPs X pos keys values trs) (hall : keys.all (·.isSome) = true) (hl : keys.length = values.length) (h0 : keys ≠ [])
  (h15 : keys.length <= 15) : PE X (.Dict keys values pos) (tDisp trs) := by
 intro pins s σ H Q I q
 have hn := I.hok.fresh (Nat.le_refl s.heap.objs.size)
 have I1 := I.laid (a := s.heap.objs.size) (o := .dK []) (h' := s.heap.push { cls := .type "dict", data := .dict #[] }) (t' := s.toks) (fun _ _ q => Heap.get?_push_of_some _ q) (Nat.le_refl _) (dk_empty s.heap I.big)
 refine wpAny_Dict_walk (knd := mixKind X.prog X.w) hall hl h0 h15 (thn (h pins _ σ _ _ I1 (q _ hn)) fun ws s2 ⟨ps, H2, I2, rel, e, kvs, ep, lk, q2⟩ => ?_)
 subst ep
 obtain ⟨rs, c, rk⟩ := carries_of (P := X.prog) (w := X.w) rel
 obtain ⟨z, hd, vs0, r0, dd⟩ := dk_of I2.hok e
 cases r0
 refine ⟨rs, c, dd, fun h' dd' hs => ⟨.ref s.heap.objs.size, _, ?_, rfl, q2⟩⟩
 have hz : (mergeK [] kvs).length <= sizeLine := by
  have h1 := length_mergeK kvs []
  rw [List.length_nil] at h1
  rw [sizeLine_eq]; omega
 have he : ∃ q, h'.get? s.heap.objs.size = some q := let ⟨q, _, _, hq, _⟩ := dd'; ⟨q, hq⟩
 exact d_write I2 (by rw [e]; exact True.intro) hs he (dk_new hz hd (rk.merge .nil) dd')
section
variable {κ : Type} [DecidableEq κ]
theorem valV_in {kvs : List (κ × V)} {k : κ} {v : V} (h : valV kvs k = some v) : k ∈ kvs.map (·.1) := by
 have q : (kvs.any fun kv => decide (kv.1 = k)) = true := by
  rw [valV_any, h]
  all_goals rfl
 obtain ⟨p, hp, e⟩ := List.any_eq_true.mp q
 exact List.mem_map.mpr ⟨p, hp, of_decide_eq_true e⟩
end
end L2
namespace L2
open PySem PySem.Spec PyProof.Rows
def FzD (H : Hp) (a : Addr) (ob : Obj) (kvs : List (Key × V)) : Prop := H a = some (.frz ob (.dK kvs))
theorem kv_len {kvs : List (Key × V)} {vs : List (Key × Value)} (r : KV kvs vs) : kvs.length = vs.length := Paired.length r
theorem kv_get : ∀ {kvs : List (Key × V)} {vs : List (Key × Value)} {i : Nat} {k : Key} {v : V}, KV kvs vs -> kvs[i]? = some (k, v) -> ∃ u, vs[i]? = some (k, u) /\ RelV v u
 | _, _, 0, _, _, .cons (b := b) r _, h => by
  cases h
  obtain ⟨e, r⟩ := r
  exact ⟨b.2, by show some b = _; rw [show b = (b.1, b.2) from rfl, <- e], r⟩
 | _, _, i + 1, _, _, .cons _ rs, h => kv_get (i := i) rs (by simpa using h)
theorem key_rel {k : Key} {u : Value} (h : keyIs k u = true) : RelV (kV k) u := by
 rcases keyIs_shape h with ⟨i, t, rfl, rfl⟩ | ⟨x, t, rfl, rfl⟩
 ·exact ⟨t, rfl⟩
 ·exact ⟨t, rfl⟩
section
variable {X : Cx} {pins : List (Addr × Obj)} {σ : St} {H : Hp} {s : Shared} {a : Addr} {ob : Obj} {kvs : List (Key × V)}
theorem fz_dict (I : Inv X pins σ H s) (h : FzD H a ob kvs) : s.heap.get? a = some ob /\ (a == sysModules) = false /\ kvs.length <= sizeLine /\ ∃ vs es ep, KV kvs vs /\ s.heap.DictAt (mixKind X.prog X.w) a vs ep /\ ob.data = .dict es ep := by
 obtain ⟨e, hl, hs, vs, r, o, es, ep, e', x1, x2, x3⟩ := (show ObjOk X.prog X.w H s.heap a (.frz ob (.dK kvs)) from I.hok a _ h)
 rw [e] at e'
 cases e'
 exact ⟨e, hs, hl, vs, es, ep, r, ⟨ob, es, e, x1, x2, x3⟩, x2⟩
end
def ItD (a : Addr) (ob : Obj) (kvs : List (Key × V)) : It :=
 ⟨fun i H => FzD H a ob kvs /\ i < kvs.length, fun i H x H' => H' = H /\ ∃ k v, kvs[i]? = some (k, v) /\ x = kV k, fun i H => FzD H a ob kvs /\ kvs.length <= i⟩
theorem turn_dict {P : Program} {w : World} {K : PySem.W.Frag} {tg : Expr} {a it : Addr} {ob : Obj} {kvs : List (Key × V)} {es : Array DictEntry} {ep : Nat} (hep : ob.data = .dict es ep) :
  Turn P w K tg (ItD a ob kvs) [it] it (fun i h => h.IsKeyIter it a i kvs.length ep) where
 mem := by simp
 obj := fun i h st b hb => by
  have e : b = it := by simpa using hb
  subst e
  obtain ⟨o, e, c, d⟩ := st
  exact ⟨o, e, fun v z => by rw [d] at z; cases z⟩
 keep := fun i h h' st k => st.at fun o e => k it (by simp) o e
 item := by
  intro X hP hw hK hc i pins s σ H E I hf st hg
  subst hP hw hK
  obtain ⟨hz, hi⟩ := hg
  obtain ⟨e, hs, hl, vs, es', ep', r, dd, hd'⟩ := fz_dict I hz
  rw [hep] at hd'
  cases hd'
  obtain ⟨f0, f1, f2, f3, f4, f5⟩ := hf it (by simp)
  obtain ⟨⟨k, v⟩, hx⟩ : ∃ p, kvs[i]? = some p := ⟨kvs[i], by simp [hi]⟩
  obtain ⟨u, hu, ru⟩ := kv_get r hx
  have st' : s.heap.IsKeyIter it a i vs.length ep := by rw [<- kv_len r]; exact st
  refine wpAny_pyNext_dict_item st' dd hu fun key h' hkey hit' sb => ?_
  have I1 : Inv X pins σ H { s with heap := h' } := I.turned (t' := s.toks) (fun b o hb e => (sb.2 b hb).trans e) f0 f1 f3 f4 f5
  obtain ⟨o, e, c, d⟩ := id hit'
  exact ⟨key, rfl, go_of (s := { s with heap := h' }) e c d (by decide) ⟨kV k, H, I1, key_rel hkey, ⟨rfl, k, v, hx, rfl⟩, by rw [kv_len r]; exact hit', fun b hb => (hf b hb).1⟩⟩
 done := by
  intro X hP hw hK hc i pins s σ H E I hf st hg
  subst hP hw hK
  obtain ⟨hz, hi⟩ := hg
  obtain ⟨e, hs, hl, vs, es', ep', r, dd, hd'⟩ := fz_dict I hz
  rw [hep] at hd'
  cases hd'
  obtain ⟨f0, f1, f2, f3, f4, f5⟩ := hf it (by simp)
  have st' : s.heap.IsKeyIter it a i vs.length ep := by rw [<- kv_len r]; exact st
  have hn : vs[i]? = none := List.getElem?_eq_none (by rw [<- kv_len r]; exact hi)
  exact wpAny_pyNext_dict_end (I.ok.hd hc) st' dd hn fun h' eb => ⟨rfl, I.turned (t' := s.toks) (fun b o hb e => eb b o hb e) f0 f1 f3 f4 f5⟩
 self := fun _ _ _ _ _ st h => wpAny_pyIter_keyiter st h
end L2
namespace L2
open PySem PySem.Spec PyProof.Rows
theorem strs_of_keys {prog : Program} {w : World} : ∀ {kvs : List (Key × Value)} {us : List Str} {acc : Array Value}, kvs.map (·.1) = us.map Sum.inr ->
  ItemsOf (fun i v => ∃ k x, kvs[i]? = some (k, x) /\ (mixKind prog w).is k v = true) acc kvs.length -> StrsAre acc.toList us := by
 intro kvs us acc hk h
 obtain ⟨hn, hp⟩ := h
 have key : ∀ (us : List Str) (l : List Value) (kvs : List (Key × Value)), kvs.map (·.1) = us.map Sum.inr -> l.length = kvs.length -> (∀ (j : Nat) (v : Value), l[j]? = some v -> ∃ k x, kvs[j]? = some (k, x) /\ (mixKind prog w).is k v = true) -> StrsAre l us := by
  intro us
  induction us with
  | nil =>
   intro l kvs hk hl _
   have : kvs = [] := by simpa using hk
   subst this
   have : l = [] := List.eq_nil_of_length_eq_zero hl
   subst this
   exact .nil
  | cons y ys ih =>
   intro l kvs hk hl hp
   cases kvs with
   | nil => simp at hk
   | cons p kvs =>
    cases l with
    | nil => simp at hl
    | cons v l =>
     simp only [List.map_cons, List.cons.injEq] at hk
     obtain ⟨k, x, e, q⟩ := hp 0 v rfl
     have e : p = (k, x) := by simpa using e
     subst e
     have hk1 : k = Sum.inr y := hk.1
     subst hk1
     rcases keyIs_shape (show keyIs (Sum.inr y) v = true from q) with ⟨i, t, z, _⟩ | ⟨z, t, e1, rfl⟩
     ·cases z
     ·cases e1
      exact .cons _ _ (ih l kvs hk.2 (by simpa using hl) fun j v hj => hp (j + 1) v hj)
 refine key us acc.toList kvs hk (by simpa using hn) fun j v hj => hp j v (by simpa using hj)
section
variable {prog : Program} {w : World} {A : Around} {E : Value -> Shared -> Prop} {s : Shared} {a : Addr} {us : List Str}
theorem sub_dd : isSubtype (.type "dict") (.type "dict") = pure true := by rw [isSubtype_type]; kernel_rfl
theorem any_hintD {Q : Bool -> Shared -> Prop} (ht : s.TypeIs (.ref a) "dict") (h : Q false s) : wpAny (model prog w) A (Builtin.List.listLengthHint (.ref a)) Q E s := by
 unfold Builtin.List.listLengthHint
 refine wpAny_bind (wpAny_specialOf ht PySem.F.slot_dict_len.lookup ?_)
 have e1 : splitId "dict.__len__" = some ("dict", "__len__") := by decide +kernel
 dsimp only
 rw [e1]
 dsimp only
 refine wpAny_bind (wpAny_isInstance ht sub_dd ?_)
 simp only [Bool.not_true, Bool.false_eq_true, if_false]
 refine wpAny_ite ?_
 rw [if_pos (by decide +kernel)]
 refine wpAny_bind (wpAny_typeOf ht ?_)
 exact wpAny_pure h
theorem any_collectDict {kvs : List (Key × Value)} {ep : Nat} {Q : List Value -> Shared -> Prop} (hh : A.handled = none) (hsm : (a == sysModules) = false) (S : s.heap.DictAt (mixKind prog w) a kvs ep) (hks : kvs.map (·.1) = us.map Sum.inr) (hl : us.length <= sizeLine)
  (hQ : ∀ h' d tk (acc : List Value) vs, StrsAre acc vs -> vs.Perm us -> s.heap.objs.size < h'.objs.size -> (∀ b o, s.heap.get? b = some o -> h'.get? b = some o) -> Q acc { s with heap := h', drawn := d, toks := tk }) :
  wpAny (model prog w) A (collect (.ref a)) Q E s := by
 have alt : a < s.heap.objs.size := S.lt_size
 have hkl : kvs.length = us.length := by have := congrArg List.length hks; simpa using this
 unfold collect
 refine wpAny_bind (wpAny_runValue (codeAny_builtin F.entry_proto_collect ?_))
 rw [Around.under_plainId F.plain_proto_collect _]
 show wpAny _ A.in1 (newList [] >>= fun l => again (.builtin "list.__iadd__" ⟨[l, .ref a], []⟩)) _ _ s
 refine wpAny_bind (wpAny_newObj_type ?_ (by size_fits))
 refine wpAny_pure ⟨plainId_quiet F.plain_list_iadd _, codeAny_builtin F.entry_list_iadd ?_⟩
 rw [Around.under_plainId F.plain_list_iadd _]
 show wpAny _ A.in1 (Builtin.List.listExtendWith (.ref s.heap.objs.size) (.ref a) (.ref s.heap.objs.size)) _ _ _
 unfold Builtin.List.listExtendWith
 have S1 := S.push { cls := .type "list", data := .seq ([] : List Value).toArray }
 have ht : Shared.TypeIs { s with heap := s.heap.push { cls := .type "list", data := .seq ([] : List Value).toArray } } (.ref a) "dict" := S1.dictOf.typeIs
 refine wpAny_bind (wpAny_typeOf ht ?_)
 have h1 : Builtin.List.listSameRef (.ref s.heap.objs.size) (.ref a) = false := by simp [Builtin.List.listSameRef]; exact Nat.ne_of_gt alt
 have h2 : (Value.type "dict" == Value.type "list") = false := by decide
 have h3 : (Value.type "dict" == Value.type "tuple") = false := by decide
 simp only [h1, h2, h3, Bool.or_false, Bool.false_eq_true, if_false]
 refine wpAny_bind (wpAny_pyIter_dict hsm S1 ?_)
 generalize hh' : ((s.heap.push { cls := .type "list", data := .seq ([] : List Value).toArray }).push { cls := .type "dict_keyiterator", data := .fields #[.ref a, .int 0 0, .int kvs.length 0, .int ep 0] }) = h'
 have sz1 : (s.heap.push { cls := .type "list", data := .seq ([] : List Value).toArray }).objs.size = s.heap.objs.size + 1 := Heap.size_push ..
 have kp : ∀ b o, (s.heap.push { cls := .type "list", data := .seq ([] : List Value).toArray }).get? b = some o -> h'.get? b = some o := fun b o e => by rw [<- hh']; exact Heap.get?_push_of_some _ e
 have ht' : Shared.TypeIs { s with heap := h' } (.ref a) "dict" := by
  obtain ⟨o, e, c⟩ := ht
  exact ⟨o, kp _ _ e, c⟩
 have st0 : h'.IsKeyIter (s.heap.objs.size + 1) a 0 kvs.length ep /\ h'.DictAt (mixKind prog w) a kvs ep := by
  refine ⟨⟨{ cls := .type "dict_keyiterator", data := .fields #[.ref a, .int 0 0, .int kvs.length 0, .int ep 0] }, ?_, rfl, rfl⟩, S1.keep kp⟩
  rw [<- hh', <- sz1]
  exact Heap.get?_push_size _ rfl
 rw [sz1]
 refine wpAny_bind (wpAny_holding (any_hintD ht' ?_))
 have hA : A.in1.handled = none := by simp [hh]
 have W := (Walks.dictKeys (prog := prog) (w := w) (A := A.in1) (knd := mixKind prog w) hA (s.heap.objs.size + 1) a (fun z => absurd alt (by rw [z]; exact Nat.not_lt.mpr (Nat.le_succ _))) kvs ep).toS
 refine wpAny_ite ?_
 rw [if_pos (by decide +kernel)]
 refine wpAny_bind (wpAny_rule ?_)
 have g0 : h'.get? s.heap.objs.size = some { cls := .type "list", data := .seq ([] : List Value).toArray } := kp _ _ (Heap.get?_push_size _ rfl)
 have nf : s.heap.objs.size ∉ [s.heap.objs.size + 1, a] := fun m => by
  simp only [List.mem_cons, List.not_mem_nil, or_false] at m
  rcases m with z | z
  ·omega
  ·rw [<- z] at alt; exact Nat.lt_irrefl _ alt
 refine wpAny_bind ?_
 show wpAny _ A.in1 (updateSeq s.heap.objs.size (·.push .none) >>= fun _ => updateSeq s.heap.objs.size (·.pop)) _ _ _
 refine wpAny_bind (wpAny_updateSeq g0 rfl ?_)
 have g1 := Heap.get?_update_self (Obj.mapSeq (·.push Value.none)) g0 rfl
 refine wpAny_updateSeq g1 rfl ?_
 have g2 := Heap.get?_update_self (Obj.mapSeq (·.pop)) g1 rfl
 have oth : ∀ b o, b ≠ s.heap.objs.size -> h'.get? b = some o -> ((h'.update s.heap.objs.size (Obj.mapSeq (·.push Value.none))).update s.heap.objs.size (Obj.mapSeq (·.pop))).get? b = some o :=
  fun b o hb e => (Heap.get?_update_other _ _ (Ne.symm hb)).trans ((Heap.get?_update_other _ _ (Ne.symm hb)).trans e)
 refine wpAny_pure ⟨plainId_quiet F.plain_extend_loop _, codeAny_extend_loopS W (by rw [hkl]; exact hl) _ nf _ kvs.length 0 _ _ _ rfl (Nat.zero_le _)
  (W.frame 0 { s with heap := h' } _ s.toks st0 (Nat.le_refl _) fun b hb o e => oth b o (fun z => nf (z ▸ hb)) e) g2 (ItemsOf.nil _) fun s' acc' c' hm g' hacc => ?_⟩
 show wpAny _ A (load s.heap.objs.size >>= _) _ _ s'
 refine wpAny_bind (wpAny_load g' ?_)
 have hs := strs_of_keys hks hacc
 obtain ⟨h'', g'', d'', tk'', os''⟩ := s'
 have e1 : g'' = s.gens := hm.gens
 have e2 : os'' = s.os := hm.os
 subst e1 e2
 refine wpAny_pure (hQ h'' d'' tk'' acc'.toList us hs (List.Perm.refl _) (Heap.lt_size g') fun b o e => hm.heap b o (fun m => ?_) (oth b o (Nat.ne_of_lt (Heap.lt_size e)) (kp b o (Heap.get?_push_of_some _ e))))
 have lt := Heap.lt_size e
 simp only [List.mem_cons, List.not_mem_nil, or_false] at m
 rcases m with m | m
 ·rw [m] at lt; exact Nat.lt_irrefl _ lt
 ·rw [m] at lt; exact absurd lt (Nat.not_lt.mpr (Nat.le_succ _))
theorem any_sortedDict {kvs : List (Key × Value)} {ep : Nat} {Q : Value -> Shared -> Prop} (hh : A.handled = none) (hsm : (a == sysModules) = false) (S : s.heap.DictAt (mixKind prog w) a kvs ep) (hks : kvs.map (·.1) = us.map Sum.inr) (h64 : us.length < 64)
  (h : ∀ h' d tk (l : Addr) (out : List Value) (ss : List Str) (e : Nat), StrsAre out ss -> ss.Perm us -> sortedS ss = true -> h'.get? l = some (seqObj "list" out.toArray e) -> s.heap.objs.size <= l -> (∀ b o, s.heap.get? b = some o -> h'.get? b = some o) ->
   Q (.ref l) { s with heap := h', drawn := d, toks := tk }) : wpAny (model prog w) A (call (.builtin "sorted") [.ref a]) Q E s := by
 refine Calls.call_function_entry kind_sorted plain_sorted entry_sorted (args_sorted1 _) ?_
 unfold Builtin.«sorted»
 refine wpAny_bind (m := checkCount "sorted" 1 1 _) (wpAny_pure ?_)
 refine wpAny_bind (any_collectDict (by simp [hh]) hsm S hks (Nat.le_of_lt (Nat.lt_trans h64 (by decide))) fun h1 d tk acc vs hs hp le kp => ?_)
 have hlen : acc.length < 64 := by rw [strs_len hs, hp.length_eq]; exact h64
 refine wpAny_bind (wpAny_newList ?_ (Nat.le_of_lt (Nat.lt_trans hlen (by decide))))
 have hoL : (h1.push (seqObj "list" acc.toArray 0)).get? h1.objs.size = some (seqObj "list" acc.toArray 0) := Heap.get?_push_size _ rfl
 refine wpAny_bind (wpAny_holding (wpAny_call_entry slot_list_sort ⟨_, hoL, rfl⟩ entry_list_sort (list_sort_treeK strKind_oneLt hoL hs.keysOf (fun v₁ v₂ rest e => keyKind_strs (by rw [<- e]; exact hs)) hlen fun st' a1 a2 => ⟨_, rfl, ?_⟩) (args_list_sort _)))
 obtain ⟨ss', b1, b2, b3⟩ := sorted_out_str hs a1 a2
 obtain ⟨e, he⟩ := sortedHeap_at (out := (arrOf st').map (·.2)) hoL
 refine wpAny_pure ⟨_, rfl, h _ _ _ _ ((arrOf st').map (·.2)).toList ss' e b1 (b2.trans hp) b3 (by rw [Array.toArray_toList]; exact he) (Nat.le_of_lt le) fun b o q => ?_⟩
 have lt := Heap.lt_size (kp b o q)
 rw [sortedHeap_old (Nat.ne_of_lt lt) (by rw [Heap.size_push]; exact Nat.lt_succ_of_lt lt)]
 exact Heap.get?_push_of_some _ (kp b o q)
end
section
variable {X : Cx}
def rSortD : List V -> Hp -> VK -> Prop := fun xs H Q => ∃ (a : Addr) (ob : Obj) (kvs : List (Key × V)) (us : List Str), xs = [.ref a] /\ FzD H a ob kvs /\ kvs.map (·.1) = us.map Sum.inr /\ us.length < 64 /\
  ∀ (ss : List Str) (l : Addr), ss.Perm us -> sortedS ss = true -> H l = none -> Q (.ref l) (upd H l (.lst (ss.map V.str)))
theorem kv_keys : ∀ {kvs : List (Key × V)} {vs : List (Key × Value)}, KV kvs vs -> kvs.map (·.1) = vs.map (·.1)
 | [], _, .nil => rfl
 | _ :: _, _, .cons r rs => by rw [List.map_cons, List.map_cons, r.1, kv_keys rs]
theorem call_sortedD (hc : X.calm = true) : CallR X (.builtin "sorted") rSortD := by
 intro pins s σ H xs us Q I r h
 obtain ⟨a, ob, kvs, uu, rfl, hz, hk, h64, q⟩ := h
 obtain ⟨u, rfl, rx⟩ := vals1 r
 cases rx
 obtain ⟨e, hs, hl, vs, es, ep, rr, dd, hd⟩ := fz_dict I hz
 refine any_sortedDict (I.ok.hd hc) hs dd (by rw [<- kv_keys rr]; exact hk) h64 fun h' d tk l out ss e hs hp hso hl le k => ?_
 refine ⟨.ref l, _, (I.laid (t' := tk) (o := .lst (ss.map V.str)) k le ?_).draw d, rfl, q ss l hp hso (I.hok.fresh le)⟩
 refine ⟨?_, out, e, vals_ofStrs hs, hl⟩
 rw [List.length_map, hp.length_eq]
 exact Nat.le_of_lt (Nat.lt_trans h64 (by decide))
end
end L2
namespace L2
open PySem PySem.Spec PyProof.Rows
section
variable {X : Cx}
def rLenD : List V -> Hp -> VK -> Prop := fun xs H Q => ∃ (a : Addr) (kvs : List (Key × V)), xs = [.ref a] /\ Rd H a (.dK kvs) /\ Q (.int kvs.length) H
theorem call_lenDK : CallR X (.builtin "len") rLenD := by
 intro pins s σ H xs us Q I r h
 obtain ⟨a, kvs, rfl, e, q⟩ := h
 obtain ⟨u, rfl, rx⟩ := vals1 r
 cases rx
 exact d_len I e fun t s' I' => ⟨.int kvs.length, H, I', ⟨t, rfl⟩, q⟩
def rIxD : R2 := fun x y H Q => ∃ a v, x = .ref a /\ DGet H a y (some v) /\ Q v H
theorem ix_dict (hu : X.A.units + 1 < cLine) : IxR X rIxD := by
 intro value slice pins s σ H x y v u Q I rx ry h hs
 obtain ⟨a, z, rfl, g, q⟩ := h
 cases rx
 have hT := dict_typeIs I g
 unfold subscriptTail
 refine wpAny_bind ?_
 rw [getitemInPython_of_ne hT.not_modules]
 refine wpAny_bind (wpAny_specialOf hT PySem.F.slot_dict_getitem.lookup ?_)
 have fin : wpAny (model X.prog X.w) X.A (subscripted slice false (.ref a) u) (fun r s₃ => wpAny (model X.prog X.w) X.A (letTemporaryGo value (.ref a) r >>= fun _ => pure r) (EP X pins σ Q) X.xe s₃) X.xe s := by
  rw [hs]
  exact wpAny_operating (d_getItem hu I g ry fun w' s3 I3 rw' => wpAny_bind (wpAny_letTemporaryGo (wpAny_pure ⟨z, H, I3, rw', q⟩)))
 first
  | exact wpAny_pure (wpAny_bind fin)
  | exact wpAny_bind (wpAny_pure (wpAny_bind fin))
  | exact wpAny_bind fin
def rInD : R2 := fun y x H Q => ∃ a o, x = .ref a /\ DGet H a y o /\ Q (.bl o.isSome) H
theorem op_in_dict (hu : X.A.units + 1 < cLine) : OpR X (compareOp .In) rInD := by
 intro pins s σ H y x u v Q I ry rx h
 obtain ⟨a, o, rfl, g, q⟩ := h
 cases rx
 exact d_in hu I g ry fun s' I' => ⟨.bl _, H, I', rfl, q⟩
end
end L2
namespace L2
open PySem PySem.Spec PyProof.Rows
def fzb : HO -> Bool
 | .lst _ => true
 | .dK _ => true
 | _ => false
def FrozenA (H H1 H2 : Hp) : Prop := ∀ b, (H b = none /\ ∃ o ob, fzb o = true /\ H1 b = some o /\ H2 b = some (.frz ob o)) \/ (¬ (H b = none /\ ∃ o, fzb o = true /\ H1 b = some o) /\ H2 b = H1 b)
section
variable {H H1 H2 : Hp} {b : Addr} {o : HO}
theorem FrozenA.keep (f : FrozenA H H1 H2) (h : H1 b = some o) (n : fzb o = false) : H2 b = some o := by
 rcases f b with ⟨_, o', ob, z, e, _⟩ | ⟨_, z⟩
 ·rw [h] at e; cases e; rw [n] at z; exact absurd z Bool.false_ne_true
 ·rw [z]; exact h
theorem FrozenA.fz (f : FrozenA H H1 H2) (hn : H b = none) (h : H1 b = some o) (n : fzb o = true) : ∃ ob, H2 b = some (.frz ob o) := by
 rcases f b with ⟨_, o', ob, z, e, e2⟩ | ⟨z, _⟩
 ·rw [h] at e; cases e; exact ⟨ob, e2⟩
 ·exact absurd ⟨hn, o, n, h⟩ z
theorem FrozenA.none_of (f : FrozenA H H1 H2) (h : H1 b = none) : H2 b = none := by
 rcases f b with ⟨_, o', ob, z, e, e2⟩ | ⟨_, z⟩
 ·rw [h] at e; cases e
 ·rw [z]; exact h
end
theorem Good.imp {P : Program} {w : World} {K : PySem.W.Frag} {mg : Str -> Option Value} {base : Heap} {k : Nat} {x : Str} {ps : List Str} {sp sp' : Sp} (G : Good P w K mg base k x ps sp) (h : ∀ vs H Q E, sp' vs H Q E -> sp vs H Q E) : Good P w K mg base k x ps sp' := by
 obtain ⟨f, fd, F, b, m, kp⟩ := G
 exact ⟨f, fd, F.imp h, b, m, kp⟩
def hardb : HO -> Bool
 | .frz _ _ => true
 | .tup _ => true
 | _ => false
def HS (H H' : Hp) : Prop := ∀ b o, hardb o = true -> H b = some o -> H' b = some o
section
variable {H H1 H2 : Hp} {a p c : Addr} {o : HO}
theorem HS.refl (H : Hp) : HS H H := fun _ _ _ e => e
theorem HS.trans (x : HS H H1) (y : HS H1 H2) : HS H H2 := fun b o h e => y b o h (x b o h e)
theorem Same.hs (s : Same H H1) : HS H H1 := fun b o _ e => s b o e
theorem FrozenA.hs (f : FrozenA H H1 H2) : HS H1 H2 := fun b o h e => f.keep e (by cases o <;> first | rfl | exact absurd h Bool.false_ne_true)
theorem hs_new (h : H a = none) : HS H (upd H a o) := fun b u _ e => by rw [upd_ne (ne_of_none e h)]; exact e
theorem hs_put {u : HO} (h : H a = some u) (n : hardb u = false) : HS H (upd H a o) := fun b v hv e => by
 by_cases z : b = a
 ·subst z; rw [h] at e; cases e; rw [n] at hv; exact absurd hv Bool.false_ne_true
 ·rw [upd_ne z]; exact e
end
end L2
namespace L2
open PySem PySem.Spec PyProof.Rows
theorem lk_list_keys : typeLookup (.type "list") "keys" = pure none := by rw [typeLookup_type, builtinLookup_eq_fast]; kernel_rfl
section
variable {prog : Program} {w : World} {A : Around} {E : Value -> Shared -> Prop} {s : Shared}
theorem any_noKeys {a : Addr} {xs : Array Value} {n : Nat} {Q : Option Value -> Shared -> Prop} (hA : A.handled = none) (hx : s.heap.get? a = some { cls := .type "list", data := .seq xs n })
  (h : ∀ h' tk, (∀ b o, s.heap.get? b = some o -> h'.get? b = some o) -> Q none { s with heap := h', toks := tk }) : wpAny (model prog w) A (getAttr? (.ref a) "keys") Q E s := by
 obtain ⟨hp, g, d, tk, os⟩ := s
 have ty : ∀ t', (⟨hp, g, d, t', os⟩ : Shared).TypeIs (.ref a) "list" := fun _ => ⟨_, hx, rfl⟩
 have e1 := sub_AttributeError
 have e2 := F.slot_list_getattribute.lookup
 have e3 := F.slot_list_getattribute.bind (.ref a)
 have e4 := am_list_getattr_none
 unfold getAttr? getAttrBy? getAttrBy
 repeat (any_goals (first | assumption | exact ty _ | ((with_reducible show wpAny _ _ (call (Value.builtin "list.__getattribute__") _ _) _ _ _); refine call_meets F.slot_list_getattribute (ty _) am_entry_list_getattribute (F.args_list_getattribute_2 _ _) (meets_getattribute_miss_list a xs n #[] "keys" _ lk_list_keys (by decide +kernel)) ⟨hx, hA, fun h' tk' e ne => ?_⟩) | wp_step))
 obtain ⟨t', u', he⟩ := ne.there
 show wpAny _ _ (getattributeRaised _ _ _ _ _ _ _) _ _ _
 unfold getattributeRaised
 repeat (any_goals (first | assumption | wp_step))
 all_goals exact h _ _ ne.keeps
theorem en_upd : entryFor table "dict.update.loop" = some Builtin.«dict.update.loop» := entryFor_of_tree (by kernel_rfl)
theorem pl_upd : plainId "dict.update.loop" = true := by decide +kernel
theorem dictOf_at {h h' : Heap} {a : Addr} {kvs : List (Key × Value)} (hd : h.DictOf (mixKind prog w) a kvs) (k : ∀ o, h.get? a = some o -> h'.get? a = some o) : h'.DictOf (mixKind prog w) a kvs := by
 obtain ⟨o, es, ep, e, r⟩ := hd
 exact ⟨o, es, ep, k o e, r⟩
def TupsAt (prog : Program) (w : World) (h : Heap) (its : Array Value) (ps : List (Key × Value)) : Prop :=
 its.size = ps.length /\ ∀ (j : Nat) (k : Key) (v : Value), ps[j]? = some (k, v) -> ∃ t key, its[j]? = some (.ref t) /\ IsTup h t #[key, v] /\ (mixKind prog w).is k key = true
theorem TupsAt.keep {h h' : Heap} {its : Array Value} {ps : List (Key × Value)} (x : TupsAt prog w h its ps) (k : ∀ t o, h.get? t = some o -> o.cls = .type "tuple" -> h'.get? t = some o) : TupsAt prog w h' its ps :=
 ⟨x.1, fun j kk v e => by
  obtain ⟨t, key, a, ⟨o, b, c, d⟩, f⟩ := x.2 j kk v e
  exact ⟨t, key, a, ⟨o, k t o b c, c, d⟩, f⟩⟩
theorem pairs_loop {R : Result -> Shared -> Prop} {it l dd : Addr} {its : Array Value} {ps : List (Key × Value)} (hh : A.handled = none) (hli : l ≠ it) (hdi : dd ≠ it) (hdl : dd ≠ l) (hsz : ps.length <= 1000) :
  ∀ (m i : Nat) (s : Shared) (kvs : List (Key × Value)) (tk : Tok), ps.length = i + m -> s.heap.IsListIter it l i /\ s.heap.IsList l its -> TupsAt prog w s.heap its ps -> s.heap.DictOf (mixKind prog w) dd kvs -> kvs.length <= i ->
   (∀ h' tk', h'.DictOf (mixKind prog w) dd ((ps.drop i).foldl (fun acc kv => stored acc kv.1 kv.2) kvs) -> (∀ b o, b ≠ it -> b ≠ dd -> s.heap.get? b = some o -> h'.get? b = some o) -> R (.ok (.ret .none)) { s with heap := h', toks := tk' }) ->
   codeAny (model prog w) A (.builtin "dict.update.loop" ⟨[.ref dd, .ref it, .int i tk, .none], []⟩) R s := by
 have W := Walks.list (prog := prog) (w := w) (A := A.in1) (by simp [hh]) it l hli its
 intro m
 induction m with
 | zero =>
  intro i s kvs tk hm st ht hd hl hR
  refine codeAny_builtin en_upd ?_
  rw [Around.under_plainId pl_upd _]
  unfold Builtin.«dict.update.loop»
  refine wpAny_bind (W.done s _ _ (by rw [ht.1, hm]; exact st) fun h' tk' k => ?_)
  refine wpAny_bind (wpAny_pure (wpAny_pure ?_))
  have e : ps.drop i = [] := List.drop_of_length_le (by omega)
  rw [e] at hR
  refine hR h' tk' (dictOf_at hd fun o e => k dd o (by simp [hdi]) e) fun b o n1 _ e => k b o (by simp [n1]) e
 | succ m ih =>
  intro i s kvs tk hm st ht hd hl hR
  have hi : i < ps.length := by omega
  have hp : ps[i]? = some (ps[i].1, ps[i].2) := List.getElem?_eq_getElem hi
  obtain ⟨t, key, e1, htt, hkey⟩ := ht.2 i _ _ hp
  refine codeAny_builtin en_upd ?_
  rw [Around.under_plainId pl_upd _]
  unfold Builtin.«dict.update.loop»
  refine wpAny_bind (W.item i s _ _ (by rw [ht.1]; exact hi) st fun v h' tk' hv st' k => ?_)
  have hv : v = .ref t := by rw [e1] at hv; exact (Option.some.inj hv).symm
  subst hv
  have nti : ∀ b o, s.heap.get? b = some o -> o.cls = .type "tuple" -> b ≠ it := fun b o e c z => by
   obtain ⟨o', e', c', _⟩ := st.1
   rw [<- z, e] at e'
   cases e'
   rw [c] at c'
   exact absurd c' (by decide)
  have ntd : ∀ b o, s.heap.get? b = some o -> o.cls = .type "tuple" -> b ≠ dd := fun b o e c z => by
   obtain ⟨o', e', c'⟩ := hd.typeIs
   rw [<- z, e] at e'
   cases e'
   rw [c] at c'
   exact absurd c' (by decide)
  obtain ⟨ot, et, ct, nt, dt⟩ := htt
  have et' := k t ot (by simp [nti t ot et ct]) et
  have hd' : h'.DictOf (mixKind prog w) dd kvs := dictOf_at hd fun o e => k dd o (by simp [hdi]) e
  have ty : Shared.TypeIs { s with heap := h', toks := tk' } (.ref t) "tuple" := ⟨ot, et', ct⟩
  refine wpAny_bind (wpAny_holding ?_)
  refine wpAny_bind (wpAny_tryCatch ?_)
  unfold Builtin.Dict.pairItems
  refine wpAny_bind (wpAny_typeOf ty ?_)
  rw [if_pos (by decide)]
  refine wpAny_bind (wpAny_seqItems et' dt (wpAny_pure ?_))
  refine wpAny_holding (wpAny_dictSet_pairs hkey hd' (fun h2 hd2 sb => ?_) (by rw [sizeLine_eq]; omega))
  refine wpAny_pure ⟨plainId_quiet pl_upd _, ?_⟩
  have l2 := sb.2 l hdl.symm
  refine ih (i + 1) _ (stored kvs ps[i].1 ps[i].2) _ (by omega) ?_ ?_ hd2 ?_ fun h3 tk3 hd3 k3 => ?_
  ·refine W.frame (i + 1) h' h2 st' fun b hb o e => ?_
   rcases List.mem_cons.mp hb with z | z
   ·rw [z] at e ⊢; exact (sb.2 it hdi.symm).trans e
   ·rw [List.mem_singleton.mp z] at e ⊢; exact l2.trans e
  ·exact ht.keep fun b o e c => (sb.2 b (ntd b o e c)).trans (k b o (by simp [nti b o e c]) e)
  ·unfold stored
   split
   ·rw [List.length_map]; omega
   ·rw [List.length_append]; show kvs.length + 1 <= _; omega
  ·refine hR h3 tk3 ?_ fun b o n1 n2 e => k3 b o n1 n2 ((sb.2 b n2).trans (k b o (by simp [n1]) e))
   rw [show ps.drop i = ps[i] :: ps.drop (i + 1) from List.drop_eq_getElem_cons hi]
   exact hd3
theorem any_dictPairs {l : Addr} {its : Array Value} {nl : Nat} {ps : List (Key × Value)} {Q : Value -> Shared -> Prop} (hh : A.handled = none) (hl : s.heap.get? l = some { cls := .type "list", data := .seq its nl }) (ht : TupsAt prog w s.heap its ps) (hsz : ps.length <= 1000)
  (h : ∀ h' tk, h'.DictOf (mixKind prog w) s.heap.objs.size (ps.foldl (fun acc kv => stored acc kv.1 kv.2) []) -> (∀ b o, s.heap.get? b = some o -> h'.get? b = some o) -> Q (.ref s.heap.objs.size) { s with heap := h', toks := tk }) :
  wpAny (model prog w) A (call (.type "dict") [.ref l]) Q E s := by
 refine callType_codes (Q₁ := fun obj s₁ => obj = .ref s.heap.objs.size /\ s₁ = { s with heap := s.heap.push { cls := .type "dict", data := .dict #[] } }) F.kt_called_dict (F.kt_typeCall_dict_1 _) F.entry_dict_init (kt_code_dict_new _ ⟨rfl, rfl⟩) ?_
 rintro obj s₁ ⟨rfl, rfl⟩
 have new : (s.heap.push { cls := .type "dict", data := .dict #[] }).DictOf (mixKind prog w) s.heap.objs.size [] := Heap.DictOf.new s.heap
 have hl1 : (s.heap.push { cls := .type "dict", data := .dict #[] }).get? l = some { cls := .type "list", data := .seq its nl } := Heap.get?_push_of_some _ hl
 have llt := Heap.lt_size hl
 refine ⟨new.typeIs, F.args_dict_init_2 _ _, ?_⟩
 unfold Builtin.«dict.__init__»
 refine wpAny_bind ?_
 unfold Builtin.Dict.selfAndRest
 refine wpAny_bind (wpAny_notOrdered_dict new.typeIs ?_)
 show wpAny _ _ (pure (s.heap.objs.size, [Value.ref l])) _ _ _
 refine wpAny_pure ?_
 show wpAny _ _ (Builtin.Dict.updateFrom "dict.__init__" s.heap.objs.size (.ref l) [] .none) _ _ _
 unfold Builtin.Dict.updateFrom
 refine wpAny_bind (wpAny_typeOf (T := "list") ⟨_, hl1, rfl⟩ ?_)
 rw [if_pos (by decide)]
 refine wpAny_bind (any_noKeys (by simp [hh]) hl1 fun h2 tk2 k2 => ?_)
 rw [if_pos (by decide)]
 refine wpAny_bind (wpAny_rule ?_)
 have hl2 := k2 _ _ hl1
 have isl : Heap.IsList h2 l its := ⟨_, hl2, rfl, nl, rfl⟩
 refine wpAny_bind (wpAny_pyIter_list isl ?_)
 have sz2 : s.heap.objs.size < h2.objs.size := by
  have : (s.heap.push { cls := .type "dict", data := .dict #[] }).get? s.heap.objs.size = some _ := Heap.get?_push_size _ rfl
  exact Heap.lt_size (k2 _ _ this)
 refine wpAny_pure ⟨plainId_quiet pl_upd _, pairs_loop (A := A.in1) (its := its) (ps := ps) (by simp [hh]) (Nat.ne_of_lt (Heap.lt_size hl2)) (Nat.ne_of_lt sz2) (Nat.ne_of_gt llt) hsz ps.length 0 _ [] _ (by simp) ⟨⟨_, Heap.get?_push_size _ rfl, rfl, rfl⟩, isl.push _⟩ ?_ ?_ (Nat.zero_le _) fun h3 tk3 hd3 k3 => ?_⟩
 ·exact ht.keep fun b o e _ => Heap.get?_push_of_some _ (k2 _ _ (Heap.get?_push_of_some _ e))
 ·exact (dictOf_at new fun o e => k2 _ _ e).push _
 ·refine ⟨rfl, h h3 tk3 hd3 fun b o e => ?_⟩
  have lt := Heap.lt_size e
  exact k3 b o (Nat.ne_of_lt (Nat.lt_trans lt sz2)) (Nat.ne_of_lt lt) (Heap.get?_push_of_some _ (k2 _ _ (Heap.get?_push_of_some _ e)))
end
section
variable {X : Cx}
theorem fold_kv : ∀ {ps : List (Key × V)} {qs : List (Key × Value)} {kvs : List (Key × V)} {vs : List (Key × Value)}, KV ps qs -> KV kvs vs -> KV (mergeK kvs ps) (qs.foldl (fun acc kv => stored acc kv.1 kv.2) vs) := by
 intro ps qs kvs vs r
 unfold KV at r
 induction r generalizing kvs vs with
 | nil => intro q; exact q
 | @cons p q ps qs h t ih =>
  intro r0
  refine ih (kvs := putK kvs p.1 p.2) (vs := stored vs q.1 q.2) ?_
  rw [<- h.1]
  exact r0.put p.1 h.2
end
end L2
namespace WordM
open PySem
def sigA : Str := " !\"#$&'()*+,-./0123456789:;<=>?@ABCDEFGHIJKLMNOPQRSTUVWXYZ[\\]^_`"
def sigB : Str := "abcdefghijklmnopqrstuvwxyz{|}~"
def SIG : Str := sigA ++ sigB
abbrev cs (x : Str) : List Nat := x.cps.toList
def Sg (x : Str) : Prop := ∀ c ∈ cs x, c ∈ cs SIG
instance (x : Str) : Decidable (Sg x) := by unfold Sg; infer_instance
theorem app (a b : Str) : cs (a ++ b) = cs a ++ cs b := by
 show (a.cps ++ b.cps).toList = _
 simp
theorem len (a : Str) : a.length = (cs a).length := by simp [Str.length]
theorem Sg.app {a b : Str} (ha : Sg a) (hb : Sg b) : Sg (a ++ b) := fun c hc => by
 rw [WordM.app] at hc
 rcases List.mem_append.mp hc with z | z
 ·exact ha c z
 ·exact hb c z
theorem Sg.one {x : Str} (h : Sg x) {c : Nat} (hc : c ∈ cs x) : Sg ⟨#[c]⟩ := fun d hd => by
 have : d = c := by simpa using hd
 rw [this]
 exact h c hc
theorem sg_nil : Sg ⟨#[]⟩ := fun c hc => by simp at hc
theorem slice_mem {x : Str} {l u : Option Int} {c : Nat} (h : c ∈ cs (Txt.slice x l u)) : c ∈ cs x := by
 unfold Txt.slice at h
 split at h
 ·exact h
 ·simp only [cs, List.toList_toArray, List.mem_filterMap] at h
  obtain ⟨i, _, hi⟩ := h
  obtain ⟨hlt, e⟩ := Array.getElem?_eq_some_iff.mp hi
  rw [<- e]
  simp
theorem Sg.slice {x : Str} (h : Sg x) (l u : Option Int) : Sg (Txt.slice x l u) := fun c hc => h c (slice_mem hc)
theorem slice_len (x : Str) (l u : Option Int) : (Txt.slice x l u).length <= x.length := Txt.slice_le x l u
theorem str_ext {a b : Str} (h : cs a = cs b) : a = b := by
 obtain ⟨a⟩ := a
 obtain ⟨b⟩ := b
 have : a = b := Array.toList_inj.mp h
 rw [this]
theorem slice_tail {c : Nat} {r : Str} : Txt.slice ((⟨#[c]⟩ : Str) ++ r) (some 1) none = r := by
 refine str_ext ?_
 have hl : (((⟨#[c]⟩ : Str) ++ r).length) = 1 + r.length := by rw [len, app, len]; simp
 rw [PyProof.Rows.slice_from_eq (b := ((((⟨#[c]⟩ : Str) ++ r).length : Nat) : Int)) (by decide) (by omega) rfl]
 show ((cs ((⟨#[c]⟩ : Str) ++ r)).drop 1).take _ = _
 rw [app]
 show ((c :: cs r).drop 1).take _ = cs r
 rw [List.drop_one, List.tail_cons, List.take_of_length_le]
 rw [hl, len]
 omega
theorem slice_tail0 {x : Str} (h : x.length = 0) : Txt.slice x (some 1) none = x := by
 have h1 := slice_len x (some 1) none
 refine str_ext ?_
 have e1 : cs (Txt.slice x (some 1) none) = [] := List.eq_nil_of_length_eq_zero (by rw [<- len]; omega)
 have e2 : cs x = [] := List.eq_nil_of_length_eq_zero (by rw [<- len]; omega)
 rw [e1, e2]
theorem sig_len : SIG.length = 94 := by decide +kernel
theorem sig_nodup : (cs SIG).Nodup := by decide +kernel
theorem slice1_len (x : Str) : (Txt.slice x (some 1) none).length + 1 <= (if x.length < 1 then 1 else x.length) := by
 by_cases h : x.length = 0
 ·rw [slice_tail0 h, if_pos (by omega)]
  omega
 ·rw [if_neg (by omega)]
  rw [PyProof.Rows.slice_from_eq (b := (x.length : Int)) (by decide) (by omega) rfl]
  show (((cs x).drop 1).take _).toArray.size + 1 <= _
  rw [List.size_toArray, List.length_take, List.length_drop, <- len]
  omega
theorem nodup_len {α : Type} [DecidableEq α] : ∀ {l m : List α}, l.Nodup -> (∀ x ∈ l, x ∈ m) -> l.length <= m.length
 | [], m, _, _ => Nat.zero_le _
 | x :: l, m, hn, hs => by
  have hx := hs x List.mem_cons_self
  have h2 := List.nodup_cons.mp hn
  have ih := nodup_len (l := l) (m := m.erase x) h2.2 fun y hy => by
   have hne : y ≠ x := fun e => h2.1 (e ▸ hy)
   exact (List.mem_erase_of_ne hne).mpr (hs y (List.mem_cons_of_mem _ hy))
  rw [List.length_erase_of_mem hx] at ih
  have : 0 < m.length := List.length_pos_of_mem hx
  rw [List.length_cons]
  omega
def sigAt (a : Int) : Nat := (cs SIG).getD (a % 94).toNat 0
theorem sigAt_mem (a : Int) : sigAt a ∈ cs SIG := by
 have hl : (a % 94).toNat < (cs SIG).length := by
  rw [<- len, sig_len]
  have := Int.emod_lt_of_pos a (show (0 : Int) < 94 by decide)
  have := Int.emod_nonneg a (show (94 : Int) ≠ 0 by decide)
  omega
 unfold sigAt
 rw [List.getD_eq_getElem?_getD, List.getElem?_eq_getElem hl]
 exact List.getElem_mem hl
theorem sigAt_inj {a b : Int} (h : sigAt a = sigAt b) : a % 94 = b % 94 := by
 have b1 := Int.emod_lt_of_pos a (show (0 : Int) < 94 by decide)
 have b2 := Int.emod_nonneg a (show (94 : Int) ≠ 0 by decide)
 have b3 := Int.emod_lt_of_pos b (show (0 : Int) < 94 by decide)
 have b4 := Int.emod_nonneg b (show (94 : Int) ≠ 0 by decide)
 have hl : (cs SIG).length = 94 := by rw [<- len]; exact sig_len
 unfold sigAt at h
 rw [List.getD_eq_getElem?_getD, List.getD_eq_getElem?_getD, List.getElem?_eq_getElem (by omega), List.getElem?_eq_getElem (by omega)] at h
 have h : (cs SIG)[(a % 94).toNat] = (cs SIG)[(b % 94).toNat] := h
 have hp := List.pairwise_iff_getElem.mp sig_nodup
 rcases Nat.lt_trichotomy (a % 94).toNat (b % 94).toNat with z | z | z
 ·exact absurd h (hp _ _ (by omega) (by omega) z)
 ·omega
 ·exact absurd h.symm (hp _ _ (by omega) (by omega) z)
def tryT (a : Int) (r : Str) (i : Nat) : Str := (⟨#[sigAt (a + i)]⟩ : Str) ++ r
theorem tryT_inj {a : Int} {r : Str} {i j : Nat} (hi : i < 90) (hj : j < 90) (h : tryT a r i = tryT a r j) : i = j := by
 have h1 : cs (tryT a r i) = cs (tryT a r j) := by rw [h]
 unfold tryT at h1
 rw [app, app] at h1
 have h2 : sigAt (a + i) = sigAt (a + j) := by
  have := List.cons.inj h1
  exact this.1
 have := sigAt_inj h2
 omega
theorem tried_le {a : Int} {r : Str} {ss : List Str} {j : Nat} (hj : j < 80) (h : ∀ i, 1 <= i -> i <= j -> tryT a r i ∈ ss) : j <= ss.length := by
 have := nodup_len (l := (List.range j).map fun i => tryT a r (i + 1)) (m := ss) (by
  unfold List.Nodup
  rw [List.pairwise_map]
  refine List.Pairwise.imp_of_mem (fun {x y} hx hy hlt e => ?_) List.pairwise_lt_range
  have hx := List.mem_range.mp hx
  have hy := List.mem_range.mp hy
  have := tryT_inj (by omega) (by omega) e
  omega) (fun x hx => by
  obtain ⟨i, hi, rfl⟩ := List.mem_map.mp hx
  have := List.mem_range.mp hi
  exact h (i + 1) (by omega) (by omega))
 simpa using this
end WordM
namespace L2
open PySem PySem.Spec PyProof.Rows WordM
section
variable {α β : Type} {F G : α -> β -> Prop}
theorem paired_get : ∀ {xs : List α} {ys : List β} {i : Nat} {x : α}, Paired F xs ys -> xs[i]? = some x -> ∃ y, ys[i]? = some y /\ F x y
 | _, _, _, _, .nil, e => by simp at e
 | _, _, 0, _, .cons r _, e => by simp at e; subst e; exact ⟨_, rfl, r⟩
 | _, _, i + 1, x, .cons _ t, e => by
  obtain ⟨u, h1, h2⟩ := paired_get (i := i) (x := x) t (by simpa using e)
  exact ⟨u, by simpa using h1, h2⟩
end
inductive Tv where
 | leaf (v : V)
 | seq (t : Bool) (xs : List Tv)
 | dct (kts : List (Str × Tv))
def VT (S : Bool -> Addr -> List V -> Prop) (D : Addr -> List (Key × V) -> Prop) : Nat -> V -> Tv -> Prop
 | 0, _, _ => False
 | d + 1, x, T => (flatV x = true /\ T = .leaf x) \/ (∃ t a xs Ts, x = .ref a /\ S t a xs /\ T = .seq t Ts /\ Ts.length <= 100000 /\ Paired (VT S D d) xs Ts) \/
   ∃ a kvs kts, x = .ref a /\ D a kvs /\ T = .dct kts /\ (kts.map (·.1)).Nodup /\ kts.length < 64 /\ Paired (fun (kv : Key × V) (kt : Str × Tv) => kv.1 = .inr kt.1 /\ VT S D d kv.2 kt.2) kvs kts
section
variable {S S' : Bool -> Addr -> List V -> Prop} {D D' : Addr -> List (Key × V) -> Prop}
theorem VT.mono (hs : ∀ t a xs, S t a xs -> S' t a xs) (hd : ∀ a kvs, D a kvs -> D' a kvs) : ∀ {d : Nat} {x : V} {T : Tv}, VT S D d x T -> VT S' D' d x T
 | 0, _, _, h => False.elim h
 | d + 1, x, T, h => by
  rcases h with h | ⟨t, a, xs, Ts, h1, h2, h3, hz, h4⟩ | ⟨a, kvs, kts, h1, h2, h3, h4, h5, h6⟩
  ·exact .inl h
  ·exact .inr (.inl ⟨t, a, xs, Ts, h1, hs _ _ _ h2, h3, hz, Paired.mapP h4 fun _ _ q => VT.mono hs hd q⟩)
  ·exact .inr (.inr ⟨a, kvs, kts, h1, hd _ _ h2, h3, h4, h5, Paired.mapP h6 fun _ _ q => ⟨q.1, VT.mono hs hd q.2⟩⟩)
theorem VT.more : ∀ {d : Nat} {x : V} {T : Tv}, VT S D d x T -> VT S D (d + 1) x T
 | 0, _, _, h => False.elim h
 | d + 1, x, T, h => by
  rcases h with h | ⟨t, a, xs, Ts, h1, h2, h3, hz, h4⟩ | ⟨a, kvs, kts, h1, h2, h3, h4, h5, h6⟩
  ·exact .inl h
  ·exact .inr (.inl ⟨t, a, xs, Ts, h1, h2, h3, hz, Paired.mapP h4 fun _ _ q => VT.more q⟩)
  ·exact .inr (.inr ⟨a, kvs, kts, h1, h2, h3, h4, h5, Paired.mapP h6 fun _ _ q => ⟨q.1, VT.more q.2⟩⟩)
theorem VT.le {d e : Nat} (h : d <= e) {x : V} {T : Tv} (q : VT S D d x T) : VT S D e x T := by
 obtain ⟨k, rfl⟩ := Nat.le.dest h
 clear h
 induction k with
 | zero => exact q
 | succ k ih => exact VT.more ih
end
def HDct (H : Hp) (a : Addr) (kvs : List (Key × V)) : Prop := ∃ ob, FzD H a ob kvs
section
variable {K : PySem.W.Frag} {H H' : Hp} {d : Nat} {x : V} {T : Tv}
theorem HDct.hs (e : HS H H') {a : Addr} {kvs : List (Key × V)} (h : HDct H a kvs) : HDct H' a kvs := by
 obtain ⟨ob, h⟩ := h
 exact ⟨ob, e _ _ rfl h⟩
end
theorem rising_pw' : ∀ (p : Str) (l : List Str), risingS p l = true -> ∀ x ∈ l, (cs x < cs p) -> False := by
 intro p l
 induction l generalizing p with
 | nil => intro _ x hx; simp at hx
 | cons y l ih =>
  intro h x hx hlt
  have h : (!PySem.Spec.ltCps y.cps.toList p.cps.toList && risingS y l) = true := h
  rw [Bool.and_eq_true] at h
  have hy : ¬ (cs y < cs p) := by
   have := h.1
   rw [ltCps_eq] at this
   simpa using this
  rcases List.mem_cons.mp hx with z | z
  ·subst z; exact hy hlt
  ·have hxy : ¬ (cs x < cs y) := fun q => ih y h.2 x z q
   have h1 : cs p <= cs y := List.not_lt.mp hy
   have h2 : cs y <= cs x := List.not_lt.mp hxy
   exact absurd hlt (List.not_lt.mpr (List.le_trans h1 h2))
theorem sorted_pw' : ∀ (l : List Str), sortedS l = true -> l.Pairwise fun a b => cs a <= cs b
 | [], _ => .nil
 | x :: l, h => by
  have h : risingS x l = true := h
  refine .cons (fun y hy => List.not_lt.mp fun z => rising_pw' x l h y hy z) (sorted_pw' l ?_)
  cases l with
  | nil => rfl
  | cons y l =>
   have h : (!PySem.Spec.ltCps y.cps.toList x.cps.toList && risingS y l) = true := h
   rw [Bool.and_eq_true] at h
   exact h.2
open Classical in
noncomputable def sortS (us : List Str) : List Str := if h : ∃ ss : List Str, ss.Perm us /\ sortedS ss = true then h.choose else us
theorem sortS_perm (us : List Str) : (sortS us).Perm us := by
 unfold sortS
 split
 ·rename_i h; exact h.choose_spec.1
 ·exact .refl _
theorem sortS_eq {us ss : List Str} (h1 : ss.Perm us) (h2 : sortedS ss = true) : ss = sortS us := by
 have ex : ∃ ss : List Str, ss.Perm us /\ sortedS ss = true := ⟨ss, h1, h2⟩
 have e : sortS us = ex.choose := by unfold sortS; rw [dif_pos ex]
 rw [e]
 exact List.Perm.eq_of_pairwise (fun a b _ _ h1 h2 => str_ext (List.le_antisymm h1 h2)) (sorted_pw' _ h2) (sorted_pw' _ ex.choose_spec.2) (h1.trans ex.choose_spec.1.symm)
def lookD (kts : List (Str × Tv)) (k : Str) : Option Tv := (kts.find? fun kt => decide (kt.1 = k)).map (·.2)
section
variable {S : Bool -> Addr -> List V -> Prop} {D : Addr -> List (Key × V) -> Prop} {d : Nat}
theorem look_at {kvs : List (Key × V)} {kts : List (Str × Tv)} {R : V -> Tv -> Prop} (h : Paired (fun (kv : Key × V) (kt : Str × Tv) => kv.1 = .inr kt.1 /\ R kv.2 kt.2) kvs kts) (k : Str) :
  (lookD kts k = none /\ valV kvs (.inr k) = none) \/ ∃ U v, lookD kts k = some U /\ valV kvs (.inr k) = some v /\ R v U := by
 induction h with
 | nil => exact .inl ⟨rfl, rfl⟩
 | @cons kv kt l1 l2 h _ ih =>
  obtain ⟨e, r⟩ := h
  by_cases z : kt.1 = k
  ·refine .inr ⟨kt.2, kv.2, ?_, valV_pos (by rw [e, z]), r⟩
   unfold lookD
   rw [List.find?_cons, decide_eq_true z]
   rfl
  ·have e2 : lookD (kt :: l2) k = lookD l2 k := by
    unfold lookD
    rw [List.find?_cons, decide_eq_false z]
   have e3 : valV (kv :: l1) (.inr k) = valV l1 (.inr k) := valV_neg (by rw [e]; exact fun q => z (Sum.inr.inj q))
   rw [e2, e3]
   exact ih
theorem look_get {kts : List (Str × Tv)} (hn : (kts.map (·.1)).Nodup) {i : Nat} {kt : Str × Tv} (h : kts[i]? = some kt) : lookD kts kt.1 = some kt.2 := by
 induction kts generalizing i with
 | nil => cases h
 | cons a l ih =>
  rw [List.map_cons, List.nodup_cons] at hn
  cases i with
  | zero =>
   cases h
   unfold lookD
   rw [List.find?_cons, decide_eq_true rfl]
   rfl
  | succ i =>
   have h : l[i]? = some kt := by simpa using h
   have z : a.1 ≠ kt.1 := fun z => hn.1 (by rw [z]; exact List.mem_map.mpr ⟨kt, List.mem_of_getElem? h, rfl⟩)
   have := ih hn.2 h
   unfold lookD at this ⊢
   rw [List.find?_cons, decide_eq_false z]
   exact this
end
theorem SqT.hs {K : PySem.W.Frag} {H H' : Hp} {a : Addr} {xs : List V} (e : HS H H') (h : SqT K H a xs) : SqT K H' a xs := by
 rcases h with (h | ⟨o, h⟩) | h
 ·exact .inl (.inl (e _ _ rfl h))
 ·exact .inl (.inr ⟨o, e _ _ rfl h⟩)
 ·exact .inr h
theorem paired_app {α β : Type} {F : α -> β -> Prop} {a c : List α} {b d : List β} (h1 : Paired F a b) (h2 : Paired F c d) : Paired F (a ++ c) (b ++ d) := by
 induction h1 with
 | nil => exact h2
 | cons r _ ih => exact .cons r ih
end L2
namespace L2
open PySem PySem.Spec PyProof.Rows
abbrev noHp : Hp := fun _ => none
def Thaw (H H3 H4 : Hp) : Prop := ∀ b, (∃ o ob, fzb o = true /\ H b = some o /\ H3 b = some (.frz ob o) /\ H4 b = some o) \/ ((¬ ∃ o ob, fzb o = true /\ H b = some o /\ H3 b = some (.frz ob o)) /\ H4 b = H3 b)
theorem thaw_is (H H3 : Hp) : ∃ H4, Thaw H H3 H4 := by
 classical
 refine ⟨fun b => if h : ∃ o ob, fzb o = true /\ H b = some o /\ H3 b = some (.frz ob o) then some h.choose else H3 b, fun b => ?_⟩
 by_cases h : ∃ o ob, fzb o = true /\ H b = some o /\ H3 b = some (.frz ob o)
 ·obtain ⟨ob, h1, h2, h3⟩ := h.choose_spec
  exact .inl ⟨h.choose, ob, h1, h2, h3, by dsimp only; rw [dif_pos h]⟩
 ·exact .inr ⟨h, by dsimp only; rw [dif_neg h]⟩
theorem frozen_is {P : Program} {w : World} {H : Hp} {h : Heap} (hok : HOk P w H h) : ∃ H2, FrozenA noHp H H2 /\ HOk P w H2 h := by
 let H2 : Hp := fun b => match H b with
  | none => none
  | some o => match fzb o with
   | false => some o
   | true => match h.get? b with
    | some ob => some (.frz ob o)
    | none => some o
 have new : ∀ b o ob, H b = some o -> fzb o = true -> h.get? b = some ob -> H2 b = some (.frz ob o) := fun b o ob h1 n e => by
  show (match H b with | none => none | some o => _) = _
  rw [h1]
  dsimp only
  rw [n, e]
 have rest : ∀ b, (∀ o, H b = some o -> fzb o = false) -> H2 b = H b := fun b hn => by
  show (match H b with | none => none | some o => _) = _
  cases e : H b with
  | none => rfl
  | some o =>
   dsimp only
   rw [hn o e]
 have fro : FrozenA noHp H H2 := fun b => by
  cases h1 : H b with
  | none => exact .inr ⟨(fun ⟨_, _, _, z⟩ => by cases z), by rw [rest b (fun o z => by rw [h1] at z; cases z), h1]⟩
  | some o =>
   cases n : fzb o with
   | true =>
    obtain ⟨ob, e⟩ := (hok b o h1).there
    exact .inl ⟨rfl, o, ob, n, rfl, new b o ob h1 n e⟩
   | false => exact .inr ⟨(fun ⟨_, o', n', z⟩ => by cases z; rw [n] at n'; exact absurd n' Bool.false_ne_true), by rw [rest b (fun o' z => by rw [h1] at z; cases z; exact n), h1]⟩
 refine ⟨H2, fro, fun b o e => ?_⟩
 have st : ∀ o, ObjOk P w H h b o -> ObjOk P w H2 h b o := fun o x => x.stay (fun _ _ _ r => r) (fun d r => fro.keep r rfl) fun d xs r => fro.keep r rfl
 rcases fro b with ⟨hn, o', ob, n, z, z'⟩ | ⟨_, z'⟩
 ·obtain ⟨ob2, e2⟩ := (hok b o' z).there
  have q2 := new b o' ob2 z n e2
  rw [e] at q2
  cases q2
  exact ⟨e2, st _ (hok b _ z)⟩
 ·rw [z'] at e
  exact st o (hok b o e)
section
variable {H H2 H3 H4 : Hp} {b : Addr} {o : HO}
theorem Thaw.same (f : FrozenA noHp H H2) (s : Same H2 H3) (t : Thaw H H3 H4) : Same H H4 := fun b o e => by
 cases n : fzb o with
 | true =>
  obtain ⟨ob, e2⟩ := f.fz (b := b) rfl e n
  have e3 := s b _ e2
  rcases t b with ⟨u, ob', _, z, _, z'⟩ | ⟨z, _⟩
  ·rw [e] at z; cases z; exact z'
  ·exact absurd ⟨o, ob, n, e, e3⟩ z
 | false =>
  have e3 := s b _ (f.keep e n)
  rcases t b with ⟨u, ob', n', z, _⟩ | ⟨_, z⟩
  ·rw [e] at z; cases z; rw [n] at n'; exact absurd n' Bool.false_ne_true
  ·rw [z]; exact e3
end
theorem mergeK_nd : ∀ {ps kvs : List (Key × V)}, ((kvs ++ ps).map (·.1)).Nodup -> mergeK kvs ps = kvs ++ ps
 | [], kvs, _ => by show kvs = kvs ++ []; rw [List.append_nil]
 | p :: ps, kvs, h => by
  have hv : valV kvs p.1 = none := by
   cases e : valV kvs p.1 with
   | none => rfl
   | some v =>
    have := valV_in e
    rw [List.map_append, List.nodup_append] at h
    exact absurd rfl (h.2.2 p.1 this p.1 (by simp))
  show mergeK (putK kvs p.1 p.2) ps = _
  rw [putK_new p.2 hv, mergeK_nd (by simpa using h), List.append_assoc]
  rfl
end L2
namespace L2
open PySem PySem.Spec PyProof.Rows WordM
def PSeq (K : PySem.W.Frag) (H : Hp) (t : Bool) (a : Addr) (xs : List V) : Prop := match t with
 | false => ∃ ob, H a = some (.frz ob (.lst xs))
 | true => SqT K H a xs
abbrev VP (K : PySem.W.Frag) (H : Hp) : Nat -> V -> Tv -> Prop := VT (PSeq K H) (HDct H)
def VA (K : PySem.W.Frag) (H : Hp) (x : V) (T : Tv) : Prop := ∃ d, VP K H d x T
abbrev VAs (K : PySem.W.Frag) (H : Hp) : List V -> List Tv -> Prop := Paired (VA K H)
def VAk (K : PySem.W.Frag) (H : Hp) : List (Key × V) -> List (Str × Tv) -> Prop := Paired fun (kv : Key × V) (kt : Str × Tv) => kv.1 = .inr kt.1 /\ VA K H kv.2 kt.2
section
variable {K : PySem.W.Frag} {H H' H1 H2 : Hp} {x y v : V} {T U : Tv} {a : Addr} {xs : List V} {Ts : List Tv} {t : Bool} {kvs : List (Key × V)} {kts : List (Str × Tv)}
theorem PSeq.hs (e : HS H H') (h : PSeq K H t a xs) : PSeq K H' t a xs := by
 cases t with
 | false => obtain ⟨ob, h⟩ := h; exact ⟨ob, e _ _ rfl h⟩
 | true => exact SqT.hs e h
theorem VA.hs (e : HS H H') (h : VA K H x T) : VA K H' x T := by
 obtain ⟨d, h⟩ := h
 exact ⟨d, h.mono (fun _ _ _ q => q.hs e) fun _ _ q => q.hs e⟩
theorem VAs.hs (e : HS H H') (h : VAs K H xs Ts) : VAs K H' xs Ts := Paired.mapP h fun _ _ q => q.hs e
theorem VAk.hs (e : HS H H') (h : VAk K H kvs kts) : VAk K H' kvs kts := Paired.mapP h fun _ _ q => ⟨q.1, q.2.hs e⟩
theorem VAs.deep (h : VAs K H xs Ts) : ∃ d, Paired (VP K H d) xs Ts := by
 induction h with
 | nil => exact ⟨0, .nil⟩
 | cons r _ ih =>
  obtain ⟨d, r⟩ := r
  obtain ⟨e, ih⟩ := ih
  exact ⟨max d e, .cons (r.le (Nat.le_max_left _ _)) (Paired.mapP ih fun _ _ q => VT.le (Nat.le_max_right _ _) q)⟩
theorem VAk.deep (h : VAk K H kvs kts) : ∃ d, Paired (fun (kv : Key × V) (kt : Str × Tv) => kv.1 = .inr kt.1 /\ VP K H d kv.2 kt.2) kvs kts := by
 unfold VAk at h
 induction h with
 | nil => exact ⟨0, .nil⟩
 | cons r _ ih =>
  obtain ⟨k, d, r⟩ := r
  obtain ⟨e, ih⟩ := ih
  exact ⟨max d e, .cons ⟨k, r.le (Nat.le_max_left _ _)⟩ (Paired.mapP ih fun _ _ q => ⟨q.1, VT.le (Nat.le_max_right _ _) q.2⟩)⟩
theorem VA.flat (h : flatV x = true) : VA K H x (.leaf x) := ⟨1, .inl ⟨h, rfl⟩⟩
theorem VA.seq (h : PSeq K H t a xs) (z : Ts.length <= 100000) (p : VAs K H xs Ts) : VA K H (.ref a) (.seq t Ts) := by
 obtain ⟨d, p⟩ := p.deep
 exact ⟨d + 1, .inr (.inl ⟨t, a, xs, Ts, rfl, h, rfl, z, p⟩)⟩
theorem VA.dct (h : HDct H a kvs) (n : (kts.map (·.1)).Nodup) (z : kts.length < 64) (p : VAk K H kvs kts) : VA K H (.ref a) (.dct kts) := by
 obtain ⟨d, p⟩ := p.deep
 exact ⟨d + 1, .inr (.inr ⟨a, kvs, kts, rfl, h, rfl, n, z, p⟩)⟩
theorem VA.leafI (h : VA K H x (.leaf v)) : x = v /\ flatV v = true := by
 obtain ⟨d, h⟩ := h
 cases d with
 | zero => exact False.elim h
 | succ d =>
  rcases h with ⟨f, e⟩ | ⟨_, _, _, _, _, _, e, _⟩ | ⟨_, _, _, _, _, e, _⟩
  ·cases e; exact ⟨rfl, f⟩
  ·cases e
  ·cases e
theorem VA.seqI (h : VA K H x (.seq t Ts)) : ∃ a xs, x = .ref a /\ PSeq K H t a xs /\ Ts.length <= 100000 /\ VAs K H xs Ts := by
 obtain ⟨d, h⟩ := h
 cases d with
 | zero => exact False.elim h
 | succ d =>
  rcases h with ⟨_, e⟩ | ⟨t', a, xs, Ts', e1, hs, e, z, p⟩ | ⟨_, _, _, _, _, e, _⟩
  ·cases e
  ·cases e; exact ⟨a, xs, e1, hs, z, Paired.mapP p fun _ _ q => ⟨d, q⟩⟩
  ·cases e
theorem VA.dctI (h : VA K H x (.dct kts)) : ∃ a kvs, x = .ref a /\ HDct H a kvs /\ (kts.map (·.1)).Nodup /\ kts.length < 64 /\ VAk K H kvs kts := by
 obtain ⟨d, h⟩ := h
 cases d with
 | zero => exact False.elim h
 | succ d =>
  rcases h with ⟨_, e⟩ | ⟨_, _, _, _, _, _, e, _⟩ | ⟨a, kvs, kts', e1, hd, e, n, z, p⟩
  ·cases e
  ·cases e
  ·cases e; exact ⟨a, kvs, e1, hd, n, z, Paired.mapP p fun _ _ q => ⟨q.1, d, q.2⟩⟩
end
inductive Sl where
 | no
 | va (T : Tv)
 | own (xs : List Tv)
 | dct (kts : List (Str × Tv))
 | dk
 | rd (t : Str) (p : Int)
 | fn (a : Addr)
abbrev PEnv := List Sl
def mutb : Sl -> Bool
 | .own _ => true
 | .dct _ => true
 | .rd _ _ => true
 | _ => false
def isRd : Sl -> Bool
 | .rd _ _ => true
 | _ => false
structure Fm where
 H0 : Hp
 dk : Option (Addr × Addr)
 rd : Option (Addr × Addr) := none
def RdAt (H : Hp) (a C : Addr) (t : Str) (p : Int) : Prop := ∃ dx, H a = some (.ins C dx [("text", .str t), ("place", .int p)])
structure Kp (dk rd : Option (Addr × Addr)) (H H' : Hp) : Prop where
 st : ∀ b o, H b = some o -> (∀ p c, dk = some (p, c) -> b ≠ p /\ b ≠ c) -> (∀ a C, rd = some (a, C) -> b ≠ a) -> H' b = some o
 dkk : ∀ p c, dk = some (p, c) -> DeckAt H' p c
 rdk : ∀ a C, rd = some (a, C) -> ∃ t p, RdAt H' a C t p
theorem Kp.tr {dk rd : Option (Addr × Addr)} {H H' : Hp} (k : Kp dk rd H H') (b : Addr) (o : HO) (e : H b = some o) : ∃ o', H' b = some o' := by
 by_cases z1 : ∃ a C, rd = some (a, C) /\ b = a
 ·obtain ⟨a, C, d, rfl⟩ := z1
  obtain ⟨t, p, dx, e1⟩ := k.rdk b C d
  exact ⟨_, e1⟩
 have n1 : ∀ a C, rd = some (a, C) -> b ≠ a := fun a C d z => z1 ⟨a, C, d, z⟩
 cases d : dk with
 | none => exact ⟨o, k.st b o e (fun p c z => by rw [d] at z; cases z) n1⟩
 | some pc =>
  obtain ⟨p, c⟩ := pc
  obtain ⟨_, ⟨S, i, e1⟩, ns, e2, _⟩ := k.dkk p c d
  by_cases h1 : b = p
  ·subst h1; exact ⟨_, e1⟩
  ·by_cases h2 : b = c
   ·subst h2; exact ⟨_, e2⟩
   ·exact ⟨o, k.st b o e (fun p' c' z => by rw [d] at z; cases z; exact ⟨h1, h2⟩) n1⟩
def SlAt (K : PySem.W.Frag) (F : Fm) (H : Hp) (ox : Option V) : Sl -> Prop
 | .no => True
 | .va T => ∃ x, ox = some x /\ VA K H x T
 | .own Ts => ∃ a xs, ox = some (.ref a) /\ H a = some (.lst xs) /\ F.H0 a = none /\ Ts.length <= 100000 /\ VAs K H xs Ts
 | .dct kts => ∃ a kvs, ox = some (.ref a) /\ H a = some (.dK kvs) /\ F.H0 a = none /\ (kts.map (·.1)).Nodup /\ kts.length < 64 /\ VAk K H kvs kts
 | .dk => ∃ p c, F.dk = some (p, c) /\ ox = some (.ref p)
 | .rd t p => ∃ a C, F.rd = some (a, C) /\ ox = some (.ref a) /\ RdAt H a C t p
 | .fn a => ox = some (.ref a)
def ixv (σ : St) (i : Nat) : Option V := (σ[i]?).join
structure FrOk (K : PySem.W.Frag) (F : Fm) (ρ : PEnv) (σ : St) (H : Hp) : Prop where
 d0 : ∀ p c, F.dk = some (p, c) -> DeckAt F.H0 p c
 r0 : ∀ a C, F.rd = some (a, C) -> ∃ t p, RdAt F.H0 a C t p
 kp : Kp F.dk F.rd F.H0 H
 len : ρ.length = σ.length
 at_ : ∀ (i : Nat) (s : Sl), ρ[i]? = some s -> SlAt K F H (ixv σ i) s
 ap : ∀ (i j : Nat) (a : Addr) (s t : Sl), ρ[i]? = some s -> ρ[j]? = some t -> mutb s = true -> mutb t = true -> ixv σ i = some (.ref a) -> ixv σ j = some (.ref a) -> i = j
def Stay (F : Fm) (ρ : PEnv) (σ : St) (H H' : Hp) : Prop := ∀ b o, H b = some o -> (∀ p c, F.dk = some (p, c) -> b ≠ p /\ b ≠ c) -> (∀ (i : Nat) (s : Sl), ρ[i]? = some s -> mutb s = true -> ixv σ i ≠ some (.ref b)) -> H' b = some o
def Sbv (ρ' ρ : PEnv) : Prop := ∀ (i : Nat) (s' : Sl), ρ'[i]? = some s' -> mutb s' = true -> ∃ s, ρ[i]? = some s /\ mutb s = true
structure Stp (K : PySem.W.Frag) (F : Fm) (σ : St) (ρ : PEnv) (H : Hp) (ρ' : PEnv) (H' : Hp) : Prop where
 fr : FrOk K F ρ' σ H'
 st : Stay F ρ σ H H'
 sub : Sbv ρ' ρ
 tr : ∀ b o, H b = some o -> ∃ o', H' b = some o'
section
variable {K : PySem.W.Frag} {F : Fm} {ρ ρ1 ρ2 : PEnv} {σ : St} {H H' H1 H2 : Hp} {x y v : V} {T U : Tv} {a b : Addr} {o : HO}
theorem Sbv.refl (ρ : PEnv) : Sbv ρ ρ := fun i s e m => ⟨s, e, m⟩
theorem Sbv.trans (h1 : Sbv ρ1 ρ) (h2 : Sbv ρ2 ρ1) : Sbv ρ2 ρ := fun i s e m => by
 obtain ⟨s1, e1, m1⟩ := h2 i s e m
 exact h1 i s1 e1 m1
theorem FrOk.own_at (fr : FrOk K F ρ σ H) {i : Nat} {s : Sl} (e : ρ[i]? = some s) (m : mutb s = true) (q : ixv σ i = some (.ref a)) (nr : isRd s = false) : (∃ o, H a = some o /\ fzb o = true) /\ F.H0 a = none := by
 have h := fr.at_ i s e
 cases s with
 | own Ts => obtain ⟨a', xs, e1, e2, e3, _⟩ := h; rw [q] at e1; cases e1; exact ⟨⟨_, e2, rfl⟩, e3⟩
 | dct kts => obtain ⟨a', xs, e1, e2, e3, _⟩ := h; rw [q] at e1; cases e1; exact ⟨⟨_, e2, rfl⟩, e3⟩
 | no => cases m
 | va _ => cases m
 | dk => cases m
 | rd _ _ => cases nr
 | fn _ => cases m
theorem FrOk.mut_at (fr : FrOk K F ρ σ H) {i : Nat} {s : Sl} (e : ρ[i]? = some s) (m : mutb s = true) (q : ixv σ i = some (.ref a)) : ∃ o, H a = some o /\ (fzb o = true \/ ∃ C dx fs, o = .ins C dx fs) := by
 cases r : isRd s with
 | false => obtain ⟨⟨o, e1, n⟩, _⟩ := fr.own_at e m q r; exact ⟨o, e1, .inl n⟩
 | true =>
  have h := fr.at_ i s e
  cases s with
  | rd t p => obtain ⟨b, C, e1, e2, dx, e3⟩ := h; rw [q] at e2; cases e2; exact ⟨_, e3, .inr ⟨_, _, _, rfl⟩⟩
  | _ => cases r
theorem FrOk.nr_of (fr : FrOk K F ρ σ H) {i : Nat} {s : Sl} (e : ρ[i]? = some s) (q : ixv σ i = some (.ref a)) (h : H a = some o) (n : fzb o = true) : isRd s = false := by
 have x := fr.at_ i s e
 cases s with
 | rd t p =>
  obtain ⟨b, C, e1, e2, dx, e3⟩ := x
  rw [q] at e2
  cases e2
  rw [e3] at h
  cases h
  cases n
 | _ => rfl
theorem FrOk.fresh_nord (fr : FrOk K F ρ σ H) (h : F.H0 a = none) : ∀ b C, F.rd = some (b, C) -> a ≠ b := fun b C e z => by
 obtain ⟨t, p, dx, e1⟩ := fr.r0 b C e
 rw [z, e1] at h; cases h
theorem FrOk.none_nord (fr : FrOk K F ρ σ H) (h : H a = none) : ∀ b C, F.rd = some (b, C) -> a ≠ b := fun b C e z => by
 obtain ⟨t, p, dx, e1⟩ := fr.kp.rdk b C e
 rw [z, e1] at h; cases h
theorem FrOk.fresh_nodk (fr : FrOk K F ρ σ H) (h : F.H0 a = none) : ∀ p c, F.dk = some (p, c) -> a ≠ p /\ a ≠ c := fun p c e => by
 obtain ⟨_, ⟨S, k, e1⟩, ns, e2, _⟩ := fr.d0 p c e
 exact ⟨fun z => (by rw [z, e1] at h; cases h), fun z => (by rw [z, e2] at h; cases h)⟩
theorem FrOk.none_nodk (fr : FrOk K F ρ σ H) (h : H a = none) : ∀ p c, F.dk = some (p, c) -> a ≠ p /\ a ≠ c := fun p c e => by
 obtain ⟨_, ⟨S, k, e1⟩, ns, e2, _⟩ := fr.kp.dkk p c e
 exact ⟨fun z => (by rw [z, e1] at h; cases h), fun z => (by rw [z, e2] at h; cases h)⟩
theorem FrOk.ins_nodk (fr : FrOk K F ρ σ H) {C dx : Addr} {fs : List (Str × V)} (h : H a = some (.ins C dx fs)) : ∀ p c, F.dk = some (p, c) -> a ≠ p /\ a ≠ c := fun p c e => by
 obtain ⟨_, ⟨S, k, e1⟩, ns, e2, _⟩ := fr.kp.dkk p c e
 exact ⟨fun z => (by rw [z, e1] at h; cases h), fun z => (by rw [z, e2] at h; cases h)⟩
theorem FrOk.mut_nodk (fr : FrOk K F ρ σ H) {i : Nat} {s : Sl} (e : ρ[i]? = some s) (m : mutb s = true) (q : ixv σ i = some (.ref a)) : ∀ p c, F.dk = some (p, c) -> a ≠ p /\ a ≠ c := by
 cases r : isRd s with
 | false => exact fr.fresh_nodk (fr.own_at e m q r).2
 | true =>
  have h := fr.at_ i s e
  cases s with
  | rd t p => obtain ⟨b, C, e1, e2, dx, e3⟩ := h; rw [q] at e2; cases e2; exact fr.ins_nodk e3
  | _ => cases r
theorem FrOk.none0 (fr : FrOk K F ρ σ H) (h : H a = none) : F.H0 a = none := by
 cases q : F.H0 a with
 | none => rfl
 | some o => rw [fr.kp.st a o q (fr.none_nodk h) (fr.none_nord h)] at h; cases h
theorem Stay.hs (fr : FrOk K F ρ σ H) (s : Stay F ρ σ H H') : HS H H' := fun b o h e => s b o e
 (fun p c d => by
  obtain ⟨_, ⟨S, k, e1⟩, ns, e2, _⟩ := fr.kp.dkk p c d
  exact ⟨fun z => (by subst z; rw [e1] at e; cases e; cases h), fun z => (by subst z; rw [e2] at e; cases e; cases h)⟩)
 fun i s e1 m q => by
  obtain ⟨o', e2, n⟩ := fr.mut_at e1 m q
  rw [e] at e2; cases e2
  rcases n with n | ⟨C, dx, fs, rfl⟩
  ·cases o <;> first | exact absurd h Bool.false_ne_true | exact absurd n Bool.false_ne_true
  ·exact absurd h Bool.false_ne_true
theorem Stay.trans (s1 : Stay F ρ σ H H1) (sb : Sbv ρ1 ρ) (s2 : Stay F ρ1 σ H1 H2) : Stay F ρ σ H H2 := fun b o e d n =>
 s2 b o (s1 b o e d n) d fun i s e1 m => by
  obtain ⟨s', e2, m'⟩ := sb i s e1 m
  exact n i s' e2 m'
theorem Stp.trans (a : Stp K F σ ρ H ρ1 H1) (b : Stp K F σ ρ1 H1 ρ2 H2) : Stp K F σ ρ H ρ2 H2 := ⟨b.fr, a.st.trans a.sub b.st, a.sub.trans b.sub, fun c o e => let ⟨o1, e1⟩ := a.tr c o e; b.tr c o1 e1⟩
theorem Stp.refl (fr : FrOk K F ρ σ H) : Stp K F σ ρ H ρ H := ⟨fr, fun _ _ e _ _ => e, Sbv.refl _, fun _ o e => ⟨o, e⟩⟩
theorem Stp.hs (a : Stp K F σ ρ H ρ1 H1) (fr : FrOk K F ρ σ H) : HS H H1 := a.st.hs fr
theorem FrOk.call (fr : FrOk K F ρ σ H) (k : Kp F.dk none H H') : FrOk K F ρ σ H' := by
 have nn : ∀ {b : Addr} (a C : Addr), (none : Option (Addr × Addr)) = some (a, C) -> b ≠ a := fun a C z => nomatch z
 have own : ∀ i s a o, ρ[i]? = some s -> mutb s = true -> ixv σ i = some (.ref a) -> H a = some o -> H' a = some o := fun i s a o e m q h =>
  k.st a o h (fr.mut_nodk e m q) nn
 have hs : HS H H' := fun b o h e => k.st b o e (fun p c d => by
  obtain ⟨_, ⟨S, k, e1⟩, ns, e2, _⟩ := fr.kp.dkk p c d
  exact ⟨fun z => (by subst z; rw [e1] at e; cases e; cases h), fun z => (by subst z; rw [e2] at e; cases e; cases h)⟩) nn
 refine ⟨fr.d0, fr.r0, ⟨fun b o e n m => k.st b o (fr.kp.st b o e n m) n nn, k.dkk, fun a C d => ?_⟩, fr.len, fun i s e => ?_, fr.ap⟩
 ·obtain ⟨t, p, dx, q⟩ := fr.kp.rdk a C d
  exact ⟨t, p, dx, k.st a _ q (fr.ins_nodk q) nn⟩
 have h := fr.at_ i s e
 cases s with
 | no => trivial
 | va T => obtain ⟨x, e1, v⟩ := h; exact ⟨x, e1, v.hs hs⟩
 | own Ts => obtain ⟨a, xs, e1, e2, e3, z, p⟩ := h; exact ⟨a, xs, e1, own i _ a _ e rfl e1 e2, e3, z, p.hs hs⟩
 | dct kts => obtain ⟨a, kvs, e1, e2, e3, n, z, p⟩ := h; exact ⟨a, kvs, e1, own i _ a _ e rfl e1 e2, e3, n, z, p.hs hs⟩
 | dk => exact h
 | fn _ => exact h
 | rd t p => obtain ⟨a, C, e1, e2, dx, e3⟩ := h; exact ⟨a, C, e1, e2, dx, own i _ a _ e rfl e2 e3⟩
theorem Kp.of_same (fr : FrOk K F ρ σ H) (s : Same H H') : Kp F.dk none H H' := ⟨fun b o e _ _ => s b o e, fun p c d => by
 obtain ⟨ne, ⟨S, k, e1⟩, ns, e2, l⟩ := fr.kp.dkk p c d
 exact ⟨ne, ⟨S, k, s _ _ e1⟩, ns, s _ _ e2, l⟩, fun _ _ z => nomatch z⟩
theorem Stp.call (fr : FrOk K F ρ σ H) (k : Kp F.dk none H H') : Stp K F σ ρ H ρ H' := ⟨fr.call k, fun b o e d _ => k.st b o e d (fun _ _ z => nomatch z), Sbv.refl _, fun b o e => k.tr b o e⟩
theorem Stp.same (fr : FrOk K F ρ σ H) (s : Same H H') : Stp K F σ ρ H ρ H' := Stp.call fr (Kp.of_same fr s)
end
theorem Stp.non {K : PySem.W.Frag} {F : Fm} {ρ ρ1 : PEnv} {σ : St} {H H1 : Hp} {a : Addr} (s : Stp K F σ ρ H ρ1 H1) (n : H1 a = none) : H a = none := by
 cases e : H a with
 | none => rfl
 | some o =>
  obtain ⟨o', e'⟩ := s.tr a o e
  rw [n] at e'; cases e'
abbrev UT := PEnv -> (Tv -> PEnv -> Prop) -> Prop
abbrev UTt := PEnv -> (Bool -> PEnv -> Prop) -> Prop
abbrev UTl := PEnv -> (List Tv -> PEnv -> Prop) -> Prop
inductive Ar where
 | va (T : Tv)
 | dk
 | fn (a : Addr)
abbrev UTa := PEnv -> (List Ar -> PEnv -> Prop) -> Prop
def ArAt (K : PySem.W.Frag) (dk : Option (Addr × Addr)) (H : Hp) (x : V) : Ar -> Prop
 | .va T => VA K H x T
 | .dk => ∃ p c, dk = some (p, c) /\ x = .ref p
 | .fn a => x = .ref a
def liftE (K : PySem.W.Frag) (F : Fm) (u : UT) : TE := fun σ H QQ => ∃ ρ Q, FrOk K F ρ σ H /\ u ρ Q /\ ∀ x T H' ρ', Stp K F σ ρ H ρ' H' -> VA K H' x T -> Q T ρ' -> QQ x H'
def liftT (K : PySem.W.Frag) (F : Fm) (u : UTt) : TT := fun σ H QQ => ∃ ρ Q, FrOk K F ρ σ H /\ u ρ Q /\ ∀ b H' ρ', Stp K F σ ρ H ρ' H' -> Q b ρ' -> QQ b H'
def liftL (K : PySem.W.Frag) (F : Fm) (u : UTl) : TE := fun σ H QQ => ∃ ρ Q, FrOk K F ρ σ H /\ u ρ Q /\ ∀ a xs Ts H' ρ', Stp K F σ ρ H ρ' H' -> H a = none -> H' a = some (.lst xs) -> Ts.length <= 100000 -> VAs K H' xs Ts -> Q Ts ρ' -> QQ (.ref a) H'
def liftA (K : PySem.W.Frag) (F : Fm) (u : UTa) : TA := fun σ H QQ => ∃ ρ Q, FrOk K F ρ σ H /\ u ρ Q /\ ∀ xs as H' ρ', Stp K F σ ρ H ρ' H' -> Paired (ArAt K F.dk H') xs as -> Q as ρ' -> QQ xs H'
structure UE (X : Cx) (F : Fm) (e : Expr) (u : UT) : Prop where
 pe : PE X e (liftE X.K F u)
structure UB (X : Cx) (F : Fm) (e : Expr) (u : UTt) : Prop where
 pt : PT X e (liftT X.K F u)
structure UW (X : Cx) (F : Fm) (e : Expr) (u : UTt) : Prop where
 pw : PW X e (liftT X.K F u)
structure UL (X : Cx) (F : Fm) (e : Expr) (u : UTl) : Prop where
 pe : PE X e (liftL X.K F u)
structure UA (X : Cx) (F : Fm) (es : List Expr) (u : UTa) : Prop where
 pa : PA X es (liftA X.K F u)
theorem PE.imp {X : Cx} {e : Expr} {t t' : TE} (h : PE X e t) (i : ∀ σ H Q, t' σ H Q -> t σ H Q) : PE X e t' := fun pins s σ H Q I q => h pins s σ H Q I (i σ H Q q)
theorem PT.imp {X : Cx} {e : Expr} {t t' : TT} (h : PT X e t) (i : ∀ σ H Q, t' σ H Q -> t σ H Q) : PT X e t' := fun pins s σ H Q I q => h pins s σ H Q I (i σ H Q q)
theorem PW.imp {X : Cx} {e : Expr} {t t' : TT} (h : PW X e t) (i : ∀ σ H Q, t' σ H Q -> t σ H Q) : PW X e t' := fun wh pins s σ H Q I q => h wh pins s σ H Q I (i σ H Q q)
theorem PA.imp {X : Cx} {es : List Expr} {t t' : TA} (h : PA X es t) (i : ∀ σ H Q, t' σ H Q -> t σ H Q) : PA X es t' := fun pos pins s σ H Q I q => h pos pins s σ H Q I (i σ H Q q)
theorem Inv.fz {X : Cx} {pins : List (Addr × Obj)} {σ : St} {H : Hp} {s : Shared} {a : Addr} {o : HO} (I : Inv X pins σ H s) (h : H a = some o) (n : fzb o = true) : ∃ ob, Inv X pins σ (upd H a (.frz ob o)) s := by
 obtain ⟨ob, eo⟩ := (I.hok a o h).there
 refine ⟨ob, ?_⟩
 have keep : ∀ b u, H b = some u -> fzb u = false -> upd H a (.frz ob o) b = some u := fun b u e m => by
  rw [upd_ne (fun z => by subst z; rw [h] at e; cases e; rw [n] at m; cases m)]; exact e
 have non : ∀ b, H b = none -> upd H a (.frz ob o) b = none := fun b e => by
  rw [upd_ne (fun z => by subst z; rw [h] at e; cases e)]; exact e
 refine ⟨I.ok, I.os, I.bare, ⟨I.base.keep, I.base.slot, fun b o e n hx => non b (I.base.free b o e n hx), I.base.there, fun b xs e => keep b _ (I.base.tups b xs e) rfl, fun b o u e => keep b _ (I.base.frzs b o u e) rfl, fun b ps e => ?_⟩, I.loc, I.cell, non _ I.free, fun x c e => non c (I.freeC x c e), fun p hp => ?_, fun b u e => ?_, I.len⟩
 ·obtain ⟨more, z⟩ := I.base.tbls b ps e
  exact ⟨more, keep b _ z rfl⟩
 ·obtain ⟨p1, p2, p3⟩ := I.pin p hp
  exact ⟨p1, non _ p2, p3⟩
 ·have st : ∀ b u, ObjOk X.prog X.w H s.heap b u -> ObjOk X.prog X.w (upd H a (.frz ob o)) s.heap b u := fun b u x => x.stay (fun _ _ _ r => r) (fun d r => keep d _ r rfl) fun d xs r => keep d _ r rfl
  by_cases z : b = a
  ·subst z
   rw [upd_same] at e
   cases e
   exact ⟨eo, st _ _ (I.hok b o h)⟩
  ·rw [upd_ne z] at e
   exact st _ _ (I.hok b u e)
def FzQ (Q : VK) : VK := fun z H => Q z H \/ ∃ a o, z = .ref a /\ H a = some o /\ fzb o = true /\ ∀ ob, Q z (upd H a (.frz ob o))
def tFz (t : TE) : TE := fun σ H Q => t σ H (FzQ Q)
theorem EP.fz {X : Cx} {pins : List (Addr × Obj)} {σ : St} {Q : VK} {u : Value} {s : Shared} (h : EP X pins σ (FzQ Q) u s) : EP X pins σ Q u s := by
 obtain ⟨x, H', I, r, q⟩ := h
 rcases q with q | ⟨a, o, rfl, e, n, q⟩
 ·exact ⟨x, H', I, r, q⟩
 ·obtain ⟨ob, I'⟩ := I.fz e n
  exact ⟨_, _, I', r, q ob⟩
theorem PE.fz {X : Cx} {e : Expr} {t : TE} (h : PE X e t) : PE X e (tFz t) := fun pins s σ H Q I q => thn (h pins s σ H _ I q) fun _ _ z => z.fz
def Raw (K : PySem.W.Frag) (H H' : Hp) (z : V) (W : Tv) : Prop := Same H H' /\ (VA K H' z W \/ ∃ a, z = .ref a /\ H a = none /\
 ((∃ xs Ts, H' a = some (.lst xs) /\ W = .seq false Ts /\ Ts.length <= 100000 /\ VAs K H' xs Ts) \/ ∃ kvs kts, H' a = some (.dK kvs) /\ W = .dct kts /\ (kts.map (·.1)).Nodup /\ kts.length < 64 /\ VAk K H' kvs kts))
section
variable {K : PySem.W.Frag} {F : Fm} {ρ ρ1 ρ2 : PEnv} {σ : St} {H H' H1 H2 : Hp} {x y v z : V} {T U W : Tv} {a b : Addr} {o : HO}
theorem Raw.va (v : VA K H z W) : Raw K H H z W := ⟨Same.refl _, .inl v⟩
theorem Raw.flat (h : flatV z = true) : Raw K H H z (.leaf z) := .va (.flat h)
theorem Raw.lst {xs : List V} {Ts : List Tv} (n : H a = none) (z : Ts.length <= 100000) (p : VAs K H xs Ts) : Raw K H (upd H a (.lst xs)) (.ref a) (.seq false Ts) :=
 ⟨same_new n, .inr ⟨a, rfl, n, .inl ⟨xs, Ts, upd_same, rfl, z, p.hs (hs_new n)⟩⟩⟩
theorem Raw.tup {xs : List V} {Ts : List Tv} (n : H a = none) (z : Ts.length <= 100000) (p : VAs K H xs Ts) : Raw K H (upd H a (.tup xs)) (.ref a) (.seq true Ts) :=
 ⟨same_new n, .inl (VA.seq (t := true) (SqT.of upd_same) z (p.hs (hs_new n)))⟩
theorem Stp.frz (fr : FrOk K F ρ σ H) (s : Same H H') (n : H a = none) (e : H' a = some o) (m : fzb o = true) (ob : Obj) : Stp K F σ ρ H ρ (upd H' a (.frz ob o)) :=
 Stp.same fr fun b u q => by rw [upd_ne (ne_of_none q n)]; exact s b u q
theorem Raw.fin (fr : FrOk K F ρ σ H) (r : Raw K H H' z W) {QQ : VK} (k : ∀ H'', Stp K F σ ρ H ρ H'' -> VA K H'' z W -> QQ z H'') : FzQ QQ z H' := by
 obtain ⟨s, v | ⟨a, rfl, n, ⟨xs, Ts, e, rfl, l, p⟩ | ⟨kvs, kts, e, rfl, nd, l, p⟩⟩⟩ := r
 ·exact .inl (k H' (Stp.same fr s) v)
 ·refine .inr ⟨a, _, rfl, e, rfl, fun ob => k _ (Stp.frz fr s n e rfl ob) (VA.seq (t := false) ⟨ob, upd_same⟩ l (p.hs (hs_put e rfl)))⟩
 ·refine .inr ⟨a, _, rfl, e, rfl, fun ob => k _ (Stp.frz fr s n e rfl ob) (VA.dct ⟨ob, upd_same⟩ nd l (p.hs (hs_put e rfl)))⟩
end
end L2
namespace L2
open PySem PySem.Spec PyProof.Rows WordM
abbrev iT (i : Int) : Tv := .leaf (.int i)
abbrev sT (x : Str) : Tv := .leaf (.str x)
abbrev bT (b : Bool) : Tv := .leaf (.bl b)
abbrev nT : Tv := .leaf .non
abbrev P1 := Tv -> (Tv -> Prop) -> Prop
abbrev P2 := Tv -> Tv -> (Tv -> Prop) -> Prop
abbrev Pn := List Tv -> (Tv -> Prop) -> Prop
section
variable {X : Cx} {F : Fm}
def uVar (i : Nat) : UT := fun ρ Q => match ρ[i]? with
 | some (.va T) => Q T ρ
 | some (.own Ts) => Q (.seq false Ts) (ρ.set i (.va (.seq false Ts)))
 | some (.dct kts) => Q (.dct kts) (ρ.set i (.va (.dct kts)))
 | _ => False
theorem ixv_some {σ : St} {i : Nat} {x : V} (h : ixv σ i = some x) : σ[i]? = some (some x) := by
 unfold ixv at h
 cases q : σ[i]? with
 | none => rw [q] at h; cases h
 | some o => rw [q] at h; cases o with
  | none => cases h
  | some y => cases h; rfl
theorem ixv_of {σ : St} {i : Nat} {x : V} (h : σ[i]? = some (some x)) : ixv σ i = some x := by
 unfold ixv; rw [h]; rfl
theorem FrOk.fzs {K : PySem.W.Frag} {ρ : PEnv} {σ : St} {H : Hp} {i : Nat} {s : Sl} {a : Addr} {o : HO} {T : Tv} (fr : FrOk K F ρ σ H) (e : ρ[i]? = some s) (m : mutb s = true) (q : ixv σ i = some (.ref a)) (h : H a = some o) (n : fzb o = true) (ob : Obj)
  (v : VA K (upd H a (.frz ob o)) (.ref a) T) : Stp K F σ ρ H (ρ.set i (.va T)) (upd H a (.frz ob o)) := by
 have hi : i < ρ.length := (List.getElem?_eq_some_iff.mp e).1
 have nr := fr.nr_of e q h n
 have h0 := (fr.own_at e m q nr).2
 have hd := fr.fresh_nodk h0
 have hs : HS H (upd H a (.frz ob o)) := hs_put h (by cases o <;> first | rfl | exact absurd n Bool.false_ne_true)
 have st : ∀ b u, b ≠ a -> H b = some u -> upd H a (.frz ob o) b = some u := fun b u z e => by rw [upd_ne z]; exact e
 have hr := fr.fresh_nord h0
 refine ⟨⟨fr.d0, fr.r0, ⟨fun b u e1 n1 n2 => st b u (fun z => by rw [z, h0] at e1; cases e1) (fr.kp.st b u e1 n1 n2), fun p c d => ?_, fun a' C d => ?_⟩, by rw [List.length_set]; exact fr.len, fun j s' e' => ?_, fun j k b s' t' e1 e2 m1 m2 q1 q2 => ?_⟩, fun b u e1 _ n1 => st b u (fun z => n1 i s e m (by rw [z]; exact q)) e1, fun j s' e' m' => ?_, fun b u e1 => if z : b = a then ⟨.frz ob o, z ▸ upd_same⟩ else ⟨u, st b u z e1⟩⟩
 ·obtain ⟨ne, ⟨S, k, e1⟩, ns, e2, l⟩ := fr.kp.dkk p c d
  exact ⟨ne, ⟨S, k, st _ _ (hd p c d).1.symm e1⟩, ns, st _ _ (hd p c d).2.symm e2, l⟩
 ·obtain ⟨t, p, dx, e1⟩ := fr.kp.rdk a' C d
  exact ⟨t, p, dx, st _ _ (hr a' C d).symm e1⟩
 ·by_cases z : i = j
  ·subst z
   rw [List.getElem?_set_self hi] at e'
   cases e'
   exact ⟨_, q, v⟩
  ·rw [List.getElem?_set_ne z] at e'
   have x := fr.at_ j s' e'
   cases s' with
   | no => trivial
   | va T => obtain ⟨y, e1, v⟩ := x; exact ⟨y, e1, v.hs hs⟩
   | own Ts => obtain ⟨b, xs, e1, e2, e3, z', p⟩ := x; exact ⟨b, xs, e1, st _ _ (fun y => z (fr.ap i j a s _ e e' m rfl q (by rw [e1, y]))) e2, e3, z', p.hs hs⟩
   | dct kts => obtain ⟨b, kvs, e1, e2, e3, n', z', p⟩ := x; exact ⟨b, kvs, e1, st _ _ (fun y => z (fr.ap i j a s _ e e' m rfl q (by rw [e1, y]))) e2, e3, n', z', p.hs hs⟩
   | dk => exact x
   | fn _ => exact x
   | rd t p => obtain ⟨b, C, e1, e2, dx, e3⟩ := x; exact ⟨b, C, e1, e2, dx, st _ _ (hr b C e1).symm e3⟩
 ·by_cases z1 : i = j
  ·subst z1; rw [List.getElem?_set_self hi] at e1; cases e1; cases m1
  ·by_cases z2 : i = k
   ·subst z2; rw [List.getElem?_set_self hi] at e2; cases e2; cases m2
   ·rw [List.getElem?_set_ne z1] at e1
    rw [List.getElem?_set_ne z2] at e2
    exact fr.ap j k b s' t' e1 e2 m1 m2 q1 q2
 ·by_cases z : i = j
  ·subst z; rw [List.getElem?_set_self hi] at e'; cases e'; cases m'
  ·rw [List.getElem?_set_ne z] at e'; exact ⟨s', e', m'⟩
theorem ue_var (i : Nat) {x : Str} {pos : Pos} (hN : X.N[i]? = some x := by rfl) (hv : Vis X.env.scope x := by first | exact Or.inl rfl | exact Or.inr (Or.inl rfl) | exact Or.inr (Or.inr rfl)) (hd : (x == ("__debug__" : Str)) = false := by decide) (hcd : (x == ("__classdict__" : Str)) = false := by decide) :
  UE X F (.Name x pos) (uVar i) := by
 refine ⟨PE.imp (PE.fz (pe_var hN hv hd hcd)) ?_⟩
 rintro σ H QQ ⟨ρ, Q, fr, h, k⟩
 unfold uVar at h
 split at h
 ·rename_i T e
  obtain ⟨y, e1, v⟩ := fr.at_ i _ e
  exact ⟨y, ixv_some e1, .inl (k y T H ρ (Stp.refl fr) v h)⟩
 ·rename_i Ts e
  obtain ⟨a, xs, e1, e2, e3, z, p⟩ := fr.at_ i _ e
  refine ⟨_, ixv_some e1, .inr ⟨a, _, rfl, e2, rfl, fun ob => ?_⟩⟩
  have v : VA X.K (upd H a (.frz ob (.lst xs))) (.ref a) (.seq false Ts) := VA.seq (t := false) ⟨ob, upd_same⟩ z (p.hs (hs_put e2 rfl))
  exact k _ _ _ _ (fr.fzs e rfl e1 e2 rfl ob v) v h
 ·rename_i kts e
  obtain ⟨a, kvs, e1, e2, e3, n, z, p⟩ := fr.at_ i _ e
  refine ⟨_, ixv_some e1, .inr ⟨a, _, rfl, e2, rfl, fun ob => ?_⟩⟩
  have v : VA X.K (upd H a (.frz ob (.dK kvs))) (.ref a) (.dct kts) := VA.dct ⟨ob, upd_same⟩ n z (p.hs (hs_put e2 rfl))
  exact k _ _ _ _ (fr.fzs e rfl e1 e2 rfl ob v) v h
 ·exact False.elim h
def uC (T : Tv) : UT := fun ρ Q => Q T ρ
theorem ue_c {e : Expr} {v : V} (h : PE X e (tC v)) (f : flatV v = true) : UE X F e (uC (.leaf v)) := ⟨PE.imp h fun σ H QQ ⟨ρ, Q, fr, h, k⟩ => k v (.leaf v) H ρ (Stp.refl fr) (.flat f) h⟩
theorem ue_int {i j pos} : UE X F (.Constant (.int i) j pos) (uC (iT i)) := ue_c pe_int rfl
theorem ue_bl {b j pos} : UE X F (.Constant (.bool b) j pos) (uC (bT b)) := ue_c pe_bl rfl
theorem ue_non {j pos} : UE X F (.Constant .none j pos) (uC nT) := ue_c pe_non rfl
theorem ue_str {x j pos} : UE X F (.Constant (.str x) j pos) (uC (sT x)) := ue_c pe_str rfl
theorem ue_glob {x : Str} {v : V} {u : Value} {T : Tv} {pos : Pos} (hg : Gl X x) (hm : X.mg x = some u) (r : RelV v u) (hv : ∀ H, VA X.K H v T) (hd : (x == ("__debug__" : Str)) = false := by decide) : UE X F (.Name x pos) (uC T) :=
 ⟨PE.imp (pe_glob hg hm r hd) fun σ H QQ ⟨ρ, Q, fr, h, k⟩ => k v T H ρ (Stp.refl fr) (hv H) h⟩
def PuR2 (K : PySem.W.Frag) (r : P2) (r' : R2) : Prop := ∀ x y T U H Q (QQ : VK), VA K H x T -> VA K H y U -> r T U Q -> (∀ z W H', Raw K H H' z W -> Q W -> QQ z H') -> r' x y H QQ
def PuOp (X : Cx) (f : Value -> Value -> Sem Value) (r : P2) : Prop := ∃ r', OpR X f r' /\ PuR2 X.K r r'
def uOp (r : P2) (ua ub : UT) : UT := fun ρ Q => ua ρ fun a ρ1 => ub ρ1 fun b ρ2 => r a b fun c => Q c ρ2
theorem lift_op {r : P2} {r' : R2} {ua ub : UT} (hr : PuR2 X.K r r') (σ : St) (H : Hp) (QQ : VK) (h : liftE X.K F (uOp r ua ub) σ H QQ) : tFz (tOp r' (liftE X.K F ua) (liftE X.K F ub)) σ H QQ := by
 obtain ⟨ρ, Q, fr, h, k⟩ := h
 refine ⟨ρ, _, fr, h, fun x T H1 ρ1 s1 v1 q1 => ⟨ρ1, _, s1.fr, q1, fun y U H2 ρ2 s2 v2 q2 => ?_⟩⟩
 refine hr x y T U H2 _ _ (v1.hs (s2.hs s1.fr)) v2 q2 fun z W H' rw q => rw.fin s2.fr fun H'' s3 v3 => k _ _ _ _ ((s1.trans s2).trans s3) v3 q
variable {a b c : Expr} {ua ub uc : UT} {pos : Pos}
theorem ue_op {op : Operator} {r : P2} (ho : PuOp X (binaryOp op) r) (ha : UE X F a ua) (hb : UE X F b ub) : UE X F (.BinOp a op b pos) (uOp r ua ub) := by
 obtain ⟨r', o, hr⟩ := ho
 exact ⟨PE.imp (PE.fz (pe_op o ha.pe hb.pe)) (lift_op hr)⟩
theorem ue_cmp {op : CmpOp} {r : P2} (ho : PuOp X (compareOp op) r) (ha : UE X F a ua) (hb : UE X F b ub) (hm : behindInMarks op b = false) : UE X F (.Compare a [op] [b] pos) (uOp r ua ub) := by
 obtain ⟨r', o, hr⟩ := ho
 exact ⟨PE.imp (PE.fz (pe_cmpR o ha.pe hb.pe hm)) (lift_op hr)⟩
def uB (u : UT) : UTt := fun ρ Q => u ρ fun T ρ' => ∃ b, T = bT b /\ Q b ρ'
theorem ub_of {e : Expr} {t : TE} {u : UT} (h : PT X e (tTest t)) (i : ∀ σ H QQ, liftE X.K F u σ H QQ -> t σ H QQ) : UB X F e (uB u) := ⟨PT.imp h fun σ H QQ ⟨ρ, Q, fr, h, k⟩ => by
 refine i σ H _ ⟨ρ, _, fr, h, fun x T H' ρ' s v q => ?_⟩
 obtain ⟨b, rfl, q⟩ := q
 obtain ⟨e, _⟩ := v.leafI
 exact ⟨b, e, k b H' ρ' s q⟩⟩
def PuR2f (K : PySem.W.Frag) (r : P2) (r' : R2) : Prop := ∀ x y T U H Q (QQ : VK), VA K H x T -> VA K H y U -> r T U Q -> (∀ z W H', Same H H' -> VA K H' z W -> Q W -> QQ z H') -> r' x y H QQ
def PuCmp (X : Cx) (f : Value -> Value -> Sem Value) (r : P2) : Prop := ∃ r', OpR X f r' /\ PuR2f X.K r r'
theorem PuR2f.raw {K : PySem.W.Frag} {r : P2} {r' : R2} (h : PuR2f K r r') : PuR2 K r r' := fun x y T U H Q QQ vx vy q k => h x y T U H Q QQ vx vy q fun z W H' s v q' => k z W H' ⟨s, .inl v⟩ q'
theorem PuCmp.op {f : Value -> Value -> Sem Value} {r : P2} (h : PuCmp X f r) : PuOp X f r := by
 obtain ⟨r', o, h⟩ := h
 exact ⟨r', o, h.raw⟩
theorem lift_opf {r : P2} {r' : R2} {ua ub : UT} (hr : PuR2f X.K r r') (σ : St) (H : Hp) (QQ : VK) (h : liftE X.K F (uOp r ua ub) σ H QQ) : tOp r' (liftE X.K F ua) (liftE X.K F ub) σ H QQ := by
 obtain ⟨ρ, Q, fr, h, k⟩ := h
 refine ⟨ρ, _, fr, h, fun x T H1 ρ1 s1 v1 q1 => ⟨ρ1, _, s1.fr, q1, fun y U H2 ρ2 s2 v2 q2 => ?_⟩⟩
 exact hr x y T U H2 _ _ (v1.hs (s2.hs s1.fr)) v2 q2 fun z W H' s v q => k _ _ _ _ ((s1.trans s2).trans (Stp.same s2.fr s)) v q
theorem ub_cmp {op : CmpOp} {r : P2} (ho : PuCmp X (compareOp op) r) (ha : UE X F a ua) (hb : UE X F b ub) (hm : behindInMarks op b = false) : UB X F (.Compare a [op] [b] pos) (uB (uOp r ua ub)) := by
 obtain ⟨r', o, hr⟩ := ho
 exact ub_of (pt_cmpR o ha.pe hb.pe hm) (lift_opf hr)
def uChain (r r' : P2) (ua ub uc : UT) : UT := fun ρ Q => ua ρ fun a ρ1 => ub ρ1 fun b ρ2 => r a b fun z => ∃ k, z = bT k /\ (if k = true then uc ρ2 fun c ρ3 => r' b c fun w => Q w ρ3 else Q (bT false) ρ2)
theorem lift_chain {r r' : P2} {s s' : R2} (hr : PuR2f X.K r s) (hr' : PuR2f X.K r' s') (σ : St) (H : Hp) (QQ : VK) (h : liftE X.K F (uChain r r' ua ub uc) σ H QQ) : tChain s s' (liftE X.K F ua) (liftE X.K F ub) (liftE X.K F uc) σ H QQ := by
 obtain ⟨ρ, Q, fr, h, k⟩ := h
 refine ⟨ρ, _, fr, h, fun x T H1 ρ1 s1 v1 q1 => ⟨ρ1, _, s1.fr, q1, fun y U H2 ρ2 s2 v2 q2 => ?_⟩⟩
 refine hr x y T U H2 _ _ (v1.hs (s2.hs s1.fr)) v2 q2 fun z W H3 ss v3 q3 => ?_
 obtain ⟨b, rfl, q3⟩ := q3
 obtain ⟨e, _⟩ := v3.leafI
 have s3 := Stp.same s2.fr ss
 refine ⟨b, e, ?_⟩
 cases b with
 | false =>
  rw [if_neg Bool.false_ne_true] at q3 ⊢
  exact k _ _ _ _ ((s1.trans s2).trans s3) (.flat rfl) q3
 | true =>
  rw [if_pos rfl] at q3 ⊢
  refine ⟨ρ2, _, s3.fr, q3, fun z' W' H4 ρ4 s4 v4 q4 => ?_⟩
  exact hr' y z' U W' H4 _ _ ((v2.hs (s3.hs s2.fr)).hs (s4.hs s3.fr)) v4 q4 fun z5 W5 H5 s5 v5 q5 => k _ _ _ _ (((s1.trans s2).trans s3).trans (s4.trans (Stp.same s4.fr s5))) v5 q5
theorem ue_chain {op op' : CmpOp} {r r' : P2} (ho : PuCmp X (compareOp op) r) (ho' : PuCmp X (compareOp op') r') (ha : UE X F a ua) (hb : UE X F b ub) (hc : UE X F c uc) (hm : lastMarks [op, op'] [b, c] = false := by with_unfolding_all rfl) :
  UE X F (.Compare a [op, op'] [b, c] pos) (uChain r r' ua ub uc) := by
 obtain ⟨s, o, hr⟩ := ho
 obtain ⟨s', o', hr'⟩ := ho'
 exact ⟨PE.imp (pe_chain o o' ha.pe hb.pe hc.pe hm) (lift_chain hr hr')⟩
def PuUn (X : Cx) (f : Value -> Sem Value) (r : P1) : Prop := ∃ r', UnR X f r' /\ ∀ x T H Q (QQ : VK), VA X.K H x T -> r T Q -> (∀ z W, VA X.K H z W -> Q W -> QQ z H) -> r' x H QQ
def uUn (r : P1) (ua : UT) : UT := fun ρ Q => ua ρ fun a ρ1 => r a fun c => Q c ρ1
theorem ue_un {op : UnaryOp} {r : P1} (ho : PuUn X (unaryOp op) r) (ha : UE X F a ua) : UE X F (.UnaryOp op a pos) (uUn r ua) := by
 obtain ⟨r', o, hr⟩ := ho
 refine ⟨PE.imp (pe_un o ha.pe) ?_⟩
 rintro σ H QQ ⟨ρ, Q, fr, h, k⟩
 exact ⟨ρ, _, fr, h, fun x T H1 ρ1 s1 v1 q1 => hr x T H1 _ _ v1 q1 fun z W v q => k _ _ _ _ s1 v q⟩
def pNeg : P1
 | .leaf (.int i), Q => Q (iT (-i))
 | _, _ => False
theorem pu_neg : PuUn X (unaryOp .USub) pNeg := ⟨_, un_neg, fun x T H Q QQ v h k => by
 unfold pNeg at h
 split at h
 ·obtain ⟨rfl, _⟩ := v.leafI
  exact ⟨_, rfl, k _ _ (.flat rfl) h⟩
 ·exact False.elim h⟩
def uAndV (ua ub : UT) : UT := fun ρ Q => ua ρ fun a ρ1 => ∃ c, a = bT c /\ if c = true then ub ρ1 Q else Q (bT false) ρ1
theorem ue_one {op} {u : UT} (h : UE X F a u) : UE X F (.BoolOp op [a] pos) u := ⟨pe_one h.pe⟩
theorem ue_and {rest : List Expr} (ha : UE X F a ua) (hb : UE X F (.BoolOp .And (b :: rest) pos) ub) : UE X F (.BoolOp .And (a :: b :: rest) pos) (uAndV ua ub) := ⟨PE.imp (pe_and ha.pe hb.pe) fun σ H QQ ⟨ρ, Q, fr, h, k⟩ => by
 refine ⟨ρ, _, fr, h, fun x T H1 ρ1 s1 v1 q1 => ?_⟩
 obtain ⟨c, rfl, q1⟩ := q1
 obtain ⟨e, _⟩ := v1.leafI
 refine ⟨c, e, ?_⟩
 cases c with
 | false => rw [if_neg Bool.false_ne_true] at q1 ⊢; exact k _ _ _ _ s1 (.flat rfl) q1
 | true => rw [if_pos rfl] at q1 ⊢; exact ⟨ρ1, _, s1.fr, q1, fun y U H2 ρ2 s2 v2 q2 => k _ _ _ _ (s1.trans s2) v2 q2⟩⟩
def uAnd (t u : UTt) : UTt := fun ρ Q => t ρ fun c ρ1 => if c = true then u ρ1 Q else Q false ρ1
def uOr (t u : UTt) : UTt := fun ρ Q => t ρ fun c ρ1 => if c = true then Q true ρ1 else u ρ1 Q
def uNot (t : UTt) : UTt := fun ρ Q => t ρ fun c ρ1 => Q (!c) ρ1
variable {ta tb : UTt} {rest : List Expr}
theorem uw_and1 (ha : UB X F a ta) : UW X F (.BoolOp .And [a] pos) ta := ⟨pw_and1 ha.pt⟩
theorem uw_or1 (ha : UB X F a ta) : UW X F (.BoolOp .Or [a] pos) ta := ⟨pw_or1 ha.pt⟩
theorem uw_and (ha : UB X F a ta) (hb : UW X F (.BoolOp .And (b :: rest) pos) tb) : UW X F (.BoolOp .And (a :: b :: rest) pos) (uAnd ta tb) := ⟨PW.imp (pw_and ha.pt hb.pw) fun σ H QQ ⟨ρ, Q, fr, h, k⟩ => by
 refine ⟨ρ, _, fr, h, fun c H1 ρ1 s1 q1 => ?_⟩
 cases c with
 | false => rw [if_neg Bool.false_ne_true] at q1 ⊢; exact k _ _ _ s1 q1
 | true => rw [if_pos rfl] at q1 ⊢; exact ⟨ρ1, _, s1.fr, q1, fun y H2 ρ2 s2 q2 => k _ _ _ (s1.trans s2) q2⟩⟩
theorem uw_or (ha : UB X F a ta) (hb : UW X F (.BoolOp .Or (b :: rest) pos) tb) : UW X F (.BoolOp .Or (a :: b :: rest) pos) (uOr ta tb) := ⟨PW.imp (pw_or ha.pt hb.pw) fun σ H QQ ⟨ρ, Q, fr, h, k⟩ => by
 refine ⟨ρ, _, fr, h, fun c H1 ρ1 s1 q1 => ?_⟩
 cases c with
 | true => rw [if_pos rfl] at q1 ⊢; exact k _ _ _ s1 q1
 | false => rw [if_neg Bool.false_ne_true] at q1 ⊢; exact ⟨ρ1, _, s1.fr, q1, fun y H2 ρ2 s2 q2 => k _ _ _ (s1.trans s2) q2⟩⟩
theorem ub_w {e : Expr} {t : UTt} (h : UW X F e t) : UB X F e t := ⟨h.pw.pt⟩
theorem ub_not (ha : UB X F a ta) : UB X F (.UnaryOp .Not a pos) (uNot ta) := ⟨PT.imp (pt_not ha.pt) fun σ H QQ ⟨ρ, Q, fr, h, k⟩ => ⟨ρ, _, fr, h, fun c H1 ρ1 s1 q1 => k _ _ _ s1 q1⟩⟩
theorem ub_val {e : Expr} {u : UT} (h : UE X F e u) (he : ∀ whole, isTrue e X.env whole = (do let v <- whole; standAt e.pos; holding [v] (truthy v)) := by intro _; rfl) : UB X F e (uB u) := ⟨PT.imp (pt_val h.pe he) fun σ H QQ ⟨ρ, Q, fr, h, k⟩ => by
 refine ⟨ρ, _, fr, h, fun x T H' ρ' s v q => ?_⟩
 obtain ⟨b, rfl, q⟩ := q
 obtain ⟨e, _⟩ := v.leafI
 exact ⟨b, e, k b H' ρ' s q⟩⟩
def uNil : UTa := fun ρ Q => Q [] ρ
def uCons (u : UT) (t : UTa) : UTa := fun ρ Q => u ρ fun T ρ1 => t ρ1 fun as ρ2 => Q (.va T :: as) ρ2
def uDk (i : Nat) (t : UTa) : UTa := fun ρ Q => ρ[i]? = some .dk /\ t ρ fun as ρ2 => Q (.dk :: as) ρ2
theorem ua_nil : UA X F [] uNil := ⟨PA.imp pa_nil fun σ H QQ ⟨ρ, Q, fr, h, k⟩ => k [] [] H ρ (Stp.refl fr) .nil h⟩
theorem ua_c {e : Expr} {es : List Expr} {u : UT} {t : UTa} (ha : UE X F e u) (hr : UA X F es t) (h : isStar e = false := by rfl) : UA X F (e :: es) (uCons u t) := ⟨PA.imp (pa_c ha.pe hr.pa h) fun σ H QQ ⟨ρ, Q, fr, h, k⟩ => by
 refine ⟨ρ, _, fr, h, fun x T H1 ρ1 s1 v1 q1 => ⟨ρ1, _, s1.fr, q1, fun xs as H2 ρ2 s2 p2 q2 => ?_⟩⟩
 exact k _ _ _ _ (s1.trans s2) (.cons (b := Ar.va T) (v1.hs (s2.hs s1.fr)) p2) q2⟩
theorem ua_dk (i : Nat) {x : Str} {pos : Pos} {es : List Expr} {t : UTa} (hr : UA X F es t) (hN : X.N[i]? = some x := by rfl) (hv : Vis X.env.scope x := by first | exact Or.inl rfl | exact Or.inr (Or.inl rfl) | exact Or.inr (Or.inr rfl)) (hd : (x == ("__debug__" : Str)) = false := by decide) (hcd : (x == ("__classdict__" : Str)) = false := by decide) :
  UA X F (.Name x pos :: es) (uDk i t) := ⟨PA.imp (pa_c (pe_var hN hv hd hcd) hr.pa rfl) fun σ H QQ ⟨ρ, Q, fr, ⟨e, h⟩, k⟩ => by
 obtain ⟨p, c, ed, ex⟩ := fr.at_ i _ e
 refine ⟨_, ixv_some ex, ρ, _, fr, h, fun xs as H2 ρ2 s2 p2 q2 => ?_⟩
 exact k _ _ _ _ s2 (.cons (b := Ar.dk) ⟨p, c, ed, rfl⟩ p2) q2⟩
def vsK : List Ar -> (List Tv -> Prop) -> Prop
 | [], Q => Q []
 | .va T :: as, Q => vsK as fun Ts => Q (T :: Ts)
 | .dk :: _, _ => False
 | .fn _ :: _, _ => False
theorem vsK_ex : ∀ {as : List Ar} {Q : List Tv -> Prop}, vsK as Q -> ∃ Ts, as = Ts.map Ar.va /\ Q Ts
 | [], _, h => ⟨[], rfl, h⟩
 | .va T :: as, Q, h => by
  obtain ⟨Ts, rfl, q⟩ := vsK_ex (as := as) (Q := fun Ts => Q (T :: Ts)) h
  exact ⟨T :: Ts, rfl, q⟩
 | .dk :: _, _, h => False.elim h
 | .fn _ :: _, _, h => False.elim h
def uVs (ua : UTa) : UTl := fun ρ Q => ua ρ fun as ρ1 => vsK as fun Ts => Q Ts ρ1
theorem vas_of {K : PySem.W.Frag} {dk : Option (Addr × Addr)} {H : Hp} : ∀ {xs : List V} {Ts : List Tv}, Paired (ArAt K dk H) xs (Ts.map Ar.va) -> VAs K H xs Ts
 | [], [], _ => .nil
 | _ :: _, _ :: _, .cons r t => .cons r (vas_of t)
def uTup (ua : UTa) : UT := fun ρ Q => uVs ua ρ fun Ts ρ1 => Ts.length <= 100000 /\ Q (.seq true Ts) ρ1
def uLst (ua : UTa) : UTl := fun ρ Q => uVs ua ρ fun Ts ρ1 => Ts.length <= 100000 /\ Q Ts ρ1
theorem line_of {n : Nat} (h : n <= 100000) : n <= sizeLine := by rw [sizeLine_eq]; omega
theorem line_lt {n : Nat} (h : n < 100000) : n < sizeLine := by rw [sizeLine_eq]; omega
theorem ue_tup {es : List Expr} {t : UTa} {x1} (h : UA X F es t) : UE X F (.Tuple es x1 pos) (uTup t) := ⟨PE.imp (pe_tup h.pa) fun σ H QQ ⟨ρ, Q, fr, h, k⟩ => by
 refine ⟨ρ, _, fr, h, fun xs as H1 ρ1 s1 p1 q1 => ?_⟩
 obtain ⟨Ts, rfl, z, q⟩ := vsK_ex q1
 have p := vas_of p1
 have l : xs.length = Ts.length := Paired.length p
 refine ⟨line_of (by omega), fun a n => ?_⟩
 have r := Raw.tup (K := X.K) n z p
 exact k _ _ _ _ (s1.trans (Stp.same s1.fr r.1)) (VA.seq (t := true) (SqT.of upd_same) z (p.hs (hs_new n))) q⟩
theorem ul_lst {es : List Expr} {t : UTa} (h : UA X F es t) : UL X F (.List es pos) (uLst t) := ⟨PE.imp (pe_lst h.pa) fun σ H QQ ⟨ρ, Q, fr, h, k⟩ => by
 refine ⟨ρ, _, fr, h, fun xs as H1 ρ1 s1 p1 q1 => ?_⟩
 obtain ⟨Ts, rfl, z, q⟩ := vsK_ex q1
 have p := vas_of p1
 have l : xs.length = Ts.length := Paired.length p
 refine ⟨line_of (by omega), fun a n => ?_⟩
 exact k _ _ _ _ _ (s1.trans (Stp.same s1.fr (same_new n))) (s1.non n) upd_same z (p.hs (hs_new n)) q⟩
end
end L2
namespace L2
open PySem PySem.Spec PyProof.Rows WordM
theorem FrOk.fzn {K : PySem.W.Frag} {F : Fm} {ρ : PEnv} {σ : St} {H : Hp} {a : Addr} {o : HO} (fr : FrOk K F ρ σ H) (h : H a = some o) (n : fzb o = true) (h0 : F.H0 a = none) (na : ∀ (i : Nat) (s : Sl), ρ[i]? = some s -> mutb s = true -> ixv σ i ≠ some (.ref a)) (o' : HO) : FrOk K F ρ σ (upd H a o') := by
 have hd := fr.fresh_nodk h0
 have hs : HS H (upd H a o') := hs_put h (by cases o <;> first | rfl | exact absurd n Bool.false_ne_true)
 have st : ∀ b u, b ≠ a -> H b = some u -> upd H a o' b = some u := fun b u z e => by rw [upd_ne z]; exact e
 have hr := fr.fresh_nord h0
 refine ⟨fr.d0, fr.r0, ⟨fun b u e1 n1 n2 => st b u (fun z => by rw [z, h0] at e1; cases e1) (fr.kp.st b u e1 n1 n2), fun p c d => ?_, fun a' C d => ?_⟩, fr.len, fun j s' e' => ?_, fr.ap⟩
 ·obtain ⟨ne, ⟨S, k, e1⟩, ns, e2, l⟩ := fr.kp.dkk p c d
  exact ⟨ne, ⟨S, k, st _ _ (hd p c d).1.symm e1⟩, ns, st _ _ (hd p c d).2.symm e2, l⟩
 ·obtain ⟨t, p, dx, e1⟩ := fr.kp.rdk a' C d
  exact ⟨t, p, dx, st _ _ (hr a' C d).symm e1⟩
 ·have x := fr.at_ j s' e'
  cases s' with
  | no => trivial
  | va T => obtain ⟨y, e1, v⟩ := x; exact ⟨y, e1, v.hs hs⟩
  | own Ts => obtain ⟨b, xs, e1, e2, e3, z', p⟩ := x; exact ⟨b, xs, e1, st _ _ (fun y => na j _ e' rfl (by rw [e1, y])) e2, e3, z', p.hs hs⟩
  | dct kts => obtain ⟨b, kvs, e1, e2, e3, n', z', p⟩ := x; exact ⟨b, kvs, e1, st _ _ (fun y => na j _ e' rfl (by rw [e1, y])) e2, e3, n', z', p.hs hs⟩
  | dk => exact x
  | fn _ => exact x
  | rd t p => obtain ⟨b, C, e1, e2, dx, e3⟩ := x; exact ⟨b, C, e1, e2, dx, st _ _ (hr b C e1).symm e3⟩
theorem Stp.notown {K : PySem.W.Frag} {F : Fm} {ρ ρ1 : PEnv} {σ : St} {H H1 : Hp} {a : Addr} (s : Stp K F σ ρ H ρ1 H1) (fr : FrOk K F ρ σ H) (n : H a = none) : ∀ (i : Nat) (s : Sl), ρ1[i]? = some s -> mutb s = true -> ixv σ i ≠ some (.ref a) := fun i s' e m q => by
 obtain ⟨s0, e0, m0⟩ := s.sub i s' e m
 obtain ⟨o, e1, _⟩ := fr.mut_at e0 m0 q
 rw [n] at e1; cases e1
theorem Stp.put {K : PySem.W.Frag} {F : Fm} {ρ ρ1 : PEnv} {σ : St} {H H1 : Hp} {a : Addr} {o : HO} (s : Stp K F σ ρ H ρ1 H1) (fr : FrOk K F ρ σ H) (n : H a = none) (e : H1 a = some o) (m : fzb o = true) (o' : HO) : Stp K F σ ρ H ρ1 (upd H1 a o') :=
 ⟨s.fr.fzn e m (fr.none0 n) (s.notown fr n) o', fun b u q d n1 => by rw [upd_ne (ne_of_none q n)]; exact s.st b u q d n1, s.sub, fun b u q => by rw [upd_ne (ne_of_none q n)]; exact s.tr b u q⟩
section
variable {X : Cx} {F : Fm} {e : Expr} {pos : Pos}
def uL (u : UTl) : UT := fun ρ Q => u ρ fun Ts ρ1 => Q (.seq false Ts) ρ1
theorem ue_ul {u : UTl} (h : UL X F e u) : UE X F e (uL u) := ⟨PE.imp (PE.fz h.pe) fun σ H QQ ⟨ρ, Q, fr, h, k⟩ => ⟨ρ, _, fr, h, fun a xs Ts H' ρ' s n e z p q =>
 .inr ⟨a, _, rfl, e, rfl, fun ob => k _ _ _ _ (s.put fr n e rfl (.frz ob (.lst xs))) (VA.seq (t := false) ⟨ob, upd_same⟩ z (p.hs (hs_put e rfl))) q⟩⟩⟩
def PuRn (K : PySem.W.Frag) (r : Pn) (r' : List V -> Hp -> VK -> Prop) : Prop := ∀ xs Ts H Q (QQ : VK), VAs K H xs Ts -> r Ts Q -> (∀ z W H', Raw K H H' z W -> Q W -> QQ z H') -> r' xs H QQ
def PuCall (X : Cx) (f : Value) (r : Pn) : Prop := ∃ r', CallR X f r' /\ PuRn X.K r r'
def uCB (r : Pn) (ua : UTa) : UT := fun ρ Q => uVs ua ρ fun Ts ρ1 => r Ts fun W => Q W ρ1
theorem lift_cb {r : Pn} {r' : List V -> Hp -> VK -> Prop} {ua : UTa} (hr : PuRn X.K r r') (σ : St) (H : Hp) (QQ : VK) (h : liftE X.K F (uCB r ua) σ H QQ) : tFz (tCB r' (liftA X.K F ua)) σ H QQ := by
 obtain ⟨ρ, Q, fr, h, k⟩ := h
 refine ⟨ρ, _, fr, h, fun xs as H1 ρ1 s1 p1 q1 => ?_⟩
 obtain ⟨Ts, rfl, q⟩ := vsK_ex q1
 exact hr xs Ts H1 _ _ (vas_of p1) q fun z W H' rw q => rw.fin s1.fr fun H'' s3 v3 => k _ _ _ _ (s1.trans s3) v3 q
variable {es : List Expr} {x : Str} {p : Pos} {ua : UTa}
theorem ue_callB {id : String} {r : Pn} (hc : PuCall X (.builtin id) r) (hg : Gl X x) (hm : X.mg x = none) (hv : bootBuiltins x = some (.builtin id)) (ha : UA X F (e :: es) ua) (hn : x ≠ "__name__" := by decide) (hdb : (x == ("__debug__" : Str)) = false := by decide)
  (he : starEach (e :: es) X.env = (false, eval e X.env) :: starEach es X.env := by rfl) (hpl : (backTo pos (starEach es X.env)).any (·.1) = false := by rfl) : UE X F (.Call (.Name x p) (e :: es) [] pos) (uCB r ua) := by
 obtain ⟨r', o, hr⟩ := hc
 exact ⟨PE.imp (PE.fz (pe_callB o hg hm hv ha.pa hn hdb he hpl)) (lift_cb hr)⟩
theorem ue_callTy {id : String} {r : Pn} (hc : PuCall X (.type id) r) (hg : Gl X x) (hm : X.mg x = none) (hv : bootBuiltins x = some (.type id)) (ha : UA X F (e :: es) ua) (hn : x ≠ "__name__" := by decide) (hdb : (x == ("__debug__" : Str)) = false := by decide)
  (he : starEach (e :: es) X.env = (false, eval e X.env) :: starEach es X.env := by rfl) (hpl : (backTo pos (starEach es X.env)).any (·.1) = false := by rfl) : UE X F (.Call (.Name x p) (e :: es) [] pos) (uCB r ua) := by
 obtain ⟨r', o, hr⟩ := hc
 exact ⟨PE.imp (PE.fz (pe_callTy o hg hm hv ha.pa hn hdb he hpl)) (lift_cb hr)⟩
def PuRl (K : PySem.W.Frag) (r : List Tv -> (List Tv -> Prop) -> Prop) (r' : List V -> Hp -> VK -> Prop) : Prop := ∀ xs Ts H Q (QQ : VK), VAs K H xs Ts -> r Ts Q -> (∀ a ys Us H', Same H H' -> H a = none -> H' a = some (.lst ys) -> Us.length <= 100000 -> VAs K H' ys Us -> Q Us -> QQ (.ref a) H') -> r' xs H QQ
def PuCallL (X : Cx) (f : Value) (r : List Tv -> (List Tv -> Prop) -> Prop) : Prop := ∃ r', CallR X f r' /\ PuRl X.K r r'
def uCL (r : List Tv -> (List Tv -> Prop) -> Prop) (ua : UTa) : UTl := fun ρ Q => uVs ua ρ fun Ts ρ1 => r Ts fun Us => Q Us ρ1
theorem lift_cl {r : List Tv -> (List Tv -> Prop) -> Prop} {r' : List V -> Hp -> VK -> Prop} {ua : UTa} (hr : PuRl X.K r r') (σ : St) (H : Hp) (QQ : VK) (h : liftL X.K F (uCL r ua) σ H QQ) : tCB r' (liftA X.K F ua) σ H QQ := by
 obtain ⟨ρ, Q, fr, h, k⟩ := h
 refine ⟨ρ, _, fr, h, fun xs as H1 ρ1 s1 p1 q1 => ?_⟩
 obtain ⟨Ts, rfl, q⟩ := vsK_ex q1
 exact hr xs Ts H1 _ _ (vas_of p1) q fun a ys Us H' sm n e z p q => k _ _ _ _ _ (s1.trans (Stp.same s1.fr sm)) (s1.non n) e z p q
theorem ul_callB {id : String} {r : List Tv -> (List Tv -> Prop) -> Prop} (hc : PuCallL X (.builtin id) r) (hg : Gl X x) (hm : X.mg x = none) (hv : bootBuiltins x = some (.builtin id)) (ha : UA X F (e :: es) ua) (hn : x ≠ "__name__" := by decide) (hdb : (x == ("__debug__" : Str)) = false := by decide)
  (he : starEach (e :: es) X.env = (false, eval e X.env) :: starEach es X.env := by rfl) (hpl : (backTo pos (starEach es X.env)).any (·.1) = false := by rfl) : UL X F (.Call (.Name x p) (e :: es) [] pos) (uCL r ua) := by
 obtain ⟨r', o, hr⟩ := hc
 exact ⟨PE.imp (pe_callB o hg hm hv ha.pa hn hdb he hpl) (lift_cl hr)⟩
theorem ul_callTy {id : String} {r : List Tv -> (List Tv -> Prop) -> Prop} (hc : PuCallL X (.type id) r) (hg : Gl X x) (hm : X.mg x = none) (hv : bootBuiltins x = some (.type id)) (ha : UA X F (e :: es) ua) (hn : x ≠ "__name__" := by decide) (hdb : (x == ("__debug__" : Str)) = false := by decide)
  (he : starEach (e :: es) X.env = (false, eval e X.env) :: starEach es X.env := by rfl) (hpl : (backTo pos (starEach es X.env)).any (·.1) = false := by rfl) : UL X F (.Call (.Name x p) (e :: es) [] pos) (uCL r ua) := by
 obtain ⟨r', o, hr⟩ := hc
 exact ⟨PE.imp (pe_callTy o hg hm hv ha.pa hn hdb he hpl) (lift_cl hr)⟩
abbrev PSp := List Ar -> (Tv -> Prop) -> Prop
def liftP (K : PySem.W.Frag) (psp : PSp) : Sp := fun vs H Q _ => ∃ dk as R, (∀ p c, dk = some (p, c) -> DeckAt H p c) /\ Paired (ArAt K dk H) vs as /\ psp as R /\ ∀ x T H', Kp dk none H H' -> VA K H' x T -> R T -> Q x H'
def PGood (P : Program) (w : World) (K : PySem.W.Frag) (mg : Str -> Option Value) (base : Heap) (k : Nat) (x : Str) (ps : List Str) (psp : PSp) : Prop := Good P w K mg base k x ps (liftP K psp)
def uCall (psp : PSp) (ua : UTa) : UT := fun ρ Q => ua ρ fun as ρ1 => psp as fun W => Q W ρ1
theorem lift_call {psp : PSp} {ua : UTa} (σ : St) (H : Hp) (QQ : VK) (h : liftE X.K F (uCall psp ua) σ H QQ) : tCall (liftP X.K psp) [] E0 (liftA X.K F ua) σ H QQ := by
 obtain ⟨ρ, Q, fr, h, k⟩ := h
 refine ⟨ρ, _, fr, h, fun xs as H1 ρ1 s1 p1 q1 => ?_⟩
 show liftP X.K psp (xs ++ []) H1 QQ E0
 rw [List.append_nil]
 exact ⟨F.dk, as, _, s1.fr.kp.dkk, p1, q1, fun z W H' kp v q => k _ _ _ _ (s1.trans (Stp.call s1.fr kp)) v q⟩
theorem ue_fn {k : Nat} {ps : List Str} {psp : PSp} (G : PGood X.prog X.w X.K X.mg X.base k x ps psp) (hr : Room k X.A) (hg : Gl X x) (ha : UA X F (e :: es) ua) (hdb : (x == ("__debug__" : Str)) = false := by decide)
  (hst : isStar e = false := by rfl) (hpl : (backTo pos (starEach es X.env)).any (·.1) = false := by rfl) : UE X F (.Call (.Name x p) (e :: es) [] pos) (uCall psp ua) :=
 ⟨PE.imp (pe_fn G hr hg ha.pa hdb hst hpl) lift_call⟩
theorem ue_fn0 {k : Nat} {ps : List Str} {psp : PSp} (G : PGood X.prog X.w X.K X.mg X.base k x ps psp) (hr : Room k X.A) (hg : Gl X x) (hdb : (x == ("__debug__" : Str)) = false := by decide) : UE X F (.Call (.Name x p) [] [] pos) (uCall psp uNil) :=
 ⟨PE.imp (pe_fn0 G hr hg hdb) fun σ H QQ ⟨ρ, Q, fr, h, k⟩ => ⟨F.dk, [], _, fr.kp.dkk, .nil, h, fun z W H' kp v q => k _ _ _ _ (Stp.call fr kp) v q⟩⟩
def PuIx (X : Cx) (r : P2) : Prop := ∃ r', IxR X r' /\ PuR2 X.K r r'
variable {a b : Expr} {va vb : UT}
theorem ue_ix {r : P2} (ho : PuIx X r) (ha : UE X F a va) (hb : UE X F b vb) (hs : PlainIx b := by intro _ _; rfl) : UE X F (.Subscript a b pos) (uOp r va vb) := by
 obtain ⟨r', o, hr⟩ := ho
 exact ⟨PE.imp (PE.fz (pe_ix o ha.pe hb.pe hs)) (lift_op hr)⟩
abbrev UTo := PEnv -> (Option Int -> PEnv -> Prop) -> Prop
def liftO (K : PySem.W.Frag) (F : Fm) (u : UTo) : TO := fun σ H QQ => ∃ ρ Q, FrOk K F ρ σ H /\ u ρ Q /\ ∀ o H' ρ', Stp K F σ ρ H ρ' H' -> Q o ρ' -> QQ o H'
structure UO (X : Cx) (F : Fm) (e : Option Expr) (u : UTo) : Prop where
 po : PO X e (liftO X.K F u)
theorem PO.imp {e : Option Expr} {t t' : TO} (h : PO X e t) (i : ∀ σ H Q, t' σ H Q -> t σ H Q) : PO X e t' := fun pins s σ H Q I q => h pins s σ H Q I (i σ H Q q)
def uoN : UTo := fun ρ Q => Q none ρ
def uoS (u : UT) : UTo := fun ρ Q => u ρ fun T ρ1 => ∃ i, T = iT i /\ Q (some i) ρ1
theorem uo_none : UO X F none uoN := ⟨PO.imp po_none fun σ H QQ ⟨ρ, Q, fr, h, k⟩ => k _ _ _ (Stp.refl fr) h⟩
theorem uo_some {u : UT} (h : UE X F e u) : UO X F (some e) (uoS u) := ⟨PO.imp (po_some h.pe) fun σ H QQ ⟨ρ, Q, fr, h, k⟩ => ⟨ρ, _, fr, h, fun x T H1 ρ1 s1 v1 q1 => by
 obtain ⟨i, rfl, q⟩ := q1
 exact ⟨i, v1.leafI.1, k _ _ _ s1 q⟩⟩⟩
abbrev PSl := Tv -> Option Int -> Option Int -> (Tv -> Prop) -> Prop
def PuSl (X : Cx) (r : PSl) : Prop := ∃ r', SlR X r' /\ ∀ x T lo hi H Q (QQ : VK), VA X.K H x T -> r T lo hi Q -> (∀ z W H', Raw X.K H H' z W -> Q W -> QQ z H') -> r' x lo hi H QQ
def uSl (r : PSl) (u : UT) (lo hi : UTo) : UT := fun ρ Q => u ρ fun T ρ1 => lo ρ1 fun l ρ2 => hi ρ2 fun h ρ3 => r T l h fun W => Q W ρ3
theorem ue_slice {r : PSl} {lo hi : Option Expr} {ul uh : UTo} {p2 : Pos} (ho : PuSl X r) (ha : UE X F a va) (hl : UO X F lo ul) (hh : UO X F hi uh) : UE X F (.Subscript a (.Slice lo hi none p2) pos) (uSl r va ul uh) := by
 obtain ⟨r', o, hr⟩ := ho
 refine ⟨PE.imp (PE.fz (pe_slice o ha.pe hl.po hh.po)) ?_⟩
 rintro σ H QQ ⟨ρ, Q, fr, h, k⟩
 refine ⟨ρ, _, fr, h, fun x T H1 ρ1 s1 v1 q1 => ⟨ρ1, _, s1.fr, q1, fun l H2 ρ2 s2 q2 => ⟨ρ2, _, s2.fr, q2, fun u H3 ρ3 s3 q3 => ?_⟩⟩⟩
 exact hr x T l u H3 _ _ ((v1.hs (s2.hs s1.fr)).hs (s3.hs s2.fr)) q3 fun z W H' rw q => rw.fin s3.fr fun H'' s4 v4 => k _ _ _ _ ((s1.trans s2).trans (s3.trans s4)) v4 q
end
structure PEnds where
 nx : PEnv -> Prop
 rt : Tv -> Prop
 bk : PEnv -> Prop := fun _ => False
 ct : PEnv -> Prop := fun _ => False
 rr : Tv -> PEnv -> Prop := fun _ _ => False
def RdS (F : Fm) (ρ : PEnv) (H : Hp) : Prop := ∀ (i : Nat) (t : Str) (p : Int), ρ[i]? = some (.rd t p) -> ∃ a C, F.rd = some (a, C) /\ RdAt H a C t p
theorem FrOk.rds {K : PySem.W.Frag} {F : Fm} {ρ : PEnv} {σ : St} {H : Hp} (fr : FrOk K F ρ σ H) : RdS F ρ H := fun i t p e => by
 obtain ⟨a, C, e1, _, e2⟩ := fr.at_ i _ e
 exact ⟨a, C, e1, e2⟩
abbrev UTs := PEnds -> PEnv -> Prop
def liftS (K : PySem.W.Frag) (F : Fm) (u : UTs) : TS := fun D σ H => ∃ ρ P, FrOk K F ρ σ H /\ u P ρ /\ (∀ σ' H' ρ', FrOk K F ρ' σ' H' -> HS H H' -> P.nx ρ' -> D.nx σ' H') /\ (∀ x T H' ρ', Kp F.dk F.rd F.H0 H' -> RdS F ρ' H' -> VA K H' x T -> (P.rt T \/ P.rr T ρ') -> D.rt x H') /\
 (∀ σ' H' ρ', FrOk K F ρ' σ' H' -> HS H H' -> P.bk ρ' -> D.bk σ' H') /\ ∀ σ' H' ρ', FrOk K F ρ' σ' H' -> HS H H' -> P.ct ρ' -> D.ct σ' H'
structure US (X : Cx) (F : Fm) (st : Stmt) (u : UTs) : Prop where
 ps : PS X st (liftS X.K F u)
structure USs (X : Cx) (F : Fm) (st : List Stmt) (u : UTs) : Prop where
 ps : PSs X st (liftS X.K F u)
theorem PS.imp {X : Cx} {st : Stmt} {t t' : TS} (h : PS X st t) (i : ∀ D σ H, t' D σ H -> t D σ H) : PS X st t' := fun pins s σ H D I q => h pins s σ H D I (i D σ H q)
theorem PSs.imp {X : Cx} {st : List Stmt} {t t' : TS} (h : PSs X st t) (i : ∀ D σ H, t' D σ H -> t D σ H) : PSs X st t' := fun pins s σ H D I q => h pins s σ H D I (i D σ H q)
section
variable {X : Cx} {F : Fm} {e : Expr} {pos : Pos} {st : Stmt} {rest : List Stmt} {u : UT}
def sNil : UTs := fun P ρ => P.nx ρ
def sSeq (s t : UTs) : UTs := fun P ρ => s { P with nx := fun ρ' => t P ρ' } ρ
theorem us_nil : USs X F [] sNil := ⟨PSs.imp pss_nil fun D σ H ⟨ρ, P, fr, h, k1, _⟩ => k1 σ H ρ fr (HS.refl _) h⟩
theorem us_one {s : UTs} (h : US X F st s) : USs X F [st] s := ⟨pss_one h.ps⟩
theorem us_cons {s t : UTs} (h : US X F st s) (hr : USs X F rest t) : USs X F (st :: rest) (sSeq s t) := ⟨PSs.imp (pss_cons h.ps hr.ps) fun D σ H ⟨ρ, P, fr, h, k1, k2, k3, k4⟩ => by
 refine ⟨ρ, _, fr, h, fun σ' H' ρ' fr' hs q => ?_, k2, k3, k4⟩
 exact ⟨ρ', P, fr', q, fun σ2 H2 ρ2 f2 h2 q2 => k1 _ _ _ f2 (hs.trans h2) q2, k2, fun σ2 H2 ρ2 f2 h2 q2 => k3 _ _ _ f2 (hs.trans h2) q2, fun σ2 H2 ρ2 f2 h2 q2 => k4 _ _ _ f2 (hs.trans h2) q2⟩⟩
def sRet (u : UT) : UTs := fun P ρ => u ρ fun T _ => P.rt T
theorem us_ret (h : UE X F e u) : US X F (.Return (some e) pos) (sRet u) := ⟨PS.imp (ps_ret h.pe) fun D σ H ⟨ρ, P, fr, h, _, k2, _⟩ => ⟨ρ, _, fr, h, fun x T H' ρ' s v q => k2 x T H' ρ' s.fr.kp s.fr.rds v (.inl q)⟩⟩
def sRetR (u : UT) : UTs := fun P ρ => u ρ fun T ρ1 => P.rr T ρ1
theorem us_retR (h : UE X F e u) : US X F (.Return (some e) pos) (sRetR u) := ⟨PS.imp (ps_ret h.pe) fun D σ H ⟨ρ, P, fr, h, _, k2, _⟩ => ⟨ρ, _, fr, h, fun x T H' ρ' s v q => k2 x T H' ρ' s.fr.kp s.fr.rds v (.inr q)⟩⟩
def sIf (t : UTt) (s r : UTs) : UTs := fun P ρ => t ρ fun b ρ1 => if b = true then s P ρ1 else r P ρ1
theorem us_if {c : Expr} {a b : List Stmt} {t : UTt} {s r : UTs} (hc : UB X F c t) (ha : USs X F a s) (hb : USs X F b r) : US X F (.If c a b pos) (sIf t s r) := ⟨PS.imp (ps_if hc.pt ha.ps hb.ps) fun D σ H ⟨ρ, P, fr, h, k1, k2, k3, k4⟩ => by
 refine ⟨ρ, _, fr, h, fun b H1 ρ1 s1 q1 => ?_⟩
 have hs := s1.hs fr
 have fin : ∀ {v : UTs}, v P ρ1 -> liftS X.K F v D σ H1 := fun q => ⟨ρ1, P, s1.fr, q, fun σ2 H2 ρ2 f2 h2 q2 => k1 _ _ _ f2 (hs.trans h2) q2, k2, fun σ2 H2 ρ2 f2 h2 q2 => k3 _ _ _ f2 (hs.trans h2) q2, fun σ2 H2 ρ2 f2 h2 q2 => k4 _ _ _ f2 (hs.trans h2) q2⟩
 cases b with
 | true => exact iteT (fin (by rw [if_pos rfl] at q1; exact q1))
 | false => exact iteF (fin (by rw [if_neg Bool.false_ne_true] at q1; exact q1))⟩
def sExpr (u : UT) : UTs := fun P ρ => u ρ fun _ ρ1 => P.nx ρ1
theorem us_expr (h : UE X F e u) (hs : swapsWith e none pos.line X.env = pure false := by rfl) : US X F (.Expr e pos) (sExpr u) := ⟨PS.imp (ps_expr h.pe hs) fun D σ H ⟨ρ, P, fr, h, k1, _⟩ => ⟨ρ, _, fr, h, fun x T H' ρ' s v q => k1 _ _ _ s.fr (s.hs fr) q⟩⟩
theorem FrOk.set {K : PySem.W.Frag} {ρ : PEnv} {σ : St} {H : Hp} {i : Nat} {s : Sl} {x : V} (fr : FrOk K F ρ σ H) (v : i < ρ.length -> SlAt K F H (some x) s) (na : mutb s = true -> ∀ a, x = .ref a -> ∀ (j : Nat) (t : Sl), ρ[j]? = some t -> mutb t = true -> ixv σ j ≠ some (.ref a)) : FrOk K F (ρ.set i s) (σ.set i (some x)) H := by
 have ne : ∀ j, i ≠ j -> ixv (σ.set i (some x)) j = ixv σ j := fun j z => by unfold ixv; rw [List.getElem?_set_ne z]
 have self : ∀ (h : i < ρ.length), ixv (σ.set i (some x)) i = some x := fun h => by unfold ixv; rw [List.getElem?_set_self (by rw [<- fr.len]; exact h)]; rfl
 have get : ∀ (j : Nat) (t : Sl), (ρ.set i s)[j]? = some t -> (i = j /\ i < ρ.length /\ t = s) \/ (i ≠ j /\ ρ[j]? = some t) := fun j t e => by
  by_cases z : i = j
  ·subst z
   have hi : i < ρ.length := by
    have := (List.getElem?_eq_some_iff.mp e).1
    rwa [List.length_set] at this
   rw [List.getElem?_set_self hi] at e
   exact .inl ⟨rfl, hi, (Option.some.inj e).symm⟩
  ·rw [List.getElem?_set_ne z] at e; exact .inr ⟨z, e⟩
 refine ⟨fr.d0, fr.r0, fr.kp, by rw [List.length_set, List.length_set]; exact fr.len, fun j t e => ?_, fun j k a t t' e1 e2 m1 m2 q1 q2 => ?_⟩
 ·rcases get j t e with ⟨rfl, hi, rfl⟩ | ⟨z, e⟩
  ·rw [self hi]; exact v hi
  ·rw [ne j z]; exact fr.at_ j t e
 ·rcases get j t e1 with ⟨rfl, hi, rfl⟩ | ⟨z1, e1⟩
  ·rcases get k t' e2 with ⟨rfl, _, rfl⟩ | ⟨z2, e2⟩
   ·rfl
   ·rw [self hi] at q1
    rw [ne k z2] at q2
    exact absurd q2 (na m1 a (Option.some.inj q1) k t' e2 m2)
  ·rcases get k t' e2 with ⟨rfl, hi, rfl⟩ | ⟨z2, e2⟩
   ·rw [self hi] at q2
    rw [ne j z1] at q1
    exact absurd q1 (na m2 a (Option.some.inj q2) j t (by first | exact e1 | assumption) m1)
   ·rw [ne j z1] at q1
    rw [ne k z2] at q2
    exact fr.ap j k a t t' e1 e2 m1 m2 q1 q2
def sSet (i : Nat) (u : UT) : UTs := fun P ρ => u ρ fun T ρ1 => P.nx (ρ1.set i (.va T))
theorem us_set {i : Nat} {x : Str} {pos' : Pos} (hN : X.N.Nodup) (hi : X.N[i]? = some x) (hx : Loc X.env.scope x) (he : UE X F e u) (hs : swapsWith e (some (.Name x pos')) pos.line X.env = pure false := by rfl) (hf : X.fn x = true \/ X.env.scope.names.lookup x = some .local := by first | exact .inl rfl | exact .inr rfl | assumption) :
  US X F (.Assign [.Name x pos'] e pos) (sSet i u) := ⟨PS.imp (ps_set hN hi hx he.pe hs hf) fun D σ H ⟨ρ, P, fr, h, k1, _⟩ => by
 refine ⟨ρ, _, fr, h, fun x T H' ρ' s v q => ?_⟩
 exact k1 _ _ _ (s.fr.set (s := .va T) (fun _ => ⟨x, rfl, v⟩) (fun z => absurd z Bool.false_ne_true)) (s.hs fr) q⟩
def sOwn (i : Nat) (u : UTl) : UTs := fun P ρ => u ρ fun Ts ρ1 => P.nx (ρ1.set i (.own Ts))
theorem lift_own {i : Nat} {u : UTl} {t : TE} (ht : ∀ σ H QQ, liftL X.K F u σ H QQ -> t σ H QQ) (D : Ends) (σ : St) (H : Hp) (h : liftS X.K F (sOwn i u) D σ H) : tAsg t (gName i) D σ H := by
 obtain ⟨ρ, P, fr, h, k1, _⟩ := h
 refine ht σ H _ ⟨ρ, _, fr, h, fun a xs Ts H' ρ' s n e z p q => ?_⟩
 exact k1 _ _ _ (s.fr.set (s := .own Ts) (fun _ => ⟨a, xs, rfl, e, fr.none0 n, z, p⟩) (fun _ b eb j t ej mj qj => by cases eb; exact s.notown fr n j t ej mj qj)) (s.hs fr) q
theorem us_own {i : Nat} {x : Str} {u : UTl} {pos' : Pos} (hN : X.N.Nodup) (hi : X.N[i]? = some x) (hx : Loc X.env.scope x) (he : UL X F e u) (hs : swapsWith e (some (.Name x pos')) pos.line X.env = pure false := by rfl) (hf : X.fn x = true \/ X.env.scope.names.lookup x = some .local := by first | exact .inl rfl | exact .inr rfl | assumption) :
  US X F (.Assign [.Name x pos'] e pos) (sOwn i u) := ⟨PS.imp (ps_set hN hi hx he.pe hs hf) (lift_own fun _ _ _ h => h)⟩
end
def arSl : Ar -> Sl
 | .va T => .va T
 | .dk => .dk
 | .fn a => .fn a
def startP (n : Nat) (as : List Ar) : PEnv := as.map arSl ++ List.replicate (n - as.length) .no
theorem fr_start {K : PySem.W.Frag} {H : Hp} {dk : Option (Addr × Addr)} {N : List Str} {vs : List V} {as : List Ar} (hd : ∀ p c, dk = some (p, c) -> DeckAt H p c) (p : Paired (ArAt K dk H) vs as) : FrOk K ⟨H, dk, none⟩ (startP N.length as) (start N vs) H := by
 have l : vs.length = as.length := Paired.length p
 refine ⟨hd, (fun _ _ z => nomatch z), ⟨fun _ _ e _ _ => e, hd, (fun _ _ z => nomatch z)⟩, ?_, fun i s e => ?_, fun i j a s t e _ m _ _ _ => ?_⟩
 ·unfold startP start
  rw [List.length_append, List.length_append, List.length_map, List.length_map, List.length_replicate, List.length_replicate, l]
 ·unfold startP at e
  by_cases hi : i < as.length
  ·rw [List.getElem?_append_left (by simpa using hi), List.getElem?_map] at e
   obtain ⟨r, er, rfl⟩ := Option.map_eq_some_iff.mp e
   have hv : i < vs.length := by omega
   obtain ⟨r', er', h⟩ := paired_get p (List.getElem?_eq_getElem hv)
   rw [er] at er'; cases er'
   have ex : ixv (start N vs) i = some vs[i] := by
    refine ixv_of ?_
    unfold start
    rw [List.getElem?_append_left (by simpa using hv), List.getElem?_map, List.getElem?_eq_getElem hv]
    rfl
   rw [ex]
   cases r with
   | va T => exact ⟨_, rfl, h⟩
   | dk => obtain ⟨p, c, e1, e2⟩ := h; exact ⟨p, c, e1, by rw [e2]⟩
   | fn a => exact congrArg some h
  ·rw [List.getElem?_append_right (by simpa using hi), List.getElem?_replicate] at e
   split at e
   ·cases e; trivial
   ·cases e
 ·unfold startP at e
  by_cases hi : i < as.length
  ·rw [List.getElem?_append_left (by simpa using hi), List.getElem?_map] at e
   obtain ⟨r, er, rfl⟩ := Option.map_eq_some_iff.mp e
   cases r <;> cases m
  ·rw [List.getElem?_append_right (by simpa using hi), List.getElem?_replicate] at e
   split at e
   ·cases e; cases m
   ·cases e
theorem Has.pgood {P : Program} {w : World} {K : PySem.W.Frag} {mg : Str -> Option Value} {base : Heap} {x : Str} {st : Stmt} {N ps : List Str} {k : Nat} {psp : PSp} {us : UTs} (h : Has K mg x st) (S : FnScope N ps (defScope st))
  (hb : ∀ (kV doc pm : Value) (an : Option Addr) (cdv ct : Value) (us : List Value), us.length = ps.length -> bindArgs (PySem.W.fnOf x x (defArgs st) (defBody st) (defScope st) .none kV doc pm an cdv ct) ⟨us, []⟩ = pure (ps.zip us))
  (hbody : ∀ (f : Addr) (cdv : Value) (A : Around) (outer : List Env) (s : Shared) (H : Hp) (E : XK) (F : Fm), Room k (A.deeper (envOfC x (defScope st) s.heap.objs.size f cdv)) -> USs (cxOf CX0 P w K mg base N x (defScope st) f cdv A outer s H E).nox F (defBody st) us)
  (hp : ∀ as R, psp as R -> as.length = ps.length /\ us { nx := fun _ => R nT, rt := R } (startP N.length as)) : PGood P w K mg base (k + 1) x ps psp := by
 refine h.good S hb (fun vs H Q E q => ?_) (fun f cdv A outer s H vs Q E hr q => ?_)
 ·obtain ⟨dk, as, R, d, p, q, _⟩ := q
  rw [Paired.length p]
  exact (hp as R q).1
 ·obtain ⟨dk, as, R, d, p, q, k⟩ := q
  refine ⟨_, (hbody f cdv A outer s H E ⟨H, dk, none⟩ hr).ps, startP N.length as, _, fr_start d p, (hp as R q).2, fun σ' H' ρ' fr _ q => k _ _ _ fr.kp (.flat rfl) q, fun x T H' _ kp _ v q => k x T H' kp v (q.elim id False.elim), fun _ _ _ _ _ z => z, fun _ _ _ _ _ z => z⟩
end L2
namespace L2
open PySem PySem.Spec PyProof.Rows WordM
def ItIs (K : PySem.W.Frag) (J : It) (H : Hp) (Ts : List Tv) : Prop := ∀ H1, HS H H1 -> (∀ i, i < Ts.length -> J.go i H1) /\ (∀ i x H2, i < Ts.length -> J.yld i H1 x H2 -> Same H1 H2 /\ ∃ T, Ts[i]? = some T /\ VA K H2 x T) /\ J.stop Ts.length H1
def liftI (K : PySem.W.Frag) (F : Fm) (u : UTl) : TI := fun σ H R => ∃ ρ Q, FrOk K F ρ σ H /\ u ρ Q /\ ∀ J Ts H' ρ', Stp K F σ ρ H ρ' H' -> ItIs K J H' Ts -> Q Ts ρ' -> R J H'
structure UI (X : Cx) (F : Fm) (tg e : Expr) (u : UTl) : Prop where
 pi : PI X tg e (liftI X.K F u)
theorem PI.imp {X : Cx} {tg e : Expr} {t t' : TI} (h : PI X tg e t) (i : ∀ σ H Q, t' σ H Q -> t σ H Q) : PI X tg e t' := fun pins s σ H Q I q => h pins s σ H Q I (i σ H Q q)
def ItR (X : Cx) (tg : Expr) (r : V -> Hp -> (It -> Hp -> Prop) -> Prop) : Prop := ∀ (pins : List (Addr × Obj)) (s : Shared) (σ : St) (H : Hp) (x : V) (v : Value) (R : It -> Hp -> Prop), Inv X pins σ H s -> RelV x v -> r x H R -> wpAny (model X.prog X.w) X.A (pyIter v) (PIE X pins σ tg R) X.xe s
section
variable {X : Cx} {F : Fm} {tg e : Expr}
theorem ItR.or {r r' : V -> Hp -> (It -> Hp -> Prop) -> Prop} (h : ItR X tg r) (h' : ItR X tg r') : ItR X tg (fun x H R => r x H R \/ r' x H R) := fun pins s σ H x v R I rx q => by
 rcases q with q | q
 ·exact h pins s σ H x v R I rx q
 ·exact h' pins s σ H x v R I rx q
theorem fp_one {pins : List (Addr × Obj)} {σ : St} {H : Hp} {s : Shared} (I : Inv X pins σ H s) : ∀ b ∈ [s.heap.objs.size], FpOk X pins H b := fun b hb => by
 rw [List.mem_singleton.mp hb]
 exact I.fpOk (Nat.le_refl _) (I.hok.fresh (Nat.le_refl _))
theorem it_list : ItR X tg (fun x H R => ∃ a xs, x = .ref a /\ SqL X.K H a xs /\ R (Itl X.K a) H) := by
 rintro pins s σ H _ v R I r ⟨a, xs, rfl, hq, q⟩
 cases r
 obtain ⟨its, rv, p, hz⟩ := I.list hq
 exact wpAny_pyIter_list p.isList ⟨_, [s.heap.objs.size], _, _, H, rfl, I.kept (t' := s.toks) fun b o => Heap.get?_push_of_some _, turn_list a _, ⟨_, Heap.get?_push_size _ rfl, rfl, rfl⟩, fp_one I, q⟩
theorem it_tup : ItR X tg (fun x H R => ∃ a xs, x = .ref a /\ SqT X.K H a xs /\ R (Itt X.K a) H) := by
 rintro pins s σ H _ v R I r ⟨a, xs, rfl, hq, q⟩
 cases r
 obtain ⟨its, rv, p, hz⟩ := I.tuple hq
 exact wpAny_pyIter_tuple (show s.heap.IsTuple a its.toArray from p) ⟨_, [s.heap.objs.size], _, _, H, rfl, I.kept (t' := s.toks) fun b o => Heap.get?_push_of_some _, turn_tuple a _, ⟨_, Heap.get?_push_size _ rfl, rfl, rfl⟩, fp_one I, q⟩
theorem it_str : ItR X tg (fun x H R => ∃ z, x = .str z /\ R (Its z) H) := by
 rintro pins s σ H _ v R I r ⟨z, rfl, q⟩
 obtain ⟨t, rfl⟩ := r
 cases ha : z.cps.all (· < 128) with
 | true => exact wpAny_pyIter_ascii ha ⟨_, [s.heap.objs.size], _, _, H, rfl, I.kept (t' := s.toks) fun b o => Heap.get?_push_of_some _, turn_strA _ z t, ⟨_, Heap.get?_push_size _ rfl, rfl, rfl⟩, fp_one I, q⟩
 | false => exact wpAny_pyIter_wide ha ⟨_, [s.heap.objs.size], _, _, H, rfl, I.kept (t' := s.toks) fun b o => Heap.get?_push_of_some _, turn_strW _ z t, ⟨_, Heap.get?_push_size _ rfl, rfl, rfl⟩, fp_one I, q⟩
theorem it_dict : ItR X tg (fun x H R => ∃ a ob kvs, x = .ref a /\ FzD H a ob kvs /\ R (ItD a ob kvs) H) := by
 rintro pins s σ H _ v R I r ⟨a, ob, kvs, rfl, hz, q⟩
 cases r
 obtain ⟨e, hs, hl, vs, es, ep, r, dd, hd⟩ := fz_dict I hz
 exact wpAny_pyIter_dict hs dd ⟨_, [s.heap.objs.size], _, _, H, rfl, I.kept (t' := s.toks) fun b o => Heap.get?_push_of_some _, turn_dict (a := a) (ob := ob) (kvs := kvs) hd, ⟨_, Heap.get?_push_size _ rfl, rfl, by rw [<- kv_len r]; rfl⟩, fp_one I, q⟩
def pIt : Tv -> (List Tv -> Prop) -> Prop
 | .seq _ Ts, Q => Q Ts
 | .leaf (.str z), Q => Q (z.cps.toList.map fun c => sT ⟨#[c]⟩)
 | .dct kts, Q => Q (kts.map fun kt => sT kt.1)
 | _, _ => False
theorem seq_of {K : PySem.W.Frag} {H : Hp} {a : Addr} {xs : List V} (h : PSeq K H false a xs) : SqL K H a xs := by
 obtain ⟨ob, h⟩ := h
 exact .inl (.inr ⟨ob, h⟩)
theorem is_list {K : PySem.W.Frag} {H : Hp} {a : Addr} {xs : List V} {Ts : List Tv} (h : PSeq K H false a xs) (p : VAs K H xs Ts) : ItIs K (Itl K a) H Ts := fun H1 hs => by
 have l : xs.length = Ts.length := Paired.length p
 have q := seq_of (h.hs hs)
 refine ⟨fun i hi => ⟨xs, xs[i]'(by omega), q, List.getElem?_eq_getElem _⟩, fun i x H2 hi ⟨e, y⟩ => ?_, ⟨xs, q, by omega⟩⟩
 subst e
 obtain ⟨T, eT, v⟩ := paired_get (p.hs hs) (y xs q)
 exact ⟨Same.refl _, T, eT, v⟩
theorem is_tup {K : PySem.W.Frag} {H : Hp} {a : Addr} {xs : List V} {Ts : List Tv} (h : PSeq K H true a xs) (p : VAs K H xs Ts) : ItIs K (Itt K a) H Ts := fun H1 hs => by
 have l : xs.length = Ts.length := Paired.length p
 have q : SqT K H1 a xs := h.hs hs
 refine ⟨fun i hi => ⟨xs, xs[i]'(by omega), q, List.getElem?_eq_getElem _⟩, fun i x H2 hi ⟨e, y⟩ => ?_, ⟨xs, q, by omega⟩⟩
 subst e
 obtain ⟨T, eT, v⟩ := paired_get (p.hs hs) (y xs q)
 exact ⟨Same.refl _, T, eT, v⟩
theorem is_str {K : PySem.W.Frag} {H : Hp} {z : Str} : ItIs K (Its z) H (z.cps.toList.map fun c => sT ⟨#[c]⟩) := fun H1 hs => by
 refine ⟨fun i hi => (show i < z.cps.size by simpa using hi), fun i x H2 hi ⟨e, c, ec, ex⟩ => ?_, by simp [Its]⟩
 subst e ex
 refine ⟨Same.refl _, sT ⟨#[c]⟩, ?_, .flat rfl⟩
 rw [List.getElem?_map, Array.getElem?_toList, ec]
 rfl
theorem is_dict {K : PySem.W.Frag} {H : Hp} {a : Addr} {ob : Obj} {kvs : List (Key × V)} {kts : List (Str × Tv)} (h : FzD H a ob kvs) (p : VAk K H kvs kts) : ItIs K (ItD a ob kvs) H (kts.map fun kt => sT kt.1) := fun H1 hs => by
 have l : kvs.length = kts.length := Paired.length p
 have q : FzD H1 a ob kvs := hs _ _ rfl h
 refine ⟨fun i hi => ⟨q, by rw [List.length_map] at hi; omega⟩, fun i x H2 hi ⟨e, k, v, ek, ex⟩ => ?_, ⟨q, by rw [List.length_map]; omega⟩⟩
 subst e ex
 obtain ⟨kt, ekt, e1, _⟩ := paired_get p ek
 refine ⟨Same.refl _, sT kt.1, by rw [List.getElem?_map, ekt]; rfl, ?_⟩
 have e1 : k = .inr kt.1 := e1
 rw [e1]
 exact .flat rfl
def uIt (u : UT) : UTl := fun ρ Q => u ρ fun T ρ1 => pIt T fun Ts => Q Ts ρ1
theorem ui_val {u : UT} (h : UE X F e u) : UI X F tg e (uIt u) := ⟨fun pins s σ H R I ⟨ρ, Q, fr, hu, k⟩ => by
 have IT : ItR X tg _ := it_list.or (it_tup.or (it_str.or it_dict))
 refine thn (h.pe pins s σ H (fun x H1 => _) I ⟨ρ, _, fr, hu, fun x T H' ρ' s v q => ?_⟩) fun v s1 ⟨x, H1, I1, r1, q1⟩ => IT pins s1 σ H1 x v R I1 r1 q1
 unfold pIt at q
 split at q
 ·rename_i t Ts
  obtain ⟨a, xs, rfl, hs, z, p⟩ := v.seqI
  cases t with
  | false => exact .inl ⟨a, xs, rfl, seq_of hs, k _ _ _ _ s (is_list hs p) q⟩
  | true => exact .inr (.inl ⟨a, xs, rfl, hs, k _ _ _ _ s (is_tup hs p) q⟩)
 ·obtain ⟨rfl, _⟩ := v.leafI
  exact .inr (.inr (.inl ⟨_, rfl, k _ _ _ _ s is_str q⟩))
 ·obtain ⟨a, kvs, rfl, ⟨ob, hd⟩, n, z, p⟩ := v.dctI
  exact .inr (.inr (.inr ⟨a, ob, kvs, rfl, hd, k _ _ _ _ s (is_dict hd p) q⟩))
 ·exact False.elim q⟩
def rngT (lo : Int) (n : Nat) : List Tv := (List.range n).map fun (i : Nat) => iT (lo + i)
theorem rngT_len (lo : Int) (n : Nat) : (rngT lo n).length = n := by simp [rngT]
theorem rngT_get {lo : Int} {n i : Nat} {T : Tv} (h : (rngT lo n)[i]? = some T) : i < n /\ T = iT (lo + i) := by
 have l := (List.getElem?_eq_some_iff.mp h).1
 rw [rngT_len] at l
 refine ⟨l, ?_⟩
 simp only [rngT, List.getElem?_map, List.getElem?_range l] at h
 exact (Option.some.inj h).symm
theorem is_range {K : PySem.W.Frag} {H : Hp} {lo : Int} {n : Nat} : ItIs K (Itr lo n) H (rngT lo n) := fun H1 hs => by
 have l : (rngT lo n).length = n := by simp [rngT]
 refine ⟨fun i hi => by rw [l] at hi; exact hi, fun i x H2 hi ⟨e, ex⟩ => ?_, by rw [l]; exact Nat.le_refl _⟩
 subst e ex
 rw [l] at hi
 exact ⟨Same.refl _, iT (lo + i), by simp [rngT, hi], .flat rfl⟩
def uRng1 (ua : UTa) : UTl := fun ρ Q => uVs ua ρ fun Ts ρ1 => ∃ j : Int, Ts = [iT j] /\ -(2 ^ 62) <= j /\ j < 2 ^ 62 /\ Q (rngT 0 j.toNat) ρ1
theorem ui_range1 {a : Expr} {ua : UTa} {p pos : Pos} (hg : Gl X "range") (hm : X.mg "range" = none) (ha : UA X F [a] ua) (hs : starEach [a] X.env = [(false, eval a X.env)] := by rfl) : UI X F tg (.Call (.Name "range" p) [a] [] pos) (uRng1 ua) := ⟨PI.imp (pi_range1 hg hm ha.pa hs) fun σ H R ⟨ρ, Q, fr, hu, k⟩ => by
 refine ⟨ρ, _, fr, hu, fun xs as H1 ρ1 s1 p1 q1 => ?_⟩
 obtain ⟨Ts, rfl, j, rfl, h1, h2, q⟩ := vsK_ex q1
 cases vas_of p1 with
 | cons v t =>
  cases t
  obtain ⟨rfl, _⟩ := v.leafI
  exact ⟨j, rfl, h1, h2, k _ _ _ _ s1 is_range q⟩⟩
theorem is_zip {K : PySem.W.Frag} {H : Hp} {t : Bool} {a b : Addr} {xs ys : List V} {Ts Us : List Tv} (h : PSeq K H t a xs) (p : VAs K H xs Ts) (h' : PSeq K H t b ys) (p' : VAs K H ys Us) : ItIs K (Itz t K a b) H (List.zipWith (fun T U => .seq true [T, U]) Ts Us) := fun H1 hs => by
 have l : xs.length = Ts.length := Paired.length p
 have l' : ys.length = Us.length := Paired.length p'
 have sq : ∀ {c : Addr} {zs : List V}, PSeq K H t c zs -> SqX t K H1 c zs := fun {c zs} h => by
  have h := h.hs hs
  cases t with
  | false => exact seq_of h
  | true => exact h
 have q := sq h
 have q' := sq h'
 refine ⟨fun i hi => ?_, fun i x H2 hi ⟨c, y, z, ex, nc, e, hy, hz⟩ => ?_, ⟨xs, ys, q, q', by rw [List.length_zipWith]; omega⟩⟩
 ·rw [List.length_zipWith] at hi
  exact ⟨xs, ys, xs[i]'(by omega), ys[i]'(by omega), q, q', List.getElem?_eq_getElem _, List.getElem?_eq_getElem _⟩
 ·subst e ex
  obtain ⟨T, eT, v⟩ := paired_get (p.hs hs) (hy xs q)
  obtain ⟨U, eU, v'⟩ := paired_get (p'.hs hs) (hz ys q')
  refine ⟨same_new nc, .seq true [T, U], by rw [List.getElem?_zipWith, eT, eU], VA.seq (t := true) (SqT.of upd_same) (show 2 <= 100000 by decide) (.cons (v.hs (hs_new nc)) (.cons (v'.hs (hs_new nc)) .nil))⟩
def uZip (ua : UTa) : UTl := fun ρ Q => uVs ua ρ fun Ts ρ1 => ∃ t As Bs, Ts = [.seq t As, .seq t Bs] /\ Q (List.zipWith (fun T U => .seq true [T, U]) As Bs) ρ1
theorem ui_zip {a b : Expr} {ua : UTa} {es : List Expr} {ek : Nat} {p pos pos' : Pos} (hg : Gl X "zip") (hm : X.mg "zip" = none) (ha : UA X F [a, b] ua) (hs : starEach [a, b] X.env = [(false, eval a X.env), (false, eval b X.env)] := by rfl) (hs2 : starEach [b] X.env = [(false, eval b X.env)] := by rfl) :
  UI X F (.Tuple es ek pos') (.Call (.Name "zip" p) [a, b] [] pos) (uZip ua) := ⟨PI.imp (pi_zip hg hm ha.pa hs hs2) fun σ H R ⟨ρ, Q, fr, hu, k⟩ => by
 refine ⟨ρ, _, fr, hu, fun xs as H1 ρ1 s1 p1 q1 => ?_⟩
 obtain ⟨Ts, rfl, t, As, Bs, rfl, q⟩ := vsK_ex q1
 have sq : ∀ {c : Addr} {zs : List V}, PSeq X.K H1 t c zs -> SqX t X.K H1 c zs := fun {c zs} h => by
  cases t with
  | false => exact seq_of h
  | true => exact h
 cases vas_of p1 with
 | cons v r =>
  cases r with
  | cons v' r =>
   cases r
   obtain ⟨a, xs, rfl, hq, z, p⟩ := v.seqI
   obtain ⟨b, ys, rfl, hq', z', p'⟩ := v'.seqI
   exact ⟨t, a, b, rfl, ⟨xs, sq hq⟩, ⟨ys, sq hq'⟩, k _ _ _ _ s1 (is_zip hq p hq' p') q⟩⟩
end
abbrev UG := Tv -> PEnv -> (PEnv -> Prop) -> Prop
abbrev UGs := List Tv -> PEnv -> (PEnv -> Prop) -> Prop
def liftG (K : PySem.W.Frag) (F : Fm) (m : Nat) (g : UG) : TG := fun v σ H QQ => ∃ T ρ Q, VA K H v T /\ FrOk K F ρ σ H /\ g T ρ Q /\ ∀ σ' ρ', FrOk K F ρ' σ' H -> σ'.length = σ.length -> σ'.drop m = σ.drop m -> ρ'.drop m = ρ.drop m -> Sbv ρ' ρ -> Q ρ' -> QQ σ' H
def liftGs (K : PySem.W.Frag) (F : Fm) (m : Nat) (g : UGs) : TGs := fun vs σ H QQ => ∃ Ts ρ Q, VAs K H vs Ts /\ FrOk K F ρ σ H /\ g Ts ρ Q /\ ∀ σ' ρ', FrOk K F ρ' σ' H -> σ'.length = σ.length -> σ'.drop m = σ.drop m -> ρ'.drop m = ρ.drop m -> Sbv ρ' ρ -> Q ρ' -> QQ σ' H
structure UGt (X : Cx) (F : Fm) (m : Nat) (tg : Expr) (g : UG) : Prop where
 pg : PG X tg (liftG X.K F m g)
structure UGts (X : Cx) (F : Fm) (m : Nat) (tgs : List Expr) (g : UGs) : Prop where
 pg : PGs X tgs (liftGs X.K F m g)
theorem PG.imp {X : Cx} {tg : Expr} {t t' : TG} (h : PG X tg t) (i : ∀ v σ H Q, t' v σ H Q -> t v σ H Q) : PG X tg t' := fun pins s σ H v u Q I r q => h pins s σ H v u Q I r (i v σ H Q q)
theorem PGs.imp {X : Cx} {tg : List Expr} {t t' : TGs} (h : PGs X tg t) (i : ∀ v σ H Q, t' v σ H Q -> t v σ H Q) : PGs X tg t' := fun pins s σ H v u Q I r q => h pins s σ H v u Q I r (i v σ H Q q)
section
variable {X : Cx} {F : Fm} {pos : Pos} {m : Nat}
def gN (i : Nat) : UG := fun T ρ Q => Q (ρ.set i (.va T))
theorem drop_set {α : Type} {l : List α} {i m : Nat} {x : α} (h : i < m) : (l.set i x).drop m = l.drop m := by
 rw [List.drop_set, if_pos h]
theorem sbv_set {ρ : PEnv} {i : Nat} {T : Tv} : Sbv (ρ.set i (.va T)) ρ := fun j s e mm => by
 by_cases z : i = j
 ·subst z
  have hi : i < ρ.length := by
   have := (List.getElem?_eq_some_iff.mp e).1
   rwa [List.length_set] at this
  rw [List.getElem?_set_self hi] at e
  cases e; cases mm
 ·rw [List.getElem?_set_ne z] at e; exact ⟨s, e, mm⟩
theorem ug_name (i : Nat) {x : Str} (hm : i < m) (hN : X.N.Nodup) (hi : X.N[i]? = some x) (hx : Loc X.env.scope x) (hf : X.fn x = true \/ X.env.scope.names.lookup x = some .local := by first | exact .inl rfl | exact .inr rfl | assumption) : UGt X F m (.Name x pos) (gN i) := ⟨PG.imp (pg_name hN hi hx hf) fun v σ H QQ ⟨T, ρ, Q, vv, fr, h, k⟩ =>
 k _ _ (fr.set (s := .va T) (fun _ => ⟨v, rfl, vv⟩) (fun z => absurd z Bool.false_ne_true)) List.length_set (drop_set hm) (drop_set hm) sbv_set h⟩
def gT (n : Nat) (g : UGs) : UG := fun T ρ Q => ∃ Ts, T = .seq true Ts /\ Ts.length = n /\ g Ts ρ Q
def gNl : UGs := fun Ts ρ Q => Ts = [] /\ Q ρ
def gCn (g : UG) (gs : UGs) : UGs := fun Ts ρ Q => ∃ T r, Ts = T :: r /\ g T ρ fun ρ1 => gs r ρ1 Q
theorem ugs_nil : UGts X F m [] gNl := ⟨PGs.imp pgs_nil fun vs σ H QQ ⟨Ts, ρ, Q, vv, fr, ⟨e, h⟩, k⟩ => by
 subst e
 cases vv
 exact ⟨rfl, k _ _ fr rfl rfl rfl (Sbv.refl _) h⟩⟩
theorem ugs_cons {e : Expr} {es : List Expr} {g : UG} {gs : UGs} (h1 : UGt X F m e g) (h2 : UGts X F m es gs) (hs : (assignEach (e :: es) X.env).map (·.2) = assign e X.env :: (assignEach es X.env).map (·.2) := by rfl) : UGts X F m (e :: es) (gCn g gs) := ⟨PGs.imp (pgs_cons h1.pg h2.pg hs) fun vs σ H QQ ⟨Ts, ρ, Q, vv, fr, ⟨T, r, e, h⟩, k⟩ => by
 subst e
 cases vv with
 | cons v vs' =>
  refine ⟨_, _, rfl, T, ρ, _, v, fr, h, fun σ' ρ' f' l d dr sb q => ⟨r, ρ', Q, vs', f', q, fun σ2 ρ2 f2 l2 d2 dr2 sb2 q2 => ?_⟩⟩
  exact k _ _ f2 (l2.trans l) (d2.trans d) (dr2.trans dr) (sb.trans sb2) q2⟩
theorem ug_tup {es : List Expr} {k : Nat} {g : UGs} (n : Nat) (hc : X.calm = true) (h : UGts X F m es g) (hn : (assignEach es X.env).length = n := by rfl) (hst : (assignEach es X.env).findIdx? (·.1) = none := by rfl) : UGt X F m (.Tuple es k pos) (gT n g) := ⟨PG.imp (pg_tup hc h.pg hn hst) fun v σ H QQ ⟨T, ρ, Q, vv, fr, ⟨Ts, e, el, h⟩, k⟩ => by
 subst e
 obtain ⟨a, xs, rfl, hq, z, p⟩ := vv.seqI
 exact ⟨a, xs, rfl, hq, (Paired.length p).trans el, Ts, ρ, Q, p, fr, h, k⟩⟩
end
def blk (own : Nat) (fr : List Nat) (ρ : PEnv) : PEnv := List.replicate own .no ++ fr.map fun i => ρ.getD i .no
def putBack : List Nat -> List Sl -> PEnv -> PEnv
 | i :: fr, s :: ss, ρ => putBack fr ss (ρ.set i s)
 | _, _, ρ => ρ
def bck (own : Nat) (fr : List Nat) (ρ ρ' : PEnv) : PEnv := putBack fr (ρ'.drop own) ρ
def compT (own : Nat) (fr : List Nat) (g : UG) (tf : UTt) (ue : UT) : List Tv -> PEnv -> (List Tv -> PEnv -> Prop) -> Prop
 | [], ρ, Q => Q [] ρ
 | T :: Ts, ρ, Q => g T (blk own fr ρ) fun ρ1 => tf ρ1 fun b ρ2 => if b = true then ue ρ2 fun U ρ3 => compT own fr g tf ue Ts (bck own fr ρ ρ3) fun Us ρ4 => Q (U :: Us) ρ4 else compT own fr g tf ue Ts (bck own fr ρ ρ2) Q
def uComp (own : Nat) (fr : List Nat) (ui : UTl) (g : UG) (tf : UTt) (ue : UT) : UTl := fun ρ Q => ui ρ fun Ts ρ1 => Ts.length <= 100000 /\ compT own fr g tf ue Ts ρ1 Q
theorem putBack_len : ∀ (fr : List Nat) (ss : List Sl) (ρ : PEnv), (putBack fr ss ρ).length = ρ.length
 | [], _, _ => rfl
 | _ :: _, [], _ => rfl
 | i :: fr, s :: ss, ρ => by show (putBack fr ss _).length = _; rw [putBack_len fr ss, List.length_set]
theorem putBack_get : ∀ (fr : List Nat) (ss : List Sl) (ρ : PEnv) (i : Nat) (s : Sl), fr.length <= ss.length -> (putBack fr ss ρ)[i]? = some s -> (∃ j : Nat, fr[j]? = some i /\ ss[j]? = some s) \/ (i ∉ fr /\ ρ[i]? = some s)
 | [], _, _, i, s, _, h => .inr ⟨by simp, h⟩
 | _ :: _, [], _, _, _, l, _ => by simp at l
 | i0 :: fr, s0 :: ss, ρ, i, s, l, h => by
  rcases putBack_get fr ss (ρ.set i0 s0) i s (by simpa using l) h with ⟨j, e1, e2⟩ | ⟨n, e⟩
  ·exact .inl ⟨j + 1, by simpa using e1, by simpa using e2⟩
  ·by_cases z : i0 = i
   ·subst z
    have hi : i0 < ρ.length := by
     have := (List.getElem?_eq_some_iff.mp e).1
     rwa [List.length_set] at this
    rw [List.getElem?_set_self hi] at e
    exact .inl ⟨0, rfl, by simpa using e⟩
   ·rw [List.getElem?_set_ne z] at e
    exact .inr ⟨by simp [n, Ne.symm z], e⟩
theorem ixv_block {own : Nat} {fr : List Nat} {σ ow : St} (ho : ow.length = own) {j i : Nat} (h : fr[j]? = some i) : ixv (ow ++ σf fr σ) (own + j) = ixv σ i := by
 unfold ixv σf
 rw [List.getElem?_append_right (by omega), show own + j - ow.length = j by omega, List.getElem?_map, h]
 show (some (σ.getD i none)).join = _
 rw [List.getD_eq_getElem?_getD]
 cases σ[i]? with
 | none => rfl
 | some o => rfl
section
variable {K : PySem.W.Frag} {F : Fm} {ρ ρ4 ρ6 : PEnv} {σ ow : St} {H H6 : Hp} {own : Nat} {fr : List Nat}
theorem blk_get {i : Nat} {s : Sl} (h : (blk own fr ρ)[i]? = some s) : (i < own /\ s = .no) \/ ∃ j k, i = own + j /\ fr[j]? = some k /\ s = ρ.getD k .no := by
 unfold blk at h
 by_cases hi : i < own
 ·rw [List.getElem?_append_left (by simpa using hi), List.getElem?_replicate, if_pos hi] at h
  exact .inl ⟨hi, (Option.some.inj h).symm⟩
 ·rw [List.getElem?_append_right (by simpa using hi), List.length_replicate, List.getElem?_map] at h
  obtain ⟨k, e, rfl⟩ := Option.map_eq_some_iff.mp h
  exact .inr ⟨i - own, k, by omega, e, rfl⟩
theorem getD_mut {k : Nat} {s : Sl} (e : s = ρ.getD k .no) (m : s ≠ .no) : ρ[k]? = some s := by
 rw [List.getD_eq_getElem?_getD] at e
 cases q : ρ[k]? with
 | none => rw [q] at e; exact absurd e m
 | some t => rw [q] at e; rw [e]; rfl
theorem FrOk.pick (f : FrOk K F ρ σ H) (nd : fr.Nodup) : FrOk K F (blk own fr ρ) (σc own fr σ) H := by
 have val : ∀ {j k : Nat}, fr[j]? = some k -> ixv (σc own fr σ) (own + j) = ixv σ k := fun h => ixv_block (List.length_replicate) h
 refine ⟨f.d0, f.r0, f.kp, ?_, fun i s e => ?_, fun i i' a s t e e' m m' q q' => ?_⟩
 ·unfold blk σc σf
  simp
 ·rcases blk_get e with ⟨_, rfl⟩ | ⟨j, k, rfl, ek, es⟩
  ·trivial
  ·rw [val ek]
   cases s with
   | no => trivial
   | _ => exact f.at_ k _ (getD_mut es (fun z => by cases z))
 ·rcases blk_get e with ⟨_, rfl⟩ | ⟨j, k, rfl, ek, es⟩
  ·cases m
  ·rcases blk_get e' with ⟨_, rfl⟩ | ⟨j', k', rfl, ek', es'⟩
   ·cases m'
   ·rw [val ek] at q
    rw [val ek'] at q'
    have := f.ap k k' a s t (getD_mut es (fun z => by rw [z] at m; cases m)) (getD_mut es' (fun z => by rw [z] at m'; cases m')) m m' q q'
    subst this
    have h1 := (List.getElem?_eq_some_iff.mp ek).1
    rw [(List.getElem?_inj h1 nd).mp (ek.trans ek'.symm)]
theorem Stp.back (f : FrOk K F ρ σ H) (nd : fr.Nodup) (s : Stp K F (ow ++ σf fr σ) ρ4 H ρ6 H6) (f4 : FrOk K F ρ4 (ow ++ σf fr σ) H) (ho : ow.length = own) (hd : ρ4.drop own = (blk own fr ρ).drop own) (sb : Sbv ρ4 (blk own fr ρ)) : Stp K F σ ρ H (bck own fr ρ ρ6) H6 := by
 -- a slot of the block that is one's own is the def's own
 have dm : ∀ (i : Nat) (t : Sl) (a : Addr), ρ4[i]? = some t -> mutb t = true -> ixv (ow ++ σf fr σ) i = some (.ref a) -> ∃ k u, k ∈ fr /\ ρ[k]? = some u /\ mutb u = true /\ ixv σ k = some (.ref a) := fun i t a e m q => by
  obtain ⟨u, eu, mu⟩ := sb i t e m
  rcases blk_get eu with ⟨_, rfl⟩ | ⟨j, k, rfl, ek, es⟩
  ·cases mu
  ·exact ⟨k, u, List.mem_of_getElem? ek, getD_mut es (fun z => by rw [z] at mu; cases mu), mu, by rw [<- ixv_block ho ek]; exact q⟩
 have st : Stay F ρ σ H H6 := fun b o e d n => s.st b o e d fun i t e1 m q => by
  obtain ⟨k, u, _, eu, mu, qu⟩ := dm i t b e1 m q
  exact n k u eu mu qu
 have l6 : fr.length <= (ρ6.drop own).length := by
  have := s.fr.len
  rw [List.length_append] at this
  rw [List.length_drop, this, ho]
  unfold σf
  rw [List.length_map]
  omega
 have sub : Sbv (bck own fr ρ ρ6) ρ := fun i t e m => by
  rcases putBack_get fr _ ρ i t l6 e with ⟨j, ej, et⟩ | ⟨_, e⟩
  ·rw [List.getElem?_drop] at et
   obtain ⟨u, eu, mu⟩ := s.sub _ t et m
   have : (ρ4.drop own)[j]? = some u := by rw [List.getElem?_drop]; exact eu
   rw [hd, List.getElem?_drop] at this
   rcases blk_get this with ⟨z, _⟩ | ⟨j', k, ejj, ek, es⟩
   ·omega
   ·have : j' = j := by omega
    subst this
    rw [ej] at ek; cases ek
    exact ⟨u, getD_mut es (fun z => by rw [z] at mu; cases mu), mu⟩
  ·exact ⟨t, e, m⟩
 have hs : HS H H6 := s.hs f4
 refine ⟨⟨f.d0, f.r0, s.fr.kp, by unfold bck; rw [putBack_len]; exact f.len, fun i t e => ?_, fun i i' a t t' e e' m m' q q' => ?_⟩, st, sub, s.tr⟩
 ·rcases putBack_get fr _ ρ i t l6 e with ⟨j, ej, et⟩ | ⟨ni, e⟩
  ·rw [List.getElem?_drop] at et
   have := s.fr.at_ _ t et
   rwa [ixv_block ho ej] at this
  ·have h := f.at_ i t e
   have keep : ∀ a o, mutb t = true -> ixv σ i = some (.ref a) -> H a = some o -> H6 a = some o := fun a o m q e1 => s.st a o e1 (f.mut_nodk e m q) fun i' t' e2 m2 q2 => by
    obtain ⟨k, u, hk, eu, mu, qu⟩ := dm i' t' a e2 m2 q2
    have := f.ap k i a u t eu e mu m qu q
    subst this
    exact ni hk
   cases t with
   | no => trivial
   | va T => obtain ⟨y, e1, v⟩ := h; exact ⟨y, e1, v.hs hs⟩
   | own Ts => obtain ⟨a, xs, e1, e2, e3, z, p⟩ := h; exact ⟨a, xs, e1, keep a _ rfl e1 e2, e3, z, p.hs hs⟩
   | dct kts => obtain ⟨a, kvs, e1, e2, e3, n, z, p⟩ := h; exact ⟨a, kvs, e1, keep a _ rfl e1 e2, e3, n, z, p.hs hs⟩
   | dk => exact h
   | fn _ => exact h
   | rd t' p => obtain ⟨a, C, e1, e2, dx, e3⟩ := h; exact ⟨a, C, e1, e2, dx, keep a _ rfl e2 e3⟩
 ·obtain ⟨u, eu, mu⟩ := sub i t e m
  obtain ⟨u', eu', mu'⟩ := sub i' t' e' m'
  exact f.ap i i' a u u' eu eu' mu mu' q q'
end
theorem lift_comp {K : PySem.W.Frag} {F : Fm} {own : Nat} {fr : List Nat} {ui : UTl} {g : UG} {tf : UTt} {ue : UT} (nd : fr.Nodup) (σ : St) (H : Hp) (QQ : VK) (h : liftL K F (uComp own fr ui g tf ue) σ H QQ) : tComp own fr (liftI K F ui) (liftG K F own g) (liftT K F tf) (liftE K F ue) σ H QQ := by
 obtain ⟨ρ, Q, f, h, k⟩ := h
 refine ⟨ρ, _, f, h, fun J Ts H1 ρ1 s1 it q1 a na => ?_⟩
 obtain ⟨len, q1⟩ := q1
 refine ⟨Ts.length, fun i ys H2 => ∃ Us ρi, Stp K F σ ρ1 H1 ρi H2 /\ VAs K H2 ys Us /\ Us.length <= i /\ compT own fr g tf ue (Ts.drop i) ρi (fun Vs ρ' => Q (Us ++ Vs) ρ'), ⟨[], ρ1, Stp.same s1.fr (same_new na), .nil, Nat.le_refl _, q1⟩, ?_⟩
 rintro i ys H2 hi ha ⟨Us, ρi, si, p, hl, q⟩
 have hs1 := si.hs s1.fr
 obtain ⟨go, yld, stop⟩ := it H2 hs1
 by_cases hlt : i < Ts.length
 ·refine .inr ⟨hlt, go i hlt, fun x H3 hy => ?_⟩
  obtain ⟨sm, T, eT, vx⟩ := yld i x H3 hlt hy
  have s3 := si.trans (Stp.same si.fr sm)
  have ha3 := sm _ _ ha
  have ed : Ts.drop i = T :: Ts.drop (i + 1) := by
   rw [List.drop_eq_getElem_cons hlt]
   congr 1
   rw [List.getElem?_eq_getElem hlt] at eT
   exact Option.some.inj eT
  rw [ed] at q
  have nodk := s1.fr.none_nodk na
  have nown := s3.notown s1.fr na
  refine ⟨T, blk own fr ρi, _, vx, s3.fr.pick nd, q, fun σ4 ρ4 f4 l4 d4 dr4 sb4 q4 => ?_⟩
  have e4 : σ4 = σ4.take own ++ σf fr σ := by
   have : σ4.drop own = σf fr σ := by
    rw [d4]
    unfold σc
    rw [List.drop_append_of_le_length (by simp), List.drop_of_length_le (by simp), List.nil_append]
   rw [<- this, List.take_append_drop]
  have lo : (σ4.take own).length = own := by
   rw [List.length_take, l4]
   unfold σc
   simp
  have notin : ∀ (j : Nat) (t : Sl), ρ4[j]? = some t -> mutb t = true -> ixv σ4 j ≠ some (.ref a) := fun j t e m z => by
   obtain ⟨u, eu, mu⟩ := sb4 j t e m
   rcases blk_get eu with ⟨_, rfl⟩ | ⟨j', k, rfl, ek, es⟩
   ·cases mu
   ·rw [e4, ixv_block lo ek] at z
    exact nown k u (getD_mut es (fun z => by rw [z] at mu; cases mu)) mu z
  refine ⟨⟨σ4.take own, lo, e4⟩, ρ4, _, f4, q4, fun b H5 ρ5 s5 q5 => ?_⟩
  have a5 : H5 a = some (.lst ys) := s5.st a _ ha3 nodk notin
  cases b with
  | true =>
   refine iteT ?_
   rw [if_pos rfl] at q5
   refine ⟨ρ5, _, s5.fr, q5, fun y U H6 ρ6 s6 v6 q6 => ?_⟩
   have s46 := s5.trans s6
   have a6 : H6 a = some (.lst ys) := s46.st a _ ha3 nodk notin
   have lys : ys.length = Us.length := Paired.length p
   refine ⟨a6, line_lt (by omega), Us ++ [U], bck own fr ρi ρ6, ?_, ?_, by rw [List.length_append, List.length_singleton]; omega, ?_⟩
   ·rw [e4] at s46 f4
    exact (s3.trans (Stp.back s3.fr nd s46 f4 lo dr4 sb4)).put s1.fr na a6 rfl _
   ·have h36 := s46.hs f4
    exact VAs.hs (hs_put a6 rfl) (Paired.snoc ((p.hs sm.hs).hs h36) v6)
   ·simpa using q6
  | false =>
   refine iteF ?_
   rw [if_neg Bool.false_ne_true] at q5
   refine ⟨a5, Us, bck own fr ρi ρ5, ?_, ?_, by omega, q5⟩
   ·rw [e4] at s5 f4
    exact s3.trans (Stp.back s3.fr nd s5 f4 lo dr4 sb4)
   ·exact (p.hs sm.hs).hs (s5.hs f4)
 ·have e : i = Ts.length := by omega
  subst e
  rw [List.drop_length] at q
  have q : Q (Us ++ []) ρi := q
  rw [List.append_nil] at q
  exact .inl ⟨stop, k a ys Us H2 ρi (s1.trans si) (s1.non na) ha (by omega) p q⟩
section
variable {X : Cx} {F : Fm} {sc : Scope} {XN N : List Str} {own : Nat} {fr : List Nat} {scope : Scope} {elt tg iter : Expr} {ifs : List Expr} {pos : Pos} {ui : UTl} {g : UG} {tf : UTt} {ue : UT}
structure UF (X : Cx) (F : Fm) (ifs : List Expr) (u : UTt) : Prop where
 pf : PFs X ifs (liftT X.K F u)
def tYes : UTt := fun ρ Q => Q true ρ
theorem uf_nil : UF X F [] tYes := ⟨fun pins s σ H Q I ⟨ρ, Q', f, h, k⟩ => pf_nil pins s σ H Q I (k _ _ _ (Stp.refl f) h)⟩
theorem ul_comp (hc : X.calm = true) (S : CompScope sc XN N own fr scope) (nd : fr.Nodup) (hi : UI X F tg iter ui)
  (hg : ∀ cl C fp s H, UGt (cxComp X N scope cl C fp s H) F own tg g) (hf : ∀ cl C fp s H, UF (cxComp X N scope cl C fp s H) F ifs tf) (he : ∀ cl C fp s H, UE (cxComp X N scope cl C fp s H) F elt ue)
  (hs : ∀ x, foldedSetIterable iter X.env x = pure x := by intro _; rfl) (hsc : X.env.scope = sc := by rfl) (hxn : X.N = XN := by rfl) : UL X F (.ListComp elt [⟨tg, iter, ifs, 0⟩] scope pos) (uComp own fr ui g tf ue) :=
 ⟨PE.imp (pe_comp hc S hi.pi (fun cl C fp s H => (hg cl C fp s H).pg) (fun cl C fp s H => (hf cl C fp s H).pf) (fun cl C fp s H => (he cl C fp s H).pe) hs hsc hxn) (lift_comp nd)⟩
theorem PS.fz {st : Stmt} {t : TS} (h : PS X st t) : PS X st (fun D σ H => t { D with nx := fun σ' H' => D.nx σ' H' \/ ∃ a o, H' a = some o /\ fzb o = true /\ ∀ ob, D.nx σ' (upd H' a (.frz ob o)) } σ H) := fun pins s σ H D I q => thn (h pins s σ H _ I q) fun fl s' z => by
 cases fl with
 | next =>
  obtain ⟨σ', H', I', q⟩ := z
  rcases q with q | ⟨a, o, e, n, q⟩
  ·exact ⟨σ', H', I', q⟩
  ·obtain ⟨ob, I2⟩ := I'.fz e n
   exact ⟨σ', _, I2, q ob⟩
 | brk => exact z
 | cont => exact z
 | ret u => exact z
theorem us_setc {i : Nat} {x : Str} {pos' spos : Pos} (hc : X.calm = true) (hN : X.N.Nodup) (hx : X.N[i]? = some x) (hl : Loc X.env.scope x) (S : CompScope sc XN N own fr scope) (nd : fr.Nodup) (hi : UI X F tg iter ui)
  (hg : ∀ cl C fp s H, UGt (cxComp X N scope cl C fp s H) F own tg g) (hf : ∀ cl C fp s H, UF (cxComp X N scope cl C fp s H) F ifs tf) (he : ∀ cl C fp s H, UE (cxComp X N scope cl C fp s H) F elt ue)
  (hsw : swapsWith (.ListComp elt [⟨tg, iter, ifs, 0⟩] scope pos) (some (.Name x pos')) spos.line X.env = pure true := by rfl)
  (hf' : X.fn x = true \/ X.env.scope.names.lookup x = some .local := by first | exact .inl rfl | exact .inr rfl | assumption)
  (hs : ∀ x, foldedSetIterable iter X.env x = pure x := by intro _; rfl) (hsc : X.env.scope = sc := by rfl) (hxn : X.N = XN := by rfl) : US X F (.Assign [.Name x pos'] (.ListComp elt [⟨tg, iter, ifs, 0⟩] scope pos) spos) (sSet i (uL (uComp own fr ui g tf ue))) :=
 ⟨PS.imp (PS.fz (ps_setc hc hN hx hl S hi.pi (fun cl C fp s H => (hg cl C fp s H).pg) (fun cl C fp s H => (hf cl C fp s H).pf) (fun cl C fp s H => (he cl C fp s H).pe) hsw hf' hs hsc hxn)) fun D σ H ⟨ρ, P, f, h, k1, _⟩ => by
  refine lift_comp nd σ H _ ⟨ρ, _, f, h, fun a xs Ts H' ρ' s n e z p q => ?_⟩
  refine .inr ⟨a, _, e, rfl, fun ob => ?_⟩
  have s2 := s.put f n e rfl (.frz ob (.lst xs))
  exact k1 _ _ _ (s2.fr.set (s := .va (.seq false Ts)) (fun _ => ⟨_, rfl, VA.seq (t := false) ⟨ob, upd_same⟩ z (p.hs (hs_put e rfl))⟩) (fun z => absurd z Bool.false_ne_true)) (s2.hs f) q⟩
def forT (g : UG) (ub : UTs) : List Tv -> PEnds -> PEnv -> Prop
 | [], P, ρ => P.nx ρ
 | T :: Ts, P, ρ => g T ρ fun ρ1 => ub { P with nx := fun ρ' => forT g ub Ts P ρ', ct := fun ρ' => forT g ub Ts P ρ', bk := P.nx } ρ1
def sFor (ui : UTl) (g : UG) (ub : UTs) : UTs := fun P ρ => ui ρ fun Ts ρ1 => forT g ub Ts P ρ1
theorem us_for {body : List Stmt} {ub : UTs} {m : Nat} (hp : PassesOwn (model X.prog X.w) X.A X.env X.xe) (hc : X.calm = true) (hi : UI X F tg iter ui) (hg : UGt X F m tg g) (hb : USs X F body ub)
  (hs : ∀ x, foldedSetIterable iter X.env x = pure x := by intro _; rfl) : US X F (.For tg iter body [] pos) (sFor ui g ub) := ⟨PS.imp (ps_for hp hc hi.pi hg.pg hb.ps hs) fun D σ H ⟨ρ, P, f, h, k1, k2, k3, k4⟩ => by
 refine ⟨ρ, _, f, h, fun J Ts H1 ρ1 s1 it q1 => ?_⟩
 have h01 := s1.hs f
 refine ⟨fun i m σ' H' => m = Ts.length - i /\ i <= Ts.length /\ HS H1 H' /\ ∃ ρi, FrOk X.K F ρi σ' H' /\ forT g ub (Ts.drop i) P ρi, ⟨_, rfl, Nat.zero_le _, HS.refl _, ρ1, s1.fr, q1⟩, ?_⟩
 rintro i m σ' H' ⟨rfl, hi, hs, ρi, fi, q⟩
 obtain ⟨go, yld, stop⟩ := it H' hs
 by_cases hlt : i < Ts.length
 ·refine .inr ⟨go i hlt, fun σ2 H2 => HS H1 H2 /\ ∃ ρ2, FrOk X.K F ρ2 σ2 H2 /\ forT g ub (Ts.drop (i + 1)) P ρ2, fun σ2 H2 ⟨hs2, ρ2, f2, q2⟩ => ⟨_, by omega, rfl, hlt, hs2, ρ2, f2, q2⟩, fun x H3 hy => ?_⟩
  obtain ⟨sm, T, eT, vx⟩ := yld i x H3 hlt hy
  have ed : Ts.drop i = T :: Ts.drop (i + 1) := by
   rw [List.drop_eq_getElem_cons hlt]
   congr 1
   rw [List.getElem?_eq_getElem hlt] at eT
   exact Option.some.inj eT
  rw [ed] at q
  have f3 := (Stp.same fi sm).fr
  refine ⟨T, ρi, _, vx, f3, q, fun σ4 ρ4 f4 _ _ _ _ q4 => ?_⟩
  have h13 := hs.trans sm.hs
  exact ⟨ρ4, _, f4, q4, fun σ5 H5 ρ5 f5 hs5 q5 => ⟨h13.trans hs5, ρ5, f5, q5⟩, k2, fun σ5 H5 ρ5 f5 hs5 q5 => k1 _ _ _ f5 (h01.trans (h13.trans hs5)) q5, fun σ5 H5 ρ5 f5 hs5 q5 => ⟨h13.trans hs5, ρ5, f5, q5⟩⟩
 ·have e : i = Ts.length := by omega
  subst e
  rw [List.drop_length] at q
  exact .inl ⟨stop, k1 _ _ _ fi (h01.trans hs) q⟩⟩
def sWhile (t : UTt) (ub : UTs) : UTs := fun P ρ => ∃ W : Nat -> PEnv -> Prop, (∃ m, W m ρ) /\ ∀ m ρ, W m ρ -> t ρ fun b ρ1 => if b = true then ub { P with nx := fun ρ' => ∃ m', m' < m /\ W m' ρ', ct := fun ρ' => ∃ m', m' < m /\ W m' ρ', bk := P.nx } ρ1 else P.nx ρ1
theorem us_while {c : Expr} {body : List Stmt} {t : UTt} {ub : UTs} (hp : PassesOwn (model X.prog X.w) X.A X.env X.xe) (hc : UB X F c t) (hb : USs X F body ub) : US X F (.While c body [] pos) (sWhile t ub) := ⟨PS.imp (ps_while hp hc.pt hb.ps) fun D σ H ⟨ρ, P, f, ⟨W, ⟨m0, w0⟩, h⟩, k1, k2, k3, k4⟩ => by
 refine ⟨fun m σ' H' => HS H H' /\ ∃ ρ', FrOk X.K F ρ' σ' H' /\ W m ρ', ⟨m0, HS.refl _, ρ, f, w0⟩, ?_⟩
 rintro m σ' H' ⟨hs, ρ', f', w⟩
 refine ⟨ρ', _, f', h m ρ' w, fun b H1 ρ1 s1 q1 => ?_⟩
 have h1 := hs.trans (s1.hs f')
 cases b with
 | true =>
  rw [if_pos rfl] at q1
  refine iteT ⟨fun σ2 H2 => HS H H2 /\ ∃ m', m' < m /\ ∃ ρ2, FrOk X.K F ρ2 σ2 H2 /\ W m' ρ2, fun σ2 H2 ⟨hs2, m', lt, ρ2, f2, w2⟩ => ⟨m', lt, hs2, ρ2, f2, w2⟩, ?_⟩
  exact ⟨ρ1, _, s1.fr, q1, fun σ5 H5 ρ5 f5 hs5 ⟨m', lt, w5⟩ => ⟨h1.trans hs5, m', lt, ρ5, f5, w5⟩, k2, fun σ5 H5 ρ5 f5 hs5 q5 => k1 _ _ _ f5 (h1.trans hs5) q5, fun σ5 H5 ρ5 f5 hs5 ⟨m', lt, w5⟩ => ⟨h1.trans hs5, m', lt, ρ5, f5, w5⟩⟩
 | false =>
  rw [if_neg Bool.false_ne_true] at q1
  exact iteF (k1 _ _ _ s1.fr h1 q1)⟩
end
end L2
namespace L2
open PySem PySem.Spec PyProof.Rows WordM
section
variable {K : PySem.W.Frag} {F : Fm} {ρ : PEnv} {σ : St} {H : Hp} {i : Nat} {s s' : Sl} {a : Addr} {o o' : HO}
theorem FrOk.put (fr : FrOk K F ρ σ H) (e : ρ[i]? = some s) (m : mutb s = true) (q : ixv σ i = some (.ref a)) (h : H a = some o) (n : fzb o = true) (v : HS H (upd H a o') -> F.H0 a = none -> SlAt K F (upd H a o') (some (.ref a)) s') : Stp K F σ ρ H (ρ.set i s') (upd H a o') := by
 have hi : i < ρ.length := (List.getElem?_eq_some_iff.mp e).1
 have h0 := (fr.own_at e m q (fr.nr_of e q h n)).2
 have hd := fr.fresh_nodk h0
 have hs : HS H (upd H a o') := hs_put h (by cases o <;> first | rfl | exact absurd n Bool.false_ne_true)
 have st : ∀ b u, b ≠ a -> H b = some u -> upd H a o' b = some u := fun b u z e => by rw [upd_ne z]; exact e
 have get : ∀ (j : Nat) (t : Sl), (ρ.set i s')[j]? = some t -> (i = j /\ t = s') \/ (i ≠ j /\ ρ[j]? = some t) := fun j t e' => by
  by_cases z : i = j
  ·subst z
   rw [List.getElem?_set_self hi] at e'
   exact .inl ⟨rfl, (Option.some.inj e').symm⟩
  ·rw [List.getElem?_set_ne z] at e'; exact .inr ⟨z, e'⟩
 have sub : Sbv (ρ.set i s') ρ := fun j t e' m' => by
  rcases get j t e' with ⟨rfl, rfl⟩ | ⟨z, e'⟩
  ·exact ⟨s, e, m⟩
  ·exact ⟨t, e', m'⟩
 have hr := fr.fresh_nord h0
 refine ⟨⟨fr.d0, fr.r0, ⟨fun b u e1 n1 n2 => st b u (fun z => by rw [z, h0] at e1; cases e1) (fr.kp.st b u e1 n1 n2), fun p c d => ?_, fun a' C d => ?_⟩, by rw [List.length_set]; exact fr.len, fun j t e' => ?_, fun j k b t t' e1 e2 m1 m2 q1 q2 => ?_⟩, fun b u e1 _ n1 => st b u (fun z => n1 i s e m (by rw [z]; exact q)) e1, sub, fun b u e1 => if z : b = a then ⟨o', z ▸ upd_same⟩ else ⟨u, st b u z e1⟩⟩
 ·obtain ⟨ne, ⟨S, k, e1⟩, ns, e2, l⟩ := fr.kp.dkk p c d
  exact ⟨ne, ⟨S, k, st _ _ (hd p c d).1.symm e1⟩, ns, st _ _ (hd p c d).2.symm e2, l⟩
 ·obtain ⟨t, p, dx, e1⟩ := fr.kp.rdk a' C d
  exact ⟨t, p, dx, st _ _ (hr a' C d).symm e1⟩
 ·rcases get j t e' with ⟨rfl, rfl⟩ | ⟨z, e'⟩
  ·rw [q]; exact v hs h0
  ·have x := fr.at_ j t e'
   cases t with
   | no => trivial
   | va T => obtain ⟨y, e1, v⟩ := x; exact ⟨y, e1, v.hs hs⟩
   | own Ts => obtain ⟨b, xs, e1, e2, e3, z', p⟩ := x; exact ⟨b, xs, e1, st _ _ (fun y => z (fr.ap i j a s _ e e' m rfl q (by rw [e1, y]))) e2, e3, z', p.hs hs⟩
   | dct kts => obtain ⟨b, kvs, e1, e2, e3, n', z', p⟩ := x; exact ⟨b, kvs, e1, st _ _ (fun y => z (fr.ap i j a s _ e e' m rfl q (by rw [e1, y]))) e2, e3, n', z', p.hs hs⟩
   | dk => exact x
   | fn _ => exact x
   | rd t p => obtain ⟨b, C, e1, e2, dx, e3⟩ := x; exact ⟨b, C, e1, e2, dx, st _ _ (hr b C e1).symm e3⟩
 ·obtain ⟨u, eu, mu⟩ := sub j t e1 m1
  obtain ⟨u', eu', mu'⟩ := sub k t' e2 m2
  exact fr.ap j k b u u' eu eu' mu mu' q1 q2
end
section
variable {X : Cx} {F : Fm} {e : Expr} {u : UT} {x : Str} {p apos cpos pos : Pos}
def uAppend (i : Nat) (u : UT) : UT := fun ρ Q => (∃ Ts, ρ[i]? = some (.own Ts)) /\ u ρ fun T ρ1 => ∃ Ts, ρ1[i]? = some (.own Ts) /\ Ts.length < 100000 /\ Q nT (ρ1.set i (.own (Ts ++ [T])))
theorem ue_append (i : Nat) (h : UE X F e u) (hN : X.N[i]? = some x := by rfl) (hv : Vis X.env.scope x := by first | exact Or.inl rfl | exact Or.inr (Or.inl rfl) | exact Or.inr (Or.inr rfl)) (hd : (x == ("__debug__" : Str)) = false := by decide) (hcd : (x == ("__classdict__" : Str)) = false := by decide)
  (hbase : attributeBase (.Name x p) "append" X.env (eval (.Name x p) X.env) = eval (.Name x p) X.env := by rfl)
  (hfew : ((backTo cpos (starEach [e] X.env)).all (fun x => !x.1) && (backToKw cpos (keywordEach [] X.env)).all (fun x => x.1.isSome) && decide (([e] : List Expr).length + ([] : List Keyword).length + (if ([] : List Keyword).isEmpty then 0 else 1) < 30)) = true := by rfl)
  (hline : (apos.endLine == cpos.line) = true := by rfl) (hs : starEach [e] X.env = (false, eval e X.env) :: starEach [] X.env := by rfl) (hplain : (backTo cpos (starEach [] X.env)).any (·.1) = false := by rfl) (hst : isStar e = false := by rfl) :
  UE X F (.Call (.Attribute (.Name x p) "append" apos) [e] [] cpos) (uAppend i u) := ⟨PE.imp (pe_bm PySem.F.plainAttrs_list PySem.F.slot_list_append PySem.F.type_list_append mt_append (pe_var hN hv hd hcd) (ua_c h ua_nil hst).pa hbase hfew hline hs hplain) fun σ H QQ ⟨ρ, Q, f, ⟨⟨Ts0, e0⟩, hu⟩, k⟩ => by
 obtain ⟨a, xs, ea, eH, e3, z, pv⟩ := f.at_ i _ e0
 refine ⟨_, ixv_some ea, .inl ⟨rfl, xs, SqL.of eH⟩, ρ, fun as ρ1 => ∃ T, as = [.va T] /\ ∃ Ts, ρ1[i]? = some (.own Ts) /\ Ts.length < 100000 /\ Q nT (ρ1.set i (.own (Ts ++ [T]))), f, ?_, fun vs as H1 ρ1 s1 p1 q1 => ?_⟩
 ·show u ρ _
  have : (fun T ρ1 => ∃ Ts, ρ1[i]? = some (.own Ts) /\ Ts.length < 100000 /\ Q nT (ρ1.set i (.own (Ts ++ [T])))) = (fun T (ρ1 : PEnv) => (uNil ρ1 fun as ρ2 => ∃ T', Ar.va T :: as = [.va T'] /\ ∃ Ts, ρ2[i]? = some (.own Ts) /\ Ts.length < 100000 /\ Q nT (ρ2.set i (.own (Ts ++ [T'])))) ) := by
   funext T ρ1
   apply propext
   constructor
   ·intro z; exact ⟨T, rfl, z⟩
   ·rintro ⟨T', e, z⟩; cases e; exact z
  rw [this] at hu
  exact hu
 ·obtain ⟨T, rfl, Ts, e1, lt, q⟩ := q1
  cases p1 with
  | cons v t =>
   cases t
   obtain ⟨a', ys, ea', eH1, e3', z', pv'⟩ := s1.fr.at_ i _ e1
   rw [ea] at ea'; cases ea'
   have ll : ys.length = Ts.length := Paired.length pv'
   refine ⟨a, ys, _, rfl, rfl, eH1, line_lt (by omega), k _ _ _ _ (s1.trans (s1.fr.put (s' := .own (Ts ++ [T])) e1 rfl ea eH1 rfl fun hs h0 => ⟨a, _, rfl, upd_same, h0, by rw [List.length_append, List.length_singleton]; omega, VAs.hs hs (Paired.snoc pv' v)⟩)) (.flat rfl) q⟩⟩
def uPopAt (i : Nat) (u : UT) : UT := fun ρ Q => (∃ Ts, ρ[i]? = some (.own Ts)) /\ u ρ fun J ρ1 => ∃ (j : Int) (Ts : List Tv) (T : Tv), J = iT j /\ ρ1[i]? = some (.own Ts) /\ 0 <= j /\ Ts[j.toNat]? = some T /\ Q T (ρ1.set i (.own (Ts.eraseIdx j.toNat)))
theorem paired_erase {α β : Type} {R : α -> β -> Prop} : ∀ {l : List α} {m : List β} (n : Nat), Paired R l m -> Paired R (l.eraseIdx n) (m.eraseIdx n)
 | _, _, _, .nil => .nil
 | _, _, 0, .cons _ t => t
 | _, _, n + 1, .cons r t => .cons r (paired_erase n t)
theorem paired_getR {α β : Type} {R : α -> β -> Prop} : ∀ {l : List α} {m : List β} {n : Nat} {y : β}, Paired R l m -> m[n]? = some y -> ∃ x, l[n]? = some x /\ R x y
 | _, _, _, _, .nil, e => by simp at e
 | _, _, 0, _, .cons r _, e => by simp at e; subst e; exact ⟨_, rfl, r⟩
 | _, _, n + 1, _, .cons _ t, e => by
  obtain ⟨x, h1, h2⟩ := paired_getR (n := n) t (by simpa using e)
  exact ⟨x, by simpa using h1, h2⟩
theorem ue_popAt (i : Nat) (h : UE X F e u) (hN : X.N[i]? = some x := by rfl) (hv : Vis X.env.scope x := by first | exact Or.inl rfl | exact Or.inr (Or.inl rfl) | exact Or.inr (Or.inr rfl)) (hd : (x == ("__debug__" : Str)) = false := by decide) (hcd : (x == ("__classdict__" : Str)) = false := by decide)
  (hbase : attributeBase (.Name x p) "pop" X.env (eval (.Name x p) X.env) = eval (.Name x p) X.env := by rfl)
  (hfew : ((backTo cpos (starEach [e] X.env)).all (fun x => !x.1) && (backToKw cpos (keywordEach [] X.env)).all (fun x => x.1.isSome) && decide (([e] : List Expr).length + ([] : List Keyword).length + (if ([] : List Keyword).isEmpty then 0 else 1) < 30)) = true := by rfl)
  (hline : (apos.endLine == cpos.line) = true := by rfl) (hs : starEach [e] X.env = (false, eval e X.env) :: starEach [] X.env := by rfl) (hplain : (backTo cpos (starEach [] X.env)).any (·.1) = false := by rfl) (hst : isStar e = false := by rfl) :
  UE X F (.Call (.Attribute (.Name x p) "pop" apos) [e] [] cpos) (uPopAt i u) := ⟨PE.imp (pe_bm PySem.F.plainAttrs_list PySem.F.slot_list_pop PySem.F.type_list_pop mt_popAt (pe_var hN hv hd hcd) (ua_c h ua_nil hst).pa hbase hfew hline hs hplain) fun σ H QQ ⟨ρ, Q, f, ⟨⟨Ts0, e0⟩, hu⟩, k⟩ => by
 obtain ⟨a, xs, ea, eH, e3, z, pv⟩ := f.at_ i _ e0
 refine ⟨_, ixv_some ea, .inl ⟨rfl, xs, SqL.of eH⟩, ρ, fun as ρ1 => ∃ J, as = [.va J] /\ ∃ (j : Int) (Ts : List Tv) (T : Tv), J = iT j /\ ρ1[i]? = some (.own Ts) /\ 0 <= j /\ Ts[j.toNat]? = some T /\ Q T (ρ1.set i (.own (Ts.eraseIdx j.toNat))), f, ?_, fun vs as H1 ρ1 s1 p1 q1 => ?_⟩
 ·show u ρ _
  have : (fun J ρ1 => ∃ (j : Int) (Ts : List Tv) (T : Tv), J = iT j /\ ρ1[i]? = some (.own Ts) /\ 0 <= j /\ Ts[j.toNat]? = some T /\ Q T (ρ1.set i (.own (Ts.eraseIdx j.toNat)))) = (fun J (ρ1 : PEnv) => (uNil ρ1 fun as ρ2 => ∃ J', Ar.va J :: as = [.va J'] /\ ∃ (j : Int) (Ts : List Tv) (T : Tv), J' = iT j /\ ρ2[i]? = some (.own Ts) /\ 0 <= j /\ Ts[j.toNat]? = some T /\ Q T (ρ2.set i (.own (Ts.eraseIdx j.toNat)))) ) := by
   funext T ρ1
   apply propext
   constructor
   ·intro z; exact ⟨T, rfl, z⟩
   ·rintro ⟨T', e, z⟩; cases e; exact z
  rw [this] at hu
  exact hu
 ·obtain ⟨J, rfl, j, Ts, T, rfl, e1, h0, eT, q⟩ := q1
  cases p1 with
  | cons v t =>
   cases t
   obtain ⟨rfl, _⟩ := VA.leafI v
   obtain ⟨a', ys, ea', eH1, e3', z', pv'⟩ := s1.fr.at_ i _ e1
   rw [ea] at ea'; cases ea'
   have ll : ys.length = Ts.length := Paired.length pv'
   have lt := (List.getElem?_eq_some_iff.mp eT).1
   obtain ⟨y, ey, vy⟩ := paired_getR pv' eT
   have s := s1.fr.put (o' := .lst (ys.eraseIdx j.toNat)) e1 rfl ea eH1 rfl (s' := .own (Ts.eraseIdx j.toNat)) fun hs h0 => ⟨a, _, rfl, upd_same, h0, by rw [List.length_eraseIdx]; split <;> omega, VAs.hs hs (paired_erase _ pv')⟩
   refine ⟨a, ys, j, j.toNat, y, rfl, rfl, eH1, by omega, by omega, PySem.StrLaws.seqIndex_nonneg h0 (by omega), ey, k _ _ _ _ (s1.trans s) (vy.hs (s.hs s1.fr)) q⟩⟩
def sDict0 (i : Nat) : UTs := fun P ρ => P.nx (ρ.set i (.dct []))
theorem us_dict0 {i : Nat} {pos' dpos : Pos} (hN : X.N.Nodup) (hi : X.N[i]? = some x) (hx : Loc X.env.scope x) (hs : swapsWith (.Dict [] [] dpos) (some (.Name x pos')) pos.line X.env = pure false := by rfl) (hf : X.fn x = true \/ X.env.scope.names.lookup x = some .local := by first | exact .inl rfl | exact .inr rfl | assumption) :
  US X F (.Assign [.Name x pos'] (.Dict [] [] dpos) pos) (sDict0 i) := ⟨PS.imp (ps_set hN hi hx pe_dnewK hs hf) fun D σ H ⟨ρ, P, f, h, k1, _⟩ a n => by
 have s := Stp.same f (same_new (o := .dK []) n)
 exact k1 _ _ _ (s.fr.set (s := .dct []) (fun _ => ⟨a, [], rfl, upd_same, f.none0 n, .nil, by decide, .nil⟩) (fun _ b eb j t ej mj qj => by cases eb; exact s.notown f n j t ej mj qj)) (s.hs f) h⟩
def putD (kts : List (Str × Tv)) (k : Str) (T : Tv) : List (Str × Tv) := if (kts.any fun kt => decide (kt.1 = k)) = true then kts.map (fun kt => if kt.1 = k then (kt.1, T) else kt) else kts ++ [(k, T)]
theorem vak_any {K : PySem.W.Frag} {H : Hp} {kvs : List (Key × V)} {kts : List (Str × Tv)} (p : VAk K H kvs kts) (k : Str) : (kvs.any fun kv => decide (kv.1 = .inr k)) = kts.any fun kt => decide (kt.1 = k) := by
 unfold VAk at p
 induction p with
 | nil => rfl
 | cons r _ ih =>
  rw [List.any_cons, List.any_cons, ih, r.1]
  congr 1
  rw [Bool.eq_iff_iff, decide_eq_true_iff, decide_eq_true_iff]
  exact ⟨fun z => Sum.inr.inj z, fun z => by rw [z]⟩
theorem vak_put {K : PySem.W.Frag} {H : Hp} {kvs : List (Key × V)} {kts : List (Str × Tv)} (p : VAk K H kvs kts) {k : Str} {v : V} {T : Tv} (q : VA K H v T) : VAk K H (putK kvs (.inr k) v) (putD kts k T) := by
 unfold putK putD
 rw [vak_any p k]
 split
 ·rename_i zz
  clear zz
  unfold VAk at p ⊢
  induction p with
  | nil => exact .nil
  | @cons kv kt _ _ r _ ih =>
   refine .cons ?_ ih
   dsimp only
   by_cases z : kt.1 = k
   ·rw [if_pos z, if_pos (by rw [r.1, z])]; exact ⟨r.1, q⟩
   ·rw [if_neg z, if_neg (by rw [r.1]; exact fun y => z (Sum.inr.inj y))]; exact r
 ·exact Paired.snoc p ⟨rfl, q⟩
theorem putD_keys (kts : List (Str × Tv)) (k : Str) (T : Tv) : (putD kts k T).map (·.1) = if (kts.any fun kt => decide (kt.1 = k)) = true then kts.map (·.1) else kts.map (·.1) ++ [k] := by
 unfold putD
 split
 ·rw [List.map_map]
  refine List.map_congr_left fun kt _ => ?_
  show (if kt.1 = k then (kt.1, T) else kt).1 = kt.1
  split <;> rfl
 ·rw [List.map_append]; rfl
theorem putD_nodup {kts : List (Str × Tv)} {k : Str} {T : Tv} (h : (kts.map (·.1)).Nodup) : ((putD kts k T).map (·.1)).Nodup := by
 rw [putD_keys]
 split
 ·exact h
 ·rename_i n
  rw [List.nodup_append]
  refine ⟨h, by simp, fun a ha b hb => ?_⟩
  rw [List.mem_singleton] at hb
  subst hb
  rintro rfl
  obtain ⟨kt, hk, rfl⟩ := List.mem_map.mp ha
  exact n (List.any_eq_true.mpr ⟨kt, hk, by simp⟩)
def sDput (i : Nat) (uk uv : UT) : UTs := fun P ρ => uv ρ fun T ρ1 => (∃ kts, ρ1[i]? = some (.dct kts)) /\ uk ρ1 fun k ρ2 => ∃ kts s, ρ2[i]? = some (.dct kts) /\ k = sT s /\ (putD kts s T).length < 64 /\ P.nx (ρ2.set i (.dct (putD kts s T)))
theorem us_dput {i : Nat} {k : Expr} {uk uv : UT} {pos' : Pos} (hu : X.A.units + 1 < cLine) (hN : X.N[i]? = some x) (hv : Vis X.env.scope x) (hk : UE X F k uk) (he : UE X F e uv) (hs : swapsWith e (some (.Subscript (.Name x p) k pos')) pos.line X.env = pure false := by rfl) (hd : (x == ("__debug__" : Str)) = false := by decide) (hcd : (x == ("__classdict__" : Str)) = false := by decide) :
  US X F (.Assign [.Subscript (.Name x p) k pos'] e pos) (sDput i uk uv) := ⟨PS.imp (ps_dput hu (pe_var hN hv hd hcd) hk.pe he.pe hs) fun D σ H ⟨ρ, P, f, h, k1, _⟩ => by
 refine ⟨ρ, _, f, h, fun v T H1 ρ1 s1 v1 q1 => ?_⟩
 obtain ⟨⟨kts0, e0⟩, q1⟩ := q1
 obtain ⟨a, kvs0, ea, eH0, _⟩ := s1.fr.at_ i _ e0
 refine ⟨_, ixv_some ea, ρ1, _, s1.fr, q1, fun y Ky H2 ρ2 s2 v2 q2 => ?_⟩
 obtain ⟨kts, s, e2, rfl, lt, q⟩ := q2
 obtain ⟨rfl, _⟩ := v2.leafI
 obtain ⟨a', kvs, ea', eH, h0, nd, l64, p⟩ := s2.fr.at_ i _ e2
 rw [ea] at ea'; cases ea'
 have ll : kvs.length = kts.length := Paired.length p
 refine ⟨a, _, rfl, DPut.k (k := .inr s) eH (line_lt (by omega)), ?_⟩
 have st := s2.fr.put (o' := .dK (putK kvs (.inr s) v)) e2 rfl ea eH rfl (s' := .dct (putD kts s T)) fun hs h0 => ⟨a, _, rfl, upd_same, h0, putD_nodup nd, lt, VAk.hs hs (vak_put p (v1.hs (s2.hs s1.fr)))⟩
 exact k1 _ _ _ st.fr (((s1.trans s2).trans st).hs f) q⟩
end
theorem Inv.frozen {X : Cx} {pins : List (Addr × Obj)} {σ : St} {H H2 : Hp} {s : Shared} (I : Inv X pins σ H s) (fro : FrozenA noHp H H2) (ok2 : HOk X.prog X.w H2 s.heap) : Inv X pins σ H2 s := by
 refine ⟨I.ok, I.os, I.bare, ⟨I.base.keep, I.base.slot, fun b o e n hx => fro.none_of (I.base.free b o e n hx), I.base.there, fun b xs e => fro.keep (I.base.tups b xs e) rfl, fun b o u e => fro.keep (I.base.frzs b o u e) rfl, fun b ps e => ?_⟩, I.loc, I.cell, fro.none_of I.free, fun x c e => fro.none_of (I.freeC x c e), fun p hp => ?_, ok2, I.len⟩
 ·obtain ⟨more, z⟩ := I.base.tbls b ps e
  exact ⟨more, fro.keep z rfl⟩
 ·obtain ⟨p1, p2, p3⟩ := I.pin p hp
  exact ⟨p1, fro.none_of p2, p3⟩
theorem Inv.thaw {X : Cx} {pins : List (Addr × Obj)} {σ : St} {H H3 H4 : Hp} {s s' : Shared} (I : Inv X pins σ H s) (I3 : Inv X pins σ H3 s') (th : Thaw H H3 H4) : Inv X pins σ H4 s' := by
 have stay : ∀ b o, H3 b = some o -> (∀ u ob, o ≠ .frz ob u) -> H4 b = some o := fun b o e n => by
  rcases th b with ⟨u, ob, _, _, z, _⟩ | ⟨_, z⟩
  ·rw [e] at z; cases z; exact absurd rfl (n u ob)
  ·rw [z]; exact e
 have none4 : ∀ b, H3 b = none -> H4 b = none := fun b e => by
  rcases th b with ⟨u, ob, _, _, z, _⟩ | ⟨_, z⟩
  ·rw [e] at z; cases z
  ·rw [z]; exact e
 refine ⟨I3.ok, I3.os, I3.bare, ⟨I3.base.keep, I3.base.slot, fun b o e n hx => none4 b (I3.base.free b o e n hx), I3.base.there, fun b xs e => stay b _ (I3.base.tups b xs e) (fun _ _ z => by cases z), fun b o u e => ?_, fun b ps e => ?_⟩, I3.loc, I3.cell, none4 _ I3.free, fun x c e => none4 c (I3.freeC x c e), fun p hp => ?_, fun b o e => ?_, I3.len⟩
 ·rcases th b with ⟨o', ob, n, z, _⟩ | ⟨_, z⟩
  ·rw [I.base.frzs b o u e] at z; cases z; exact absurd n Bool.false_ne_true
  ·rw [z]; exact I3.base.frzs b o u e
 ·obtain ⟨more, z⟩ := I3.base.tbls b ps e
  exact ⟨more, stay b _ z (fun _ _ z => by cases z)⟩
 ·obtain ⟨p1, p2, p3⟩ := I3.pin p hp
  exact ⟨p1, none4 _ p2, p3⟩
 ·have st : ∀ o, ObjOk X.prog X.w H3 s'.heap b o -> ObjOk X.prog X.w H4 s'.heap b o := fun o x => x.stay (fun _ _ _ r => r) (fun d r => stay d _ r (fun _ _ z => by cases z)) fun d xs r => stay d _ r (fun _ _ z => by cases z)
  rcases th b with ⟨o', ob, n, _, z, z'⟩ | ⟨_, z⟩
  ·rw [z'] at e
   cases e
   obtain ⟨_, y⟩ := (show ObjOk X.prog X.w H3 s'.heap b (.frz ob o) from I3.hok b _ z)
   exact st o y
  ·rw [z] at e
   exact st o (I3.hok b o e)
def pkS : Sl -> Sl
 | .own Ts => .va (.seq false Ts)
 | .dct kts => .va (.dct kts)
 | .dk => .no
 | .rd _ _ => .no
 | s => s
def pkE (ρ : PEnv) : PEnv := ρ.map pkS
theorem fr_pk {K : PySem.W.Frag} {F : Fm} {ρ : PEnv} {σ : St} {H H2 : Hp} (f : FrOk K F ρ σ H) (fro : FrozenA noHp H H2) : FrOk K ⟨H2, none, none⟩ (pkE ρ) σ H2 := by
 have hs := fro.hs
 refine ⟨fun _ _ z => (nomatch z), fun _ _ z => (nomatch z), ⟨fun _ _ e _ _ => e, fun _ _ z => (nomatch z), fun _ _ z => (nomatch z)⟩, by unfold pkE; rw [List.length_map]; exact f.len, fun i s e => ?_, fun i j a s t e _ m _ _ _ => ?_⟩
 ·unfold pkE at e
  rw [List.getElem?_map] at e
  obtain ⟨s0, e0, rfl⟩ := Option.map_eq_some_iff.mp e
  have h := f.at_ i s0 e0
  cases s0 with
  | no => trivial
  | va T => obtain ⟨y, e1, v⟩ := h; exact ⟨y, e1, v.hs hs⟩
  | own Ts =>
   obtain ⟨a, xs, e1, e2, e3, z, p⟩ := h
   obtain ⟨ob, e4⟩ := fro.fz (b := a) rfl e2 rfl
   exact ⟨_, e1, VA.seq (t := false) ⟨ob, e4⟩ z (p.hs hs)⟩
  | dct kts =>
   obtain ⟨a, kvs, e1, e2, e3, n, z, p⟩ := h
   obtain ⟨ob, e4⟩ := fro.fz (b := a) rfl e2 rfl
   exact ⟨_, e1, VA.dct ⟨ob, e4⟩ n z (p.hs hs)⟩
  | dk => trivial
  | rd _ _ => trivial
  | fn _ => trivial
 ·unfold pkE at e
  rw [List.getElem?_map] at e
  obtain ⟨s0, e0, rfl⟩ := Option.map_eq_some_iff.mp e
  cases s0 <;> cases m
theorem pk_same {K : PySem.W.Frag} {ρ ρ' : PEnv} {σ : St} {H2 H3 : Hp} {H0 : Hp} (s : Stp K ⟨H0, none, none⟩ σ (pkE ρ) H2 ρ' H3) : Same H2 H3 := fun b o e => s.st b o e (fun _ _ z => (nomatch z)) fun i t e1 m => by
 unfold pkE at e1
 rw [List.getElem?_map] at e1
 obtain ⟨s0, e0, rfl⟩ := Option.map_eq_some_iff.mp e1
 cases s0 <;> cases m
section
variable {X : Cx} {F : Fm} {e : Expr}
def uPeek (u : UT) : UT := fun ρ Q => u (pkE ρ) fun T _ => ∃ v, T = .leaf v /\ Q T ρ
theorem ue_peek {u : UT} (h : ∀ F, UE X F e u) : UE X F e (uPeek u) := ⟨fun pins s σ H QQ I ⟨ρ, Q, f, hu, k⟩ => by
 obtain ⟨H2, fro, ok2⟩ := frozen_is I.hok
 have f2 := fr_pk f fro
 refine thn ((h ⟨H2, none, none⟩).pe pins s σ H2 (fun x H3 => ∃ v ρ', Stp X.K ⟨H2, none, none⟩ σ (pkE ρ) H2 ρ' H3 /\ VA X.K H3 x (.leaf v) /\ Q (.leaf v) ρ) (I.frozen fro ok2) ⟨_, _, f2, hu, fun x T H' ρ' st v q => ?_⟩) fun u s' ⟨x, H3, I3, r, q⟩ => ?_
 ·obtain ⟨w, rfl, q⟩ := q
  exact ⟨w, ρ', st, v, q⟩
 ·obtain ⟨v, ρ', st, va, q⟩ := q
  obtain ⟨H4, th⟩ := thaw_is H H3
  obtain ⟨rfl, fl⟩ := va.leafI
  exact ⟨x, H4, I.thaw I3 th, r, k _ _ _ _ (Stp.same f (Thaw.same fro (pk_same st) th)) (.flat fl) q⟩⟩
def uPeekT (u : UTt) : UTt := fun ρ Q => u (pkE ρ) fun b _ => Q b ρ
theorem ub_peek {u : UTt} (h : ∀ F, UB X F e u) : UB X F e (uPeekT u) := ⟨fun pins s σ H QQ I ⟨ρ, Q, f, hu, k⟩ => by
 obtain ⟨H2, fro, ok2⟩ := frozen_is I.hok
 have f2 := fr_pk f fro
 refine thn ((h ⟨H2, none, none⟩).pt pins s σ H2 (fun b H3 => ∃ ρ', Stp X.K ⟨H2, none, none⟩ σ (pkE ρ) H2 ρ' H3 /\ Q b ρ) (I.frozen fro ok2) ⟨_, _, f2, hu, fun b H' ρ' st q => ⟨ρ', st, q⟩⟩) fun b s' ⟨H3, I3, q⟩ => ?_
 obtain ⟨ρ', st, q⟩ := q
 obtain ⟨H4, th⟩ := thaw_is H H3
 exact ⟨H4, I.thaw I3 th, k _ _ _ (Stp.same f (Thaw.same fro (pk_same st) th)) q⟩⟩
end
end L2
namespace L2
open PySem PySem.Spec PyProof.Rows WordM
mutual
def eqT : Tv -> Tv -> Bool
 | .leaf v, .leaf w => eqV v w
 | .seq s xs, .seq t ys => s == t && eqTs xs ys
 | _, _ => false
def eqTs : List Tv -> List Tv -> Bool
 | [], [] => true
 | x :: xs, y :: ys => eqT x y && eqTs xs ys
 | _, _ => false
end
def EqD : Nat -> Tv -> Prop
 | 0, _ => False
 | _ + 1, .leaf _ => True
 | n + 1, .seq _ xs => ∀ U ∈ xs, EqD n U
 | _ + 1, .dct _ => False
theorem eqTs_len : ∀ {xs ys : List Tv}, xs.length ≠ ys.length -> eqTs xs ys = false
 | [], [], h => absurd rfl h
 | [], _ :: _, _ => by simp [eqTs]
 | _ :: _, [], _ => by simp [eqTs]
 | x :: xs, y :: ys, h => by
  have := eqTs_len (xs := xs) (ys := ys) (fun e => h (by simp [e]))
  simp [eqTs, this]
theorem eqTs_range : ∀ {xs ys : List Tv}, xs.length = ys.length -> (List.range xs.length).all (fun i => eqT (xs.getD i nT) (ys.getD i nT)) = eqTs xs ys
 | [], [], _ => by simp [eqTs]
 | [], _ :: _, h => by simp at h
 | _ :: _, [], h => by simp at h
 | x :: xs, y :: ys, h => by
  have ih := eqTs_range (xs := xs) (ys := ys) (by simpa using h)
  rw [List.length_cons, List.range_succ_eq_map, List.all_cons, List.all_map]
  show (eqT x y && (List.range xs.length).all fun i => eqT (xs.getD i nT) (ys.getD i nT)) = eqTs (x :: xs) (y :: ys)
  rw [ih]
  simp [eqTs]
theorem EqD.vp {K : PySem.W.Frag} {H : Hp} : ∀ {n d : Nat} {x : V} {T : Tv}, EqD n T -> VP K H d x T -> VP K H n x T
 | 0, _, _, _, h, _ => False.elim h
 | _ + 1, 0, _, _, _, h => False.elim h
 | n + 1, d + 1, x, T, h, v => by
  rcases v with v | ⟨t, a, xs, Ts, e1, e2, rfl, z, p⟩ | ⟨a, kvs, kts, e1, e2, rfl, _⟩
  ·exact .inl v
  ·have g : ∀ U ∈ Ts, EqD n U := h
   refine .inr (.inl ⟨t, a, xs, Ts, e1, e2, rfl, z, ?_⟩)
   clear e2 z h
   induction p with
   | nil => exact .nil
   | cons r _ ih => exact .cons ((g _ (.head _)).vp r) (ih fun U hU => g U (.tail _ hU))
  ·exact False.elim h
section
variable {X : Cx} {pins : List (Addr × Obj)} {σ : St} {H : Hp} {s : Shared}
theorem eqV_refl {v : V} (h : flatV v = true) : eqV v v = true := by
 cases v <;> first | exact absurd h Bool.false_ne_true | simp [eqV]
theorem PSeq.isList {a : Addr} {xs : List V} (I : Inv X pins σ H s) (h : PSeq X.K H false a xs) : ∃ its : List Value, Vals xs its /\ s.heap.IsList a its.toArray := by
 obtain ⟨its, r, p, _⟩ := I.list (seq_of h)
 exact ⟨its, r, p.isList⟩
theorem PSeq.isTup {a : Addr} {xs : List V} (I : Inv X pins σ H s) (h : PSeq X.K H true a xs) : ∃ its : List Value, Vals xs its /\ s.heap.IsTuple a its.toArray := by
 obtain ⟨its, r, p, _⟩ := I.tuple h
 exact ⟨its, r, p⟩
theorem eq_self (I : Inv X pins σ H s) : ∀ {n : Nat} {x : V} {T U : Tv}, VP X.K H n x T -> VP X.K H n x U -> EqD n T -> EqD n U -> eqT T U = true
 | 0, _, _, _, h, _, _, _ => False.elim h
 | n + 1, x, T, U, h, h', d, d' => by
  rcases h with ⟨f, rfl⟩ | ⟨t, a, xs, Ts, rfl, e2, rfl, z, p⟩ | ⟨a, kvs, kts, rfl, e2, rfl, _⟩
  ·rcases h' with ⟨_, rfl⟩ | ⟨t', a', xs', Ts', rfl, _⟩ | ⟨a', kvs', kts', rfl, _⟩
   ·simp [eqT, eqV_refl f]
   ·cases f
   ·cases f
  ·rcases h' with ⟨f, rfl⟩ | ⟨t', a', xs', Ts', e1', e2', rfl, z', p'⟩ | ⟨a', kvs', kts', e1', e2', rfl, _⟩
   ·cases f
   ·cases e1'
    have tt : t = t' := by
     cases t <;> cases t' <;> first | rfl | skip
     ·obtain ⟨_, _, l1⟩ := PSeq.isList I e2
      obtain ⟨_, _, l2⟩ := PSeq.isTup I e2'
      exact absurd rfl (SeqAt.ne_of_list_tuple l1 l2)
     ·obtain ⟨_, _, l1⟩ := PSeq.isList I e2'
      obtain ⟨_, _, l2⟩ := PSeq.isTup I e2
      exact absurd rfl (SeqAt.ne_of_list_tuple l1 l2)
    subst tt
    have ex : xs = xs' := by
     cases t with
     | false => exact I.list_inj (seq_of e2) (seq_of e2')
     | true => exact I.tuple_inj e2 e2'
    subst ex
    have d : ∀ U ∈ Ts, EqD n U := d
    have d' : ∀ U ∈ Ts', EqD n U := d'
    have key : ∀ {xs : List V} {Ts Ts' : List Tv}, Paired (VP X.K H n) xs Ts -> Paired (VP X.K H n) xs Ts' -> (∀ U ∈ Ts, EqD n U) -> (∀ U ∈ Ts', EqD n U) -> eqTs Ts Ts' = true := by
     intro xs Ts Ts' p
     induction p generalizing Ts' with
     | nil => intro p' _ _; cases p'; simp [eqTs]
     | cons r _ ih =>
      intro p' d d'
      cases p' with
      | cons r' t' => simp [eqTs, eq_self I r r' (d _ (.head _)) (d' _ (.head _)), ih t' (fun U hU => d U (.tail _ hU)) (fun U hU => d' U (.tail _ hU))]
    simp [eqT, key p p' d d']
   ·exact False.elim d'
  ·exact False.elim d
theorem flat_cases {x : V} (h : flatV x = true) : x = .non \/ (∃ b, x = .bl b) \/ (∃ i, x = .int i) \/ ∃ z, x = .str z := by
 cases x with
 | non => exact .inl rfl
 | bl b => exact .inr (.inl ⟨b, rfl⟩)
 | int i => exact .inr (.inr (.inl ⟨i, rfl⟩))
 | str z => exact .inr (.inr (.inr ⟨z, rfl⟩))
 | _ => exact absurd (show false = true from h) Bool.false_ne_true
open SeqAt in
theorem eq_leaf_seq (I : Inv X pins σ H s) {A : Around} (hu : A.units < cLine) {x : V} {v : Value} {t : Bool} {a : Addr} {xs : List V} (f : flatV x = true) (r : RelV x v) (h : PSeq X.K H t a xs) :
  EqAt A s v (.ref a) false /\ EqAt A s (.ref a) v false /\ RcAt A s v (.ref a) false /\ RcAt A s (.ref a) v false /\ RcNeAt A s v (.ref a) true /\ RcNeAt A s (.ref a) v true := by
 cases t with
 | false =>
  obtain ⟨_, _, l⟩ := PSeq.isList I h
  rcases flat_cases f with rfl | ⟨b, rfl⟩ | ⟨b, rfl⟩ | ⟨b, rfl⟩
  ·cases r; exact ⟨.none_list l hu, .list_none l hu, .none_list l hu, .list_none l hu, .none_list l hu, .list_none l hu⟩
  ·cases r; exact ⟨.bool_list b l hu, .list_bool b l hu, .bool_list b l hu, .list_bool b l hu, .bool_list b l hu, .list_bool b l hu⟩
  ·obtain ⟨t, rfl⟩ := r; exact ⟨.int_list b t l hu, .list_int b t l hu, .int_list b t l hu, .list_int b t l hu, .int_list b t l hu, .list_int b t l hu⟩
  ·obtain ⟨t, rfl⟩ := r; exact ⟨.str_list b t l hu, .list_str b t l hu, .str_list b t l hu, .list_str b t l hu, .str_list b t l hu, .list_str b t l hu⟩
 | true =>
  obtain ⟨_, _, l⟩ := PSeq.isTup I h
  rcases flat_cases f with rfl | ⟨b, rfl⟩ | ⟨b, rfl⟩ | ⟨b, rfl⟩
  ·cases r; exact ⟨.none_tuple l hu, .tuple_none l hu, .none_tuple l hu, .tuple_none l hu, .none_tuple l hu, .tuple_none l hu⟩
  ·cases r; exact ⟨.bool_tuple b l hu, .tuple_bool b l hu, .bool_tuple b l hu, .tuple_bool b l hu, .bool_tuple b l hu, .tuple_bool b l hu⟩
  ·obtain ⟨t, rfl⟩ := r; exact ⟨.int_tuple b t l hu, .tuple_int b t l hu, .int_tuple b t l hu, .tuple_int b t l hu, .int_tuple b t l hu, .tuple_int b t l hu⟩
  ·obtain ⟨t, rfl⟩ := r; exact ⟨.str_tuple b t l hu, .tuple_str b t l hu, .str_tuple b t l hu, .tuple_str b t l hu, .str_tuple b t l hu, .tuple_str b t l hu⟩
open SeqAt in
theorem rc_leaf {A : Around} {x y : V} {v u : Value} (fx : flatV x = true) (fy : flatV y = true) (rx : RelV x v) (ry : RelV y u) : RcAt A s v u (eqV x y) /\ RcNeAt A s v u (!eqV x y) := by
 rcases flat_cases fx with rfl | ⟨a, rfl⟩ | ⟨a, rfl⟩ | ⟨a, rfl⟩ <;> rcases flat_cases fy with rfl | ⟨b, rfl⟩ | ⟨b, rfl⟩ | ⟨b, rfl⟩
 ·cases rx; cases ry; exact ⟨.none_none, .none_none⟩
 ·cases rx; cases ry; exact ⟨.none_bool b, .none_bool b⟩
 ·cases rx; obtain ⟨t, rfl⟩ := ry; exact ⟨.none_int b t, .none_int b t⟩
 ·cases rx; obtain ⟨t, rfl⟩ := ry; exact ⟨.none_str b t, .none_str b t⟩
 ·cases rx; cases ry; exact ⟨.bool_none a, .bool_none a⟩
 ·cases rx; cases ry; exact ⟨.bool_bool a b, .bool_bool a b⟩
 ·cases rx; obtain ⟨t, rfl⟩ := ry; exact ⟨.bool_int a b t, .bool_int a b t⟩
 ·cases rx; obtain ⟨t, rfl⟩ := ry; exact ⟨.bool_str a b t, .bool_str a b t⟩
 ·obtain ⟨t', rfl⟩ := rx; cases ry; exact ⟨.int_none a t', .int_none a t'⟩
 ·obtain ⟨t', rfl⟩ := rx; cases ry; exact ⟨.int_bool a t' b, .int_bool a t' b⟩
 ·obtain ⟨t', rfl⟩ := rx; obtain ⟨t, rfl⟩ := ry; exact ⟨.int_int a t' b t, .int_int a t' b t⟩
 ·obtain ⟨t', rfl⟩ := rx; obtain ⟨t, rfl⟩ := ry; exact ⟨.int_str a t' b t, .int_str a t' b t⟩
 ·obtain ⟨t', rfl⟩ := rx; cases ry; exact ⟨.str_none a t', .str_none a t'⟩
 ·obtain ⟨t', rfl⟩ := rx; cases ry; exact ⟨.str_bool a t' b, .str_bool a t' b⟩
 ·obtain ⟨t', rfl⟩ := rx; obtain ⟨t, rfl⟩ := ry; exact ⟨.str_int a t' b t, .str_int a t' b t⟩
 ·obtain ⟨t', rfl⟩ := rx; obtain ⟨t, rfl⟩ := ry; exact ⟨.str_str a t' b t, .str_str a t' b t⟩
theorem vals_nth {xs : List V} {us : List Value} (r : Vals xs us) {j : Nat} (h : j < us.toArray.size) : ∃ x, xs[j]? = some x /\ RelV x us.toArray[j] := by
 have l := r.length
 have k : j < xs.length := by rw [l]; simpa using h
 obtain ⟨u, hu, ru⟩ := r.get (i := j) (x := xs[j]) (List.getElem?_eq_getElem k)
 refine ⟨_, List.getElem?_eq_getElem k, ?_⟩
 have e1 : us.toArray[j] = u := by
  obtain ⟨_, e⟩ := List.getElem?_eq_some_iff.mp hu
  simpa using e
 rw [e1]; exact ru
open SeqAt in
theorem rc_seq (I : Inv X pins σ H s) {A : Around} (hu : A.units < cLine) {t : Bool} {a b : Addr} {xs ys : List V} {Ts Us : List Tv} (ha : PSeq X.K H t a xs) (hb : PSeq X.K H t b ys) (lx : xs.length = Ts.length) (ly : ys.length = Us.length)
  (it : ∀ (j : Nat) (x y : V) (T U : Tv) (v u : Value), xs[j]? = some x -> ys[j]? = some y -> Ts[j]? = some T -> Us[j]? = some U -> RelV x v -> RelV y u -> EqAt A.in1 s v u (eqT T U)) : RcAt A s (.ref a) (.ref b) (eqTs Ts Us) /\ RcNeAt A s (.ref a) (.ref b) (!eqTs Ts Us) := by
 have item : ∀ {vs us : List Value}, Vals xs vs -> Vals ys us -> ∀ j (h1 : j < vs.toArray.size) (h2 : j < us.toArray.size), EqAt A.in1 s vs.toArray[j] us.toArray[j] (eqT (Ts.getD j nT) (Us.getD j nT)) := fun {vs us} r1 r2 j h1 h2 => by
  obtain ⟨x, ex, rx⟩ := vals_nth r1 h1
  obtain ⟨y, ey, ry⟩ := vals_nth r2 h2
  have k1 := (List.getElem?_eq_some_iff.mp ex).1
  have k2 := (List.getElem?_eq_some_iff.mp ey).1
  refine it j x y _ _ _ _ ex ey ?_ ?_ rx ry
  ·rw [List.getD_eq_getElem?_getD, List.getElem?_eq_getElem (by omega)]; rfl
  ·rw [List.getD_eq_getElem?_getD, List.getElem?_eq_getElem (by omega)]; rfl
 cases t with
 | false =>
  obtain ⟨vs, r1, l1⟩ := PSeq.isList I ha
  obtain ⟨us, r2, l2⟩ := PSeq.isList I hb
  have n1 := r1.length
  have n2 := r2.length
  by_cases hl : Ts.length = Us.length
  ·have e1 := RcAt.lists l1 l2 (by simp only [List.size_toArray]; omega) hu (item r1 r2)
   have e2 := RcNeAt.lists l1 l2 (by simp only [List.size_toArray]; omega) hu (item r1 r2)
   rw [show vs.toArray.size = Ts.length by rw [List.size_toArray]; omega, eqTs_range hl] at e1 e2
   exact ⟨e1, e2⟩
  ·rw [eqTs_len hl]
   have hne : (vs.toArray.size != us.toArray.size) = true := by
    rw [bne_iff_ne, List.size_toArray, List.size_toArray]; omega
   exact ⟨.lists_lengths l1 l2 hne hu, .lists_lengths l1 l2 hne hu⟩
 | true =>
  obtain ⟨vs, r1, l1⟩ := PSeq.isTup I ha
  obtain ⟨us, r2, l2⟩ := PSeq.isTup I hb
  have n1 := r1.length
  have n2 := r2.length
  have e1 := RcAt.tuples l1 l2 hu (item r1 r2)
  have e2 := RcNeAt.tuples l1 l2 hu (item r1 r2)
  have ee : ((List.range (min vs.toArray.size us.toArray.size)).all (fun i => eqT (Ts.getD i nT) (Us.getD i nT)) && vs.toArray.size == us.toArray.size) = eqTs Ts Us := by
   rw [show vs.toArray.size = Ts.length by rw [List.size_toArray]; omega, show us.toArray.size = Us.length by rw [List.size_toArray]; omega]
   by_cases hl : Ts.length = Us.length
   ·rw [<- hl, Nat.min_self, eqTs_range hl]; simp
   ·rw [eqTs_len hl, beq_eq_false_iff_ne.mpr hl, Bool.and_false]
  rw [ee] at e1 e2
  exact ⟨e1, e2⟩
open SeqAt in
theorem eq_tree (I : Inv X pins σ H s) : ∀ (n : Nat) {A : Around} {x y : V} {T U : Tv} {v u : Value}, A.units + n < cLine -> EqD n T -> EqD n U -> VP X.K H n x T -> VP X.K H n y U -> RelV x v -> RelV y u -> EqAt A s v u (eqT T U)
 | 0, _, _, _, _, _, _, _, _, h, _, _, _, _, _ => False.elim h
 | n + 1, A, x, y, T, U, v, u, hu, d, d', h, h', rx, ry => by
  have hu0 : A.units < cLine := by omega
  have hh := h
  have hh' := h'
  rcases h with ⟨f, rfl⟩ | ⟨t, a, xs, Ts, rfl, e2, rfl, z, p⟩ | ⟨a, kvs, kts, rfl, e2, rfl, _⟩
  ·rcases h' with ⟨f', rfl⟩ | ⟨t', a', xs', Ts', rfl, e2', rfl, z', p'⟩ | ⟨a', kvs', kts', rfl, _, rfl, _⟩
   ·have := eqAt_V (A := A) (s := s) rx ry f f'
    simpa [eqT] using this
   ·cases ry
    have := (eq_leaf_seq I hu0 f rx e2').1
    simpa [eqT] using this
   ·exact False.elim d'
  ·rcases h' with ⟨f', rfl⟩ | ⟨t', b, ys, Us, rfl, e2', rfl, z', p'⟩ | ⟨a', kvs', kts', rfl, _, rfl, _⟩
   ·cases rx
    have := (eq_leaf_seq I hu0 f' ry e2).2.1
    simpa [eqT] using this
   ·cases rx
    cases ry
    by_cases ab : a = b
    ·subst ab
     have := eq_self I hh hh' d d'
     rw [this]
     exact EqAt.same _
    ·by_cases tt : t = t'
     ·subst tt
      have d : ∀ U ∈ Ts, EqD n U := d
      have d' : ∀ U ∈ Us, EqD n U := d'
      have := (rc_seq I hu0 e2 e2' (Paired.length p) (Paired.length p') fun j x y T U v u ex ey eT eU rx ry => by
       obtain ⟨T', eT', vx⟩ := paired_get p ex
       obtain ⟨U', eU', vy⟩ := paired_get p' ey
       rw [eT] at eT'; cases eT'
       rw [eU] at eU'; cases eU'
       exact eq_tree I n (by show A.units + 1 + n < _; omega) (d _ (List.mem_of_getElem? eT)) (d' _ (List.mem_of_getElem? eU)) vx vy rx ry).1
      have r := EqAt.of_refs ab this
      simpa [eqT] using r
     ·have e : eqT (.seq t Ts) (.seq t' Us) = false := by simp [eqT, tt]
      rw [e]
      refine EqAt.of_refs ab ?_
      cases t <;> cases t' <;> first | exact absurd rfl tt | skip
      ·obtain ⟨_, _, l1⟩ := PSeq.isList I e2
       obtain ⟨_, _, l2⟩ := PSeq.isTup I e2'
       exact .list_tuple l1 l2 hu0
      ·obtain ⟨_, _, l1⟩ := PSeq.isTup I e2
       obtain ⟨_, _, l2⟩ := PSeq.isList I e2'
       exact .tuple_list l1 l2 hu0
   ·exact False.elim d'
  ·exact False.elim d
end
def EqOk (Ts Us : List Tv) : Prop := Ts = [] \/ Us = [] \/ ((∀ T ∈ Ts, EqD 40 T) /\ ∀ U ∈ Us, EqD 40 U)
def pEqB (neg : Bool) : P2
 | .leaf v, .leaf w, Q => Q (bT (neg != eqV v w))
 | .leaf _, .seq _ _, Q => Q (bT neg)
 | .seq _ _, .leaf _, Q => Q (bT neg)
 | .seq s xs, .seq t ys, Q => EqOk xs ys /\ Q (bT (neg != (s == t && eqTs xs ys)))
 | _, _, _ => False
section
variable {X : Cx}
open SeqAt in
theorem eq_pure {pins : List (Addr × Obj)} {σ : St} {H : Hp} {s : Shared} (I : Inv X pins σ H s) (hu : X.A.units + 64 < cLine) {neg : Bool} {x y : V} {T U : Tv} {v u : Value} {Q : Tv -> Prop} (vx : VA X.K H x T) (vy : VA X.K H y U) (rx : RelV x v) (ry : RelV y u) (h : pEqB neg T U Q) :
  ∃ b, Q (bT (neg != b)) /\ RcAt X.A s v u b /\ RcNeAt X.A s v u (!b) := by
 have hu0 : X.A.units < cLine := by omega
 unfold pEqB at h
 split at h
 ·obtain ⟨rfl, f⟩ := vx.leafI
  obtain ⟨rfl, f'⟩ := vy.leafI
  exact ⟨_, h, rc_leaf f f' rx ry⟩
 ·obtain ⟨rfl, f⟩ := vx.leafI
  obtain ⟨a, xs, rfl, hs, _⟩ := vy.seqI
  cases ry
  have r := eq_leaf_seq I hu0 f rx hs
  exact ⟨false, by simpa using h, r.2.2.1, r.2.2.2.2.1⟩
 ·obtain ⟨rfl, f⟩ := vy.leafI
  obtain ⟨a, xs, rfl, hs, _⟩ := vx.seqI
  cases rx
  have r := eq_leaf_seq I hu0 f ry hs
  exact ⟨false, by simpa using h, r.2.2.2.1, r.2.2.2.2.2⟩
 ·rename_i t Ts t' Us
  obtain ⟨ok, q⟩ := h
  obtain ⟨a, xs, rfl, hs, z, p⟩ := vx.seqI
  obtain ⟨b, ys, rfl, hs', z', p'⟩ := vy.seqI
  cases rx
  cases ry
  refine ⟨_, q, ?_⟩
  by_cases tt : t = t'
  ·subst tt
   have e : (t == t && eqTs Ts Us) = eqTs Ts Us := by simp
   rw [e]
   refine rc_seq I hu0 hs hs' (Paired.length p) (Paired.length p') fun j x y T U v u ex ey eT eU rx ry => ?_
   rcases ok with rfl | rfl | ⟨o1, o2⟩
   ·cases eT
   ·cases eU
   ·obtain ⟨T', eT', d, vx⟩ := paired_get p ex
    obtain ⟨U', eU', d', vy⟩ := paired_get p' ey
    rw [eT] at eT'; cases eT'
    rw [eU] at eU'; cases eU'
    have k1 := o1 _ (List.mem_of_getElem? eT)
    have k2 := o2 _ (List.mem_of_getElem? eU)
    exact eq_tree I 40 (by show X.A.units + 1 + 40 < _; omega) k1 k2 (k1.vp vx) (k2.vp vy) rx ry
  ·have e : (t == t' && eqTs Ts Us) = false := by simp [tt]
   rw [e]
   cases t <;> cases t' <;> first | exact absurd rfl tt | skip
   ·obtain ⟨_, _, l1⟩ := PSeq.isList I hs
    obtain ⟨_, _, l2⟩ := PSeq.isTup I hs'
    exact ⟨.list_tuple l1 l2 hu0, .list_tuple l1 l2 hu0⟩
   ·obtain ⟨_, _, l1⟩ := PSeq.isTup I hs
    obtain ⟨_, _, l2⟩ := PSeq.isList I hs'
    exact ⟨.tuple_list l1 l2 hu0, .tuple_list l1 l2 hu0⟩
 ·exact False.elim h
def rEqP (K : PySem.W.Frag) (neg : Bool) : R2 := fun x y H Q => ∃ T U, VA K H x T /\ VA K H y U /\ pEqB neg T U fun W => ∃ b, W = bT b /\ Q (.bl b) H
theorem op_eqP (hu : X.A.units + 64 < cLine) : OpR X (compareOp .Eq) (rEqP X.K false) := by
 rintro pins s σ H x y v u Q I rx ry ⟨T, U, vx, vy, h⟩
 obtain ⟨b, ⟨b', e, q⟩, r, _⟩ := eq_pure I hu vx vy rx ry h
 cases e
 exact r X.prog X.w X.xe _ ⟨.bl b, H, I, rfl, by simpa using q⟩
theorem op_neP (hu : X.A.units + 64 < cLine) : OpR X (compareOp .NotEq) (rEqP X.K true) := by
 rintro pins s σ H x y v u Q I rx ry ⟨T, U, vx, vy, h⟩
 obtain ⟨b, ⟨b', e, q⟩, _, r⟩ := eq_pure I hu vx vy rx ry h
 cases e
 exact r X.prog X.w X.xe _ ⟨.bl (!b), H, I, rfl, by simpa using q⟩
theorem pEqB_mono {neg : Bool} {T U : Tv} {Q Q' : Tv -> Prop} (h : pEqB neg T U Q) (i : ∀ b, Q (bT b) -> Q' (bT b)) : pEqB neg T U Q' := by
 unfold pEqB at h ⊢
 split at h
 ·exact i _ h
 ·exact i _ h
 ·exact i _ h
 ·exact ⟨h.1, i _ h.2⟩
 ·exact False.elim h
abbrev pEq : P2 := pEqB false
abbrev pNe : P2 := pEqB true
theorem pu_eq (hu : X.A.units + 64 < cLine) : PuCmp X (compareOp .Eq) pEq := ⟨_, op_eqP hu, fun x y T U H Q QQ vx vy h k => ⟨T, U, vx, vy, pEqB_mono h fun b q => ⟨b, rfl, k _ _ _ (Same.refl _) (.flat rfl) q⟩⟩⟩
theorem pu_ne (hu : X.A.units + 64 < cLine) : PuCmp X (compareOp .NotEq) pNe := ⟨_, op_neP hu, fun x y T U H Q QQ vx vy h k => ⟨T, U, vx, vy, pEqB_mono h fun b q => ⟨b, rfl, k _ _ _ (Same.refl _) (.flat rfl) q⟩⟩⟩
end
end L2
namespace L2
open PySem PySem.Spec PyProof.Rows WordM
section
variable {X : Cx} {F : Fm}
theorem vas1 {K : PySem.W.Frag} {H : Hp} {xs : List V} {T : Tv} (h : VAs K H xs [T]) : ∃ x, xs = [x] /\ VA K H x T := by
 cases h with
 | cons r t => cases t; exact ⟨_, rfl, r⟩
theorem vas2 {K : PySem.W.Frag} {H : Hp} {xs : List V} {T U : Tv} (h : VAs K H xs [T, U]) : ∃ x y, xs = [x, y] /\ VA K H x T /\ VA K H y U := by
 cases h with
 | cons r t =>
  obtain ⟨y, rfl, v⟩ := vas1 t
  exact ⟨_, y, rfl, r, v⟩
def rCatL (K : PySem.W.Frag) : R2 := fun x y H Q => ∃ l b xs zs, x = .ref l /\ y = .ref b /\ Rd H l (.lst xs) /\ Rd H b (.lst zs) /\ xs.length + zs.length <= sizeLine /\ ∀ p, H p = none -> Q (.ref p) (upd H p (.lst (xs ++ zs)))
theorem op_catL : OpR X (binaryOp .Add) (rCatL X.K) := by
 rintro pins s σ H _ _ v u Q I rx ry ⟨l, b, xs, zs, rfl, rfl, hH, hB, hz, q⟩
 cases rx
 cases ry
 obtain ⟨z, its, n, r, e⟩ := hH.ok I.hok
 obtain ⟨z2, its2, n2, r2, e2⟩ := hB.ok I.hok
 have l1 := r.length
 have l2 := r2.length
 refine PySem.P.add_list e e2 ?_ (by rw [List.size_toArray, List.size_toArray]; omega)
 rw [show its.toArray ++ its2.toArray = (its ++ its2).toArray by simp]
 exact ⟨.ref _, _, I.lnew (t' := s.toks) (r.append r2) (by rw [List.length_append]; omega), rfl, q _ I.fresh⟩
def pAdd : P2
 | .leaf (.int i), .leaf (.int j), Q => Q (iT (i + j))
 | .leaf (.str x), .leaf (.str y), Q => x.length + y.length <= 100000 /\ Q (sT (x ++ y))
 | .seq true xs, .seq true ys, Q => xs.length + ys.length <= 100000 /\ Q (.seq true (xs ++ ys))
 | .seq false xs, .seq false ys, Q => xs.length + ys.length <= 100000 /\ Q (.seq false (xs ++ ys))
 | _, _, _ => False
theorem pu_add : PuOp X (binaryOp .Add) pAdd := ⟨_, op_add.or (op_add_str.or (op_catG.or op_catL)), fun x y T U H Q QQ vx vy h k => by
 unfold pAdd at h
 split at h
 ·obtain ⟨rfl, _⟩ := vx.leafI
  obtain ⟨rfl, _⟩ := vy.leafI
  exact .inl ⟨_, _, rfl, rfl, k _ _ _ (.flat rfl) h⟩
 ·obtain ⟨rfl, _⟩ := vx.leafI
  obtain ⟨rfl, _⟩ := vy.leafI
  exact .inr (.inl ⟨_, _, rfl, rfl, line_of h.1, k _ _ _ (.flat rfl) h.2⟩)
 ·obtain ⟨a, xs, rfl, hs, z, p⟩ := vx.seqI
  obtain ⟨b, ys, rfl, hs', z', p'⟩ := vy.seqI
  have l1 : xs.length = _ := Paired.length p
  have l2 : ys.length = _ := Paired.length p'
  refine .inr (.inr (.inl ⟨a, b, xs, ys, rfl, rfl, hs, hs', line_of (by omega), fun r H' hr sm => k _ _ _ ⟨sm, .inl (VA.seq (t := true) hr (by rw [List.length_append]; exact h.1) (paired_app (p.hs sm.hs) (p'.hs sm.hs)))⟩ h.2⟩))
 ·obtain ⟨a, xs, rfl, ⟨ob, hs⟩, z, p⟩ := vx.seqI
  obtain ⟨b, ys, rfl, ⟨ob', hs'⟩, z', p'⟩ := vy.seqI
  have l1 : xs.length = _ := Paired.length p
  have l2 : ys.length = _ := Paired.length p'
  refine .inr (.inr (.inr ⟨a, b, xs, ys, rfl, rfl, .inr ⟨ob, hs⟩, .inr ⟨ob', hs'⟩, line_of (by omega), fun r n => k _ _ _ (Raw.lst n (by rw [List.length_append]; exact h.1) (paired_app p p')) h.2⟩))
 ·exact False.elim h⟩
def pI2 (C : Int -> Int -> Prop) (g : Int -> Int -> V) : P2
 | .leaf (.int i), .leaf (.int j), Q => C i j /\ Q (.leaf (g i j))
 | _, _, _ => False
theorem pu_i2 {f : Value -> Value -> Sem Value} {C : Int -> Int -> Prop} {g : Int -> Int -> V} (h : OpR X f (rI C g)) (fl : ∀ i j, flatV (g i j) = true) : PuCmp X f (pI2 C g) := ⟨_, h, fun x y T U H Q QQ vx vy h k => by
 unfold pI2 at h
 split at h
 ·obtain ⟨rfl, _⟩ := vx.leafI
  obtain ⟨rfl, _⟩ := vy.leafI
  exact ⟨_, _, rfl, rfl, h.1, k _ _ _ (Same.refl _) (.flat (fl _ _)) h.2⟩
 ·exact False.elim h⟩
def pI20 (g : Int -> Int -> V) : P2
 | .leaf (.int i), .leaf (.int j), Q => Q (.leaf (g i j))
 | _, _, _ => False
theorem pu_i20 {f : Value -> Value -> Sem Value} {g : Int -> Int -> V} (h : OpR X f (rI0 g)) (fl : ∀ i j, flatV (g i j) = true) : PuCmp X f (pI20 g) := ⟨_, h, fun x y T U H Q QQ vx vy h k => by
 unfold pI20 at h
 split at h
 ·obtain ⟨rfl, _⟩ := vx.leafI
  obtain ⟨rfl, _⟩ := vy.leafI
  exact ⟨_, _, rfl, rfl, k _ _ _ (Same.refl _) (.flat (fl _ _)) h⟩
 ·exact False.elim h⟩
abbrev pSub : P2 := pI20 fun i j => .int (i - j)
theorem pu_sub : PuOp X (binaryOp .Sub) pSub := (pu_i20 op_sub fun _ _ => rfl).op
def MulOk (i j : Int) : Prop := CMul i j \/ (BigOk i /\ BigOk j)
def pMul : P2
 | .leaf (.int i), .leaf (.int j), Q => MulOk i j /\ Q (iT (i * j))
 | .leaf (.str z), .leaf (.int n), Q => (z.length <= 1000 /\ n <= 1000 /\ -1000 <= n) /\ Q (sT (repS z n))
 | _, _, _ => False
theorem pu_mul : PuOp X (binaryOp .Mult) pMul := ⟨_, op_mul.or (op_mulB.or op_mulS), fun x y T U H Q QQ vx vy h k => by
 unfold pMul at h
 split at h
 ·obtain ⟨rfl, _⟩ := vx.leafI
  obtain ⟨rfl, _⟩ := vy.leafI
  rcases h.1 with c | c
  ·exact .inl ⟨_, _, rfl, rfl, c, k _ _ _ (.flat rfl) h.2⟩
  ·exact .inr (.inl ⟨_, _, rfl, rfl, c, k _ _ _ (.flat rfl) h.2⟩)
 ·obtain ⟨rfl, _⟩ := vx.leafI
  obtain ⟨rfl, _⟩ := vy.leafI
  exact .inr (.inr ⟨_, _, rfl, rfl, h.1.1, h.1.2.1, h.1.2.2, k _ _ _ (.flat rfl) h.2⟩)
 ·exact False.elim h⟩
abbrev pFdiv : P2 := pI2 (fun _ j => 0 < j /\ BigOk j) fun i j => .int (i / j)
theorem pu_fdiv : PuOp X (binaryOp .FloorDiv) pFdiv := (pu_i2 op_fdivL fun _ _ => rfl).op
abbrev pMod : P2 := pI2 (fun _ j => 0 < j) fun i j => .int (i % j)
theorem pu_mod : PuOp X (binaryOp .Mod) pMod := (pu_i2 op_mod fun _ _ => rfl).op
abbrev pPow : P2 := pI2 CPow fun i j => .int (i ^ j.toNat)
theorem pu_pow : PuOp X (binaryOp .Pow) pPow := (pu_i2 op_pow fun _ _ => rfl).op
def pLt : P2
 | .leaf (.int i), .leaf (.int j), Q => Q (bT (decide (i < j)))
 | .leaf (.str x), .leaf (.str y), Q => Q (bT (decide (x.cps.toList < y.cps.toList)))
 | _, _, _ => False
theorem pu_lt : PuCmp X (compareOp .Lt) pLt := ⟨_, op_lt.or op_lt_str, fun x y T U H Q QQ vx vy h k => by
 unfold pLt at h
 split at h
 ·obtain ⟨rfl, _⟩ := vx.leafI
  obtain ⟨rfl, _⟩ := vy.leafI
  exact .inl ⟨_, _, rfl, rfl, k _ _ _ (Same.refl _) (.flat rfl) h⟩
 ·obtain ⟨rfl, _⟩ := vx.leafI
  obtain ⟨rfl, _⟩ := vy.leafI
  exact .inr ⟨_, _, rfl, rfl, k _ _ _ (Same.refl _) (.flat rfl) h⟩
 ·exact False.elim h⟩
abbrev pGt : P2 := pI20 fun i j => .bl (decide (j < i))
theorem pu_gt : PuCmp X (compareOp .Gt) pGt := pu_i20 op_gt fun _ _ => rfl
def isV (v : V) : Tv -> Bool
 | .leaf w => decide (w = v)
 | _ => false
theorem isV_of {K : PySem.W.Frag} {H : Hp} {x v : V} {T : Tv} (f : flatV v = true) (h : VA K H x T) : decide (x = v) = isV v T := by
 cases T with
 | leaf w => obtain ⟨rfl, _⟩ := h.leafI; rfl
 | seq t Ts =>
  obtain ⟨a, _, rfl, _⟩ := h.seqI
  exact decide_eq_false (fun z => by rw [<- z] at f; cases f)
 | dct kts =>
  obtain ⟨a, _, rfl, _⟩ := h.dctI
  exact decide_eq_false (fun z => by rw [<- z] at f; cases f)
def pIsB (neg : Bool) : P2
 | T, .leaf .non, Q => Q (bT (neg != isV .non T))
 | T, .leaf (.bl b), Q => Q (bT (neg != isV (.bl b) T))
 | _, _, _ => False
abbrev pIs : P2 := pIsB false
theorem pu_is : PuCmp X (compareOp .Is) pIs := ⟨_, op_isN.or op_isB, fun x y T U H Q QQ vx vy h k => by
 unfold pIs pIsB at h
 split at h
 ·obtain ⟨rfl, _⟩ := vy.leafI
  exact .inl ⟨rfl, k _ _ _ (Same.refl _) (.flat rfl) (by rw [isV_of rfl vx]; simpa using h)⟩
 ·obtain ⟨rfl, _⟩ := vy.leafI
  exact .inr ⟨_, rfl, k _ _ _ (Same.refl _) (.flat rfl) (by rw [isV_of rfl vx]; simpa using h)⟩
 ·exact False.elim h⟩
theorem vp_inj {pins : List (Addr × Obj)} {σ : St} {H : Hp} {s : Shared} (I : Inv X pins σ H s) : ∀ {n : Nat} {x : V} {T U : Tv}, EqD n T -> EqD n U -> VP X.K H n x T -> VP X.K H n x U -> T = U
 | 0, _, _, _, h, _, _, _ => False.elim h
 | n + 1, x, T, U, d, d', h, h' => by
  rcases h with ⟨f, rfl⟩ | ⟨t, a, xs, Ts, rfl, e2, rfl, z, p⟩ | ⟨a, kvs, kts, rfl, e2, rfl, _⟩
  ·rcases h' with ⟨_, rfl⟩ | ⟨t', a', xs', Ts', rfl, _⟩ | ⟨a', kvs', kts', rfl, _⟩
   ·rfl
   ·cases f
   ·cases f
  ·rcases h' with ⟨f, rfl⟩ | ⟨t', a', xs', Ts', e1', e2', rfl, z', p'⟩ | ⟨a', kvs', kts', e1', e2', rfl, _⟩
   ·cases f
   ·cases e1'
    have tt : t = t' := by
     cases t <;> cases t' <;> first | rfl | skip
     ·obtain ⟨_, _, l1⟩ := PSeq.isList I e2
      obtain ⟨_, _, l2⟩ := PSeq.isTup I e2'
      exact absurd rfl (SeqAt.ne_of_list_tuple l1 l2)
     ·obtain ⟨_, _, l1⟩ := PSeq.isList I e2'
      obtain ⟨_, _, l2⟩ := PSeq.isTup I e2
      exact absurd rfl (SeqAt.ne_of_list_tuple l1 l2)
    subst tt
    have ex : xs = xs' := by
     cases t with
     | false => exact I.list_inj (seq_of e2) (seq_of e2')
     | true => exact I.tuple_inj e2 e2'
    subst ex
    have g : ∀ U ∈ Ts, EqD n U := d
    have g' : ∀ U ∈ Ts', EqD n U := d'
    have key : ∀ {xs : List V} {Ts Ts' : List Tv}, Paired (VP X.K H n) xs Ts -> Paired (VP X.K H n) xs Ts' -> (∀ U ∈ Ts, EqD n U) -> (∀ U ∈ Ts', EqD n U) -> Ts = Ts' := by
     intro xs Ts Ts' p
     induction p generalizing Ts' with
     | nil => intro p' _ _; cases p'; rfl
     | cons r _ ih =>
      intro p' d d'
      cases p' with
      | cons r' t' => rw [vp_inj I (d _ (.head _)) (d' _ (.head _)) r r', ih t' (fun U hU => d U (.tail _ hU)) (fun U hU => d' U (.tail _ hU))]
    rw [key p p' g g']
   ·exact False.elim d'
  ·exact False.elim d
def InOk (T : Tv) (Us : List Tv) : Prop := EqD 40 T /\ ∀ U ∈ Us, EqD 40 U
open Classical in
theorem in_items {pins : List (Addr × Obj)} {σ : St} {H : Hp} {s : Shared} (I : Inv X pins σ H s) (hu : X.A.units + 64 < cLine) {x : V} {T : Tv} {v : Value} {ys : List V} {Us : List Tv} {its : List Value} (vx : VA X.K H x T) (rx : RelV x v) (p : VAs X.K H ys Us) (r : Vals ys its) (ok : InOk T Us) :
  ∃ e : Value -> Bool, (∀ y, y ∈ its.toArray -> SeqAt.EqAt X.A.in1 s y v (e y)) /\ its.toArray.any e = Us.any fun U => eqT U T := by
 obtain ⟨dx, vx⟩ := vx
 have hx := ok.1.vp vx
 refine ⟨fun w => decide (∃ y U, RelV y w /\ VP X.K H 40 y U /\ EqD 40 U /\ eqT U T = true), fun w hw => ?_, ?_⟩
 ·have hw : w ∈ its := by simpa using hw
  obtain ⟨j, hj, rfl⟩ := List.mem_iff_getElem.mp hw
  have hj' : j < ys.length := by rw [r.length]; exact hj
  obtain ⟨u, eu, ru⟩ := r.get (List.getElem?_eq_getElem hj')
  rw [List.getElem?_eq_getElem hj] at eu
  cases eu
  obtain ⟨U, eU, d, vU⟩ := paired_get p (List.getElem?_eq_getElem hj')
  have dU := ok.2 U (List.mem_of_getElem? eU)
  have e := eq_tree I 40 (A := X.A.in1) (by show X.A.units + 1 + 40 < _; omega) dU ok.1 (dU.vp vU) hx ru rx
  have ee : decide (∃ y U, RelV y its[j] /\ VP X.K H 40 y U /\ EqD 40 U /\ eqT U T = true) = eqT U T := by
   rw [Bool.eq_iff_iff, decide_eq_true_iff]
   constructor
   ·rintro ⟨y, U', ry, vy, dy, z⟩
    have := RelV.inj ry ru
    subst this
    rw [vp_inj I dU dy (dU.vp vU) vy]
    exact z
   ·intro z
    exact ⟨_, U, ru, dU.vp vU, dU, z⟩
  show SeqAt.EqAt X.A.in1 s its[j] v (decide (∃ y U, RelV y its[j] /\ VP X.K H 40 y U /\ EqD 40 U /\ eqT U T = true))
  rw [ee]
  exact e
 ·rw [Bool.eq_iff_iff, Array.any_eq_true', List.any_eq_true]
  constructor
  ·rintro ⟨w, hw, z⟩
   rw [decide_eq_true_iff] at z
   obtain ⟨y, U', ry, vy, dy, z⟩ := z
   have hw : w ∈ its := by simpa using hw
   obtain ⟨j, hj, rfl⟩ := List.mem_iff_getElem.mp hw
   have hj' : j < ys.length := by rw [r.length]; exact hj
   obtain ⟨u, eu, ru⟩ := r.get (List.getElem?_eq_getElem hj')
   rw [List.getElem?_eq_getElem hj] at eu
   cases eu
   obtain ⟨U, eU, d, vU⟩ := paired_get p (List.getElem?_eq_getElem hj')
   have dU := ok.2 U (List.mem_of_getElem? eU)
   have := RelV.inj ry ru
   subst this
   refine ⟨U, List.mem_of_getElem? eU, ?_⟩
   rw [vp_inj I dU dy (dU.vp vU) vy]
   exact z
  ·rintro ⟨U, hU, z⟩
   obtain ⟨j, hj, rfl⟩ := List.mem_iff_getElem.mp hU
   obtain ⟨y, ey, d, vy⟩ := paired_getR p (List.getElem?_eq_getElem hj)
   obtain ⟨u, eu, ru⟩ := r.get ey
   have dU := ok.2 _ hU
   exact ⟨u, by simpa using List.mem_of_getElem? eu, decide_eq_true ⟨y, _, ru, dU.vp vy, dU, z⟩⟩
def rInP (K : PySem.W.Frag) (neg : Bool) : R2 := fun x y H Q => ∃ T t Us, VA K H x T /\ VA K H y (.seq t Us) /\ InOk T Us /\ Q (.bl (neg != Us.any fun U => eqT U T)) H
theorem op_inP (hu : X.A.units + 64 < cLine) : OpR X (compareOp .In) (rInP X.K false) := by
 rintro pins s σ H x y v u Q I rx ry ⟨T, t, Us, vx, vy, ok, q⟩
 obtain ⟨a, ys, rfl, hs, z, p⟩ := vy.seqI
 cases ry
 cases t with
 | false =>
  obtain ⟨its, r, l⟩ := PSeq.isList I hs
  obtain ⟨e, h1, h2⟩ := in_items I hu vx rx p r ok
  exact SeqAt.in_listAt e l h1 ⟨.bl _, H, I, rfl, by rw [h2]; simpa using q⟩
 | true =>
  obtain ⟨its, r, l⟩ := PSeq.isTup I hs
  obtain ⟨e, h1, h2⟩ := in_items I hu vx rx p r ok
  exact SeqAt.in_tupleAt e l h1 ⟨.bl _, H, I, rfl, by rw [h2]; simpa using q⟩
theorem op_notInP (hu : X.A.units + 64 < cLine) : OpR X (compareOp .NotIn) (rInP X.K true) := by
 rintro pins s σ H x y v u Q I rx ry ⟨T, t, Us, vx, vy, ok, q⟩
 obtain ⟨a, ys, rfl, hs, z, p⟩ := vy.seqI
 cases ry
 cases t with
 | false =>
  obtain ⟨its, r, l⟩ := PSeq.isList I hs
  obtain ⟨e, h1, h2⟩ := in_items I hu vx rx p r ok
  exact SeqAt.notIn_listAt e l h1 ⟨.bl _, H, I, rfl, by rw [h2]; simpa using q⟩
 | true =>
  obtain ⟨its, r, l⟩ := PSeq.isTup I hs
  obtain ⟨e, h1, h2⟩ := in_items I hu vx rx p r ok
  exact SeqAt.notIn_tupleAt e l h1 ⟨.bl _, H, I, rfl, by rw [h2]; simpa using q⟩
def rNotInD : R2 := fun y x H Q => ∃ a o, x = .ref a /\ DGet H a y o /\ Q (.bl (!o.isSome)) H
theorem op_notin_dict (hu : X.A.units + 1 < cLine) : OpR X (compareOp .NotIn) rNotInD := by
 rintro pins s σ H y _ u v Q I ry rx ⟨a, o, rfl, g, q⟩
 cases rx
 exact d_notIn hu I g ry fun s' I' => ⟨.bl _, H, I', rfl, q⟩
def inS (i j : Str) : Bool := !(Builtin.Str.occurrences j i 0 j.length 1).isEmpty
def pInB (neg : Bool) : P2
 | T, .seq _ Us, Q => InOk T Us /\ Q (bT (neg != Us.any fun U => eqT U T))
 | .leaf (.str i), .leaf (.str j), Q => Q (bT (neg != inS i j))
 | .leaf (.str k), .dct kts, Q => Q (bT (neg != (lookD kts k).isSome))
 | _, _, _ => False
abbrev pIn : P2 := pInB false
abbrev pNotIn : P2 := pInB true
theorem pu_in (hu : X.A.units + 64 < cLine) : PuCmp X (compareOp .In) pIn := ⟨_, (op_inP hu).or (op_in_str.or (op_in_dict (by omega))), fun x y T U H Q QQ vx vy h k => by
 unfold pIn pInB at h
 split at h
 ·exact .inl ⟨_, _, _, vx, vy, h.1, k _ _ _ (Same.refl _) (.flat rfl) h.2⟩
 ·obtain ⟨rfl, _⟩ := vx.leafI
  obtain ⟨rfl, _⟩ := vy.leafI
  exact .inr (.inl ⟨_, _, rfl, rfl, k _ _ _ (Same.refl _) (.flat rfl) (by simpa [inS] using h)⟩)
 ·rename_i kk kts
  obtain ⟨rfl, _⟩ := vx.leafI
  obtain ⟨a, kvs, rfl, ⟨ob, hd⟩, n, z, p⟩ := vy.dctI
  refine .inr (.inr ⟨a, _, rfl, .inl ⟨kvs, .inr kk, .inr ⟨ob, hd⟩, rfl, rfl⟩, k _ _ _ (Same.refl _) (.flat rfl) ?_⟩)
  rcases look_at p kk with ⟨e1, e2⟩ | ⟨U, v, e1, e2, _⟩
  ·rw [e2]; rw [e1] at h; exact h
  ·rw [e2]; rw [e1] at h; exact h
 ·exact False.elim h⟩
theorem pu_notin (hu : X.A.units + 64 < cLine) : PuCmp X (compareOp .NotIn) pNotIn := ⟨_, (op_notInP hu).or (op_notIn_str.or (op_notin_dict (by omega))), fun x y T U H Q QQ vx vy h k => by
 unfold pNotIn pInB at h
 split at h
 ·exact .inl ⟨_, _, _, vx, vy, h.1, k _ _ _ (Same.refl _) (.flat rfl) h.2⟩
 ·obtain ⟨rfl, _⟩ := vx.leafI
  obtain ⟨rfl, _⟩ := vy.leafI
  exact .inr (.inl ⟨_, _, rfl, rfl, k _ _ _ (Same.refl _) (.flat rfl) (by simpa [inS] using h)⟩)
 ·rename_i kk kts
  obtain ⟨rfl, _⟩ := vx.leafI
  obtain ⟨a, kvs, rfl, ⟨ob, hd⟩, n, z, p⟩ := vy.dctI
  refine .inr (.inr ⟨a, _, rfl, .inl ⟨kvs, .inr kk, .inr ⟨ob, hd⟩, rfl, rfl⟩, k _ _ _ (Same.refl _) (.flat rfl) ?_⟩)
  rcases look_at p kk with ⟨e1, e2⟩ | ⟨U, v, e1, e2, _⟩
  ·rw [e2]; rw [e1] at h; exact h
  ·rw [e2]; rw [e1] at h; exact h
 ·exact False.elim h⟩
def pIx : P2
 | .seq _ Ts, .leaf (.int i), Q => ∃ U, atI Ts i = some U /\ Q U
 | .leaf (.str z), .leaf (.int i), Q => z.length <= 100000 /\ ∃ c, atI z.cps.toList i = some c /\ Q (sT ⟨#[c]⟩)
 | .dct kts, .leaf (.str k), Q => ∃ U, lookD kts k = some U /\ Q U
 | _, _, _ => False
theorem atI_paired {α β : Type} {R : α -> β -> Prop} {xs : List α} {ys : List β} {i : Int} {y : β} (p : Paired R xs ys) (h : atI ys i = some y) : ∃ x, atI xs i = some x /\ R x y := by
 unfold atI at h ⊢
 rw [Paired.length p]
 cases e : ixN ys.length i with
 | none => rw [e] at h; cases h
 | some j =>
  rw [e] at h
  obtain ⟨x, ex, r⟩ := paired_getR p (show ys[j]? = some y from h)
  exact ⟨x, ex, r⟩
theorem pu_ix (hu : X.A.units + 64 < cLine) : PuIx X pIx := ⟨_, ix_seq.or (ix_dict (by omega)), fun x y T U H Q QQ vx vy h k => by
 unfold pIx at h
 split at h
 ·rename_i t Ts i
  obtain ⟨rfl, _⟩ := vy.leafI
  obtain ⟨a, xs, rfl, hs, z, p⟩ := vx.seqI
  obtain ⟨U, e, q⟩ := h
  obtain ⟨x, ex, v⟩ := atI_paired p e
  cases t with
  | false => exact .inl (.inl ⟨a, xs, i, x, rfl, rfl, seq_of hs, ex, k _ _ _ (.va v) q⟩)
  | true => exact .inl (.inr (.inl ⟨a, xs, i, x, rfl, rfl, hs, ex, k _ _ _ (.va v) q⟩))
 ·obtain ⟨rfl, _⟩ := vx.leafI
  obtain ⟨rfl, _⟩ := vy.leafI
  obtain ⟨l, c, e, q⟩ := h
  exact .inl (.inr (.inr ⟨_, _, c, rfl, rfl, line_of l, e, k _ _ _ (.flat rfl) q⟩))
 ·rename_i kts kk
  obtain ⟨rfl, _⟩ := vy.leafI
  obtain ⟨a, kvs, rfl, ⟨ob, hd⟩, n, z, p⟩ := vx.dctI
  obtain ⟨U, e, q⟩ := h
  rcases look_at p kk with ⟨e1, e2⟩ | ⟨U', v, e1, e2, vv⟩
  ·rw [e1] at e; cases e
  ·rw [e1] at e; cases e
   exact .inr ⟨a, v, rfl, .inl ⟨kvs, .inr kk, .inr ⟨ob, hd⟩, rfl, e2.symm⟩, k _ _ _ (.va vv) q⟩
 ·exact False.elim h⟩
def cutT {α : Type} (xs : List α) (lo hi : Option Int) : List α := (xs.drop (HT.sIx xs.length 0 lo)).take (HT.sIx xs.length xs.length hi - HT.sIx xs.length 0 lo)
theorem paired_drop {α β : Type} {R : α -> β -> Prop} : ∀ {l : List α} {m : List β} (n : Nat), Paired R l m -> Paired R (l.drop n) (m.drop n)
 | _, _, 0, p => p
 | _, _, _ + 1, .nil => .nil
 | _, _, n + 1, .cons _ t => paired_drop n t
theorem paired_tk {α β : Type} {R : α -> β -> Prop} : ∀ {l : List α} {m : List β} (n : Nat), Paired R l m -> Paired R (l.take n) (m.take n)
 | _, _, 0, p => by rw [List.take_zero, List.take_zero]; exact .nil
 | _, _, _ + 1, .nil => .nil
 | _, _, n + 1, .cons r t => .cons r (paired_tk n t)
theorem paired_cut {α β : Type} {R : α -> β -> Prop} {l : List α} {m : List β} (lo hi : Option Int) (p : Paired R l m) : Paired R (cutT l lo hi) (cutT m lo hi) := by
 unfold cutT
 rw [Paired.length p]
 exact paired_tk _ (paired_drop _ p)
theorem cutT_len {α : Type} (xs : List α) (lo hi : Option Int) : (cutT xs lo hi).length <= xs.length := by
 unfold cutT
 rw [List.length_take, List.length_drop]
 omega
def pSlc : PSl
 | .seq t Ts, lo, hi, Q => Q (.seq t (cutT Ts lo hi))
 | .leaf (.str z), lo, hi, Q => z.length <= 100000 /\ Q (sT (Txt.slice z lo hi))
 | _, _, _, _ => False
theorem pu_sl : PuSl X pSlc := ⟨_, sl_list.or (sl_tupW.or sl_str), fun x T lo hi H Q QQ vx h k => by
 cases T with
 | seq t Ts =>
  have h : Q (.seq t (cutT Ts lo hi)) := h
  obtain ⟨a, xs, rfl, hs, z, p⟩ := vx.seqI
  have z' : (cutT Ts lo hi).length <= 100000 := Nat.le_trans (cutT_len _ _ _) z
  cases t with
  | false => exact .inl ⟨a, xs, rfl, seq_of hs, fun r n => k _ _ _ (Raw.lst n z' (paired_cut lo hi p)) h⟩
  | true => exact .inr (.inl ⟨a, xs, rfl, hs, fun r H' sm hr => k _ _ _ ⟨sm, .inl (VA.seq (t := true) hr z' (Paired.mapP (paired_cut lo hi p) fun _ _ q => VA.hs sm.hs q))⟩ h⟩)
 | leaf w =>
  cases w with
  | str zz =>
   have h : zz.length <= 100000 /\ Q (sT (Txt.slice zz lo hi)) := h
   obtain ⟨rfl, _⟩ := vx.leafI
   exact .inr (.inr ⟨_, rfl, line_of h.1, k _ _ _ (.flat rfl) h.2⟩)
  | _ => exact False.elim h
 | dct kts => exact False.elim h⟩
def pLen : Pn
 | [.seq _ Ts], Q => Q (iT Ts.length)
 | [.leaf (.str z)], Q => z.length <= 100000 /\ Q (iT z.length)
 | [.dct kts], Q => Q (iT kts.length)
 | _, _ => False
theorem pu_len : PuCall X (.builtin "len") pLen := ⟨_, call_len_seq.or (call_len_str.or call_lenDK), fun xs Ts H Q QQ vx h k => by
 unfold pLen at h
 split at h
 ·rename_i t Ts
  obtain ⟨x, rfl, v⟩ := vas1 vx
  obtain ⟨a, xs, rfl, hs, z, p⟩ := v.seqI
  have l : xs.length = _ := Paired.length p
  refine .inl ⟨a, xs, rfl, ?_, k _ _ _ (.flat rfl) (by rw [l]; exact h)⟩
  cases t with
  | false => exact .inl (seq_of hs)
  | true => exact .inr hs
 ·obtain ⟨x, rfl, v⟩ := vas1 vx
  obtain ⟨rfl, _⟩ := v.leafI
  exact .inr (.inl ⟨_, rfl, line_of h.1, k _ _ _ (.flat rfl) h.2⟩)
 ·obtain ⟨x, rfl, v⟩ := vas1 vx
  obtain ⟨a, kvs, rfl, ⟨ob, hd⟩, n, z, p⟩ := v.dctI
  have l : kvs.length = _ := Paired.length p
  exact .inr (.inr ⟨a, kvs, rfl, .inr ⟨ob, hd⟩, k _ _ _ (.flat rfl) (by rw [l]; exact h)⟩)
 ·exact False.elim h⟩
def isiT (T : String) : Tv -> Bool
 | .leaf .non => false
 | .leaf (.bl _) => T == "bool" || T == "int"
 | .leaf (.int _) => T == "int"
 | .leaf (.str _) => T == "str"
 | .leaf _ => false
 | .seq false _ => T == "list"
 | .seq true _ => T == "tuple"
 | .dct _ => T == "dict"
theorem ty_of {K : PySem.W.Frag} {H : Hp} {x : V} {W : Tv} (T : String) (v : VA K H x W) : TyV K T x H (isiT T W) := by
 cases W with
 | leaf w =>
  obtain ⟨rfl, f⟩ := v.leafI
  rcases flat_cases f with rfl | ⟨b, rfl⟩ | ⟨b, rfl⟩ | ⟨b, rfl⟩ <;> rfl
 | seq t Ts =>
  obtain ⟨a, xs, rfl, hs, z, p⟩ := v.seqI
  cases t with
  | false => exact .inl ⟨xs, seq_of hs, rfl⟩
  | true => exact .inr (.inl ⟨xs, hs, rfl⟩)
 | dct kts =>
  obtain ⟨a, kvs, rfl, ⟨ob, hd⟩, n, z, p⟩ := v.dctI
  exact .inr (.inr ⟨kvs, .inr ⟨ob, hd⟩, rfl⟩)
def uIsi (T : String) (u : UT) : UT := fun ρ Q => u ρ fun W ρ1 => Q (bT (isiT T W)) ρ1
theorem ue_isi {e t : Expr} {u : UT} {p pos : Pos} (T : String) (hc : CallR X (.builtin "isinstance") (fun xs H Q => ∃ x b, xs = [x, .ty T] /\ TyV X.K T x H b /\ Q (.bl b) H)) (hg : Gl X "isinstance") (hm : X.mg "isinstance" = none) (he : UE X F e u) (ht : PE X t (tC (.ty T)))
  (h1 : isStar e = false := by rfl) (h2 : isStar t = false := by rfl) (hpl : (backTo pos (starEach [t] X.env)).any (·.1) = false := by rfl) : UE X F (.Call (.Name "isinstance" p) [e, t] [] pos) (uIsi T u) :=
 ⟨PE.imp (pe_callB hc hg hm boot_isinstance (pa_c he.pe (pa_c ht pa_nil h2) h1) (by decide) (by decide) (star_cons h1) hpl) fun σ H QQ ⟨ρ, Q, f, h, k⟩ =>
  ⟨ρ, _, f, h, fun x W H1 ρ1 s1 v1 q1 => ⟨x, _, rfl, ty_of T v1, k _ _ _ _ s1 (.flat rfl) q1⟩⟩⟩
theorem vals_bl {K : PySem.W.Frag} {H : Hp} : ∀ {xs : List V} {bs : List Bool}, VAs K H xs (bs.map bT) -> xs = bs.map V.bl
 | [], [], _ => rfl
 | _ :: _, _ :: _, .cons r t => by rw [List.map_cons, <- vals_bl t, (VA.leafI r).1]
theorem vals_int {K : PySem.W.Frag} {H : Hp} : ∀ {xs : List V} {ns : List Int}, VAs K H xs (ns.map iT) -> xs = ns.map V.int
 | [], [], _ => rfl
 | _ :: _, _ :: _, .cons r t => by rw [List.map_cons, <- vals_int t, (VA.leafI r).1]
theorem vals_str {K : PySem.W.Frag} {H : Hp} : ∀ {xs : List V} {ss : List Str}, VAs K H xs (ss.map sT) -> xs = ss.map V.str
 | [], [], _ => rfl
 | _ :: _, _ :: _, .cons r t => by rw [List.map_cons, <- vals_str t, (VA.leafI r).1]
theorem vas_int {K : PySem.W.Frag} {H : Hp} : ∀ (ns : List Int), VAs K H (ns.map V.int) (ns.map iT)
 | [] => .nil
 | _ :: ns => .cons (.flat rfl) (vas_int ns)
theorem vas_str {K : PySem.W.Frag} {H : Hp} : ∀ (ss : List Str), VAs K H (ss.map V.str) (ss.map sT)
 | [] => .nil
 | _ :: ss => .cons (.flat rfl) (vas_str ss)
def pAll : Pn := fun Ts Q => ∃ bs : List Bool, Ts = [.seq false (bs.map bT)] /\ Q (bT (bs.all id))
theorem pu_all (hc : X.calm = true) : PuCall X (.builtin "all") pAll := ⟨_, call_allL hc, fun xs Ts H Q QQ vx h k => by
 obtain ⟨bs, rfl, q⟩ := h
 obtain ⟨x, rfl, v⟩ := vas1 vx
 obtain ⟨a, ys, rfl, hs, z, p⟩ := v.seqI
 rw [vals_bl p] at hs
 exact ⟨a, bs, rfl, seq_of hs, k _ _ _ (.flat rfl) q⟩⟩
def pMax : Pn := fun Ts Q => (∃ i j : Int, Ts = [iT i, iT j] /\ Q (iT (max i j))) \/ (∃ ns : List Int, Ts = [.seq false (ns.map iT)] /\ 0 < ns.length /\ ∀ M, M ∈ ns -> (∀ a ∈ ns, a <= M) -> Q (iT M)) \/
 ∃ ss : List Str, Ts = [.seq false (ss.map sT)] /\ 0 < ss.length /\ ∀ x, x ∈ ss -> (∀ y ∈ ss, y.cps.toList <= x.cps.toList) -> Q (sT x)
theorem pu_max (hc : X.calm = true) : PuCall X (.builtin "max") pMax := ⟨_, (call_max2 hc).or ((call_max1 hc).or (call_max1S hc)), fun xs Ts H Q QQ vx h k => by
 rcases h with ⟨i, j, rfl, q⟩ | ⟨ns, rfl, l, q⟩ | ⟨ss, rfl, l, q⟩
 ·obtain ⟨x, y, rfl, v, v'⟩ := vas2 vx
  obtain ⟨rfl, _⟩ := v.leafI
  obtain ⟨rfl, _⟩ := v'.leafI
  refine .inl ⟨i, j, rfl, k _ _ _ (.flat rfl) ?_⟩
  have e : (if j > i then j else i) = max i j := by split <;> omega
  rw [e]; exact q
 ·obtain ⟨x, rfl, v⟩ := vas1 vx
  obtain ⟨a, ys, rfl, hs, z, p⟩ := v.seqI
  rw [vals_int p] at hs
  exact .inr (.inl ⟨a, ns, rfl, seq_of hs, l, fun M h1 h2 => k _ _ _ (.flat rfl) (q M h1 h2)⟩)
 ·obtain ⟨x, rfl, v⟩ := vas1 vx
  obtain ⟨a, ys, rfl, hs, z, p⟩ := v.seqI
  rw [vals_str p] at hs
  exact .inr (.inr ⟨a, ss, rfl, seq_of hs, l, fun M h1 h2 => k _ _ _ (.flat rfl) (q M h1 h2)⟩)⟩
def pListOf : List Tv -> (List Tv -> Prop) -> Prop := fun Ts Q => ∃ t Us, Ts = [.seq t Us] /\ Q Us
theorem pu_listOf : PuCallL X (.type "list") pListOf := ⟨_, call_list_of, fun xs Ts H Q QQ vx h k => by
 obtain ⟨t, Us, rfl, q⟩ := h
 obtain ⟨x, rfl, v⟩ := vas1 vx
 obtain ⟨a, ys, rfl, hs, z, p⟩ := v.seqI
 refine ⟨a, ys, rfl, ?_, fun l n => k l ys Us _ (same_new n) n upd_same z (VAs.hs (hs_new n) p) q⟩
 cases t with
 | false => exact .inl (seq_of hs)
 | true => exact .inr hs⟩
def pSorted : List Tv -> (List Tv -> Prop) -> Prop := fun Ts Q => (∃ ns : List Int, Ts = [.seq false (ns.map iT)] /\ ns.length < 64 /\ ∀ ms : List Int, ms.Perm ns -> ms.Pairwise (· <= ·) -> Q (ms.map iT)) \/
 (∃ ss : List Str, Ts = [.seq false (ss.map sT)] /\ ss.length < 64 /\ Q ((sortS ss).map sT)) \/ ∃ kts, Ts = [.dct kts] /\ Q ((sortS (kts.map (·.1))).map sT)
theorem vak_keys {K : PySem.W.Frag} {H : Hp} {kvs : List (Key × V)} {kts : List (Str × Tv)} (p : VAk K H kvs kts) : kvs.map (·.1) = (kts.map (·.1)).map Sum.inr := by
 unfold VAk at p
 induction p with
 | nil => rfl
 | cons r _ ih => rw [List.map_cons, List.map_cons, List.map_cons, ih, r.1]
theorem sortS_len (us : List Str) : (sortS us).length = us.length := (sortS_perm us).length_eq
theorem pu_sorted (hc : X.calm = true) : PuCallL X (.builtin "sorted") pSorted := ⟨_, call_sortedI.or (call_sortedS.or (call_sortedD hc)), fun xs Ts H Q QQ vx h k => by
 rcases h with ⟨ns, rfl, l, q⟩ | ⟨ss, rfl, l, q⟩ | ⟨kts, rfl, q⟩
 ·obtain ⟨x, rfl, v⟩ := vas1 vx
  obtain ⟨a, ys, rfl, hs, z, p⟩ := v.seqI
  rw [vals_int p] at hs
  refine .inl ⟨a, ns, rfl, seq_of hs, l, fun ms b h1 h2 n => k b _ _ _ (same_new n) n upd_same (by rw [List.length_map, h1.length_eq]; omega) (vas_int ms) (q ms h1 h2)⟩
 ·obtain ⟨x, rfl, v⟩ := vas1 vx
  obtain ⟨a, ys, rfl, hs, z, p⟩ := v.seqI
  rw [vals_str p] at hs
  refine .inr (.inl ⟨a, ss, rfl, seq_of hs, l, fun ms b h1 h2 n => k b _ _ _ (same_new n) n upd_same (by rw [List.length_map, h1.length_eq]; omega) (vas_str ms) (by rw [sortS_eq h1 h2]; exact q)⟩)
 ·obtain ⟨x, rfl, v⟩ := vas1 vx
  obtain ⟨a, kvs, rfl, ⟨ob, hd⟩, nd, z, p⟩ := v.dctI
  refine .inr (.inr ⟨a, ob, kvs, kts.map (·.1), rfl, hd, vak_keys p, by rw [List.length_map]; exact z, fun ms b h1 h2 n => k b _ _ _ (same_new n) n upd_same (by rw [List.length_map, h1.length_eq, List.length_map]; omega) (vas_str ms) (by rw [sortS_eq h1 h2]; exact q)⟩)⟩
def pInt : Pn
 | [.leaf (.int i)], Q => Q (iT i)
 | [.leaf (.bl b)], Q => Q (iT (if b then 1 else 0))
 | _, _ => False
theorem pu_int : PuCall X (.type "int") pInt := ⟨_, call_int1, fun xs Ts H Q QQ vx h k => by
 unfold pInt at h
 split at h
 ·obtain ⟨x, rfl, v⟩ := vas1 vx
  obtain ⟨rfl, _⟩ := v.leafI
  exact .inl ⟨_, rfl, k _ _ _ (.flat rfl) h⟩
 ·obtain ⟨x, rfl, v⟩ := vas1 vx
  obtain ⟨rfl, _⟩ := v.leafI
  exact .inr ⟨_, rfl, k _ _ _ (.flat rfl) h⟩
 ·exact False.elim h⟩
def pStr : Pn := fun Ts Q => ∃ i : Int, Ts = [iT i] /\ i.natAbs.log2 < 1920 /\ Q (sT (toString i))
theorem pu_str : PuCall X (.type "str") pStr := ⟨_, call_str_int, fun xs Ts H Q QQ vx h k => by
 obtain ⟨i, rfl, l, q⟩ := h
 obtain ⟨x, rfl, v⟩ := vas1 vx
 obtain ⟨rfl, _⟩ := v.leafI
 exact ⟨i, rfl, l, k _ _ _ (.flat rfl) q⟩⟩
def pOrd : Pn := fun Ts Q => ∃ z : Str, Ts = [sT z] /\ z.length = 1 /\ Q (iT (z.cps.getD 0 0 : Nat))
theorem pu_ord : PuCall X (.builtin "ord") pOrd := ⟨_, call_ord, fun xs Ts H Q QQ vx h k => by
 obtain ⟨z, rfl, l, q⟩ := h
 obtain ⟨x, rfl, v⟩ := vas1 vx
 obtain ⟨rfl, _⟩ := v.leafI
 exact ⟨z, rfl, l, k _ _ _ (.flat rfl) q⟩⟩
def uBM (T : String) (r : Tv -> List Tv -> (Tv -> Prop) -> Prop) (u : UT) (ua : UTa) : UT := fun ρ Q => u ρ fun W ρ1 => isiT T W = true /\ uVs ua ρ1 fun Ts ρ2 => r W Ts fun W' => Q W' ρ2
theorem tyV_str {K : PySem.W.Frag} {H : Hp} {x : V} {W : Tv} (v : VA K H x W) (h : isiT "str" W = true) : tyV K "str" x H := by
 cases W with
 | leaf w =>
  obtain ⟨rfl, f⟩ := v.leafI
  rcases flat_cases f with rfl | ⟨b, rfl⟩ | ⟨b, rfl⟩ | ⟨b, rfl⟩
  ·cases h
  ·cases h
  ·cases h
  ·rfl
 | seq t Ts => cases t <;> cases h
 | dct kts => cases h
theorem ue_bmS {name : Str} {id : String} {r : Tv -> List Tv -> (Tv -> Prop) -> Prop} {o e : Expr} {es : List Expr} {u : UT} {ua : UTa} {apos cpos : Pos} (slot : Slot "str" name id) (hty : typeOf (.builtin id) = pure (.type "method_descriptor"))
  (hm : ∃ r', MtR X id r' /\ ∀ x W xs Ts H Q (QQ : VK), VA X.K H x W -> VAs X.K H xs Ts -> r W Ts Q -> (∀ z W H', Raw X.K H H' z W -> Q W -> QQ z H') -> r' x xs H QQ) (ho : UE X F o u) (ha : UA X F (e :: es) ua)
  (hbase : attributeBase o name X.env (eval o X.env) = eval o X.env := by rfl)
  (hfew : ((backTo cpos (starEach (e :: es) X.env)).all (fun x => !x.1) && (backToKw cpos (keywordEach [] X.env)).all (fun x => x.1.isSome) && decide ((e :: es).length + ([] : List Keyword).length + (if ([] : List Keyword).isEmpty then 0 else 1) < 30)) = true := by rfl)
  (hline : (apos.endLine == cpos.line) = true := by rfl) (hs : starEach (e :: es) X.env = (false, eval e X.env) :: starEach es X.env := by rfl) (hplain : (backTo cpos (starEach es X.env)).any (·.1) = false := by rfl) :
  UE X F (.Call (.Attribute o name apos) (e :: es) [] cpos) (uBM "str" r u ua) := by
 obtain ⟨r', m, hr⟩ := hm
 refine ⟨PE.imp (PE.fz (pe_bm PySem.F.plainAttrs_str slot hty m ho.pe ha.pa hbase hfew hline hs hplain)) fun σ H QQ ⟨ρ, Q, f, h, k⟩ => ⟨ρ, _, f, h, fun x W H1 ρ1 s1 v1 q1 => ⟨tyV_str v1 q1.1, ρ1, _, s1.fr, q1.2, fun xs as H2 ρ2 s2 p2 q2 => ?_⟩⟩⟩
 obtain ⟨Ts, rfl, q⟩ := vsK_ex q2
 exact hr x W xs Ts H2 _ _ (v1.hs (s2.hs s1.fr)) (vas_of p2) q fun z W' H' rw q => rw.fin s2.fr fun H'' s4 v4 => k _ _ _ _ ((s1.trans s2).trans s4) v4 q
def pFind : Tv -> List Tv -> (Tv -> Prop) -> Prop := fun W Ts Q => ∃ i j : Str, W = sT i /\ Ts = [sT j] /\ ∀ n : Int, Q (iT n)
theorem pm_find : ∃ r', MtR X "str.find" r' /\ ∀ x W xs Ts H Q (QQ : VK), VA X.K H x W -> VAs X.K H xs Ts -> pFind W Ts Q -> (∀ z W H', Raw X.K H H' z W -> Q W -> QQ z H') -> r' x xs H QQ := ⟨_, mt_find, fun x W xs Ts H Q QQ v p h k => by
 obtain ⟨i, j, rfl, rfl, q⟩ := h
 obtain ⟨rfl, _⟩ := v.leafI
 obtain ⟨y, rfl, v'⟩ := vas1 p
 obtain ⟨rfl, _⟩ := v'.leafI
 exact ⟨i, j, rfl, rfl, fun n => k _ _ _ (.flat rfl) (q n)⟩⟩
def pJoin : Tv -> List Tv -> (Tv -> Prop) -> Prop := fun W Ts Q => ∃ ss : List Str, W = sT ⟨#[]⟩ /\ Ts = [.seq false (ss.map sT)] /\ (catS ss).length <= 100000 /\ Q (sT ⟨(catS ss).toArray⟩)
theorem pm_join : ∃ r', MtR X "str.join" r' /\ ∀ x W xs Ts H Q (QQ : VK), VA X.K H x W -> VAs X.K H xs Ts -> pJoin W Ts Q -> (∀ z W H', Raw X.K H H' z W -> Q W -> QQ z H') -> r' x xs H QQ := ⟨_, mt_join, fun x W xs Ts H Q QQ v p h k => by
 obtain ⟨ss, rfl, rfl, l, q⟩ := h
 obtain ⟨rfl, _⟩ := v.leafI
 obtain ⟨y, rfl, v'⟩ := vas1 p
 obtain ⟨a, ys, rfl, hs, z, p'⟩ := v'.seqI
 rw [vals_str p'] at hs
 refine ⟨a, ss, rfl, rfl, seq_of hs, l, fun z e => k _ _ _ (.flat rfl) ?_⟩
 have : z = ⟨(catS ss).toArray⟩ := by
  cases z with
  | mk c => congr 1; have e : c.toList = catS ss := e; rw [<- e]
 rw [this]; exact q⟩
end
end L2
namespace L2
open PySem PySem.Spec PyProof.Rows WordM
section
variable {X : Cx} {F : Fm} {pos : Pos}
def GlobT (K : PySem.W.Frag) (mg : Str -> Option Value) (x : Str) (T : Tv) : Prop := ∃ v u, mg x = some u /\ RelV v u /\ ∀ H, VA K H v T
theorem ue_gl {x : Str} {T : Tv} (G : GlobT X.K X.mg x T) (hg : Gl X x) (hd : (x == ("__debug__" : Str)) = false := by decide) : UE X F (.Name x pos) (uC T) := by
 obtain ⟨v, u, m, r, h⟩ := G
 exact ue_glob hg m r h hd
end
def compS (own : Nat) (fr : List Nat) (g : UG) (tf : UTt) (ue : UT) (T : Tv) (ρ : PEnv) (R : Option Tv -> PEnv -> Prop) : Prop := g T (blk own fr ρ) fun ρ1 => tf ρ1 fun b ρ2 => if b = true then ue ρ2 fun U ρ3 => R (some U) (bck own fr ρ ρ3) else R none (bck own fr ρ ρ2)
section
variable {own : Nat} {fr : List Nat} {g : UG} {tf : UTt} {ue : UT}
def compK (own : Nat) (fr : List Nat) (g : UG) (tf : UTt) (ue : UT) (Ts : List Tv) (Q : List Tv -> PEnv -> Prop) (o : Option Tv) (ρ : PEnv) : Prop := match o with
 | some U => compT own fr g tf ue Ts ρ fun Us ρ4 => Q (U :: Us) ρ4
 | none => compT own fr g tf ue Ts ρ Q
theorem compT_cons (T : Tv) (Ts : List Tv) (ρ : PEnv) (Q : List Tv -> PEnv -> Prop) : compT own fr g tf ue (T :: Ts) ρ Q = compS own fr g tf ue T ρ (compK own fr g tf ue Ts Q) := rfl
theorem compT_fm {ρ : PEnv} (f : Tv -> Option Tv) : ∀ {Ts : List Tv} {Q : List Tv -> PEnv -> Prop}, (∀ T ∈ Ts, ∀ R : Option Tv -> PEnv -> Prop, R (f T) ρ -> compS own fr g tf ue T ρ R) -> Q (Ts.filterMap f) ρ -> compT own fr g tf ue Ts ρ Q
 | [], _, _, q => q
 | T :: Ts, Q, h, q => by
  rw [compT_cons]
  refine h T (.head _) _ ?_
  rw [List.filterMap_cons] at q
  cases e : f T with
  | none => rw [e] at q; exact compT_fm f (fun T' hT' => h T' (.tail _ hT')) q
  | some U => rw [e] at q; exact compT_fm (Q := fun Us ρ4 => Q (U :: Us) ρ4) f (fun T' hT' => h T' (.tail _ hT')) q
theorem compT_map {ρ : PEnv} (f : Tv -> Tv) {Ts : List Tv} {Q : List Tv -> PEnv -> Prop} (h : ∀ T ∈ Ts, ∀ R : Option Tv -> PEnv -> Prop, R (some (f T)) ρ -> compS own fr g tf ue T ρ R) (q : Q (Ts.map f) ρ) : compT own fr g tf ue Ts ρ Q :=
 compT_fm (fun T => some (f T)) h (by rw [show Ts.filterMap (fun T => some (f T)) = Ts.map f from List.filterMap_eq_map' ▸ rfl]; exact q)
theorem forT_inv {g : UG} {ub : UTs} {Ts : List Tv} {P : PEnds} {ρ : PEnv} (J : Nat -> PEnv -> Prop) (h0 : J 0 ρ) (hs : ∀ i T ρ' (N : PEnv -> Prop), Ts[i]? = some T -> J i ρ' -> (∀ ρ'', J (i + 1) ρ'' -> N ρ'') -> g T ρ' fun ρ1 => ub { P with nx := N, ct := N, bk := P.nx } ρ1)
  (hd : ∀ ρ', J Ts.length ρ' -> P.nx ρ') : forT g ub Ts P ρ := by
 have key : ∀ (n i : Nat) (ρ : PEnv), n + i = Ts.length -> J i ρ -> forT g ub (Ts.drop i) P ρ := by
  intro n
  induction n with
  | zero =>
   intro i ρ e j
   have : i = Ts.length := by omega
   subst this
   rw [List.drop_length]
   exact hd ρ j
  | succ n ih =>
   intro i ρ e j
   have hi : i < Ts.length := by omega
   rw [List.drop_eq_getElem_cons hi]
   exact hs i _ ρ (fun ρ' => forT g ub (Ts.drop (i + 1)) P ρ') (List.getElem?_eq_getElem hi) j fun ρ'' j' => ih (i + 1) ρ'' (by omega) j'
 exact key Ts.length 0 ρ (by omega) h0
end
end L2
namespace L2
open PySem PySem.Spec PyProof.Rows WordM
def ptTake : PSp := fun as R => ∃ m : Int, as = [.dk, .va (iT m)] /\ 0 < m /\ BigOk m /\ ∀ r : Int, 0 <= r -> r < m -> R (iT r)
theorem On.kp {p c : Addr} {H H' : Hp} (o : On p c H H') : Kp (some (p, c)) none H H' := ⟨fun b u e n _ => o.e b u e (n p c rfl).1 (n p c rfl).2, fun p' c' e => by cases e; exact o.d, fun _ _ z => (nomatch z)⟩
theorem Good.take {P : Program} {w : World} {K : PySem.W.Frag} {mg : Str -> Option Value} {base : Heap} {k : Nat} {x : Str} {ps : List Str} (G : Good P w K mg base k x ps spTake) : PGood P w K mg base k x ps ptTake := Good.imp G fun vs H Q E ⟨dk, as, R, d, p, ⟨m, e, hm, hb, q⟩, kk⟩ => by
 subst e
 cases p with
 | cons r1 t1 =>
  cases t1 with
  | cons r2 t2 =>
   cases t2
   obtain ⟨p, c, ed, rfl⟩ := r1
   subst ed
   obtain ⟨rfl, _⟩ := VA.leafI r2
   exact ⟨p, c, m, rfl, d p c rfl, hm, hb, fun r H' h1 h2 o => kk _ _ _ o.kp (.flat rfl) (q r h1 h2)⟩
theorem us_never {X : Cx} {F : Fm} {st : List Stmt} : USs X F st (fun _ _ => False) := ⟨PSs.imp pss_never fun D σ H ⟨_, _, _, h, _⟩ => h⟩
theorem Has.pfalse {P : Program} {w : World} {K : PySem.W.Frag} {mg : Str -> Option Value} {base : Heap} {x : Str} {st : Stmt} {N ps : List Str} {k : Nat} {psp : PSp} (h : Has K mg x st) (S : FnScope N ps (defScope st))
  (hb : ∀ (kV doc pm : Value) (an : Option Addr) (cdv ct : Value) (us : List Value), us.length = ps.length -> bindArgs (PySem.W.fnOf x x (defArgs st) (defBody st) (defScope st) .none kV doc pm an cdv ct) ⟨us, []⟩ = pure (ps.zip us)) (hf : ∀ as R, psp as R -> False) : PGood P w K mg base (k + 1) x ps psp :=
 h.pgood S hb (fun _ _ _ _ _ _ _ _ _ => us_never) fun as R q => (hf as R q).elim
theorem big_of {j : Int} (h1 : -(10 ^ 100) < j) (h2 : j < 10 ^ 100) : BigOk j := by
 unfold BigOk
 have : j.natAbs < 10 ^ 100 := by omega
 exact Nat.lt_trans this (by decide +kernel)
section
variable {own : Nat} {fr : List Nat} {g : UG} {tf : UTt} {ue : UT} {α : Type}
theorem compT_ofm {ρ : PEnv} (c : α -> Tv) (f : α -> Option Tv) : ∀ {l : List α} {Q : List Tv -> PEnv -> Prop}, (∀ a ∈ l, ∀ R : Option Tv -> PEnv -> Prop, R (f a) ρ -> compS own fr g tf ue (c a) ρ R) -> Q (l.filterMap f) ρ -> compT own fr g tf ue (l.map c) ρ Q
 | [], _, _, q => q
 | a :: l, Q, h, q => by
  rw [List.map_cons, compT_cons]
  refine h a (.head _) _ ?_
  rw [List.filterMap_cons] at q
  cases e : f a with
  | none => rw [e] at q; exact compT_ofm c f (fun b hb => h b (.tail _ hb)) q
  | some U => rw [e] at q; exact compT_ofm (Q := fun Us ρ4 => Q (U :: Us) ρ4) c f (fun b hb => h b (.tail _ hb)) q
theorem compT_of {ρ : PEnv} (c f : α -> Tv) {l : List α} {Q : List Tv -> PEnv -> Prop} (h : ∀ a ∈ l, ∀ R : Option Tv -> PEnv -> Prop, R (some (f a)) ρ -> compS own fr g tf ue (c a) ρ R) (q : Q (l.map f) ρ) : compT own fr g tf ue (l.map c) ρ Q :=
 compT_ofm c (fun a => some (f a)) h (by rw [show l.filterMap (fun a => some (f a)) = l.map f from List.filterMap_eq_map' ▸ rfl]; exact q)
theorem compT_rel {ρ : PEnv} (r : Tv -> Tv -> Prop) : ∀ {Ts : List Tv} {Q : List Tv -> PEnv -> Prop}, (∀ T ∈ Ts, ∀ R : Option Tv -> PEnv -> Prop, (∀ U, r T U -> R (some U) ρ) -> compS own fr g tf ue T ρ R) -> (∀ Us, Paired r Ts Us -> Q Us ρ) -> compT own fr g tf ue Ts ρ Q
 | [], _, _, q => q [] .nil
 | T :: Ts, Q, h, q => by
  rw [compT_cons]
  exact h T (.head _) _ fun U hU => compT_rel (Q := fun Us ρ4 => Q (U :: Us) ρ4) r (fun T' hT' => h T' (.tail _ hT')) fun Us p => q _ (.cons hU p)
theorem forT_of {g : UG} {ub : UTs} {P : PEnds} {ρ : PEnv} (c : α -> Tv) {l : List α} (J : Nat -> PEnv -> Prop) (h0 : J 0 ρ) (hs : ∀ i a ρ' (N : PEnv -> Prop), l[i]? = some a -> J i ρ' -> (∀ ρ'', J (i + 1) ρ'' -> N ρ'') -> g (c a) ρ' fun ρ1 => ub { P with nx := N, ct := N, bk := P.nx } ρ1)
  (hd : ∀ ρ', J l.length ρ' -> P.nx ρ') : forT g ub (l.map c) P ρ :=
 forT_inv J h0 (fun i T ρ' N e j hN => by
  rw [List.getElem?_map] at e
  obtain ⟨a, ea, rfl⟩ := Option.map_eq_some_iff.mp e
  exact hs i a ρ' N ea j hN) (by rw [List.length_map]; exact hd)
end
theorem eqT_str (x y : Str) : eqT (sT x) (sT y) = decide (x = y) := by
 rw [eqT]
 show (x == y) = _
 exact Bool.beq_eq_decide_eq x y
theorem any_str {x : Str} {ss : List Str} : ((ss.map sT).any fun U => eqT U (sT x)) = decide (x ∈ ss) := by
 rw [List.any_map, Bool.eq_iff_iff, List.any_eq_true, decide_eq_true_iff]
 constructor
 ·rintro ⟨y, hy, e⟩
  have e : eqT (sT y) (sT x) = true := e
  rw [eqT_str, decide_eq_true_iff] at e
  rw [<- e]; exact hy
 ·intro h
  exact ⟨x, h, by show eqT (sT x) (sT x) = true; rw [eqT_str, decide_eq_true_iff]⟩
theorem inok_str {x : Str} {ss : List Str} : InOk (sT x) (ss.map sT) := ⟨trivial, fun U hU => by
 obtain ⟨s, _, rfl⟩ := List.mem_map.mp hU
 trivial⟩
theorem sif {b : Bool} {A B : Prop} (h1 : b = true -> A) (h2 : b = false -> B) : if b = true then A else B := by
 cases b with
 | true => exact (if_pos rfl).mpr (h1 rfl)
 | false => exact (if_neg Bool.false_ne_true).mpr (h2 rfl)
theorem sifd {p : Prop} [Decidable p] {A B : Prop} (h1 : p -> A) (h2 : ¬ p -> B) : if decide p = true then A else B := sif (fun h => h1 (of_decide_eq_true h)) fun h => h2 (of_decide_eq_false h)
end L2
namespace L2
open PySem PySem.Spec PyProof.Rows WordM
abbrev UTd := PEnv -> (List (Str × Tv) -> PEnv -> Prop) -> Prop
def liftD (K : PySem.W.Frag) (F : Fm) (u : UTd) : TE := fun σ H QQ => ∃ ρ Q, FrOk K F ρ σ H /\ u ρ Q /\ ∀ a kvs kts H' ρ', Stp K F σ ρ H ρ' H' -> H a = none -> H' a = some (.dK kvs) -> (kts.map (·.1)).Nodup -> kts.length < 64 -> VAk K H' kvs kts -> Q kts ρ' -> QQ (.ref a) H'
structure UD (X : Cx) (F : Fm) (e : Expr) (u : UTd) : Prop where
 pe : PE X e (liftD X.K F u)
section
variable {X : Cx} {F : Fm} {e : Expr} {pos : Pos}
def uD (u : UTd) : UT := fun ρ Q => u ρ fun kts ρ1 => Q (.dct kts) ρ1
theorem ue_ud {u : UTd} (h : UD X F e u) : UE X F e (uD u) := ⟨PE.imp (PE.fz h.pe) fun σ H QQ ⟨ρ, Q, fr, h, k⟩ => ⟨ρ, _, fr, h, fun a kvs kts H' ρ' s n e nd z p q =>
 .inr ⟨a, _, rfl, e, rfl, fun ob => k _ _ _ _ (s.put fr n e rfl (.frz ob (.dK kvs))) (VA.dct ⟨ob, upd_same⟩ nd z (VAk.hs (hs_put e rfl) p)) q⟩⟩⟩
variable {u : UT} {p : Pos}
def rDictR (K : PySem.W.Frag) : List V -> Hp -> VK -> Prop := fun xs H Q => ∃ (l : Addr) (ys : List V) (ps : List (Key × V)), xs = [.ref l] /\ Rd H l (.lst ys) /\ Paired (fun y (p : Key × V) => ∃ t, y = .ref t /\ SqT K H t [kV p.1, p.2]) ys ps /\ ps.length <= 1000 /\
  ∀ d, H d = none -> Q (.ref d) (upd H d (.dK (mergeK [] ps)))
theorem call_dictR (hc : X.calm = true) : CallR X (.type "dict") (rDictR X.K) := by
 rintro pins s σ H _ us Q I r ⟨l, ys, ps, rfl, hl, hp, hsz, q⟩
 obtain ⟨u, rfl, rx⟩ := vals1 r
 cases rx
 obtain ⟨hz, its, n, hv, hget⟩ := (show ObjOk X.prog X.w H s.heap l (.lst ys) from hl.ok I.hok)
 have key : ∀ {ys : List V} {its : List Value} {ps : List (Key × V)}, Vals ys its -> Paired (fun y (p : Key × V) => ∃ t, y = .ref t /\ SqT X.K H t [kV p.1, p.2]) ys ps ->
   ∃ qs : List (Key × Value), KV ps qs /\ its.length = qs.length /\ ∀ (j : Nat) (k : Key) (v : Value), qs[j]? = some (k, v) -> ∃ t kk, its[j]? = some (.ref t) /\ IsTup s.heap t #[kk, v] /\ (mixKind X.prog X.w).is k kk = true := by
  intro ys its ps hv hp
  induction hp generalizing its with
  | nil => cases hv; exact ⟨[], .nil, rfl, fun j k v e => by simp at e⟩
  | @cons y p ys' ps' h _ ih =>
   cases hv with
   | cons r0 rs =>
    obtain ⟨t, rfl, ht⟩ := h
    cases r0
    obtain ⟨qs, kq, lq, fq⟩ := ih rs
    obtain ⟨tits, tv, tt, _⟩ := I.tuple ht
    cases tv with
    | @cons _ kk _ _ r1 rs1 =>
     cases rs1 with
     | @cons _ vv _ _ r2 rs2 =>
      cases rs2
      refine ⟨(p.1, vv) :: qs, .cons ⟨rfl, r2⟩ kq, by rw [List.length_cons, List.length_cons, lq], fun j k v e => ?_⟩
      cases j with
      | zero =>
       cases e
       exact ⟨t, kk, rfl, tt, kV_is r1⟩
      | succ j => exact fq j k v e
 obtain ⟨qs, kq, lq, fq⟩ := key hv hp
 have hbig := I.big
 have hps : ps.length = qs.length := Paired.length kq
 refine any_dictPairs (ps := qs) (I.ok.hd hc) hget ⟨by simpa using lq, fun j k v e => by obtain ⟨t, kk, a, b, c⟩ := fq j k v e; exact ⟨t, kk, by simpa using a, b, c⟩⟩ (by omega) fun h' tk hd k => ?_
 have hlen := length_mergeK ps []
 refine ⟨.ref s.heap.objs.size, _, I.laid (t' := tk) (o := .dK (mergeK [] ps)) k (Nat.le_refl _) (show ObjOk _ _ _ h' _ (.dK _) from ⟨by rw [sizeLine_eq]; have := hlen; simp at this; omega, ?_, _, fold_kv kq .nil, hd⟩), rfl, q _ I.fresh⟩
 exact beq_eq_false_iff_ne.mpr (Nat.ne_of_gt hbig)
def uDictP (u : UT) : UTd := fun ρ Q => u ρ fun T ρ1 => ∃ kts : List (Str × Tv), T = .seq false (kts.map fun kt => .seq true [sT kt.1, kt.2]) /\ (kts.map (·.1)).Nodup /\ kts.length < 64 /\ Q kts ρ1
theorem pairs_of {K : PySem.W.Frag} {H : Hp} : ∀ {ys : List V} {kts : List (Str × Tv)}, VAs K H ys (kts.map fun kt => .seq true [sT kt.1, kt.2]) -> ∃ ps : List (Key × V), Paired (fun y (p : Key × V) => ∃ t, y = .ref t /\ SqT K H t [kV p.1, p.2]) ys ps /\ VAk K H ps kts
 | [], [], _ => ⟨[], .nil, .nil⟩
 | y :: ys, kt :: kts, .cons r t => by
  obtain ⟨ps, h1, h2⟩ := pairs_of t
  obtain ⟨a, xs, rfl, hs, z, p⟩ := VA.seqI r
  obtain ⟨k, v, rfl, vk, vv⟩ : ∃ k v, xs = [k, v] /\ VA K H k (sT kt.1) /\ VA K H v kt.2 := by
   cases p with
   | cons r1 t1 =>
    cases t1 with
    | cons r2 t2 => cases t2; exact ⟨_, _, rfl, r1, r2⟩
  obtain ⟨rfl, _⟩ := vk.leafI
  exact ⟨(.inr kt.1, v) :: ps, .cons ⟨a, rfl, hs⟩ h1, .cons ⟨rfl, vv⟩ h2⟩
theorem vak_keysN {K : PySem.W.Frag} {H : Hp} {kvs : List (Key × V)} {kts : List (Str × Tv)} (p : VAk K H kvs kts) (n : (kts.map (·.1)).Nodup) : (kvs.map (·.1)).Nodup := by
 rw [vak_keys p]
 unfold List.Nodup at n ⊢
 rw [List.pairwise_map]
 exact n.imp fun h e => h (Sum.inr.inj e)
theorem ud_dictP (hc : X.calm = true) (hg : Gl X "dict") (hm : X.mg "dict" = none) (he : UE X F e u) (hst : isStar e = false := by rfl) (hpl : (backTo pos (starEach [] X.env)).any (·.1) = false := by rfl) : UD X F (.Call (.Name "dict" p) [e] [] pos) (uDictP u) :=
 ⟨PE.imp (pe_callTy (call_dictR hc) hg hm boot_dict (pa_c he.pe pa_nil hst) (by decide) (by decide) (star_cons hst) hpl) fun σ H QQ ⟨ρ, Q, f, h, k⟩ => by
  refine ⟨ρ, _, f, h, fun x T H1 ρ1 s1 v1 q1 => ?_⟩
  obtain ⟨kts, rfl, nd, z, q⟩ := q1
  obtain ⟨a, xs, rfl, ⟨ob, hs⟩, zz, p⟩ := v1.seqI
  obtain ⟨ps, h1, h2⟩ := pairs_of p
  have l2 : ps.length = kts.length := Paired.length h2
  refine ⟨a, xs, ps, rfl, .inr ⟨ob, hs⟩, h1, by omega, fun d n => ?_⟩
  rw [mergeK_nd (kvs := []) (by simpa using vak_keysN h2 nd), List.nil_append]
  exact k _ _ _ _ _ (s1.trans (Stp.same s1.fr (same_new n))) (s1.non n) upd_same nd z (VAk.hs (hs_new n) h2) q⟩
variable {x : Str} {apos cpos : Pos}
end
section
variable {X : Cx} {F : Fm}
def rRepR : R2 := fun x y H Q => ∃ l k xs, x = .ref l /\ y = .int k /\ Rd H l (.lst xs) /\ -(2 ^ 63) <= k /\ k < 2 ^ 63 /\ xs.length * k.toNat <= sizeLine /\ ∀ p, H p = none -> Q (.ref p) (upd H p (.lst (List.replicate k.toNat xs).flatten))
theorem op_repR : OpR X (binaryOp .Mult) rRepR := by
 rintro pins s σ H _ _ v u Q I rx ry ⟨l, k, xs, rfl, rfl, hH, h1, h2, hz, q⟩
 cases rx
 obtain ⟨t, rfl⟩ := ry
 obtain ⟨z, its, n, r, e⟩ := hH.ok I.hok
 have hl := r.length
 have hlen : its.toArray.size * k.toNat <= sizeLine := by rw [List.size_toArray, <- hl]; exact hz
 have hcap : ¬ its.toArray.size * k.toNat > (2 ^ 63 - 1) / 8 := by
  have : (sizeLine : Nat) <= (2 ^ 63 - 1) / 8 := by decide
  omega
 have hfit : ¬ (!Builtin.List.listFitsIndex k) = true := by
  rw [fitsIndex_both h1 h2]
  exact Bool.false_ne_true
 have hlong : ¬ Builtin.List.listTooLong (its.toArray.size * k.toNat) = true := by
  rw [notLongL hlen]
  exact Bool.false_ne_true
 have hnew : List.foldl (fun x1 x2 => x1 ++ x2) #[] (List.replicate (if its.toArray.isEmpty = true then 0 else k.toNat) its.toArray) = (List.replicate k.toNat its).flatten.toArray := by
  have f0 : ∀ m : Nat, List.foldl (fun x1 x2 => x1 ++ x2) #[] (List.replicate m its.toArray) = (List.replicate m its).flatten.toArray := fun m => by
   have := foldl_rep its m []
   rw [List.nil_append] at this
   exact this
  rw [f0]
  cases its with
  | nil => simp
  | cons a r' => rw [if_neg (by simp)]
 refine wpAny_binaryOp_repeat_ref (T := "list") (U := "int") (by decide) ⟨_, e, rfl⟩ (fun s' => typeIs_int s' k t) noFill_list_mul F.fills_int_mul F.slot_int_rmul repeat_list F.slot_int_index.lookup
  (call_meets F.slot_int_rmul (typeIs_int s k t) F.entry_int_rmul (F.args_int_rmul_2 _ _) (int___rmul___int_list k t l its.toArray n)
   ⟨e, rfl, ⟨_, e, rfl⟩, call_meets F.slot_list_mul ⟨_, e, rfl⟩ F.entry_list_mul (F.args_list_mul_2 _ _) (AutoListH.list___mul___list_int_3 l its.toArray n k t hfit hcap hlong) ⟨e, ?_⟩⟩)
 rw [hnew]
 exact ⟨.ref _, _, I.lnew (t' := s.toks) (r.rep k.toNat) (by rw [len_rep, Nat.mul_comm]; exact hz), rfl, q _ I.fresh⟩
theorem paired_rep {α β : Type} {R : α -> β -> Prop} {l : List α} {m : List β} (p : Paired R l m) : ∀ k : Nat, Paired R (List.replicate k l).flatten (List.replicate k m).flatten
 | 0 => .nil
 | k + 1 => by rw [List.replicate_succ, List.replicate_succ, List.flatten_cons, List.flatten_cons]; exact paired_app p (paired_rep p k)
def pMul2 : P2
 | .seq false xs, .leaf (.int k), Q => (xs.length * k.toNat <= 100000 /\ -(2 ^ 62) <= k /\ k < 2 ^ 62) /\ Q (.seq false (List.replicate k.toNat xs).flatten)
 | T, U, Q => pMul T U Q
theorem pu_mul2 : PuOp X (binaryOp .Mult) pMul2 := by
 obtain ⟨a, oa, ra⟩ := pu_mul (X := X)
 refine ⟨_, oa.or op_repR, fun x y T U H Q QQ vx vy h k => ?_⟩
 unfold pMul2 at h
 split at h
 ·obtain ⟨a, xs, rfl, ⟨ob, hs⟩, z, p⟩ := vx.seqI
  obtain ⟨rfl, _⟩ := vy.leafI
  obtain ⟨⟨h1, h2, h3⟩, q⟩ := h
  have l1 : xs.length = _ := Paired.length p
  refine .inr ⟨a, _, xs, rfl, rfl, .inr ⟨ob, hs⟩, by omega, by omega, line_of (by rw [l1]; exact h1), fun b n => k _ _ _ (Raw.lst n ?_ (paired_rep p _)) q⟩
  rw [len_rep, Nat.mul_comm]; exact h1
 ·exact .inl (ra x y T U H Q QQ vx vy h k)
end
end L2
namespace L2
open PySem PySem.Spec PyProof.Rows WordM
def spLaw (K : PySem.W.Frag) : Sp := fun vs H Q _ => ∃ (a : Addr) (ns : List Int), vs = [.ref a] /\ SqL K H a (ns.map V.int) /\ ns.length <= 63 /\ ∀ H', Q (.bl true) H'
def lawP (n : Nat) : PEnv := .no :: .dk :: List.replicate (n - 2) .no
theorem fr_law {K : PySem.W.Frag} {H : Hp} {p c : Addr} {N : List Str} {x : V} (hN : 2 <= N.length) (d : DeckAt H p c) : FrOk K ⟨H, some (p, c), none⟩ (lawP N.length) ((start N [x]).set 1 (some (.ref p))) H := by
 have nm : ∀ (i : Nat) (s : Sl), (lawP N.length)[i]? = some s -> (s = .dk /\ i = 1) \/ s = .no := fun i s e => by
  unfold lawP at e
  match i, e with
  | 0, e => exact .inr (by simpa using e.symm)
  | 1, e => exact .inl ⟨by simpa using e.symm, rfl⟩
  | i + 2, e =>
   have e : (List.replicate (N.length - 2) Sl.no)[i]? = some s := by simpa using e
   exact .inr (List.eq_of_mem_replicate (List.mem_of_getElem? e))
 refine ⟨fun p' c' e => by cases e; exact d, fun _ _ z => (nomatch z), ⟨fun _ _ e _ _ => e, fun p' c' e => by cases e; exact d, fun _ _ z => (nomatch z)⟩, ?_, fun i s e => ?_, fun i j a s t e _ m _ _ _ => ?_⟩
 ·unfold lawP start
  simp
  omega
 ·rcases nm i s e with ⟨rfl, rfl⟩ | rfl
  ·refine ⟨p, c, rfl, ?_⟩
   unfold ixv start
   rw [List.getElem?_set_self (by simp; omega)]
   rfl
  ·trivial
 ·rcases nm i s e with ⟨rfl, _⟩ | rfl <;> cases m
theorem pss_any {X : Cx} {st : List Stmt} {us : UTs} (h : ∀ F, USs X F st us) : PSs X st (fun D σ H => ∃ F, liftS X.K F us D σ H) := fun pins s σ H D I ⟨F, q⟩ => (h F).ps pins s σ H D I q
theorem law_end {X : Cx} {us : UTs} {D : Ends} {p c : Addr} {H : Hp} {N : List Str} {x : V} (hN : 2 <= N.length) (d : DeckAt H p c) (q : ∀ H', D.rt (.bl true) H') (h : us { nx := fun _ => False, rt := fun T => T = bT true } (lawP N.length)) :
  ∃ F, liftS X.K F us D ((start N [x]).set 1 (some (.ref p))) H := ⟨⟨H, some (p, c), none⟩, lawP N.length, _, fr_law hN d, h, fun _ _ _ _ _ z => z.elim, fun x T H' _ _ _ v e => by
 have e : T = bT true := e.elim id False.elim
 subst e
 obtain ⟨rfl, _⟩ := v.leafI
 exact q H', fun _ _ _ _ _ z => z.elim, fun _ _ _ _ _ z => z.elim⟩
end L2
namespace L2
open PySem PySem.Spec PyProof.Rows WordM
section
variable {X : Cx} {F : Fm} {e ke ve : Expr} {pos : Pos} {uk uv : UT}
def uNo : UTd := fun ρ Q => Q [] ρ
theorem ud_nil : UD X F (.Dict [] [] pos) uNo := ⟨PE.imp pe_dnewK fun σ H QQ ⟨ρ, Q, f, h, k⟩ a n => k a [] [] _ ρ (Stp.same f (same_new n)) n upd_same .nil (by decide) .nil h⟩
end
end L2
namespace L2
open PySem PySem.Spec PyProof.Rows WordM
section
variable {X : Cx} {F : Fm}
variable {x : Str} {p apos cpos pos : Pos} {st : Stmt}
theorem us_nev : US X F st (fun _ _ => False) := ⟨fun pins s σ H D I ⟨_, _, _, h, _⟩ => h.elim⟩
end
end L2
namespace L2
open PySem PySem.Spec PyProof.Rows
@[reducible] def sortB : PyProof.Rows.KeyKind where
 α := Bool
 blt a b := !a && b
 irrefl a := by cases a <;> rfl
 trans a b c h1 h2 := by cases a <;> cases b <;> cases c <;> simp_all
 negTrans a b c h := by cases a <;> cases b <;> cases c <;> simp_all
 total a b h1 h2 := by cases a <;> cases b <;> simp_all
 keyOf v := match v with | .bool b => some b | _ => none
 dflt := false
end L2
namespace L2
open PySem PySem.Spec PyProof.Rows WordM
section
variable {X : Cx} {F : Fm}
variable {pos : Pos}
def rListD : List V -> Hp -> VK -> Prop := fun xs H Q => ∃ (a : Addr) (ob : Obj) (kvs : List (Key × V)) (us : List Str), xs = [.ref a] /\ FzD H a ob kvs /\ kvs.map (·.1) = us.map Sum.inr /\ ∀ l : Addr, H l = none -> Q (.ref l) (upd H l (.lst (us.map V.str)))
theorem call_listD (hc : X.calm = true) : CallR X (.type "list") rListD := by
 intro pins s σ H xs us Q I r h
 obtain ⟨a, ob, kvs, uu, rfl, hz, hk, q⟩ := h
 obtain ⟨u, rfl, rx⟩ := vals1 r
 cases rx
 obtain ⟨e, hs, hl, vs, es, ep, rr, dd, hd⟩ := fz_dict I hz
 have hkv : vs.map (·.1) = uu.map Sum.inr := by rw [<- kv_keys rr]; exact hk
 have hlen : vs.length = uu.length := by have := congrArg List.length hkv; simpa using this
 have lv : vs.length = kvs.length := (kv_len rr).symm
 refine PySem.W.kdl_call (PySem.W.kdl_dict (knd := mixKind X.prog X.w) (kvs := vs) (ep := ep) hs) (I.ok.hd hc) dd (by omega) fun h' tk acc c k hl' ha => ?_
 refine ⟨.ref _, _, I.laid (t' := tk) (o := .lst (uu.map V.str)) k (Nat.le_refl _) ⟨by rw [List.length_map]; omega, acc.toList, c, vals_ofStrs (strs_of_keys hkv ha), by rw [Array.toArray_toList]; exact hl'⟩, rfl, q _ I.fresh⟩
def pListD : List Tv -> (List Tv -> Prop) -> Prop := fun Ts Q => ∃ kts, Ts = [.dct kts] /\ Q (kts.map fun kt => sT kt.1)
theorem pu_listD (hc : X.calm = true) : PuCallL X (.type "list") pListD := ⟨_, call_listD hc, fun xs Ts H Q QQ vx h k => by
 obtain ⟨kts, rfl, q⟩ := h
 obtain ⟨x, rfl, v⟩ := vas1 vx
 obtain ⟨a, kvs, rfl, ⟨ob, hd⟩, nd, z, p⟩ := v.dctI
 refine ⟨a, ob, kvs, kts.map (·.1), rfl, hd, vak_keys p, fun b n => ?_⟩
 have e : (kts.map fun kt => sT kt.1) = (kts.map (·.1)).map sT := by rw [List.map_map]; rfl
 rw [e] at q
 exact k b _ _ _ (same_new n) n upd_same (by rw [List.length_map, List.length_map]; omega) (vas_str _) q⟩
end
end L2
namespace L2
open PySem PySem.Spec PyProof.Rows
section
variable {X : Cx} {F : Fm}
theorem fold_len (k : Nat) : ∀ (ss : List Str) (n L : Nat), (∀ s ∈ ss, s.length <= L) -> ss.foldl (fun a s => a + s.length + k) n <= n + ss.length * (L + k)
 | [], n, L, _ => by simp
 | s :: r, n, L, h => by
  rw [List.foldl_cons]
  have := fold_len k r (n + s.length + k) L fun x hx => h x (List.mem_cons_of_mem _ hx)
  have hs := h s (List.mem_cons_self ..)
  rw [List.length_cons, Nat.succ_mul]
  omega
theorem str_app_len (a b : Str) : (a ++ b).length = a.length + b.length := by
 show (a.cps ++ b.cps).size = _
 rw [Array.size_append]; rfl
theorem join_len (sep : Str) : ∀ (ss : List Str) (L : Nat), (∀ s ∈ ss, s.length <= L) -> (Str.join sep ss).length <= ss.length * (L + sep.length)
 | [], L, _ => Nat.zero_le _
 | [x], L, h => by
  have := h x (List.mem_singleton.mpr rfl)
  show x.length <= 1 * _
  omega
 | x :: y :: r, L, h => by
  have ih := join_len sep (y :: r) L fun z hz => h z (List.mem_cons_of_mem _ hz)
  have hx := h x (List.mem_cons_self ..)
  show (x ++ sep ++ Str.join sep (y :: r)).length <= (y :: r).length.succ * _
  rw [str_app_len, str_app_len, Nat.succ_mul]
  omega
def rJoinS (K : PySem.W.Frag) : V -> List V -> Hp -> VK -> Prop := fun x vs H Q => ∃ p sep ss, x = .str sep /\ vs = [.ref p] /\ SqL K H p (ss.map V.str) /\ (∃ L, (∀ s ∈ ss, s.length <= L) /\ ss.length * (L + sep.length) <= 10000000) /\ Q (.str (Str.join sep ss)) H
theorem mt_joinS : MtM X "str.join" (rJoinS X.K) := by
 intro pins s σ H x vs v us Q I rx rv h
 obtain ⟨p, sep, ss, rfl, rfl, hq, ⟨L, hL, hz⟩, q⟩ := h
 obtain ⟨t, rfl⟩ := rx
 obtain ⟨u, rfl, ru⟩ := rv.one
 cases ru
 obtain ⟨its, rv, pl, hz'⟩ := I.list hq
 obtain ⟨l, e1, e2⟩ := toks_of (strsAre_of rv)
 have hl := pl.isList
 rw [e1] at hl
 have hlen : ((l.map (·.1)).toArray.foldl (fun a s => a + s.length + sep.length) 0) <= 10000000 := by
  rw [e2, List.foldl_toArray]
  have := fold_len sep.length ss 0 L hL
  omega
 have hs : (10000000 : Nat) <= sizeLine := by rw [sizeLine_eq]; decide
 refine call_meets F.slot_str_join (typeIs_str _ _ _) F.entry_str_join (F.args_str_join_2 _ _) (meets_str_join_list sep t p l (by
  show decide (_ > sizeLine) = false
  exact decide_eq_false (Nat.not_lt.mpr (Nat.le_trans hlen hs)))) ⟨hl, ?_⟩
 have hj : ∀ z : Str, z = Str.join sep ss -> ∀ t' k, EP X pins σ Q (.str z t') { s with toks := k } := fun z e t' k => ⟨.str z, H, I.tok k, ⟨t', rfl⟩, by rw [e]; exact q⟩
 have hlz : (Str.join sep ss).length <= sizeLine := Nat.le_trans (Nat.le_trans (join_len sep ss L hL) hz) hs
 match l, e2 with
 | [], e2 => exact ⟨by rw [StrLaws.glued_eq_join]; exact Nat.zero_le _, hj _ (by rw [<- e2]; rw [StrLaws.glued_eq_join]) _ _⟩
 | [pp], e2 => exact hj _ (by rw [<- e2]; rfl) _ s.toks
 | a :: b :: r, e2 => exact ⟨by rw [StrLaws.glued_eq_join, e2]; exact hlz, hj _ (by rw [StrLaws.glued_eq_join, e2]) _ _⟩
def pJoinS : Tv -> List Tv -> (Tv -> Prop) -> Prop := fun W Ts Q => ∃ (sep : Str) (ss : List Str), W = sT sep /\ Ts = [.seq false (ss.map sT)] /\ (∃ L, (∀ s ∈ ss, s.length <= L) /\ ss.length * (L + sep.length) <= 10000000) /\ Q (sT (Str.join sep ss))
theorem pm_joinS : ∃ r', MtR X "str.join" r' /\ ∀ x W xs Ts H Q (QQ : VK), VA X.K H x W -> VAs X.K H xs Ts -> pJoinS W Ts Q -> (∀ z W H', Raw X.K H H' z W -> Q W -> QQ z H') -> r' x xs H QQ := ⟨_, mt_joinS, fun x W xs Ts H Q QQ v p h k => by
 obtain ⟨sep, ss, rfl, rfl, l, q⟩ := h
 obtain ⟨rfl, _⟩ := v.leafI
 obtain ⟨y, rfl, v'⟩ := vas1 p
 obtain ⟨a, ys, rfl, hs, z, p'⟩ := v'.seqI
 rw [vals_str p'] at hs
 exact ⟨a, sep, ss, rfl, rfl, seq_of hs, l, k _ _ _ (.flat rfl) q⟩⟩
def pAddB : P2
 | .leaf (.str x), .leaf (.str y), Q => x.length + y.length <= 10000000 /\ Q (sT (x ++ y))
 | _, _, _ => False
theorem pu_addB : PuOp X (binaryOp .Add) pAddB := ⟨_, op_add_str, fun x y T U H Q QQ vx vy h k => by
 unfold pAddB at h
 split at h
 ·obtain ⟨rfl, _⟩ := vx.leafI
  obtain ⟨rfl, _⟩ := vy.leafI
  exact ⟨_, _, rfl, rfl, by rw [sizeLine_eq]; omega, k _ _ _ (.flat rfl) h.2⟩
 ·exact False.elim h⟩
end
end L2
namespace L2
open PySem PySem.Spec WordM
theorem ofS_cps (z : String) : cs (Str.ofString z) = z.toList.map Char.toNat := by
 rw [Str.ofString_eq_toList]
theorem int_chars (i : Int) (h : i.natAbs < 10 ^ 100) : (∀ c ∈ (toString i).toList, c.isDigit = true \/ c = '-') /\ (toString i).toList.length <= 101 := by
 cases i with
 | ofNat m =>
  show (∀ c ∈ m.repr.toList, _) /\ m.repr.toList.length <= 101
  rw [Nat.toList_repr]
  refine ⟨fun c hc => .inl (Nat.isDigit_of_mem_toDigits (by decide) (by decide) hc), ?_⟩
  have := (Nat.length_toDigits_le_iff (b := 10) (n := m) (k := 100) (by decide) (by decide)).mpr h
  omega
 | negSucc m =>
  show (∀ c ∈ ("-" ++ m.succ.repr).toList, _) /\ ("-" ++ m.succ.repr).toList.length <= 101
  rw [String.toList_append, Nat.toList_repr]
  refine ⟨fun c hc => ?_, ?_⟩
  ·rcases List.mem_append.mp hc with z | z
   ·exact .inr (by simpa using z)
   ·exact .inl (Nat.isDigit_of_mem_toDigits (by decide) (by decide) z)
  ·have := (Nat.length_toDigits_le_iff (b := 10) (n := m.succ) (k := 100) (by decide) (by decide)).mpr h
   rw [List.length_append]
   have e : ("-" : String).toList.length = 1 := by decide
   omega
theorem dig_sig : ∀ k : Nat, k < 10 -> (k + 48) ∈ cs SIG := by decide +kernel
theorem int_sg (i : Int) (h : i.natAbs < 10 ^ 100) : Sg (Str.ofString (toString i)) /\ (Str.ofString (toString i)).length <= 101 := by
 obtain ⟨h1, h2⟩ := int_chars i h
 refine ⟨fun c hc => ?_, ?_⟩
 ·rw [ofS_cps] at hc
  obtain ⟨d, hd, rfl⟩ := List.mem_map.mp hc
  rcases h1 d hd with z | rfl
  ·simp only [Char.isDigit, Bool.and_eq_true, decide_eq_true_eq] at z
   have a : 48 <= d.toNat := z.1
   have b : d.toNat <= 57 := z.2
   have := dig_sig (d.toNat - 48) (by omega)
   rw [show d.toNat - 48 + 48 = d.toNat by omega] at this
   exact this
  ·decide +kernel
 ·have : (Str.ofString (toString i)).length = (cs (Str.ofString (toString i))).length := by simp [cs, Str.length]
  rw [this, ofS_cps, List.length_map]
  exact h2
end L2
namespace L2
open PySem PySem.Spec PyProof.Rows WordM
theorem sifI {a b : Int} {A B : Prop} (h1 : a = b -> A) (h2 : a ≠ b -> B) : if (false != eqV (.int a) (.int b)) = true then A else B := sif (fun z => h1 (by simpa [eqV] using z)) fun z => h2 (by simpa [eqV] using z)
theorem sifS {a b : Str} {A B : Prop} (h1 : a = b -> A) (h2 : a ≠ b -> B) : if (false != eqV (.str a) (.str b)) = true then A else B := sif (fun z => h1 (by simpa [eqV] using z)) fun z => h2 (by simpa [eqV] using z)
def rise (l : List Str) : Prop := l.Pairwise fun a b => cs a < cs b
theorem lt_of_le_ne {a b : Str} (h : cs a <= cs b) (n : a ≠ b) : cs a < cs b := by
 refine Classical.byContradiction fun z => n (str_ext (List.le_antisymm h (List.not_lt.mp z)))
theorem sort_ex (l : List Str) : ∃ ss : List Str, ss.Perm l /\ sortedS ss = true := by
 refine ⟨l.mergeSort fun a b => decide (cs a <= cs b), List.mergeSort_perm _ _, PyProof.Rows.sortedS_of_pairwise _ ?_⟩
 refine (List.pairwise_mergeSort (fun a b c h1 h2 => ?_) (fun a b => ?_) l).imp fun {a b} h => ?_
 ·exact decide_eq_true (List.le_trans (of_decide_eq_true h1) (of_decide_eq_true h2))
 ·rcases List.le_total (cs a) (cs b) with z | z <;> simp [z]
 ·rw [ltCps_eq]
  exact decide_eq_false (List.not_lt.mpr (of_decide_eq_true h))
theorem sort_pw (l : List Str) : (sortS l).Pairwise fun a b => cs a <= cs b := by
 obtain ⟨ss, h1, h2⟩ := sort_ex l
 rw [<- sortS_eq h1 h2]
 exact sorted_pw' _ h2
theorem sort_rise {l : List Str} (n : l.Nodup) : rise (sortS l) := by
 have h2 : (sortS l).Nodup := (sortS_perm l).nodup_iff.mpr n
 exact List.Pairwise.imp₂ (fun a b h n => lt_of_le_ne h n) (sort_pw l) h2
theorem rise_nodup {l : List Str} (h : rise l) : l.Nodup := List.Pairwise.imp (fun {a b} h e => by rw [e] at h; exact List.lt_irrefl _ h) h
end L2
namespace L2
open PySem PySem.Spec PyProof.Rows WordM
def VOk : Nat -> Tv -> Prop
 | 0, _ => False
 | _ + 1, .leaf .non => True
 | _ + 1, .leaf (.bl _) => True
 | _ + 1, .leaf (.int i) => -(10 ^ 65) < i /\ i < 10 ^ 65
 | _ + 1, .leaf (.str s) => Sg s /\ s.length <= 1000
 | n + 1, .seq false xs => xs.length <= 1000 /\ ∀ x ∈ xs, VOk n x
 | n + 1, .dct kts => (kts.map (·.1)).Nodup /\ kts.length < 64 /\ ∀ kt ∈ kts, (Sg kt.1 /\ kt.1.length <= 1000) /\ VOk n kt.2
 | _, _ => False
noncomputable def namesOf (kts : List (Str × Tv)) : List Str := sortS (kts.map (·.1))
end L2
namespace L2
open PySem PySem.Spec PyProof.Rows WordM
theorem lookD_of {kts : List (Str × Tv)} (hn : (kts.map (·.1)).Nodup) {k : Str} {U : Tv} (h : (k, U) ∈ kts) : lookD kts k = some U := by
 obtain ⟨i, hi, e⟩ := List.mem_iff_getElem.mp h
 have := look_get hn (i := i) (kt := (k, U)) (by rw [List.getElem?_eq_getElem hi, e])
 exact this
theorem names_mem {kts : List (Str × Tv)} {k : Str} : k ∈ namesOf kts ↔ k ∈ kts.map (·.1) := (sortS_perm _).mem_iff
end L2
namespace L2
open PySem PySem.Spec PyProof.Rows WordM
theorem lt_ne {a b : Str} (h : cs a < cs b) : a ≠ b := fun e => by rw [e] at h; exact List.lt_irrefl _ h
theorem rise_sub : ∀ {ys xs : List Str}, rise xs -> rise ys -> (∀ x ∈ xs, x ∈ ys) -> xs.Sublist ys
 | [], xs, _, _, h => by
  cases xs with
  | nil => exact .slnil
  | cons x xs => exact absurd (h x (.head _)) (by simp)
 | y :: ys, [], _, _, _ => List.nil_sublist _
 | y :: ys, x :: xs, hx, hy, h => by
  have hx' := List.pairwise_cons.mp hx
  have hy' := List.pairwise_cons.mp hy
  by_cases e : x = y
  ·subst e
   refine List.Sublist.cons_cons x (rise_sub hx'.2 hy'.2 fun z hz => ?_)
   rcases List.mem_cons.mp (h z (.tail _ hz)) with q | q
   ·exact absurd q.symm (lt_ne (hx'.1 z hz))
   ·exact q
  ·have hxy : x ∈ ys := (List.mem_cons.mp (h x (.head _))).resolve_left e
   have yx : cs y < cs x := hy'.1 x hxy
   refine List.Sublist.cons y (rise_sub hx hy'.2 fun z hz => ?_)
   rcases List.mem_cons.mp (h z hz) with q | q
   ·subst q
    rcases List.mem_cons.mp hz with q | q
    ·exact absurd q.symm e
    ·exact absurd (List.lt_trans yx (hx'.1 z q)) (List.lt_irrefl _)
   ·exact q
end L2
namespace L2
open PySem PySem.Spec PyProof.Rows WordM
theorem names_len (k : List (Str × Tv)) : (namesOf k).length = k.length := by unfold namesOf; rw [sortS_len, List.length_map]
theorem names_eq {k l : List (Str × Tv)} (hk : (k.map (·.1)).Nodup) (hl : (l.map (·.1)).Nodup) (len : k.length = l.length) (h : ∀ e ∈ k, e.1 ∈ l.map (·.1)) : namesOf k = namesOf l :=
 (rise_sub (sort_rise hk) (sort_rise hl) fun x hx => by
  obtain ⟨y, hy, rfl⟩ := List.mem_map.mp (names_mem.mp hx)
  exact names_mem.mpr (h y hy)).eq_of_length_le (by
   show (namesOf l).length <= (namesOf k).length
   rw [names_len, names_len]; omega)
end L2
namespace L2
open PySem PySem.Spec PyProof.Rows PySem.SeqAt
section
variable {X : Cx} {F : Fm}
def pLeS : P2
 | .leaf (.str x), .leaf (.str y), Q => Q (bT (!decide (y.cps.toList < x.cps.toList)))
 | _, _, _ => False
theorem op_le_str : OpR X (compareOp .LtE) (fun x y H Q => ∃ i j, x = .str i /\ y = .str j /\ Q (.bl (!decide (j.cps.toList < i.cps.toList))) H) := by
 intro pins s σ H x y v u Q I rx ry h
 obtain ⟨i, j, rfl, rfl, q⟩ := h
 obtain ⟨t, rfl⟩ := rx
 obtain ⟨t', rfl⟩ := ry
 exact PySem.P.le_str (fin_bl I q rfl)
theorem pu_leS : PuCmp X (compareOp .LtE) pLeS := ⟨_, op_le_str, fun x y T U H Q QQ vx vy h k => by
 unfold pLeS at h
 split at h
 ·obtain ⟨rfl, _⟩ := vx.leafI
  obtain ⟨rfl, _⟩ := vy.leafI
  exact ⟨_, _, rfl, rfl, k _ _ _ (Same.refl _) (.flat rfl) h⟩
 ·exact False.elim h⟩
end
end L2
namespace L2
open PySem PySem.Spec PyProof.Rows WordM
section
variable {X : Cx} {F : Fm} {pos p : Pos} {e a b elt iter : Expr} {es ifs : List Expr} {x : Str} {u ua ub ue : UT} {ut : UTa} {ui : UTl} {tf : UTt} {sc scope : Scope} {XN N : List Str} {fr : List Nat}
theorem ue_fm {k m : Nat} {ps : List Str} {psp : PSp} (G : PGood X.prog X.w X.K X.mg X.base k x ps psp) (hr : Room m X.A) (ha : UA X F (e :: es) ut) (hm : k <= m := by omega) (hg : Gl X x := by exact rfl) (hdb : (x == ("__debug__" : Str)) = false := by decide)
  (hst : isStar e = false := by rfl) (hpl : (backTo pos (starEach es X.env)).any (·.1) = false := by rfl) : UE X F (.Call (.Name x p) (e :: es) [] pos) (uCall psp ut) := ue_fn G (hr.mono hm) hg ha hdb hst hpl
theorem us_s (i : Nat) {pos' : Pos} (hN : X.N.Nodup) (he : UE X F e u) (hi : X.N[i]? = some x := by rfl) (hx : Loc X.env.scope x := by first | exact Or.inl rfl | exact Or.inr rfl) (hs : swapsWith e (some (.Name x pos')) pos.line X.env = pure false := by rfl) (hf : X.fn x = true \/ X.env.scope.names.lookup x = some .local := by first | exact .inl rfl | exact .inr rfl | assumption) :
  US X F (.Assign [.Name x pos'] e pos) (sSet i u) := us_set hN hi hx he hs hf
theorem us_o (i : Nat) {ul : UTl} {pos' : Pos} (hN : X.N.Nodup) (he : UL X F e ul) (hi : X.N[i]? = some x := by rfl) (hx : Loc X.env.scope x := by first | exact Or.inl rfl | exact Or.inr rfl) (hs : swapsWith e (some (.Name x pos')) pos.line X.env = pure false := by rfl) (hf : X.fn x = true \/ X.env.scope.names.lookup x = some .local := by first | exact .inl rfl | exact .inr rfl | assumption) :
  US X F (.Assign [.Name x pos'] e pos) (sOwn i ul) := us_own hN hi hx he hs hf
theorem ub_cp {op : CmpOp} {r : P2} (ho : PuCmp X (compareOp op) r) (ha : UE X F a ua) (hb : UE X F b ub) (hm : behindInMarks op b = false := by exact nomark _) : UB X F (.Compare a [op] [b] pos) (uB (uOp r ua ub)) := ub_cmp ho ha hb hm
theorem ue_cp {op : CmpOp} {r : P2} (ho : PuOp X (compareOp op) r) (ha : UE X F a ua) (hb : UE X F b ub) (hm : behindInMarks op b = false := by exact nomark _) : UE X F (.Compare a [op] [b] pos) (uOp r ua ub) := ue_cmp ho ha hb hm
structure Cq (X : Cx) (sc scope : Scope) (XN N : List Str) (fr : List Nat) (x : Str) (iter : Expr) : Prop where
 hc : X.calm = true := by rfl
 k1 : scope.kind = .function := by rfl
 k2 : ∀ y ∈ scope.names, y.2 ≠ .cell := by decide +kernel
 k3 : ∀ y ∈ scope.names, y.2 = .free -> sc.names.lookup y.1 = some .cell \/ sc.names.lookup y.1 = some .free := by decide +kernel
 k4 : ∀ y ∈ scope.names, y.2 = .local -> scope.names.lookup y.1 = some .local := by decide +kernel
 k5 : N.drop 1 = fr.filterMap fun i => XN[i]? := by rfl
 k6 : ∀ i ∈ fr, i < XN.length := by decide +kernel
 k7 : 1 <= N.length := by decide
 k8 : ∀ x ∈ N.drop 1, scope.names.lookup x = some .free := by decide +kernel
 nd : fr.Nodup := by decide
 nN : N.Nodup := by decide +kernel
 h0 : N[0]? = some x := by rfl
 hl : ∀ cl C fp s H, Loc (cxComp X N scope cl C fp s H).env.scope x := by intros; first | exact Or.inl rfl | exact Or.inr rfl
 hfn : ∀ cl C fp s H, (cxComp X N scope cl C fp s H).fn x = true \/ (cxComp X N scope cl C fp s H).env.scope.names.lookup x = some .local := by intros; first | exact .inl rfl | exact .inr rfl
 hs : ∀ x, foldedSetIterable iter X.env x = pure x := by intro _; rfl
 hsc : X.env.scope = sc := by rfl
 hxn : X.N = XN := by rfl
section
variable {z : Str} {pos' spos : Pos} (i : Nat) (hN : X.N.Nodup) (hi : UI X F (.Name x p) iter ui) (hf : ∀ cl C fp s H, UF (cxComp X N scope cl C fp s H) F ifs tf) (he : ∀ cl C fp s H, UE (cxComp X N scope cl C fp s H) F elt ue)
include hi hf he
theorem ul_c1 (c : Cq X sc scope XN N fr x iter := by exact {}) : UL X F (.ListComp elt [⟨.Name x p, iter, ifs, 0⟩] scope pos) (uComp 1 fr ui (gN 0) tf ue) :=
 ul_comp c.hc ⟨c.k1, c.k2, c.k3, c.k4, c.k5, c.k6, c.k7, c.k8⟩ c.nd hi (fun cl C fp s H => ug_name 0 (by decide) c.nN c.h0 (c.hl cl C fp s H) (c.hfn cl C fp s H)) hf he c.hs c.hsc c.hxn
include hN
theorem us_c1 (c : Cq X sc scope XN N fr x iter := by exact {}) (hz : X.N[i]? = some z := by rfl) (hzl : Loc X.env.scope z := by first | exact Or.inl rfl | exact Or.inr rfl)
  (hsw : swapsWith (.ListComp elt [⟨.Name x p, iter, ifs, 0⟩] scope pos) (some (.Name z pos')) spos.line X.env = pure true := by rfl)
  (hf' : X.fn z = true \/ X.env.scope.names.lookup z = some .local := by first | exact .inl rfl | exact .inr rfl | assumption) : US X F (.Assign [.Name z pos'] (.ListComp elt [⟨.Name x p, iter, ifs, 0⟩] scope pos) spos) (sSet i (uL (uComp 1 fr ui (gN 0) tf ue))) :=
 us_setc c.hc hN hz hzl ⟨c.k1, c.k2, c.k3, c.k4, c.k5, c.k6, c.k7, c.k8⟩ c.nd hi (fun cl C fp s H => ug_name 0 (by decide) c.nN c.h0 (c.hl cl C fp s H) (c.hfn cl C fp s H)) hf he hsw hf' c.hs c.hsc c.hxn
end
theorem ul_c0 (hi : UI X F (.Name x p) iter ui) (he : ∀ cl C fp s H, UE (cxComp X N scope cl C fp s H) F elt ue) (c : Cq X sc scope XN N fr x iter := by exact {}) : UL X F (.ListComp elt [⟨.Name x p, iter, [], 0⟩] scope pos) (uComp 1 fr ui (gN 0) tYes ue) := ul_c1 hi (fun _ _ _ _ _ => uf_nil) he c
theorem ue_x {m : Nat} (hr : Room m X.A) (ha : UE X F a ua) (hb : UE X F b ub) (hs : PlainIx b := by intro _ _; rfl) : UE X F (.Subscript a b pos) (uOp pIx ua ub) := ue_ix (pu_ix hr.units) ha hb hs
theorem ub_q {m : Nat} (hr : Room m X.A) (ha : UE X F a ua) (hb : UE X F b ub) : UB X F (.Compare a [.Eq] [b] pos) (uB (uOp pEq ua ub)) := ub_cmp (pu_eq hr.units) ha hb (nomark _)
theorem ub_n {m : Nat} (hr : Room m X.A) (ha : UE X F a ua) (hb : UE X F b ub) : UB X F (.Compare a [.NotEq] [b] pos) (uB (uOp pNe ua ub)) := ub_cmp (pu_ne hr.units) ha hb (nomark _)
end
end L2
namespace L2
open PySem PySem.Spec PyProof.Rows WordM
section
variable {P : Program} {w : World} {K : PySem.W.Frag} {mg : Str -> Option Value} {base : Heap} {x : Str} {st : Stmt} {k : Nat} {psp : PSp} {us : UTs}
theorem Has.pg1 (N : List Str) {a : Str} (h : Has K mg x st)
  (hbody : ∀ {f : Addr} {cdv : Value} {A : Around} {outer : List Env} {s : Shared} {H : Hp} {E : XK} {F : Fm}, N.Nodup -> Room k (A.deeper (envOfC x (defScope st) s.heap.objs.size f cdv)) -> USs (cxOf CX0 P w K mg base N x (defScope st) f cdv A outer s H E).nox F (defBody st) us)
  (hp : ∀ as R, psp as R -> as.length = [a].length /\ us { nx := fun _ => R nT, rt := R } (startP N.length as))
  (S : FnScope N [a] (defScope st) := by exact fsc (by decide +kernel))
  (hb : ∀ (kV doc pm : Value) (an : Option Addr) (cdv ct v0 : Value), bindArgs (PySem.W.fnOf x x (defArgs st) (defBody st) (defScope st) .none kV doc pm an cdv ct) ⟨[v0], []⟩ = pure ([a].zip [v0]) := by exact fun _ _ _ _ _ _ _ => rfl) : PGood P w K mg base (k + 1) x [a] psp :=
 h.pgood S (fun kV doc pm an cdv ct us hl => match us, hl with | [v0], _ => hb kV doc pm an cdv ct v0) (fun f cdv A outer s H E F hr => hbody S.nd hr) hp
theorem Has.pg2 (N : List Str) {a b : Str} (h : Has K mg x st)
  (hbody : ∀ {f : Addr} {cdv : Value} {A : Around} {outer : List Env} {s : Shared} {H : Hp} {E : XK} {F : Fm}, N.Nodup -> Room k (A.deeper (envOfC x (defScope st) s.heap.objs.size f cdv)) -> USs (cxOf CX0 P w K mg base N x (defScope st) f cdv A outer s H E).nox F (defBody st) us)
  (hp : ∀ as R, psp as R -> as.length = [a, b].length /\ us { nx := fun _ => R nT, rt := R } (startP N.length as))
  (S : FnScope N [a, b] (defScope st) := by exact fsc (by decide +kernel))
  (hb : ∀ (kV doc pm : Value) (an : Option Addr) (cdv ct v0 v1 : Value), bindArgs (PySem.W.fnOf x x (defArgs st) (defBody st) (defScope st) .none kV doc pm an cdv ct) ⟨[v0, v1], []⟩ = pure ([a, b].zip [v0, v1]) := by exact fun _ _ _ _ _ _ _ _ => rfl) : PGood P w K mg base (k + 1) x [a, b] psp :=
 h.pgood S (fun kV doc pm an cdv ct us hl => match us, hl with | [v0, v1], _ => hb kV doc pm an cdv ct v0 v1) (fun f cdv A outer s H E F hr => hbody S.nd hr) hp
theorem Has.pg3 (N : List Str) {a b c : Str} (h : Has K mg x st)
  (hbody : ∀ {f : Addr} {cdv : Value} {A : Around} {outer : List Env} {s : Shared} {H : Hp} {E : XK} {F : Fm}, N.Nodup -> Room k (A.deeper (envOfC x (defScope st) s.heap.objs.size f cdv)) -> USs (cxOf CX0 P w K mg base N x (defScope st) f cdv A outer s H E).nox F (defBody st) us)
  (hp : ∀ as R, psp as R -> as.length = [a, b, c].length /\ us { nx := fun _ => R nT, rt := R } (startP N.length as))
  (S : FnScope N [a, b, c] (defScope st) := by exact fsc (by decide +kernel))
  (hb : ∀ (kV doc pm : Value) (an : Option Addr) (cdv ct v0 v1 v2 : Value), bindArgs (PySem.W.fnOf x x (defArgs st) (defBody st) (defScope st) .none kV doc pm an cdv ct) ⟨[v0, v1, v2], []⟩ = pure ([a, b, c].zip [v0, v1, v2]) := by exact fun _ _ _ _ _ _ _ _ _ => rfl) : PGood P w K mg base (k + 1) x [a, b, c] psp :=
 h.pgood S (fun kV doc pm an cdv ct us hl => match us, hl with | [v0, v1, v2], _ => hb kV doc pm an cdv ct v0 v1 v2) (fun f cdv A outer s H E F hr => hbody S.nd hr) hp
theorem Has.pg4 (N : List Str) {a b c d : Str} (h : Has K mg x st)
  (hbody : ∀ {f : Addr} {cdv : Value} {A : Around} {outer : List Env} {s : Shared} {H : Hp} {E : XK} {F : Fm}, N.Nodup -> Room k (A.deeper (envOfC x (defScope st) s.heap.objs.size f cdv)) -> USs (cxOf CX0 P w K mg base N x (defScope st) f cdv A outer s H E).nox F (defBody st) us)
  (hp : ∀ as R, psp as R -> as.length = [a, b, c, d].length /\ us { nx := fun _ => R nT, rt := R } (startP N.length as))
  (S : FnScope N [a, b, c, d] (defScope st) := by exact fsc (by decide +kernel))
  (hb : ∀ (kV doc pm : Value) (an : Option Addr) (cdv ct v0 v1 v2 v3 : Value), bindArgs (PySem.W.fnOf x x (defArgs st) (defBody st) (defScope st) .none kV doc pm an cdv ct) ⟨[v0, v1, v2, v3], []⟩ = pure ([a, b, c, d].zip [v0, v1, v2, v3]) := by exact fun _ _ _ _ _ _ _ _ _ _ => rfl) : PGood P w K mg base (k + 1) x [a, b, c, d] psp :=
 h.pgood S (fun kV doc pm an cdv ct us hl => match us, hl with | [v0, v1, v2, v3], _ => hb kV doc pm an cdv ct v0 v1 v2 v3) (fun f cdv A outer s H E F hr => hbody S.nd hr) hp
end
end L2
namespace L2
open PySem PySem.Spec PyProof.Rows WordM
section
variable {X : Cx} {F : Fm}
def rStartsF : V -> List V -> Hp -> VK -> Prop := fun x vs H Q => ∃ (i j : Str) (k : Int), x = .str i /\ vs = [.str j, .int k] /\ Q (.bl (Txt.startswith3 i j k)) H
theorem mt_startsF : MtM X "str.startswith" rStartsF := by
 intro pins s σ H x vs v us Q I rx rv h
 obtain ⟨i, j, k, rfl, rfl, q⟩ := h
 obtain ⟨t, rfl⟩ := rx
 cases rv with
 | cons r1 r2 =>
  cases r2 with
  | cons r2 r3 =>
   cases r3
   obtain ⟨t1, rfl⟩ := r1
   obtain ⟨t2, rfl⟩ := r2
   exact call_gives F.slot_str_startswith (typeIs_str _ _ _) F.entry_str_startswith (F.args_str_startswith_3 _ _ _) (gives_str_startswith_from i j k t t1 t2) ⟨.bl _, H, I, rfl, q⟩
def findF (x y : Str) (i : Int) : Int := match Builtin.Str.occurrences x y (fromIndex x.length i) x.length 1 with
 | k :: _ => k
 | [] => -1
def rFindF : V -> List V -> Hp -> VK -> Prop := fun x vs H Q => ∃ (i j : Str) (k : Int), x = .str i /\ vs = [.str j, .int k] /\ Q (.int (findF i j k)) H
theorem mt_findF : MtM X "str.find" rFindF := by
 intro pins s σ H x vs v us Q I rx rv h
 obtain ⟨i, j, k, rfl, rfl, q⟩ := h
 obtain ⟨t, rfl⟩ := rx
 cases rv with
 | cons r1 r2 =>
  cases r2 with
  | cons r2 r3 =>
   cases r3
   obtain ⟨t1, rfl⟩ := r1
   obtain ⟨t2, rfl⟩ := r2
   exact call_gives F.slot_str_find (typeIs_str _ _ _) F.entry_str_find (F.args_str_find_3 _ _ _) (gives_str_find_from i j k t t1 t2) ⟨.int _, H, I.tok _, ⟨_, rfl⟩, q⟩
def rIntS : List V -> Hp -> VK -> Prop := fun xs H Q => ∃ (x : Str) (n : Int), xs = [.str x] /\ intText? x = some n /\ x.length <= 640 /\ Q (.int n) H
theorem call_intS : CallR X (.type "int") rIntS := by
 intro pins s σ H xs us Q I r h
 obtain ⟨x, n, rfl, e, l, q⟩ := h
 obtain ⟨u, rfl, t, rfl⟩ := vals1 r
 exact PySem.W.KIN.call_text e l ⟨.int n, H, I.tok _, ⟨_, rfl⟩, q⟩
def pStartsF : Tv -> List Tv -> (Tv -> Prop) -> Prop := fun W Ts Q => ∃ (i j : Str) (k : Int), W = sT i /\ Ts = [sT j, iT k] /\ Q (bT (Txt.startswith3 i j k))
theorem pm_startsF : ∃ r', MtR X "str.startswith" r' /\ ∀ x W xs Ts H Q (QQ : VK), VA X.K H x W -> VAs X.K H xs Ts -> pStartsF W Ts Q -> (∀ z W H', Raw X.K H H' z W -> Q W -> QQ z H') -> r' x xs H QQ := ⟨_, mt_startsF, fun x W xs Ts H Q QQ v p h k => by
 obtain ⟨i, j, n, rfl, rfl, q⟩ := h
 obtain ⟨rfl, _⟩ := v.leafI
 obtain ⟨y, z, rfl, v1, v2⟩ := vas2 p
 obtain ⟨rfl, _⟩ := v1.leafI
 obtain ⟨rfl, _⟩ := v2.leafI
 exact ⟨i, j, n, rfl, rfl, k _ _ _ (.flat rfl) q⟩⟩
def pFindF : Tv -> List Tv -> (Tv -> Prop) -> Prop := fun W Ts Q => ∃ (i j : Str) (k : Int), W = sT i /\ Ts = [sT j, iT k] /\ Q (iT (findF i j k))
theorem pm_findF : ∃ r', MtR X "str.find" r' /\ ∀ x W xs Ts H Q (QQ : VK), VA X.K H x W -> VAs X.K H xs Ts -> pFindF W Ts Q -> (∀ z W H', Raw X.K H H' z W -> Q W -> QQ z H') -> r' x xs H QQ := ⟨_, mt_findF, fun x W xs Ts H Q QQ v p h k => by
 obtain ⟨i, j, n, rfl, rfl, q⟩ := h
 obtain ⟨rfl, _⟩ := v.leafI
 obtain ⟨y, z, rfl, v1, v2⟩ := vas2 p
 obtain ⟨rfl, _⟩ := v1.leafI
 obtain ⟨rfl, _⟩ := v2.leafI
 exact ⟨i, j, n, rfl, rfl, k _ _ _ (.flat rfl) q⟩⟩
def pIntS : Pn := fun Ts Q => ∃ (x : Str) (n : Int), Ts = [sT x] /\ intText? x = some n /\ x.length <= 640 /\ Q (iT n)
theorem pu_intS : PuCall X (.type "int") pIntS := ⟨_, call_intS, fun xs Ts H Q QQ vx h k => by
 obtain ⟨x, n, rfl, e, l, q⟩ := h
 obtain ⟨y, rfl, v⟩ := vas1 vx
 obtain ⟨rfl, _⟩ := v.leafI
 exact ⟨x, n, rfl, e, l, k _ _ _ (.flat rfl) q⟩⟩
end
theorem digs_all (m : Nat) : NumText.AllDigits (List.map Char.toNat (Nat.toDigits 10 m)) := fun c hc => by
 obtain ⟨d, hd, rfl⟩ := List.mem_map.mp hc
 have h := Nat.isDigit_of_mem_toDigits (by decide) (by decide) hd
 unfold Char.isDigit at h
 have h := Bool.and_eq_true_iff.mp h
 have h1 : 48 <= d.val := of_decide_eq_true h.1
 have h2 : d.val <= 57 := of_decide_eq_true h.2
 exact ⟨UInt32.le_iff_toNat_le.mp h1, UInt32.le_iff_toNat_le.mp h2⟩
theorem digs_ne (m : Nat) : List.map Char.toNat (Nat.toDigits 10 m) ≠ [] := fun z => by
 have := List.map_eq_nil_iff.mp z
 exact absurd this (Nat.toDigits_ne_nil)
theorem int_reads {i : Int} (h : i.natAbs < 10 ^ 100) : intText? (Str.ofString (toString i)) = some i := by
 have l : (Str.ofString (toString i)).length <= 4300 := by
  have := (int_chars i h).2
  rw [WordM.len, ofS_cps, List.length_map]
  omega
 cases i with
 | ofNat m =>
  have e : (Str.ofString (toString (Int.ofNat m))).cps.toList = List.map Char.toNat (Nat.toDigits 10 m) := PySem.W.KIN.signs_num m
  rw [intText_digits (by rw [e]; exact digs_all m) (by rw [e]; exact digs_ne m) l, e, PySem.W.KIN.val_back]
  rfl
 | negSucc m =>
  have e : (Str.ofString (toString (Int.negSucc m))).cps.toList = 45 :: List.map Char.toNat (Nat.toDigits 10 (m + 1)) := by
   show cs (Str.ofString ("-" ++ m.succ.repr)) = _
   rw [ofS_cps, String.toList_append, Nat.toList_repr]
   rfl
  rw [intText_neg e (digs_all _) (digs_ne _) l, PySem.W.KIN.val_back]
  rfl
end L2
namespace L2
open PySem PySem.Spec PyProof.Rows WordM
structure RdK (K : PySem.W.Frag) (C : Addr) : Prop where
 cl : Cls K C
 nt : NoAttr K C "text"
 np : NoAttr K C "place"
def FRd (F : Fm) (C : Addr) : Prop := ∀ a C', F.rd = some (a, C') -> C' = C
section
variable {X : Cx} {F : Fm} {C : Addr}
def uRdT (i : Nat) : UT := fun ρ Q => ∃ t p, ρ[i]? = some (.rd t p) /\ Q (sT t) ρ
theorem ue_rdT (i : Nat) {x : Str} {p pos : Pos} (hF : FRd F C) (hC : RdK X.K C) (hN : X.N[i]? = some x := by rfl) (hv : Vis X.env.scope x := by first | exact Or.inl rfl | exact Or.inr (Or.inl rfl) | exact Or.inr (Or.inr rfl)) (hd : (x == ("__debug__" : Str)) = false := by decide) (hcd : (x == ("__classdict__" : Str)) = false := by decide)
  (hb : attributeBase (.Name x p) "text" X.env (eval (.Name x p) X.env) = eval (.Name x p) X.env := by rfl) : UE X F (.Attribute (.Name x p) "text" pos) (uRdT i) :=
 ⟨PE.imp (pe_fld (pe_var hN hv hd hcd) hb) fun σ H QQ ⟨ρ, Q, fr, ⟨t, pl, e, q⟩, k⟩ => by
  obtain ⟨a, C', e1, e2, dx, e3⟩ := fr.at_ i _ e
  have := hF a C' e1
  subst this
  exact ⟨_, ixv_some e2, a, C', dx, _, .str t, rfl, e3, hC.cl, hC.nt, rfl, k _ _ _ _ (Stp.refl fr) (.flat rfl) q⟩⟩
def uRdP (i : Nat) : UT := fun ρ Q => ∃ t p, ρ[i]? = some (.rd t p) /\ Q (iT p) ρ
theorem ue_rdP (i : Nat) {x : Str} {p pos : Pos} (hF : FRd F C) (hC : RdK X.K C) (hN : X.N[i]? = some x := by rfl) (hv : Vis X.env.scope x := by first | exact Or.inl rfl | exact Or.inr (Or.inl rfl) | exact Or.inr (Or.inr rfl)) (hd : (x == ("__debug__" : Str)) = false := by decide) (hcd : (x == ("__classdict__" : Str)) = false := by decide)
  (hb : attributeBase (.Name x p) "place" X.env (eval (.Name x p) X.env) = eval (.Name x p) X.env := by rfl) : UE X F (.Attribute (.Name x p) "place" pos) (uRdP i) :=
 ⟨PE.imp (pe_fld (pe_var hN hv hd hcd) hb) fun σ H QQ ⟨ρ, Q, fr, ⟨t, pl, e, q⟩, k⟩ => by
  obtain ⟨a, C', e1, e2, dx, e3⟩ := fr.at_ i _ e
  have := hF a C' e1
  subst this
  exact ⟨_, ixv_some e2, a, C', dx, _, .int pl, rfl, e3, hC.cl, hC.np, rfl, k _ _ _ _ (Stp.refl fr) (.flat rfl) q⟩⟩
theorem FrOk.move {K : PySem.W.Frag} {ρ : PEnv} {σ : St} {H : Hp} {i : Nat} {t : Str} {p n : Int} {a C' dx : Addr} (fr : FrOk K F ρ σ H) (e : ρ[i]? = some (.rd t p)) (e1 : F.rd = some (a, C')) (e2 : ixv σ i = some (.ref a)) (e3 : H a = some (.ins C' dx [("text", .str t), ("place", .int p)])) :
  Stp K F σ ρ H (ρ.set i (.rd t n)) (upd H a (.ins C' dx [("text", .str t), ("place", .int n)])) := by
 have hi : i < ρ.length := (List.getElem?_eq_some_iff.mp e).1
 have hd := fr.ins_nodk e3
 have hs : HS H (upd H a (.ins C' dx [("text", .str t), ("place", .int n)])) := hs_put e3 rfl
 have st : ∀ b u, b ≠ a -> H b = some u -> upd H a (.ins C' dx [("text", .str t), ("place", .int n)]) b = some u := fun b u z e => by rw [upd_ne z]; exact e
 have get : ∀ (j : Nat) (s : Sl), (ρ.set i (.rd t n))[j]? = some s -> (i = j /\ s = .rd t n) \/ (i ≠ j /\ ρ[j]? = some s) := fun j s e' => by
  by_cases z : i = j
  ·subst z
   rw [List.getElem?_set_self hi] at e'
   exact .inl ⟨rfl, (Option.some.inj e').symm⟩
  ·rw [List.getElem?_set_ne z] at e'; exact .inr ⟨z, e'⟩
 have sub : Sbv (ρ.set i (.rd t n)) ρ := fun j s e' m' => by
  rcases get j s e' with ⟨rfl, rfl⟩ | ⟨z, e'⟩
  ·exact ⟨_, e, rfl⟩
  ·exact ⟨s, e', m'⟩
 refine ⟨⟨fr.d0, fr.r0, ⟨fun b u q n1 n2 => st b u (n2 a C' e1) (fr.kp.st b u q n1 n2), fun p c d => ?_, fun a' D d => ?_⟩, by rw [List.length_set]; exact fr.len, fun j s e' => ?_, fun j k b s s' q1 q2 m1 m2 x1 x2 => ?_⟩, fun b u q _ n1 => st b u (fun z => n1 i _ e rfl (by rw [z]; exact e2)) q, sub, fun b u q => if z : b = a then ⟨.ins C' dx [("text", .str t), ("place", .int n)], by rw [z]; exact upd_same⟩ else ⟨u, st b u z q⟩⟩
 ·obtain ⟨ne, ⟨S, k, e4⟩, ns, e5, l⟩ := fr.kp.dkk p c d
  exact ⟨ne, ⟨S, k, st _ _ (hd p c d).1.symm e4⟩, ns, st _ _ (hd p c d).2.symm e5, l⟩
 ·rw [e1] at d
  cases d
  exact ⟨t, n, dx, upd_same⟩
 ·rcases get j s e' with ⟨rfl, rfl⟩ | ⟨z, e'⟩
  ·exact ⟨a, C', e1, e2, dx, upd_same⟩
  ·have x := fr.at_ j s e'
   have na : ∀ b, mutb s = true -> ixv σ j = some (.ref b) -> b ≠ a := fun b m q y => z (fr.ap i j a _ s e e' rfl m e2 (by rw [q, y]))
   cases s with
   | no => trivial
   | va T => obtain ⟨y, e4, v⟩ := x; exact ⟨y, e4, v.hs hs⟩
   | own Ts => obtain ⟨b, xs, e4, e5, e6, z', p⟩ := x; exact ⟨b, xs, e4, st _ _ (na b rfl e4) e5, e6, z', p.hs hs⟩
   | dct kts => obtain ⟨b, kvs, e4, e5, e6, n', z', p⟩ := x; exact ⟨b, kvs, e4, st _ _ (na b rfl e4) e5, e6, n', z', p.hs hs⟩
   | dk => exact x
   | fn _ => exact x
   | rd t' p' => obtain ⟨b, D, e4, e5, dx', e6⟩ := x; exact ⟨b, D, e4, e5, dx', st _ _ (na b rfl e5) e6⟩
 ·obtain ⟨u, eu, mu⟩ := sub j s q1 m1
  obtain ⟨u', eu', mu'⟩ := sub k s' q2 m2
  exact fr.ap j k b u u' eu eu' mu mu' x1 x2
def sRdP (i : Nat) (u : UT) : UTs := fun P ρ => u ρ fun T ρ1 => ∃ n t p, T = iT n /\ ρ1[i]? = some (.rd t p) /\ P.nx (ρ1.set i (.rd t n))
theorem us_rdP (i : Nat) {x : Str} {p pos pos' : Pos} {e : Expr} {u : UT} (hF : FRd F C) (hC : RdK X.K C) (he : UE X F e u) (hN : X.N[i]? = some x := by rfl) (hv : Vis X.env.scope x := by first | exact Or.inl rfl | exact Or.inr (Or.inl rfl) | exact Or.inr (Or.inr rfl)) (hd : (x == ("__debug__" : Str)) = false := by decide) (hcd : (x == ("__classdict__" : Str)) = false := by decide)
  (hs : swapsWith e (some (.Attribute (.Name x p) "place" pos')) pos.line X.env = pure false := by rfl) : US X F (.Assign [.Attribute (.Name x p) "place" pos'] e pos) (sRdP i u) :=
 ⟨PS.imp (ps_fld (pe_var hN hv hd hcd) he.pe hs) fun D σ H ⟨ρ, P, fr, h, k1, _⟩ => by
  refine ⟨ρ, _, fr, h, fun y T H1 ρ1 s1 v1 q => ?_⟩
  obtain ⟨n, t, pl, rfl, e0, q⟩ := q
  obtain ⟨rfl, _⟩ := v1.leafI
  obtain ⟨a, C', e1, e2, dx, e3⟩ := s1.fr.at_ i _ e0
  have := hF a C' e1
  subst this
  have mv := s1.fr.move (n := n) e0 e1 e2 e3
  exact ⟨_, ixv_some e2, a, C', dx, _, rfl, e3, hC.cl, hC.np, by simp, k1 _ _ _ mv.fr ((s1.hs fr).trans (mv.hs s1.fr)) q⟩⟩
end
end L2
namespace L2
open PySem PySem.Spec PyProof.Rows WordM
section
variable {X : Cx} {F : Fm} {C : Addr}
theorem FrOk.callR {K : PySem.W.Frag} {ρ : PEnv} {σ : St} {H H' : Hp} {i : Nat} {t : Str} {p n : Int} {a C' : Addr} (fr : FrOk K F ρ σ H) (e : ρ[i]? = some (.rd t p)) (e1 : F.rd = some (a, C')) (e2 : ixv σ i = some (.ref a)) (e3 : RdAt H a C' t p)
  (st : ∀ b u, b ≠ a -> H b = some u -> H' b = some u) (e4 : RdAt H' a C' t n) : Stp K F σ ρ H (ρ.set i (.rd t n)) H' := by
 have hi : i < ρ.length := (List.getElem?_eq_some_iff.mp e).1
 obtain ⟨dx, e3⟩ := e3
 have hd := fr.ins_nodk e3
 have hs : HS H H' := fun b o h q => st b o (fun z => by subst z; rw [e3] at q; cases q; cases h) q
 have get : ∀ (j : Nat) (s : Sl), (ρ.set i (.rd t n))[j]? = some s -> (i = j /\ s = .rd t n) \/ (i ≠ j /\ ρ[j]? = some s) := fun j s e' => by
  by_cases z : i = j
  ·subst z
   rw [List.getElem?_set_self hi] at e'
   exact .inl ⟨rfl, (Option.some.inj e').symm⟩
  ·rw [List.getElem?_set_ne z] at e'; exact .inr ⟨z, e'⟩
 have sub : Sbv (ρ.set i (.rd t n)) ρ := fun j s e' m' => by
  rcases get j s e' with ⟨rfl, rfl⟩ | ⟨z, e'⟩
  ·exact ⟨_, e, rfl⟩
  ·exact ⟨s, e', m'⟩
 refine ⟨⟨fr.d0, fr.r0, ⟨fun b u q n1 n2 => st b u (n2 a C' e1) (fr.kp.st b u q n1 n2), fun p c d => ?_, fun a' D d => ?_⟩, by rw [List.length_set]; exact fr.len, fun j s e' => ?_, fun j k b s s' q1 q2 m1 m2 x1 x2 => ?_⟩, fun b u q _ n1 => st b u (fun z => n1 i _ e rfl (by rw [z]; exact e2)) q, sub, fun b u q => ?_⟩
 ·obtain ⟨ne, ⟨S, k, e4⟩, ns, e5, l⟩ := fr.kp.dkk p c d
  exact ⟨ne, ⟨S, k, st _ _ (hd p c d).1.symm e4⟩, ns, st _ _ (hd p c d).2.symm e5, l⟩
 ·rw [e1] at d
  cases d
  exact ⟨t, n, e4⟩
 ·rcases get j s e' with ⟨rfl, rfl⟩ | ⟨z, e'⟩
  ·exact ⟨a, C', e1, e2, e4⟩
  ·have x := fr.at_ j s e'
   have na : ∀ b, mutb s = true -> ixv σ j = some (.ref b) -> b ≠ a := fun b m q y => z (fr.ap i j a _ s e e' rfl m e2 (by rw [q, y]))
   cases s with
   | no => trivial
   | va T => obtain ⟨y, e4, v⟩ := x; exact ⟨y, e4, v.hs hs⟩
   | own Ts => obtain ⟨b, xs, e4, e5, e6, z', p⟩ := x; exact ⟨b, xs, e4, st _ _ (na b rfl e4) e5, e6, z', p.hs hs⟩
   | dct kts => obtain ⟨b, kvs, e4, e5, e6, n', z', p⟩ := x; exact ⟨b, kvs, e4, st _ _ (na b rfl e4) e5, e6, n', z', p.hs hs⟩
   | dk => exact x
   | fn _ => exact x
   | rd t' p' => obtain ⟨b, D, e4, e5, dx', e6⟩ := x; exact ⟨b, D, e4, e5, dx', st _ _ (na b rfl e5) e6⟩
 ·obtain ⟨u, eu, mu⟩ := sub j s q1 m1
  obtain ⟨u', eu', mu'⟩ := sub k s' q2 m2
  exact fr.ap j k b u u' eu eu' mu mu' x1 x2
 ·by_cases z : b = a
  ·obtain ⟨dx', e5⟩ := e4
   exact ⟨_, by rw [z]; exact e5⟩
  ·exact ⟨u, st b u z q⟩
abbrev PSpR := Str -> Int -> List Tv -> (Tv -> Int -> Prop) -> Prop
def liftPR (K : PySem.W.Frag) (C : Addr) (psp : PSpR) : Sp := fun vs H Q _ => ∃ a t p vs' Ts R, vs = .ref a :: vs' /\ RdAt H a C t p /\ VAs K H vs' Ts /\ psp t p Ts R /\ ∀ x T H' p', (∀ b u, b ≠ a -> H b = some u -> H' b = some u) -> RdAt H' a C t p' -> VA K H' x T -> R T p' -> Q x H'
def PGoodR (P : Program) (w : World) (K : PySem.W.Frag) (mg : Str -> Option Value) (base : Heap) (k : Nat) (x : Str) (ps : List Str) (C : Addr) (psp : PSpR) : Prop := Good P w K mg base k x ps (liftPR K C psp)
def vaS : List Ar -> List Tv -> Prop
 | [], [] => True
 | .va T :: as, U :: Ts => T = U /\ vaS as Ts
 | _, _ => False
theorem vaS_at {K : PySem.W.Frag} {dk : Option (Addr × Addr)} {H : Hp} : ∀ {xs : List V} {as : List Ar} {Ts : List Tv}, Paired (ArAt K dk H) xs as -> vaS as Ts -> VAs K H xs Ts
 | [], [], [], _, _ => .nil
 | x :: xs, .va T :: as, U :: Ts, .cons r t, h => by
  obtain ⟨rfl, h⟩ := h
  exact .cons r (vaS_at t h)
def uCallR (i : Nat) (psp : PSpR) (ua : UTa) : UT := fun ρ Q => (∃ t p, ρ[i]? = some (.rd t p)) /\ ua ρ fun as ρ1 => ∃ t p Ts, ρ1[i]? = some (.rd t p) /\ vaS as Ts /\ psp t p Ts fun T p' => Q T (ρ1.set i (.rd t p'))
theorem ue_fnR (i : Nat) {k : Nat} {f x : Str} {ps : List Str} {psp : PSpR} {es : List Expr} {ua : UTa} {p p' pos : Pos} (hF : FRd F C) (G : PGoodR X.prog X.w X.K X.mg X.base k f ps C psp) (hr : Room k X.A) (hg : Gl X f) (ha : UA X F es ua)
  (hN : X.N[i]? = some x := by rfl) (hv : Vis X.env.scope x := by first | exact Or.inl rfl | exact Or.inr (Or.inl rfl) | exact Or.inr (Or.inr rfl)) (hd : (x == ("__debug__" : Str)) = false := by decide) (hcd : (x == ("__classdict__" : Str)) = false := by decide) (hdb : (f == ("__debug__" : Str)) = false := by decide)
  (hpl : (backTo pos (starEach es X.env)).any (·.1) = false := by rfl) : UE X F (.Call (.Name f p) (.Name x p' :: es) [] pos) (uCallR i psp ua) :=
 ⟨PE.imp (pe_fn G hr hg (pa_c (pe_var hN hv hd hcd) ha.pa rfl) hdb rfl hpl) fun σ H QQ ⟨ρ, Q, fr, ⟨⟨t0, p0, e0⟩, hu⟩, k⟩ => by
  obtain ⟨a, C', e1, e2, _⟩ := fr.at_ i _ e0
  refine ⟨.ref a, ixv_some e2, ρ, _, fr, hu, fun xs as H1 ρ1 s1 p1 q1 => ?_⟩
  obtain ⟨t, pl, Ts, er, va, q⟩ := q1
  obtain ⟨a2, C2, e3, e4, e5⟩ := s1.fr.at_ i _ er
  rw [e1] at e3
  cases e3
  have := hF a C' e1
  subst this
  show liftPR X.K C' psp (.ref a :: xs ++ []) H1 QQ E0
  rw [List.append_nil]
  exact ⟨a, t, pl, xs, Ts, _, rfl, e5, vaS_at p1 va, q, fun z W H' p' st rd' v qq => k _ _ _ _ (s1.trans (s1.fr.callR er e1 e2 e5 st rd')) v qq⟩⟩
end
def startR (n : Nat) (t : Str) (p : Int) (Ts : List Tv) : PEnv := .rd t p :: (Ts.map Sl.va ++ List.replicate (n - (Ts.length + 1)) .no)
theorem fr_startR {K : PySem.W.Frag} {H : Hp} {a C : Addr} {t : Str} {pl : Int} {N : List Str} {vs : List V} {Ts : List Tv} (h : RdAt H a C t pl) (p : VAs K H vs Ts) : FrOk K ⟨H, none, some (a, C)⟩ (startR N.length t pl Ts) (start N (.ref a :: vs)) H := by
 have l : vs.length = Ts.length := Paired.length p
 refine ⟨fun _ _ z => (nomatch z), fun a' C' z => by cases z; exact ⟨t, pl, h⟩, ⟨fun _ _ e _ _ => e, fun _ _ z => (nomatch z), fun a' C' z => by cases z; exact ⟨t, pl, h⟩⟩, ?_, fun i s e => ?_, fun i j b s s' e e' m m' _ _ => ?_⟩
 ·unfold startR start
  simp
  omega
 ·match i, e with
  | 0, e =>
   cases (show some (Sl.rd t pl) = some s from e)
   exact ⟨a, C, rfl, rfl, h⟩
  | i + 1, e =>
   have e : (Ts.map Sl.va ++ List.replicate (N.length - (Ts.length + 1)) Sl.no)[i]? = some s := e
   by_cases hi : i < Ts.length
   ·rw [List.getElem?_append_left (by simpa using hi), List.getElem?_map] at e
    obtain ⟨T, eT, rfl⟩ := Option.map_eq_some_iff.mp e
    have hv : i < vs.length := by omega
    obtain ⟨T', eT', v⟩ := paired_get p (List.getElem?_eq_getElem hv)
    rw [eT] at eT'
    cases eT'
    refine ⟨vs[i], ?_, v⟩
    refine ixv_of ?_
    show ((V.ref a :: vs).map some ++ _)[i + 1]? = _
    rw [List.getElem?_append_left (by simpa using hv), List.getElem?_map, List.getElem?_cons_succ, List.getElem?_eq_getElem hv]
    rfl
   ·rw [List.getElem?_append_right (by simpa using hi), List.getElem?_replicate] at e
    split at e
    ·cases e; trivial
    ·cases e
 ·have one : ∀ (i : Nat) (s : Sl), (startR N.length t pl Ts)[i]? = some s -> mutb s = true -> i = 0 := fun i s e m => by
   match i, e with
   | 0, _ => rfl
   | i + 1, e =>
    have e : (Ts.map Sl.va ++ List.replicate (N.length - (Ts.length + 1)) Sl.no)[i]? = some s := e
    by_cases hi : i < Ts.length
    ·rw [List.getElem?_append_left (by simpa using hi), List.getElem?_map] at e
     obtain ⟨T, eT, rfl⟩ := Option.map_eq_some_iff.mp e
     cases m
    ·rw [List.getElem?_append_right (by simpa using hi), List.getElem?_replicate] at e
     split at e
     ·cases e; cases m
     ·cases e
  rw [one i s e m, one j s' e' m']
theorem Has.pgR {P : Program} {w : World} {K : PySem.W.Frag} {mg : Str -> Option Value} {base : Heap} {x : Str} {st : Stmt} {N ps : List Str} {k : Nat} {C : Addr} {psp : PSpR} {us : UTs} (h : Has K mg x st) (S : FnScope N ps (defScope st))
  (hb : ∀ (kV doc pm : Value) (an : Option Addr) (cdv ct : Value) (us : List Value), us.length = ps.length -> bindArgs (PySem.W.fnOf x x (defArgs st) (defBody st) (defScope st) .none kV doc pm an cdv ct) ⟨us, []⟩ = pure (ps.zip us))
  (hbody : ∀ (f : Addr) (cdv : Value) (A : Around) (outer : List Env) (s : Shared) (H : Hp) (E : XK) (F : Fm), FRd F C -> Room k (A.deeper (envOfC x (defScope st) s.heap.objs.size f cdv)) -> USs (cxOf CX0 P w K mg base N x (defScope st) f cdv A outer s H E).nox F (defBody st) us)
  (hp : ∀ t p Ts R, psp t p Ts R -> Ts.length + 1 = ps.length /\ us { nx := fun ρ => ∃ p', ρ[0]? = some (.rd t p') /\ R nT p', rt := fun _ => False, rr := fun T ρ => ∃ p', ρ[0]? = some (.rd t p') /\ R T p' } (startR N.length t p Ts)) : PGoodR P w K mg base (k + 1) x ps C psp := by
 refine h.good S hb (fun vs H Q E q => ?_) (fun f cdv A outer s H vs Q E hr q => ?_)
 ·obtain ⟨a, t, p, vs', Ts, R, rfl, _, pv, q, _⟩ := q
  have := Paired.length pv
  have := (hp t p Ts R q).1
  rw [List.length_cons]
  omega
 ·obtain ⟨a, t, p, vs', Ts, R, rfl, hd, pv, q, k⟩ := q
  have stay : ∀ {H' : Hp}, Kp none (some (a, C)) H H' -> ∀ b u, b ≠ a -> H b = some u -> H' b = some u := fun kp b u z e => kp.st b u e (fun _ _ y => nomatch y) fun a' C' y => by cases y; exact z
  refine ⟨_, (hbody f cdv A outer s H E ⟨H, none, some (a, C)⟩ (fun a' C' z => by cases z; rfl) hr).ps, startR N.length t p Ts, _, fr_startR hd pv, (hp t p Ts R q).2, fun σ' H' ρ' fr _ ⟨p', e, q⟩ => ?_, fun x T H' ρ' kp rs v q => ?_, fun _ _ _ _ _ z => z, fun _ _ _ _ _ z => z⟩
  ·obtain ⟨a', C', e1, e2⟩ := fr.rds 0 t p' e
   cases e1
   exact k _ _ _ p' (stay fr.kp) e2 (.flat rfl) q
  ·obtain ⟨p', e, q⟩ := q.resolve_left id
   obtain ⟨a', C', e1, e2⟩ := rs 0 t p' e
   cases e1
   exact k _ _ _ p' (stay kp) e2 v q
end L2
namespace L2
open PySem PySem.Spec PyProof.Rows WordM
def HasM (K : PySem.W.Frag) (C : Addr) (m qual : Str) (st : Stmt) : Prop := ∃ (f : Addr) (fd : FuncData), Fun K m qual st f fd /\ Meth K C m f
def MGoodR (P : Program) (w : World) (K : PySem.W.Frag) (mg : Str -> Option Value) (base : Heap) (k : Nat) (m : Str) (ps : List Str) (C : Addr) (psp : PSpR) : Prop :=
 ∃ (f : Addr) (fd : FuncData), FnOk P w K mg base CX0 k f fd ps (liftPR K C psp) /\ Binds K fd ps [] /\ Meth K C m f
theorem HasM.pgR {P : Program} {w : World} {K : PySem.W.Frag} {mg : Str -> Option Value} {base : Heap} {m qual : Str} {st : Stmt} {N ps : List Str} {k : Nat} {C : Addr} {psp : PSpR} {us : UTs} (h : HasM K C m qual st) (S : FnScope N ps (defScope st))
  (hb : ∀ (kV doc pm : Value) (an : Option Addr) (cdv ct : Value) (us : List Value), us.length = ps.length -> bindArgs (PySem.W.fnOf m qual (defArgs st) (defBody st) (defScope st) .none kV doc pm an cdv ct) ⟨us, []⟩ = pure (ps.zip us))
  (hbody : ∀ (f : Addr) (cdv : Value) (A : Around) (outer : List Env) (s : Shared) (H : Hp) (E : XK) (F : Fm), FRd F C -> Room k (A.deeper (envOfC qual (defScope st) s.heap.objs.size f cdv)) -> USs (cxOf CX0 P w K mg base N qual (defScope st) f cdv A outer s H E).nox F (defBody st) us)
  (hp : ∀ t p Ts R, psp t p Ts R -> Ts.length + 1 = ps.length /\ us { nx := fun ρ => ∃ p', ρ[0]? = some (.rd t p') /\ R nT p', rt := fun _ => False, rr := fun T ρ => ∃ p', ρ[0]? = some (.rd t p') /\ R T p' } (startR N.length t p Ts)) : MGoodR P w K mg base (k + 1) m ps C psp := by
 obtain ⟨f, fd, FU, hm⟩ := h
 refine ⟨f, fd, FU.ok S (fun vs H Q E q => ?_) (fun cdv A outer s H vs Q E hr q => ?_), FU.binds hb, hm⟩
 ·obtain ⟨a, t, p, vs', Ts, R, rfl, _, pv, q, _⟩ := q
  have := Paired.length pv
  have := (hp t p Ts R q).1
  rw [List.length_cons]
  omega
 ·obtain ⟨a, t, p, vs', Ts, R, rfl, hd, pv, q, k⟩ := q
  have stay : ∀ {H' : Hp}, Kp none (some (a, C)) H H' -> ∀ b u, b ≠ a -> H b = some u -> H' b = some u := fun kp b u z e => kp.st b u e (fun _ _ y => nomatch y) fun a' C' y => by cases y; exact z
  refine ⟨_, (hbody f cdv A outer s H E ⟨H, none, some (a, C)⟩ (fun a' C' z => by cases z; rfl) hr).ps, startR N.length t p Ts, _, fr_startR hd pv, (hp t p Ts R q).2, fun σ' H' ρ' fr _ ⟨p', e, q⟩ => ?_, fun x T H' ρ' kp rs v q => ?_, fun _ _ _ _ _ z => z, fun _ _ _ _ _ z => z⟩
  ·obtain ⟨a', C', e1, e2⟩ := fr.rds 0 t p' e
   cases e1
   exact k _ _ _ p' (stay fr.kp) e2 (.flat rfl) q
  ·obtain ⟨p', e, q⟩ := q.resolve_left id
   obtain ⟨a', C', e1, e2⟩ := rs 0 t p' e
   cases e1
   exact k _ _ _ p' (stay kp) e2 v q
section
variable {X : Cx} {F : Fm} {C : Addr}
theorem lift_methR (i : Nat) {m : Str} {psp : PSpR} {ua : UTa} (hF : FRd F C) (hl : ∀ a b : V, List.lookup m [(("text" : Str), a), ("place", b)] = none) (σ : St) (H : Hp) (QQ : VK) (h : liftE X.K F (uCallR i psp ua) σ H QQ) : tMeth C m (liftPR X.K C psp) [] E0 (tVar i) (liftA X.K F ua) σ H QQ := by
 obtain ⟨ρ, Q, fr, ⟨⟨t0, p0, e0⟩, hu⟩, k⟩ := h
 obtain ⟨a, C', e1, e2, dx, e3⟩ := fr.at_ i _ e0
 have := hF a C' e1
 subst this
 refine ⟨.ref a, ixv_some e2, a, dx, _, rfl, e3, hl _ _, ρ, _, fr, hu, fun xs as H1 ρ1 s1 p1 q1 => ?_⟩
 obtain ⟨t, pl, Ts, er, va, q⟩ := q1
 obtain ⟨a2, C2, e4, e5, e6⟩ := s1.fr.at_ i _ er
 rw [e1] at e4
 cases e4
 rw [List.append_nil]
 exact ⟨a, t, pl, xs, Ts, _, rfl, e6, vaS_at p1 va, q, fun z W H' p' st rd' v qq => k _ _ _ _ (s1.trans (s1.fr.callR er e1 e2 e6 st rd')) v qq⟩
theorem ue_methR (i : Nat) {k : Nat} {m x : Str} {ps : List Str} {psp : PSpR} {e : Expr} {es : List Expr} {ua : UTa} {p apos pos : Pos} {pl : Sem Bool} (hF : FRd F C) (hC : RdK X.K C) (G : MGoodR X.prog X.w X.K X.mg X.base k m ps C psp) (hr : Room k X.A) (ha : UA X F (e :: es) ua)
  (hN : X.N[i]? = some x := by rfl) (hv : Vis X.env.scope x := by first | exact Or.inl rfl | exact Or.inr (Or.inl rfl) | exact Or.inr (Or.inr rfl)) (hd : (x == ("__debug__" : Str)) = false := by decide) (hcd : (x == ("__classdict__" : Str)) = false := by decide)
  (hl : ∀ a b : V, List.lookup m [(("text" : Str), a), ("place", b)] = none := by intro a b; rfl)
  (hst : starEach (e :: es) X.env = (false, eval e X.env) :: starEach es X.env := by rfl) (hpl : (backTo pos (starEach es X.env)).any (·.1) = false := by rfl)
  (ht : eval (.Call (.Attribute (.Name x p) m apos) (e :: es) [] pos) X.env = (do
   let ov <- eval (.Name x p) X.env
   standAt apos.atName
   let (f, first) <- holding [ov] (getMethod ov m pl)
   callWith pos f first (backTo pos (starEach (e :: es) X.env)) (backToKw pos (keywordEach [] X.env))) := by rfl) : UE X F (.Call (.Attribute (.Name x p) m apos) (e :: es) [] pos) (uCallR i psp ua) := by
 obtain ⟨f, fd, FO, hb, hm⟩ := G
 exact ⟨PE.imp (pe_meth (pl := pl) (pe_var hN hv hd hcd) hC.cl hm FO hr hb .nil pass0 ha.pa hst hpl ht) (lift_methR i hF hl)⟩
theorem ue_methR0 (i : Nat) {k : Nat} {m x : Str} {ps : List Str} {psp : PSpR} {p apos pos : Pos} {pl : Sem Bool} (hF : FRd F C) (hC : RdK X.K C) (G : MGoodR X.prog X.w X.K X.mg X.base k m ps C psp) (hr : Room k X.A)
  (hN : X.N[i]? = some x := by rfl) (hv : Vis X.env.scope x := by first | exact Or.inl rfl | exact Or.inr (Or.inl rfl) | exact Or.inr (Or.inr rfl)) (hd : (x == ("__debug__" : Str)) = false := by decide) (hcd : (x == ("__classdict__" : Str)) = false := by decide)
  (hl : ∀ a b : V, List.lookup m [(("text" : Str), a), ("place", b)] = none := by intro a b; rfl)
  (ht : eval (.Call (.Attribute (.Name x p) m apos) [] [] pos) X.env = (do
   let ov <- eval (.Name x p) X.env
   standAt apos.atName
   let (f, first) <- holding [ov] (getMethod ov m pl)
   callWith pos f first (backTo pos (starEach [] X.env)) (backToKw pos (keywordEach [] X.env))) := by rfl) : UE X F (.Call (.Attribute (.Name x p) m apos) [] [] pos) (uCallR i psp uNil) := by
 obtain ⟨f, fd, FO, hb, hm⟩ := G
 exact ⟨PE.imp (pe_meth0 (pl := pl) (pe_var hN hv hd hcd) hC.cl hm FO hr hb .nil pass0 ht) fun σ H QQ ⟨ρ, Q, fr, ⟨_, hu⟩, k⟩ => by
  obtain ⟨t, pl, Ts, er, va, q⟩ := hu
  obtain ⟨a, C', e1, e2, dx, e3⟩ := fr.at_ i _ er
  have := hF a C' e1
  subst this
  refine ⟨.ref a, ixv_some e2, a, dx, _, rfl, e3, hl _ _, ?_⟩
  exact ⟨a, t, pl, [], Ts, _, rfl, ⟨dx, e3⟩, vaS_at (dk := none) .nil va, q, fun z W H' p' st rd' v qq => k _ _ _ _ (fr.callR er e1 e2 ⟨dx, e3⟩ st rd') v qq⟩⟩
end
end L2
namespace L2
open PySem PySem.Spec PyProof.Rows WordM
def spInitR (C : Addr) : Sp := fun vs H Q _ => ∃ x dx t, vs = [.ref x, .str t] /\ H x = some (.ins C dx []) /\
 ∀ H2 : Hp, H2 x = some (.ins C dx [("text", .str t), ("place", .int 0)]) -> (∀ b, b ≠ x -> H2 b = H b) -> Q .non H2
def MkR (P : Program) (w : World) (K : PySem.W.Frag) (mg : Str -> Option Value) (base : Heap) (k : Nat) (x : Str) (C : Addr) : Prop :=
 mg x = some (.ref C) /\ ∃ (f : Addr) (fd : FuncData), Mk K C f /\ FnOk P w K mg base CX0 k f fd ["self", "text"] (spInitR C) /\ Binds K fd ["self", "text"] []
def plainS : Sl -> Bool
 | .no => true
 | .va _ => true
 | .dk => true
 | .fn _ => true
 | _ => false
section
variable {X : Cx} {F : Fm} {C : Addr}
theorem fr_new {K : PySem.W.Frag} {ρ : PEnv} {σ : St} {H H2 : Hp} {i : Nat} {t : Str} {x dx : Addr} (fr : FrOk K F ρ σ H) (hp : ρ.all plainS = true) (hi : i < ρ.length) (nx : H x = none) (e : H2 x = some (.ins C dx [("text", .str t), ("place", .int 0)])) (st : ∀ b u, H b = some u -> H2 b = some u) :
  FrOk K ⟨H2, F.dk, some (x, C)⟩ (ρ.set i (.rd t 0)) (σ.set i (some (.ref x))) H2 := by
 have hs : HS H H2 := fun b u _ e => st b u e
 have pl : ∀ (j : Nat) (s : Sl), ρ[j]? = some s -> plainS s = true := fun j s e => List.all_eq_true.mp hp s (List.mem_of_getElem? e)
 have get : ∀ (j : Nat) (s : Sl), (ρ.set i (.rd t 0))[j]? = some s -> (i = j /\ s = .rd t 0) \/ (i ≠ j /\ ρ[j]? = some s) := fun j s e' => by
  by_cases z : i = j
  ·subst z
   rw [List.getElem?_set_self hi] at e'
   exact .inl ⟨rfl, (Option.some.inj e').symm⟩
  ·rw [List.getElem?_set_ne z] at e'; exact .inr ⟨z, e'⟩
 have dk : ∀ p c, F.dk = some (p, c) -> DeckAt H2 p c := fun p c d => by
  obtain ⟨ne, ⟨S, k, e4⟩, ns, e5, l⟩ := fr.kp.dkk p c d
  exact ⟨ne, ⟨S, k, st _ _ e4⟩, ns, st _ _ e5, l⟩
 have rd : ∀ a D, some (x, C) = some (a, D) -> ∃ t p, RdAt H2 a D t p := fun a D d => by
  cases d
  exact ⟨t, 0, dx, e⟩
 have one : ∀ (j : Nat) (s : Sl), (ρ.set i (.rd t 0))[j]? = some s -> mutb s = true -> i = j := fun j s e' m => by
  rcases get j s e' with ⟨z, _⟩ | ⟨_, e'⟩
  ·exact z
  ·have := pl j s e'
   cases s <;> first | exact absurd m Bool.false_ne_true | exact absurd this Bool.false_ne_true
 refine ⟨dk, rd, ⟨fun _ _ e _ _ => e, dk, rd⟩, by rw [List.length_set, List.length_set]; exact fr.len, fun j s e' => ?_, fun j k b s s' q1 q2 m1 m2 _ _ => (one j s q1 m1).symm.trans (one k s' q2 m2)⟩
 rcases get j s e' with ⟨rfl, rfl⟩ | ⟨z, e'⟩
 ·refine ⟨x, C, rfl, ?_, dx, e⟩
  unfold ixv
  rw [List.getElem?_set_self (by rw [<- fr.len]; exact hi)]
  rfl
 ·have h := fr.at_ j s e'
  have ix : ixv (σ.set i (some (.ref x))) j = ixv σ j := by
   unfold ixv
   rw [List.getElem?_set_ne z]
  have := pl j s e'
  cases s with
  | no => trivial
  | va T => obtain ⟨y, e4, v⟩ := h; exact ⟨y, ix.trans e4, v.hs hs⟩
  | dk => obtain ⟨p, c, e4, e5⟩ := h; exact ⟨p, c, e4, ix.trans e5⟩
  | fn a => exact ix.trans h
  | own _ => cases this
  | dct _ => cases this
  | rd _ _ => cases this
end
theorem mkR_of {P : Program} {w : World} {K : PySem.W.Frag} {mg : Str -> Option Value} {base : Heap} {x qual : Str} {st : Stmt} {k : Nat} {C f : Addr} {fd : FuncData} (FU : Fun K "__init__" qual st f fd) (S : FnScope ["self", "text"] ["self", "text"] (defScope st)) (hC : RdK K C) (M : Mk K C f) (hm : mg x = some (.ref C))
  (hb : ∀ (kV doc pm : Value) (an : Option Addr) (cdv ct : Value) (us : List Value), us.length = (["self", "text"] : List Str).length -> bindArgs (PySem.W.fnOf "__init__" qual (defArgs st) (defBody st) (defScope st) .none kV doc pm an cdv ct) ⟨us, []⟩ = pure ((["self", "text"] : List Str).zip us))
  (hbody : ∀ (cdv : Value) (A : Around) (outer : List Env) (s : Shared) (H : Hp) (E : XK), Room k (A.deeper (envOfC qual (defScope st) s.heap.objs.size f cdv)) -> PSs (cxOf CX0 P w K mg base ["self", "text"] qual (defScope st) f cdv A outer s H E).nox (defBody st) (tSeq (sFld K (tVar 0) (tVar 1) "text") (sFld K (tVar 0) (tC (.int 0)) "place"))) : MkR P w K mg base (k + 1) x C := by
 refine ⟨hm, f, fd, M, FU.ok S (fun vs H Q E q => ?_) (fun cdv A outer s H vs Q E hr q => ?_), FU.binds hb⟩
 ·obtain ⟨_, _, _, rfl, _⟩ := q
  rfl
 ·obtain ⟨a, dx, t, rfl, e, k⟩ := q
  refine ⟨_, hbody cdv A outer s H E hr, _, rfl, _, rfl, a, C, dx, _, rfl, e, hC.cl, hC.nt, by decide, _, rfl, a, C, dx, _, rfl, upd_same, hC.cl, hC.np, (show 1 < 1000 by decide), ?_⟩
  exact k _ upd_same fun b z => by rw [upd_ne z, upd_ne z]
end L2
namespace L2
open PySem PySem.Spec PyProof.Rows WordM
section
variable {X : Cx} {F : Fm} {C : Addr}
def uFn (a : Addr) (t : UTa) : UTa := fun ρ Q => t ρ fun as ρ2 => Q (.fn a :: as) ρ2
theorem ua_fn {x : Str} {a : Addr} {pos : Pos} {es : List Expr} {t : UTa} (hg : Gl X x) (hm : X.mg x = some (.ref a)) (hr : UA X F es t) (hd : (x == ("__debug__" : Str)) = false := by decide) : UA X F (.Name x pos :: es) (uFn a t) :=
 ⟨PA.imp (pa_c (pe_glob (v := .ref a) hg hm rfl hd) hr.pa rfl) fun σ H QQ ⟨ρ, Q, fr, h, k⟩ => ⟨ρ, _, fr, h, fun xs as H2 ρ2 s2 p2 q2 => k _ _ _ _ s2 (.cons (b := Ar.fn a) rfl p2) q2⟩⟩
theorem pe_callV {CX : CXT} {k i : Nat} {f : Addr} {fd : FuncData} {ps : List Str} {sp : Sp} {dvs : List V} {ds : List Value} {E : XK} {g : Str} {e : Expr} {es : List Expr} {t : TA} {p pos : Pos} (FO : FnOk X.prog X.w X.K X.mg X.base CX k f fd ps sp) (hr : Room k X.A) (hk : PySem.W.keepIn X.K (.ref f) = true) (hb : Binds X.K fd ps ds) (hdv : Vals dvs ds) (hx : Passes CX X E)
  (ha : PA X (e :: es) t) (hN : X.N[i]? = some g) (hv : Vis X.env.scope g) (hd : (g == ("__debug__" : Str)) = false) (hcd : (g == ("__classdict__" : Str)) = false) (he : starEach (e :: es) X.env = (false, eval e X.env) :: starEach es X.env) (hpl : (backTo pos (starEach es X.env)).any (·.1) = false) :
  PE X (.Call (.Name g p) (e :: es) [] pos) (fun σ H Q => σ[i]? = some (some (.ref f)) /\ tCall sp dvs E t σ H Q) := by
 intro pins s σ H Q I ⟨ef, h⟩
 refine wpAny_Call_Name_kw (thn (pe_var hN hv hd hcd pins s σ H (fun v H' => v = .ref f /\ H' = H) I ⟨_, ef, rfl, rfl⟩) fun u s1 ⟨v, H1, I1, r1, ev, eH⟩ => ?_)
 subst ev eH
 obtain rfl : u = Value.ref f := r1
 refine PySem.W.callWith_K (h₀ := X.base) I1.ok.mod.kin hk (thn (ha pos pins s1 σ _ _ I1 h) fun us s2 ⟨vs, H2, I2, r, q⟩ => ⟨I2.kIn, ?_⟩) he hpl
 exact run_fn FO hr hb hdv hx I2 r q
def uCallV (i j : Nat) (f : Addr) (psp : PSpR) : UT := fun ρ Q => ρ[i]? = some (.fn f) /\ ∃ t p, ρ[j]? = some (.rd t p) /\ psp t p [] fun T p' => Q T (ρ.set j (.rd t p'))
end
end L2
namespace L2
open PySem PySem.Spec PyProof.Rows WordM
section
variable {X : Cx} {F : Fm}
theorem ps_tryN {body : List Stmt} {h0 : ExceptHandler} {hs : List ExceptHandler} {pos : Pos} {tb : TS} (hb : PSs X body tb) (hx : ∀ v s, ¬ X.xe v s) : PS X (.Try body (h0 :: hs) [] [] pos) tb := by
 intro pins s σ H Dn I h
 refine wpAny_Try_except (wpAny_mono (hb pins s σ H Dn I h) (fun f s1 q => ?_) (fun v s1 q => absurd q (hx v s1)))
 cases f with
 | next => exact wpAny_execs_nil q
 | brk => exact q
 | cont => exact q
 | ret u => exact q
theorem us_tryN {body : List Stmt} {h0 : ExceptHandler} {hs : List ExceptHandler} {pos : Pos} {ub : UTs} (hb : USs X F body ub) (hx : ∀ v s, ¬ X.xe v s) : US X F (.Try body (h0 :: hs) [] [] pos) ub := ⟨ps_tryN hb.ps hx⟩
end
end L2
namespace L2
open PySem PySem.Spec PyProof.Rows WordM
def NA (K : PySem.W.Frag) (H0 H : Hp) (x : V) : Tv -> Prop
 | .leaf v => x = v /\ flatV v = true
 | .seq false Ts => ∃ a xs, x = .ref a /\ H a = some (.lst xs) /\ H0 a = none /\ Ts.length <= 100000 /\ VAs K H xs Ts
 | .seq true Ts => VA K H x (.seq true Ts)
 | .dct kts => ∃ a kvs, x = .ref a /\ H a = some (.dK kvs) /\ H0 a = none /\ (kts.map (·.1)).Nodup /\ kts.length < 64 /\ VAk K H kvs kts
theorem NA.back {K : PySem.W.Frag} {H0 H1 H : Hp} {x : V} {T : Tv} (h : NA K H1 H x T) (n : ∀ a, H1 a = none -> H0 a = none) : NA K H0 H x T := by
 match T, h with
 | .leaf _, h => exact h
 | .seq true _, h => exact h
 | .seq false _, ⟨a, xs, e1, e2, e3, r⟩ => exact ⟨a, xs, e1, e2, n a e3, r⟩
 | .dct _, ⟨a, xs, e1, e2, e3, r⟩ => exact ⟨a, xs, e1, e2, n a e3, r⟩
abbrev UTn := PEnv -> (Tv -> PEnv -> Prop) -> Prop
def liftN (K : PySem.W.Frag) (F : Fm) (u : UTn) : TS := fun D σ H => ∃ ρ R, FrOk K F ρ σ H /\ u ρ R /\ ∀ x T H' ρ', Kp F.dk F.rd F.H0 H' -> RdS F ρ' H' -> NA K F.H0 H' x T -> R T ρ' -> D.rt x H'
structure UNs (X : Cx) (F : Fm) (st : List Stmt) (u : UTn) : Prop where
 ps : PSs X st (liftN X.K F u)
section
variable {X : Cx} {F : Fm} {C : Addr} {e : Expr} {es : List Expr} {x : Str} {p pos : Pos} {st : Stmt} {rest : List Stmt}
def nRet (u : UT) : UTn := fun ρ R => u ρ fun T ρ' => ∃ v, T = .leaf v /\ R T ρ'
theorem un_ret {u : UT} (h : UE X F e u) : UNs X F [.Return (some e) pos] (nRet u) :=
 ⟨pss_one (PS.imp (ps_ret h.pe) fun D σ H ⟨ρ, R, fr, h, k⟩ => ⟨ρ, _, fr, h, fun x T H' ρ' s v ⟨w, eT, q⟩ => by
  subst eT
  exact k x (.leaf w) H' ρ' s.fr.kp s.fr.rds v.leafI q⟩)⟩
def nOwn (i : Nat) : UTn := fun ρ R => ∃ Ts, ρ[i]? = some (.own Ts) /\ R (.seq false Ts) ρ
theorem un_own (i : Nat) (hN : X.N[i]? = some x := by rfl) (hv : Vis X.env.scope x := by first | exact Or.inl rfl | exact Or.inr (Or.inl rfl) | exact Or.inr (Or.inr rfl)) (hd : (x == ("__debug__" : Str)) = false := by decide) (hcd : (x == ("__classdict__" : Str)) = false := by decide) : UNs X F [.Return (some (.Name x p)) pos] (nOwn i) :=
 ⟨pss_one (PS.imp (ps_ret (pe_var hN hv hd hcd)) fun D σ H ⟨ρ, R, fr, ⟨Ts, e0, q⟩, k⟩ => by
  obtain ⟨a, xs, ea, eH, h0, z, v⟩ := fr.at_ i _ e0
  exact ⟨_, ixv_some ea, k (.ref a) (.seq false Ts) H ρ fr.kp fr.rds ⟨a, xs, rfl, eH, h0, z, v⟩ q⟩)⟩
def nSeq (s : UTs) (t : UTn) : UTn := fun ρ R => s { nx := fun ρ' => t ρ' R, rt := fun _ => False } ρ
theorem un_cons {s : UTs} {t : UTn} (h : US X F st s) (hr : UNs X F rest t) : UNs X F (st :: rest) (nSeq s t) := ⟨PSs.imp (pss_cons h.ps hr.ps) fun D σ H ⟨ρ, R, fr, h, k⟩ =>
 ⟨ρ, _, fr, h, fun σ' H' ρ' fr' hs q => ⟨ρ', R, fr', q, k⟩, fun _ _ _ _ _ _ _ z => z.elim False.elim False.elim, fun _ _ _ _ _ z => z.elim, fun _ _ _ _ _ z => z.elim⟩⟩
def nIf (t : UTt) (s r : UTn) : UTn := fun ρ R => t ρ fun b ρ1 => if b = true then s ρ1 R else r ρ1 R
theorem un_if {c : Expr} {a : List Stmt} {t : UTt} {s r : UTn} (hc : UB X F c t) (ha : UNs X F a s) (hb : UNs X F rest r) : UNs X F (.If c a [] pos :: rest) (nIf t s r) := by
 refine ⟨PSs.imp (pss_cons (ps_if hc.pt ha.ps pss_nil) hb.ps) fun D σ H ⟨ρ, R, fr, h, k⟩ => ?_⟩
 refine ⟨ρ, _, fr, h, fun b H1 ρ1 s1 q1 => ?_⟩
 cases b with
 | true => exact iteT ⟨ρ1, R, s1.fr, by rw [if_pos rfl] at q1; exact q1, k⟩
 | false => exact iteF ⟨ρ1, R, s1.fr, by rw [if_neg Bool.false_ne_true] at q1; exact q1, k⟩
end
def liftNR (K : PySem.W.Frag) (C : Addr) (psp : PSpR) : Sp := fun vs H Q _ => ∃ a t p vs' Ts R, vs = .ref a :: vs' /\ RdAt H a C t p /\ VAs K H vs' Ts /\ psp t p Ts R /\ ∀ x T H' p', (∀ b u, b ≠ a -> H b = some u -> H' b = some u) -> RdAt H' a C t p' -> NA K H H' x T -> R T p' -> Q x H'
def NGoodR (P : Program) (w : World) (K : PySem.W.Frag) (mg : Str -> Option Value) (base : Heap) (k : Nat) (x : Str) (ps : List Str) (C : Addr) (psp : PSpR) : Prop := Good P w K mg base k x ps (liftNR K C psp)
theorem Has.ngR {P : Program} {w : World} {K : PySem.W.Frag} {mg : Str -> Option Value} {base : Heap} {x : Str} {st : Stmt} {N ps : List Str} {k : Nat} {C : Addr} {psp : PSpR} {us : UTn} (h : Has K mg x st) (S : FnScope N ps (defScope st))
  (hb : ∀ (kV doc pm : Value) (an : Option Addr) (cdv ct : Value) (us : List Value), us.length = ps.length -> bindArgs (PySem.W.fnOf x x (defArgs st) (defBody st) (defScope st) .none kV doc pm an cdv ct) ⟨us, []⟩ = pure (ps.zip us))
  (hbody : ∀ (f : Addr) (cdv : Value) (A : Around) (outer : List Env) (s : Shared) (H : Hp) (E : XK) (F : Fm), FRd F C -> Room k (A.deeper (envOfC x (defScope st) s.heap.objs.size f cdv)) -> UNs (cxOf CX0 P w K mg base N x (defScope st) f cdv A outer s H E).nox F (defBody st) us)
  (hp : ∀ t p Ts R, psp t p Ts R -> Ts.length + 1 = ps.length /\ us (startR N.length t p Ts) fun T ρ => ∃ p', ρ[0]? = some (.rd t p') /\ R T p') : NGoodR P w K mg base (k + 1) x ps C psp := by
 refine h.good S hb (fun vs H Q E q => ?_) (fun f cdv A outer s H vs Q E hr q => ?_)
 ·obtain ⟨a, t, p, vs', Ts, R, rfl, _, pv, q, _⟩ := q
  have := Paired.length pv
  have := (hp t p Ts R q).1
  rw [List.length_cons]
  omega
 ·obtain ⟨a, t, p, vs', Ts, R, rfl, hd, pv, q, k⟩ := q
  have stay : ∀ {H' : Hp}, Kp none (some (a, C)) H H' -> ∀ b u, b ≠ a -> H b = some u -> H' b = some u := fun kp b u z e => kp.st b u e (fun _ _ y => nomatch y) fun a' C' y => by cases y; exact z
  refine ⟨_, (hbody f cdv A outer s H E ⟨H, none, some (a, C)⟩ (fun a' C' z => by cases z; rfl) hr).ps, startR N.length t p Ts, _, fr_startR hd pv, (hp t p Ts R q).2, fun x T H' ρ' kp rs v q => ?_⟩
  obtain ⟨p', e, q⟩ := q
  obtain ⟨a', C', e1, e2⟩ := rs 0 t p' e
  cases e1
  exact k _ _ _ p' (stay kp) e2 v q
section
variable {X : Cx} {F : Fm} {C : Addr}
theorem NA.fin {K : PySem.W.Frag} {H1 H' : Hp} {z : V} {W : Tv} {a : Addr} {t : Str} {pl p' : Int} (rd : RdAt H1 a C t pl) (st : ∀ b u, b ≠ a -> H1 b = some u -> H' b = some u) (rd' : RdAt H' a C t p') (v : NA K H1 H' z W) {QQ : VK}
  (k : ∀ H'' : Hp, (∀ b u, b ≠ a -> H1 b = some u -> H'' b = some u) -> RdAt H'' a C t p' -> VA K H'' z W -> QQ z H'') : FzQ QQ z H' := by
 obtain ⟨dx, e0⟩ := rd
 have st2 : ∀ c o, H1 c = none -> ∀ b u, b ≠ a -> H1 b = some u -> upd H' c o b = some u := fun c o n b u z e => by
  rw [upd_ne (ne_of_none e n)]
  exact st b u z e
 have rd2 : ∀ c o, H1 c = none -> RdAt (upd H' c o) a C t p' := fun c o n => by
  obtain ⟨dx', e1⟩ := rd'
  exact ⟨dx', by rw [upd_ne (ne_of_none e0 n)]; exact e1⟩
 match W, v with
 | .leaf w, ⟨e, f⟩ => subst e; exact .inl (k H' st rd' (.flat f))
 | .seq true Ts, v => exact .inl (k H' st rd' v)
 | .seq false Ts, ⟨c, xs, ez, e, n, l, p⟩ => subst ez; exact .inr ⟨c, _, rfl, e, rfl, fun ob => k _ (st2 _ _ n) (rd2 _ _ n) (VA.seq (t := false) ⟨ob, upd_same⟩ l (p.hs (hs_put e rfl)))⟩
 | .dct kts, ⟨c, kvs, ez, e, n, nd, l, p⟩ => subst ez; exact .inr ⟨c, _, rfl, e, rfl, fun ob => k _ (st2 _ _ n) (rd2 _ _ n) (VA.dct ⟨ob, upd_same⟩ nd l (p.hs (hs_put e rfl)))⟩
theorem ue_fnN (i : Nat) {k : Nat} {f x : Str} {ps : List Str} {psp : PSpR} {es : List Expr} {ua : UTa} {p p' pos : Pos} (hF : FRd F C) (G : NGoodR X.prog X.w X.K X.mg X.base k f ps C psp) (hr : Room k X.A) (hg : Gl X f) (ha : UA X F es ua)
  (hN : X.N[i]? = some x := by rfl) (hv : Vis X.env.scope x := by first | exact Or.inl rfl | exact Or.inr (Or.inl rfl) | exact Or.inr (Or.inr rfl)) (hd : (x == ("__debug__" : Str)) = false := by decide) (hcd : (x == ("__classdict__" : Str)) = false := by decide) (hdb : (f == ("__debug__" : Str)) = false := by decide)
  (hpl : (backTo pos (starEach es X.env)).any (·.1) = false := by rfl) : UE X F (.Call (.Name f p) (.Name x p' :: es) [] pos) (uCallR i psp ua) :=
 ⟨PE.imp (PE.fz (pe_fn G hr hg (pa_c (pe_var hN hv hd hcd) ha.pa rfl) hdb rfl hpl)) fun σ H QQ ⟨ρ, Q, fr, ⟨⟨t0, p0, e0⟩, hu⟩, k⟩ => by
  obtain ⟨a, C', e1, e2, _⟩ := fr.at_ i _ e0
  refine ⟨.ref a, ixv_some e2, ρ, _, fr, hu, fun xs as H1 ρ1 s1 p1 q1 => ?_⟩
  obtain ⟨t, pl, Ts, er, va, q⟩ := q1
  obtain ⟨a2, C2, e3, e4, e5⟩ := s1.fr.at_ i _ er
  rw [e1] at e3
  cases e3
  have := hF a C' e1
  subst this
  show liftNR X.K C' psp (.ref a :: xs ++ []) H1 _ E0
  rw [List.append_nil]
  exact ⟨a, t, pl, xs, Ts, _, rfl, e5, vaS_at p1 va, q, fun z W H' p' st rd' v qq => NA.fin e5 st rd' v fun H'' st2 rd2 v2 => k _ _ _ _ (s1.trans (s1.fr.callR er e1 e2 e5 st2 rd2)) v2 qq⟩⟩
def nCallR (i : Nat) (psp : PSpR) (ua : UTa) : UTn := uCallR i psp ua
theorem un_fnN (i : Nat) {k : Nat} {f x : Str} {ps : List Str} {psp : PSpR} {es : List Expr} {ua : UTa} {p p' pos pos' : Pos} (hF : FRd F C) (G : NGoodR X.prog X.w X.K X.mg X.base k f ps C psp) (hr : Room k X.A) (hg : Gl X f) (ha : UA X F es ua)
  (hN : X.N[i]? = some x := by rfl) (hv : Vis X.env.scope x := by first | exact Or.inl rfl | exact Or.inr (Or.inl rfl) | exact Or.inr (Or.inr rfl)) (hd : (x == ("__debug__" : Str)) = false := by decide) (hcd : (x == ("__classdict__" : Str)) = false := by decide) (hdb : (f == ("__debug__" : Str)) = false := by decide)
  (hpl : (backTo pos (starEach es X.env)).any (·.1) = false := by rfl) : UNs X F [.Return (some (.Call (.Name f p) (.Name x p' :: es) [] pos)) pos'] (nCallR i psp ua) :=
 ⟨pss_one (PS.imp (ps_ret (pe_fn G hr hg (pa_c (pe_var hN hv hd hcd) ha.pa rfl) hdb rfl hpl)) fun D σ H ⟨ρ, R, fr, ⟨⟨t0, p0, e0⟩, hu⟩, k⟩ => by
  obtain ⟨a, C', e1, e2, _⟩ := fr.at_ i _ e0
  refine ⟨.ref a, ixv_some e2, ρ, _, fr, hu, fun xs as H1 ρ1 s1 p1 q1 => ?_⟩
  obtain ⟨t, pl, Ts, er, va, q⟩ := q1
  obtain ⟨a2, C2, e3, e4, e5⟩ := s1.fr.at_ i _ er
  rw [e1] at e3
  cases e3
  have := hF a C' e1
  subst this
  show liftNR X.K C' psp (.ref a :: xs ++ []) H1 _ E0
  rw [List.append_nil]
  refine ⟨a, t, pl, xs, Ts, _, rfl, e5, vaS_at p1 va, q, fun z W H' p' st rd' v qq => ?_⟩
  have s2 := s1.fr.callR er e1 e2 e5 st rd'
  exact k _ _ _ _ s2.fr.kp s2.fr.rds (v.back fun b n => s1.fr.none0 n) qq)⟩
end
end L2
namespace L2
open PySem PySem.Spec PyProof.Rows WordM
def liftNP (K : PySem.W.Frag) (psp : PSp) : Sp := fun vs H Q _ => ∃ dk as R, (∀ p c, dk = some (p, c) -> DeckAt H p c) /\ Paired (ArAt K dk H) vs as /\ psp as R /\ ∀ x T H', Kp dk none H H' -> NA K H H' x T -> R T -> Q x H'
def NGood (P : Program) (w : World) (K : PySem.W.Frag) (mg : Str -> Option Value) (base : Heap) (k : Nat) (x : Str) (ps : List Str) (psp : PSp) : Prop := Good P w K mg base k x ps (liftNP K psp)
theorem Has.ng {P : Program} {w : World} {K : PySem.W.Frag} {mg : Str -> Option Value} {base : Heap} {x : Str} {st : Stmt} {N ps : List Str} {k : Nat} {psp : PSp} {us : UTn} (h : Has K mg x st) (S : FnScope N ps (defScope st))
  (hb : ∀ (kV doc pm : Value) (an : Option Addr) (cdv ct : Value) (us : List Value), us.length = ps.length -> bindArgs (PySem.W.fnOf x x (defArgs st) (defBody st) (defScope st) .none kV doc pm an cdv ct) ⟨us, []⟩ = pure (ps.zip us))
  (hbody : ∀ (f : Addr) (cdv : Value) (A : Around) (outer : List Env) (s : Shared) (H : Hp) (E : XK) (F : Fm), Room k (A.deeper (envOfC x (defScope st) s.heap.objs.size f cdv)) -> UNs (cxOf CX0 P w K mg base N x (defScope st) f cdv A outer s H E).nox F (defBody st) us)
  (hp : ∀ as R, psp as R -> as.length = ps.length /\ us (startP N.length as) fun T _ => R T) : NGood P w K mg base (k + 1) x ps psp := by
 refine h.good S hb (fun vs H Q E q => ?_) (fun f cdv A outer s H vs Q E hr q => ?_)
 ·obtain ⟨dk, as, R, d, p, q, _⟩ := q
  rw [Paired.length p]
  exact (hp as R q).1
 ·obtain ⟨dk, as, R, d, p, q, k⟩ := q
  exact ⟨_, (hbody f cdv A outer s H E ⟨H, dk, none⟩ hr).ps, startP N.length as, _, fr_start d p, (hp as R q).2, fun x T H' _ kp _ v q => k x T H' kp v q⟩
def slN : Tv -> Sl
 | .leaf v => .va (.leaf v)
 | .seq true Ts => .va (.seq true Ts)
 | .seq false Ts => .own Ts
 | .dct kts => .dct kts
section
variable {X : Cx} {F : Fm} {C : Addr} {x : Str} {p pos : Pos}
def nSl (i : Nat) : UTn := fun ρ R => ∃ T, ρ[i]? = some (slN T) /\ R T ρ
theorem un_sl (i : Nat) (hN : X.N[i]? = some x := by rfl) (hv : Vis X.env.scope x := by first | exact Or.inl rfl | exact Or.inr (Or.inl rfl) | exact Or.inr (Or.inr rfl)) (hd : (x == ("__debug__" : Str)) = false := by decide) (hcd : (x == ("__classdict__" : Str)) = false := by decide) : UNs X F [.Return (some (.Name x p)) pos] (nSl i) :=
 ⟨pss_one (PS.imp (ps_ret (pe_var hN hv hd hcd)) fun D σ H ⟨ρ, R, fr, ⟨T, e0, q⟩, k⟩ => by
  have h := fr.at_ i _ e0
  match T, h, q with
  | .leaf w, ⟨y, ea, v⟩, q => exact ⟨_, ixv_some ea, k y (.leaf w) H ρ fr.kp fr.rds v.leafI q⟩
  | .seq true Ts, ⟨y, ea, v⟩, q => exact ⟨_, ixv_some ea, k y (.seq true Ts) H ρ fr.kp fr.rds v q⟩
  | .seq false Ts, ⟨a, xs, ea, r⟩, q => exact ⟨_, ixv_some ea, k (.ref a) (.seq false Ts) H ρ fr.kp fr.rds ⟨a, xs, rfl, r⟩ q⟩
  | .dct kts, ⟨a, kvs, ea, r⟩, q => exact ⟨_, ixv_some ea, k (.ref a) (.dct kts) H ρ fr.kp fr.rds ⟨a, kvs, rfl, r⟩ q⟩)⟩
def nNewR (i j : Nat) (ub : UTn) : UTn := fun ρ R => ∃ t, ρ.all plainS = true /\ i < ρ.length /\ ρ[j]? = some (.va (sT t)) /\ ub (ρ.set i (.rd t 0)) fun T _ => R T []
theorem un_newR (i j : Nat) {k : Nat} {x y c : Str} {p p1 p2 p3 pos : Pos} {rest : List Stmt} {ub : UTn} (G : MkR X.prog X.w X.K X.mg X.base k c C) (hr : Room (k + 1) X.A) (hg : Gl X c) (hN : X.N.Nodup) (hi : X.N[i]? = some x) (hx : Loc X.env.scope x)
  (hb : ∀ F' : Fm, F'.dk = F.dk -> FRd F' C -> UNs X F' rest ub)
  (hj : X.N[j]? = some y := by rfl) (hv : Vis X.env.scope y := by first | exact Or.inl rfl | exact Or.inr (Or.inl rfl) | exact Or.inr (Or.inr rfl)) (hd : (y == ("__debug__" : Str)) = false := by decide) (hcd : (y == ("__classdict__" : Str)) = false := by decide) (hdb : (c == ("__debug__" : Str)) = false := by decide)
  (hs : swapsWith (.Call (.Name c p) [.Name y p1] [] p2) (some (.Name x p3)) pos.line X.env = pure false := by rfl) (hf : X.fn x = true \/ X.env.scope.names.lookup x = some .local := by first | exact .inl rfl | exact .inr rfl | assumption) :
  UNs X F (.Assign [.Name x p3] (.Call (.Name c p) [.Name y p1] [] p2) pos :: rest) (nNewR i j ub) := by
 obtain ⟨hm, f, fd, M, FO, hb'⟩ := G
 have h2 : PSs X rest (fun D σ H => ∃ F' : Fm, F'.dk = F.dk /\ FRd F' C /\ liftN X.K F' ub D σ H) := fun pins s σ H D I ⟨F', d, r, q⟩ => (hb F' d r).ps pins s σ H D I q
 refine ⟨PSs.imp (pss_cons (ps_set hN hi hx (pe_make M FO hr hg hm hb' .nil pass0 (pa_c (pe_var hj hv hd hcd) pa_nil rfl) hdb) hs hf) h2) fun D σ H ⟨ρ, R, fr, ⟨t, hp, hi', ej, q⟩, k2⟩ => ?_⟩
 obtain ⟨v, e1, v1⟩ := fr.at_ j _ ej
 obtain ⟨rfl, _⟩ := v1.leafI
 refine ⟨_, ixv_some e1, fun a dx na nd ne => ?_⟩
 refine ⟨a, dx, t, rfl, upd_same, fun H2 e st => ⟨rfl, ?_⟩⟩
 have st2 : ∀ b u, H b = some u -> H2 b = some u := fun b u e => by
  have z1 : b ≠ a := fun z => by rw [z, na] at e; cases e
  have z2 : b ≠ dx := fun z => by rw [z, nd] at e; cases e
  rw [st b z1, upd_ne z1, upd_ne z2]
  exact e
 have f2 := fr_new (C := C) fr hp hi' na e st2
 refine ⟨⟨H2, F.dk, some (a, C)⟩, rfl, fun a' C' z => by cases z; rfl, _, _, f2, q, fun x T H' ρ' kp _ v q => ?_⟩
 have na' : ∀ b u, H b = some u -> ∀ a' C', some (a, C) = some (a', C') -> b ≠ a' := fun b u e a' C' z y => by
  cases z
  rw [y, na] at e
  cases e
 have nn : ∀ b, H2 b = none -> F.H0 b = none := fun b n => fr.none0 (by
  cases z : H b with
  | none => rfl
  | some u => rw [st2 b u z] at n; cases n)
 refine k2 x T H' [] ⟨fun b o e n1 n2 => ?_, kp.dkk, fun a' D' d => ?_⟩ (fun i t p z => nomatch z) (v.back nn) q
 ·have e := fr.kp.st b o e n1 n2
  exact kp.st b o (st2 b o e) n1 (na' b o e)
 ·obtain ⟨t', p', dx', e⟩ := fr.kp.rdk a' D' d
  exact ⟨t', p', dx', kp.st _ _ (st2 _ _ e) (fr.ins_nodk e) (na' _ _ e)⟩
end
end L2
namespace L2
open PySem PySem.Spec PyProof.Rows WordM
def liftNe (K : PySem.W.Frag) (F : Fm) (u : UT) : TE := fun σ H QQ => ∃ ρ Q, FrOk K F ρ σ H /\ u ρ Q /\ ∀ x T H' ρ', Stp K F σ ρ H ρ' H' -> NA K H H' x T -> Q T ρ' -> QQ x H'
structure UNe (X : Cx) (F : Fm) (e : Expr) (u : UT) : Prop where
 pe : PE X e (liftNe X.K F u)
section
variable {X : Cx} {F : Fm} {C : Addr} {e : Expr} {es : List Expr} {u : UT} {p pos : Pos}
def sSetN (i : Nat) (u : UT) : UTs := fun P ρ => u ρ fun T ρ1 => P.nx (ρ1.set i (slN T))
theorem us_setN {i : Nat} {x : Str} {pos' : Pos} (hN : X.N.Nodup) (hi : X.N[i]? = some x) (hx : Loc X.env.scope x) (he : UNe X F e u) (hs : swapsWith e (some (.Name x pos')) pos.line X.env = pure false := by rfl) (hf : X.fn x = true \/ X.env.scope.names.lookup x = some .local := by first | exact .inl rfl | exact .inr rfl | assumption) :
  US X F (.Assign [.Name x pos'] e pos) (sSetN i u) := ⟨PS.imp (ps_set hN hi hx he.pe hs hf) fun D σ H ⟨ρ, P, fr, h, k1, _⟩ => by
 refine ⟨ρ, _, fr, h, fun y T H' ρ' s v q => ?_⟩
 refine k1 _ _ _ (s.fr.set (s := slN T) (fun _ => ?_) (fun m b eb j t ej mj qj => ?_)) (s.hs fr) q
 ·match T, v with
  | .leaf w, ⟨e, f⟩ => subst e; exact ⟨_, rfl, .flat f⟩
  | .seq true Ts, v => exact ⟨_, rfl, v⟩
  | .seq false Ts, ⟨a, xs, ea, e, n, r⟩ => subst ea; exact ⟨a, xs, rfl, e, fr.none0 n, r⟩
  | .dct kts, ⟨a, xs, ea, e, n, r⟩ => subst ea; exact ⟨a, xs, rfl, e, fr.none0 n, r⟩
 ·match T, v, m with
  | .leaf w, _, m => exact absurd m Bool.false_ne_true
  | .seq true Ts, _, m => exact absurd m Bool.false_ne_true
  | .seq false Ts, ⟨a, xs, ea, e, n, r⟩, _ => subst ea; cases eb; exact s.notown fr n j t ej mj qj
  | .dct kts, ⟨a, xs, ea, e, n, r⟩, _ => subst ea; cases eb; exact s.notown fr n j t ej mj qj⟩
theorem une_fn {x : Str} {ua : UTa} {k : Nat} {ps : List Str} {psp : PSp} (G : NGood X.prog X.w X.K X.mg X.base k x ps psp) (hr : Room k X.A) (hg : Gl X x) (ha : UA X F (e :: es) ua) (hdb : (x == ("__debug__" : Str)) = false := by decide)
  (hst : isStar e = false := by rfl) (hpl : (backTo pos (starEach es X.env)).any (·.1) = false := by rfl) : UNe X F (.Call (.Name x p) (e :: es) [] pos) (uCall psp ua) :=
 ⟨PE.imp (pe_fn G hr hg ha.pa hdb hst hpl) fun σ H QQ ⟨ρ, Q, fr, h, k⟩ => by
  refine ⟨ρ, _, fr, h, fun xs as H1 ρ1 s1 p1 q1 => ?_⟩
  show liftNP X.K psp (xs ++ []) H1 QQ E0
  rw [List.append_nil]
  exact ⟨F.dk, as, _, s1.fr.kp.dkk, p1, q1, fun z W H' kp v q => k _ _ _ _ (s1.trans (Stp.call s1.fr kp)) (v.back fun b n => s1.non n) q⟩⟩
theorem une_callV (i j : Nat) {k : Nat} {n g x : Str} {f : Addr} {ps : List Str} {psp : PSpR} {p p' pos : Pos} (hF : FRd F C) (G : NGoodR X.prog X.w X.K X.mg X.base k n ps C psp) (hm : X.mg n = some (.ref f)) (hr : Room k X.A)
  (hN : X.N[i]? = some g := by rfl) (hv : Vis X.env.scope g := by first | exact Or.inl rfl | exact Or.inr (Or.inl rfl) | exact Or.inr (Or.inr rfl)) (hd : (g == ("__debug__" : Str)) = false := by decide) (hcd : (g == ("__classdict__" : Str)) = false := by decide)
  (hN' : X.N[j]? = some x := by rfl) (hv' : Vis X.env.scope x := by first | exact Or.inl rfl | exact Or.inr (Or.inl rfl) | exact Or.inr (Or.inr rfl)) (hd' : (x == ("__debug__" : Str)) = false := by decide) (hcd' : (x == ("__classdict__" : Str)) = false := by decide) :
  UNe X F (.Call (.Name g p) [.Name x p'] [] pos) (uCallV i j f psp) := by
 obtain ⟨f', fd, FO, b, m, kp⟩ := G
 rw [hm] at m
 cases m
 refine ⟨PE.imp (pe_callV (dvs := []) (E := E0) FO hr kp b .nil pass0 (pa_c (pe_var hN' hv' hd' hcd') pa_nil rfl) hN hv hd hcd (star_cons rfl) rfl) fun σ H QQ ⟨ρ, Q, fr, ⟨ei, t, pl, ej, q⟩, k⟩ => ?_⟩
 have e1 : ixv σ i = some (.ref f) := fr.at_ i _ ei
 obtain ⟨a, C', e2, e3, e5⟩ := fr.at_ j _ ej
 have := hF a C' e2
 subst this
 refine ⟨ixv_some e1, .ref a, ixv_some e3, ?_⟩
 exact ⟨a, t, pl, [], [], _, rfl, e5, .nil, q, fun z W H' p' st rd' v qq => k _ _ _ _ (fr.callR ej e2 e3 e5 st rd') v qq⟩
theorem un_une (h : UNe X F e u) : UNs X F [.Return (some e) pos] u := ⟨pss_one (PS.imp (ps_ret h.pe) fun D σ H ⟨ρ, R, fr, h, k⟩ => ⟨ρ, _, fr, h, fun x T H' ρ' s v q => k x T H' ρ' s.fr.kp s.fr.rds (v.back fun b n => fr.none0 n) q⟩)⟩
end
end L2
namespace L2
open PySem PySem.Spec PyProof.Rows WordM
section
variable {X : Cx} {F : Fm} {C : Addr} {e ke ve ke' ve' : Expr} {p pos : Pos} {uk uv uk' uv' : UT}
def nDct (u : UTd) : UTn := fun ρ R => u ρ fun kts ρ' => R (.dct kts) ρ'
theorem un_ud {u : UTd} (h : UD X F e u) : UNs X F [.Return (some e) pos] (nDct u) := ⟨pss_one (PS.imp (ps_ret h.pe) fun D σ H ⟨ρ, R, fr, h, k⟩ => ⟨ρ, _, fr, h, fun a kvs kts H' ρ' s n e nd z v q => k (.ref a) (.dct kts) H' ρ' s.fr.kp s.fr.rds ⟨a, kvs, rfl, e, fr.none0 n, nd, z, v⟩ q⟩)⟩
def uTwo (uk uv uk' uv' : UT) : UTd := fun ρ Q => uk ρ fun K ρ1 => ∃ s, K = sT s /\ uv ρ1 fun T ρ2 => uk' ρ2 fun K' ρ3 => ∃ s', K' = sT s' /\ s ≠ s' /\ uv' ρ3 fun T' ρ4 => Q [(s, T), (s', T')] ρ4
theorem ud_two (hk : UE X F ke uk) (hv : UE X F ve uv) (hk' : UE X F ke' uk') (hv' : UE X F ve' uv') : UD X F (.Dict [some ke, some ke'] [ve, ve'] pos) (uTwo uk uv uk' uv') := ⟨PE.imp (pe_disp (pps_cons hk.pe hv.pe (pps_cons hk'.pe hv'.pe pps_nil)) rfl rfl (fun z => nomatch z) (by simp)) fun σ H QQ ⟨ρ, Q, f, h, k⟩ b nb => by
 have s0 := Stp.same f (same_new (o := .dK []) nb)
 refine ⟨ρ, _, s0.fr, h, fun y T H1 ρ1 s1 v1 q1 => ?_⟩
 obtain ⟨s, rfl, q1⟩ := q1
 obtain ⟨rfl, _⟩ := v1.leafI
 refine ⟨ρ1, _, s1.fr, q1, fun z U H2 ρ2 s2 v2 q2 => ?_⟩
 refine ⟨ρ2, _, s2.fr, q2, fun y' T' H3 ρ3 s3 v3 q3 => ?_⟩
 obtain ⟨s', rfl, ne, q3⟩ := q3
 obtain ⟨rfl, _⟩ := v3.leafI
 refine ⟨ρ3, _, s3.fr, q3, fun z' U' H4 ρ4 s4 v4 q4 => ?_⟩
 have s14 := (s1.trans s2).trans (s3.trans s4)
 have hb : H4 b = some (.dK []) := s14.st b _ upd_same (f.none_nodk nb) (s0.notown f nb)
 have v2' := v2.hs ((s3.trans s4).hs s2.fr)
 refine ⟨hb, [(.inr s, z), (.inr s', z')], rfl, by simp, ?_⟩
 have pv : VAk X.K H4 [((.inr s : Key), z), (.inr s', z')] [(s, U), (s', U')] := .cons ⟨rfl, v2'⟩ (.cons ⟨rfl, v4⟩ .nil)
 have nd : (([(s, U), (s', U')] : List (Str × Tv)).map (·.1)).Nodup := by simpa using ne
 rw [mergeK_nd (kvs := []) (by simpa using vak_keysN pv nd), List.nil_append]
 exact k _ _ [(s, U), (s', U')] _ _ ((s0.trans s14).put f nb hb rfl _) nb upd_same nd (by simp) (VAk.hs (hs_put hb rfl) pv) q4⟩
theorem pe_dclear {o : Expr} {tl : TE} {apos pos : Pos} (hl : PE X o tl) (hbase : attributeBase o "clear" X.env (eval o X.env) = eval o X.env := by rfl) (hline : (apos.endLine == pos.line) = true := by rfl) :
  PE X (.Call (.Attribute o "clear" apos) [] [] pos) (fun σ H Q => tl σ H fun x H1 => ∃ a kvs, x = .ref a /\ H1 a = some (.dK kvs) /\ Q .non (upd H1 a (.dK []))) := by
 intro pins s σ H Q I h
 refine wpAny_Call_method (T := "dict") (id := "dict.clear") hbase rfl hline F.plainAttrs_dict F.slot_dict_clear F.type_dict_clear (thn (hl pins s σ H _ I h) fun v s1 ⟨x, H1, I1, r1, q1⟩ => ?_)
 obtain ⟨a, kvs, e, hz, q⟩ := q1
 subst e
 cases r1
 obtain ⟨z, hd, vs, rel, dd⟩ := dk_of I1.hok hz
 refine ⟨dd.typeIs, dd.mapOf.noDict, ?_⟩
 show wpAny _ _ (callWith pos (.builtin "dict.clear") [.ref a] [] []) _ _ s1
 exact Calls.callWith_builtin rfl (PySem.evalArgs_none (d_clear I1 hz fun s' I' => ⟨.non, _, I', rfl, q⟩))
def uClearD (i : Nat) : UT := fun ρ Q => ∃ kts, ρ[i]? = some (.dct kts) /\ Q nT (ρ.set i (.dct []))
theorem ue_clearD (i : Nat) {x : Str} {apos cpos : Pos} (hN : X.N[i]? = some x := by rfl) (hv : Vis X.env.scope x := by first | exact Or.inl rfl | exact Or.inr (Or.inl rfl) | exact Or.inr (Or.inr rfl)) (hd : (x == ("__debug__" : Str)) = false := by decide) (hcd : (x == ("__classdict__" : Str)) = false := by decide)
  (hbase : attributeBase (.Name x p) "clear" X.env (eval (.Name x p) X.env) = eval (.Name x p) X.env := by rfl) (hline : (apos.endLine == cpos.line) = true := by rfl) :
  UE X F (.Call (.Attribute (.Name x p) "clear" apos) [] [] cpos) (uClearD i) := ⟨PE.imp (pe_dclear (pe_var hN hv hd hcd) hbase hline) fun σ H QQ ⟨ρ, Q, f, ⟨kts, e0, q⟩, k⟩ => by
 obtain ⟨a, kvs, ea, eH, e3, n, z, pv⟩ := f.at_ i _ e0
 refine ⟨_, ixv_some ea, a, kvs, rfl, eH, ?_⟩
 have s := f.put (o' := .dK []) e0 rfl ea eH rfl (s' := .dct []) fun hs h0 => ⟨a, [], rfl, upd_same, h0, by simp, by simp, .nil⟩
 exact k _ _ _ _ s (.flat rfl) q⟩
def pLenB : Pn
 | [.leaf (.str z)], Q => z.length <= 10000000 /\ Q (iT z.length)
 | _, _ => False
theorem pu_lenB : PuCall X (.builtin "len") pLenB := ⟨_, call_len_str, fun xs Ts H Q QQ vx h k => by
 unfold pLenB at h
 split at h
 ·obtain ⟨x, rfl, v⟩ := vas1 vx
  obtain ⟨rfl, _⟩ := v.leafI
  exact ⟨_, rfl, by rw [sizeLine_eq]; omega, k _ _ _ (.flat rfl) h.2⟩
 ·exact False.elim h⟩
end
end L2
namespace L2
open PySem PySem.Spec PyProof.Rows WordM
def VW : Nat -> Tv -> Prop
 | 0, _ => False
 | _ + 1, .leaf .non => True
 | _ + 1, .leaf (.bl _) => True
 | _ + 1, .leaf (.int i) => -(10 ^ 62) < i /\ i < 10 ^ 62
 | _ + 1, .leaf (.str s) => Sg s /\ s.length <= 50
 | n + 1, .seq false xs => xs.length <= 11 /\ ∀ x ∈ xs, VW n x
 | n + 1, .dct kts => (kts.map (·.1)).Nodup /\ kts.length <= 11 /\ ∀ kt ∈ kts, (Sg kt.1 /\ kt.1.length <= 50) /\ VW n kt.2
 | _, _ => False
theorem VW.le : ∀ {n m : Nat} {T : Tv}, n <= m -> VW n T -> VW m T
 | 0, _, _, _, h => False.elim h
 | _ + 1, 0, _, l, _ => absurd l (by omega)
 | n + 1, m + 1, T, l, h => by
  have l' : n <= m := by omega
  cases T with
  | leaf v => cases v <;> exact h
  | seq t xs => cases t with
   | false => exact ⟨h.1, fun x hx => VW.le l' (h.2 x hx)⟩
   | true => exact False.elim h
  | dct kts => exact ⟨h.1, h.2.1, fun kt hk => ⟨(h.2.2 kt hk).1, VW.le l' (h.2.2 kt hk).2⟩⟩
theorem VW.ok : ∀ {n : Nat} {T : Tv}, VW n T -> VOk n T
 | 0, _, h => False.elim h
 | n + 1, T, h => by
  cases T with
  | leaf v =>
   cases v with
   | int i => exact ⟨by have := h.1; omega, by have := h.2; omega⟩
   | str s => exact ⟨h.1, by have := h.2; omega⟩
   | _ => exact h
  | seq t xs => cases t with
   | false => exact ⟨by have := h.1; omega, fun x hx => VW.ok (h.2 x hx)⟩
   | true => exact False.elim h
  | dct kts => exact ⟨h.1, by have := h.2.1; omega, fun kt hk => ⟨⟨(h.2.2 kt hk).1.1, by have := (h.2.2 kt hk).1.2; omega⟩, VW.ok (h.2.2 kt hk).2⟩⟩
def dblS (s : Str) : Str := ⟨(StrLaws.dbl 34 s.cps.toList).toArray⟩
def quoT (s : Str) : Str := "\"" ++ dblS s ++ "\""
theorem dbl_len (c : Nat) : ∀ l : List Nat, (StrLaws.dbl c l).length <= 2 * l.length
 | [] => Nat.le_refl _
 | k :: r => by
  have := dbl_len c r
  rw [StrLaws.dbl]
  split <;> simp only [List.length_cons] <;> omega
theorem dblS_len (s : Str) : (dblS s).length <= 2 * s.length := by
 have := dbl_len 34 s.cps.toList
 show (StrLaws.dbl 34 s.cps.toList).toArray.size <= 2 * s.cps.size
 simpa using this
theorem quo_len (s : Str) : (quoT s).length <= 2 * s.length + 2 := by
 have := dblS_len s
 unfold quoT
 rw [str_app_len, str_app_len]
 show 1 + _ + 1 <= _
 omega
theorem dbl_snoc (c k : Nat) (l : List Nat) : StrLaws.dbl c (l ++ [k]) = StrLaws.dbl c l ++ (if k = c then [k, k] else [k]) := by
 rw [StrLaws.dbl_append]
 rfl
noncomputable def wrT : Nat -> Tv -> Str
 | 0, _ => ""
 | _ + 1, .leaf .non => "nothing"
 | _ + 1, .leaf (.bl b) => if b then "yes" else "no"
 | _ + 1, .leaf (.int i) => toString i
 | _ + 1, .leaf (.str s) => quoT s
 | n + 1, .seq false xs => "[" ++ Str.join ", " (xs.map (wrT n)) ++ "]"
 | n + 1, .dct kts => "{" ++ Str.join ", " ((namesOf kts).map fun x => quoT x ++ ": " ++ wrT n ((lookD kts x).getD nT)) ++ "}"
 | _ + 1, _ => ""
def Lw : Nat -> Nat
 | 0 => 0
 | n + 1 => 120 + 11 * (Lw n + 120)
theorem wr_len : ∀ {n : Nat} {T : Tv}, VW n T -> (wrT n T).length <= Lw n
 | 0, _, h => False.elim h
 | n + 1, .leaf .non, h => by show (7 : Nat) <= _; unfold Lw; omega
 | n + 1, .leaf (.bl b), h => by
  cases b
  ·show (2 : Nat) <= _; unfold Lw; omega
  ·show (3 : Nat) <= _; unfold Lw; omega
 | n + 1, .leaf (.int i), h => by
  have h : -(10 ^ 62) < i /\ i < 10 ^ 62 := h
  have := (int_sg i (by omega)).2
  show (Str.ofString (toString i)).length <= _
  unfold Lw; omega
 | n + 1, .leaf (.str s), h => by
  have := quo_len s
  have h : Sg s /\ s.length <= 50 := h
  show (quoT s).length <= _
  unfold Lw; omega
 | n + 1, .seq true xs, h => False.elim h
 | n + 1, .seq false xs, h => by
  have hh : xs.length <= 11 /\ ∀ x ∈ xs, VW n x := h
  have j := join_len ", " (xs.map (wrT n)) (Lw n) fun s hs => by
   obtain ⟨x, hx, rfl⟩ := List.mem_map.mp hs
   exact wr_len (hh.2 x hx)
  rw [List.length_map] at j
  have m : xs.length * (Lw n + 2) <= 11 * (Lw n + 2) := Nat.mul_le_mul_right _ hh.1
  show ("[" ++ Str.join ", " (xs.map (wrT n)) ++ "]" : Str).length <= _
  rw [str_app_len, str_app_len]
  have j : (Str.join ", " (xs.map (wrT n))).length <= xs.length * (Lw n + 2) := j
  show 1 + _ + 1 <= _
  unfold Lw; omega
 | n + 1, .dct kts, h => by
  have hh : (kts.map (·.1)).Nodup /\ kts.length <= 11 /\ ∀ kt ∈ kts, (Sg kt.1 /\ kt.1.length <= 50) /\ VW n kt.2 := h
  have j := join_len ", " ((namesOf kts).map fun x => quoT x ++ ": " ++ wrT n ((lookD kts x).getD nT)) (Lw n + 104) fun s hs => by
   obtain ⟨x, hx, rfl⟩ := List.mem_map.mp hs
   obtain ⟨d, hd, rfl⟩ := List.mem_map.mp (names_mem.mp hx)
   rw [lookD_of hh.1 (show (d.1, d.2) ∈ kts from hd)]
   have a := wr_len (hh.2.2 d hd).2
   have b := quo_len d.1
   have c := (hh.2.2 d hd).1.2
   rw [str_app_len, str_app_len]
   show _ + 2 + (wrT n d.2).length <= _
   omega
  rw [List.length_map, names_len] at j
  have m : kts.length * (Lw n + 104 + 2) <= 11 * (Lw n + 104 + 2) := Nat.mul_le_mul_right _ hh.2.1
  show ("{" ++ Str.join ", " ((namesOf kts).map fun x => quoT x ++ ": " ++ wrT n ((lookD kts x).getD nT)) ++ "}" : Str).length <= _
  rw [str_app_len, str_app_len]
  have j : (Str.join ", " ((namesOf kts).map fun x => quoT x ++ ": " ++ wrT n ((lookD kts x).getD nT))).length <= kts.length * (Lw n + 104 + 2) := j
  show 1 + _ + 1 <= _
  unfold Lw; omega
end L2
namespace L2
open PySem PySem.Spec PyProof.Rows WordM
def Rst (t : Str) (p : Int) (r : List Nat) : Prop := ∃ n : Nat, p = (n : Int) /\ n <= (cs t).length /\ (cs t).drop n = r
section
variable {t w : Str} {p : Int} {r a b : List Nat}
theorem from_nat (l n : Nat) : fromIndex l (n : Int) = n := by
 unfold fromIndex
 rw [if_neg (by omega)]
 omega
theorem Rst.starts (h : Rst t p r) : Txt.startswith3 t w p = (cs w).isPrefixOf r := by
 obtain ⟨n, rfl, l, rfl⟩ := h
 unfold Txt.startswith3
 rw [from_nat, StrLaws.subAt_eq, Bool.eq_iff_iff, Bool.and_eq_true, decide_eq_true_eq, beq_iff_eq, List.isPrefixOf_iff_prefix, List.prefix_iff_eq_take, len, len]
 constructor
 ·exact fun h => h.2.symm
 ·intro h
  refine ⟨?_, h.symm⟩
  have := congrArg List.length h
  rw [List.length_take, List.length_drop] at this
  omega
theorem Rst.go (h : Rst t p (a ++ r)) : Rst t (p + a.length) r := by
 obtain ⟨n, rfl, l, e⟩ := h
 have := congrArg List.length e
 rw [List.length_drop, List.length_append] at this
 refine ⟨n + a.length, by omega, by omega, ?_⟩
 rw [<- List.drop_drop, e, List.drop_left]
theorem Rst.lt (h : Rst t p (a ++ r)) : p + a.length <= t.length := by
 obtain ⟨n, rfl, l, e⟩ := h
 have := congrArg List.length e
 rw [List.length_drop, List.length_append] at this
 rw [len]
 omega
theorem Rst.nn (h : Rst t p r) : 0 <= p := by obtain ⟨n, rfl, _⟩ := h; omega
theorem Rst.start (t : Str) : Rst t 0 (cs t) := ⟨0, rfl, Nat.zero_le _, rfl⟩
theorem Rst.all (h : Rst t p r) : p + r.length = t.length := by
 obtain ⟨n, rfl, l, rfl⟩ := h
 rw [List.length_drop, len]
 omega
theorem Rst.uniq {q : Int} (h : Rst t p r) (h' : Rst t q r) : p = q := by
 have := h.all
 have := h'.all
 omega
theorem Rst.slice (h : Rst t p (a ++ r)) : Txt.slice t (some p) (some (p + a.length)) = ⟨a.toArray⟩ := by
 have l := h.lt
 have nn := h.nn
 obtain ⟨n, rfl, _, e⟩ := h
 rw [beq_iff_eq.mp (slice_closesL (x := t) (i := (n : Int)) (j := (n : Int) + a.length) nn (by omega) l)]
 rw [show ((n : Int) + a.length - n).toNat = a.length by omega, show ((n : Int)).toNat = n by omega]
 rw [show t.cps.toList.drop n = a ++ r from e, List.take_left]
theorem Rst.at_ {c : Nat} (h : Rst t p (c :: r)) : atI (cs t) p = some c := by
 obtain ⟨n, rfl, l, e⟩ := h
 have : (cs t)[n]? = some c := by
  have z : ((cs t).drop n)[0]? = some c := by rw [e]; rfl
  rwa [List.getElem?_drop] at z
 exact atI_nat this
end
theorem occ_stay (s sub : Str) (hi : Nat) : ∀ (l : List Nat) (st : Array Nat × Nat), 1 <= st.fst.size -> (forIn l st (StrLaws.occBody s sub hi 1)).run.fst = st.fst
 | [], st, h => rfl
 | a :: l, st, h => by
  rw [List.forIn_cons]
  unfold StrLaws.occBody
  rw [if_neg (fun z => by have := z.1.1.1; omega)]
  exact occ_stay s sub hi l _ h
theorem occ_first (s sub : Str) (hi k : Nat) (post : List Nat) (hk : k + sub.length <= hi /\ Builtin.Str.subAt s sub k = true) : ∀ (l : List Nat) (free : Nat), (∀ i ∈ l, free <= i) -> free <= k -> (∀ i ∈ l, ¬ (i + sub.length <= hi /\ Builtin.Str.subAt s sub i = true)) ->
  (forIn (l ++ k :: post) ((#[] : Array Nat), free) (StrLaws.occBody s sub hi 1)).run.fst = #[k]
 | [], free, _, fk, _ => by
  rw [List.nil_append, List.forIn_cons]
  unfold StrLaws.occBody
  rw [if_pos ⟨⟨⟨by simp, fk⟩, hk.1⟩, hk.2⟩]
  exact occ_stay s sub hi post _ (by simp)
 | a :: l, free, hf, fk, hn => by
  rw [List.cons_append, List.forIn_cons]
  unfold StrLaws.occBody
  rw [if_neg (fun z => hn a (List.mem_cons_self ..) ⟨z.1.2, z.2⟩)]
  exact occ_first s sub hi k post hk l free (fun i h => hf i (List.mem_cons_of_mem _ h)) fk fun i h => hn i (List.mem_cons_of_mem _ h)
theorem Rst.find {t : Str} {p : Int} {a r : List Nat} (h : Rst t p (a ++ 34 :: r)) (no : 34 ∉ a) : findF t "\"" p = p + a.length := by
 have l := h.lt
 obtain ⟨n, rfl, l0, e⟩ := h
 have q : ("\"" : Str) = ⟨#[34]⟩ := by decide
 have at_ : ∀ i, (cs t)[n + i]? = (a ++ 34 :: r)[i]? := fun i => by rw [<- e, List.getElem?_drop]
 have ll := congrArg List.length e
 rw [List.length_drop, List.length_append, List.length_cons] at ll
 unfold findF
 rw [from_nat, q, StrLaws.occ_eq]
 have sp : List.range' n (t.length + 1 - n) = List.range' n a.length ++ (n + a.length) :: List.range' (n + a.length + 1) (t.length - n - a.length) := by
  rw [<- List.range'_succ, List.range'_append_1]
  congr 1
  rw [len]
  omega
 rw [sp, occ_first t ⟨#[34]⟩ t.length (n + a.length) _ ((StrLaws.subAt_one t 34 (n + a.length)).mpr ?_) (List.range' n a.length) n (fun i hi => (List.mem_range'_1.mp hi).1) (by omega) (fun i hi z => ?_)]
 ·show ((n + a.length : Nat) : Int) = _
  omega
 ·show (cs t)[n + a.length]? = _
  rw [at_, List.getElem?_append_right (Nat.le_refl _)]
  simp
 ·have := (StrLaws.subAt_one t 34 i).mp z
  obtain ⟨h1, h2⟩ := List.mem_range'_1.mp hi
  have e1 : (cs t)[n + (i - n)]? = some 34 := by rw [show n + (i - n) = i by omega]; exact this
  rw [at_, List.getElem?_append_left (by omega)] at e1
  exact no (List.mem_of_getElem? e1)
theorem join_cs : ∀ (w : Str) (ws : List Str), cs (Str.join ", " (w :: ws)) = cs w ++ ws.flatMap fun v => 44 :: 32 :: cs v
 | w, [] => by simp [Str.join]
 | w, v :: ws => by
  show cs (w ++ ", " ++ Str.join ", " (v :: ws)) = _
  rw [app, app, join_cs v ws, List.append_assoc, List.flatMap_cons]
  rfl
def Fol (r : List Nat) : Prop := r = [] \/ ∃ c l, r = c :: l /\ (c = 44 \/ c = 93 \/ c = 125)
theorem fol_row {ws : List Str} {r : List Nat} (h : Fol r) : Fol ((ws.flatMap fun v => 44 :: 32 :: cs v) ++ r) := by
 cases ws with
 | nil => exact h
 | cons v ws => exact .inr ⟨44, _, rfl, .inl rfl⟩
abbrev fig (c : Nat) : Prop := 48 <= c /\ c <= 57
theorem num_cs (i : Int) (h : i.natAbs < 10 ^ 100) : ∃ ds, ds ≠ [] /\ (∀ c ∈ ds, fig c) /\ (cs (Str.ofString (toString i)) = ds \/ cs (Str.ofString (toString i)) = 45 :: ds) := by
 cases i with
 | ofNat m => exact ⟨_, digs_ne m, digs_all m, .inl (PySem.W.KIN.signs_num m)⟩
 | negSucc m =>
  refine ⟨_, digs_ne (m + 1), digs_all (m + 1), .inr ?_⟩
  show cs (Str.ofString ("-" ++ m.succ.repr)) = _
  rw [ofS_cps, String.toList_append, Nat.toList_repr]
  rfl
noncomputable def nrm : Nat -> Tv -> Tv
 | 0, T => T
 | n + 1, .seq false xs => .seq false (xs.map (nrm n))
 | n + 1, .dct kts => .dct ((namesOf kts).map fun x => (x, nrm n ((lookD kts x).getD nT)))
 | _ + 1, T => T
def cntT : Tv -> Nat
 | .leaf _ => 0
 | .seq _ xs => xs.length
 | .dct kts => kts.length
theorem cnt_le {n : Nat} {T : Tv} (h : VW n T) : cntT T <= 11 := by
 cases n with
 | zero => exact False.elim h
 | succ n =>
  cases T with
  | leaf v => exact Nat.zero_le _
  | seq t xs => cases t with
   | false => exact h.1
   | true => exact False.elim h
  | dct kts => exact h.2.1
def kidsT : Tv -> List Tv
 | .leaf _ => []
 | .seq _ xs => xs
 | .dct kts => kts.map (·.2)
theorem kid_vw {n : Nat} {T x : Tv} (h : VW n T) (hx : x ∈ kidsT T) : VW (n - 1) x := by
 cases n with
 | zero => exact False.elim h
 | succ n =>
  cases T with
  | leaf v => exact nomatch hx
  | seq t xs => cases t with
   | false => exact h.2 x hx
   | true => exact False.elim h
  | dct kts =>
   obtain ⟨d, hd, rfl⟩ := List.mem_map.mp hx
   exact (h.2.2 d hd).2
theorem wr_up : ∀ {n : Nat} {T : Tv}, VW n T -> wrT (n + 1) T = wrT n T
 | 0, T, h => False.elim h
 | n + 1, .leaf v, h => by cases v <;> rfl
 | n + 1, .seq true xs, h => False.elim h
 | n + 1, .seq false xs, h => by
  show "[" ++ Str.join ", " (xs.map (wrT (n + 1))) ++ "]" = "[" ++ Str.join ", " (xs.map (wrT n)) ++ "]"
  congr 3
  exact List.map_congr_left fun x hx => wr_up (h.2 x hx)
 | n + 1, .dct k, h => by
  have hh : (k.map (·.1)).Nodup /\ k.length <= 11 /\ ∀ kt ∈ k, (Sg kt.1 /\ kt.1.length <= 50) /\ VW n kt.2 := h
  show "{" ++ Str.join ", " ((namesOf k).map fun x => quoT x ++ ": " ++ wrT (n + 1) ((lookD k x).getD nT)) ++ "}" = "{" ++ Str.join ", " ((namesOf k).map fun x => quoT x ++ ": " ++ wrT n ((lookD k x).getD nT)) ++ "}"
  congr 3
  refine List.map_congr_left fun x hx => ?_
  obtain ⟨d, hd, rfl⟩ := List.mem_map.mp (names_mem.mp hx)
  rw [lookD_of hh.1 (show (d.1, d.2) ∈ k from hd)]
  show _ ++ wrT (n + 1) d.2 = _ ++ wrT n d.2
  rw [wr_up (hh.2.2 d hd).2]
theorem dbl_mem {c x : Nat} : ∀ {l : List Nat}, x ∈ StrLaws.dbl c l -> x ∈ l \/ x = c
 | [], h => by simp [StrLaws.dbl] at h
 | k :: r, h => by
  rw [StrLaws.dbl] at h
  split at h
  ·rename_i e
   simp only [List.mem_cons] at h
   rcases h with h | h | h
   ·exact .inl (by rw [h]; exact List.mem_cons_self ..)
   ·exact .inl (by rw [h]; exact List.mem_cons_self ..)
   ·rcases dbl_mem h with z | z
    ·exact .inl (List.mem_cons_of_mem _ z)
    ·exact .inr z
  ·simp only [List.mem_cons] at h
   rcases h with h | h
   ·exact .inl (by rw [h]; exact List.mem_cons_self ..)
   ·rcases dbl_mem h with z | z
    ·exact .inl (List.mem_cons_of_mem _ z)
    ·exact .inr z
theorem sg_c {x : Str} (h : (cs x).all (fun c => decide (c ∈ cs SIG)) = true) : Sg x := fun c hc => of_decide_eq_true (List.all_eq_true.mp h c hc)
theorem sg_quo {s : Str} (h : Sg s) : Sg (quoT s) := by
 refine Sg.app (Sg.app (sg_c (by decide +kernel)) fun c hc => ?_) (sg_c (by decide +kernel))
 rcases dbl_mem (show c ∈ StrLaws.dbl 34 (cs s) by simpa [dblS] using hc) with z | rfl
 ·exact h c z
 ·decide +kernel
theorem sg_join {sep : Str} (hs : Sg sep) : ∀ {ws : List Str}, (∀ w ∈ ws, Sg w) -> Sg (Str.join sep ws)
 | [], _ => sg_nil
 | [w], h => h w (List.mem_singleton.mpr rfl)
 | w :: v :: ws, h => Sg.app (Sg.app (h w (List.mem_cons_self ..)) hs) (sg_join hs fun u hu => h u (List.mem_cons_of_mem _ hu))
theorem sg_wr : ∀ {n : Nat} {T : Tv}, VW n T -> Sg (wrT n T)
 | 0, _, h => False.elim h
 | n + 1, .leaf .non, h => sg_c (x := "nothing") (by decide +kernel)
 | n + 1, .leaf (.bl b), h => by
  cases b
  ·exact sg_c (x := "no") (by decide +kernel)
  ·exact sg_c (x := "yes") (by decide +kernel)
 | n + 1, .leaf (.int i), h => by
  have h : -(10 ^ 62) < i /\ i < 10 ^ 62 := h
  exact (int_sg i (by omega)).1
 | n + 1, .leaf (.str s), h => sg_quo (show Sg s /\ s.length <= 50 from h).1
 | n + 1, .seq true xs, h => False.elim h
 | n + 1, .seq false xs, h => by
  have hh : xs.length <= 11 /\ ∀ x ∈ xs, VW n x := h
  refine Sg.app (Sg.app (sg_c (by decide +kernel)) (sg_join (sg_c (by decide +kernel)) fun w hw => ?_)) (sg_c (by decide +kernel))
  obtain ⟨x, hx, rfl⟩ := List.mem_map.mp hw
  exact sg_wr (hh.2 x hx)
 | n + 1, .dct kts, h => by
  have hh : (kts.map (·.1)).Nodup /\ kts.length <= 11 /\ ∀ kt ∈ kts, (Sg kt.1 /\ kt.1.length <= 50) /\ VW n kt.2 := h
  refine Sg.app (Sg.app (sg_c (by decide +kernel)) (sg_join (sg_c (by decide +kernel)) fun w hw => ?_)) (sg_c (by decide +kernel))
  obtain ⟨x, hx, rfl⟩ := List.mem_map.mp hw
  obtain ⟨d, hd, rfl⟩ := List.mem_map.mp (names_mem.mp hx)
  rw [lookD_of hh.1 (show (d.1, d.2) ∈ kts from hd)]
  exact Sg.app (Sg.app (sg_quo (hh.2.2 d hd).1.1) (sg_c (by decide +kernel))) (sg_wr (hh.2.2 d hd).2)
theorem wr_hd : ∀ {n : Nat} {T : Tv}, VW n T -> ∃ c l, cs (wrT n T) = c :: l /\ c ≠ 93
 | 0, _, h => False.elim h
 | n + 1, .leaf .non, h => ⟨110, _, rfl, by decide⟩
 | n + 1, .leaf (.bl b), h => by
  cases b
  ·exact ⟨110, _, rfl, by decide⟩
  ·exact ⟨121, _, rfl, by decide⟩
 | n + 1, .leaf (.int i), h => by
  have h : -(10 ^ 62) < i /\ i < 10 ^ 62 := h
  obtain ⟨ds, hn, hd, e | e⟩ := num_cs i (by omega)
  ·cases ds with
   | nil => exact absurd rfl hn
   | cons d ds => exact ⟨d, ds, e, by have := (hd d (List.mem_cons_self ..)).2; omega⟩
  ·exact ⟨45, ds, e, by decide⟩
 | n + 1, .leaf (.str s), h => ⟨34, _, by show cs (quoT s) = _; unfold quoT; rw [app, app]; rfl, by decide⟩
 | n + 1, .seq true xs, h => False.elim h
 | n + 1, .seq false xs, h => ⟨91, _, by show cs ("[" ++ _ ++ "]") = _; rw [app, app]; rfl, by decide⟩
 | n + 1, .dct kts, h => ⟨123, _, by show cs ("{" ++ _ ++ "}") = _; rw [app, app]; rfl, by decide⟩
end L2
namespace My
open PySem L2 PyProof.Rows WordM
def top (i : Nat) : Stmt := PySem.Challenge.pw_leastform_k79_values_read.main.body.getD i (.Pass ⟨0, 0, 0, 0⟩)
abbrev s0_ : Stmt := top 5
abbrev s1_ : Stmt := top 6
abbrev s2_ : Stmt := top 9
abbrev s3_ : Stmt := top 11
abbrev s4_ : Stmt := top 13
abbrev s5_ : Stmt := top 14
abbrev s6_ : Stmt := top 15
abbrev s7_ : Stmt := top 16
abbrev s8_ : Stmt := top 17
abbrev s9_ : Stmt := top 19
abbrev s10_ : Stmt := top 20
abbrev s11_ : Stmt := top 21
abbrev s12_ : Stmt := top 22
abbrev s13_ : Stmt := top 23
abbrev s14_ : Stmt := top 24
abbrev s15_ : Stmt := top 25
abbrev s16_ : Stmt := top 26
abbrev s17_ : Stmt := top 27
abbrev s18_ : Stmt := top 28
abbrev s19_ : Stmt := top 29
abbrev s20_ : Stmt := top 30
abbrev s21_ : Stmt := top 31
abbrev s22_ : Stmt := top 32
abbrev s23_ : Stmt := top 33
abbrev s24_ : Stmt := top 34
abbrev s25_ : Stmt := top 35
abbrev s26_ : Stmt := top 36
abbrev sm___init__ : Stmt := inClass (top 8) 0
abbrev sm_sees : Stmt := inClass (top 8) 1
abbrev sm_passes : Stmt := inClass (top 8) 2
abbrev sm_needs : Stmt := inClass (top 8) 3
abbrev sm_needs_end : Stmt := inClass (top 8) 4
abbrev sm_read_number : Stmt := inClass (top 8) 5
abbrev sm_read_quoted : Stmt := inClass (top 8) 6
section
variable {P : Program} {w : World} {K : PySem.W.Frag} {mg : Str -> Option Value} {base : Heap}
theorem _root_.L2.On.put {p c : Addr} {H : Hp} (d : DeckAt H p c) (S k : Int) : On p c H (upd H p (.lst [.ref c, .int S, .int k])) := by
 obtain ⟨ns, e', l⟩ := d.cs
 exact ⟨⟨d.ne, ⟨S, k, upd_same⟩, ns, by rw [upd_ne d.ne.symm]; exact e', l⟩, fun b o h hp _ => by rw [upd_ne hp]; exact h⟩
theorem _root_.L2.On.cut {p c : Addr} {H : Hp} (d : DeckAt H p c) (ns : List Int) (h : ns.length <= 64) : On p c H (upd H c (.lst (ns.map V.int))) := by
 obtain ⟨S, k, e⟩ := d.dk
 exact ⟨⟨d.ne, ⟨S, k, by rw [upd_ne d.ne]; exact e⟩, ns, upd_same, h⟩, fun b o h _ hc => by rw [upd_ne hc]; exact h⟩
theorem flat_ints (ns : List Int) : (ns.map V.int).all flatV = true := by
 rw [List.all_map]
 exact List.all_eq_true.mpr fun _ _ => rfl
theorem eqVs_nil (ns : List Int) : eqVs (ns.map V.int) [] = ns.isEmpty := by cases ns <;> rfl
theorem sc_mixed : FnScope ["_law_number_here", "_law_k"] ["_law_number_here", "_law_k"] (defScope s9_) := fsc (by decide +kernel)
theorem g_mixed (h : Has K mg "_law_mixed" s9_) : Good P w K mg base 1 "_law_mixed" ["_law_number_here", "_law_k"] spMixed := by
 refine h.good sc_mixed (fun|_,_,_,_,_,_,[_,_],_=>rfl) (fun vs H Q E q => ?_) (fun f cdv A outer s H vs Q E hr q => ?_)
 ·obtain ⟨n, k, rfl, _⟩ := q
  rfl
 ·obtain ⟨n, k, rfl, q⟩ := q
  have nd := sc_mixed.nd
  refine ⟨_, (pss_cons (ps_set (i := 0) nd rfl (by first | exact Or.inl rfl | exact Or.inr rfl) (pe_op op_mod (pe_op op_mul (pe_op op_add (pe_op op_add (pe_op op_mod (pv 0) pe_int) (pe_op op_mul pe_int (pv 1))) pe_int) pe_int) pe_int))
   (pss_cons (ps_set (i := 0) nd rfl (by first | exact Or.inl rfl | exact Or.inr rfl) (pe_op op_mod (pe_op op_add (pe_op op_add (pe_op op_mul (pv 0) (pv 0)) (pe_op op_mul pe_int (pv 1))) pe_int) pe_int))
   (pss_one (ps_ret (pe_op op_fdiv (pe_op op_mod (pe_op op_mul (pe_op op_add (pe_op op_mul (pe_op op_mod (pv 0) pe_int) pe_int) (pe_op op_fdiv (pv 0) pe_int)) pe_int) pe_int) pe_int))))), ?_⟩
  refine ⟨_, rfl, _, _, rfl, rfl, (by show (0 : Int) < _; decide), _, rfl, _, _, rfl, rfl, .inl ⟨by decide, by decide⟩, _, _, rfl, rfl, _, _, rfl, rfl, _, _, rfl, rfl, .inr ⟨by decide, by decide⟩, _, _, rfl, rfl, (by show (0 : Int) < _; decide), ?_⟩
  refine ⟨_, rfl, _, rfl, _, _, rfl, rfl, ?c, _, rfl, _, _, rfl, rfl, .inl ⟨by decide, by decide⟩, _, _, rfl, rfl, _, _, rfl, rfl, _, _, rfl, rfl, (by show (0 : Int) < _; decide), ?_⟩
  case c =>
   refine .inl ⟨?_, ?_⟩
   ·exact Int.lt_of_lt_of_le (by decide) (Int.emod_nonneg _ (by decide))
   ·exact Int.lt_trans (Int.emod_lt_of_pos _ (by decide)) (by decide)
  refine ⟨_, rfl, _, _, rfl, rfl, (by show (0 : Int) < _; decide), _, _, rfl, rfl, .inr ⟨by decide, by decide⟩, _, rfl, _, _, rfl, rfl, ⟨by decide, by decide⟩, _, _, rfl, rfl, _, _, rfl, rfl, .inr ⟨by decide, by decide⟩, _, _, rfl, rfl, (by show (0 : Int) < _; decide), _, _, rfl, rfl, ⟨by decide, by decide⟩, ?_⟩
  exact q _
theorem sc_deck : FnScope ["_law_script", "_law_cells"] ["_law_script"] (defScope s10_) := fsc (by decide +kernel)
theorem cut63 (ns : List Int) : cutV (ns.map V.int) none (some 63) = (ns.take 63).map V.int := by
 unfold cutV
 have e1 : HT.sIx (ns.map V.int).length 0 none = 0 := rfl
 rw [e1, List.drop_zero, Nat.sub_zero, List.map_take]
 by_cases h : ns.length <= 63
 ·rw [List.take_of_length_le (by simp [HT.sIx] <;> omega), List.take_of_length_le (by simpa using h)]
 ·congr 1
  simp [HT.sIx] <;> omega
theorem g_deck (h : Has K mg "_law_deck" s10_) (B : Own mg) : Good P w K mg base 1 "_law_deck" ["_law_script"] (spDeck K) := by
 refine h.good sc_deck (fun|_,_,_,_,_,_,[_],_=>rfl) (fun vs H Q E q => ?_) (fun f cdv A outer s H vs Q E hr q => ?_)
 ·obtain ⟨a, ns, rfl, _⟩ := q
  rfl
 ·obtain ⟨a, ns, rfl, hS, q⟩ := q
  have nd := sc_deck.nd
  refine ⟨_, (pss_cons (ps_set (i := 1) nd rfl (by first | exact Or.inl rfl | exact Or.inr rfl) (pe_callTy call_list_of rfl B.list_ boot_list (pa_c (pe_slice sl_list (pv 0) po_none (po_some pe_int)) pa_nil)))
   (pss_one (ps_ret (@pe_lstQ _ _ _ _ (@qa_c _ _ _ _ _ (pe_rev (pv 1) (pe_un un_neg pe_int)) (@qa_c _ _ _ _ _ (pe_op op_add (pe_callB (call_sumL rfl) rfl B.sum boot_sum (pa_c (pv 1) pa_nil)) (pe_op op_mul pe_int (pe_callB call_len_seq rfl B.len PySem.boot_len (pa_c (pv 1) pa_nil)))) (@qa_c _ _ _ _ _ pe_int qa_nil rfl) rfl) rfl))))), ?_⟩
  refine ⟨_, rfl, _, rfl, a, _, rfl, hS, fun l1 h1 => ?_⟩
  have e1 : upd H l1 (.lst (cutV (ns.map V.int) none (some 63))) = upd H l1 (.lst ((ns.take 63).map V.int)) := by rw [cut63]
  rw [e1]
  refine ⟨l1, _, rfl, .inl (SqL.of upd_same), fun l2 h2 => ?_⟩
  refine ⟨_, rfl, _, rfl, rfl, l2, _, rfl, SqL.of upd_same, fun l3 h3 => ?_⟩
  have n23 : l2 ≠ l3 := ne_of_none upd_same h3
  refine ⟨_, rfl, l2, ns.take 63, rfl, SqL.of (by rw [upd_ne n23]; exact upd_same), _, rfl, l2, _, rfl, .inl (SqL.of (by rw [upd_ne n23]; exact upd_same)), _, _, rfl, rfl, .inl ⟨by decide, by decide⟩, _, _, rfl, rfl, (by show 3 <= sizeLine; decide), fun l4 h4 => ?_⟩
  have n34 : l3 ≠ l4 := ne_of_none upd_same h4
  have f1 : ∀ b o, H b = some o -> upd H l1 (.lst ((ns.take 63).map V.int)) b = some o := fun b o e => by rw [upd_ne (ne_of_none e h1)]; exact e
  have s1 : Same H (upd H l1 (.lst ((ns.take 63).map V.int))) := f1
  have s2 : Same H (upd (upd H l1 (.lst ((ns.take 63).map V.int))) l2 (.lst ((ns.take 63).map V.int))) := fun b o e => by rw [upd_ne (ne_of_none (s1 b o e) h2)]; exact s1 b o e
  have s3 : Same H (upd (upd (upd H l1 (.lst ((ns.take 63).map V.int))) l2 (.lst ((ns.take 63).map V.int))) l3 (.lst ((ns.take 63).map V.int).reverse)) := fun b o e => by rw [upd_ne (ne_of_none (s2 b o e) h3)]; exact s2 b o e
  refine q l4 l3 _ (s3.free h4) (s2.free h3) ⟨n34.symm, ⟨_, _, upd_same⟩, (ns.take 63).reverse, ?_, ?_⟩ fun b o e => ?_
  ·rw [upd_ne n34, upd_same, List.map_reverse]
  ·rw [List.length_reverse, List.length_take]; omega
  ·rw [upd_ne (ne_of_none (s3 b o e) h4)]; exact s3 b o e
theorem sc_take : FnScope ["_law_deck_here", "_law_most", "_law_cell"] ["_law_deck_here", "_law_most"] (defScope s11_) := fsc (by decide +kernel)
theorem g_take (h : Has K mg "_law_take" s11_) (G9_ : Good P w K mg base 1 "_law_mixed" ["_law_number_here", "_law_k"] spMixed) : Good P w K mg base 2 "_law_take" ["_law_deck_here", "_law_most"] spTake := by
 refine h.good sc_take (fun|_,_,_,_,_,_,[_,_],_=>rfl) (fun vs H Q E q => ?_) (fun f cdv A outer s H vs Q E hr q => ?_)
 ·obtain ⟨p, c, m, rfl, _⟩ := q
  rfl
 ·obtain ⟨p, c, m, rfl, d, hm, hB, q⟩ := q
  have nd := sc_take.nd
  have hu := Nat.lt_of_succ_lt (hu_of hr)
  obtain ⟨hne, ⟨S, k, hp⟩, ns, hc, hl⟩ := id d
  refine ⟨_, (pss_cons (ps_asg (pe_op op_add (pe_ix ix_list (pv 0) pe_int (fun _ _ => rfl)) pe_int) (pg_sub (pv 0) pe_int set_list))
   (pss_cons (ps_if (pt_cmpR (op_eqL hu) (pe_ix ix_list (pv 0) pe_int (fun _ _ => rfl)) (@pe_lstQ _ _ _ _ qa_nil) (nomark _))
    (pss_one (ps_ret (pe_op op_mod (pe_fn G9_ (hr.mono (by first | decide | omega)) rfl (pa_c (pe_ix ix_list (pv 0) pe_int (fun _ _ => rfl)) (pa_c (pe_ix ix_list (pv 0) pe_int (fun _ _ => rfl)) pa_nil))) (pv 1))))
    pss_nil)
   (pss_cons (ps_set (i := 2) nd rfl (by first | exact Or.inl rfl | exact Or.inr rfl) (pe_bm0 PySem.F.plainAttrs_list PySem.F.slot_list_pop PySem.F.type_list_pop mt_pop (pe_ix ix_list (pv 0) pe_int (fun _ _ => rfl))))
   (pss_cons (ps_if (pt_cmpR op_lt (pv 2) (pe_op op_pow pe_int pe_int) (nomark _))
    (pss_one (ps_ret (pe_op op_mod (pe_fn G9_ (hr.mono (by first | decide | omega)) rfl (pa_c (pv 2) (pa_c (pe_ix ix_list (pv 0) pe_int (fun _ _ => rfl)) pa_nil))) (pv 1))))
    pss_nil)
   (pss_cons (ps_expr (pe_bm PySem.F.plainAttrs_list PySem.F.slot_list_append PySem.F.type_list_append mt_append (pe_ix ix_list (pv 0) pe_int (fun _ _ => rfl)) (pa_c (pe_op op_fdivL (pv 2) (pv 1)) pa_nil)))
   (pss_one (ps_ret (pe_op op_mod (pv 2) (pv 1))))))))), ?_⟩
  -- deck[2] = deck[2] + 1
  refine ⟨_, rfl, p, _, _, _, rfl, rfl, SqL.of hp, rfl, _, _, rfl, rfl, _, rfl, p, _, _, 2, rfl, rfl, hp, rfl, ?_⟩
  have o1 : On p c H (upd H p (.lst [.ref c, .int S, .int (k + 1)])) := On.put d S (k + 1)
  have hc1 : upd H p (.lst [.ref c, .int S, .int (k + 1)]) c = some (.lst (ns.map V.int)) := by rw [upd_ne hne.symm]; exact hc
  -- if deck[0] == []
  refine ⟨_, rfl, p, _, _, _, rfl, rfl, SqL.of upd_same, rfl, Nat.zero_le _, fun l hfree => ?_⟩
  have npl : p ≠ l := (o1.d.nep hfree).symm
  have ncl : c ≠ l := (o1.d.nec hfree).symm
  have o2 := o1.alloc (o := .lst []) hfree
  have hp2 : upd (upd H p (.lst [.ref c, .int S, .int (k + 1)])) l (.lst []) p = some (.lst [.ref c, .int S, .int (k + 1)]) := by rw [upd_ne npl]; exact upd_same
  have hc2 : upd (upd H p (.lst [.ref c, .int S, .int (k + 1)])) l (.lst []) c = some (.lst (ns.map V.int)) := by rw [upd_ne ncl]; exact hc1
  refine ⟨c, l, _, [], rfl, rfl, SqL.of hc2, SqL.of upd_same, flat_ints ns, rfl, _, rfl, ?_⟩
  rw [show (if false = true then !eqVs (ns.map V.int) [] else eqVs (ns.map V.int) []) = ns.isEmpty from eqVs_nil ns]
  have fin : ∀ r H', On p c H H' -> Q (.int (r % m)) H' := fun r H' o => q (r % m) H' (Int.emod_nonneg _ (by omega)) (Int.emod_lt_of_pos _ hm) o
  rcases List.eq_nil_or_concat ns with e | ⟨init, z, e⟩
  ·subst e
   refine iteT ?_
   refine ⟨_, rfl, p, _, _, _, rfl, rfl, SqL.of hp2, rfl, _, rfl, p, _, _, _, rfl, rfl, SqL.of hp2, rfl, _, _, rfl, fun r => ?_⟩
   exact ⟨_, rfl, _, _, rfl, rfl, hm, fin r _ o2⟩
  ·rw [List.concat_eq_append] at e
   subst e
   rw [show (init ++ [z]).isEmpty = false by simp]
   refine iteF ?_
   have hlast : ((init ++ [z]).map V.int)[((init ++ [z]).map V.int).length - 1]? = some (.int z) := by simp
   have hdrop : ((init ++ [z]).map V.int).dropLast = init.map V.int := by simp
   -- cell = deck[0].pop()
   refine ⟨_, rfl, p, _, _, _, rfl, rfl, SqL.of hp2, rfl, .inl ⟨rfl, _, SqL.of hc2⟩, c, _, _, rfl, rfl, hc2, hlast, ?_⟩
   rw [hdrop]
   have hli : init.length <= 63 := by rw [List.length_append, List.length_singleton] at hl; omega
   have o3 := o2.trans (On.cut o2.d init (by omega))
   have hp3 : upd (upd (upd H p (.lst [.ref c, .int S, .int (k + 1)])) l (.lst [])) c (.lst (init.map V.int)) p = some (.lst [.ref c, .int S, .int (k + 1)]) := by rw [upd_ne hne]; exact hp2
   -- if cell < 10 ** 18
   refine ⟨_, rfl, _, _, rfl, rfl, ⟨by decide, by decide, by decide⟩, _, _, rfl, rfl, _, rfl, ?_⟩
   refine ite2 (fun _ => ?_) (fun _ => ?_)
   ·refine ⟨_, rfl, _, rfl, p, _, _, _, rfl, rfl, SqL.of hp3, rfl, _, _, rfl, fun r => ?_⟩
    exact ⟨_, rfl, _, _, rfl, rfl, hm, fin r _ o3⟩
   ·refine ⟨_, rfl, p, _, _, _, rfl, rfl, SqL.of hp3, rfl, .inl ⟨rfl, _, SqL.of upd_same⟩, _, rfl, _, rfl, _, _, rfl, rfl, ⟨hm, hB⟩, c, _, _, rfl, rfl, upd_same, small1000 (by rw [List.length_map]; omega), ?_⟩
    rw [show init.map V.int ++ [V.int (z / m)] = (init ++ [z / m]).map V.int by simp]
    have o4 := o3.trans (On.cut o3.d (init ++ [z / m]) (by rw [List.length_append, List.length_singleton]; omega))
    exact ⟨_, rfl, _, rfl, _, _, rfl, rfl, hm, fin z _ o4⟩
end
end My
namespace My
open PySem L2 PyProof.Rows WordM
section
variable {P : Program} {w : World} {K : PySem.W.Frag} {mg : Str -> Option Value} {base : Heap}
def ptSigns : PSp := fun as R => as = [] /\ R (sT SIG)
theorem C12_ : FnScope ["_law_signs_here"] [] (defScope s12_) := fsc (by decide +kernel)
theorem g12_ (h : Has K mg "_law_signs" s12_) (B : Own mg)    : PGood P w K mg base 1 "_law_signs" [] ptSigns := by
 have nd := C12_.nd
 refine h.pgood C12_ (fun|_,_,_,_,_,_,[],_=>rfl) (fun f cdv A outer s H E F hr =>
   (us_cons (us_s 0 nd ue_str)
   (us_one (us_ret (ue_op pu_add (ue_var 0) ue_str))))) (fun as R q => ?_)
 obtain ⟨rfl, q⟩ := q
 exact ⟨rfl, show sigA.length + sigB.length <= 100000 by decide +kernel, q⟩
def ptText : PSp := fun as R => ∃ m : Int, as = [.dk, .va (iT m)] /\ 0 <= m /\ m <= 1000 /\ ∀ x : Str, Sg x -> (x.length : Int) <= m -> R (sT x)
theorem at_sgn {z : Str} {r : Int} (h0 : 0 <= r) (h1 : r < z.length) : ∃ c, atI z.cps.toList r = some c /\ c ∈ cs z := by
 have hl : r.toNat < (cs z).length := by rw [<- WordM.len]; omega
 refine ⟨(cs z)[r.toNat], ?_, List.getElem_mem hl⟩
 have := atI_nat (xs := cs z) (j := r.toNat) (List.getElem?_eq_getElem hl)
 rw [show ((r.toNat : Nat) : Int) = r by omega] at this
 exact this
theorem menu {α : Type} {l : List α} {r : Int} (h0 : 0 <= r) (h1 : r < l.length) : ∃ m, atI l r = some m /\ m ∈ l := by
 have hl : r.toNat < l.length := by omega
 refine ⟨l[r.toNat], ?_, List.getElem_mem hl⟩
 have := atI_nat (xs := l) (j := r.toNat) (List.getElem?_eq_getElem hl)
 rw [show ((r.toNat : Nat) : Int) = r by omega] at this
 exact this
theorem g13_ (h : Has K mg "_law_text" s13_) (B : Own mg) (G12_ : PGood P w K mg base 1 "_law_signs" [] ptSigns) (G11_ : PGood P w K mg base 2 "_law_take" ["_law_deck_here", "_law_most"] ptTake)   : PGood P w K mg base 3 "_law_text" ["_law_deck_here", "_law_most"] ptText := by
 refine h.pg2 ["_law_deck_here", "_law_most", "_law_signs_here", "_law_some", "_law_text_here", "_law_k"] (fun nd hr =>
   (us_cons (us_s 2 nd (ue_fn0 G12_ (hr.mono (by omega)) rfl))
   (us_cons (us_s 3 nd (ue_x hr (ue_ul (ul_lst (ua_c (ue_var 2) (ua_c (ue_var 2) (ua_c ue_str (ua_c ue_str (ua_c ue_str (ua_c ue_str ua_nil)))))))) (ue_fm G11_ hr (ua_dk 0 (ua_c ue_int ua_nil)))))
   (us_cons (us_s 4 nd ue_str)
   (us_cons (us_for (m := 6) PassesOwn.never rfl (ui_range1 rfl B.range (ua_c (ue_fm G11_ hr (ua_dk 0 (ua_c (ue_op pu_add (ue_var 1) ue_int) ua_nil))) ua_nil)) (ug_name 5 (by decide) nd rfl (.inl rfl))
    (us_one (us_s 4 nd (ue_op pu_add (ue_var 4) (ue_x hr (ue_var 3) (ue_fm G11_ hr (ua_dk 0 (ua_c (ue_callB pu_len rfl B.len PySem.boot_len (ua_c (ue_var 3) ua_nil)) ua_nil))))))))
   (us_one (us_ret (ue_var 4)))))))) (fun as R q => ?_)
 obtain ⟨m, rfl, m0, m1, q⟩ := q
 refine ⟨rfl, rfl, ?_⟩
 refine ⟨by decide, rfl, 6, rfl, by decide, big_of (by decide) (by decide), fun r r0 r6 => ?_⟩
 obtain ⟨z, hz, hzm⟩ := menu (l := [sT SIG, sT SIG, sT "0123456789", sT "abc", sT "XYZ", sT "a1"]) r0 r6
 refine ⟨z, hz, ?_⟩
 have hzs : ∃ y, z = sT y /\ Sg y /\ 0 < y.length /\ y.length <= 100 := by
  simp only [List.mem_cons, List.not_mem_nil, or_false] at hzm
  rcases hzm with e | e | e | e | e | e <;> subst e
  ·exact ⟨_, rfl, fun _ h => h, by decide +kernel, by decide +kernel⟩
  ·exact ⟨_, rfl, fun _ h => h, by decide +kernel, by decide +kernel⟩
  ·exact ⟨_, rfl, by decide +kernel, by decide +kernel, by decide +kernel⟩
  ·exact ⟨_, rfl, by decide +kernel, by decide +kernel, by decide +kernel⟩
  ·exact ⟨_, rfl, by decide +kernel, by decide +kernel, by decide +kernel⟩
  ·exact ⟨_, rfl, by decide +kernel, by decide +kernel, by decide +kernel⟩
 clear hz hzm
 obtain ⟨y, rfl, y1, y2, y3⟩ := hzs
 refine ⟨rfl, m + 1, rfl, by omega, big_of (by omega) (by omega), fun n n0 n1 => ⟨n, rfl, by omega, by omega, ?_⟩⟩
 refine forT_inv (fun i ρ => ∃ (x : Str) (s : Sl), Sg x /\ x.length = i /\ ρ = [.dk, .va (iT m), .va (sT SIG), .va (sT y), .va (sT x), s]) ⟨⟨#[]⟩, .no, sg_nil, rfl, rfl⟩ ?_ ?_
 ·rintro i T _ N hT ⟨x, s, sx, lx, rfl⟩ hN
  have hi := (rngT_get hT).1
  refine ⟨rfl, by omega, ?_⟩
  refine ⟨y.length, rfl, by omega, big_of (by omega) (by omega), fun k k0 k1 => ⟨by omega, ?_⟩⟩
  obtain ⟨c, hc, hcm⟩ := at_sgn (z := y) k0 k1
  refine ⟨c, hc, by show x.length + 1 <= 100000; omega, hN _ ⟨x ++ ⟨#[c]⟩, _, sx.app (y1.one hcm), ?_, rfl⟩⟩
  rw [WordM.len, WordM.app, List.length_append, <- WordM.len, lx]
  rfl
 ·rintro _ ⟨x, s, sx, lx, rfl⟩
  refine q x sx ?_
  rw [lx, rngT_len]
  omega
end
section
variable {P : Program} {w : World} {K : PySem.W.Frag} {mg : Str -> Option Value} {base : Heap}
theorem sg_sig (a : Int) : Sg ⟨#[sigAt a]⟩ := fun cc hc => by
 have e : cc = sigAt a := by simpa using hc
 rw [e]
 exact sigAt_mem _
def Txts (m : Int) (ss : List Str) : Prop := ss.Nodup /\ ∀ s ∈ ss, Sg s /\ (s.length : Int) <= (if m < 1 then 1 else m)
def ptUnlike : PSp := fun as R => ∃ n m : Int, as = [.dk, .va (iT n), .va (iT m)] /\ 0 <= n /\ n <= 63 /\ 0 <= m /\ m <= 1000 /\ ∀ ss : List Str, (ss.length : Int) = n -> Txts m ss -> R (.seq false (ss.map sT))
theorem g14_ (h : Has K mg "_law_unlike" s14_) (B : Own mg) (G12_ : PGood P w K mg base 1 "_law_signs" [] ptSigns) (G13_ : PGood P w K mg base 3 "_law_text" ["_law_deck_here", "_law_most"] ptText)   : PGood P w K mg base 4 "_law_unlike" ["_law_deck_here", "_law_many", "_law_most"] ptUnlike := by
 refine h.pg3 ["_law_deck_here", "_law_many", "_law_most", "_law_signs_here", "_law_found", "_law_k", "_law_text_here", "_law_at"] (fun nd hr =>
   (us_cons (us_s 3 nd (ue_fn0 G12_ (hr.mono (by omega)) rfl))
   (us_cons (us_o 4 nd (ul_lst ua_nil))
   (us_cons (us_for (m := 8) PassesOwn.never rfl (ui_range1 rfl B.range (ua_c (ue_var 1) ua_nil)) (ug_name 5 (by decide) nd rfl (.inl rfl))
    (us_cons (us_s 6 nd (ue_fm G13_ hr (ua_dk 0 (ua_c (ue_var 2) ua_nil))))
    (us_cons (us_s 7 nd (ue_bmS PySem.F.slot_str_find PySem.F.type_str_find pm_find (ue_var 3) (ua_c (ue_slice pu_sl (ue_var 6) uo_none (uo_some ue_int)) ua_nil)))
    (us_cons (us_while PassesOwn.never (ub_peek fun F => (ub_cp (pu_in hr.units) (ue_var 6) (ue_var 4) rfl))
     (us_cons (us_s 7 nd (ue_op pu_mod (ue_op pu_add (ue_var 7) ue_int) (ue_callB pu_len rfl B.len PySem.boot_len (ua_c (ue_var 3) ua_nil))))
     (us_one (us_s 6 nd (ue_op pu_add (ue_x hr (ue_var 3) (ue_var 7)) (ue_slice pu_sl (ue_var 6) (uo_some ue_int) uo_none))))))
    (us_one (us_expr (ue_append 4 (ue_var 6))))))))
   (us_one (us_ret (ue_var 4))))))) (fun as R q => ?_)
 obtain ⟨n, m, rfl, n0, n63, m0, m1, q⟩ := q
 have hsl : SIG.length = 94 := sig_len
 refine ⟨rfl, rfl, by decide, n, rfl, by omega, by omega, ?_⟩
 refine forT_inv (fun i ρ => ∃ (ss : List Str) (s5 s6 s7 : Sl), ss.length = i /\ Txts m ss /\ ρ = [.dk, .va (iT n), .va (iT m), .va (sT SIG), .own (ss.map sT), s5, s6, s7]) ⟨[], .no, .no, .no, rfl, ⟨List.nodup_nil, fun s hs => nomatch hs⟩, rfl⟩ ?_ ?_
 ·rintro i T _ N hT ⟨ss, s5, s6, s7, hlen, htx, rfl⟩ hN
  obtain ⟨hi, rfl⟩ := rngT_get hT
  refine ⟨rfl, m, rfl, m0, m1, fun x0 sx0 hx0 => ?_⟩
  refine ⟨rfl, 1, rfl, by omega, SIG, _, rfl, rfl, fun a0 => ?_⟩
  let r : Str := Txt.slice x0 (some 1) none
  have hr1 : r.length + 1 <= (if x0.length < 1 then 1 else x0.length) := slice1_len x0
  have sr : Sg r := sx0.slice _ _
  refine ⟨fun M ρ => ∃ (j : Nat) (x : Str), M + j = ss.length + 2 /\ j <= ss.length + 1 /\ (∀ i, 1 <= i -> i < j -> tryT a0 r i ∈ ss) /\ (j = 0 /\ x = x0 \/ 1 <= j /\ x = tryT a0 r j) /\
    ρ = [.dk, .va (iT n), .va (iT m), .va (sT SIG), .own (ss.map sT), .va (iT (0 + (i : Int))), .va (sT x), .va (iT (if j = 0 then a0 else (a0 + j) % 94))],
   ⟨ss.length + 2, 0, x0, rfl, Nat.zero_le _, fun i h1 h2 => absurd h2 (Nat.not_lt_zero _), .inl ⟨rfl, rfl⟩, rfl⟩, ?_⟩
  rintro M _ ⟨j, x, hM, hj, htr, hx, rfl⟩
  have hxl : Sg x /\ (x.length : Int) <= (if m < 1 then 1 else m) /\ Txt.slice x (some 1) none = r := by
   rcases hx with ⟨_, rfl⟩ | ⟨_, rfl⟩
   ·refine ⟨sx0, ?_, rfl⟩
    split <;> omega
   ·refine ⟨Sg.app (sg_sig _) sr, ?_, slice_tail⟩
    have : (tryT a0 r j).length = r.length + 1 := by
     unfold tryT
     rw [WordM.len, WordM.app, WordM.len, List.length_append]
     simp
     omega
    rw [this]
    split at hr1 <;> split <;> omega
  obtain ⟨sx, hxm, hxr⟩ := hxl
  have hx1000 : x.length <= 1000 := by split at hxm <;> omega
  refine ⟨inok_str, _, rfl, ?_⟩
  rw [any_str]
  refine sif (fun h1 => ?_) (fun h1 => ?_)
  ·have h1 : x ∈ ss := by simpa using h1
   have hall : ∀ i, 1 <= i -> i <= j -> tryT a0 r i ∈ ss := fun i i1 i2 => by
    rcases Nat.lt_or_eq_of_le i2 with z | z
    ·exact htr i i1 z
    ·rcases hx with ⟨z0, _⟩ | ⟨_, e⟩
     ·omega
     ·rw [z, <- e]; exact h1
   have hjs : j <= ss.length := tried_le (by omega) hall
   have hmod : ((if j = 0 then a0 else (a0 + (j : Int)) % 94) + 1) % 94 = (a0 + ((j + 1 : Nat) : Int)) % 94 := by
    split
    ·rename_i z; subst z; congr 1
    ·push_cast; omega
   have hsl' : ((SIG.length : Nat) : Int) = 94 := by rw [hsl]; rfl
   have e1 : ((if j = 0 then a0 else (a0 + (j : Int)) % 94) + 1) % ((SIG.length : Nat) : Int) = (a0 + ((j + 1 : Nat) : Int)) % 94 := by rw [hsl', hmod]
   have hat : atI SIG.cps.toList (((if j = 0 then a0 else (a0 + (j : Int)) % 94) + 1) % ((SIG.length : Nat) : Int)) = some (sigAt (a0 + ((j + 1 : Nat) : Int))) := by
    rw [e1]
    have b1 := Int.emod_lt_of_pos (a0 + ((j + 1 : Nat) : Int)) (show (0 : Int) < 94 by decide)
    have b2 := Int.emod_nonneg (a0 + ((j + 1 : Nat) : Int)) (show (94 : Int) ≠ 0 by decide)
    have hlt : ((a0 + ((j + 1 : Nat) : Int)) % 94).toNat < (cs SIG).length := by rw [<- WordM.len]; omega
    have := atI_nat (xs := cs SIG) (j := ((a0 + ((j + 1 : Nat) : Int)) % 94).toNat) (List.getElem?_eq_getElem hlt)
    rw [show ((((a0 + ((j + 1 : Nat) : Int)) % 94).toNat : Nat) : Int) = (a0 + ((j + 1 : Nat) : Int)) % 94 by omega] at this
    rw [this]
    unfold sigAt
    rw [List.getD_eq_getElem?_getD, List.getElem?_eq_getElem hlt]
    rfl
   refine ⟨by omega, by omega, by omega, _, hat, 1, rfl, by omega, ?_, ?_⟩
   ·show 1 + (Txt.slice x (some 1) none).length <= 100000
    rw [hxr]
    split at hr1 <;> omega
   ·refine ⟨ss.length + 2 - (j + 1), by omega, j + 1, tryT a0 r (j + 1), by omega, by omega, fun i i1 i2 => hall i i1 (by omega), .inr ⟨by omega, rfl⟩, ?_⟩
    show [Sl.dk, .va (iT n), .va (iT m), .va (sT SIG), .own (ss.map sT), .va (iT (0 + (i : Int))), .va (sT ((⟨#[sigAt (a0 + ((j + 1 : Nat) : Int))]⟩ : Str) ++ Txt.slice x (some 1) none)), .va (iT (((if j = 0 then a0 else (a0 + (j : Int)) % 94) + 1) % ((SIG.length : Nat) : Int)))] = _
    rw [e1, if_neg (by omega), hxr]
    rfl
  ·have h1 : x ∉ ss := by simpa using h1
   refine ⟨⟨_, rfl⟩, _, rfl, by rw [List.length_map]; omega, hN _ ⟨ss ++ [x], .va (iT (0 + (i : Int))), .va (sT x), .va (iT (if j = 0 then a0 else (a0 + j) % 94)), by rw [List.length_append, hlen]; rfl, ⟨?_, fun s hs => ?_⟩, ?_⟩⟩
   ·rw [List.nodup_append]
    exact ⟨htx.1, by simp, fun a ha b hb => by rw [List.mem_singleton] at hb; subst hb; rintro rfl; exact h1 ha⟩
   ·rcases List.mem_append.mp hs with z | z
    ·exact htx.2 s z
    ·rw [List.mem_singleton] at z; subst z; exact ⟨sx, hxm⟩
   ·rw [List.map_append]; rfl
 ·rintro _ ⟨ss, s5, s6, s7, hlen, htx, rfl⟩
  rw [rngT_len] at hlen
  exact q ss (by omega) htx
def ptFar : PSp := fun as R => as = [.dk] /\ ∀ r : Int, -(10 ^ 60) < r -> r < 10 ^ 60 -> R (iT r)
theorem g15_ (h : Has K mg "_law_far" s15_) (B : Own mg) (G11_ : PGood P w K mg base 2 "_law_take" ["_law_deck_here", "_law_most"] ptTake)   : PGood P w K mg base 3 "_law_far" ["_law_deck_here"] ptFar := by
 refine h.pg1 ["_law_deck_here", "_law_number_here", "_law_k"] (fun nd hr =>
   (us_cons (us_s 1 nd ue_int)
   (us_cons (us_for (m := 3) PassesOwn.never rfl (ui_range1 rfl B.range (ua_c ue_int ua_nil)) (ug_name 2 (by decide) nd rfl (.inl rfl))
    (us_one (us_s 1 nd (ue_op pu_add (ue_op pu_mul2 (ue_var 1) (ue_op pu_pow ue_int ue_int)) (ue_fm G11_ hr (ua_dk 0 (ua_c (ue_op pu_pow ue_int ue_int) ua_nil)))))))
   (us_one (us_ret (ue_op pu_add (ue_op pu_sub (ue_op pu_mod (ue_var 1) (ue_op pu_sub (ue_op pu_mul2 ue_int (ue_op pu_pow ue_int ue_int)) ue_int)) (ue_op pu_pow ue_int ue_int)) ue_int)))))) (fun as R q => ?_)
 obtain ⟨rfl, q⟩ := q
 refine ⟨rfl, 8, rfl, by decide, by decide, ?_⟩
 refine forT_inv (fun i ρ => ∃ (x : Int) (s : Sl), 0 <= x /\ x < 10 ^ (8 * i) /\ ρ = [.dk, .va (iT x), s]) ⟨0, .no, by decide, by decide, rfl⟩ ?_ ?_
 ·rintro i T _ N hT ⟨x, s, x0, x1, rfl⟩ hN
  obtain ⟨hi, rfl⟩ := rngT_get hT
  have hi : i < 8 := hi
  have xb : x < 10 ^ 64 := Int.lt_of_lt_of_le x1 (by
   have : i = 0 \/ i = 1 \/ i = 2 \/ i = 3 \/ i = 4 \/ i = 5 \/ i = 6 \/ i = 7 := by omega
   rcases this with e | e | e | e | e | e | e | e <;> subst e <;> decide)
  refine ⟨⟨by decide, by decide, by decide⟩, .inr ⟨big_of (by omega) (by omega), big_of (by decide) (by decide)⟩, rfl, ⟨by decide, by decide, by decide⟩, 10 ^ 8, rfl, by decide, big_of (by decide) (by decide), fun r r0 r1 => hN _ ⟨_, _, ?_, ?_, rfl⟩⟩
  ·show 0 <= x * (10 ^ 8 : Int) + r
   omega
  ·show x * (10 ^ 8 : Int) + r < 10 ^ (8 * (i + 1))
   have e : (10 : Int) ^ (8 * (i + 1)) = 10 ^ (8 * i) * 10 ^ 8 := by rw [Nat.mul_add, Int.pow_add]
   rw [e]
   have h8 : r < (10 : Int) ^ 8 := r1
   generalize (10 : Int) ^ (8 * i) = y at x1
   omega
 ·rintro _ ⟨x, s, x0, x1, rfl⟩
  refine ⟨⟨by decide, by decide, by decide⟩, .inl (.inl ⟨by decide, by decide⟩), (show (0 : Int) < 2 * 10 ^ 60 - 1 by decide), ⟨by decide, by decide, by decide⟩, ?_⟩
  have h1 := Int.emod_nonneg x (show (2 * 10 ^ 60 - 1 : Int) ≠ 0 by decide)
  have h2 := Int.emod_lt_of_pos x (show (0 : Int) < 2 * 10 ^ 60 - 1 by decide)
  refine q _ ?_ ?_
  ·show -(10 ^ 60) < x % (2 * 10 ^ 60 - 1) - 10 ^ 60 + 1
   omega
  ·show x % (2 * 10 ^ 60 - 1) - 10 ^ 60 + 1 < 10 ^ 60
   omega
end
section
variable {P : Program} {w : World} {K : PySem.W.Frag} {mg : Str -> Option Value} {base : Heap}
structure WorldOk (nm tx : List Str) (st sp : Int) : Prop where
 n11 : nm.length = 11
 t9 : tx.length = 9
 nd : nm.Nodup
 ndt : tx.Nodup
 ns : ∀ s ∈ nm, Sg s /\ s.length <= 40
 ts : ∀ s ∈ tx, Sg s /\ s.length <= 43
 st1 : -(10 ^ 57) <= st
 st2 : st <= 10 ^ 57
 sp1 : 1 <= sp
 sp2 : sp <= 10 ^ 20
def worldT (nm tx : List Str) (st sp : Int) : Tv := .seq false [.seq false (nm.map sT), .seq false (tx.map sT), iT st, iT sp]
def ptWorld : PSp := fun as R => as = [.dk] /\ ∀ nm tx st sp, WorldOk nm tx st sp -> R (worldT nm tx st sp)
theorem app_inj {a b c : Str} (h : a ++ b = a ++ c) : b = c := by
 have := congrArg cs h
 rw [WordM.app, WordM.app] at this
 exact str_ext (List.append_cancel_left this)
theorem g16_ (h : Has K mg "_law_world" s16_) (B : Own mg) (G11_ : PGood P w K mg base 2 "_law_take" ["_law_deck_here", "_law_most"] ptTake) (G14_ : PGood P w K mg base 4 "_law_unlike" ["_law_deck_here", "_law_many", "_law_most"] ptUnlike) (G13_ : PGood P w K mg base 3 "_law_text" ["_law_deck_here", "_law_most"] ptText) (G15_ : PGood P w K mg base 3 "_law_far" ["_law_deck_here"] ptFar)   : PGood P w K mg base 5 "_law_world" ["_law_deck_here"] ptWorld := by
 refine h.pg1 ["_law_deck_here", "_law_most", "_law_names", "_law_head", "_law_texts", "_law_start"] (fun nd hr =>
   (us_cons (us_s 1 nd (ue_x hr (ue_ul (ul_lst (ua_c ue_int (ua_c ue_int (ua_c ue_int (ua_c ue_int (ua_c ue_int (ua_c ue_int (ua_c ue_int (ua_c ue_int ua_nil)))))))))) (ue_fm G11_ hr (ua_dk 0 (ua_c ue_int ua_nil)))))
   (us_cons (us_s 2 nd (ue_fm G14_ hr (ua_dk 0 (ua_c ue_int (ua_c (ue_var 1) ua_nil)))))
   (us_cons (us_s 3 nd (ue_fm G13_ hr (ua_dk 0 (ua_c (ue_op pu_mul2 ue_int (ue_fm G11_ hr (ua_dk 0 (ua_c ue_int ua_nil)))) ua_nil))))
   (us_cons (us_c1 (sc := defScope s16_) (XN := ["_law_deck_here", "_law_most", "_law_names", "_law_head", "_law_texts", "_law_start"]) (N := ["_law_text_here", "_law_head"]) (fr := [3]) 4 nd (ui_val (ue_fm G14_ hr (ua_dk 0 (ua_c ue_int (ua_c (ue_var 1) ua_nil))))) (fun _ _ _ _ _ => uf_nil) (fun _ _ _ _ _ => (ue_op pu_add (ue_var 1) (ue_var 0))))
   (us_cons (us_s 5 nd (ue_x hr (ue_ul (ul_lst (ua_c ue_int (ua_c ue_int (ua_c (ue_un pu_neg ue_int) (ua_c (ue_op pu_fdiv (ue_fm G15_ hr (ua_dk 0 ua_nil)) ue_int) ua_nil)))))) (ue_fm G11_ hr (ua_dk 0 (ua_c ue_int ua_nil)))))
   (us_one (us_ret (ue_ul (ul_lst (ua_c (ue_var 2) (ua_c (ue_var 4) (ua_c (ue_var 5) (ua_c (ue_op pu_add ue_int (ue_fm G11_ hr (ua_dk 0 (ua_c (ue_x hr (ue_ul (ul_lst (ua_c ue_int (ua_c (ue_op pu_pow ue_int ue_int) ua_nil)))) (ue_fm G11_ hr (ua_dk 0 (ua_c ue_int ua_nil)))) ua_nil)))) ua_nil)))))))))))))) (fun as R q => ?_)
 obtain ⟨rfl, q⟩ := q
 refine ⟨rfl, by decide, rfl, 8, rfl, by decide, big_of (by decide) (by decide), fun r r0 r1 => ?_⟩
 obtain ⟨M, hM, hMm⟩ := menu (l := [iT 4, iT 3, iT 5, iT 1, iT 4, iT 3, iT 6, iT 40]) r0 r1
 have hm : ∃ m : Int, M = iT m /\ 1 <= m /\ m <= 40 := by
  simp only [List.mem_cons, List.not_mem_nil, or_false] at hMm
  rcases hMm with e | e | e | e | e | e | e | e <;> subst e <;> exact ⟨_, rfl, by decide, by decide⟩
 obtain ⟨m, rfl, m1, m2⟩ := hm
 refine ⟨_, hM, ?_⟩
 clear hM hMm
 refine ⟨rfl, 11, m, rfl, by decide, by decide, by omega, by omega, fun nm hnm tnm => ?_⟩
 refine ⟨rfl, rfl, 2, rfl, by decide, big_of (by decide) (by decide), fun r2 a0 a1 => ⟨.inl (.inl ⟨by decide, by decide⟩), _, rfl, by omega, by omega, fun hd shd lhd => ?_⟩⟩
 refine ⟨rfl, 9, m, rfl, by decide, by decide, by omega, by omega, fun tx htx ttx => ⟨by rw [List.length_map]; omega, ?_⟩⟩
 have lt : ∀ s ∈ tx, Sg s /\ s.length <= 40 := fun s hs => by
  have := ttx.2 s hs
  refine ⟨this.1, ?_⟩
  have := this.2
  split at this <;> omega
 refine compT_of sT (fun s => sT (hd ++ s)) (fun s hs R q => ?_) ?_
 ·have := (lt s hs).2
  exact ⟨show hd.length + s.length <= 100000 by omega, q⟩
 refine ⟨rfl, rfl, fun fr fr0 fr1 => ⟨⟨by decide, big_of (by decide) (by decide)⟩, (show 4 <= 100000 by decide), rfl, 4, rfl, by decide, big_of (by decide) (by decide), fun r3 b0 b1 => ?_⟩⟩
 obtain ⟨S, hS, hSm⟩ := menu (l := [iT 0, iT 7, iT (-40), iT (fr / 1000)]) b0 b1
 have hs : ∃ st : Int, S = iT st /\ -(10 ^ 57) <= st /\ st <= 10 ^ 57 := by
  simp only [List.mem_cons, List.not_mem_nil, or_false] at hSm
  rcases hSm with e | e | e | e <;> subst e
  ·exact ⟨_, rfl, by decide, by decide⟩
  ·exact ⟨_, rfl, by decide, by decide⟩
  ·exact ⟨_, rfl, by decide, by decide⟩
  ·exact ⟨_, rfl, by omega, by omega⟩
 obtain ⟨st, rfl, st1, st2⟩ := hs
 refine ⟨_, hS, ?_⟩
 clear hS hSm
 refine ⟨rfl, ⟨by decide, by decide, by decide⟩, by decide, rfl, 2, rfl, by decide, big_of (by decide) (by decide), fun r4 c0 c1 => ?_⟩
 obtain ⟨W, hW, hWm⟩ := menu (l := [iT 6, iT (10 ^ 20)]) c0 c1
 have hw : ∃ wi : Int, W = iT wi /\ 1 <= wi /\ wi <= 10 ^ 20 := by
  simp only [List.mem_cons, List.not_mem_nil, or_false] at hWm
  rcases hWm with e | e <;> subst e <;> exact ⟨_, rfl, by decide, by decide⟩
 obtain ⟨wi, rfl, w1, w2⟩ := hw
 refine ⟨_, hW, wi, rfl, by omega, big_of (by omega) (by omega), fun sp sp0 sp1 => ⟨(show 4 <= 100000 by decide), ?_⟩⟩
 have := q nm (tx.map fun s => hd ++ s) st (1 + sp) ⟨by omega, by rw [List.length_map]; omega, tnm.1, ?_, fun s hs => ?_, fun s hs => ?_, st1, st2, by omega, by omega⟩
 ·show R (.seq false [.seq false (nm.map sT), .seq false (tx.map fun s => sT (hd ++ s)), iT st, iT (1 + sp)])
  rw [worldT, List.map_map] at this
  exact this
 ·unfold List.Nodup
  rw [List.pairwise_map]
  exact ttx.1.imp fun h e => h (app_inj e)
 ·have := tnm.2 s hs
  refine ⟨this.1, ?_⟩
  have := this.2
  split at this <;> omega
 ·obtain ⟨z, hz, rfl⟩ := List.mem_map.mp hs
  refine ⟨shd.app (lt z hz).1, ?_⟩
  rw [WordM.len, WordM.app, List.length_append, <- WordM.len, <- WordM.len]
  have := (lt z hz).2
  omega
def NumB (n : Int) : Prop := -(10 ^ 60) < n /\ n < 10 ^ 60
def ptNumber : PSp := fun as R => ∃ nm tx st sp, as = [.dk, .va (worldT nm tx st sp)] /\ WorldOk nm tx st sp /\ ∀ n : Int, NumB n -> R (iT n)
theorem mul_nb {a b : Int} (h1 : 1 <= a) (h2 : a <= 10 ^ 20) (h3 : -100 <= b) (h4 : b <= 100) : -(10 ^ 22) <= a * b /\ a * b <= 10 ^ 22 := by
 have e1 : a * b <= a * 100 := Int.mul_le_mul_of_nonneg_left h4 (by omega)
 have e2 : a * (-100) <= a * b := Int.mul_le_mul_of_nonneg_left h3 (by omega)
 omega
theorem g17_ (h : Has K mg "_law_number" s17_) (B : Own mg) (G11_ : PGood P w K mg base 2 "_law_take" ["_law_deck_here", "_law_most"] ptTake) (G15_ : PGood P w K mg base 3 "_law_far" ["_law_deck_here"] ptFar)   : PGood P w K mg base 4 "_law_number" ["_law_deck_here", "_law_world_here"] ptNumber := by
 refine h.pg2 ["_law_deck_here", "_law_world_here", "_law_way"] (fun nd hr =>
   (us_cons (us_s 2 nd (ue_fm G11_ hr (ua_dk 0 (ua_c ue_int ua_nil))))
   (us_cons (us_if (ub_q hr (ue_var 2) ue_int)
    (us_one (us_ret (ue_op pu_sub (ue_fm G11_ hr (ua_dk 0 (ua_c ue_int ua_nil))) ue_int)))
    us_nil)
   (us_cons (us_if (ub_q hr (ue_var 2) ue_int)
    (us_one (us_ret (ue_fm G15_ hr (ua_dk 0 ua_nil))))
    us_nil)
   (us_one (us_ret (ue_op pu_add (ue_x hr (ue_var 1) ue_int) (ue_op pu_mul2 (ue_x hr (ue_var 1) ue_int) (ue_op pu_sub (ue_fm G11_ hr (ua_dk 0 (ua_c ue_int ua_nil))) ue_int))))))))) (fun as R q => ?_)
 obtain ⟨nm, tx, st, sp, rfl, hw, q⟩ := q
 obtain ⟨_, _, _, _, _, _, st1, st2, sp1, sp2⟩ := hw
 refine ⟨rfl, rfl, 6, rfl, by decide, big_of (by decide) (by decide), fun r r0 r1 => ?_⟩
 refine ⟨_, rfl, sif (fun _ => ⟨rfl, 9, rfl, by decide, big_of (by decide) (by decide), fun k k0 k1 => q _ ⟨by omega, by omega⟩⟩) (fun _ => ?_)⟩
 refine ⟨_, rfl, sif (fun _ => ⟨rfl, rfl, fun k k0 k1 => q _ ⟨k0, k1⟩⟩) (fun _ => ?_)⟩
 refine ⟨_, rfl, _, rfl, rfl, 12, rfl, by decide, big_of (by decide) (by decide), fun k k0 k1 => ⟨.inr ⟨big_of (by omega) (by omega), big_of (by omega) (by omega)⟩, q _ ?_⟩⟩
 have := mul_nb (b := k - 4) sp1 sp2 (by omega) (by omega)
 exact ⟨by show _ < st + sp * (k - 4); omega, by show st + sp * (k - 4) < _; omega⟩
def LeafV (tx : List Str) : Tv -> Prop
 | .leaf .non => True
 | .leaf (.bl _) => True
 | .leaf (.int n) => NumB n
 | .leaf (.str s) => s ∈ tx
 | _ => False
def ptLeaf : PSp := fun as R => ∃ nm tx st sp, as = [.dk, .va (worldT nm tx st sp)] /\ WorldOk nm tx st sp /\ ∀ T, LeafV tx T -> R T
theorem g18_ (h : Has K mg "_law_leaf" s18_) (B : Own mg) (G11_ : PGood P w K mg base 2 "_law_take" ["_law_deck_here", "_law_most"] ptTake) (G17_ : PGood P w K mg base 4 "_law_number" ["_law_deck_here", "_law_world_here"] ptNumber)   : PGood P w K mg base 5 "_law_leaf" ["_law_deck_here", "_law_world_here"] ptLeaf := by
 refine h.pg2 ["_law_deck_here", "_law_world_here", "_law_way"] (fun nd hr =>
   (us_cons (us_s 2 nd (ue_fm G11_ hr (ua_dk 0 (ua_c ue_int ua_nil))))
   (us_cons (us_if (ub_q hr (ue_var 2) ue_int)
    (us_one (us_ret ue_non))
    us_nil)
   (us_cons (us_if (ub_q hr (ue_var 2) ue_int)
    (us_one (us_ret (ue_cp (pu_eq hr.units).op (ue_fm G11_ hr (ua_dk 0 (ua_c ue_int ua_nil))) ue_int)))
    us_nil)
   (us_cons (us_if (ub_cp pu_lt (ue_var 2) ue_int)
    (us_one (us_ret (ue_fm G17_ hr (ua_dk 0 (ua_c (ue_var 1) ua_nil)))))
    us_nil)
   (us_one (us_ret (ue_x hr (ue_x hr (ue_var 1) ue_int) (ue_fm G11_ hr (ua_dk 0 (ua_c (ue_callB pu_len rfl B.len PySem.boot_len (ua_c (ue_x hr (ue_var 1) ue_int) ua_nil)) ua_nil))))))))))) (fun as R q => ?_)
 obtain ⟨nm, tx, st, sp, rfl, hw, q⟩ := q
 refine ⟨rfl, rfl, 8, rfl, by decide, big_of (by decide) (by decide), fun r r0 r1 => ?_⟩
 refine ⟨_, rfl, sif (fun _ => q nT trivial) (fun _ => ?_)⟩
 refine ⟨_, rfl, sif (fun _ => ⟨rfl, 2, rfl, by decide, big_of (by decide) (by decide), fun k k0 k1 => q (bT _) trivial⟩) (fun _ => ?_)⟩
 refine ⟨_, rfl, sif (fun _ => ⟨rfl, nm, tx, st, sp, rfl, hw, fun n hn => q (iT n) hn⟩) (fun _ => ?_)⟩
 refine ⟨_, rfl, rfl, _, rfl, (tx.map sT).length, rfl, ?_, ?_, fun k k0 k1 => ?_⟩
 ·rw [List.length_map, hw.t9]; decide
 ·rw [List.length_map, hw.t9]; exact big_of (by decide) (by decide)
 ·obtain ⟨U, hU, hm⟩ := menu (l := tx.map sT) k0 k1
  obtain ⟨s, hs, rfl⟩ := List.mem_map.mp hm
  exact ⟨_, hU, q (sT s) hs⟩
end
end My
namespace My
open PySem L2 PyProof.Rows WordM
section
variable {P : Program} {w : World} {K : PySem.W.Frag} {mg : Str -> Option Value} {base : Heap}
theorem at_pop {rs : List Str} {r : Int} (h0 : 0 <= r) (h1 : r < rs.length) : ∃ x, rs[r.toNat]? = some x := ⟨rs[r.toNat]'(by omega), List.getElem?_eq_getElem _⟩
theorem map_erase {α β : Type} (f : α -> β) : ∀ (l : List α) (i : Nat), (l.map f).eraseIdx i = (l.eraseIdx i).map f
 | [], _ => by simp
 | _ :: _, 0 => by simp
 | a :: l, i + 1 => by simp [map_erase f l i]
variable {n : Nat}
theorem putD_mem {kts : List (Str × Tv)} {s : Str} {T : Tv} {kt : Str × Tv} (h : kt ∈ putD kts s T) : kt ∈ kts \/ kt = (s, T) := by
 unfold putD at h
 split at h
 ·obtain ⟨x, hx, rfl⟩ := List.mem_map.mp h
  split
  ·rename_i e; rw [e]; exact .inr rfl
  ·exact .inl hx
 ·rcases List.mem_append.mp h with h | h
  ·exact .inl h
  ·exact .inr (List.mem_singleton.mp h)
theorem putD_len {kts : List (Str × Tv)} {s : Str} {T : Tv} : (putD kts s T).length <= kts.length + 1 := by
 unfold putD
 split
 ·rw [List.length_map]; omega
 ·rw [List.length_append]; exact Nat.le_refl _
def VD (nm tx : List Str) : Nat -> Tv -> Prop
 | 0, _ => False
 | _ + 1, .leaf .non => True
 | _ + 1, .leaf (.bl _) => True
 | _ + 1, .leaf (.int i) => NumB i
 | _ + 1, .leaf (.str s) => s ∈ tx
 | n + 1, .seq false xs => xs.length <= 11 /\ ∀ x ∈ xs, VD nm tx n x
 | n + 1, .dct kts => (kts.map (·.1)).Nodup /\ kts.length <= 11 /\ ∀ kt ∈ kts, kt.1 ∈ nm /\ VD nm tx n kt.2
 | _, _ => False
theorem leaf_vd {nm tx : List Str} {T : Tv} (h : LeafV tx T) : VD nm tx (n + 1) T := by
 cases T with
 | leaf v => cases v <;> exact h
 | seq t xs => exact False.elim h
 | dct k => exact False.elim h
theorem VD.put {nm tx : List Str} {kts : List (Str × Tv)} {s : Str} {T : Tv} (h : VD nm tx (n + 1) (.dct kts)) (l : kts.length < 11) (hs : s ∈ nm) (hT : VD nm tx n T) : VD nm tx (n + 1) (.dct (putD kts s T)) := by
 refine ⟨putD_nodup h.1, by have := putD_len (kts := kts) (s := s) (T := T); omega, fun kt hk => ?_⟩
 rcases putD_mem hk with z | rfl
 ·exact h.2.2 kt z
 ·exact ⟨hs, hT⟩
def ptValue (n : Nat) : PSp := fun as R => ∃ nm tx st sp, ∃ deep way : Int, as = [.dk, .va (worldT nm tx st sp), .va (iT deep), .va (iT way)] /\ WorldOk nm tx st sp /\ 0 <= deep /\ deep < n /\ 0 <= way /\ way <= 9 /\ ∀ T, VD nm tx n T -> R T
def ptDict (n : Nat) : PSp := fun as R => ∃ nm tx st sp, ∃ deep many : Int, as = [.dk, .va (worldT nm tx st sp), .va (iT deep), .va (iT many)] /\ WorldOk nm tx st sp /\ 1 <= deep /\ deep <= n /\ 0 <= many /\ many <= 11 /\ ∀ T, VD nm tx (n + 1) T -> R T
theorem g19_ (h : Has K mg "_law_dict" s19_) (B : Own mg) (G11_ : PGood P w K mg base 2 "_law_take" ["_law_deck_here", "_law_most"] ptTake) (G20_ : PGood P w K mg base (6 + 2 * n) "_law_value" ["_law_deck_here", "_law_world_here", "_law_deep", "_law_way"] (ptValue n))   : PGood P w K mg base (6 + 2 * n + 1) "_law_dict" ["_law_deck_here", "_law_world_here", "_law_deep", "_law_many"] (ptDict n) := by
 refine h.pg4 ["_law_deck_here", "_law_world_here", "_law_deep", "_law_many", "_law_names", "_law_found", "_law_k", "_law_name"] (fun nd hr =>
   (us_cons (us_o 4 nd (ul_callTy pu_listOf rfl B.list_ boot_list (ua_c (ue_x hr (ue_var 1) ue_int) ua_nil)))
   (us_cons (us_dict0 (i := 5) nd rfl (.inl rfl))
   (us_cons (us_for (m := 8) PassesOwn.never rfl (ui_range1 rfl B.range (ua_c (ue_var 3) ua_nil)) (ug_name 6 (by decide) nd rfl (.inl rfl))
    (us_cons (us_s 7 nd (ue_popAt 4 (ue_fm G11_ hr (ua_dk 0 (ua_c (ue_peek fun F => (ue_callB pu_len rfl B.len PySem.boot_len (ua_c (ue_var 4) ua_nil))) ua_nil)))))
    (us_one (us_dput (i := 5) (hu_of hr) rfl (by first | exact Or.inl rfl | exact Or.inr (Or.inl rfl) | exact Or.inr (Or.inr rfl)) (ue_var 7) (ue_fm G20_ hr (ua_dk 0 (ua_c (ue_var 1) (ua_c (ue_callB (pu_max rfl) rfl B.max boot_max (ua_c ue_int (ua_c (ue_op pu_sub (ue_op pu_sub (ue_var 2) ue_int) (ue_op pu_fdiv (ue_var 3) ue_int)) ua_nil))) (ua_c ue_int ua_nil)))))))))
   (us_one (us_ret (ue_var 5))))))) (fun as R q => ?_)
 obtain ⟨nm, tx, st, sp, deep, many, rfl, hw, d1, dn, m0, m11, q⟩ := q
 refine ⟨rfl, _, rfl, false, _, rfl, ?_⟩
 refine ⟨_, rfl, by omega, by omega, ?_⟩
 refine forT_inv (fun i ρ => ∃ (rs : List Str) (kts : List (Str × Tv)) (s1 s2 : Sl), rs.length + i = 11 /\ (∀ s ∈ rs, s ∈ nm) /\ kts.length <= i /\ VD nm tx (n + 1) (.dct kts) /\ ρ = [.dk, .va (worldT nm tx st sp), .va (iT deep), .va (iT many), .own (rs.map sT), .dct kts, s1, s2]) ⟨nm, [], .no, .no, hw.n11, fun s h => h, Nat.zero_le _, ⟨List.nodup_nil, by decide, fun kt h => nomatch h⟩, rfl⟩ ?_ ?_
 ·rintro i T _ N hT ⟨rs, kts, s1, s2, hl, hr, hk, hv, rfl⟩ hN
  have hi := (rngT_get hT).1
  refine ⟨⟨_, rfl⟩, rfl, _, rfl, (rs.map sT).length, rfl, by rw [List.length_map]; omega, by rw [List.length_map]; exact big_of (by omega) (by omega), fun r r0 r1 => ?_⟩
  rw [List.length_map] at r1
  obtain ⟨x, hx⟩ := at_pop r0 r1
  refine ⟨r, _, sT x, rfl, rfl, r0, by rw [List.getElem?_map, hx]; rfl, ?_⟩
  rw [map_erase]
  have hxn := hr x (List.mem_of_getElem? hx)
  refine ⟨rfl, ⟨by decide, big_of (by decide) (by decide)⟩, .inl ⟨0, _, rfl, nm, tx, st, sp, _, 9, rfl, hw, by omega, by omega, by decide, by decide, fun T hT => ?_⟩⟩
  have pl := putD_len (kts := kts) (s := x) (T := T)
  have el : (rs.eraseIdx r.toNat).length = rs.length - 1 := by rw [List.length_eraseIdx, if_pos (by omega)]
  exact ⟨⟨_, rfl⟩, kts, x, rfl, rfl, by omega, hN _ ⟨rs.eraseIdx r.toNat, putD kts x T, _, _, by omega, fun s hs => hr s (List.mem_of_mem_eraseIdx hs), by omega, hv.put (by omega) hxn hT, rfl⟩⟩
 ·rintro _ ⟨rs, kts, s1, s2, hl, hr, hk, hv, rfl⟩
  exact q _ hv
theorem paired_all {α β : Type} {r : α -> β -> Prop} {g : β -> Prop} (h : ∀ a b, r a b -> g b) : ∀ {l : List α} {m : List β}, Paired r l m -> ∀ b ∈ m, g b
 | _, _, .nil, b, hb => nomatch hb
 | _, _, .cons r t, b, hb => by
  rcases List.mem_cons.mp hb with rfl | hb
  ·exact h _ _ r
  ·exact paired_all h t b hb
theorem C20_ : FnScope ["_law_deck_here", "_law_world_here", "_law_deep", "_law_way", "_law_many"] ["_law_deck_here", "_law_world_here", "_law_deep", "_law_way"] (defScope s20_) := fsc (by decide +kernel)
theorem g20_ (h : Has K mg "_law_value" s20_) (B : Own mg) (G11_ : PGood P w K mg base 2 "_law_take" ["_law_deck_here", "_law_most"] ptTake) (G18_ : PGood P w K mg base 5 "_law_leaf" ["_law_deck_here", "_law_world_here"] ptLeaf) (G20_ : PGood P w K mg base (6 + 2 * n) "_law_value" ["_law_deck_here", "_law_world_here", "_law_deep", "_law_way"] (ptValue n)) (G19_ : PGood P w K mg base (6 + 2 * n + 1) "_law_dict" ["_law_deck_here", "_law_world_here", "_law_deep", "_law_many"] (ptDict n))   : PGood P w K mg base (6 + 2 * n + 2) "_law_value" ["_law_deck_here", "_law_world_here", "_law_deep", "_law_way"] (ptValue (n + 1)) := by
 refine h.pg4 ["_law_deck_here", "_law_world_here", "_law_deep", "_law_way", "_law_many"] (fun nd hr =>
   (us_cons (us_if (ub_q hr (ue_var 3) ue_int)
    (us_one (us_s 3 nd (ue_fm G11_ hr (ua_dk 0 (ua_c ue_int ua_nil)))))
    us_nil)
   (us_cons (us_if (ub_w (uw_or (ub_q hr (ue_var 2) ue_int) (uw_or1 (ub_cp pu_lt (ue_var 3) ue_int))))
    (us_one (us_ret (ue_fm G18_ hr (ua_dk 0 (ua_c (ue_var 1) ua_nil)))))
    us_nil)
   (us_cons (us_s 4 nd (ue_x hr (ue_ul (ul_lst (ua_c ue_int (ua_c ue_int (ua_c ue_int (ua_c ue_int (ua_c ue_int (ua_c ue_int (ua_c ue_int (ua_c ue_int ua_nil)))))))))) (ue_fm G11_ hr (ua_dk 0 (ua_c ue_int ua_nil)))))
   (us_cons (us_if (ub_cp pu_lt (ue_var 3) ue_int)
    (us_one (us_ret (ue_ul (ul_c0 (sc := defScope s20_) (XN := ["_law_deck_here", "_law_world_here", "_law_deep", "_law_way", "_law_many"]) (N := ["_law_k", "_law_deck_here", "_law_world_here", "_law_deep"]) (fr := [0, 1, 2]) (ui_range1 rfl B.range (ua_c (ue_var 4) ua_nil)) (fun _ _ _ _ _ => (ue_fm G20_ hr (ua_dk 1 (ua_c (ue_var 2) (ua_c (ue_op pu_sub (ue_var 3) ue_int) (ua_c ue_int ua_nil))))))))))
    us_nil)
   (us_cons (us_if (ub_q hr (ue_fm G11_ hr (ua_dk 0 (ua_c ue_int ua_nil))) ue_int)
    (us_one (us_s 4 nd (ue_op pu_add ue_int (ue_fm G11_ hr (ua_dk 0 (ua_c ue_int ua_nil))))))
    us_nil)
   (us_one (us_ret (ue_fm G19_ hr (ua_dk 0 (ua_c (ue_var 1) (ua_c (ue_var 2) (ua_c (ue_var 4) ua_nil))))))))))))) (fun as R q => ?_)
 obtain ⟨nm, tx, st, sp, deep, way, rfl, hw, d0, d1, w0, w9, q⟩ := q
 refine ⟨rfl, _, rfl, sifI (fun _ => ⟨rfl, 9, rfl, by decide, big_of (by decide) (by decide), fun way w0 w9 => ?_⟩) (fun _ => ?_)⟩
 all_goals
  refine ⟨_, rfl, sifI (fun _ => iteT ⟨rfl, nm, tx, st, sp, rfl, hw, fun T hT => q T (leaf_vd hT)⟩) (fun z => ⟨_, rfl, sif (fun _ => ⟨rfl, nm, tx, st, sp, rfl, hw, fun T hT => q T (leaf_vd hT)⟩) (fun _ => ?_)⟩)⟩
  refine ⟨by decide, rfl, 8, rfl, by decide, big_of (by decide) (by decide), fun r r0 r1 => ?_⟩
  obtain ⟨M, hM, hMm⟩ := menu (l := [iT 0, iT 1, iT 2, iT 3, iT 2, iT 1, iT 4, iT 6]) r0 r1
  have hm : ∃ m : Int, M = iT m /\ 0 <= m /\ m <= 6 := by
   simp only [List.mem_cons, List.not_mem_nil, or_false] at hMm
   rcases hMm with e | e | e | e | e | e | e | e <;> subst e <;> exact ⟨_, rfl, by decide, by decide⟩
  obtain ⟨m, rfl, m0, m6⟩ := hm
  refine ⟨_, hM, ?_⟩
  clear hM hMm
  refine ⟨_, rfl, sif (fun _ => ⟨_, rfl, by omega, by omega, by rw [rngT_len]; omega, compT_rel (fun T U => VD nm tx n U) (fun T hT R hR => ⟨rfl, nm, tx, st, sp, _, 9, rfl, hw, by omega, by omega, by decide, by decide, fun U hU => hR U hU⟩) (fun Us hUs => ?_)⟩) (fun _ => ?_)⟩
  ·refine q _ ⟨?_, paired_all (g := VD nm tx n) (fun a b h => h) hUs⟩
   have := hUs.length
   rw [rngT_len] at this
   omega
  ·exact ⟨rfl, 6, rfl, by decide, big_of (by decide) (by decide), fun r r0 r1 => ⟨_, rfl, sif (fun _ => ⟨rfl, 4, rfl, by decide, big_of (by decide) (by decide), fun e e0 e1 => ⟨rfl, nm, tx, st, sp, deep, _, rfl, hw, by omega, by omega, by omega, by omega, fun T hT => q T hT⟩⟩) (fun _ => ⟨rfl, nm, tx, st, sp, deep, _, rfl, hw, by omega, by omega, by omega, by omega, fun T hT => q T hT⟩)⟩⟩
theorem g_values (hv : Has K mg "_law_value" s20_) (hd : Has K mg "_law_dict" s19_) (B : Own mg) (G1 : PGood P w K mg base 2 "_law_take" ["_law_deck_here", "_law_most"] ptTake) (G2 : PGood P w K mg base 5 "_law_leaf" ["_law_deck_here", "_law_world_here"] ptLeaf) : ∀ n : Nat, PGood P w K mg base (6 + 2 * n) "_law_value" ["_law_deck_here", "_law_world_here", "_law_deep", "_law_way"] (ptValue n)
 | 0 => hv.pfalse C20_ (fun|_,_,_,_,_,_,[_,_,_,_],_=>rfl) fun as R ⟨_, _, _, _, _, _, _, _, h0, h1, _⟩ => by omega
 | n + 1 => g20_ hv B G1 G2 (g_values hv hd B G1 G2 n) (g19_ hd B G1 (g_values hv hd B G1 G2 n))
end
end My
namespace My
open PySem L2 PyProof.Rows WordM
section
variable {P : Program} {w : World} {K : PySem.W.Frag} {mg : Str -> Option Value} {base : Heap}
theorem VOk.six {m : Nat} {T : Tv} (h : VOk (m + 1) T) : T = nT \/ (∃ b, T = bT b) \/ (∃ i, T = iT i) \/ (∃ s, T = sT s) \/ (∃ xs, T = .seq false xs) \/ ∃ kts, T = .dct kts := by
 cases T with
 | leaf v => cases v <;> first | exact False.elim h | exact .inl rfl | exact .inr (.inl ⟨_, rfl⟩) | exact .inr (.inr (.inl ⟨_, rfl⟩)) | exact .inr (.inr (.inr (.inl ⟨_, rfl⟩)))
 | seq t xs => cases t <;> first | exact False.elim h | exact .inr (.inr (.inr (.inr (.inl ⟨_, rfl⟩))))
 | dct k => exact .inr (.inr (.inr (.inr (.inr ⟨_, rfl⟩))))
end
section
variable {P : Program} {w : World} {K : PySem.W.Frag} {mg : Str -> Option Value} {base : Heap} {C : Addr}
def pmSees : PSpR := fun t p Ts R => ∃ (w : Str) (r : List Nat), Ts = [sT w] /\ Rst t p r /\ R (bT ((cs w).isPrefixOf r)) p
theorem scm_sees : FnScope ["self", "words"] ["self", "words"] (defScope sm_sees) := fsc (by decide +kernel)
theorem m_sees (h : HasM K C "sees" "Reader.sees" sm_sees) (B : Own mg) (hC : RdK K C)     : MGoodR P w K mg base 1 "sees" ["self", "words"] C pmSees := by
 have nd := scm_sees.nd
 refine h.pgR scm_sees (fun|_,_,_,_,_,_,[_,_],_=>rfl) (fun f cdv A outer s H E F hF hr =>
   (us_one (us_retR (ue_bmS PySem.F.slot_str_startswith PySem.F.type_str_startswith pm_startsF (ue_rdT 0 hF hC) (ua_c (ue_var 1) (ua_c (ue_rdP 0 hF hC) ua_nil)))))) (fun t p Ts R q => ?_)
 obtain ⟨w, r, rfl, hr, q⟩ := q
 refine ⟨rfl, t, p, rfl, rfl, t, p, rfl, t, w, p, rfl, rfl, ?_⟩
 rw [hr.starts]
 exact ⟨p, rfl, q⟩
def pmPasses : PSpR := fun t p Ts R => ∃ (w : Str) (r : List Nat), Ts = [sT w] /\ w.length <= 1000 /\ Rst t p r /\ (∀ r', r = cs w ++ r' -> ∀ p', Rst t p' r' -> R (bT true) p') /\ ((cs w).isPrefixOf r = false -> R (bT false) p)
theorem scm_passes : FnScope ["self", "words"] ["self", "words"] (defScope sm_passes) := fsc (by decide +kernel)
theorem m_passes (h : HasM K C "passes" "Reader.passes" sm_passes) (B : Own mg) (hC : RdK K C) (Msees : MGoodR P w K mg base 1 "sees" ["self", "words"] C pmSees)    : MGoodR P w K mg base 2 "passes" ["self", "words"] C pmPasses := by
 have nd := scm_passes.nd
 refine h.pgR scm_passes (fun|_,_,_,_,_,_,[_,_],_=>rfl) (fun f cdv A outer s H E F hF hr =>
   (us_cons (us_if (ub_not (ub_val (ue_methR 0 hF hC Msees (hr.mono (by omega)) (ua_c (ue_var 1) ua_nil))))
    (us_one (us_retR ue_bl))
    us_nil)
   (us_cons (us_rdP 0 hF hC (ue_op pu_add (ue_rdP 0 hF hC) (ue_callB pu_len rfl B.len PySem.boot_len (ua_c (ue_var 1) ua_nil))))
   (us_one (us_retR ue_bl))))) (fun t p Ts R q => ?_)
 obtain ⟨w, r, rfl, hw, hr, q1, q2⟩ := q
 refine ⟨rfl, ⟨t, p, rfl⟩, t, p, [sT w], rfl, ⟨rfl, trivial⟩, w, r, rfl, hr, _, rfl, sif (fun z => ⟨p, rfl, q2 (by simpa using z)⟩) (fun z => ?_)⟩
 have z : (cs w).isPrefixOf r = true := by simpa using z
 obtain ⟨r', e⟩ := List.isPrefixOf_iff_prefix.mp z
 subst e
 refine ⟨t, p, rfl, by omega, _, t, p, rfl, rfl, ⟨_, rfl, q1 r' rfl _ ?_⟩⟩
 have := hr.go
 rw [<- len] at this
 exact this
def pmNeeds : PSpR := fun t p Ts R => ∃ (w : Str) (r : List Nat), Ts = [sT w] /\ w.length <= 1000 /\ Rst t p (cs w ++ r) /\ ∀ p', Rst t p' r -> R nT p'
theorem pre_self (a r : List Nat) : a.isPrefixOf (a ++ r) = true := List.isPrefixOf_iff_prefix.mpr ⟨r, rfl⟩
theorem scm_needs : FnScope ["self", "words"] ["self", "words"] (defScope sm_needs) := fsc (by decide +kernel)
theorem m_needs (h : HasM K C "needs" "Reader.needs" sm_needs) (B : Own mg) (hC : RdK K C) (Mpasses : MGoodR P w K mg base 2 "passes" ["self", "words"] C pmPasses)    : MGoodR P w K mg base 3 "needs" ["self", "words"] C pmNeeds := by
 have nd := scm_needs.nd
 refine h.pgR scm_needs (fun|_,_,_,_,_,_,[_,_],_=>rfl) (fun f cdv A outer s H E F hF hr =>
   (us_one (us_if (ub_not (ub_val (ue_methR 0 hF hC Mpasses (hr.mono (by omega)) (ua_c (ue_var 1) ua_nil))))
    (us_one us_nev)
    us_nil))) (fun t p Ts R q => ?_)
 obtain ⟨w, r, rfl, hw, hr, q⟩ := q
 refine ⟨rfl, ⟨t, p, rfl⟩, t, p, [sT w], rfl, ⟨rfl, trivial⟩, w, _, rfl, hw, hr, fun r' e p' h' => ?_, fun z => ?_⟩
 ·have := List.append_cancel_left e
  subst this
  exact ⟨_, rfl, ⟨p', rfl, q p' h'⟩⟩
 ·rw [pre_self] at z
  cases z
def pmEnd : PSpR := fun t p Ts R => Ts = [] /\ t.length <= 100000 /\ Rst t p [] /\ R nT p
theorem scm_needs_end : FnScope ["self"] ["self"] (defScope sm_needs_end) := fsc (by decide +kernel)
theorem m_needs_end (h : HasM K C "needs_end" "Reader.needs_end" sm_needs_end) (B : Own mg) (hC : RdK K C)     : MGoodR P w K mg base 1 "needs_end" ["self"] C pmEnd := by
 have nd := scm_needs_end.nd
 refine h.pgR scm_needs_end (fun|_,_,_,_,_,_,[_],_=>rfl) (fun f cdv A outer s H E F hF hr =>
   (us_one (us_if (ub_cp pu_lt (ue_rdP 0 hF hC) (ue_callB pu_len rfl B.len PySem.boot_len (ua_c (ue_rdT 0 hF hC) ua_nil)))
    (us_one us_nev)
    us_nil))) (fun t p Ts R q => ?_)
 obtain ⟨rfl, ht, hr, q⟩ := q
 have := hr.all
 refine ⟨rfl, t, p, rfl, t, p, rfl, ht, _, rfl, sifd (fun z => ?_) (fun z => ⟨p, rfl, q⟩)⟩
 exact absurd z (by simp at this; omega)
end
end My
namespace My
open PySem L2 PyProof.Rows WordM
section
variable {P : Program} {w : World} {K : PySem.W.Frag} {mg : Str -> Option Value} {base : Heap} {C : Addr}
theorem seq_share {s u : UTs} {P : PEnds} {ρ : PEnv} {J : PEnv -> Prop} (h : ∀ ρ', J ρ' -> u P ρ') (hs : (∀ ρ', J ρ' -> u P ρ') -> s { P with nx := fun ρ' => u P ρ' } ρ) : sSeq s u P ρ := hs h
theorem fig_mem (c : Nat) : c ∈ cs ("0123456789" : Str) ↔ fig c := by
 show c ∈ [48, 49, 50, 51, 52, 53, 54, 55, 56, 57] ↔ _
 simp only [List.mem_cons, List.not_mem_nil, or_false]
 omega
theorem in_fig (c : Nat) : inS ⟨#[c]⟩ "0123456789" = decide (fig c) := by
 show (!(Builtin.Str.occurrences _ _ 0 _ 1).isEmpty) = _
 rw [StrLaws.found_one, Bool.eq_iff_iff, decide_eq_true_iff, decide_eq_true_iff]
 exact fig_mem c
theorem log_num {i : Int} (h : i.natAbs < 10 ^ 65) : i.natAbs.log2 < 1920 := by
 by_cases z : i.natAbs = 0
 ·rw [z]; decide
 ·rw [Nat.log2_lt z]; exact Nat.lt_trans h (by decide)
abbrev numT : UTt := uAnd (uB (uOp pLt (uRdP 0) (uCB pLen (uCons (uRdT 0) uNil)))) (uB (uOp pIn (uOp pIx (uRdT 0) (uRdP 0)) (uC (sT (Str.ofString "0123456789")))))
theorem test_no {t : Str} {p : Int} {r : List Nat} {ρ : PEnv} {Q : Bool -> PEnv -> Prop} (ht : t.length <= 100000) (h : Rst t p r) (hf : ∀ c l, r = c :: l -> ¬ fig c) (q : Q false (.rd t p :: ρ)) : numT (.rd t p :: ρ) Q := by
 have a := h.all
 refine ⟨t, p, rfl, t, p, rfl, ht, _, rfl, ?_⟩
 cases r with
 | nil =>
  rw [show decide (p < (t.length : Int)) = false from decide_eq_false (by simp at a; omega)]
  exact q
 | cons c l =>
  rw [show decide (p < (t.length : Int)) = true from decide_eq_true (by simp at a; omega)]
  refine ⟨t, p, rfl, t, p, rfl, ht, c, h.at_, ?_⟩
  show ∃ b, bT (false != inS ⟨#[c]⟩ "0123456789") = bT b /\ _
  rw [in_fig, show decide (fig c) = false from decide_eq_false (hf c l rfl)]
  exact ⟨false, rfl, q⟩
theorem test_yes {t : Str} {p : Int} {c : Nat} {r : List Nat} {ρ : PEnv} {Q : Bool -> PEnv -> Prop} (ht : t.length <= 100000) (h : Rst t p (c :: r)) (hf : fig c) (q : Q true (.rd t p :: ρ)) : numT (.rd t p :: ρ) Q := by
 have a := h.all
 refine ⟨t, p, rfl, t, p, rfl, ht, _, rfl, ?_⟩
 rw [show decide (p < (t.length : Int)) = true from decide_eq_true (by simp at a; omega)]
 refine ⟨t, p, rfl, t, p, rfl, ht, c, h.at_, ?_⟩
 show ∃ b, bT (false != inS ⟨#[c]⟩ "0123456789") = bT b /\ _
 rw [in_fig, show decide (fig c) = true from decide_eq_true hf]
 exact ⟨true, rfl, q⟩
theorem str_mk (x : Str) : (⟨(cs x).toArray⟩ : Str) = x := str_ext (by simp)
def pmNum : PSpR := fun t p Ts R => ∃ (i : Int) (r : List Nat), Ts = [] /\ i.natAbs < 10 ^ 65 /\ t.length <= 100000 /\ Rst t p (cs (Str.ofString (toString i)) ++ r) /\ (∀ c l, r = c :: l -> ¬ fig c) /\ ∀ p', Rst t p' r -> R (iT i) p'
theorem scm_read_number : FnScope ["self", "start", "written", "number"] ["self"] (defScope sm_read_number) := fsc (by decide +kernel)
theorem m_read_number (h : HasM K C "read_number" "Reader.read_number" sm_read_number) (B : Own mg) (hC : RdK K C) (Mpasses : MGoodR P w K mg base 2 "passes" ["self", "words"] C pmPasses)    : MGoodR P w K mg base 3 "read_number" ["self"] C pmNum := by
 have nd := scm_read_number.nd
 refine h.pgR scm_read_number (fun|_,_,_,_,_,_,[_],_=>rfl) (fun f cdv A outer s H E F hF hr =>
   (us_cons (us_s 1 nd (ue_rdP 0 hF hC))
   (us_cons (us_expr (ue_methR 0 hF hC Mpasses (hr.mono (by omega)) (ua_c ue_str ua_nil)))
   (us_cons (us_while PassesOwn.never (ub_w (uw_and (ub_cp pu_lt (ue_rdP 0 hF hC) (ue_callB pu_len rfl B.len PySem.boot_len (ua_c (ue_rdT 0 hF hC) ua_nil))) (uw_and1 (ub_cp (pu_in hr.units) (ue_x hr (ue_rdT 0 hF hC) (ue_rdP 0 hF hC)) ue_str rfl))))
    (us_one (us_rdP 0 hF hC (ue_op pu_add (ue_rdP 0 hF hC) ue_int))))
   (us_cons (us_s 2 nd (ue_slice pu_sl (ue_rdT 0 hF hC) (uo_some (ue_var 1)) (uo_some (ue_rdP 0 hF hC))))
   (us_cons (us_tryN (us_one (us_s 3 nd (ue_callTy pu_intS rfl B.int_ boot_int (ua_c (ue_var 2) ua_nil)))) (fun _ _ z => z))
   (us_cons (us_if (ub_n hr (ue_callTy pu_str rfl B.str_ boot_str (ua_c (ue_var 3) ua_nil)) (ue_var 2))
    (us_one us_nev)
    us_nil)
   (us_one (us_retR (ue_var 3)))))))))) (fun t p Ts R q => ?_)
 obtain ⟨i, r, rfl, hi, ht, hr, hf, q⟩ := q
 have hi' : i.natAbs < 10 ^ 100 := Nat.lt_trans hi (by decide)
 obtain ⟨ds, dn, dd, de⟩ := num_cs i hi'
 refine ⟨rfl, t, p, rfl, ?_⟩
 dsimp only
 refine seq_share (J := fun ρ' => ∃ p1, Rst t p1 (ds ++ r) /\ ρ' = [.rd t p1, .va (iT p), .no, .no]) ?rest (fun rest => ?main)
 case main =>
  refine ⟨⟨t, p, rfl⟩, t, p, [sT "-"], rfl, ⟨rfl, trivial⟩, "-", _, rfl, by decide, hr, fun r' e p' h' => ?_, fun z => ?_⟩
  ·rcases de with e1 | e1
   ·exfalso
    rw [e1] at e
    cases ds with
    | nil => exact dn rfl
    | cons d ds =>
     have : d = 45 := (List.cons.inj e).1
     have := (dd d (List.mem_cons_self ..)).1
     omega
   ·rw [e1] at e
    have : ds ++ r = r' := (List.cons.inj e).2
    subst this
    exact rest _ ⟨p', h', rfl⟩
  ·rcases de with e1 | e1
   ·rw [e1] at hr
    exact rest _ ⟨p, hr, rfl⟩
   ·rw [e1] at z
    exact absurd ((pre_self [45] (ds ++ r)).symm.trans z) (by decide)
 case rest =>
  rintro ρ' ⟨p1, h1, rfl⟩
  refine ⟨fun m ρ => ∃ d2 p2, d2.length = m /\ (∀ c ∈ d2, fig c) /\ Rst t p2 (d2 ++ r) /\ ρ = [.rd t p2, .va (iT p), .no, .no], ⟨ds.length, ds, p1, rfl, dd, h1, rfl⟩, ?_⟩
  rintro m _ ⟨d2, p2, rfl, f2, h2, rfl⟩
  cases d2 with
  | cons c d2 =>
   refine test_yes ht h2 (f2 c (List.mem_cons_self ..)) (iteT ⟨t, p2, rfl, p2 + 1, t, p2, rfl, rfl, d2.length, by simp, d2, p2 + 1, rfl, fun c hc => f2 c (List.mem_cons_of_mem _ hc), ?_, rfl⟩)
   exact Rst.go (a := [c]) h2
  | nil =>
   refine test_no ht h2 hf (iteF ?_)
   have h2 : Rst t p2 r := h2
   have ep : p2 = p + (cs (Str.ofString (toString i))).length := Rst.uniq h2 hr.go
   subst ep
   have sl := hr.slice
   rw [str_mk] at sl
   refine ⟨t, _, rfl, _, rfl, t, _, rfl, _, rfl, ht, ?_⟩
   rw [sl]
   have il := (int_sg i hi').2
   refine ⟨_, i, rfl, int_reads hi', by omega, i, rfl, log_num hi, _, rfl, sif (fun z => ?_) (fun z => ⟨_, rfl, q _ h2⟩)⟩
   simp [eqV] at z
end
end My
namespace My
open PySem L2 PyProof.Rows WordM
section
variable {P : Program} {w : World} {K : PySem.W.Frag} {mg : Str -> Option Value} {base : Heap} {C : Addr}
def pmQuo : PSpR := fun t p Ts R => ∃ (s : Str) (r : List Nat), Ts = [] /\ t.length <= 100000 /\ s.length <= 1000 /\ Rst t p (cs (quoT s) ++ r) /\ (∀ c l, r = c :: l -> c ≠ 34) /\ ∀ p', Rst t p' r -> R (sT s) p'
theorem quo_cs (s : Str) : cs (quoT s) = 34 :: (StrLaws.dbl 34 (cs s) ++ [34]) := by
 unfold quoT
 rw [app, app]
 show [34] ++ cs (dblS s) ++ [34] = _
 simp [dblS]
theorem split_quo : ∀ (l : List Nat), 34 ∉ l \/ ∃ a b, l = a ++ 34 :: b /\ 34 ∉ a
 | [] => .inl (by simp)
 | c :: l => by
  by_cases z : c = 34
  ·exact .inr ⟨[], l, by rw [z]; rfl, by simp⟩
  ·rcases split_quo l with h | ⟨a, b, e, h⟩
   ·exact .inl (by simp [h]; exact fun y => z y.symm)
   ·exact .inr ⟨c :: a, b, by rw [e]; rfl, by simp [h]; exact fun y => z y.symm⟩
theorem dbl_no : ∀ {l : List Nat}, 34 ∉ l -> StrLaws.dbl 34 l = l
 | [], _ => rfl
 | c :: l, h => by
  rw [StrLaws.dbl, if_neg (fun z => h (by rw [z]; exact List.mem_cons_self ..)), dbl_no fun z => h (List.mem_cons_of_mem _ z)]
theorem dbl_yes {a b : List Nat} (h : 34 ∉ a) : StrLaws.dbl 34 (a ++ 34 :: b) = a ++ 34 :: 34 :: StrLaws.dbl 34 b := by
 rw [StrLaws.dbl_append, dbl_no h]
 rfl
theorem catS_app (a b : List Str) : catS (a ++ b) = catS a ++ catS b := by simp [catS]
theorem catS_one (l : List Nat) : catS [(⟨l.toArray⟩ : Str)] = l := by simp [catS]
theorem scm_read_quoted : FnScope ["self", "pieces", "end"] ["self"] (defScope sm_read_quoted) := fsc (by decide +kernel)
theorem m_read_quoted (h : HasM K C "read_quoted" "Reader.read_quoted" sm_read_quoted) (B : Own mg) (hC : RdK K C) (Mneeds : MGoodR P w K mg base 3 "needs" ["self", "words"] C pmNeeds) (Mpasses : MGoodR P w K mg base 2 "passes" ["self", "words"] C pmPasses)    : MGoodR P w K mg base 4 "read_quoted" ["self"] C pmQuo := by
 have nd := scm_read_quoted.nd
 refine h.pgR scm_read_quoted (fun|_,_,_,_,_,_,[_],_=>rfl) (fun f cdv A outer s H E F hF hr =>
   (us_cons (us_expr (ue_methR 0 hF hC Mneeds (hr.mono (by omega)) (ua_c ue_str ua_nil)))
   (us_cons (us_o 1 nd (ul_lst ua_nil))
   (us_one (us_while PassesOwn.never (ub_val ue_bl)
    (us_cons (us_s 2 nd (ue_bmS PySem.F.slot_str_find PySem.F.type_str_find pm_findF (ue_rdT 0 hF hC) (ua_c ue_str (ua_c (ue_rdP 0 hF hC) ua_nil))))
    (us_cons (us_if (ub_cp pu_lt (ue_var 2) ue_int)
     (us_one us_nev)
     us_nil)
    (us_cons (us_expr (ue_append 1 (ue_slice pu_sl (ue_rdT 0 hF hC) (uo_some (ue_rdP 0 hF hC)) (uo_some (ue_var 2)))))
    (us_cons (us_rdP 0 hF hC (ue_op pu_add (ue_var 2) ue_int))
    (us_cons (us_if (ub_not (ub_val (ue_methR 0 hF hC Mpasses (hr.mono (by omega)) (ua_c ue_str ua_nil))))
     (us_one (us_retR (ue_bmS PySem.F.slot_str_join PySem.F.type_str_join pm_join ue_str (ua_c (ue_var 1) ua_nil))))
     us_nil)
    (us_one (us_expr (ue_append 1 ue_str))))))))))))) (fun t p Ts R q => ?_)
 obtain ⟨s, r, rfl, ht, hs, hr, hf, q⟩ := q
 rw [quo_cs] at hr
 refine ⟨rfl, ⟨t, p, rfl⟩, t, p, [sT "\""], rfl, ⟨rfl, trivial⟩, "\"", StrLaws.dbl 34 (cs s) ++ 34 :: r, rfl, by decide, by rw [List.cons_append, List.append_assoc] at hr; exact hr, fun p1 h1 => ?_⟩
 refine ⟨by simp, ?_⟩
 refine ⟨fun m ρ => ∃ (ps : List Str) (s2 : List Nat) (p2 : Int) (x : Sl), s2.length = m /\ cs s = catS ps ++ s2 /\ ps.length + 2 * s2.length <= 2000 /\ Rst t p2 (StrLaws.dbl 34 s2 ++ 34 :: r) /\ ρ = [.rd t p2, .own (ps.map sT), x], ⟨_, [], cs s, p1, .no, rfl, rfl, by rw [<- len]; simp; omega, h1, rfl⟩, ?_⟩
 rintro m _ ⟨ps, s2, p2, x, rfl, es, hl, h2, rfl⟩
 refine ⟨true, rfl, iteT ?_⟩
 rcases split_quo s2 with no | ⟨a, b, rfl, no⟩
 ·rw [dbl_no no] at h2
  have fd := h2.find no
  have nn := h2.nn
  have sl := h2.slice
  have h3 : Rst t (p2 + s2.length + 1) r := Rst.go (a := [34]) h2.go
  refine ⟨t, p2, rfl, rfl, t, p2, rfl, t, _, p2, rfl, rfl, ?_⟩
  rw [fd]
  refine ⟨_, rfl, sifd (fun z => absurd z (by omega)) (fun _ => ⟨⟨_, rfl⟩, t, p2, rfl, t, p2, rfl, _, rfl, _, rfl, ht, ?_⟩)⟩
  rw [sl]
  refine ⟨_, rfl, by rw [List.length_map]; omega, _, t, p2, rfl, rfl, ⟨t, _, rfl⟩, t, _, [sT "\""], rfl, ⟨rfl, trivial⟩, "\"", r, rfl, by decide, h3, fun r' e p' h' => ?_, fun z => ?_⟩
  ·exact absurd rfl (hf 34 r' e)
  ·refine ⟨_, rfl, iteT ⟨rfl, ps ++ [⟨s2.toArray⟩], rfl, by rw [List.map_append]; rfl, ?_, ?_⟩⟩
   ·rw [catS_app, catS_one, <- es, <- len]; omega
   ·rw [catS_app, catS_one, <- es, str_mk]
    exact ⟨_, rfl, q _ h3⟩
 ·rw [dbl_yes no, List.append_assoc] at h2
  have fd := h2.find no
  have nn := h2.nn
  have sl := h2.slice
  have h3 : Rst t (p2 + a.length + 1) ([34] ++ (StrLaws.dbl 34 b ++ 34 :: r)) := Rst.go (a := [34]) h2.go
  rw [List.length_append, List.length_cons] at hl
  refine ⟨t, p2, rfl, rfl, t, p2, rfl, t, _, p2, rfl, rfl, ?_⟩
  rw [fd]
  refine ⟨_, rfl, sifd (fun z => absurd z (by omega)) (fun _ => ⟨⟨_, rfl⟩, t, p2, rfl, t, p2, rfl, _, rfl, _, rfl, ht, ?_⟩)⟩
  rw [sl]
  refine ⟨_, rfl, by rw [List.length_map]; omega, _, t, p2, rfl, rfl, ⟨t, _, rfl⟩, t, _, [sT "\""], rfl, ⟨rfl, trivial⟩, "\"", _, rfl, by decide, h3, fun r' e p' h' => ?_, fun z => ?_⟩
  ·have e := (List.cons.inj e).2
   have e : StrLaws.dbl 34 b ++ 34 :: r = r' := e
   subst e
   refine ⟨_, rfl, iteF ⟨⟨_, rfl⟩, _, rfl, by rw [List.length_append, List.length_map]; show _ + 1 < _; omega, b.length, by rw [List.length_append, List.length_cons]; omega, ps ++ ([⟨a.toArray⟩, "\""] : List Str), b, p', .va (iT (p2 + a.length)), rfl, ?_, by rw [List.length_append]; show _ + 2 + _ <= _; omega, h', ?_⟩⟩
   ·rw [es, catS_app]
    simp [catS]
    rfl
   ·rw [List.map_append]
    simp
  ·exact absurd ((pre_self [34] _).symm.trans z) (by decide)
end
end My
namespace My
open PySem L2 PyProof.Rows WordM
section
variable {P : Program} {w : World} {K : PySem.W.Frag} {mg : Str -> Option Value} {base : Heap} {C : Addr}
variable {n : Nat}
theorem VW.six {m : Nat} {T : Tv} (h : VW (m + 1) T) : T = nT \/ (∃ b, T = bT b) \/ (∃ i, T = iT i) \/ (∃ s, T = sT s) \/ (∃ xs, T = .seq false xs) \/ ∃ kts, T = .dct kts := VOk.six h.ok
def pvRead (n : Nat) : PSpR := fun t p Ts R => ∃ (T : Tv) (r : List Nat), Ts = [] /\ VW n T /\ t.length <= 4000 /\ Rst t p (cs (wrT n T) ++ r) /\ Fol r /\ ∀ p', Rst t p' r -> R (nrm n T) p'
def rowsC (ws : List Str) : List Nat := ws.flatMap fun v => 44 :: 32 :: cs v
def pvList (n : Nat) : PSpR := fun t p Ts R => ∃ (xs : List Tv) (r : List Nat), Ts = [] /\ xs.length <= 11 /\ (∀ x ∈ xs, VW n x) /\ t.length <= 4000 /\ Rst t p (cs (Str.join ", " (xs.map (wrT n))) ++ 93 :: r) /\ ∀ p', Rst t p' r -> R (.seq false (xs.map (nrm n))) p'
theorem pre_no {c d : Nat} {a b : List Nat} (h : c ≠ d) : (c :: a).isPrefixOf (d :: b) = false := by
 show (c == d && _) = false
 rw [beq_eq_false_iff_ne.mpr h]
 rfl
theorem C4_ : FnScope ["reader", "items"] ["reader"] (defScope s4_) := fsc (by decide +kernel)
theorem g4_ (h : Has K mg "list_read" s4_) (B : Own mg) (hC : RdK K C) (Mpasses : MGoodR P w K mg base 2 "passes" ["self", "words"] C pmPasses) (Mneeds : MGoodR P w K mg base 3 "needs" ["self", "words"] C pmNeeds) (G7_ : NGoodR P w K mg base (5 + 3 * n) "value_read" ["reader"] C (pvRead n))   : NGoodR P w K mg base (5 + 3 * n + 1) "list_read" ["reader"] C (pvList n) := by
 have nd := C4_.nd
 refine h.ngR C4_ (fun|_,_,_,_,_,_,[_],_=>rfl) (fun f cdv A outer s H E F hF hr =>
   (un_cons (us_o 1 nd (ul_lst ua_nil))
   (un_if (ub_val (ue_methR 0 hF hC Mpasses (hr.mono (by omega)) (ua_c ue_str ua_nil)))
    (un_own 1)
   (un_cons (us_expr (ue_append 1 (ue_fnN 0 hF G7_ (hr.mono (by omega)) rfl ua_nil)))
   (un_cons (us_while PassesOwn.never (ub_val (ue_methR 0 hF hC Mpasses (hr.mono (by omega)) (ua_c ue_str ua_nil)))
    (us_one (us_expr (ue_append 1 (ue_fnN 0 hF G7_ (hr.mono (by omega)) rfl ua_nil)))))
   (un_cons (us_expr (ue_methR 0 hF hC Mneeds (hr.mono (by omega)) (ua_c ue_str ua_nil)))
   (un_own 1))))))) (fun t p Ts R q => ?_)
 obtain ⟨xs, r, rfl, lx, hx, ht, hr, q⟩ := q
 refine ⟨rfl, by simp, ⟨t, p, rfl⟩, t, p, [sT "]"], rfl, ⟨rfl, trivial⟩, "]", _, rfl, by decide, hr, fun r' e p' h' => ?_, fun z => ?_⟩
 ·cases xs with
  | cons x xs =>
   exfalso
   obtain ⟨c, l, ec, ne⟩ := wr_hd (hx x (List.mem_cons_self ..))
   rw [List.map_cons, join_cs, ec] at e
   exact ne (List.cons.inj e).1
  | nil =>
   have e : r = r' := (List.cons.inj e).2
   subst e
   exact ⟨_, rfl, iteT ⟨_, rfl, p', rfl, q p' h'⟩⟩
 ·cases xs with
  | nil => exact absurd ((pre_self [93] r).symm.trans z) (by decide)
  | cons x xs =>
   rw [List.map_cons, join_cs, List.append_assoc] at hr
   refine ⟨_, rfl, iteF ⟨⟨_, rfl⟩, ⟨t, p, rfl⟩, t, p, [], rfl, trivial, x, _, rfl, hx x (List.mem_cons_self ..), ht, hr, fol_row (.inr ⟨93, r, rfl, .inr (.inl rfl)⟩), fun p1 h1 => ⟨_, rfl, by decide, ?_⟩⟩⟩
   refine ⟨fun m ρ => ∃ (as bs : List Tv) (p2 : Int), x :: xs = as ++ bs /\ bs.length = m /\ Rst t p2 (rowsC (bs.map (wrT n)) ++ 93 :: r) /\ ρ = [.rd t p2, .own (as.map (nrm n))], ⟨_, [x], xs, p1, rfl, rfl, h1, rfl⟩, ?_⟩
   rintro m _ ⟨as, bs, p2, eb, rfl, h2, rfl⟩
   refine ⟨⟨t, p2, rfl⟩, t, p2, [sT ", "], rfl, ⟨rfl, trivial⟩, ", ", _, rfl, by decide, h2, fun r' e p' h' => ⟨_, rfl, iteT ?_⟩, fun z => ⟨_, rfl, iteF ?_⟩⟩
   ·cases bs with
    | nil => exact absurd (List.cons.inj e).1 (by decide)
    | cons b bs =>
     have e : cs (wrT n b) ++ rowsC (bs.map (wrT n)) ++ 93 :: r = r' := (List.cons.inj (List.cons.inj e).2).2
     subst e
     rw [List.append_assoc] at h'
     have hb : b ∈ x :: xs := by rw [eb]; exact List.mem_append_right _ (List.mem_cons_self ..)
     have la : as.length <= 11 := by
      have := congrArg List.length eb
      rw [List.length_append] at this
      omega
     refine ⟨⟨_, rfl⟩, ⟨t, p', rfl⟩, t, p', [], rfl, trivial, b, _, rfl, hx b hb, ht, h', fol_row (.inr ⟨93, r, rfl, .inr (.inl rfl)⟩), fun p3 h3 => ⟨_, rfl, by rw [List.length_map]; omega, bs.length, by simp, as ++ [b], bs, p3, by rw [eb, List.append_assoc]; rfl, rfl, h3, by rw [List.map_append]; rfl⟩⟩
   ·cases bs with
    | cons b bs => exact absurd ((pre_self [44, 32] _).symm.trans z) (by decide)
    | nil =>
     rw [List.append_nil] at eb
     subst eb
     exact ⟨⟨t, p2, rfl⟩, t, p2, [sT "]"], rfl, ⟨rfl, trivial⟩, "]", r, rfl, by decide, h2, fun p3 h3 => ⟨_, rfl, p3, rfl, q p3 h3⟩⟩
def pvNamed (n : Nat) : PSpR := fun t p Ts R => ∃ (x : Str) (T : Tv) (r : List Nat), Ts = [] /\ x.length <= 50 /\ VW n T /\ t.length <= 4000 /\ Rst t p (cs (quoT x ++ ": " ++ wrT n T) ++ r) /\ Fol r /\ ∀ p', Rst t p' r -> R (.seq true [sT x, nrm n T]) p'
theorem C5_ : FnScope ["reader", "name"] ["reader"] (defScope s5_) := fsc (by decide +kernel)
theorem g5_ (h : Has K mg "named_read" s5_) (B : Own mg) (hC : RdK K C) (Mread_quoted : MGoodR P w K mg base 4 "read_quoted" ["self"] C pmQuo) (Mneeds : MGoodR P w K mg base 3 "needs" ["self", "words"] C pmNeeds) (G7_ : NGoodR P w K mg base (5 + 3 * n) "value_read" ["reader"] C (pvRead n))   : PGoodR P w K mg base (5 + 3 * n + 1) "named_read" ["reader"] C (pvNamed n) := by
 have nd := C5_.nd
 refine h.pgR C5_ (fun|_,_,_,_,_,_,[_],_=>rfl) (fun f cdv A outer s H E F hF hr =>
   (us_cons (us_s 1 nd (ue_methR0 0 hF hC Mread_quoted (hr.mono (by omega))))
   (us_cons (us_expr (ue_methR 0 hF hC Mneeds (hr.mono (by omega)) (ua_c ue_str ua_nil)))
   (us_one (us_retR (ue_tup (ua_c (ue_var 1) (ua_c (ue_fnN 0 hF G7_ (hr.mono (by omega)) rfl ua_nil) ua_nil)))))))) (fun t p Ts R q => ?_)
 obtain ⟨x, T, r, rfl, lx, hT, ht, hr, hf, q⟩ := q
 rw [app, app, List.append_assoc, List.append_assoc] at hr
 refine ⟨rfl, ⟨t, p, rfl⟩, t, p, [], rfl, trivial, x, _, rfl, by omega, by omega, hr, fun c l e => ?_, fun p1 h1 => ?_⟩
 ·have := (List.cons.inj e).1
  rw [<- this]
  decide
 ·refine ⟨⟨t, p1, rfl⟩, t, p1, [sT ": "], rfl, ⟨rfl, trivial⟩, ": ", _, rfl, by decide, h1, fun p2 h2 => ?_⟩
  exact ⟨⟨t, p2, rfl⟩, t, p2, [], rfl, trivial, T, r, rfl, hT, ht, h2, hf, fun p3 h3 => ⟨by simp, p3, rfl, q p3 h3⟩⟩
def ptRise : PSp := fun as R => ∃ (ss : List Str), as = [.va (.seq false (ss.map sT))] /\ ss.length <= 1000 /\ rise ss /\ R (bT true)
theorem g3_ (h : Has K mg "rises" s3_) (B : Own mg)    : PGood P w K mg base 1 "rises" ["things"] ptRise := by
 refine h.pg1 ["things"] (fun nd hr =>
   (us_one (us_ret (ue_callB (pu_all rfl) rfl B.all boot_all (ua_c (ue_ul (ul_c0 (sc := defScope s3_) (XN := ["things"]) (N := ["place", "things"]) (fr := [0]) (ui_range1 rfl B.range (ua_c (ue_op pu_sub (ue_callB pu_len rfl B.len PySem.boot_len (ua_c (ue_var 0) ua_nil)) ue_int) ua_nil)) (fun _ _ _ _ _ => (ue_cp (pu_lt).op (ue_x hr (ue_var 1) (ue_var 0)) (ue_x hr (ue_var 1) (ue_op pu_add (ue_var 0) ue_int)))))) ua_nil))))) (fun as R q => ?_)
 obtain ⟨ss, rfl, l, hr, q⟩ := q
 have e : (((ss.map sT).length : Int) - 1).toNat = ss.length - 1 := by rw [List.length_map]; omega
 refine ⟨rfl, _, rfl, by rw [List.length_map]; omega, by rw [List.length_map]; omega, ?_⟩
 rw [e]
 refine ⟨by rw [rngT_len]; omega, ?_⟩
 refine compT_of (fun k : Nat => iT (0 + (k : Int))) (fun k => bT (decide (cs (ss.getD k ⟨#[]⟩) < cs (ss.getD (k + 1) ⟨#[]⟩)))) (l := List.range (ss.length - 1)) (fun k hk R q => ?_) ⟨(List.range (ss.length - 1)).map fun k => decide (cs (ss.getD k ⟨#[]⟩) < cs (ss.getD (k + 1) ⟨#[]⟩)), by rw [List.map_map]; rfl, ?_⟩
 ·have hk := List.mem_range.mp hk
  have e0 : (0 : Int) + (k : Int) = (k : Int) := by omega
  rw [e0]
  have g1 : (ss.map sT)[k]? = some (sT (ss.getD k ⟨#[]⟩)) := by rw [List.getElem?_map, List.getD_eq_getElem?_getD, List.getElem?_eq_getElem (by omega)]; rfl
  have g2 : (ss.map sT)[k + 1]? = some (sT (ss.getD (k + 1) ⟨#[]⟩)) := by rw [List.getElem?_map, List.getD_eq_getElem?_getD, List.getElem?_eq_getElem (by omega)]; rfl
  exact ⟨_, atI_nat g1, _, atI_nat g2, q⟩
 ·rw [List.all_map, show ((List.range (ss.length - 1)).all (id ∘ fun k => decide (cs (ss.getD k ⟨#[]⟩) < cs (ss.getD (k + 1) ⟨#[]⟩)))) = true from List.all_eq_true.mpr fun k hk => by
   have hk := List.mem_range.mp hk
   have lt := List.pairwise_iff_getElem.mp hr k (k + 1) (by omega) (by omega) (by omega)
   refine decide_eq_true ?_
   rw [List.getD_eq_getElem?_getD, List.getD_eq_getElem?_getD, List.getElem?_eq_getElem (by omega), List.getElem?_eq_getElem (by omega)]
   exact lt]
  exact q
noncomputable def rowOf (n : Nat) (kts : List (Str × Tv)) (x : Str) : Str := quoT x ++ ": " ++ wrT n ((lookD kts x).getD nT)
noncomputable def pairOf (n : Nat) (kts : List (Str × Tv)) (x : Str) : Str × Tv := (x, nrm n ((lookD kts x).getD nT))
def pvDict (n : Nat) : PSpR := fun t p Ts R => ∃ (kts : List (Str × Tv)) (r : List Nat), Ts = [] /\ VW (n + 1) (.dct kts) /\ t.length <= 4000 /\ Rst t p (cs (Str.join ", " ((namesOf kts).map (rowOf n kts))) ++ 125 :: r) /\ ∀ p', Rst t p' r -> R (.dct ((namesOf kts).map (pairOf n kts))) p'
theorem C6_ : FnScope ["reader", "pairs"] ["reader"] (defScope s6_) := fsc (by decide +kernel)
theorem g6_ (h : Has K mg "dict_read" s6_) (B : Own mg) (hC : RdK K C) (Mpasses : MGoodR P w K mg base 2 "passes" ["self", "words"] C pmPasses) (Mneeds : MGoodR P w K mg base 3 "needs" ["self", "words"] C pmNeeds) (G5_ : PGoodR P w K mg base (5 + 3 * n + 1) "named_read" ["reader"] C (pvNamed n)) (G3_ : PGood P w K mg base 1 "rises" ["things"] ptRise)   : NGoodR P w K mg base (5 + 3 * n + 2) "dict_read" ["reader"] C (pvDict n) := by
 have nd := C6_.nd
 refine h.ngR C6_ (fun|_,_,_,_,_,_,[_],_=>rfl) (fun f cdv A outer s H E F hF hr =>
   (un_if (ub_val (ue_methR 0 hF hC Mpasses (hr.mono (by omega)) (ua_c ue_str ua_nil)))
    (un_ud ud_nil)
   (un_cons (us_o 1 nd (ul_lst (ua_c (ue_fnR 0 hF G5_ (hr.mono (by omega)) rfl ua_nil) ua_nil)))
   (un_cons (us_while PassesOwn.never (ub_val (ue_methR 0 hF hC Mpasses (hr.mono (by omega)) (ua_c ue_str ua_nil)))
    (us_one (us_expr (ue_append 1 (ue_fnR 0 hF G5_ (hr.mono (by omega)) rfl ua_nil)))))
   (un_cons (us_expr (ue_methR 0 hF hC Mneeds (hr.mono (by omega)) (ua_c ue_str ua_nil)))
   (un_cons (us_if (ub_not (ub_val (ue_fm G3_ hr (ua_c (ue_ul (ul_c0 (sc := defScope s6_) (XN := ["reader", "pairs"]) (N := ["pair"]) (fr := []) (ui_val (ue_var 1)) (fun _ _ _ _ _ => (ue_x hr (ue_var 0) ue_int)))) ua_nil))))
    (us_one us_nev)
    us_nil)
   (un_ud (ud_dictP rfl rfl B.dict_ (ue_var 1))))))))) (fun t p Ts R q => ?_)
 obtain ⟨kts, r, rfl, hk, ht, hr, q⟩ := q
 have hh : (kts.map (·.1)).Nodup /\ kts.length <= 11 /\ ∀ kt ∈ kts, (Sg kt.1 /\ kt.1.length <= 50) /\ VW n kt.2 := hk
 have ln := names_len kts
 have mem : ∀ x ∈ namesOf kts, x.length <= 50 /\ VW n ((lookD kts x).getD nT) := fun x hx => by
  obtain ⟨d, hd, rfl⟩ := List.mem_map.mp (names_mem.mp hx)
  rw [lookD_of hh.1 (show (d.1, d.2) ∈ kts from hd)]
  exact ⟨(hh.2.2 d hd).1.2, (hh.2.2 d hd).2⟩
 have hri : rise (namesOf kts) := sort_rise hh.1
 generalize namesOf kts = ns at hr q ln mem hri
 refine ⟨rfl, ⟨t, p, rfl⟩, t, p, [sT "}"], rfl, ⟨rfl, trivial⟩, "}", _, rfl, by decide, hr, fun r' e p' h' => ?_, fun z => ?_⟩
 ·cases ns with
  | cons x ns =>
   exfalso
   rw [List.map_cons, join_cs] at e
   unfold rowOf at e
   rw [app, app, quo_cs] at e
   exact absurd (List.cons.inj e).1 (by decide)
  | nil =>
   have e : r = r' := (List.cons.inj e).2
   subst e
   exact ⟨_, rfl, iteT ⟨p', rfl, q p' h'⟩⟩
 ·cases ns with
  | nil => exact absurd ((pre_self [125] r).symm.trans z) (by decide)
  | cons x ns =>
   have fo : ∀ l : List Str, Fol (rowsC (l.map (rowOf n kts)) ++ 125 :: r) := fun l => fol_row (.inr ⟨125, r, rfl, .inr (.inr rfl)⟩)
   rw [List.map_cons, join_cs, List.append_assoc] at hr
   refine ⟨_, rfl, iteF ⟨⟨t, p, rfl⟩, t, p, [], rfl, trivial, x, _, _, rfl, (mem x (List.mem_cons_self ..)).1, (mem x (List.mem_cons_self ..)).2, ht, hr, fo ns, fun p1 h1 => ⟨by simp, ?_⟩⟩⟩
   refine ⟨fun m ρ => ∃ (as bs : List Str) (p2 : Int), x :: ns = as ++ bs /\ bs.length = m /\ Rst t p2 (rowsC (bs.map (rowOf n kts)) ++ 125 :: r) /\ ρ = [.rd t p2, .own (as.map fun y => .seq true [sT y, nrm n ((lookD kts y).getD nT)])], ⟨_, [x], ns, p1, rfl, rfl, h1, rfl⟩, ?_⟩
   rintro m _ ⟨as, bs, p2, eb, rfl, h2, rfl⟩
   refine ⟨⟨t, p2, rfl⟩, t, p2, [sT ", "], rfl, ⟨rfl, trivial⟩, ", ", _, rfl, by decide, h2, fun r' e p' h' => ⟨_, rfl, iteT ?_⟩, fun z => ⟨_, rfl, iteF ?_⟩⟩
   ·cases bs with
    | nil => exact absurd (List.cons.inj e).1 (by decide)
    | cons b bs =>
     have e : cs (rowOf n kts b) ++ rowsC (bs.map (rowOf n kts)) ++ 125 :: r = r' := (List.cons.inj (List.cons.inj e).2).2
     subst e
     rw [List.append_assoc] at h'
     have hb : b ∈ x :: ns := by rw [eb]; exact List.mem_append_right _ (List.mem_cons_self ..)
     have la : as.length <= 11 := by
      have := congrArg List.length eb
      rw [List.length_append] at this
      omega
     exact ⟨⟨_, rfl⟩, ⟨t, p', rfl⟩, t, p', [], rfl, trivial, b, _, _, rfl, (mem b hb).1, (mem b hb).2, ht, h', fo bs, fun p3 h3 => ⟨_, rfl, by rw [List.length_map]; omega, bs.length, by simp, as ++ [b], bs, p3, by rw [eb, List.append_assoc]; rfl, rfl, h3, by rw [List.map_append]; rfl⟩⟩
   ·cases bs with
    | cons b bs => exact absurd ((pre_self [44, 32] _).symm.trans z) (by decide)
    | nil =>
     rw [List.append_nil] at eb
     subst eb
     refine ⟨⟨t, p2, rfl⟩, t, p2, [sT "}"], rfl, ⟨rfl, trivial⟩, "}", r, rfl, by decide, h2, fun p3 h3 => ?_⟩
     have la : (x :: ns).length <= 11 := by omega
     generalize x :: ns = al at la hri q mem
     refine ⟨by rw [List.length_map]; omega, compT_of (fun y => .seq true [sT y, nrm n ((lookD kts y).getD nT)]) sT (fun y hy R q => ⟨_, atI_nat (j := 0) rfl, q⟩) ⟨al, rfl, by omega, hri, _, rfl, iteF ?_⟩⟩
     refine ⟨al.map (pairOf n kts), by rw [List.map_map]; rfl, by rw [List.map_map]; simpa [pairOf, Function.comp_def] using rise_nodup hri, by rw [List.length_map]; omega, p3, rfl, q p3 h3⟩
end
end My
namespace My
open PySem L2 PyProof.Rows WordM
section
variable {P : Program} {w : World} {K : PySem.W.Frag} {mg : Str -> Option Value} {base : Heap} {C : Addr}
variable {n : Nat}
theorem ifp_no {t : Str} {p : Int} {r : List Nat} (w : Str) {s u : UTn} {R : Tv -> PEnv -> Prop} (h : Rst t p r) (hw : w.length <= 1000) (no : (cs w).isPrefixOf r = false) (q : u [.rd t p] R) : nIf (uB (uCallR 0 pmPasses (uCons (uC (sT w)) uNil))) s u [.rd t p] R :=
 ⟨⟨t, p, rfl⟩, t, p, [sT w], rfl, ⟨rfl, trivial⟩, w, r, rfl, hw, h, fun r' e p' h' => (by rw [e, pre_self] at no; cases no), fun _ => ⟨_, rfl, iteF q⟩⟩
theorem ifp_yes {t : Str} {p : Int} {r r' : List Nat} (w : Str) {s u : UTn} {R : Tv -> PEnv -> Prop} (h : Rst t p r) (e : r = cs w ++ r') (hw : w.length <= 1000) (q : ∀ p', Rst t p' r' -> s [.rd t p'] R) : nIf (uB (uCallR 0 pmPasses (uCons (uC (sT w)) uNil))) s u [.rd t p] R :=
 ⟨⟨t, p, rfl⟩, t, p, [sT w], rfl, ⟨rfl, trivial⟩, w, r, rfl, hw, h, fun r2 e2 p' h' => (by
  rw [e] at e2
  have := List.append_cancel_left e2
  subst this
  exact ⟨_, rfl, iteT (q p' h')⟩), fun z => (by rw [e, pre_self] at z; cases z)⟩
theorem ifs_no {t : Str} {p : Int} {r : List Nat} (w : Str) {s u : UTn} {R : Tv -> PEnv -> Prop} (h : Rst t p r) (no : (cs w).isPrefixOf r = false) (q : u [.rd t p] R) : nIf (uB (uCallR 0 pmSees (uCons (uC (sT w)) uNil))) s u [.rd t p] R :=
 ⟨⟨t, p, rfl⟩, t, p, [sT w], rfl, ⟨rfl, trivial⟩, w, r, rfl, h, false, by rw [no], iteF q⟩
theorem ifs_yes {t : Str} {p : Int} {r : List Nat} (w : Str) {s u : UTn} {R : Tv -> PEnv -> Prop} (h : Rst t p r) (no : (cs w).isPrefixOf r = true) (q : s [.rd t p] R) : nIf (uB (uCallR 0 pmSees (uCons (uC (sT w)) uNil))) s u [.rd t p] R :=
 ⟨⟨t, p, rfl⟩, t, p, [sT w], rfl, ⟨rfl, trivial⟩, w, r, rfl, h, true, by rw [no], iteT q⟩
theorem six_no {c : Nat} {l : List Nat} (h : c ≠ 110) : (cs ("nothing" : Str)).isPrefixOf (c :: l) = false /\ (cs ("no" : Str)).isPrefixOf (c :: l) = false := ⟨pre_no fun z => h z.symm, pre_no fun z => h z.symm⟩
theorem yes_no {c : Nat} {l : List Nat} (h : c ≠ 121) : (cs ("yes" : Str)).isPrefixOf (c :: l) = false := pre_no fun z => h z.symm
theorem one_no {c d : Nat} {l : List Nat} (h : c ≠ d) : [d].isPrefixOf (c :: l) = false := pre_no fun z => h z.symm
theorem fol_ne {r : List Nat} (h : Fol r) : ∀ c l, r = c :: l -> c = 44 \/ c = 93 \/ c = 125 := fun c l e => by
 rcases h with h | ⟨d, m, h, z⟩
 ·rw [h] at e; cases e
 ·rw [h] at e; cases e; exact z
theorem no_nothing {r : List Nat} (h : Fol r) : (cs ("nothing" : Str)).isPrefixOf (cs ("no" : Str) ++ r) = false := by
 show (110 == 110 && (111 == 111 && ([116, 104, 105, 110, 103].isPrefixOf r))) = false
 cases r with
 | nil => rfl
 | cons c l =>
  rw [pre_no fun z => (by rcases fol_ne h c l rfl with y | y | y <;> omega)]
  rfl
theorem C7_ : FnScope ["reader"] ["reader"] (defScope s7_) := fsc (by decide +kernel)
theorem g7_ (h : Has K mg "value_read" s7_) (B : Own mg) (hC : RdK K C) (Mpasses : MGoodR P w K mg base 2 "passes" ["self", "words"] C pmPasses) (Msees : MGoodR P w K mg base 1 "sees" ["self", "words"] C pmSees) (Mread_quoted : MGoodR P w K mg base 4 "read_quoted" ["self"] C pmQuo) (Mread_number : MGoodR P w K mg base 3 "read_number" ["self"] C pmNum) (G4_ : NGoodR P w K mg base (5 + 3 * n + 1) "list_read" ["reader"] C (pvList n)) (G6_ : NGoodR P w K mg base (5 + 3 * n + 2) "dict_read" ["reader"] C (pvDict n))   : NGoodR P w K mg base (5 + 3 * n + 3) "value_read" ["reader"] C (pvRead (n + 1)) := by
 have nd := C7_.nd
 refine h.ngR C7_ (fun|_,_,_,_,_,_,[_],_=>rfl) (fun f cdv A outer s H E F hF hr =>
   (un_if (ub_val (ue_methR 0 hF hC Mpasses (hr.mono (by omega)) (ua_c ue_str ua_nil)))
    (un_ret ue_non)
   (un_if (ub_val (ue_methR 0 hF hC Mpasses (hr.mono (by omega)) (ua_c ue_str ua_nil)))
    (un_ret ue_bl)
   (un_if (ub_val (ue_methR 0 hF hC Mpasses (hr.mono (by omega)) (ua_c ue_str ua_nil)))
    (un_ret ue_bl)
   (un_if (ub_val (ue_methR 0 hF hC Msees (hr.mono (by omega)) (ua_c ue_str ua_nil)))
    (un_ret (ue_methR0 0 hF hC Mread_quoted (hr.mono (by omega))))
   (un_if (ub_val (ue_methR 0 hF hC Mpasses (hr.mono (by omega)) (ua_c ue_str ua_nil)))
    (un_fnN 0 hF G4_ (hr.mono (by omega)) rfl ua_nil)
   (un_if (ub_val (ue_methR 0 hF hC Mpasses (hr.mono (by omega)) (ua_c ue_str ua_nil)))
    (un_fnN 0 hF G6_ (hr.mono (by omega)) rfl ua_nil)
   (un_ret (ue_methR0 0 hF hC Mread_number (hr.mono (by omega))))))))))) (fun t p Ts R q => ?_)
 obtain ⟨T, r, rfl, hT, ht, hr, hf, q⟩ := q
 refine ⟨rfl, ?_⟩
 show nIf _ _ _ [.rd t p] _
 rcases VW.six hT with rfl | ⟨b, rfl⟩ | ⟨i, rfl⟩ | ⟨s, rfl⟩ | ⟨xs, rfl⟩ | ⟨kts, rfl⟩
 ·refine ifp_yes "nothing" (r' := r) hr rfl (by decide) fun p' h' => ?_
  exact ⟨_, rfl, p', rfl, q p' h'⟩
 ·cases b with
  | false => 
   refine ifp_no "nothing" hr (by decide) (no_nothing hf) ?_
   refine ifp_yes "no" (r' := r) hr rfl (by decide) fun p' h' => ?_
   exact ⟨_, rfl, p', rfl, q p' h'⟩
  | true =>
   refine ifp_no "nothing" hr (by decide) rfl ?_
   refine ifp_no "no" hr (by decide) rfl ?_
   refine ifp_yes "yes" (r' := r) hr rfl (by decide) fun p' h' => ?_
   exact ⟨_, rfl, p', rfl, q p' h'⟩
 ·have hi : -(10 ^ 62) < i /\ i < 10 ^ 62 := hT
  have hn : i.natAbs < 10 ^ 65 := by omega
  have hr : Rst t p (cs (Str.ofString (toString i)) ++ r) := hr
  obtain ⟨c, l, e, hc⟩ : ∃ c l, cs (Str.ofString (toString i)) ++ r = c :: l /\ (c = 45 \/ fig c) := by
   obtain ⟨ds, dn, dd, e | e⟩ := num_cs i (Nat.lt_trans hn (by decide))
   ·cases ds with
    | nil => exact absurd rfl dn
    | cons d ds => exact ⟨d, ds ++ r, by rw [e]; rfl, .inr (dd d (List.mem_cons_self ..))⟩
   ·exact ⟨45, ds ++ r, by rw [e]; rfl, .inl rfl⟩
  have hr' := hr
  rw [e] at hr'
  have k : c ≠ 110 /\ c ≠ 121 /\ c ≠ 34 /\ c ≠ 91 /\ c ≠ 123 := by rcases hc with rfl | hc <;> omega
  refine ifp_no "nothing" hr' (by decide) (six_no k.1).1 ?_
  refine ifp_no "no" hr' (by decide) (six_no k.1).2 ?_
  refine ifp_no "yes" hr' (by decide) (yes_no k.2.1) ?_
  refine ifs_no "\"" hr' (one_no k.2.2.1) ?_
  refine ifp_no "[" hr' (by decide) (one_no k.2.2.2.1) ?_
  refine ifp_no "{" hr' (by decide) (one_no k.2.2.2.2) ?_
  exact ⟨⟨t, p, rfl⟩, t, p, [], rfl, trivial, i, r, rfl, hn, by omega, hr, fun c l e => (by have := fol_ne hf c l e; omega), fun p' h' => ⟨_, rfl, p', rfl, q p' h'⟩⟩
 ·have hs : Sg s /\ s.length <= 50 := hT
  have hr : Rst t p (cs (quoT s) ++ r) := hr
  have hr' := hr
  rw [quo_cs, List.cons_append] at hr'
  refine ifp_no "nothing" hr' (by decide) (six_no (by decide)).1 ?_
  refine ifp_no "no" hr' (by decide) (six_no (by decide)).2 ?_
  refine ifp_no "yes" hr' (by decide) (yes_no (by decide)) ?_
  refine ifs_yes "\"" hr' (pre_self [34] _) ?_
  exact ⟨⟨t, p, rfl⟩, t, p, [], rfl, trivial, s, r, rfl, by omega, by omega, hr, fun c l e => (by have := fol_ne hf c l e; omega), fun p' h' => ⟨_, rfl, p', rfl, q p' h'⟩⟩
 ·have hh : xs.length <= 11 /\ ∀ x ∈ xs, VW n x := hT
  have hr : Rst t p (cs ("[" ++ Str.join ", " (xs.map (wrT n)) ++ "]") ++ r) := hr
  rw [app, app, List.append_assoc, List.append_assoc] at hr
  refine ifp_no "nothing" hr (by decide) rfl ?_
  refine ifp_no "no" hr (by decide) rfl ?_
  refine ifp_no "yes" hr (by decide) rfl ?_
  refine ifs_no "\"" hr rfl ?_
  refine ifp_yes "[" hr rfl (by decide) fun p' h' => ?_
  exact ⟨⟨t, p', rfl⟩, t, p', [], rfl, trivial, xs, r, rfl, hh.1, hh.2, ht, h', fun p2 h2 => ⟨p2, rfl, q p2 h2⟩⟩
 ·have hr : Rst t p (cs ("{" ++ Str.join ", " ((namesOf kts).map (rowOf n kts)) ++ "}") ++ r) := hr
  rw [app, app, List.append_assoc, List.append_assoc] at hr
  refine ifp_no "nothing" hr (by decide) rfl ?_
  refine ifp_no "no" hr (by decide) rfl ?_
  refine ifp_no "yes" hr (by decide) rfl ?_
  refine ifs_no "\"" hr rfl ?_
  refine ifp_no "[" hr (by decide) rfl ?_
  refine ifp_yes "{" hr rfl (by decide) fun p' h' => ?_
  exact ⟨⟨t, p', rfl⟩, t, p', [], rfl, trivial, kts, r, rfl, hT, ht, h', fun p2 h2 => ⟨p2, rfl, q p2 h2⟩⟩
end
end My
namespace My
open PySem L2 PyProof.Rows WordM
section
variable {P : Program} {w : World} {K : PySem.W.Frag} {mg : Str -> Option Value} {base : Heap} {C : Addr}
variable {n : Nat}
def signC (c : Nat) : Bool := decide (32 <= c) && decide (c <= 126) && decide (c ≠ 37)
theorem lt_one (a b : Nat) : decide (([a] : List Nat) < [b]) = decide (a < b) := by
 rw [decide_eq_decide, List.cons_lt_cons_iff]
 exact ⟨fun h => h.elim id fun h => absurd h.2 (List.not_lt_nil _), .inl⟩
def ptSign : PSp := fun as R => ∃ c : Nat, as = [.va (sT ⟨#[c]⟩)] /\ R (bT (signC c))
theorem g0_ (h : Has K mg "is_sign" s0_) (B : Own mg)  (GPERCENT : GlobT K mg "PERCENT" (iT 37)) (Bord : mg "ord" = none) : PGood P w K mg base 1 "is_sign" ["sign"] ptSign := by
 refine h.pg1 ["sign"] (fun nd hr =>
   (us_one (us_ret (ue_and (ue_chain pu_leS pu_leS ue_str (ue_var 0) ue_str) (ue_one (ue_cp (pu_ne hr.units).op (ue_callB pu_ord rfl Bord boot_ord (ua_c (ue_var 0) ua_nil)) (ue_gl GPERCENT rfl))))))) (fun as R q => ?_)
 obtain ⟨c, rfl, q⟩ := q
 have e1 : (!decide (([c] : List Nat) < (Str.ofString " ").cps.toList)) = decide (32 <= c) := by
  rw [show (Str.ofString " ").cps.toList = [32] by decide, lt_one]
  by_cases h : c < 32
  ·rw [decide_eq_true h, decide_eq_false (by omega)]; rfl
  ·rw [decide_eq_false h, decide_eq_true (by omega)]; rfl
 have e2 : (!decide ((Str.ofString "~").cps.toList < ([c] : List Nat))) = decide (c <= 126) := by
  rw [show (Str.ofString "~").cps.toList = [126] by decide, lt_one]
  by_cases h : 126 < c
  ·rw [decide_eq_true h, decide_eq_false (by omega)]; rfl
  ·rw [decide_eq_false h, decide_eq_true (by omega)]; rfl
 refine ⟨rfl, _, rfl, ?_⟩
 show if (!decide (([c] : List Nat) < (Str.ofString " ").cps.toList)) = true then _ else _
 rw [e1]
 unfold signC at q
 refine sifd (fun h1 => ?_) (fun h1 => ?_)
 ·show ∃ b, bT (!decide ((Str.ofString "~").cps.toList < ([c] : List Nat))) = bT b /\ _
  rw [e2]
  rw [decide_eq_true h1, Bool.true_and] at q
  refine ⟨_, rfl, sifd (fun h2 => ?_) (fun h2 => ?_)⟩
  ·rw [decide_eq_true h2, Bool.true_and] at q
   refine ⟨_, rfl, rfl, ?_⟩
   show R (bT (true != eqV (.int ((#[c].getD 0 0 : Nat) : Int)) (.int 37)))
   rw [show (true != eqV (.int ((#[c].getD 0 0 : Nat) : Int)) (.int 37)) = decide (c ≠ 37) by
    by_cases h : c = 37
    ·subst h; decide
    ·rw [decide_eq_true h]; simp [eqV]; omega]
   exact q
  ·rw [decide_eq_false h2, Bool.false_and] at q
   exact q
 ·rw [decide_eq_false h1, Bool.false_and, Bool.false_and] at q
  exact ⟨_, rfl, iteF q⟩
theorem sig_sign : ∀ c ∈ cs SIG, signC c = true := by decide +kernel
def ptIsText : PSp := fun as R => ∃ s : Str, as = [.va (sT s)] /\ Sg s /\ s.length <= 10000 /\ R (bT true)
theorem g1_ (h : Has K mg "is_text" s1_) (B : Own mg) (G0_ : PGood P w K mg base 1 "is_sign" ["sign"] ptSign)   : PGood P w K mg base 2 "is_text" ["thing"] ptIsText := by
 refine h.pg1 ["thing"] (fun nd hr =>
   (us_one (us_ret (ue_and (ue_isi "str" call_isi_str rfl B.isinstance (ue_var 0) (pe_bltn (v := .ty "str") rfl B.str_ boot_str rfl)) (ue_one (ue_callB (pu_all rfl) rfl B.all boot_all (ua_c (ue_ul (ul_c0 (sc := defScope s1_) (XN := ["thing"]) (N := ["sign"]) (fr := []) (ui_val (ue_var 0)) (fun _ _ _ _ _ => (ue_fm G0_ hr (ua_c (ue_var 0) ua_nil))))) ua_nil))))))) (fun as R q => ?_)
 obtain ⟨s, rfl, hs, ls, q⟩ := q
 refine ⟨rfl, _, rfl, iteT ⟨?_, compT_of (fun c : Nat => sT ⟨#[c]⟩) (fun c => bT (signC c)) (fun c hc R q => ⟨c, rfl, q⟩) ?_⟩⟩
 ·rw [List.length_map, <- WordM.len]; omega
 ·refine ⟨s.cps.toList.map signC, by rw [List.map_map]; rfl, ?_⟩
  rw [List.all_map, show (s.cps.toList.all (id ∘ signC)) = true from List.all_eq_true.mpr fun c hc => sig_sign c (hs c hc)]
  exact q
theorem un_never {X : Cx} {F : Fm} {st : List Stmt} : UNs X F st (fun _ _ => False) := ⟨PSs.imp pss_never fun D σ H ⟨_, _, _, h, _⟩ => h⟩
theorem g_vreads (h : Has K mg "value_read" s7_) (hl : Has K mg "list_read" s4_) (hd : Has K mg "dict_read" s6_) (hn : Has K mg "named_read" s5_) (B : Own mg) (hC : RdK K C)
  (M1 : MGoodR P w K mg base 1 "sees" ["self", "words"] C pmSees) (M2 : MGoodR P w K mg base 2 "passes" ["self", "words"] C pmPasses) (M3 : MGoodR P w K mg base 3 "needs" ["self", "words"] C pmNeeds) (M4 : MGoodR P w K mg base 4 "read_quoted" ["self"] C pmQuo) (M5 : MGoodR P w K mg base 3 "read_number" ["self"] C pmNum)
  (Gr : PGood P w K mg base 1 "rises" ["things"] ptRise) : ∀ n : Nat, NGoodR P w K mg base (5 + 3 * n) "value_read" ["reader"] C (pvRead n)
 | 0 => h.ngR C7_ (fun|_,_,_,_,_,_,[_],_=>rfl) (fun _ _ _ _ _ _ _ _ _ _ => un_never) fun t p Ts R ⟨_, _, _, h, _⟩ => False.elim h
 | n + 1 => have G := g_vreads h hl hd hn B hC M1 M2 M3 M4 M5 Gr n
  g7_ h B hC M2 M1 M4 M5 (g4_ hl B hC M2 M3 G) (g6_ hd B hC M2 M3 (g5_ hn B hC M4 M3 G) Gr)
def pvWhole (n : Nat) (fa : Addr) : PSp := fun as R => ∃ (T : Tv), as = [.va (sT (wrT n T)), .fn fa] /\ VW n T /\ (wrT n T).length <= 4000 /\ R (nrm n T)
theorem C2_ : FnScope ["text", "read_one", "reader", "thing"] ["text", "read_one"] (defScope s2_) := fsc (by decide +kernel)
theorem g2_ {fa : Addr} {n : Nat} (h : Has K mg "read_whole" s2_) (B : Own mg) (hC : RdK K C) (MK : MkR P w K mg base 1 "Reader" C) (M6 : MGoodR P w K mg base 1 "needs_end" ["self"] C pmEnd) (Gt : PGood P w K mg base 2 "is_text" ["thing"] ptIsText)
  (Gv : NGoodR P w K mg base (5 + 3 * n) "value_read" ["reader"] C (pvRead n)) (hm : mg "value_read" = some (.ref fa)) : NGood P w K mg base (5 + 3 * n + 1) "read_whole" ["text", "read_one"] (pvWhole n fa) := by
 have nd := C2_.nd
 refine h.ng C2_ (fun|_,_,_,_,_,_,[_,_],_=>rfl) (fun f cdv A outer s H E F hr =>
  (un_cons (us_if (ub_not (ub_val (ue_fm Gt hr (ua_c (ue_var 0) ua_nil)))) (us_one us_nev) us_nil)
  (un_newR 2 0 MK (hr.mono (by omega)) rfl nd rfl (.inl rfl) (fun F' hd hF =>
   (un_cons (us_setN (i := 3) nd rfl (.inl rfl) (une_callV 1 2 hF Gv hm hr))
   (un_cons (us_expr (ue_methR0 2 hF hC M6 (hr.mono (by omega))))
   (un_sl 3))))))) (fun as R q => ?_)
 obtain ⟨T, rfl, hT, ht, q⟩ := q
 refine ⟨rfl, _, rfl, sg_wr hT, by omega, _, rfl, iteF ?_⟩
 refine ⟨_, rfl, by simp [startP], rfl, ?_⟩
 refine ⟨rfl, _, 0, rfl, T, [], rfl, hT, ht, by rw [List.append_nil]; exact Rst.start _, .inl rfl, fun p1 h1 => ?_⟩
 refine ⟨⟨_, p1, rfl⟩, _, p1, [], rfl, trivial, rfl, by omega, h1, _, rfl, q⟩
def pvVal (n : Nat) : PSp := fun as R => ∃ (T : Tv), as = [.va (sT (wrT n T))] /\ VW n T /\ (wrT n T).length <= 4000 /\ R (nrm n T)
theorem C8_ : FnScope ["text"] ["text"] (defScope s8_) := fsc (by decide +kernel)
theorem g8_ {fa : Addr} {n : Nat} (h : Has K mg "read_value" s8_) (B : Own mg) (Gw : NGood P w K mg base (5 + 3 * n + 1) "read_whole" ["text", "read_one"] (pvWhole n fa)) (hm : mg "value_read" = some (.ref fa)) : NGood P w K mg base (5 + 3 * n + 2) "read_value" ["text"] (pvVal n) := by
 refine h.ng C8_ (fun|_,_,_,_,_,_,[_],_=>rfl) (fun f cdv A outer s H E F hr =>
  (un_une (une_fn Gw hr rfl (ua_c (ue_var 0) (ua_fn rfl hm ua_nil))))) (fun as R q => ?_)
 obtain ⟨T, rfl, hT, ht, q⟩ := q
 exact ⟨rfl, T, rfl, hT, ht, q⟩
theorem scm___init__ : FnScope ["self", "text"] ["self", "text"] (defScope sm___init__) := fsc (by decide +kernel)
theorem mk_reader {f : Addr} {fd : FuncData} (FU : Fun K "__init__" "Reader.__init__" sm___init__ f fd) (hC : RdK K C) (M : Mk K C f) (hm : mg "Reader" = some (.ref C)) : MkR P w K mg base 1 "Reader" C :=
 mkR_of FU scm___init__ hC M hm (fun|_,_,_,_,_,_,[_,_],_=>rfl) (fun cdv A outer s H E hr => pss_cons (ps_fld (pv 0) (pv 1) rfl) (pss_one (ps_fld (pv 0) pe_int rfl)))
end
end My
namespace My
open PySem L2 PyProof.Rows WordM
section
variable {P : Program} {w : World} {K : PySem.W.Frag} {mg : Str -> Option Value} {base : Heap} {C : Addr}
variable {n : Nat}
def ptQuo : PSp := fun as R => ∃ s : Str, as = [.va (sT s)] /\ s.length <= 1000 /\ R (sT (quoT s))
theorem app_one (x : Str) (l : List Nat) (c : Nat) : x ++ (⟨(l ++ [c]).toArray⟩ : Str) = x ++ (⟨l.toArray⟩ : Str) ++ (⟨#[c]⟩ : Str) := by
 show (⟨x.cps ++ (l ++ [c]).toArray⟩ : Str) = ⟨x.cps ++ l.toArray ++ #[c]⟩
 simp
theorem g23_ (h : Has K mg "_law_quoted" s23_) (B : Own mg)    : PGood P w K mg base 1 "_law_quoted" ["_law_text_here"] ptQuo := by
 refine h.pg1 ["_law_text_here", "_law_found", "_law_sign"] (fun nd hr =>
   (us_cons (us_s 1 nd ue_str)
   (us_cons (us_for (m := 3) PassesOwn.never rfl (ui_val (ue_var 0)) (ug_name 2 (by decide) nd rfl (.inl rfl))
    (us_cons (us_s 1 nd (ue_op pu_add (ue_var 1) (ue_var 2)))
    (us_one (us_if (ub_q hr (ue_var 2) ue_str)
     (us_one (us_s 1 nd (ue_op pu_add (ue_var 1) (ue_var 2))))
     us_nil))))
   (us_one (us_ret (ue_op pu_add (ue_var 1) ue_str)))))) (fun as R q => ?_)
 obtain ⟨s, rfl, l, q⟩ := q
 have dl := dblS_len s
 have len : ∀ i : Nat, (⟨(StrLaws.dbl 34 ((cs s).take i)).toArray⟩ : Str).length <= 2000 := fun i => by
  have := dbl_len 34 ((cs s).take i)
  have e : (⟨(StrLaws.dbl 34 ((cs s).take i)).toArray⟩ : Str).length = (StrLaws.dbl 34 ((cs s).take i)).length := by simp [Str.length]
  have t : ((cs s).take i).length <= s.length := by rw [List.length_take, WordM.len]; omega
  omega
 refine ⟨rfl, ?_⟩
 refine forT_of (fun c : Nat => sT ⟨#[c]⟩) (l := s.cps.toList) (fun i ρ => ∃ s2, ρ = [.va (sT s), .va (sT ("\"" ++ ⟨(StrLaws.dbl 34 ((cs s).take i)).toArray⟩)), s2]) ⟨_, rfl⟩ ?_ ?_
 ·rintro i c _ N hc ⟨s2, rfl⟩ hN
  have li := len i
  have l2 := len (i + 1)
  have hi : i < (cs s).length := (List.getElem?_eq_some_iff.mp hc).1
  have ec : (cs s)[i] = c := by rw [List.getElem?_eq_getElem hi] at hc; exact Option.some.inj hc
  have tk : (cs s).take (i + 1) = (cs s).take i ++ [c] := by rw [List.take_succ_eq_append_getElem hi, ec]
  have len1 : ∀ a : Str, (("\"" : Str) ++ a).length = 1 + a.length := fun a => str_app_len _ _
  refine ⟨?_, ?_⟩
  ·show (("\"" : Str) ++ _).length + 1 <= 100000
   rw [len1]; omega
  ·refine ⟨_, rfl, sifS (fun z => ⟨?_, hN _ ⟨.va (sT ⟨#[c]⟩), ?_⟩⟩) (fun z => hN _ ⟨.va (sT ⟨#[c]⟩), ?_⟩)⟩
   ·show ((("\"" : Str) ++ _) ++ ⟨#[c]⟩ : Str).length + 1 <= 100000
    rw [str_app_len, len1]
    show 1 + _ + 1 + 1 <= 100000
    omega
   ·have zc : c = 34 := by
     have z2 : ([c] : List Nat) = [34] := congrArg (fun x : Str => x.cps.toList) (z.trans (show (Str.ofString "\"" : Str) = ⟨#[34]⟩ by decide))
     exact (List.cons.inj z2).1
    rw [tk, dbl_snoc, if_pos zc, show ∀ l : List Nat, l ++ [c, c] = l ++ [c] ++ [c] from fun l => by simp, app_one, app_one]
    rfl
   ·have zc : c ≠ 34 := fun h => z (by rw [h]; rfl)
    rw [tk, dbl_snoc, if_neg zc, app_one]
    rfl
 ·rintro _ ⟨s2, rfl⟩
  have e : (cs s).take s.cps.toList.length = cs s := List.take_length
  rw [e]
  refine ⟨?_, q⟩
  show (("\"" : Str) ++ dblS s).length + 1 <= 100000
  rw [str_app_len]
  show 1 + _ + 1 <= 100000
  omega
theorem row_lenL {L : Nat} {kts : List (Str × Tv)} (nd : (kts.map (·.1)).Nodup) (h : ∀ kt ∈ kts, (Sg kt.1 /\ kt.1.length <= 50) /\ VW n kt.2) (hL : ∀ kt ∈ kts, (wrT n kt.2).length <= L) : ∀ s ∈ (namesOf kts).map (fun x => quoT x ++ ": " ++ wrT n ((lookD kts x).getD nT)), s.length <= L + 104 := fun s hs => by
 obtain ⟨x, hx, rfl⟩ := List.mem_map.mp hs
 obtain ⟨d, hd, rfl⟩ := List.mem_map.mp (names_mem.mp hx)
 rw [lookD_of nd (show (d.1, d.2) ∈ kts from hd)]
 have a := hL d hd
 have b := quo_len d.1
 have c := (h d hd).1.2
 rw [str_app_len, str_app_len]
 show _ + 2 + (wrT n d.2).length <= _
 omega
theorem Lw3 : ∀ {n : Nat}, n <= 3 -> Lw n <= 200000 := fun {n} h => by
 match n, h with
 | 0, _ => decide
 | 1, _ => decide
 | 2, _ => decide
 | 3, _ => decide
def LenK (n : Nat) (T : Tv) : Prop := ∃ m L : Nat, cntT T <= m /\ (∀ x ∈ kidsT T, (wrT (n - 1) x).length <= L) /\ m * (L + 106) <= 9000000
theorem LenK.kid {n : Nat} {x : Tv} (h : VW n x) (h4 : n <= 4) : LenK n x := ⟨11, Lw (n - 1), cnt_le h, fun y hy => wr_len (kid_vw h hy), by have := Lw3 (show n - 1 <= 3 by omega); omega⟩
def ptShowC (n : Nat) : PSp := fun as R => ∃ (T : Tv), as = [.va T] /\ VW n T /\ n <= 5 /\ LenK n T /\ R (sT (wrT n T))
theorem g24_ (h : Has K mg "_law_written" s24_) (B : Own mg) (G23_ : PGood P w K mg base 1 "_law_quoted" ["_law_text_here"] ptQuo) (G24_ : PGood P w K mg base (2 + n) "_law_written" ["_law_value_here"] (ptShowC n))   : PGood P w K mg base (2 + n + 1) "_law_written" ["_law_value_here"] (ptShowC (n + 1)) := by
 refine h.pg1 ["_law_value_here", "_law_rows"] (fun nd hr =>
   (us_cons (us_if (ub_cp pu_is (ue_var 0) ue_non)
    (us_one (us_ret ue_str))
    us_nil)
   (us_cons (us_if (ub_val (ue_isi "bool" call_isi_bool rfl B.isinstance (ue_var 0) (pe_bltn (v := .ty "bool") rfl B.bool_ boot_bool rfl)))
    (us_one (us_ret (ue_x hr (ue_ul (ul_lst (ua_c ue_str (ua_c ue_str ua_nil)))) (ue_callTy pu_int rfl B.int_ boot_int (ua_c (ue_var 0) ua_nil)))))
    us_nil)
   (us_cons (us_if (ub_val (ue_isi "int" call_isi_int rfl B.isinstance (ue_var 0) (pe_bltn (v := .ty "int") rfl B.int_ boot_int rfl)))
    (us_one (us_ret (ue_callTy pu_str rfl B.str_ boot_str (ua_c (ue_var 0) ua_nil))))
    us_nil)
   (us_cons (us_if (ub_val (ue_isi "str" call_isi_str rfl B.isinstance (ue_var 0) (pe_bltn (v := .ty "str") rfl B.str_ boot_str rfl)))
    (us_one (us_ret (ue_fm G23_ hr (ua_c (ue_var 0) ua_nil))))
    us_nil)
   (us_cons (us_if (ub_val (ue_isi "list" call_isi_list rfl B.isinstance (ue_var 0) (pe_bltn (v := .ty "list") rfl B.list_ boot_list rfl)))
    (us_one (us_ret (ue_op pu_addB (ue_op pu_addB ue_str (ue_bmS PySem.F.slot_str_join PySem.F.type_str_join pm_joinS ue_str (ua_c (ue_ul (ul_c0 (sc := defScope s24_) (XN := ["_law_value_here", "_law_rows"]) (N := ["_law_item"]) (fr := []) (ui_val (ue_var 0)) (fun _ _ _ _ _ => (ue_fm G24_ hr (ua_c (ue_var 0) ua_nil))))) ua_nil))) ue_str)))
    us_nil)
   (us_cons (us_c1 (sc := defScope s24_) (XN := ["_law_value_here", "_law_rows"]) (N := ["_law_name", "_law_value_here"]) (fr := [0]) 1 nd (ui_val (ue_ul (ul_callB (pu_sorted rfl) rfl B.sorted boot_sorted (ua_c (ue_ul (ul_callTy (pu_listD rfl) rfl B.list_ boot_list (ua_c (ue_var 0) ua_nil))) ua_nil)))) (fun _ _ _ _ _ => uf_nil) (fun _ _ _ _ _ => (ue_op pu_addB (ue_op pu_addB (ue_fm G23_ hr (ua_c (ue_var 0) ua_nil)) ue_str) (ue_fm G24_ hr (ua_c (ue_x hr (ue_var 1) (ue_var 0)) ua_nil)))))
   (us_one (us_ret (ue_op pu_addB (ue_op pu_addB ue_str (ue_bmS PySem.F.slot_str_join PySem.F.type_str_join pm_joinS ue_str (ua_c (ue_var 1) ua_nil))) ue_str)))))))))) (fun as R q => ?_)
 obtain ⟨T, rfl, h, n5, ⟨m0, L, hm, hL, lw⟩, q⟩ := q
 rcases VW.six h with rfl | ⟨b, rfl⟩ | ⟨i, rfl⟩ | ⟨s, rfl⟩ | ⟨xs, rfl⟩ | ⟨kts, rfl⟩
 ·exact ⟨rfl, _, rfl, iteT q⟩
 ·refine ⟨rfl, _, rfl, iteF ⟨_, rfl, iteT ⟨by simp, ?_⟩⟩⟩
  cases b
  ·exact ⟨_, rfl, q⟩
  ·exact ⟨_, rfl, q⟩
 ·have hi : -(10 ^ 62) < i /\ i < 10 ^ 62 := h
  exact ⟨rfl, _, rfl, iteF ⟨_, rfl, iteF ⟨_, rfl, iteT ⟨i, rfl, log_num (by omega), q⟩⟩⟩⟩
 ·have hs : Sg s /\ s.length <= 50 := h
  exact ⟨rfl, _, rfl, iteF ⟨_, rfl, iteF ⟨_, rfl, iteF ⟨_, rfl, iteT ⟨s, rfl, by omega, q⟩⟩⟩⟩⟩
 ·have hh : xs.length <= 11 /\ ∀ x ∈ xs, VW n x := h
  refine ⟨rfl, _, rfl, iteF ⟨_, rfl, iteF ⟨_, rfl, iteF ⟨_, rfl, iteF ⟨_, rfl, iteT ?_⟩⟩⟩⟩⟩
  have jb : ∀ s ∈ xs.map (wrT n), s.length <= L := fun s hs => by
   obtain ⟨x, hx, rfl⟩ := List.mem_map.mp hs
   exact hL x hx
  have jl := join_len ", " (xs.map (wrT n)) L jb
  have c2 : (", " : Str).length = 2 := rfl
  rw [List.length_map, c2] at jl
  have m : xs.length * (L + 2) <= m0 * (L + 106) := Nat.mul_le_mul hm (by omega)
  refine ⟨rfl, by omega, compT_map (fun x => sT (wrT n x)) (fun x hx R q => ⟨x, rfl, hh.2 x hx, by omega, LenK.kid (hh.2 x hx) (by omega), q⟩) ⟨", ", xs.map (wrT n), rfl, by rw [List.map_map]; rfl, ⟨L, jb, by rw [List.length_map, c2]; omega⟩, ?_⟩⟩
  refine ⟨?_, ?_, q⟩
  ·show 1 + _ <= 10000000; omega
  ·rw [str_app_len]; show 1 + _ + 1 <= 10000000; omega
 ·have hh : (kts.map (·.1)).Nodup /\ kts.length <= 11 /\ ∀ kt ∈ kts, (Sg kt.1 /\ kt.1.length <= 50) /\ VW n kt.2 := h
  refine ⟨rfl, _, rfl, iteF ⟨_, rfl, iteF ⟨_, rfl, iteF ⟨_, rfl, iteF ⟨_, rfl, iteF ?_⟩⟩⟩⟩⟩
  have jb : ∀ s ∈ (namesOf kts).map (fun x => quoT x ++ ": " ++ wrT n ((lookD kts x).getD nT)), s.length <= L + 104 := row_lenL hh.1 hh.2.2 fun kt hk => hL kt.2 (List.mem_map.mpr ⟨kt, hk, rfl⟩)
  have jl := join_len ", " ((namesOf kts).map fun x => quoT x ++ ": " ++ wrT n ((lookD kts x).getD nT)) (L + 104) jb
  have c2 : (", " : Str).length = 2 := rfl
  rw [List.length_map, names_len, c2] at jl
  have m : kts.length * (L + 104 + 2) <= m0 * (L + 106) := Nat.mul_le_mul hm (by omega)
  refine ⟨kts, rfl, .inr (.inl ⟨kts.map (·.1), by rw [List.map_map]; rfl, by rw [List.length_map]; omega, ?_⟩)⟩
  show (((namesOf kts).map sT).length <= 100000 /\ _)
  refine ⟨by rw [List.length_map, names_len]; omega, compT_of sT (fun x => sT (quoT x ++ ": " ++ wrT n ((lookD kts x).getD nT))) (fun x hx R q => ?_) ⟨rfl, ", ", (namesOf kts).map fun x => quoT x ++ ": " ++ wrT n ((lookD kts x).getD nT), rfl, by rw [List.map_map]; rfl, ⟨L + 104, jb, by rw [List.length_map, names_len, c2]; omega⟩, ?_⟩⟩
  ·obtain ⟨d, hd, rfl⟩ := List.mem_map.mp (names_mem.mp hx)
   have lk := lookD_of hh.1 (show (d.1, d.2) ∈ kts from hd)
   have q1 := quo_len d.1
   have q2 := (hh.2.2 d hd).1.2
   have q3 : (wrT n d.2).length <= L := hL d.2 (List.mem_map.mpr ⟨d, hd, rfl⟩)
   have b1 : 1 * (L + 106) <= 9000000 := Nat.le_trans (Nat.mul_le_mul_right _ (Nat.le_trans (List.length_pos_of_mem hd) hm)) lw
   rw [lk] at q
   refine ⟨d.1, rfl, by omega, ?_, _, lk, d.2, rfl, (hh.2.2 d hd).2, by omega, LenK.kid (hh.2.2 d hd).2 (by omega), ?_, q⟩
   ·show _ + 2 <= 10000000; omega
   ·rw [str_app_len]; show _ + 2 + _ <= 10000000; omega
  ·refine ⟨?_, ?_, q⟩
   ·show 1 + _ <= 10000000; omega
   ·rw [str_app_len]; show 1 + _ + 1 <= 10000000; omega
theorem g_writes (h : Has K mg "_law_written" s24_) (B : Own mg) (Gx : PGood P w K mg base 1 "_law_quoted" ["_law_text_here"] ptQuo) : ∀ n : Nat, PGood P w K mg base (2 + n) "_law_written" ["_law_value_here"] (ptShowC n)
 | 0 => h.pg1 ["_law_value_here", "_law_rows"] (fun nd hr => us_never) fun as R ⟨_, _, h, _⟩ => False.elim h
 | n + 1 => g24_ h B Gx (g_writes h B Gx n)
theorem wr_lenC {n : Nat} {T : Tv} (h : VW (n + 1) T) {m L : Nat} (hm : cntT T <= m) (hL : ∀ x ∈ kidsT T, (wrT n x).length <= L) : (wrT (n + 1) T).length <= m * (L + 106) + 120 := by
 rcases VW.six h with rfl | ⟨b, rfl⟩ | ⟨i, rfl⟩ | ⟨s, rfl⟩ | ⟨xs, rfl⟩ | ⟨kts, rfl⟩
 ·show (7 : Nat) <= _; omega
 ·cases b
  ·show (2 : Nat) <= _; omega
  ·show (3 : Nat) <= _; omega
 ·have h : -(10 ^ 62) < i /\ i < 10 ^ 62 := h
  have := (int_sg i (by omega)).2
  show (Str.ofString (toString i)).length <= _
  omega
 ·have := quo_len s
  have h : Sg s /\ s.length <= 50 := h
  show (quoT s).length <= _
  omega
 ·have j := join_len ", " (xs.map (wrT n)) L fun s hs => by
   obtain ⟨x, hx, rfl⟩ := List.mem_map.mp hs
   exact hL x hx
  rw [List.length_map] at j
  have m' : xs.length * (L + 2) <= m * (L + 106) := Nat.mul_le_mul hm (by omega)
  show ("[" ++ Str.join ", " (xs.map (wrT n)) ++ "]" : Str).length <= _
  rw [str_app_len, str_app_len]
  have j : (Str.join ", " (xs.map (wrT n))).length <= xs.length * (L + 2) := j
  show 1 + _ + 1 <= _
  omega
 ·have hh : (kts.map (·.1)).Nodup /\ kts.length <= 11 /\ ∀ kt ∈ kts, (Sg kt.1 /\ kt.1.length <= 50) /\ VW n kt.2 := h
  have j := join_len ", " _ (L + 104) (row_lenL hh.1 hh.2.2 fun kt hk => hL kt.2 (List.mem_map.mpr ⟨kt, hk, rfl⟩))
  rw [List.length_map, names_len] at j
  have m' : kts.length * (L + 104 + 2) <= m * (L + 106) := Nat.mul_le_mul hm (by omega)
  show ("{" ++ Str.join ", " ((namesOf kts).map fun x => quoT x ++ ": " ++ wrT n ((lookD kts x).getD nT)) ++ "}" : Str).length <= _
  rw [str_app_len, str_app_len]
  have j : (Str.join ", " ((namesOf kts).map fun x => quoT x ++ ": " ++ wrT n ((lookD kts x).getD nT))).length <= kts.length * (L + 104 + 2) := j
  show 1 + _ + 1 <= _
  omega
end
end My
namespace My
open PySem L2 PyProof.Rows WordM
section
variable {P : Program} {w : World} {K : PySem.W.Frag} {mg : Str -> Option Value} {base : Heap} {C : Addr}
variable {n : Nat}
theorem eqs_strs (ss : List Str) : eqTs (ss.map sT) (ss.map sT) = true := by
 induction ss with
 | nil => simp [eqTs]
 | cons s ss ih => rw [List.map_cons, eqTs, ih, eqT_str]; simp
theorem no_false {α : Type} (xs : List α) : ((xs.map fun _ => bT true).any fun U => L2.eqT U (bT false)) = false := by
 rw [Bool.eq_false_iff]
 intro z
 obtain ⟨U, hU, e⟩ := List.any_eq_true.mp z
 obtain ⟨_, _, rfl⟩ := List.mem_map.mp hU
 simp [L2.eqT, eqV] at e
theorem inok_tr {α : Type} (xs : List α) : InOk (bT false) (xs.map fun _ => bT true) := ⟨trivial, fun U hU => by
 obtain ⟨_, _, rfl⟩ := List.mem_map.mp hU
 trivial⟩
theorem zip_nrm (f : Tv -> Tv) (xs : List Tv) : List.zipWith (fun T U => Tv.seq true [T, U]) (xs.map f) xs = xs.map fun x => .seq true [f x, x] := by
 induction xs with
 | nil => rfl
 | cons x xs ih => rw [List.map_cons, List.zipWith_cons_cons, ih]; rfl
theorem eqV_self {s : Str} : (false != eqV (.str s) (.str s)) = true := by simp [eqV]
theorem eqV_selfI {i : Int} : (false != eqV (.int i) (.int i)) = true := by simp [eqV]
theorem eqV_selfB {b : Bool} : (false != eqV (.bl b) (.bl b)) = true := by simp [eqV]
def ptSameN (n : Nat) : PSp := fun as R => ∃ T : Tv, as = [.va (nrm n T), .va T] /\ VW n T /\ R (bT true)
theorem nrm_keys (n : Nat) (kts : List (Str × Tv)) : ((namesOf kts).map fun x => (x, nrm n ((lookD kts x).getD nT))).map (·.1) = namesOf kts := by
 rw [List.map_map]
 exact List.map_id _
theorem nrm_nd {kts : List (Str × Tv)} (h : (kts.map (·.1)).Nodup) : (namesOf kts).Nodup := (sortS_perm _).nodup_iff.mpr h
theorem nrm_names (n : Nat) {kts : List (Str × Tv)} (h : (kts.map (·.1)).Nodup) : namesOf ((namesOf kts).map fun x => (x, nrm n ((lookD kts x).getD nT))) = namesOf kts :=
 names_eq (by rw [nrm_keys]; exact nrm_nd h) h (by rw [List.length_map, names_len]) fun e he => by
  obtain ⟨x, hx, rfl⟩ := List.mem_map.mp he
  exact names_mem.mp hx
theorem g22_ (h : Has K mg "_law_same" s22_) (B : Own mg) (G22_ : PGood P w K mg base (1 + n) "_law_same" ["_law_one", "_law_other"] (ptSameN n))   : PGood P w K mg base (1 + n + 1) "_law_same" ["_law_one", "_law_other"] (ptSameN (n + 1)) := by
 refine h.pg2 ["_law_one", "_law_other"] (fun nd hr =>
   (us_cons (us_if (ub_w (uw_or (ub_val (ue_isi "bool" call_isi_bool rfl B.isinstance (ue_var 0) (pe_bltn (v := .ty "bool") rfl B.bool_ boot_bool rfl))) (uw_or1 (ub_val (ue_isi "bool" call_isi_bool rfl B.isinstance (ue_var 1) (pe_bltn (v := .ty "bool") rfl B.bool_ boot_bool rfl))))))
    (us_one (us_ret (ue_and (ue_isi "bool" call_isi_bool rfl B.isinstance (ue_var 0) (pe_bltn (v := .ty "bool") rfl B.bool_ boot_bool rfl)) (ue_and (ue_isi "bool" call_isi_bool rfl B.isinstance (ue_var 1) (pe_bltn (v := .ty "bool") rfl B.bool_ boot_bool rfl)) (ue_one (ue_cp (pu_eq hr.units).op (ue_var 0) (ue_var 1)))))))
    us_nil)
   (us_cons (us_if (ub_w (uw_or (ub_val (ue_isi "int" call_isi_int rfl B.isinstance (ue_var 0) (pe_bltn (v := .ty "int") rfl B.int_ boot_int rfl))) (uw_or1 (ub_val (ue_isi "int" call_isi_int rfl B.isinstance (ue_var 1) (pe_bltn (v := .ty "int") rfl B.int_ boot_int rfl))))))
    (us_one (us_ret (ue_and (ue_isi "int" call_isi_int rfl B.isinstance (ue_var 0) (pe_bltn (v := .ty "int") rfl B.int_ boot_int rfl)) (ue_and (ue_isi "int" call_isi_int rfl B.isinstance (ue_var 1) (pe_bltn (v := .ty "int") rfl B.int_ boot_int rfl)) (ue_one (ue_cp (pu_eq hr.units).op (ue_var 0) (ue_var 1)))))))
    us_nil)
   (us_cons (us_if (ub_w (uw_or (ub_val (ue_isi "str" call_isi_str rfl B.isinstance (ue_var 0) (pe_bltn (v := .ty "str") rfl B.str_ boot_str rfl))) (uw_or1 (ub_val (ue_isi "str" call_isi_str rfl B.isinstance (ue_var 1) (pe_bltn (v := .ty "str") rfl B.str_ boot_str rfl))))))
    (us_one (us_ret (ue_and (ue_isi "str" call_isi_str rfl B.isinstance (ue_var 0) (pe_bltn (v := .ty "str") rfl B.str_ boot_str rfl)) (ue_and (ue_isi "str" call_isi_str rfl B.isinstance (ue_var 1) (pe_bltn (v := .ty "str") rfl B.str_ boot_str rfl)) (ue_one (ue_cp (pu_eq hr.units).op (ue_var 0) (ue_var 1)))))))
    us_nil)
   (us_cons (us_if (ub_w (uw_or (ub_cp pu_is (ue_var 0) ue_non) (uw_or1 (ub_cp pu_is (ue_var 1) ue_non))))
    (us_one (us_ret (ue_and (ue_cp (pu_is).op (ue_var 0) ue_non) (ue_one (ue_cp (pu_is).op (ue_var 1) ue_non)))))
    us_nil)
   (us_cons (us_if (ub_w (uw_or (ub_val (ue_isi "dict" call_isi_dict rfl B.isinstance (ue_var 0) (pe_bltn (v := .ty "dict") rfl B.dict_ boot_dict rfl))) (uw_or1 (ub_val (ue_isi "dict" call_isi_dict rfl B.isinstance (ue_var 1) (pe_bltn (v := .ty "dict") rfl B.dict_ boot_dict rfl))))))
    (us_cons (us_if (ub_w (uw_or (ub_not (ub_val (ue_isi "dict" call_isi_dict rfl B.isinstance (ue_var 0) (pe_bltn (v := .ty "dict") rfl B.dict_ boot_dict rfl)))) (uw_or (ub_not (ub_val (ue_isi "dict" call_isi_dict rfl B.isinstance (ue_var 1) (pe_bltn (v := .ty "dict") rfl B.dict_ boot_dict rfl)))) (uw_or1 (ub_n hr (ue_ul (ul_callB (pu_sorted rfl) rfl B.sorted boot_sorted (ua_c (ue_var 0) ua_nil))) (ue_ul (ul_callB (pu_sorted rfl) rfl B.sorted boot_sorted (ua_c (ue_var 1) ua_nil))))))))
     (us_one (us_ret ue_bl))
     us_nil)
    (us_one (us_ret (ue_cp (pu_notin hr.units).op ue_bl (ue_ul (ul_c0 (sc := defScope s22_) (XN := ["_law_one", "_law_other"]) (N := ["_law_name", "_law_one", "_law_other"]) (fr := [0, 1]) (ui_val (ue_var 0)) (fun _ _ _ _ _ => (ue_fm G22_ hr (ua_c (ue_x hr (ue_var 1) (ue_var 0)) (ua_c (ue_x hr (ue_var 2) (ue_var 0)) ua_nil)))))) rfl))))
    us_nil)
   (us_cons (us_if (ub_w (uw_or (ub_n hr (ue_isi "list" call_isi_list rfl B.isinstance (ue_var 0) (pe_bltn (v := .ty "list") rfl B.list_ boot_list rfl)) (ue_isi "list" call_isi_list rfl B.isinstance (ue_var 1) (pe_bltn (v := .ty "list") rfl B.list_ boot_list rfl))) (uw_or1 (ub_n hr (ue_isi "tuple" call_isi_tuple rfl B.isinstance (ue_var 0) (pe_bltn (v := .ty "tuple") rfl B.tuple_ boot_tuple rfl)) (ue_isi "tuple" call_isi_tuple rfl B.isinstance (ue_var 1) (pe_bltn (v := .ty "tuple") rfl B.tuple_ boot_tuple rfl))))))
    (us_one (us_ret ue_bl))
    us_nil)
   (us_one (us_ret (ue_and (ue_cp (pu_eq hr.units).op (ue_callB pu_len rfl B.len PySem.boot_len (ua_c (ue_var 0) ua_nil)) (ue_callB pu_len rfl B.len PySem.boot_len (ua_c (ue_var 1) ua_nil))) (ue_one (ue_cp (pu_notin hr.units).op ue_bl (ue_ul (ul_comp (sc := defScope s22_) (XN := ["_law_one", "_law_other"]) (N := ["_law_a", "_law_b"]) (own := 2) (fr := []) rfl ⟨rfl, by decide +kernel, by decide +kernel, by decide +kernel, rfl, by decide +kernel, by decide, by decide +kernel⟩ (by decide) (ui_zip rfl B.zip (ua_c (ue_var 0) (ua_c (ue_var 1) ua_nil))) (fun _ _ _ _ _ => (ug_tup 2 rfl (ugs_cons (ug_name 0 (by decide) (show (["_law_a", "_law_b"] : List Str).Nodup by decide +kernel) rfl (by first | exact Or.inl rfl | exact Or.inr rfl)) (ugs_cons (ug_name 1 (by decide) (show (["_law_a", "_law_b"] : List Str).Nodup by decide +kernel) rfl (by first | exact Or.inl rfl | exact Or.inr rfl)) ugs_nil)))) (fun _ _ _ _ _ => uf_nil) (fun _ _ _ _ _ => (ue_fm G22_ hr (ua_c (ue_var 0) (ua_c (ue_var 1) ua_nil)))))) rfl)))))))))))) (fun as R q => ?_)
 obtain ⟨T, rfl, h, q⟩ := q
 rcases VW.six h with rfl | ⟨b, rfl⟩ | ⟨i, rfl⟩ | ⟨s, rfl⟩ | ⟨xs, rfl⟩ | ⟨kts, rfl⟩
 ·exact ⟨rfl, _, rfl, iteF ⟨_, rfl, iteF ⟨_, rfl, iteF ⟨_, rfl, iteF ⟨_, rfl, iteF ⟨_, rfl, iteF ⟨_, rfl, iteT (iteT ⟨_, rfl, iteT q⟩)⟩⟩⟩⟩⟩⟩⟩
 ·rw [<- eqV_selfB (b := b)] at q
  exact ⟨rfl, _, rfl, iteT (iteT ⟨_, rfl, iteT ⟨_, rfl, iteT q⟩⟩)⟩
 ·rw [<- eqV_selfI (i := i)] at q
  exact ⟨rfl, _, rfl, iteF ⟨_, rfl, iteF ⟨_, rfl, iteT (iteT ⟨_, rfl, iteT ⟨_, rfl, iteT q⟩⟩)⟩⟩⟩
 ·rw [<- eqV_self (s := s)] at q
  exact ⟨rfl, _, rfl, iteF ⟨_, rfl, iteF ⟨_, rfl, iteF ⟨_, rfl, iteF ⟨_, rfl, iteT (iteT ⟨_, rfl, iteT ⟨_, rfl, iteT q⟩⟩)⟩⟩⟩⟩⟩
 ·have hh : xs.length <= 11 /\ ∀ x ∈ xs, VW n x := h
  refine ⟨rfl, _, rfl, iteF ⟨_, rfl, iteF ⟨_, rfl, iteF ⟨_, rfl, iteF ⟨_, rfl, iteF ⟨_, rfl, iteF ⟨_, rfl, iteF ⟨_, rfl, iteF ⟨_, rfl, iteF ⟨_, rfl, iteF ⟨_, rfl, iteF ⟨_, rfl, iteF ⟨_, rfl, sifI (fun _ => ⟨false, xs.map (nrm n), xs, rfl, ?_⟩) (fun z => absurd (by rw [List.length_map]) z)⟩⟩⟩⟩⟩⟩⟩⟩⟩⟩⟩⟩⟩
  rw [zip_nrm]
  refine ⟨by rw [List.length_map]; omega, compT_of (fun x => .seq true [nrm n x, x]) (fun x => bT true) (fun x hx R q => ⟨_, rfl, rfl, _, _, rfl, _, _, rfl, rfl, x, rfl, hh.2 x hx, q⟩) ⟨inok_tr xs, ?_⟩⟩
  rw [no_false]
  exact q
 ·have hh : (kts.map (·.1)).Nodup /\ kts.length <= 11 /\ ∀ kt ∈ kts, (Sg kt.1 /\ kt.1.length <= 50) /\ VW n kt.2 := h
  have nl := names_len kts
  refine ⟨rfl, _, rfl, iteF ⟨_, rfl, iteF ⟨_, rfl, iteF ⟨_, rfl, iteF ⟨_, rfl, iteF ⟨_, rfl, iteF ⟨_, rfl, iteF ⟨_, rfl, iteF ⟨_, rfl, iteT (iteT ⟨_, rfl, iteF ⟨_, rfl, iteF ?_⟩⟩)⟩⟩⟩⟩⟩⟩⟩⟩⟩
  refine .inr (.inr ⟨(namesOf kts).map fun x => (x, nrm n ((lookD kts x).getD nT)), rfl, .inr (.inr ⟨kts, rfl, .inr (.inr ⟨?_, ?_⟩), _, rfl, ?_⟩)⟩)
  ·intro U hU; obtain ⟨s, _, rfl⟩ := List.mem_map.mp hU; trivial
  ·intro U hU; obtain ⟨s, _, rfl⟩ := List.mem_map.mp hU; trivial
  rw [show sortS (List.map (fun x => x.fst) (List.map (fun x => (x, nrm n ((lookD kts x).getD nT))) (namesOf kts))) = sortS (kts.map (·.1)) from nrm_names n hh.1, eqs_strs]
  refine iteF ⟨by rw [List.length_map, List.length_map]; omega, ?_⟩
  refine compT_of (fun kt : Str × Tv => sT kt.1) (fun kt => bT true) (l := (namesOf kts).map fun x => (x, nrm n ((lookD kts x).getD nT))) (fun kt hk R q => ?_) ⟨inok_tr _, ?_⟩
  ·have nd : (((namesOf kts).map fun x => (x, nrm n ((lookD kts x).getD nT))).map (·.1)).Nodup := by rw [nrm_keys]; exact nrm_nd hh.1
   have lk := lookD_of nd (show (kt.1, kt.2) ∈ _ from hk)
   obtain ⟨x, hx, rfl⟩ := List.mem_map.mp hk
   obtain ⟨d, hd, rfl⟩ := List.mem_map.mp (names_mem.mp hx)
   have lk2 := lookD_of hh.1 (show (d.1, d.2) ∈ kts from hd)
   rw [lk2] at lk
   exact ⟨_, lk, _, lk2, d.2, rfl, (hh.2.2 d hd).2, q⟩
  ·rw [no_false]
   exact q
theorem g_sames (h : Has K mg "_law_same" s22_) (B : Own mg) : ∀ n : Nat, PGood P w K mg base (1 + n) "_law_same" ["_law_one", "_law_other"] (ptSameN n)
 | 0 => h.pg2 ["_law_one", "_law_other"] (fun nd hr => us_never) fun as R ⟨_, _, h, _⟩ => False.elim h
 | n + 1 => g22_ h B (g_sames h B n)
end
end My
namespace My
open PySem L2 PyProof.Rows WordM
section
variable {P : Program} {w : World} {K : PySem.W.Frag} {mg : Str -> Option Value} {base : Heap} {C : Addr}
variable {n : Nat}
def ptSamples : PSp := fun as R => ∃ nm tx st sp, ∃ many : Int, as = [.dk, .va (worldT nm tx st sp), .va (iT many)] /\ WorldOk nm tx st sp /\ 0 <= many /\ many <= 60 /\ ∀ Us : List Tv, (Us.length : Int) = many -> (∀ U ∈ Us, VD nm tx 4 U) -> R (.seq false Us)
theorem g21_ (h : Has K mg "_law_samples" s21_) (B : Own mg) (G11_ : PGood P w K mg base 2 "_law_take" ["_law_deck_here", "_law_most"] ptTake) (G20_ : PGood P w K mg base 14 "_law_value" ["_law_deck_here", "_law_world_here", "_law_deep", "_law_way"] (ptValue 4))   : PGood P w K mg base 15 "_law_samples" ["_law_deck_here", "_law_world_here", "_law_many"] ptSamples := by
 refine h.pg3 ["_law_deck_here", "_law_world_here", "_law_many", "_law_way", "_law_deep"] (fun nd hr =>
   (us_cons (us_s 3 nd (ue_x hr (ue_ul (ul_lst (ua_c ue_int (ua_c ue_int (ua_c ue_int (ua_c ue_int (ua_c ue_int (ua_c ue_int ua_nil)))))))) (ue_fm G11_ hr (ua_dk 0 (ua_c ue_int ua_nil)))))
   (us_cons (us_s 4 nd (ue_x hr (ue_ul (ul_lst (ua_c ue_int (ua_c ue_int (ua_c ue_int (ua_c ue_int ua_nil)))))) (ue_fm G11_ hr (ua_dk 0 (ua_c ue_int ua_nil)))))
   (us_one (us_ret (ue_ul (ul_c0 (sc := defScope s21_) (XN := ["_law_deck_here", "_law_world_here", "_law_many", "_law_way", "_law_deep"]) (N := ["_law_k", "_law_deck_here", "_law_world_here", "_law_way", "_law_deep"]) (fr := [0, 1, 3, 4]) (ui_range1 rfl B.range (ua_c (ue_var 2) ua_nil)) (fun _ _ _ _ _ => (ue_fm G20_ hr (ua_dk 1 (ua_c (ue_var 2) (ua_c (ue_var 4) (ua_c (ue_var 3) ua_nil))))))))))))) (fun as R q => ?_)
 obtain ⟨nm, tx, st, sp, many, rfl, hw, m0, m6, q⟩ := q
 refine ⟨rfl, by simp, rfl, 6, rfl, by decide, big_of (by decide) (by decide), fun r r0 r1 => ?_⟩
 obtain ⟨W, hW, hWm⟩ := menu (l := [iT 9, iT 9, iT 1, iT 5, iT 7, iT 8]) r0 r1
 have hw' : ∃ d : Int, W = iT d /\ 0 <= d /\ d <= 9 := by
  simp only [List.mem_cons, List.not_mem_nil, or_false] at hWm
  rcases hWm with e | e | e | e | e | e <;> subst e <;> exact ⟨_, rfl, by decide, by decide⟩
 obtain ⟨way, rfl, w0, w9⟩ := hw'
 refine ⟨_, hW, by simp, rfl, 4, rfl, by decide, big_of (by decide) (by decide), fun c c0 c1 => ?_⟩
 obtain ⟨D, hD, hDm⟩ := menu (l := [iT 2, iT 2, iT 1, iT 3]) c0 c1
 have hd' : ∃ d : Int, D = iT d /\ 0 <= d /\ d < 4 := by
  simp only [List.mem_cons, List.not_mem_nil, or_false] at hDm
  rcases hDm with e | e | e | e <;> subst e <;> exact ⟨_, rfl, by decide, by decide⟩
 obtain ⟨d, rfl, d0, d1⟩ := hd'
 refine ⟨_, hD, _, rfl, by omega, by omega, by rw [rngT_len]; omega, compT_rel (fun T U => VD nm tx 4 U) (fun T hT R hR => ⟨rfl, nm, tx, st, sp, d, way, rfl, hw, d0, by omega, w0, w9, fun U hU => hR U hU⟩) (fun Us hUs => ?_)⟩
 refine q Us ?_ (paired_all (g := VD nm tx 4) (fun a b h => h) hUs)
 have := hUs.length
 rw [rngT_len] at this
 omega
end
section
variable {P : Program} {w : World} {K : PySem.W.Frag} {mg : Str -> Option Value} {base : Heap} {C : Addr}
theorem VD.vw {nm tx : List Str} {st sp : Int} (hw : WorldOk nm tx st sp) : ∀ {n : Nat} {T : Tv}, VD nm tx n T -> VW n T
 | 0, _, h => False.elim h
 | n + 1, T, h => by
  cases T with
  | leaf v =>
   cases v with
   | non => trivial
   | bl b => trivial
   | int i => exact ⟨by have := h.1; omega, by have := h.2; omega⟩
   | str s => exact ⟨(hw.ts s h).1, by have := (hw.ts s h).2; omega⟩
   | _ => exact False.elim h
  | seq t xs => cases t with
   | false => exact ⟨h.1, fun x hx => VD.vw hw (h.2 x hx)⟩
   | true => exact False.elim h
  | dct kts => exact ⟨h.1, h.2.1, fun kt hk => ⟨⟨(hw.ns _ (h.2.2 kt hk).1).1, by have := (hw.ns _ (h.2.2 kt hk).1).2; omega⟩, VD.vw hw (h.2.2 kt hk).2⟩⟩
def ptRight : PSp := fun as R => ∃ (T : Tv), as = [.va T] /\ VW 5 T /\ LenK 5 T /\ R (bT true)
theorem g25_ (h : Has K mg "_law_read_right" s25_) (B : Own mg) (G24_ : PGood P w K mg base 7 "_law_written" ["_law_value_here"] (ptShowC 5)) (G8_ : NGood P w K mg base 22 "read_value" ["text"] (pvVal 5)) (G22_ : PGood P w K mg base 6 "_law_same" ["_law_one", "_law_other"] (ptSameN 5))   : PGood P w K mg base 23 "_law_read_right" ["_law_value_here"] ptRight := by
 refine h.pg1 ["_law_value_here", "_law_text_here", "_law_again", "_law_found"] (fun nd hr =>
   (us_cons (us_s 1 nd (ue_fm G24_ hr (ua_c (ue_var 0) ua_nil)))
   (us_cons (us_if (ub_cp pu_gt (ue_callB pu_lenB rfl B.len PySem.boot_len (ua_c (ue_var 1) ua_nil)) ue_int)
    (us_one (us_ret ue_bl))
    us_nil)
   (us_cons (us_for (m := 4) PassesOwn.never rfl (ui_range1 rfl B.range (ua_c ue_int ua_nil)) (ug_name 2 (by decide) nd rfl (.inl rfl))
    (us_cons (us_setN (i := 3) nd rfl (.inl rfl) (une_fn G8_ (hr.mono (by omega)) rfl (ua_c (ue_var 1) ua_nil)))
    (us_cons (us_if (ub_peek fun F => (ub_not (ub_val (ue_fm G22_ hr (ua_c (ue_var 3) (ua_c (ue_var 0) ua_nil))))))
     (us_one (us_ret ue_bl))
     us_nil)
    (us_cons (us_if (ub_peek fun F => (ub_val (ue_isi "list" call_isi_list rfl B.isinstance (ue_var 3) (pe_bltn (v := .ty "list") rfl B.list_ boot_list rfl))))
     (us_one (us_expr (ue_append 3 ue_str)))
     us_nil)
    (us_one (us_if (ub_peek fun F => (ub_val (ue_isi "dict" call_isi_dict rfl B.isinstance (ue_var 3) (pe_bltn (v := .ty "dict") rfl B.dict_ boot_dict rfl))))
     (us_one (us_expr (ue_clearD 3)))
     us_nil))))))
   (us_one (us_ret ue_bl)))))) (fun as R q => ?_)
 obtain ⟨T, rfl, hT, hc, q⟩ := q
 have lt : (wrT 5 T).length <= 9500000 := by
  obtain ⟨m, L, h1, h2, h3⟩ := hc
  have : (wrT 5 T).length <= m * (L + 106) + 120 := wr_lenC (n := 4) hT h1 h2
  omega
 refine ⟨rfl, T, rfl, hT, by decide, hc, by omega, _, rfl, sifd (fun _ => q) (fun z => ?_)⟩
 have l4 : (wrT 5 T).length <= 4000 := by omega
 refine ⟨2, rfl, by decide, by decide, ?_⟩
 refine forT_inv (fun i ρ => ∃ s2 s3 : Sl, ρ = [.va T, .va (sT (wrT 5 T)), s2, s3]) ⟨_, _, rfl⟩ ?_ ?_
 ·rintro i U _ N hU ⟨s2, s3, rfl⟩ hN
  refine ⟨T, rfl, hT, l4, ?_⟩
  clear hc lt l4 z
  generalize sT (wrT 5 T) = X at hN
  rcases VW.six hT with rfl | ⟨b, rfl⟩ | ⟨i, rfl⟩ | ⟨s, rfl⟩ | ⟨xs, rfl⟩ | ⟨kts, rfl⟩
  ·exact ⟨_, rfl, hT, _, rfl, iteF ⟨_, rfl, iteF ⟨_, rfl, iteF (hN _ ⟨_, _, rfl⟩)⟩⟩⟩
  ·exact ⟨_, rfl, hT, _, rfl, iteF ⟨_, rfl, iteF ⟨_, rfl, iteF (hN _ ⟨_, _, rfl⟩)⟩⟩⟩
  ·exact ⟨_, rfl, hT, _, rfl, iteF ⟨_, rfl, iteF ⟨_, rfl, iteF (hN _ ⟨_, _, rfl⟩)⟩⟩⟩
  ·exact ⟨_, rfl, hT, _, rfl, iteF ⟨_, rfl, iteF ⟨_, rfl, iteF (hN _ ⟨_, _, rfl⟩)⟩⟩⟩
  ·have hh : xs.length <= 11 /\ ∀ x ∈ xs, VW 4 x := hT
   exact ⟨_, rfl, hT, _, rfl, iteF ⟨_, rfl, iteT ⟨⟨_, rfl⟩, _, rfl, by rw [List.length_map]; omega, _, rfl, iteF (hN _ ⟨_, _, rfl⟩)⟩⟩⟩
  ·exact ⟨_, rfl, hT, _, rfl, iteF ⟨_, rfl, iteF ⟨_, rfl, iteT ⟨_, rfl, hN _ ⟨_, _, rfl⟩⟩⟩⟩⟩
 ·rintro _ ⟨s2, s3, rfl⟩
  exact q
theorem at_any {L : List Tv} {i : Int} (h0 : -(L.length : Int) <= i) (h1 : i < L.length) : ∃ U ∈ L, atI L i = some U := by
 unfold atI ixN
 by_cases h : 0 <= i
 ·rw [if_pos h, if_pos h1]
  exact ⟨_, List.getElem_mem (by omega : i.toNat < L.length), List.getElem?_eq_getElem _⟩
 ·rw [if_neg h, if_pos h0]
  exact ⟨_, List.getElem_mem (by omega : (i + L.length).toNat < L.length), List.getElem?_eq_getElem _⟩
theorem LenK.four {T : Tv} (h : VW 4 T) : VW 5 T /\ LenK 5 T := ⟨h.le (by decide), 11, Lw 3, cnt_le h, fun x hx => by
 have v : VW 3 x := kid_vw h hx
 show (wrT 4 x).length <= _
 rw [wr_up v]
 exact wr_len v, by decide⟩
theorem C26_ : FnScope ["_law_script", "_law_deck_here", "_law_world_here", "_law_values", "_law_k", "_law_names", "_law_value_here"] ["_law_script"] (defScope s26_) := fsc (by decide +kernel)
theorem ok_law {f : Addr} {fd : FuncData} (F : Fun K "law" "law" s26_ f fd) (B : Own mg) (G10_ : Good P w K mg base 1 "_law_deck" ["_law_script"] (spDeck K)) (G16_ : PGood P w K mg base 5 "_law_world" ["_law_deck_here"] ptWorld) (G21_ : PGood P w K mg base 15 "_law_samples" ["_law_deck_here", "_law_world_here", "_law_many"] ptSamples) (G25_ : PGood P w K mg base 23 "_law_read_right" ["_law_value_here"] ptRight)   : FnOk P w K mg base CX0 24 f fd ["_law_script"] (spLaw K) := by
 refine F.ok C26_ (fun vs H Q E q => ?_) (fun cdv A outer s H vs Q E hr q => ?_)
 ·obtain ⟨a, ns, rfl, _⟩ := q
  rfl
 ·obtain ⟨aa, ns, rfl, hS, hlen, q⟩ := q
  have nd := C26_.nd
  refine ⟨_, (pss_cons (ps_set (i := 1) nd rfl (by first | exact Or.inl rfl | exact Or.inr rfl) (pe_fn G10_ (hr.mono (by omega)) rfl (pa_c (pv 0) pa_nil)))
   (pss_any fun F => (us_cons (us_s 2 nd (ue_fm G16_ hr (ua_dk 1 ua_nil)))
   (us_cons (us_s 3 nd (ue_op pu_add (ue_fm G21_ hr (ua_dk 1 (ua_c (ue_var 2) (ua_c ue_int ua_nil)))) (ue_ul (ul_lst (ua_c ue_str (ua_c (ue_ul (ul_lst ua_nil)) (ua_c (ue_ud ud_nil) (ua_c (ue_un pu_neg ue_int) (ua_c ue_int ua_nil)))))))))
   (us_cons (us_for (m := 7) PassesOwn.never rfl (ui_range1 rfl B.range (ua_c (ue_callB pu_len rfl B.len PySem.boot_len (ua_c (ue_var 3) ua_nil)) ua_nil)) (ug_name 4 (by decide) nd rfl (.inl rfl))
    (us_cons (us_s 5 nd (ue_ud (ud_two (ue_x hr (ue_x hr (ue_var 2) ue_int) ue_int) (ue_x hr (ue_var 3) (ue_var 4)) (ue_x hr (ue_x hr (ue_var 2) ue_int) ue_int) (ue_x hr (ue_var 3) (ue_op pu_sub (ue_var 4) ue_int)))))
    (us_one (us_for (m := 7) PassesOwn.never rfl (ui_val (ue_ul (ul_lst (ua_c (ue_x hr (ue_var 3) (ue_var 4)) (ua_c (ue_ul (ul_lst (ua_c (ue_x hr (ue_var 3) (ue_var 4)) (ua_c (ue_x hr (ue_var 3) (ue_op pu_sub (ue_var 4) ue_int)) ua_nil)))) (ua_c (ue_var 5) ua_nil)))))) (ug_name 6 (by decide) nd rfl (.inl rfl))
     (us_one (us_if (ub_not (ub_val (ue_fm G25_ hr (ua_c (ue_var 6) ua_nil))))
      (us_one (us_ret ue_bl))
      us_nil))))))
   (us_one (us_ret ue_bl))))))), ?_⟩
  refine ⟨_, rfl, aa, ns, rfl, hS, fun p c H1 np nc d1 s1 => ?_⟩
  refine law_end (N := ["_law_script", "_law_deck_here", "_law_world_here", "_law_values", "_law_k", "_law_names", "_law_value_here"]) (by decide) d1 q ?_
  clear q hS hlen hr d1 s1 np nc
  refine ⟨rfl, rfl, fun nm tx st sp hw => ?_⟩
  refine ⟨rfl, nm, tx, st, sp, 6, rfl, hw, by decide, by decide, fun Us ul uv => ?_⟩
  refine ⟨by simp, by simp, ?_, ?_⟩
  ·show Us.length + 5 <= 100000; omega
  have all : ∀ V ∈ Us ++ [sT "", .seq false [], .dct [], iT (-1), iT 0], VW 4 V := fun V hV => by
   rcases List.mem_append.mp hV with z | z
   ·exact (uv V z).vw hw
   simp only [List.mem_cons, List.not_mem_nil, or_false] at z
   rcases z with rfl | rfl | rfl | rfl | rfl
   ·exact ⟨sg_nil, by decide⟩
   ·exact ⟨by decide, fun x hx => nomatch hx⟩
   ·exact ⟨by simp, by decide, fun x hx => nomatch hx⟩
   ·exact ⟨by decide, by decide⟩
   ·exact ⟨by decide, by decide⟩
  have lv : (Us ++ [sT "", .seq false [], .dct [], iT (-1), iT 0]).length = 11 := by rw [List.length_append]; show Us.length + 5 = 11; omega
  have lv' : 0 < Us.length + 5 := by omega
  generalize Us ++ [sT "", .seq false [], .dct [], iT (-1), iT 0] = Vs at all lv
  refine ⟨_, rfl, by rw [lv]; decide, by rw [lv]; decide, ?_⟩
  rw [lv]
  obtain ⟨x0, x1, rest, rfl⟩ : ∃ x0 x1 rest, nm = x0 :: x1 :: rest := by
   match nm, hw.n11 with
   | x0 :: x1 :: rest, _ => exact ⟨x0, x1, rest, rfl⟩
  have hne : x0 ≠ x1 := fun z => by
   have := hw.nd
   rw [z] at this
   simp at this
  refine forT_inv (fun i ρ => ∃ s4 s5 s6 : Sl, ρ = [.no, .dk, .va (worldT (x0 :: x1 :: rest) tx st sp), .va (.seq false Vs), s4, s5, s6]) ⟨_, _, _, rfl⟩ ?_ (fun _ _ => rfl)
  rintro i T _ N hT ⟨s4, s5, s6, rfl⟩ hN
  obtain ⟨hi, rfl⟩ := rngT_get hT
  obtain ⟨V1, m1, h1⟩ := at_any (L := Vs) (i := 0 + (i : Int)) (by omega) (by omega)
  obtain ⟨V2, m2, h2⟩ := at_any (L := Vs) (i := 0 + (i : Int) - 1) (by omega) (by omega)
  have v1 := all V1 m1
  have v2 := all V2 m2
  refine ⟨_, rfl, _, atI_nat (j := 0) rfl, x0, rfl, V1, h1, _, rfl, _, atI_nat (j := 1) rfl, x1, rfl, hne, V2, h2, ?_⟩
  refine ⟨V1, h1, V1, h1, V2, h2, by simp, by simp, ?_⟩
  refine forT_inv (fun j ρ => ∃ s6 : Sl, ρ = [.no, .dk, .va (worldT (x0 :: x1 :: rest) tx st sp), .va (.seq false Vs), .va (iT (0 + (i : Int))), .va (.dct [(x0, V1), (x1, V2)]), s6]) ⟨_, rfl⟩ ?_ ?_
  ·rintro j V _ N' hV ⟨s6, rfl⟩ hN'
   have hV := List.mem_of_getElem? hV
   have two : ∀ x ∈ [V1, V2], (wrT 4 x).length <= Lw 4 := fun x hx => by
    simp only [List.mem_cons, List.not_mem_nil, or_false] at hx
    rcases hx with rfl | rfl
    ·exact wr_len v1
    ·exact wr_len v2
   have ok : VW 5 V /\ LenK 5 V := by
    simp only [List.mem_cons, List.not_mem_nil, or_false] at hV
    rcases hV with rfl | rfl | rfl
    ·exact LenK.four v1
    ·refine ⟨⟨by simp, fun x hx => ?_⟩, 2, Lw 4, Nat.le_refl _, two, by decide⟩
     simp only [List.mem_cons, List.not_mem_nil, or_false] at hx
     rcases hx with rfl | rfl
     ·exact v1
     ·exact v2
    ·refine ⟨⟨by simpa using hne, by simp, fun x hx => ?_⟩, 2, Lw 4, Nat.le_refl _, two, by decide⟩
     simp only [List.mem_cons, List.not_mem_nil, or_false] at hx
     rcases hx with rfl | rfl
     ·have hx := hw.ns x0 (List.mem_cons_self ..)
      exact ⟨⟨hx.1, show x0.length <= 50 by have := hx.2; omega⟩, v1⟩
     ·have hx := hw.ns x1 (List.mem_cons_of_mem _ (List.mem_cons_self ..))
      exact ⟨⟨hx.1, show x1.length <= 50 by have := hx.2; omega⟩, v2⟩
   exact ⟨V, rfl, ok.1, ok.2, _, rfl, iteF (hN' _ ⟨_, rfl⟩)⟩
  ·rintro _ ⟨s6, rfl⟩
   exact hN _ ⟨_, _, _, rfl⟩
end
end My
namespace My
open PySem L2 PyProof.Rows
open WordM
open PySem
theorem all_mk {l : PySem.W.OpenLaw} {w : World} {K : PySem.W.Frag} {h : Heap} {mg : Str -> Option Value} {fa : Addr} (X : K.In h) (G : h.Ns mainGlobals mg) (hfa : mg "law" = some (.ref fa)) {f26 : Addr} {v_26 t_26 : Option Addr} {p_26 : Array (Option Value)} {u_26 w_26 x_26 y_26 r_26 q_26 : Value}
 (h0_ : Has K mg "is_sign" s0_)
 (h1_ : Has K mg "is_text" s1_)
 (h2_ : Has K mg "read_whole" s2_)
 (h3_ : Has K mg "rises" s3_)
 (h4_ : Has K mg "list_read" s4_)
 (h5_ : Has K mg "named_read" s5_)
 (h6_ : Has K mg "dict_read" s6_)
 (h7_ : Has K mg "value_read" s7_)
 (h8_ : Has K mg "read_value" s8_)
 (h9_ : Has K mg "_law_mixed" s9_)
 (h10_ : Has K mg "_law_deck" s10_)
 (h11_ : Has K mg "_law_take" s11_)
 (h12_ : Has K mg "_law_signs" s12_)
 (h13_ : Has K mg "_law_text" s13_)
 (h14_ : Has K mg "_law_unlike" s14_)
 (h15_ : Has K mg "_law_far" s15_)
 (h16_ : Has K mg "_law_world" s16_)
 (h17_ : Has K mg "_law_number" s17_)
 (h18_ : Has K mg "_law_leaf" s18_)
 (h19_ : Has K mg "_law_dict" s19_)
 (h20_ : Has K mg "_law_value" s20_)
 (h21_ : Has K mg "_law_samples" s21_)
 (h22_ : Has K mg "_law_same" s22_)
 (h23_ : Has K mg "_law_quoted" s23_)
 (h24_ : Has K mg "_law_written" s24_)
 (h25_ : Has K mg "_law_read_right" s25_)
 (a26 : PySem.W.nsIn K mainGlobals "law" = some (some (.ref f26))) (l26 : K.lookup f26 = some ⟨u_26, v_26, .func (PySem.W.fnOf "law" "law" (defArgs s26_) (defBody s26_) (defScope s26_) .none w_26 x_26 y_26 t_26 r_26 q_26), p_26⟩) (c26 : PySem.W.codeIn K r_26 "law" = true) (k26 : PySem.W.keepIn K (.ref f26) = true)
    (z0 : PySem.W.nsIn K mainGlobals "len" = some none) (z1 : PySem.W.nsIn K mainGlobals "range" = some none) (z2 : PySem.W.nsIn K mainGlobals "isinstance" = some none) (z3 : PySem.W.nsIn K mainGlobals "int" = some none) (z4 : PySem.W.nsIn K mainGlobals "bool" = some none) (z5 : PySem.W.nsIn K mainGlobals "str" = some none) (z6 : PySem.W.nsIn K mainGlobals "list" = some none) (z7 : PySem.W.nsIn K mainGlobals "tuple" = some none) (z8 : PySem.W.nsIn K mainGlobals "dict" = some none) (z9 : PySem.W.nsIn K mainGlobals "sum" = some none) (z10 : PySem.W.nsIn K mainGlobals "min" = some none) (z11 : PySem.W.nsIn K mainGlobals "max" = some none) (z12 : PySem.W.nsIn K mainGlobals "all" = some none) (z13 : PySem.W.nsIn K mainGlobals "any" = some none) (z14 : PySem.W.nsIn K mainGlobals "abs" = some none) (z15 : PySem.W.nsIn K mainGlobals "zip" = some none) (z16 : PySem.W.nsIn K mainGlobals "sorted" = some none) (z17 : PySem.W.nsIn K mainGlobals "set" = some none) (z18 : PySem.W.nsIn K mainGlobals "enumerate" = some none) {tkP : Tok} {aReader rf0 rf1 rf2 rf3 rf4 rf5 rf6 : Addr} {rod0 ran0 rod1 ran1 rod2 ran2 rod3 ran3 rod4 ran4 rod5 ran5 rod6 ran6 : Option Addr} {rsl0 rsl1 rsl2 rsl3 rsl4 rsl5 rsl6 : Array (Option Value)} {roc0 rkV0 rdc0 rpm0 rcd0 rct0 roc1 rkV1 rdc1 rpm1 rcd1 rct1 roc2 rkV2 rdc2 rpm2 rcd2 rct2 roc3 rkV3 rdc3 rpm3 rcd3 rct3 roc4 rkV4 rdc4 rpm4 rcd4 rct4 roc5 rkV5 rdc5 rpm5 rcd5 rct5 roc6 rkV6 rdc6 rpm6 rcd6 rct6 : Value}
    (aPC : PySem.W.nsIn K mainGlobals "PERCENT" = some (some (.int 37 tkP)))
    (zo : PySem.W.nsIn K mainGlobals "ord" = some none)
    (aRd : PySem.W.nsIn K mainGlobals "Reader" = some (some (.ref aReader)))
    (rpg : PySem.W.plainGet K aReader Str.empty = true)
    (rhd : PySem.W.hasDictIn K aReader = true)
    (rpo : PySem.W.plainOver K aReader = true)
    (rsa : PySem.W.findIn K (.ref aReader) "__setattr__" = some (some (.builtin "object.__setattr__")))
    (rmk : PySem.W.makesIn K aReader = true)
    (rkc : PySem.W.keepIn K (.ref aReader) = true)
    (rnT : PySem.W.findIn K (.ref aReader) "text" = some none)
    (rnP : PySem.W.findIn K (.ref aReader) "place" = some none)
    (ra0 : PySem.W.findIn K (.ref aReader) "__init__" = some (some (.ref rf0)))
    (ri0 : PySem.W.isFn K (.ref rf0) = true)
    (rl0 : K.lookup rf0 = some ⟨roc0, rod0, .func (PySem.W.fnOf "__init__" "Reader.__init__" (defArgs sm___init__) (defBody sm___init__) (defScope sm___init__) .none rkV0 rdc0 rpm0 ran0 rcd0 rct0), rsl0⟩)
    (rc0 : PySem.W.codeIn K rcd0 "Reader.__init__" = true)
    (rk0 : PySem.W.keepIn K (.ref rf0) = true)
    (ra1 : PySem.W.findIn K (.ref aReader) "sees" = some (some (.ref rf1)))
    (ri1 : PySem.W.isFn K (.ref rf1) = true)
    (rl1 : K.lookup rf1 = some ⟨roc1, rod1, .func (PySem.W.fnOf "sees" "Reader.sees" (defArgs sm_sees) (defBody sm_sees) (defScope sm_sees) .none rkV1 rdc1 rpm1 ran1 rcd1 rct1), rsl1⟩)
    (rc1 : PySem.W.codeIn K rcd1 "Reader.sees" = true)
    (rk1 : PySem.W.keepIn K (.ref rf1) = true)
    (ra2 : PySem.W.findIn K (.ref aReader) "passes" = some (some (.ref rf2)))
    (ri2 : PySem.W.isFn K (.ref rf2) = true)
    (rl2 : K.lookup rf2 = some ⟨roc2, rod2, .func (PySem.W.fnOf "passes" "Reader.passes" (defArgs sm_passes) (defBody sm_passes) (defScope sm_passes) .none rkV2 rdc2 rpm2 ran2 rcd2 rct2), rsl2⟩)
    (rc2 : PySem.W.codeIn K rcd2 "Reader.passes" = true)
    (rk2 : PySem.W.keepIn K (.ref rf2) = true)
    (ra3 : PySem.W.findIn K (.ref aReader) "needs" = some (some (.ref rf3)))
    (ri3 : PySem.W.isFn K (.ref rf3) = true)
    (rl3 : K.lookup rf3 = some ⟨roc3, rod3, .func (PySem.W.fnOf "needs" "Reader.needs" (defArgs sm_needs) (defBody sm_needs) (defScope sm_needs) .none rkV3 rdc3 rpm3 ran3 rcd3 rct3), rsl3⟩)
    (rc3 : PySem.W.codeIn K rcd3 "Reader.needs" = true)
    (rk3 : PySem.W.keepIn K (.ref rf3) = true)
    (ra4 : PySem.W.findIn K (.ref aReader) "needs_end" = some (some (.ref rf4)))
    (ri4 : PySem.W.isFn K (.ref rf4) = true)
    (rl4 : K.lookup rf4 = some ⟨roc4, rod4, .func (PySem.W.fnOf "needs_end" "Reader.needs_end" (defArgs sm_needs_end) (defBody sm_needs_end) (defScope sm_needs_end) .none rkV4 rdc4 rpm4 ran4 rcd4 rct4), rsl4⟩)
    (rc4 : PySem.W.codeIn K rcd4 "Reader.needs_end" = true)
    (rk4 : PySem.W.keepIn K (.ref rf4) = true)
    (ra5 : PySem.W.findIn K (.ref aReader) "read_number" = some (some (.ref rf5)))
    (ri5 : PySem.W.isFn K (.ref rf5) = true)
    (rl5 : K.lookup rf5 = some ⟨roc5, rod5, .func (PySem.W.fnOf "read_number" "Reader.read_number" (defArgs sm_read_number) (defBody sm_read_number) (defScope sm_read_number) .none rkV5 rdc5 rpm5 ran5 rcd5 rct5), rsl5⟩)
    (rc5 : PySem.W.codeIn K rcd5 "Reader.read_number" = true)
    (rk5 : PySem.W.keepIn K (.ref rf5) = true)
    (ra6 : PySem.W.findIn K (.ref aReader) "read_quoted" = some (some (.ref rf6)))
    (ri6 : PySem.W.isFn K (.ref rf6) = true)
    (rl6 : K.lookup rf6 = some ⟨roc6, rod6, .func (PySem.W.fnOf "read_quoted" "Reader.read_quoted" (defArgs sm_read_quoted) (defBody sm_read_quoted) (defScope sm_read_quoted) .none rkV6 rdc6 rpm6 ran6 rcd6 rct6), rsl6⟩)
    (rc6 : PySem.W.codeIn K rcd6 "Reader.read_quoted" = true)
    (rk6 : PySem.W.keepIn K (.ref rf6) = true) :
    ∃ fd : FuncData, (∀ (s : Shared) (v : Value), BindsTo s fd ⟨[v], []⟩ [("_law_script", v)]) /\ ∀ base : Heap, K.In base -> base.Ns mainGlobals mg -> FnOk l.prog w K mg base CX0 24 fa fd ["_law_script"] (spLaw K) := by
  have e := hfa.symm.trans (PySem.W.mg_of X G a26)
  cases e
  have B : Own mg := own_mk X G z0 z1 z2 z3 z4 z5 z6 z7 z8 z9 z10 z11 z12 z13 z14 z15 z16 z17 z18
  refine ⟨PySem.W.fnOf "law" "law" (defArgs s26_) (defBody s26_) (defScope s26_) .none w_26 x_26 y_26 t_26 r_26 q_26, fun s v => .of_eq rfl, fun base KB GB => ?_⟩
  have GPERCENT : GlobT K mg "PERCENT" (iT 37) := ⟨.int 37, _, PySem.W.mg_of X G aPC, ⟨_, rfl⟩, fun H => .flat rfl⟩
  have Bord : mg "ord" = none := PySem.W.mg_none_of X G zo
  have hC : RdK K aReader := ⟨⟨rpg, rhd, rpo, rsa⟩, rnT, rnP⟩
  have MK : MkR l.prog w K mg base 1 "Reader" aReader := mk_reader (fun_mk (st := sm___init__) rl0 rc0 rk0) hC ⟨rmk, ra0, ri0, rkc⟩ (PySem.W.mg_of X G aRd)
  have Hsees : HasM K aReader "sees" "Reader.sees" sm_sees := ⟨rf1, _, fun_mk (st := sm_sees) rl1 rc1 rk1, ra1, ri1, rk1⟩
  have Hpasses : HasM K aReader "passes" "Reader.passes" sm_passes := ⟨rf2, _, fun_mk (st := sm_passes) rl2 rc2 rk2, ra2, ri2, rk2⟩
  have Hneeds : HasM K aReader "needs" "Reader.needs" sm_needs := ⟨rf3, _, fun_mk (st := sm_needs) rl3 rc3 rk3, ra3, ri3, rk3⟩
  have Hneeds_end : HasM K aReader "needs_end" "Reader.needs_end" sm_needs_end := ⟨rf4, _, fun_mk (st := sm_needs_end) rl4 rc4 rk4, ra4, ri4, rk4⟩
  have Hread_number : HasM K aReader "read_number" "Reader.read_number" sm_read_number := ⟨rf5, _, fun_mk (st := sm_read_number) rl5 rc5 rk5, ra5, ri5, rk5⟩
  have Hread_quoted : HasM K aReader "read_quoted" "Reader.read_quoted" sm_read_quoted := ⟨rf6, _, fun_mk (st := sm_read_quoted) rl6 rc6 rk6, ra6, ri6, rk6⟩
  have Msees := m_sees (P := l.prog) (w := w) (mg := mg) (base := base) Hsees B hC
  have Mpasses := m_passes Hpasses B hC Msees
  have Mneeds := m_needs Hneeds B hC Mpasses
  have Mneeds_end := m_needs_end (P := l.prog) (w := w) (mg := mg) (base := base) Hneeds_end B hC
  have Mread_number := m_read_number Hread_number B hC Mpasses
  have Mread_quoted := m_read_quoted Hread_quoted B hC Mneeds Mpasses
  have G11_ : PGood l.prog w K mg base 2 "_law_take" ["_law_deck_here", "_law_most"] ptTake := Good.take (g_take h11_ (g_mixed h9_))
  have G12_ : PGood l.prog w K mg base 1 "_law_signs" [] ptSigns := g12_ h12_ B 
  have G13_ : PGood l.prog w K mg base 3 "_law_text" ["_law_deck_here", "_law_most"] ptText := g13_ h13_ B G12_ G11_
  have G14_ : PGood l.prog w K mg base 4 "_law_unlike" ["_law_deck_here", "_law_many", "_law_most"] ptUnlike := g14_ h14_ B G12_ G13_
  have G15_ : PGood l.prog w K mg base 3 "_law_far" ["_law_deck_here"] ptFar := g15_ h15_ B G11_
  have G16_ : PGood l.prog w K mg base 5 "_law_world" ["_law_deck_here"] ptWorld := g16_ h16_ B G11_ G14_ G13_ G15_
  have G17_ : PGood l.prog w K mg base 4 "_law_number" ["_law_deck_here", "_law_world_here"] ptNumber := g17_ h17_ B G11_ G15_
  have G18_ : PGood l.prog w K mg base 5 "_law_leaf" ["_law_deck_here", "_law_world_here"] ptLeaf := g18_ h18_ B G11_ G17_
  have G20_ : PGood l.prog w K mg base 14 "_law_value" ["_law_deck_here", "_law_world_here", "_law_deep", "_law_way"] (ptValue 4) := g_values h20_ h19_ B G11_ G18_ 4
  have G3_ : PGood l.prog w K mg base 1 "rises" ["things"] ptRise := g3_ h3_ B 
  have G0_ : PGood l.prog w K mg base 1 "is_sign" ["sign"] ptSign := g0_ h0_ B GPERCENT Bord
  have G1_ : PGood l.prog w K mg base 2 "is_text" ["thing"] ptIsText := g1_ h1_ B G0_
  have G23_ : PGood l.prog w K mg base 1 "_law_quoted" ["_law_text_here"] ptQuo := g23_ h23_ B 
  have G24_ : PGood l.prog w K mg base 7 "_law_written" ["_law_value_here"] (ptShowC 5) := g_writes h24_ B G23_ 5
  have G22_ : PGood l.prog w K mg base 6 "_law_same" ["_law_one", "_law_other"] (ptSameN 5) := g_sames h22_ B 5
  have G21_ : PGood l.prog w K mg base 15 "_law_samples" ["_law_deck_here", "_law_world_here", "_law_many"] ptSamples := g21_ h21_ B G11_ G20_
  obtain ⟨fv, _, _, mv⟩ := id h7_
  have Gv := g_vreads h7_ h4_ h6_ h5_ B hC Msees Mpasses Mneeds Mread_quoted Mread_number G3_ 5
  have Gw := g2_ h2_ B hC MK Mneeds_end G1_ Gv mv
  have G8_ : NGood l.prog w K mg base 22 "read_value" ["text"] (pvVal 5) := g8_ (n := 5) h8_ B Gw mv
  have G25_ : PGood l.prog w K mg base 23 "_law_read_right" ["_law_value_here"] ptRight := g25_ h25_ B G24_ G8_ G22_
  exact ok_law (fun_mk (st := s26_) l26 c26 k26) B (g_deck h10_ B) G16_ G21_ G25_ 
theorem walk {l : PySem.W.OpenLaw} {q : Program} {loose : List Str} {XP : (Str -> Option Value) -> Heap -> Prop} {YP : World -> Heap -> Prop} {d : DefRec} {K : Params -> PySem.W.Frag} (hn : l.most = some 63) (hdf : d.params.defaults = [])
  (hY : ∀ (w : World) (h : Heap), YP w h -> (K w.params).In h)
  (F : ∀ (w : World) (mg : Str -> Option Value) (fa : Addr) (h : Heap), (K w.params).In h -> h.Ns mainGlobals mg -> mg d.name = some (.ref fa) ->
   ∃ fd : FuncData, (∀ (s : Shared) (u : Value), BindsTo s fd ⟨[u], []⟩ [("_law_script", u)]) /\ ∀ base : Heap, (K w.params).In base -> base.Ns mainGlobals mg -> FnOk l.prog w (K w.params) mg base CX0 24 fa fd ["_law_script"] (spLaw (K w.params))) :
  PySem.W.WalkO q loose XP YP l.row.toRowW d [] (fun f vs => PySem.call f vs) :=
 L2.walk_of (n := 63) (k := 24) (x := "_law_script") (CX := fun _ => CX0) (sp := fun w => spLaw (K w.params)) hn (by decide) hdf ⟨rfl, by decide, by decide, rfl⟩ hY F (fun _ _ a ns hl _ hS => ⟨a, ns, rfl, hS, hl, fun _ => rfl⟩) fun _ _ _ _ _ z => z
end My
inductive PySem.W.Fast : Prop
|tw1440737731687657180
|tw2798493337636053184
|tw12334001088682961408
|tw13592463608951815680
|tw12694403099954435616
|tw7575239193835637344
|tw5026660994773160544
|tw4443645270133591680
|tw12115908764652391521
|tw10223827069050453537
|tw15905196972980466305
|tw1002630074858115170
|tw3608814232099811618
|tw9648873881886445538
|tw3569498054419350851
|tw3639432499199404132
|tw9461462062075759812
|tw13354166476062816804
|tw12771859744682848804
|tw7347621759744649669
|tw15477571901868816869
|tw4139987293324138085
|tw9005243835444324229
|tw4508078294479926149
|tw18054573869497839078
|tw8365272416329512678
|tw8378681717934897030
|tw6225068794694926791
|tw8981819710491793128
|tw12636342067252575080
|tw17713267938301306792
|tw16450757107590172809
|tw9096310111778268393
|tw1311264211102453257
|tw13933048097608223337
|tw13138585936116967049
|tw6633149006328582025
|tw3527641871424163434
|tw1954186781995130827
|tw6678796551478357293
|tw4772543262823167373
|tw12527764708912878509
|tw3474256602494106158
|tw14211875984522287790
|tw10897920827467557646
|tw6256335630745233166
|tw5238143305427346254
|tw3048341136135948431
|tw5152881495066752431
|tw1967219136282436464
|tw11788173692589003921
|tw3696830134774449329
|tw15167375595540605361
|tw11983843895526131153
|tw14161673034128164401
|tw1195272753526657905
|tw17439632804031521745
|tw17883524086851448915
|tw8197804274413830323
|tw3583779179531727155
|tw4983697687476464051
|tw8853615135366172820
|tw9767797465221157172
|tw10203967507272394292
|tw2100607368050042836
|tw14724949938805688853
|tw1991516393918188405
|tw1806009323109418358
|tw7467616623843361654
|tw14981503911989578967
|tw11901979416265187480
|tw10549899719096561944
|tw12913109450408620089
|tw9866100936973763897
|tw719671044024231897
|tw11359960468380022777
|tw18016499841870954682
|tw10765584358676826330
|tw18319070953156399418
|tw5837324544537961818
|tw15662600874564266522
|tw9106026866062087162
|tw14759166670971935835
|tw10326683516861125243
|tw6724365766191032380
|tw16336832202367249757
|tw24996902300579581
|tw13670361931392043773
|tw6525822025902324638
|tw865197953657611230
|tw4641345467065216255
|tw3008105582890766847
|tw14514587141581075039
|tw18298717259795496831
open PySem PySem.W PyProof.Rows
set_option maxRecDepth 100000 in
set_option maxHeartbeats 0 in
theorem PySem.Challenge.cw_leastform_k79_values_read_holds : PySem.Challenge.rw_leastform_k79_values_read.Holds := by
 w_on; o_law; k_head; (case hw => w_witness2)
 k_fill
 refine My.walk (l := PySem.Challenge.rw_leastform_k79_values_read) rfl rfl (fun w h Y => PySem.W.kIn_of Y) ?F
 case F =>
  intro w mg fa h KX G hmg
  refine' My.all_mk KX G hmg (L2.has_mk KX G ?a0 ?l0 ?c0 ?k0) (L2.has_mk KX G ?a1 ?l1 ?c1 ?k1) (L2.has_mk KX G ?a2 ?l2 ?c2 ?k2) (L2.has_mk KX G ?a3 ?l3 ?c3 ?k3) (L2.has_mk KX G ?a4 ?l4 ?c4 ?k4) (L2.has_mk KX G ?a5 ?l5 ?c5 ?k5) (L2.has_mk KX G ?a6 ?l6 ?c6 ?k6) (L2.has_mk KX G ?a7 ?l7 ?c7 ?k7) (L2.has_mk KX G ?a8 ?l8 ?c8 ?k8) (L2.has_mk KX G ?a9 ?l9 ?c9 ?k9) (L2.has_mk KX G ?a10 ?l10 ?c10 ?k10) (L2.has_mk KX G ?a11 ?l11 ?c11 ?k11) (L2.has_mk KX G ?a12 ?l12 ?c12 ?k12) (L2.has_mk KX G ?a13 ?l13 ?c13 ?k13) (L2.has_mk KX G ?a14 ?l14 ?c14 ?k14) (L2.has_mk KX G ?a15 ?l15 ?c15 ?k15) (L2.has_mk KX G ?a16 ?l16 ?c16 ?k16) (L2.has_mk KX G ?a17 ?l17 ?c17 ?k17) (L2.has_mk KX G ?a18 ?l18 ?c18 ?k18) (L2.has_mk KX G ?a19 ?l19 ?c19 ?k19) (L2.has_mk KX G ?a20 ?l20 ?c20 ?k20) (L2.has_mk KX G ?a21 ?l21 ?c21 ?k21) (L2.has_mk KX G ?a22 ?l22 ?c22 ?k22) (L2.has_mk KX G ?a23 ?l23 ?c23 ?k23) (L2.has_mk KX G ?a24 ?l24 ?c24 ?k24) (L2.has_mk KX G ?a25 ?l25 ?c25 ?k25) ?a26 ?l26 ?c26 ?k26 ?z0 ?z1 ?z2 ?z3 ?z4 ?z5 ?z6 ?z7 ?z8 ?z9 ?z10 ?z11 ?z12 ?z13 ?z14 ?z15 ?z16 ?z17 ?z18 ?aPC ?zo ?aRd ?rpg ?rhd ?rpo ?rsa ?rmk ?rkc ?rnT ?rnP ?ra0 ?ri0 ?rl0 ?rc0 ?rk0 ?ra1 ?ri1 ?rl1 ?rc1 ?rk1 ?ra2 ?ri2 ?rl2 ?rc2 ?rk2 ?ra3 ?ri3 ?rl3 ?rc3 ?rk3 ?ra4 ?ri4 ?rl4 ?rc4 ?rk4 ?ra5 ?ri5 ?rl5 ?rc5 ?rk5 ?ra6 ?ri6 ?rl6 ?rc6 ?rk6
  any_goals k_is
