import PyProof.Rows.All
import Wide.All
import OpenK.AllK
import Wide.FinOn
import Lean
import PyProof.EqAt
import PyProof.EqKinds
import PyProof.TupleCall
import PyProof.NeKinds
import PyProof.IsiTupleOf
import PyProof.IsiHeapPairs
import PyProof.IsiPairs
import PyProof.ConsumeWalk
import PyProof.Rows.SumAny
import PyProof.FitsBits
import PyProof.Rows.SeqMore
import PyProof.ZipIter
import PyProof.TupleIter
import PyProof.LongRange
import PyProof.Rows.Range3
import PyProof.Rows.SortWalk
import PyProof.Rows.SortStr
import PyProof.StrWalks
import PyProof.DictRoads
import PyProof.MeetsStr
import PyProof.Rows.StrNews2
import PyProof.StrLawsIn
import PyProof.StrLaws
import PyProof.Rows.CatFin
import PyProof.Rows.StrClose5
import PyProof.SetKind
import PyProof.Rows.SetFrom
import PyProof.Rows.StrInSeq
import PyProof.WalkLemmas
import PyProof.CollectWalk
import PyProof.Seq
import PyProof.ForAny
import PyProof.MakeMany
import PyProof.DictKinds
import PyProof.Rows.SortShell
import PyProof.StrOps2
import PyProof.ReprNest
import PyProof.CallFns
import PyProof.StrLawsRepr
import PyProof.FString5
import OpenK.KOwn
import KE.KIsAll
import PyProof.ExcArgsOwn
import KE.RegKIsAll
import PyProof.DictIter
import PyProof.DictItems
import PyProof.DictItemsLoops
import PyProof.DictWalks
import KE.KDictList
import KE.KMinKey
import PyProof.ListRange
import PyProof.Rows.CallKwBuiltin
import KE.KDictOf
import PyProof.AttrMissHeap
import PyProof.EnumMake
import PyProof.EnumFor
import PyProof.Rows.RuleB_bool
import KE.KEqDict
import PyProof.StrCalls6
import PyProof.StrLawsReplace
import PyProof.Rows.FStr
import PyProof.Rows.StrJoin2
import OpenK.KCls
import PyProof.ExcInit
import PyProof.InstStoreFacts
import PyProof.WalksMore
import PyProof.TupleOfStr
import KE.KUnpack
import PyProof.MaxThree
import KE.KSortTup
import PyProof.MeetsSeq2
import PyProof.FactsAll.set_2
import PyProof.FactsAll.subtypes_5
import KE.KRevIter
import KE.KIntText
import PyProof.Rows.StrDouble
import PySem.Challenge.RW_leastform_k35_refusals_made_by_hand
set_option Elab.async false
set_option linter.all false
set_option maxRecDepth 100000
set_option maxHeartbeats 4000000
namespace L2
open PySem PySem.Spec PyProof.Rows
abbrev Key := Sum Int Str
def keyIs : Key -> Value -> Bool
 | .inl k, v => Value.isInt k v
 | .inr x, v => Value.isStrOf x v
def keyH (w : World) : Key -> Int
 | .inl k => hashInt k
 | .inr x => hashStr w x
theorem keyIs_shape : ∀ {k : Key} {v : Value}, keyIs k v = true -> (∃ i t, k = Sum.inl i /\ v = Value.int i t) \/ (∃ x t, k = Sum.inr x /\ v = Value.str x t)
 | .inl i, v, h => by
  obtain ⟨t, e⟩ := Value.isInt_shape (k := i) (v := v) h
  exact .inl ⟨i, t, rfl, e⟩
 | .inr x, v, h => by
  obtain ⟨t, e⟩ := Value.isStrOf_shape (x := x) (v := v) h
  exact .inr ⟨x, t, rfl, e⟩
theorem keyIs_int (i : Int) (t : Tok) : keyIs (.inl i) (.int i t) = true := by simp [keyIs, Value.isInt]
theorem keyIs_str (x : Str) (t : Tok) : keyIs (.inr x) (.str x t) = true := by simp [keyIs, Value.isStrOf]
theorem key_ll (a b : Int) : decide ((Sum.inl a : Key) = Sum.inl b) = (a == b) := by
 by_cases e : a = b
 ·subst e; simp
 ·have h : ¬ (Sum.inl a : Key) = Sum.inl b := fun q => e (Sum.inl.inj q)
  rw [decide_eq_false h]
  exact (beq_eq_false_iff_ne.mpr e).symm
theorem key_rr (a b : Str) : decide ((Sum.inr a : Key) = Sum.inr b) = decide (a = b) := by
 by_cases e : a = b
 ·subst e; simp
 ·have h : ¬ (Sum.inr a : Key) = Sum.inr b := fun q => e (Sum.inr.inj q)
  rw [decide_eq_false h, decide_eq_false e]
theorem key_lr (a : Int) (b : Str) : decide ((Sum.inl a : Key) = Sum.inr b) = false := decide_eq_false (fun q => nomatch q)
theorem key_rl (a : Str) (b : Int) : decide ((Sum.inr a : Key) = Sum.inl b) = false := decide_eq_false (fun q => nomatch q)
def mixKind (prog : Program) (w : World) : PySem.KeyKind prog w Key where
 is := keyIs
 hash := keyH w
 inj := fun v a b ha hb => by
  rcases keyIs_shape ha with ⟨i, t, rfl, rfl⟩ | ⟨x, t, rfl, rfl⟩
  ·rcases keyIs_shape hb with ⟨j, u, rfl, e⟩ | ⟨y, u, rfl, e⟩
   ·injection e with e1 _; rw [e1]
   ·exact nomatch e
  ·rcases keyIs_shape hb with ⟨j, u, rfl, e⟩ | ⟨y, u, rfl, e⟩
   ·exact nomatch e
   ·injection e with e1 _; rw [e1]
 byValue := fun k v h => by
  rcases keyIs_shape h with ⟨i, t, rfl, rfl⟩ | ⟨x, t, rfl, rfl⟩ <;> rfl
 pyHash := fun hv h => by
  rcases keyIs_shape hv with ⟨i, t, rfl, rfl⟩ | ⟨x, t, rfl, rfl⟩
  ·exact wpAny_pyHash_int h
  ·exact wpAny_pyHash_str h
 eqBool := fun hu hv h => by
  rcases keyIs_shape hu with ⟨i, t, rfl, rfl⟩ | ⟨x, t, rfl, rfl⟩
  ·rcases keyIs_shape hv with ⟨j, u, rfl, rfl⟩ | ⟨y, u, rfl, rfl⟩
   ·rw [key_ll] at h; exact wpAny_eqBool_int h
   ·rw [key_lr] at h; exact SeqAt.EqAt.int_str i t y u _ _ _ _ h
  ·rcases keyIs_shape hv with ⟨j, u, rfl, rfl⟩ | ⟨y, u, rfl, rfl⟩
   ·rw [key_rl] at h; exact SeqAt.EqAt.str_int x t j u _ _ _ _ h
   ·rw [key_rr] at h; exact wpAny_eqBool_str h
 «strs» := fun k x t v h => by
  rcases keyIs_shape h with ⟨i, u, rfl, e⟩ | ⟨y, u, rfl, e⟩
  ·exact nomatch e
  ·injection e with e1 _
   subst e1
   cases v <;> rfl
theorem mixKind_int (prog : Program) (w : World) (i : Int) (t : Tok) : (mixKind prog w).is (.inl i) (.int i t) = true := keyIs_int i t
theorem mixKind_str (prog : Program) (w : World) (x : Str) (t : Tok) : (mixKind prog w).is (.inr x) (.str x t) = true := keyIs_str x t
end L2
namespace L2
open PySem PySem.Spec PyProof.Rows
inductive V where
 | non | bl (b : Bool) | int (i : Int) | str (x : Str) | byt (b : Array UInt8) | flt (b : UInt64) | ref (a : Addr) | ty (n : String)
 deriving DecidableEq
def RelV : V -> Value -> Prop
 | .non, u => u = Value.none
 | .bl b, u => u = Value.bool b
 | .int i, u => ∃ t, u = Value.int i t
 | .str x, u => ∃ t, u = Value.str x t
 | .byt b, u => ∃ t, u = Value.bytes b t
 | .flt b, u => ∃ t, u = Value.float b t
 | .ref a, u => u = Value.ref a
 | .ty n, u => u = Value.type n
abbrev Vals : List V -> List Value -> Prop := Paired RelV
theorem Vals.length {xs : List V} {us : List Value} (r : Vals xs us) : xs.length = us.length := Paired.length r
theorem Vals.get : ∀ {xs : List V} {us : List Value} {i : Nat} {x : V}, Vals xs us -> xs[i]? = some x -> ∃ u, us[i]? = some u /\ RelV x u
 | _, _, _, _, .nil, e => by simp at e
 | _, _, 0, _, .cons r _, e => by simp at e; subst e; exact ⟨_, rfl, r⟩
 | _, _, i + 1, x, .cons _ t, e => by
  obtain ⟨u, h1, h2⟩ := Vals.get (i := i) (x := x) t (by simpa using e)
  exact ⟨u, by simpa using h1, h2⟩
theorem Vals.set {x : V} {u : Value} (r : RelV x u) : ∀ {xs : List V} {us : List Value} (i : Nat), Vals xs us -> Vals (xs.set i x) (us.set i u)
 | _, _, _, .nil => .nil
 | _, _, 0, .cons _ t => .cons r t
 | _, _, i + 1, .cons q t => .cons q (Vals.set r i t)
theorem Vals.append : ∀ {xs ys : List V} {us ws : List Value}, Vals xs us -> Vals ys ws -> Vals (xs ++ ys) (us ++ ws)
 | _, _, _, _, .nil, s => s
 | _, _, _, _, .cons r t, s => .cons r (Vals.append t s)
theorem Vals.take : ∀ {xs : List V} {us : List Value} (n : Nat), Vals xs us -> Vals (xs.take n) (us.take n)
 | _, _, 0, _ => .nil
 | _, _, _ + 1, .nil => .nil
 | _, _, n + 1, .cons r t => .cons r (Vals.take n t)
theorem Vals.drop : ∀ {xs : List V} {us : List Value} (n : Nat), Vals xs us -> Vals (xs.drop n) (us.drop n)
 | _, _, 0, r => r
 | _, _, _ + 1, .nil => .nil
 | _, _, n + 1, .cons _ t => Vals.drop n t
def RelO : Option V -> Option Value -> Prop
 | some v, some u => RelV v u
 | none, none => True
 | _, _ => False
def KV {κ : Type} : List (κ × V) -> List (κ × Value) -> Prop := Paired fun (p : κ × V) (q : κ × Value) => p.1 = q.1 /\ RelV p.2 q.2
def kV : Key -> V
 | .inl i => .int i
 | .inr x => .str x
inductive HO where
 /-- a list -/
 | lst (xs : List V)
 /-- a tuple (never changes) -/
 | tup (xs : List V)
 /-- a dict whose keys are ints and texts; one whose keys are tuples of ints and texts (the empty one is both) -/
 | dK (kvs : List (Key × V)) | dT (kvs : List (List Key × V))
 /-- a set of ints: its members, its size -/
 | set (S : Int -> Bool) (n : Nat)
 /-- an instance of the class at C, its dict at dx, its attributes -/
 | ins (C dx : Addr) (fs : List (Str × V))
 /-- the dict of the instance at x -/
 | own (x : Addr)
 /-- the dict of an exception -/
 | xd (fs : List (Str × V))
 /-- a bound method, f of x -/
 | met (f x : Addr)
 /-- a range object lo, lo + 1, .. below hi -/
 | rng (lo hi : Int)
 /-- a thing that is known to the object (the script; a dict while a loop walks it): read, never written while it is so -/
 | frz (o : Obj) (u : HO)
 /-- a code object's table -/
 | tbl (ps : Array Value)
 /-- any other thing, by what is true of its one object (a def of one's own: SetO a S n := HO.ext fun h => ..) -/
 | ext (φ : Heap -> Prop)
abbrev Hp := Addr -> Option HO
def upd (H : Hp) (a : Addr) (o : HO) : Hp := fun b => if b = a then some o else H b
theorem upd_same {H : Hp} {a : Addr} {o : HO} : upd H a o a = some o := by unfold upd; rw [if_pos rfl]
theorem upd_ne {H : Hp} {a b : Addr} {o : HO} (h : b ≠ a) : upd H a o b = H b := by unfold upd; rw [if_neg h]
theorem ne_of_none {H : Hp} {a b : Addr} {o : HO} (h : H a = some o) (h' : H b = none) : a ≠ b := by
 intro e; subst e; rw [h] at h'; cases h'
section
variable (P : Program) (w : World)
def ObjOk (H : Hp) (h : Heap) (a : Addr) : HO -> Prop
 | .lst xs => xs.length <= sizeLine /\ ∃ (its : List Value) (n : Nat), Vals xs its /\ h.get? a = some { cls := .type "list", data := .seq its.toArray n }
 | .tup xs => xs.length <= sizeLine /\ ∃ its : List Value, Vals xs its /\ IsTup h a its.toArray
 | .dK kvs => kvs.length <= sizeLine /\ (a == sysModules) = false /\ ∃ vs, KV kvs vs /\ h.DictOf (mixKind P w) a vs
 | .dT kvs => kvs.length <= sizeLine /\ (a == sysModules) = false /\ ∃ xs : List (List Key × Addr × Value),
   Paired (fun (p : List Key × V) (q : List Key × Addr × Value) => p.1 = q.1 /\ H q.2.1 = some (.tup (p.1.map kV)) /\ RelV p.2 q.2.2) kvs xs /\
   ∃ o es ep, h.get? a = some o /\ o.ExactDict /\ o.data = .dict es ep /\ es.toList = xs.map (entryOfKey (tupleKind (mixKind P w))) /\ (xs.map (·.1)).Nodup
 | .set S n => h.SetOf (intKind P w) a S n
 | .ins C dx fs => H dx = some (.own a) /\ fs.length <= 1000 /\ dx ≠ a /\ h.get? a = some (PySem.W.instObj C dx) /\
   ∃ mA, h.Ns1 dx mA /\ (∀ f, RelO (fs.lookup f) (mA f)) /\ PySem.Within mA (fs.map (·.1))
 | .own _ => ∃ o, h.get? a = some o
 | .xd fs => ∃ mA, h.Ns1 a mA /\ ∀ f, RelO (fs.lookup f) (mA f)
 | .rng lo hi => ∃ t u v, h.get? a = some { cls := .type "range", data := .fields #[.int lo t, .int hi u, .int 1 v] }
 | .frz o u => h.get? a = some o /\ ObjOk H h a u
 | .tbl ps => h.get? a = some { cls := .none, data := .fields ps }
 | .met f x => h.get? a = some (PySem.W.methodObj (.ref f) (.ref x))
 | .ext φ => φ h /\ (∃ o, h.get? a = some o) /\ ∀ h1 h2 : Heap, φ h1 -> (∀ o, h1.get? a = some o -> h2.get? a = some o) -> φ h2
def HOk (H : Hp) (h : Heap) : Prop := ∀ a o, H a = some o -> ObjOk P w H h a o
end
section
variable {P : Program} {w : World} {H H' : Hp} {h h' : Heap} {a : Addr} {o : HO}
theorem ObjOk.lt (x : ObjOk P w H h a o) : a < h.objs.size := by
 cases o with
 | lst xs => obtain ⟨_, _, _, _, e⟩ := x; exact Heap.lt_size e
 | tup xs => obtain ⟨_, _, _, p⟩ := x; exact p.lt
 | dK kvs => obtain ⟨_, _, _, _, o, _, _, e, _⟩ := x; exact Heap.lt_size e
 | dT kvs => obtain ⟨_, _, _, _, o, _, _, e, _⟩ := x; exact Heap.lt_size e
 | set S n => obtain ⟨o, _, _, _, e, _⟩ := x; exact Heap.lt_size e
 | ins C dx fs => obtain ⟨_, _, _, e, _⟩ := x; exact Heap.lt_size e
 | own y => obtain ⟨_, e⟩ := x; exact Heap.lt_size e
 | xd fs => obtain ⟨_, ⟨_, _, _, e, _⟩, _⟩ := x; exact Heap.lt_size e
 | rng lo hi => obtain ⟨_, _, _, e⟩ := x; exact Heap.lt_size e
 | frz ob u => obtain ⟨e, _⟩ := x; exact Heap.lt_size e
 | tbl ps => exact Heap.lt_size (show h.get? a = some _ from x)
 | met f y => exact Heap.lt_size (show h.get? a = some _ from x)
 | ext φ => obtain ⟨_, ⟨_, e⟩, _⟩ := x; exact Heap.lt_size e
theorem Paired.mapP {α β : Type} {F G : α -> β -> Prop} : ∀ {l₁ : List α} {l₂ : List β}, Paired F l₁ l₂ -> (∀ a b, F a b -> G a b) -> Paired G l₁ l₂
 | _, _, .nil, _ => .nil
 | _, _, .cons r t, f => .cons (f _ _ r) (Paired.mapP t f)
theorem ObjOk.stay (x : ObjOk P w H h a o) (k : ∀ b u, (b = a \/ H b = some (.own a)) -> h.get? b = some u -> h'.get? b = some u)
  (ho : ∀ b, H b = some (.own a) -> H' b = some (.own a)) (ht : ∀ b xs, H b = some (.tup xs) -> H' b = some (.tup xs)) : ObjOk P w H' h' a o := by
 induction o with
 | lst xs => obtain ⟨z, its, n, r, e⟩ := x; exact ⟨z, its, n, r, k _ _ (.inl rfl) e⟩
 | tup xs => obtain ⟨z, its, r, ob, e, c⟩ := x; exact ⟨z, its, r, ob, k _ _ (.inl rfl) e, c⟩
 | dK kvs => obtain ⟨z, y, vs, r, ob, es, ep, e, c⟩ := x; exact ⟨z, y, vs, r, ob, es, ep, k _ _ (.inl rfl) e, c⟩
 | dT kvs =>
  obtain ⟨z, y, xs, r, ob, es, ep, e, c⟩ := x
  exact ⟨z, y, xs, Paired.mapP r fun p q z => ⟨z.1, ht _ _ z.2.1, z.2.2⟩, ob, es, ep, k _ _ (.inl rfl) e, c⟩
 | set S n => obtain ⟨ob, es, ep, t, e, c⟩ := x; exact ⟨ob, es, ep, t, k _ _ (.inl rfl) e, c⟩
 | ins C dx fs =>
  obtain ⟨d, z, ne, e, mA, ⟨od, es, ep, e2, c⟩, r⟩ := x
  exact ⟨ho _ d, z, ne, k _ _ (.inl rfl) e, mA, ⟨od, es, ep, k _ _ (.inr d) e2, c⟩, r⟩
 | own y => obtain ⟨ob, e⟩ := x; exact ⟨ob, k _ _ (.inl rfl) e⟩
 | xd fs => obtain ⟨mA, ⟨od, es, ep, e, c⟩, r⟩ := x; exact ⟨mA, ⟨od, es, ep, k _ _ (.inl rfl) e, c⟩, r⟩
 | rng lo hi => obtain ⟨t, u, v, e⟩ := x; exact ⟨t, u, v, k _ _ (.inl rfl) e⟩
 | frz ob u ih => obtain ⟨e, q⟩ := x; exact ⟨k _ _ (.inl rfl) e, ih q⟩
 | tbl ps =>
  have e : h.get? a = some { cls := .none, data := .fields ps } := x
  show h'.get? a = some { cls := .none, data := .fields ps }
  exact k a _ (.inl rfl) e
 | met f y =>
  have e : h.get? a = some (PySem.W.methodObj (.ref f) (.ref y)) := x
  show h'.get? a = some (PySem.W.methodObj (.ref f) (.ref y))
  exact k a _ (.inl rfl) e
 | ext φ => obtain ⟨p, ⟨o, e⟩, st⟩ := x; exact ⟨st _ _ p fun o q => k _ _ (.inl rfl) q, ⟨o, k _ _ (.inl rfl) e⟩, st⟩
theorem HOk.lt (x : HOk P w H h) (e : H a = some o) : a < h.objs.size := (x a o e).lt
theorem HOk.fresh (x : HOk P w H h) (e : h.objs.size <= a) : H a = none := by
 cases q : H a with
 | none => rfl
 | some u => exact absurd (Nat.lt_of_lt_of_le (x.lt q) e) (Nat.lt_irrefl _)
theorem HOk.kept (x : HOk P w H h) (k : ∀ b u, h.get? b = some u -> h'.get? b = some u) : HOk P w H h' := fun a o e =>
 (x a o e).stay (fun b u _ q => k b u q) (fun _ q => q) fun _ _ q => q
theorem HOk.laid (x : HOk P w H h) (k : ∀ b u, h.get? b = some u -> h'.get? b = some u) (hp : h.objs.size <= a) (new : ObjOk P w (upd H a o) h' a o) : HOk P w (upd H a o) h' := fun b u e => by
 have hn := x.fresh hp
 by_cases hb : b = a
 ·subst hb; rw [upd_same] at e; cases e; exact new
 ·rw [upd_ne hb] at e
  exact (x b u e).stay (fun c v _ q => k c v q) (fun c q => by rw [upd_ne (ne_of_none q hn)]; exact q) fun c xs q => by rw [upd_ne (ne_of_none q hn)]; exact q
end
def Rd (H : Hp) (a : Addr) (u : HO) : Prop := H a = some u \/ ∃ o, H a = some (.frz o u)
theorem Rd.ok {P : Program} {w : World} {H : Hp} {h : Heap} {a : Addr} {u : HO} (r : Rd H a u) (x : HOk P w H h) : ObjOk P w H h a u := by
 rcases r with r | ⟨o, r⟩
 ·exact x a u r
 ·obtain ⟨_, q⟩ := x a _ r
  exact q
def Mut : Option HO -> Prop
 | some (.lst _) => True
 | some (.dK _) => True
 | some (.dT _) => True
 | some (.set _ _) => True
 | some (.ins _ _ _) => True
 | some (.ext _) => True
 | _ => False
section
variable {P : Program} {w : World} {H : Hp} {h h' : Heap} {x e : Addr} {o' : HO}
theorem HOk.write (ok : HOk P w H h) (mu : Mut (H x)) (he : e = x \/ H e = some (.own x)) (k : ∀ b u, b ≠ e -> h.get? b = some u -> h'.get? b = some u) (heo : ∃ u, h'.get? e = some u)
  (new : ObjOk P w (upd H x o') h' x o') : HOk P w (upd H x o') h' := fun b u q => by
 have nown : ∀ c y, H c = some (.own y) -> c ≠ x := fun c y r z => by subst z; rw [r] at mu; exact mu
 have ntup : ∀ c xs, H c = some (.tup xs) -> c ≠ x := fun c xs r z => by subst z; rw [r] at mu; exact mu
 by_cases hb : b = x
 ·subst hb; rw [upd_same] at q; cases q; exact new
 ·rw [upd_ne hb] at q
  by_cases hbe : b = e
  ·have q' : H b = some (.own x) := by
    rcases he with z | z
    ·exact absurd (hbe.trans z) hb
    ·rw [hbe]; exact z
   rw [q] at q'; cases q'
   obtain ⟨v, hv⟩ := heo
   exact ⟨v, by rw [hbe]; exact hv⟩
  ·refine (ok b u q).stay (fun c v hc r => k c v ?_ r) (fun c r => by rw [upd_ne (nown c b r)]; exact r) fun c xs r => by rw [upd_ne (ntup c xs r)]; exact r
   rcases hc with rfl | hc
   ·exact hbe
   ·rintro rfl
    rcases he with z | z
    ·exact nown c b hc z
    ·rw [hc] at z; cases z; exact hb rfl
end
structure Un (fs ex : List Addr) (H H' : Hp) (h h' : Heap) : Prop where
 keep : ∀ b o, h.get? b = some o -> H b = none -> b ∉ fs -> b ∉ ex -> h'.get? b = some o
 slot : ∀ b o, h.get? b = some o -> H b = none -> b ∈ fs -> b ∉ ex -> ∃ sl, h'.get? b = some { o with slots := sl }
 free : ∀ b o, h.get? b = some o -> H b = none -> b ∉ ex -> H' b = none
 there : ∀ b o, h.get? b = some o -> b ∉ ex -> ∃ o', h'.get? b = some o'
 tups : ∀ b xs, H b = some (.tup xs) -> H' b = some (.tup xs)
 frzs : ∀ b o u, H b = some (.frz o u) -> H' b = some (.frz o u)
 tbls : ∀ b ps, H b = some (.tbl ps) -> ∃ more, H' b = some (.tbl (ps ++ more))
section
variable {fs fs' ex ex' : List Addr} {H H1 H2 : Hp} {h h1 h2 h' : Heap} {a x e : Addr} {o : HO}
theorem Un.any (u : Un fs ex H H1 h h1) {b : Addr} {ob : Obj} (q : h.get? b = some ob) (n : H b = none) (hx : b ∉ ex) : ∃ sl, h1.get? b = some { ob with slots := sl } := by
 by_cases hb : b ∈ fs
 ·exact u.slot b ob q n hb hx
 ·exact ⟨ob.slots, u.keep b ob q n hb hx⟩
theorem Un.kept (k : ∀ b u, h.get? b = some u -> h'.get? b = some u) : Un fs ex H H h h' :=
 ⟨fun b ob q _ _ _ => k b ob q, fun b ob q _ _ _ => ⟨ob.slots, k b ob q⟩, fun _ _ _ n _ => n, fun b ob q _ => ⟨ob, k b ob q⟩, fun _ _ q => q, fun _ _ _ q => q, fun _ ps q => ⟨#[], by rw [q]; simp⟩⟩
theorem Un.refl : Un fs ex H H h h := Un.kept fun _ _ q => q
theorem Un.laid (k : ∀ b u, h.get? b = some u -> h'.get? b = some u) (hp : h.objs.size <= a) (hn : H a = none) : Un fs ex H (upd H a o) h h' where
 keep := fun b u q _ _ _ => k b u q
 slot := fun b u q _ _ _ => ⟨u.slots, k b u q⟩
 free := fun b u q n _ => by rw [upd_ne (Nat.ne_of_lt (Nat.lt_of_lt_of_le (Heap.lt_size q) hp))]; exact n
 there := fun b u q _ => ⟨u, k b u q⟩
 tups := fun b xs q => by rw [upd_ne (ne_of_none q hn)]; exact q
 frzs := fun b u xs q => by rw [upd_ne (ne_of_none q hn)]; exact q
 tbls := fun b ps q => ⟨#[], by rw [upd_ne (ne_of_none q hn), q]; simp⟩
theorem Un.write (mu : Mut (H x)) (he : e = x \/ H e = some (.own x)) (k : ∀ b u, b ≠ e -> h.get? b = some u -> h'.get? b = some u) (heo : ∃ u, h'.get? e = some u) : Un fs ex H (upd H x o) h h' := by
 have hx : ∀ b, H b = none -> b ≠ x := fun b n z => by subst z; rw [n] at mu; exact mu
 have hb : ∀ b, H b = none -> b ≠ e := fun b n z => by
  subst z
  rcases he with r | r
  ·exact hx b n r
  ·rw [n] at r; cases r
 have hm : ∀ b u, H b = some u -> ¬ Mut (some u) -> b ≠ x := fun b u q nm z => by subst z; rw [q] at mu; exact nm mu
 refine ⟨fun b u q n _ _ => k b u (hb b n) q, fun b u q n _ _ => ⟨u.slots, k b u (hb b n) q⟩, fun b u q n _ => by rw [upd_ne (hx b n)]; exact n, fun b u q _ => ?_,
  fun b xs q => by rw [upd_ne (hm b _ q fun z => z)]; exact q, fun b u xs q => by rw [upd_ne (hm b _ q fun z => z)]; exact q, fun b ps q => ⟨#[], by rw [upd_ne (hm b _ q fun z => z), q]; simp⟩⟩
 by_cases hbe : b = e
 ·subst hbe; exact heo
 ·exact ⟨u, k b u hbe q⟩
end
def trk (h : Heap) (H : Hp) : List Addr := (List.range h.objs.size).filter fun a => (H a).isSome
def hidT (h : Heap) (H : Hp) : Heap := PySem.W.hideAll h (trk h H)
theorem hidT_size (h : Heap) (H : Hp) : (hidT h H).objs.size = h.objs.size := PySem.W.hideAll_size _ _
theorem hidT_get {h : Heap} {H : Hp} {b : Addr} {o : Obj} (e : h.get? b = some o) (n : H b = none) : (hidT h H).get? b = some o :=
 PySem.W.hideAll_get _ e fun hm => by
  have q : (H b).isSome = true := (List.mem_filter.mp hm).2
  rw [n] at q; simp at q
theorem of_hidT {h : Heap} {H : Hp} {b : Addr} {o : Obj} (e : (hidT h H).get? b = some o) : h.get? b = some o /\ H b = none := by
 have e' : h.get? b = some o := PySem.W.of_hideAll (trk h H) e
 refine ⟨e', ?_⟩
 cases q : H b with
 | none => rfl
 | some x =>
  have hm : b ∈ trk h H := List.mem_filter.mpr ⟨List.mem_range.mpr (Heap.lt_size e'), by simp [q]⟩
  have z : (hidT h H).get? b = none := PySem.W.hideAll_none (trk h H) hm
  rw [z] at e; cases e
end L2
namespace L2
open PySem PySem.Spec PyProof.Rows
structure Mod (K : PySem.W.Frag) (mg : Str -> Option Value) (base : Heap) : Prop where
 kin : K.In base
 glob : base.Ns mainGlobals mg
 blt : ∃ mb, base.Ns builtinsNs mb /\ ∀ x : Str, x ≠ "__name__" -> mb x = bootBuiltins x
 nolimit : base.NoLimit
structure Cx where
 prog : Program
 w : World
 K : PySem.W.Frag
 mg : Str -> Option Value
 base : Heap
 A : Around
 N : List Str
 s₀ : Shared
 H₀ : Hp
 env : Env
 outer : List Env
 stack : List Env
 ex : List Addr
 fn : Str -> Bool
 calm : Bool
 pn : List (Addr × Obj)
 xe : Value -> Shared -> Prop
def frs (l : List Env) : List Addr := l.filterMap (·.frame)
abbrev Cx.fs (X : Cx) : List Addr := frs X.outer
def Vis (sc : Scope) (x : Str) : Prop := sc.names.lookup x = some .local \/ sc.names.lookup x = some .cell \/ sc.names.lookup x = some .free
def Loc (sc : Scope) (x : Str) : Prop := sc.names.lookup x = some .local \/ sc.names.lookup x = some .cell
def Look (env : Env) (h : Heap) (m : Str -> Option Value) (x : Str) (u : Value) : Prop :=
 (env.kindOf x = some .local /\ m x = some u) \/ ((env.kindOf x = some .cell \/ env.kindOf x = some .free) /\ ∃ c, env.cells.lookup x = some c /\ h.IsCell c (some u))
structure Cx.Ok (X : Cx) : Prop where
 mod : Mod X.K X.mg X.base
 kind : X.env.scope.kind = .function
 glob : X.env.globals = mainGlobals
 blt : X.env.builtins = builtinsNs
 above : X.s₀.heap.objs.size <= X.env.locals
 inj : ∀ x y c, X.env.cells.lookup x = some c -> X.env.cells.lookup y = some c -> x = y
 has : ∀ x, (X.env.kindOf x = some .cell \/ X.env.kindOf x = some .free) -> ∃ c, X.env.cells.lookup x = some c
 cab : ∀ x c, X.fn x = true -> X.env.cells.lookup x = some c -> X.s₀.heap.objs.size <= c
 hd : X.calm = true -> X.A.handled = none
 frames : X.A.frames = some X.stack
 stk : X.stack = X.outer \/ (X.stack = X.env :: X.outer /\ X.env.frame = some X.env.locals)
 exf : ∀ b ∈ X.ex, b ≠ X.env.locals /\ ∀ x c, X.env.cells.lookup x = some c -> c ≠ b
 bs : ∀ b o, X.base.get? b = some o -> X.s₀.heap.get? b = some o /\ X.H₀ b = none
 bsz : X.base.objs.size <= X.s₀.heap.objs.size
 noex : ∀ b o, X.base.get? b = some o -> b ∉ X.ex
 exfs : ∀ b ∈ X.ex, b ∉ X.fs
 funs : X.s₀.heap.FunFrames X.base X.outer
 frf : ∀ b ∈ X.fs, X.H₀ b = none
structure Inv (X : Cx) (pins : List (Addr × Obj)) (σ : List (Option V)) (H : Hp) (s : Shared) : Prop where
 ok : X.Ok
 os : s.os = X.s₀.os
 bare : AllBare s.gens
 base : Un X.fs X.ex X.H₀ H X.s₀.heap s.heap
 loc : ∃ m, s.heap.Ns X.env.locals m /\ ∀ (i : Nat) (x : Str) (v : V), X.N[i]? = some x -> σ[i]? = some (some v) -> Vis X.env.scope x -> ∃ u, RelV v u /\ Look X.env s.heap m x u
 cell : ∀ x c, X.env.cells.lookup x = some c -> ∃ v, s.heap.IsCell c v
 free : H X.env.locals = none
 freeC : ∀ x c, X.env.cells.lookup x = some c -> H c = none
 pin : ∀ p ∈ X.pn ++ pins, s.heap.get? p.1 = some p.2 /\ H p.1 = none /\ p.1 ≠ X.env.locals /\ p.1 ∉ X.fs /\ ∀ v, p.2.data ≠ .cell v
 hok : HOk X.prog X.w H s.heap
 len : σ.length = X.N.length
section
variable {X : Cx} {pins : List (Addr × Obj)} {σ : List (Option V)} {H H' : Hp} {s : Shared} {h' : Heap}
theorem Cx.Ok.nofr (ok : X.Ok) {b : Addr} {o : Obj} (e : X.base.get? b = some o) : b ∉ X.fs := fun hb => by
 have := (ok.funs.mem hb).1
 rw [e] at this; cases this
theorem Inv.bs (I : Inv X pins σ H s) : ∀ b o, X.base.get? b = some o -> s.heap.get? b = some o /\ H b = none := fun b o e =>
 ⟨I.base.keep b o (I.ok.bs b o e).1 (I.ok.bs b o e).2 (I.ok.nofr e) (I.ok.noex b o e), I.base.free b o (I.ok.bs b o e).1 (I.ok.bs b o e).2 (I.ok.noex b o e)⟩
theorem Inv.bk (I : Inv X pins σ H s) : ∀ b o, X.base.get? b = some o -> s.heap.get? b = some o := fun b o e => (I.bs b o e).1
theorem Inv.mod (I : Inv X pins σ H s) : Mod X.K X.mg X.base := I.ok.mod
theorem Inv.kIn (I : Inv X pins σ H s) : X.K.In s.heap := I.ok.mod.kin.keeps I.bk
theorem Inv.lt (I : Inv X pins σ H s) : X.env.locals < s.heap.objs.size := let ⟨_, hn, _⟩ := I.loc; hn.lt
theorem Inv.sz (I : Inv X pins σ H s) : X.s₀.heap.objs.size <= s.heap.objs.size := Nat.le_trans I.ok.above (Nat.le_of_lt I.lt)
theorem Inv.nofs (I : Inv X pins σ H s) {a : Addr} (h : s.heap.objs.size <= a) : a ∉ X.fs := fun hb => by
 obtain ⟨_, o, ho, _⟩ := I.ok.funs.mem hb
 exact absurd (Nat.lt_of_lt_of_le (Heap.lt_size ho) (Nat.le_trans I.sz h)) (Nat.lt_irrefl _)
theorem Inv.cne (I : Inv X pins σ H s) : ∀ x c, X.env.cells.lookup x = some c -> c ≠ X.env.locals := fun x c e z => by
 obtain ⟨v, o, ho, hd⟩ := I.cell x c e
 obtain ⟨m, ⟨o', es, ep, ho', hd', _⟩, _⟩ := I.loc
 rw [z, ho'] at ho; cases ho; rw [hd'] at hd; cases hd
theorem Inv.funs (I : Inv X pins σ H s) : s.heap.FunFrames X.base X.outer := by
 have all : ∀ (l : List Env), (∀ b ∈ frs l, b ∈ X.fs) -> X.s₀.heap.FunFrames X.base l -> s.heap.FunFrames X.base l := by
  intro l
  induction l with
  | nil => intro _ _; trivial
  | cons env r ih =>
   intro hs hl
   obtain ⟨hk, ⟨L, o, hf, hn, ho, hd⟩, hr⟩ := hl
   have hL : L ∈ X.fs := hs L (by unfold frs; rw [List.filterMap_cons, hf]; exact List.mem_cons_self)
   obtain ⟨sl, e⟩ := I.base.slot L o ho (I.ok.frf L hL) hL fun z => I.ok.exfs L z hL
   exact ⟨hk, ⟨L, _, hf, hn, e, hd⟩, ih (fun b hb => hs b (by unfold frs; rw [List.filterMap_cons, hf]; exact List.mem_cons_of_mem _ hb)) hr⟩
 exact all X.outer (fun _ hb => hb) I.ok.funs
theorem Inv.stack (I : Inv X pins σ H s) : s.heap.FunFrames X.base X.stack := by
 rcases I.ok.stk with e | ⟨e, hf⟩
 ·rw [e]; exact I.funs
 ·rw [e]
  obtain ⟨m, hn, _⟩ := I.loc
  refine .cons (by rw [I.ok.kind]; decide) hf hn ?_ I.funs
  exact Heap.get?_none_of_le (Nat.le_trans I.ok.bsz I.ok.above)
theorem Inv.stkSub (I : Inv X pins σ H s) : ∀ b ∈ frs X.stack, b ∈ X.env.locals :: X.fs := fun b hb => by
 rcases I.ok.stk with e | ⟨e, hf⟩
 ·rw [e] at hb; exact List.mem_cons_of_mem _ hb
 ·rw [e] at hb
  unfold frs at hb
  rw [List.filterMap_cons, hf] at hb
  exact hb
theorem Inv.stkFree (I : Inv X pins σ H s) : ∀ b ∈ frs X.stack, H b = none := fun b hb => by
 rcases List.mem_cons.mp (I.stkSub b hb) with e | hb
 ·rw [e]; exact I.free
 ·obtain ⟨_, o, ho, _⟩ := I.ok.funs.mem hb
  exact I.base.free b o ho (I.ok.frf b hb) fun z => I.ok.exfs b z hb
theorem Inv.step {g' : Array GenState} {t' : Nat} {d' : Drawn} {ch : List Addr} (I : Inv X pins σ H s)
  (hch : ∀ b ∈ ch, (b ∈ X.ex \/ X.s₀.heap.objs.size <= b) /\ b ≠ X.env.locals /\ (∀ x c, X.env.cells.lookup x = some c -> c ≠ b) /\ ∀ p ∈ X.pn ++ pins, p.1 ≠ b)
  (keep : ∀ b o, b ≠ X.env.locals -> b ∉ X.fs -> b ∉ ch -> s.heap.get? b = some o -> H b = none -> h'.get? b = some o)
  (slot : ∀ b o, b ≠ X.env.locals -> b ∈ X.fs -> b ∉ ch -> s.heap.get? b = some o -> H b = none -> ∃ sl, h'.get? b = some { o with slots := sl }) (free : ∀ b o, b ∉ ch -> s.heap.get? b = some o -> H b = none -> H' b = none)
  (there : ∀ b o, b ∉ ch -> s.heap.get? b = some o -> ∃ o', h'.get? b = some o')
  (tups : ∀ b xs, H b = some (.tup xs) -> H' b = some (.tup xs)) (frzs : ∀ b o u, H b = some (.frz o u) -> H' b = some (.frz o u)) (tbls : ∀ b ps, H b = some (.tbl ps) -> ∃ more, H' b = some (.tbl (ps ++ more)))
  (ns : ∀ m, s.heap.Ns X.env.locals m -> h'.Ns X.env.locals m) (hok : HOk X.prog X.w H' h') (hg : AllBare g') :
  Inv X pins σ H' { s with heap := h', gens := g', drawn := d', toks := t' } := by
 have neL : ∀ b o, X.s₀.heap.get? b = some o -> b ≠ X.env.locals := fun b o e => Nat.ne_of_lt (Nat.lt_of_lt_of_le (Heap.lt_size e) I.ok.above)
 have neC : ∀ b o, X.s₀.heap.get? b = some o -> b ∉ X.ex -> b ∉ ch := fun b o e hx hb => by
  rcases (hch b hb).1 with z | z
  ·exact hx z
  ·exact absurd (Nat.lt_of_lt_of_le (Heap.lt_size e) z) (Nat.lt_irrefl _)
 have cellK : ∀ x c, X.env.cells.lookup x = some c -> ∀ v, s.heap.IsCell c v -> h'.IsCell c v := fun x c e v ⟨o, ho, hd⟩ => by
  have nch : c ∉ ch := fun z => (hch c z).2.2.1 x c e rfl
  by_cases hc : c ∈ X.fs
  ·obtain ⟨sl, q⟩ := slot c o (I.cne x c e) hc nch ho (I.freeC x c e)
   exact ⟨_, q, hd⟩
  ·exact ⟨o, keep c o (I.cne x c e) hc nch ho (I.freeC x c e), hd⟩
 refine ⟨I.ok, I.os, hg, ⟨fun b o e n hb hx => ?_, fun b o e n hb hx => ?_, fun b o e n hx => ?_, fun b o e hx => ?_, fun b xs e => tups b xs (I.base.tups b xs e), fun b o xs e => frzs b o xs (I.base.frzs b o xs e), fun b ps e => ?_⟩, ?_, fun x c e => ?_, ?_, fun x c e => ?_, fun p hp => ?_, hok, I.len⟩
 ·exact keep b o (neL b o e) hb (neC b o e hx) (I.base.keep b o e n hb hx) (I.base.free b o e n hx)
 ·obtain ⟨sl, e1⟩ := I.base.slot b o e n hb hx
  obtain ⟨sl', e2⟩ := slot b _ (neL b o e) hb (neC b o e hx) e1 (I.base.free b o e n hx)
  exact ⟨sl', e2⟩
 ·obtain ⟨o', e1⟩ := I.base.there b o e hx
  exact free b o' (neC b o e hx) e1 (I.base.free b o e n hx)
 ·obtain ⟨o', e1⟩ := I.base.there b o e hx
  exact there b o' (neC b o e hx) e1
 ·obtain ⟨m1, e1⟩ := I.base.tbls b ps e
  obtain ⟨m2, e2⟩ := tbls b _ e1
  exact ⟨m1 ++ m2, by rw [e2, Array.append_assoc]⟩
 ·obtain ⟨m, hn, hl⟩ := I.loc
  refine ⟨m, ns m hn, fun i x v e1 e2 e3 => ?_⟩
  obtain ⟨u, r, l⟩ := hl i x v e1 e2 e3
  refine ⟨u, r, ?_⟩
  rcases l with l | ⟨k, c, e, z⟩
  ·exact .inl l
  ·exact .inr ⟨k, c, e, cellK x c e _ z⟩
 ·obtain ⟨v, z⟩ := I.cell x c e
  exact ⟨v, cellK x c e v z⟩
 ·obtain ⟨m, ⟨o, _, _, ho, _⟩, _⟩ := I.loc
  exact free _ o (fun z => (hch _ z).2.1 rfl) ho I.free
 ·obtain ⟨v, o, ho, hd⟩ := I.cell x c e
  exact free c o (fun z => (hch c z).2.2.1 x c e rfl) ho (I.freeC x c e)
 ·obtain ⟨e, n, ne, nf, d⟩ := I.pin p hp
  have nch : p.1 ∉ ch := fun z => (hch p.1 z).2.2.2 p hp rfl
  exact ⟨keep p.1 p.2 ne nf nch e n, free p.1 p.2 nch e n, ne, nf, d⟩
theorem Inv.un {t' : Nat} (I : Inv X pins σ H s) (u : Un X.fs [] H H' s.heap h') (hok : HOk X.prog X.w H' h') : Inv X pins σ H' { s with heap := h', toks := t' } := by
 obtain ⟨m, ⟨o, es, ep, ho, r⟩, _⟩ := id I.loc
 obtain ⟨sl, hL⟩ := u.any ho I.free (by simp)
 exact I.step (g' := s.gens) (d' := s.drawn) (ch := []) (fun _ z => nomatch z) (fun b o _ hb _ e n => u.keep b o e n hb (by simp)) (fun b o _ hb _ e n => u.slot b o e n hb (by simp)) (fun b o _ e n => u.free b o e n (by simp)) (fun b o _ e => u.there b o e (by simp)) u.tups u.frzs u.tbls (fun m' hm => by
  obtain ⟨o', es', ep', ho', r'⟩ := hm
  rw [ho] at ho'; cases ho'
  exact ⟨_, es', ep', hL, r'⟩) hok I.bare
theorem Inv.call {g' : Array GenState} {t' : Nat} {d' : Drawn} {ch : List Addr} (I : Inv X pins σ H s) (u : Un (frs X.stack) ch H H' s.heap h') (hok : HOk X.prog X.w H' h') (hg : AllBare g')
  (hch : ∀ b ∈ ch, (b ∈ X.ex \/ X.s₀.heap.objs.size <= b) /\ b ≠ X.env.locals /\ (∀ x c, X.env.cells.lookup x = some c -> c ≠ b) /\ ∀ p ∈ X.pn ++ pins, p.1 ≠ b) :
  Inv X pins σ H' { s with heap := h', gens := g', drawn := d', toks := t' } := by
 obtain ⟨m, ⟨o, es, ep, ho, r⟩, _⟩ := id I.loc
 obtain ⟨sl, hL⟩ := u.any ho I.free fun z => (hch _ z).2.1 rfl
 exact I.step (ch := ch) hch (fun b o hL hb hc e n => u.keep b o e n (fun z => (List.mem_cons.mp (I.stkSub b z)).elim hL hb) hc) (fun b o _ _ hc e n => u.any e n hc) (fun b o hc e n => u.free b o e n hc) (fun b o hc e => u.there b o e hc) u.tups u.frzs u.tbls (fun m' hm => by
  obtain ⟨o', es', ep', ho', r'⟩ := hm
  rw [ho] at ho'; cases ho'
  exact ⟨_, es', ep', hL, r'⟩) hok hg
theorem Inv.turned {t' : Nat} {it : Addr} (I : Inv X pins σ H s) (k : ∀ b o, b ≠ it -> s.heap.get? b = some o -> h'.get? b = some o) (hn : H it = none) (hL : it ≠ X.env.locals)
  (h1 : it ∈ X.ex \/ X.s₀.heap.objs.size <= it) (h2 : ∀ x c, X.env.cells.lookup x = some c -> c ≠ it) (h3 : ∀ p ∈ X.pn ++ pins, p.1 ≠ it) : Inv X pins σ H { s with heap := h', toks := t' } := by
 have nit : ∀ b u, H b = some u -> b ≠ it := fun b u e z => by rw [z, hn] at e; cases e
 refine I.step (g' := s.gens) (d' := s.drawn) (ch := [it]) (fun b hb => ?_) (fun b o _ _ hc e _ => k b o (fun z => hc (by simp [z])) e) (fun b o _ _ hc e _ => ⟨o.slots, k b o (fun z => hc (by simp [z])) e⟩) (fun _ _ _ _ n => n)
  (fun b o hc e => ⟨o, k b o (fun z => hc (by simp [z])) e⟩) (fun _ _ e => e) (fun _ _ _ e => e) (fun b ps e => ⟨#[], by rw [e]; simp⟩) (fun m hm => ?_) (fun b u e => ?_) I.bare
 ·have e : b = it := by simpa using hb
  subst e
  exact ⟨h1, hL, h2, h3⟩
 ·obtain ⟨o, es, ep, ho, r⟩ := hm
  exact ⟨o, es, ep, k _ o (Ne.symm hL) ho, r⟩
 ·refine (I.hok b u e).stay (fun c v hc q => k c v ?_ q) (fun _ q => q) fun _ _ q => q
  rcases hc with z | z
  ·rw [z]; exact nit b u e
  ·exact nit c _ z
theorem Inv.tok (I : Inv X pins σ H s) (t : Nat) : Inv X pins σ H { s with toks := t } := I.un (h' := s.heap) (t' := t) Un.refl I.hok
theorem Inv.kept {t' : Nat} (I : Inv X pins σ H s) (k : ∀ b u, s.heap.get? b = some u -> h'.get? b = some u) : Inv X pins σ H { s with heap := h', toks := t' } := I.un (Un.kept k) (I.hok.kept k)
theorem Inv.laid {a : Addr} {o : HO} {t' : Nat} (I : Inv X pins σ H s) (k : ∀ b u, s.heap.get? b = some u -> h'.get? b = some u) (hp : s.heap.objs.size <= a) (new : ObjOk X.prog X.w (upd H a o) h' a o) :
  Inv X pins σ (upd H a o) { s with heap := h', toks := t' } := I.un (Un.laid k hp (I.hok.fresh hp)) (I.hok.laid k hp new)
theorem Inv.write {x e : Addr} {o : HO} {t' : Nat} (I : Inv X pins σ H s) (mu : Mut (H x)) (he : e = x \/ H e = some (.own x)) (k : ∀ b u, b ≠ e -> s.heap.get? b = some u -> h'.get? b = some u) (heo : ∃ u, h'.get? e = some u)
  (new : ObjOk X.prog X.w (upd H x o) h' x o) : Inv X pins σ (upd H x o) { s with heap := h', toks := t' } := I.un (Un.write mu he k heo) (I.hok.write mu he k heo new)
theorem Inv.weak {σ' : List (Option V)} (I : Inv X pins σ H s) (hl : σ'.length = σ.length) (w : ∀ (i : Nat) v, σ'[i]? = some (some v) -> σ[i]? = some (some v)) : Inv X pins σ' H s :=
 ⟨I.ok, I.os, I.bare, I.base, let ⟨m, hn, hl'⟩ := I.loc; ⟨m, hn, fun i x v e1 e2 e3 => hl' i x v e1 (w i v e2) e3⟩, I.cell, I.free, I.freeC, I.pin, I.hok, hl.trans I.len⟩
theorem Inv.pins_of {pins' : List (Addr × Obj)} (I : Inv X pins σ H s) (h : ∀ p ∈ pins', s.heap.get? p.1 = some p.2 /\ H p.1 = none /\ p.1 ≠ X.env.locals /\ p.1 ∉ X.fs /\ ∀ v, p.2.data ≠ .cell v) : Inv X pins' σ H s :=
 ⟨I.ok, I.os, I.bare, I.base, I.loc, I.cell, I.free, I.freeC, fun p hp => (List.mem_append.mp hp).elim (fun z => I.pin p (List.mem_append_left _ z)) (h p), I.hok, I.len⟩
theorem nodup_ix {N : List Str} (hN : N.Nodup) {i j : Nat} {x : Str} (a : N[i]? = some x) (b : N[j]? = some x) : i = j := by
 obtain ⟨h1, e1⟩ := List.getElem?_eq_some_iff.mp a
 obtain ⟨h2, e2⟩ := List.getElem?_eq_some_iff.mp b
 exact (List.getElem_inj hN).mp (e1.trans e2.symm)
theorem store_ok2 {M : Model} {A : Around} {E : Value -> Shared -> Prop} {i : Nat} {x : Str} {v : V} {u : Value} {Q : Unit -> Shared -> Prop} (I : Inv X pins σ H s) (hN : X.N.Nodup) (hi : X.N[i]? = some x) (hx : Loc X.env.scope x) (r : RelV v u)
  (h : ∀ s', Inv X pins (σ.set i (some v)) H s' -> (∃ a, Heap.SameBut a s.heap s'.heap /\ (a = X.env.locals \/ X.env.cells.lookup x = some a)) -> Q () s') (hf : X.fn x = true \/ X.env.scope.names.lookup x = some .local := by first | exact .inl rfl | exact .inr rfl | assumption) : wpAny M A (storeName X.env x u) Q E s := by
 obtain ⟨m, hn, hl⟩ := id I.loc
 have hcls : (X.env.scope.kind == .class || (X.env.scope.kind == .module && X.env.locals != X.env.globals)) = false := by rw [I.ok.kind]; rfl
 have hiσ : i < σ.length := by rw [I.len]; exact (List.getElem?_eq_some_iff.mp hi).1
 have cne := I.cne
 have tracked : ∀ {a : Addr} {h' : Heap}, (∃ o, s.heap.get? a = some o /\ H a = none) -> Heap.SameBut a s.heap h' -> HOk X.prog X.w H h' := fun {a h'} ha hs b ob e => by
  obtain ⟨_, _, hfree⟩ := ha
  refine (I.hok b ob e).stay (fun c w' hc q => (hs.2 c ?_).trans q) (fun _ q => q) fun _ _ q => q
  rintro rfl
  rcases hc with rfl | hc
  ·rw [hfree] at e; cases e
  ·rw [hfree] at hc; cases hc
 rcases hx with hk | hk
 ·refine wpAny_storeName_local hk hn (fun h' hn' hs => ?_) hcls
  obtain ⟨oL, _, _, hoL, _⟩ := id hn
  refine h _ ⟨I.ok, I.os, I.bare, ⟨fun b o e n hb hx => ?_, fun b o e n hb hx => ?_, I.base.free, fun b o e hx => ?_, I.base.tups, I.base.frzs, I.base.tbls⟩, ⟨_, hn', fun j y v' e1 e2 e3 => ?_⟩, fun y c e => ?_, I.free, I.freeC, fun p hp => ?_, tracked ⟨oL, hoL, I.free⟩ hs, by simpa using I.len⟩ ⟨_, hs, .inl rfl⟩
  ·exact (hs.2 b (Nat.ne_of_lt (Nat.lt_of_lt_of_le (Heap.lt_size e) I.ok.above))).trans (I.base.keep b o e n hb hx)
  ·obtain ⟨sl, e1⟩ := I.base.slot b o e n hb hx
   exact ⟨sl, (hs.2 b (Nat.ne_of_lt (Nat.lt_of_lt_of_le (Heap.lt_size e) I.ok.above))).trans e1⟩
  ·obtain ⟨o', e1⟩ := I.base.there b o e hx
   exact ⟨o', (hs.2 b (Nat.ne_of_lt (Nat.lt_of_lt_of_le (Heap.lt_size e) I.ok.above))).trans e1⟩
  ·by_cases hj : j = i
   ·subst hj
    rw [hi] at e1; cases e1
    rw [List.getElem?_set_self hiσ] at e2
    cases e2
    exact ⟨u, r, .inl ⟨hk, by simp⟩⟩
   ·rw [List.getElem?_set_ne (Ne.symm hj)] at e2
    obtain ⟨u', r', q⟩ := hl j y v' e1 e2 e3
    refine ⟨u', r', ?_⟩
    rcases q with ⟨k, e⟩ | ⟨k, c, e, z⟩
    ·refine .inl ⟨k, ?_⟩
     have : y ≠ x := fun e => hj (nodup_ix hN e1 (e ▸ hi))
     simp [this, e]
    ·exact .inr ⟨k, c, e, z.sameBut hs (cne y c e)⟩
  ·obtain ⟨w', z⟩ := I.cell y c e
   exact ⟨w', z.sameBut hs (cne y c e)⟩
  ·obtain ⟨e, n, ne, nf, d⟩ := I.pin p hp
   exact ⟨(hs.2 p.1 ne).trans e, n, ne, nf, d⟩
 ·have hfn : X.fn x = true := by
   rcases hf with z | z
   ·exact z
   ·rw [z] at hk; cases hk
  obtain ⟨c, hc⟩ := I.ok.has x (.inl hk)
  obtain ⟨w', z⟩ := I.cell x c hc
  refine wpAny_storeName_cell I.ok.kind hk hc z (fun h' hc' hs => ?_)
  obtain ⟨oc, hoc, hocd⟩ := id z
  refine h { s with heap := h' } ⟨I.ok, I.os, I.bare, ⟨fun b o e n hb hx => ?_, fun b o e n hb hx => ?_, I.base.free, fun b o e hx => ?_, I.base.tups, I.base.frzs, I.base.tbls⟩, ⟨m, hn.sameBut hs (Ne.symm (cne x c hc)), fun j y v' e1 e2 e3 => ?_⟩, fun y c' e => ?_, I.free, I.freeC, fun p hp => ?_, tracked ⟨oc, hoc, I.freeC x c hc⟩ hs, by simpa using I.len⟩ ⟨c, hs, .inr hc⟩
  ·exact (hs.2 b (Nat.ne_of_lt (Nat.lt_of_lt_of_le (Heap.lt_size e) (I.ok.cab x c hfn hc)))).trans (I.base.keep b o e n hb hx)
  ·obtain ⟨sl, e1⟩ := I.base.slot b o e n hb hx
   exact ⟨sl, (hs.2 b (Nat.ne_of_lt (Nat.lt_of_lt_of_le (Heap.lt_size e) (I.ok.cab x c hfn hc)))).trans e1⟩
  ·obtain ⟨o', e1⟩ := I.base.there b o e hx
   exact ⟨o', (hs.2 b (Nat.ne_of_lt (Nat.lt_of_lt_of_le (Heap.lt_size e) (I.ok.cab x c hfn hc)))).trans e1⟩
  ·by_cases hj : j = i
   ·subst hj
    rw [hi] at e1; cases e1
    rw [List.getElem?_set_self hiσ] at e2
    cases e2
    exact ⟨u, r, .inr ⟨.inl hk, c, hc, hc'⟩⟩
   ·rw [List.getElem?_set_ne (Ne.symm hj)] at e2
    obtain ⟨u', r', q⟩ := hl j y v' e1 e2 e3
    refine ⟨u', r', ?_⟩
    rcases q with q | ⟨k, c', e, z'⟩
    ·exact .inl q
    ·refine .inr ⟨k, c', e, z'.sameBut hs ?_⟩
     rintro rfl
     exact hj (nodup_ix hN e1 (I.ok.inj _ _ _ e hc ▸ hi))
  ·by_cases hcc : c' = c
   ·subst hcc; exact ⟨_, hc'⟩
   ·obtain ⟨w2, z2⟩ := I.cell y c' e
    exact ⟨w2, z2.sameBut hs hcc⟩
  ·obtain ⟨e, n, ne, nf, d⟩ := I.pin p hp
   refine ⟨(hs.2 p.1 ?_).trans e, n, ne, nf, d⟩
   intro q
   rw [q, hoc] at e
   have q' : oc = p.2 := Option.some.inj e
   exact d w' (by rw [<- q']; exact hocd)
theorem store_ok {M : Model} {A : Around} {E : Value -> Shared -> Prop} {i : Nat} {x : Str} {v : V} {u : Value} {Q : Unit -> Shared -> Prop} (I : Inv X pins σ H s) (hN : X.N.Nodup) (hi : X.N[i]? = some x) (hx : Loc X.env.scope x) (r : RelV v u)
  (h : ∀ s', Inv X pins (σ.set i (some v)) H s' -> Q () s') (hf : X.fn x = true \/ X.env.scope.names.lookup x = some .local := by first | exact .inl rfl | exact .inr rfl | assumption) : wpAny M A (storeName X.env x u) Q E s :=
 store_ok2 I hN hi hx r (fun s' I' _ => h s' I') hf
theorem Inv.call' {s' : Shared} {ch : List Addr} (I : Inv X pins σ H s) (ho : s'.os = s.os) (u : Un (frs X.stack) ch H H' s.heap s'.heap) (hok : HOk X.prog X.w H' s'.heap) (hg : AllBare s'.gens)
  (hch : ∀ b ∈ ch, (b ∈ X.ex \/ X.s₀.heap.objs.size <= b) /\ b ≠ X.env.locals /\ (∀ x c, X.env.cells.lookup x = some c -> c ≠ b) /\ ∀ p ∈ X.pn ++ pins, p.1 ≠ b) : Inv X pins σ H' s' := by
 obtain ⟨h', g', d', t', o'⟩ := s'
 have e : o' = s.os := ho
 subst e
 exact I.call (g' := g') (t' := t') (d' := d') u hok hg hch
end
abbrev XK := Value -> Option Addr -> Hp -> Prop
abbrev St := List (Option V)
abbrev VK := V -> Hp -> Prop
abbrev TE := St -> Hp -> VK -> Prop
abbrev TT := St -> Hp -> (Bool -> Hp -> Prop) -> Prop
abbrev TA := St -> Hp -> (List V -> Hp -> Prop) -> Prop
structure Ends where
 nx : St -> Hp -> Prop
 rt : VK
 bk : St -> Hp -> Prop := fun _ _ => False
 ct : St -> Hp -> Prop := fun _ _ => False
abbrev TS := Ends -> St -> Hp -> Prop
def EP (X : Cx) (pins : List (Addr × Obj)) (σ : St) (Q : VK) (u : Value) (s' : Shared) : Prop := ∃ v H', Inv X pins σ H' s' /\ RelV v u /\ Q v H'
def TP (X : Cx) (pins : List (Addr × Obj)) (σ : St) (Q : Bool -> Hp -> Prop) (b : Bool) (s' : Shared) : Prop := ∃ H', Inv X pins σ H' s' /\ Q b H'
def AP (X : Cx) (pins : List (Addr × Obj)) (σ : St) (Q : List V -> Hp -> Prop) (us : List Value) (s' : Shared) : Prop := ∃ vs H', Inv X pins σ H' s' /\ Vals vs us /\ Q vs H'
def SP (X : Cx) (pins : List (Addr × Obj)) (D : Ends) (f : Flow) (s' : Shared) : Prop :=
 match f with
 | .next => ∃ σ' H', Inv X pins σ' H' s' /\ D.nx σ' H'
 | .brk => ∃ σ' H', Inv X pins σ' H' s' /\ D.bk σ' H'
 | .cont => ∃ σ' H', Inv X pins σ' H' s' /\ D.ct σ' H'
 | .ret u => ∃ v σ' H', Inv X pins σ' H' s' /\ RelV v u /\ D.rt v H'
def PE (X : Cx) (e : Expr) (t : TE) : Prop :=
 ∀ (pins : List (Addr × Obj)) (s : Shared) (σ : St) (H : Hp) (Q : VK), Inv X pins σ H s -> t σ H Q -> wpAny (model X.prog X.w) X.A (eval e X.env) (EP X pins σ Q) X.xe s
def PT (X : Cx) (e : Expr) (t : TT) : Prop :=
 ∀ (pins : List (Addr × Obj)) (s : Shared) (σ : St) (H : Hp) (Q : Bool -> Hp -> Prop), Inv X pins σ H s -> t σ H Q -> wpAny (model X.prog X.w) X.A (isTrue e X.env (eval e X.env)) (TP X pins σ Q) X.xe s
def PW (X : Cx) (e : Expr) (t : TT) : Prop :=
 ∀ (whole : Sem Value) (pins : List (Addr × Obj)) (s : Shared) (σ : St) (H : Hp) (Q : Bool -> Hp -> Prop), Inv X pins σ H s -> t σ H Q -> wpAny (model X.prog X.w) X.A (isTrue e X.env whole) (TP X pins σ Q) X.xe s
theorem PW.pt {X : Cx} {e : Expr} {t : TT} (h : PW X e t) : PT X e t := h _
def PA (X : Cx) (es : List Expr) (t : TA) : Prop :=
 ∀ (pos : Pos) (pins : List (Addr × Obj)) (s : Shared) (σ : St) (H : Hp) (Q : List V -> Hp -> Prop), Inv X pins σ H s -> t σ H Q -> wpAny (model X.prog X.w) X.A (spliced (backTo pos (starEach es X.env))) (AP X pins σ Q) X.xe s
def PS (X : Cx) (st : Stmt) (t : TS) : Prop :=
 ∀ (pins : List (Addr × Obj)) (s : Shared) (σ : St) (H : Hp) (D : Ends), Inv X pins σ H s -> t D σ H -> wpAny (model X.prog X.w) X.A (exec st X.env) (SP X pins D) X.xe s
def PSs (X : Cx) (st : List Stmt) (t : TS) : Prop :=
 ∀ (pins : List (Addr × Obj)) (s : Shared) (σ : St) (H : Hp) (D : Ends), Inv X pins σ H s -> t D σ H -> wpAny (model X.prog X.w) X.A (execs st X.env) (SP X pins D) X.xe s
theorem thn {α : Type} {t : Sem α} {Q Q' : α -> Shared -> Prop} {M : Model} {A : Around} {E : Value -> Shared -> Prop} {s : Shared} (h : wpAny M A t Q E s) (hQ : ∀ a s, Q a s -> Q' a s) : wpAny M A t Q' E s := wpAny_mono h hQ fun _ _ x => x
end L2
namespace L2
open PySem PySem.Spec PyProof.Rows
section
variable {X : Cx}
def tVar (i : Nat) : TE := fun σ H Q => ∃ v, σ[i]? = some (some v) /\ Q v H
def tC (v : V) : TE := fun _ H Q => Q v H
theorem pe_var {i : Nat} {x : Str} {pos : Pos} (hN : X.N[i]? = some x) (hv : Vis X.env.scope x) (hd : (x == ("__debug__" : Str)) = false := by decide) (hcd : (x == ("__classdict__" : Str)) = false := by decide) : PE X (.Name x pos) (tVar i) := by
 intro pins s σ H Q I h
 obtain ⟨v, e, h⟩ := h
 obtain ⟨m, hn, hl⟩ := I.loc
 obtain ⟨u, r, l⟩ := hl i x v hN e hv
 have fin : EP X pins σ Q u s := ⟨v, H, I, r, h⟩
 rcases l with ⟨hk, hm⟩ | ⟨hk, c, hc, hcell⟩
 ·exact wpAny_Name (wpAny_loadName_local I.ok.kind hk hn hm fin) hd
 ·rcases hk with hk | hk
  ·exact wpAny_Name (wpAny_loadName_cell I.ok.kind hk hc hcell fin) hd
  ·exact wpAny_Name (wpAny_loadName_free I.ok.kind hk hc hcell fin hcd) hd
theorem pe_int {i j pos} : PE X (.Constant (.int i) j pos) (tC (.int i)) := fun _ _ _ H _ I h => wpAny_Constant_int ⟨.int i, H, I.tok _, ⟨_, rfl⟩, h⟩
theorem pe_bl {b j pos} : PE X (.Constant (.bool b) j pos) (tC (.bl b)) := fun _ _ _ H _ I h => Constant_bool ⟨.bl b, H, I, rfl, h⟩
theorem pe_non {j pos} : PE X (.Constant .none j pos) (tC .non) := fun _ _ _ H _ I h => Constant_none ⟨.non, H, I, rfl, h⟩
theorem pe_str {x j pos} : PE X (.Constant (.str x) j pos) (tC (.str x)) := fun _ _ _ H _ I h => Calls.Constant_str ⟨.str x, H, I.tok _, ⟨_, rfl⟩, h⟩
def Gl (X : Cx) (x : Str) : Prop := X.env.kindOf x = some .globalImplicit
theorem ld_glob {E : Value -> Shared -> Prop} {pins : List (Addr × Obj)} {s : Shared} {σ : St} {H : Hp} {x : Str} {u : Value} {pos : Pos} {Q : Value -> Shared -> Prop} (I : Inv X pins σ H s) (hg : Gl X x) (hm : X.mg x = some u) (h : Q u s)
  (hd : (x == ("__debug__" : Str)) = false := by decide) : wpAny (model X.prog X.w) X.A (eval (.Name x pos) X.env) Q E s :=
 Calls.Name_function_global I.ok.kind hg (Calls.loadGlobal_global (by rw [I.ok.glob]; exact I.mod.glob.keeps I.bk) hm h) hd
theorem ld_blt {E : Value -> Shared -> Prop} {pins : List (Addr × Obj)} {s : Shared} {σ : St} {H : Hp} {x : Str} {u : Value} {pos : Pos} {Q : Value -> Shared -> Prop} (I : Inv X pins σ H s) (hg : Gl X x) (hm : X.mg x = none) (hv : bootBuiltins x = some u) (h : Q u s)
  (hn : x ≠ "__name__" := by decide) (hd : (x == ("__debug__" : Str)) = false := by decide) : wpAny (model X.prog X.w) X.A (eval (.Name x pos) X.env) Q E s := by
 obtain ⟨mb, h1, h2⟩ := I.mod.blt
 exact Calls.Name_function_global I.ok.kind hg (Calls.loadGlobal_builtin (by rw [I.ok.glob]; exact I.mod.glob.keeps I.bk) hm (by rw [I.ok.blt]; exact h1.keeps I.bk) ((h2 x hn).trans hv) h) hd
theorem pe_glob {x : Str} {v : V} {u : Value} {pos : Pos} (hg : Gl X x) (hm : X.mg x = some u) (r : RelV v u) (hd : (x == ("__debug__" : Str)) = false := by decide) : PE X (.Name x pos) (tC v) :=
 fun _ _ _ H _ I h => ld_glob I hg hm ⟨v, H, I, r, h⟩ hd
theorem pe_bltn {x : Str} {v : V} {u : Value} {pos : Pos} (hg : Gl X x) (hm : X.mg x = none) (hv : bootBuiltins x = some u) (r : RelV v u) (hn : x ≠ "__name__" := by decide) (hd : (x == ("__debug__" : Str)) = false := by decide) : PE X (.Name x pos) (tC v) :=
 fun _ _ _ H _ I h => ld_blt I hg hm hv ⟨v, H, I, r, h⟩ hn hd
variable {a b : Expr} {ta tb : TE} {pos : Pos}
def tB (t : TE) : TT := fun σ H Q => t σ H fun x H1 => ∃ c, x = .bl c /\ Q c H1
theorem pt_val {e : Expr} {t : TE} (h : PE X e t) (he : ∀ whole, isTrue e X.env whole = (do let v <- whole; standAt e.pos; holding [v] (truthy v)) := by intro _; rfl) : PT X e (tB t) := by
 intro pins s σ H Q I hw
 refine isTrue_plain (thn (h pins s σ H _ I hw) fun v s1 ⟨x, H1, I1, r1, q1⟩ => ?_) (he _)
 obtain ⟨d, rfl, q⟩ := q1
 cases r1
 exact wpAny_truthy_bool ⟨H1, I1, q⟩
variable {tA tB' : TT} {rest : List Expr}
def tAnd (t u : TT) : TT := fun σ H Q => t σ H fun c H1 => if c = true then u σ H1 Q else Q false H1
def tOr (t u : TT) : TT := fun σ H Q => t σ H fun c H1 => if c = true then Q true H1 else u σ H1 Q
def tNot (t : TT) : TT := fun σ H Q => t σ H fun c H1 => Q (!c) H1
theorem pw_and1 (ha : PT X a tA) : PW X (.BoolOp .And [a] pos) tA := by
 intro wh pins s σ H Q I h
 refine isTrue_and (thn (ha pins s σ H Q I h) fun c s1 e => ?_)
 cases c with
 | true => exact isTrue_and_nil e
 | false => exact e
theorem pw_or1 (ha : PT X a tA) : PW X (.BoolOp .Or [a] pos) tA := by
 intro wh pins s σ H Q I h
 refine isTrue_or (thn (ha pins s σ H Q I h) fun c s1 e => ?_)
 cases c with
 | false => exact isTrue_or_nil e
 | true => exact e
theorem pw_and (ha : PT X a tA) (hb : PW X (.BoolOp .And (b :: rest) pos) tB') : PW X (.BoolOp .And (a :: b :: rest) pos) (tAnd tA tB') := by
 intro wh pins s σ H Q I h
 refine isTrue_and (thn (ha pins s σ H _ I h) fun c s1 ⟨H1, I1, q1⟩ => ?_)
 cases c with
 | true => exact hb wh pins s1 σ H1 Q I1 q1
 | false => exact ⟨H1, I1, q1⟩
theorem pw_or (ha : PT X a tA) (hb : PW X (.BoolOp .Or (b :: rest) pos) tB') : PW X (.BoolOp .Or (a :: b :: rest) pos) (tOr tA tB') := by
 intro wh pins s σ H Q I h
 refine isTrue_or (thn (ha pins s σ H _ I h) fun c s1 ⟨H1, I1, q1⟩ => ?_)
 cases c with
 | true => exact ⟨H1, I1, q1⟩
 | false => exact hb wh pins s1 σ H1 Q I1 q1
theorem pt_not (ha : PT X a tA) : PT X (.UnaryOp .Not a pos) (tNot tA) := by
 intro pins s σ H Q I h
 exact isTrue_not (ha pins s σ H (fun c H1 => Q (!c) H1) I h)
end
end L2
namespace L2
open PySem PySem.Spec PyProof.Rows
def SqL (K : PySem.W.Frag) (H : Hp) (a : Addr) (xs : List V) : Prop :=
 Rd H a (.lst xs) \/
  ∃ (o : Obj) (its : Array Value) (n : Nat), K.lookup a = some o /\ o.cls = .type "list" /\ o.dict = none /\ o.data = .seq its n /\ its.size <= sizeLine /\ Vals xs its.toList
def SqT (K : PySem.W.Frag) (H : Hp) (a : Addr) (xs : List V) : Prop :=
 Rd H a (.tup xs) \/
  ∃ (o : Obj) (its : Array Value) (n : Nat), K.lookup a = some o /\ o.cls = .type "tuple" /\ o.data = .seq its n /\ its.size <= sizeLine /\ Vals xs its.toList
def absV : Value -> Option V
 | .none => some .non
 | .bool b => some (.bl b)
 | .int i _ => some (.int i)
 | .str x _ => some (.str x)
 | .bytes b _ => some (.byt b)
 | .float b _ => some (.flt b)
 | .ref a => some (.ref a)
 | .type n => some (.ty n)
 | _ => none
theorem RelV.abs {x : V} {u : Value} (r : RelV x u) : absV u = some x := by
 cases x with
 | non => cases r; rfl
 | bl _ => cases r; rfl
 | int _ => obtain ⟨t, rfl⟩ := r; rfl
 | str _ => obtain ⟨t, rfl⟩ := r; rfl
 | byt _ => obtain ⟨t, rfl⟩ := r; rfl
 | flt _ => obtain ⟨t, rfl⟩ := r; rfl
 | ref _ => cases r; rfl
 | ty _ => cases r; rfl
theorem RelV.inj {x y : V} {u : Value} (r : RelV x u) (q : RelV y u) : x = y := Option.some.inj (r.abs.symm.trans q.abs)
theorem Vals.inj : ∀ {xs ys : List V} {us : List Value}, Vals xs us -> Vals ys us -> xs = ys
 | _, _, _, .nil, .nil => rfl
 | _, _, _, .cons r t, .cons r' t' => by rw [r.inj r', Vals.inj t t']
section
variable {X : Cx} {pins : List (Addr × Obj)} {σ : St} {H : Hp} {s : Shared} {a : Addr} {xs ys : List V}
theorem SqL.of {K : PySem.W.Frag} (h : H a = some (.lst xs)) : SqL K H a xs := .inl (.inl h)
theorem SqT.of {K : PySem.W.Frag} (h : H a = some (.tup xs)) : SqT K H a xs := .inl (.inl h)
theorem Inv.list (I : Inv X pins σ H s) (h : SqL X.K H a xs) : ∃ its : List Value, Vals xs its /\ PlainL s.heap a its.toArray /\ xs.length <= sizeLine := by
 rcases h with h | ⟨o, its, n, hk, hc, hd, hs, hz, r⟩
 ·obtain ⟨z, its, n, r, e⟩ := h.ok I.hok
  exact ⟨its, r, ⟨_, n, e, rfl, rfl, rfl⟩, z⟩
 ·refine ⟨its.toList, r, ⟨o, n, I.kIn a o hk, hc, hd, by simpa using hs⟩, ?_⟩
  have e := r.length
  simp only [Array.length_toList] at e
  omega
theorem Inv.tuple (I : Inv X pins σ H s) (h : SqT X.K H a xs) : ∃ its : List Value, Vals xs its /\ IsTup s.heap a its.toArray /\ xs.length <= sizeLine := by
 rcases h with h | ⟨o, its, n, hk, hc, hs, hz, r⟩
 ·obtain ⟨z, its, r, p⟩ := h.ok I.hok
  exact ⟨its, r, p, z⟩
 ·refine ⟨its.toList, r, ⟨o, I.kIn a o hk, hc, n, by simpa using hs⟩, ?_⟩
  have e := r.length
  simp only [Array.length_toList] at e
  omega
theorem Inv.list_inj (I : Inv X pins σ H s) (h : SqL X.K H a xs) (h' : SqL X.K H a ys) : xs = ys := by
 obtain ⟨its, r, ⟨o, n, e, _, _, d⟩, _⟩ := I.list h
 obtain ⟨its', r', ⟨o', n', e', _, _, d'⟩, _⟩ := I.list h'
 rw [e] at e'; cases e'
 rw [d] at d'
 injection d' with d1 _
 have : its = its' := by simpa using congrArg Array.toList d1
 subst this
 exact r.inj r'
theorem Inv.tuple_inj (I : Inv X pins σ H s) (h : SqT X.K H a xs) (h' : SqT X.K H a ys) : xs = ys := by
 obtain ⟨its, r, ⟨o, e, _, n, d⟩, _⟩ := I.tuple h
 obtain ⟨its', r', ⟨o', e', _, n', d'⟩, _⟩ := I.tuple h'
 rw [e] at e'; cases e'
 rw [d] at d'
 injection d' with d1 _
 have : its = its' := by simpa using congrArg Array.toList d1
 subst this
 exact r.inj r'
end
abbrev Cx.wish (X : Cx) (E : Value -> Shared -> Prop) : Cx := { X with xe := E }
abbrev Cx.nox (X : Cx) : Cx := X.wish fun _ _ => False
theorem Cx.Ok.wish {X : Cx} (ok : X.Ok) (E : Value -> Shared -> Prop) : (X.wish E).Ok :=
 ⟨ok.mod, ok.kind, ok.glob, ok.blt, ok.above, ok.inj, ok.has, ok.cab, ok.hd, ok.frames, ok.stk, ok.exf, ok.bs, ok.bsz, ok.noex, ok.exfs, ok.funs, ok.frf⟩
theorem Cx.Ok.unwish {X : Cx} {E : Value -> Shared -> Prop} (ok : (X.wish E).Ok) : X.Ok :=
 ⟨ok.mod, ok.kind, ok.glob, ok.blt, ok.above, ok.inj, ok.has, ok.cab, ok.hd, ok.frames, ok.stk, ok.exf, ok.bs, ok.bsz, ok.noex, ok.exfs, ok.funs, ok.frf⟩
section
variable {X : Cx} {pins : List (Addr × Obj)} {σ : St} {H : Hp} {s : Shared} {E : Value -> Shared -> Prop}
theorem Inv.wish (I : Inv X pins σ H s) (E : Value -> Shared -> Prop) : Inv (X.wish E) pins σ H s := ⟨I.ok.wish E, I.os, I.bare, I.base, I.loc, I.cell, I.free, I.freeC, I.pin, I.hok, I.len⟩
theorem Inv.unwish (I : Inv (X.wish E) pins σ H s) : Inv X pins σ H s := ⟨I.ok.unwish, I.os, I.bare, I.base, I.loc, I.cell, I.free, I.freeC, I.pin, I.hok, I.len⟩
theorem SP.unwish {D : Ends} {f : Flow} {s' : Shared} (h : SP (X.wish E) pins D f s') : SP X pins D f s' := by
 cases f with
 | next => obtain ⟨σ', H', I, q⟩ := h; exact ⟨σ', H', I.unwish, q⟩
 | brk => obtain ⟨σ', H', I, q⟩ := h; exact ⟨σ', H', I.unwish, q⟩
 | cont => obtain ⟨σ', H', I, q⟩ := h; exact ⟨σ', H', I.unwish, q⟩
 | ret u => obtain ⟨v, σ', H', I, r, q⟩ := h; exact ⟨v, σ', H', I.unwish, r, q⟩
theorem PSs.nox {st : List Stmt} {t : TS} (h : PSs X.nox st t) : PSs X st t := fun pins s σ H D I hw =>
 wpAny_mono (h pins s σ H D (I.wish _) hw) (fun _ _ q => q.unwish) fun _ _ z => False.elim z
end
section
variable {X : Cx} {st : Stmt} {rest : List Stmt} {t u : TS} {e : Expr} {te : TE} {pos : Pos}
def tNext : TS := fun D σ H => D.nx σ H
def tSeq (t u : TS) : TS := fun D σ H => t { D with nx := u D } σ H
theorem pss_nil : PSs X [] tNext := fun _ _ σ H _ I h => wpAny_execs_nil ⟨σ, H, I, h⟩
theorem pss_cons (h1 : PS X st t) (h2 : PSs X rest u) : PSs X (st :: rest) (tSeq t u) := by
 intro pins s σ H D I h
 refine wpAny_execs_cons (thn (h1 pins s σ H { D with nx := u D } I h) fun f s1 q => ?_)
 cases f with
 | next =>
  obtain ⟨σ', H', I', q⟩ := q
  exact h2 pins s1 σ' H' D I' q
 | ret v => exact q
 | brk => exact q
 | cont => exact q
theorem pss_one (h1 : PS X st t) : PSs X [st] t := by
 intro pins s σ H D I h
 refine wpAny_execs_cons (thn (h1 pins s σ H D I h) fun f s1 q => ?_)
 cases f with
 | next => exact wpAny_execs_nil q
 | ret v => exact q
 | brk => exact q
 | cont => exact q
theorem Inv.quiet {pins : List (Addr × Obj)} {σ : St} {H : Hp} {s : Shared} (I : Inv X pins σ H s) : interactive X.env = false := by simp [interactive, I.ok.kind]
def tDrop (te : TE) : TS := fun D σ H => te σ H fun _ H1 => D.nx σ H1
theorem ps_expr (he : PE X e te) (hs : swapsWith e none pos.line X.env = pure false := by rfl) : PS X (.Expr e pos) (tDrop te) := by
 intro pins s σ H D I h
 exact wpAny_Expr_any (thn (he pins s σ H _ I h) fun v s1 ⟨x, H1, I1, r1, q1⟩ => ⟨σ, H1, I1, q1⟩) I.quiet hs
def tRet (te : TE) : TS := fun D σ H => te σ H D.rt
theorem ps_ret (he : PE X e te) : PS X (.Return (some e) pos) (tRet te) := by
 intro pins s σ H D I h
 exact wpAny_Return_some (thn (he pins s σ H _ I h) fun v s1 ⟨x, H1, I1, r1, q1⟩ => ⟨x, σ, H1, I1, r1, q1⟩)
def tIfS (c : TT) (t u : TS) : TS := fun D σ H => c σ H fun b H1 => if b = true then t D σ H1 else u D σ H1
theorem ps_if {c : Expr} {a b : List Stmt} {tc : TT} (hc : PT X c tc) (ha : PSs X a t) (hb : PSs X b u) : PS X (.If c a b pos) (tIfS tc t u) := by
 intro pins s σ H D I h
 refine wpAny_If (thn (hc pins s σ H _ I h) fun d s1 ⟨H1, I1, q1⟩ => ?_)
 cases d with
 | true => exact ha pins s1 σ H1 D I1 q1
 | false => exact hb pins s1 σ H1 D I1 q1
end
abbrev TG := V -> St -> Hp -> (St -> Hp -> Prop) -> Prop
abbrev TGs := List V -> St -> Hp -> (St -> Hp -> Prop) -> Prop
def PG (X : Cx) (target : Expr) (t : TG) : Prop :=
 ∀ (pins : List (Addr × Obj)) (s : Shared) (σ : St) (H : Hp) (v : V) (u : Value) (Q : St -> Hp -> Prop), Inv X pins σ H s -> RelV v u -> t v σ H Q ->
  wpAny (model X.prog X.w) X.A (assign target X.env u) (fun _ s' => ∃ σ' H', Inv X pins σ' H' s' /\ Q σ' H') X.xe s
def PGs (X : Cx) (ts : List Expr) (t : TGs) : Prop :=
 ∀ (pins : List (Addr × Obj)) (s : Shared) (σ : St) (H : Hp) (vs : List V) (us : List Value) (Q : St -> Hp -> Prop), Inv X pins σ H s -> Vals vs us -> t vs σ H Q ->
  wpAny (model X.prog X.w) X.A (assignInOrder ((assignEach ts X.env).map (·.2)) us) (fun _ s' => ∃ σ' H', Inv X pins σ' H' s' /\ Q σ' H') X.xe s
abbrev TSet := V -> V -> V -> Hp -> (Hp -> Prop) -> Prop
def PSet (X : Cx) (t : TSet) : Prop :=
 ∀ (pins : List (Addr × Obj)) (s : Shared) (σ : St) (H : Hp) (o i v : V) (ov iv u : Value) (Q : Hp -> Prop), Inv X pins σ H s -> RelV o ov -> RelV i iv -> RelV v u -> t o i v H Q ->
  wpAny (model X.prog X.w) X.A (setItem ov iv u) (fun _ s' => ∃ H', Inv X pins σ H' s' /\ Q H') X.xe s
section
variable {X : Cx} {pos : Pos}
def gName (i : Nat) : TG := fun v σ H Q => Q (σ.set i (some v)) H
theorem pg_name {i : Nat} {x : Str} (hN : X.N.Nodup) (hi : X.N[i]? = some x) (hx : Loc X.env.scope x) (hf : X.fn x = true \/ X.env.scope.names.lookup x = some .local := by first | exact .inl rfl | exact .inr rfl | assumption) : PG X (.Name x pos) (gName i) := by
 intro pins s σ H v u Q I r h
 exact wpAny_assign_Name (store_ok I hN hi hx r (fun s' I' => ⟨_, H, I', h⟩) hf)
def gNil : TGs := fun vs σ H Q => vs = [] /\ Q σ H
def gCons (t : TG) (u : TGs) : TGs := fun vs σ H Q => ∃ v r, vs = v :: r /\ t v σ H fun σ' H' => u r σ' H' Q
theorem pgs_nil : PGs X [] gNil := by
 intro pins s σ H vs us Q I r h
 obtain ⟨e, h⟩ := h
 subst e
 cases r
 exact assignInOrder_nil ⟨σ, H, I, h⟩
theorem pgs_cons {e : Expr} {es : List Expr} {t : TG} {u : TGs} (h1 : PG X e t) (h2 : PGs X es u)
  (hs : (assignEach (e :: es) X.env).map (·.2) = assign e X.env :: (assignEach es X.env).map (·.2) := by rfl) : PGs X (e :: es) (gCons t u) := by
 intro pins s σ H vs us Q I r h
 obtain ⟨v, vr, e1, h⟩ := h
 subst e1
 cases r with
 | cons r rr =>
  rw [hs]
  refine assignInOrder_cons (thn (h1 pins s σ H _ _ _ I r h) fun _ s1 ⟨σ1, H1, I1, q1⟩ => ?_)
  exact h2 pins s1 σ1 H1 _ _ Q I1 rr q1
def gTup (K : PySem.W.Frag) (n : Nat) (t : TGs) : TG := fun v σ H Q => ∃ a xs, v = .ref a /\ SqT K H a xs /\ xs.length = n /\ t xs σ H Q
theorem pg_tup {es : List Expr} {k : Nat} {t : TGs} {n : Nat} (hc : X.calm = true) (h : PGs X es t)
  (hn : (assignEach es X.env).length = n := by rfl) (hst : (assignEach es X.env).findIdx? (·.1) = none := by rfl) : PG X (.Tuple es k pos) (gTup X.K n t) := by
 intro pins s σ H v u Q I r hw
 obtain ⟨a, xs, e1, hq, hl, hw⟩ := hw
 subst e1
 cases r
 obtain ⟨its, rv, ht, hz⟩ := I.tuple hq
 refine assign_Tuple_tuple (I.ok.hd hc) ht (by simp [hn, <- hl, rv.length]) hst fun h' hx => ?_
 have I1 : Inv X pins σ H { s with heap := h' } := I.kept (t' := s.toks) fun b o e => hx b o (Nat.ne_of_lt (Heap.lt_size e)) e
 exact h pins _ σ H xs _ Q I1 (by simpa using rv) hw
def gSub (to ti : TE) (t : TSet) : TG := fun v σ H Q => to σ H fun o H1 => ti σ H1 fun i H2 => t o i v H2 fun H3 => Q σ H3
theorem pg_sub {o i : Expr} {to ti : TE} {t : TSet} (ho : PE X o to) (hi : PE X i ti) (hs : PSet X t)
  (ha : ∀ v, assign (.Subscript o i pos) X.env v = (do
   let ov <- holding [v] (eval o X.env)
   let iv <- holding [v, ov] (eval i X.env)
   standAt pos
   holding [v, ov, iv] (setItem ov iv v)
   release [v, ov, iv] []) := by intro _; rfl) : PG X (.Subscript o i pos) (gSub to ti t) := by
 intro pins s σ H v u Q I r h
 rw [ha]
 refine wpAny_bind (wpAny_holding (thn (ho pins s σ H _ I h) fun ov s1 ⟨x, H1, I1, r1, q1⟩ => ?_))
 refine wpAny_bind (wpAny_holding (thn (hi pins s1 σ H1 _ I1 q1) fun iv s2 ⟨y, H2, I2, r2, q2⟩ => ?_))
 refine wpAny_bind (wpAny_standAt (wpAny_bind (wpAny_holding (thn (hs pins s2 σ H2 x y v ov iv u _ I2 r1 r2 r q2) fun _ s3 ⟨H3, I3, q3⟩ => ?_))))
 exact wpAny_release ⟨σ, H3, I3, q3⟩
def tAsg (te : TE) (g : TG) : TS := fun D σ H => te σ H fun x H1 => g x σ H1 D.nx
theorem ps_asg {tg e : Expr} {te : TE} {g : TG} (he : PE X e te) (hg : PG X tg g) (hs : swapsWithSole [tg] e pos.line X.env = pure false := by rfl) (hw : swappedStores [tg] e X.env = pure none := by rfl)
  (h1 : (assignEach [tg] X.env).map (·.2) = [assign tg X.env] := by rfl) : PS X (.Assign [tg] e pos) (tAsg te g) := by
 intro pins s σ H D I h
 refine wpAny_Assign_stores (thn (he pins s σ H _ I h) fun v s1 ⟨x, H1, I1, r1, q1⟩ => ?_) hs hw
 rw [h1]
 exact thn (hg pins s1 σ H1 x v _ I1 r1 q1) fun _ s2 q => q
theorem ps_set {i : Nat} {x : Str} {e : Expr} {te : TE} {pos' : Pos} (hN : X.N.Nodup) (hi : X.N[i]? = some x) (hx : Loc X.env.scope x) (he : PE X e te) (hs : swapsWith e (some (.Name x pos')) pos.line X.env = pure false := by rfl) (hf : X.fn x = true \/ X.env.scope.names.lookup x = some .local := by first | exact .inl rfl | exact .inr rfl | assumption) :
  PS X (.Assign [.Name x pos'] e pos) (tAsg te (gName i)) := by
 intro pins s σ H D I h
 refine wpAny_Assign_Name (thn (he pins s σ H _ I h) fun v s1 ⟨y, H1, I1, r1, q1⟩ => ?_) hs
 exact store_ok I1 hN hi hx r1 (fun s2 I2 => ⟨_, H1, I2, q1⟩) hf
end
structure It where
 go : Nat -> Hp -> Prop
 yld : Nat -> Hp -> V -> Hp -> Prop
 stop : Nat -> Hp -> Prop
def FpOk (X : Cx) (pins : List (Addr × Obj)) (H : Hp) (b : Addr) : Prop :=
 H b = none /\ b ≠ X.env.locals /\ b ∉ X.fs /\ (b ∈ X.ex \/ X.s₀.heap.objs.size <= b) /\ (∀ x c, X.env.cells.lookup x = some c -> c ≠ b) /\ ∀ p ∈ X.pn ++ pins, p.1 ≠ b
theorem Inv.fpOk {X : Cx} {pins : List (Addr × Obj)} {σ : St} {H H' : Hp} {s : Shared} {b : Addr} (I : Inv X pins σ H s) (hb : s.heap.objs.size <= b) (hn : H' b = none) : FpOk X pins H' b := by
 refine ⟨hn, Nat.ne_of_gt (Nat.lt_of_lt_of_le I.lt hb), I.nofs hb, .inr (Nat.le_trans I.sz hb), fun x c e z => ?_, fun p hp z => ?_⟩
 ·obtain ⟨v, q⟩ := I.cell x c e
  exact absurd (Nat.lt_of_lt_of_le q.lt (by rw [z]; exact hb)) (Nat.lt_irrefl _)
 ·exact absurd (Nat.lt_of_lt_of_le (Heap.lt_size (I.pin p hp).1) (by rw [z]; exact hb)) (Nat.lt_irrefl _)
structure Turn (P : Program) (w : World) (K : PySem.W.Frag) (tg : Expr) (J : It) (fp : List Addr) (it : Addr) (tn : Nat -> Heap -> Prop) : Prop where
 mem : it ∈ fp
 obj : ∀ i h, tn i h -> ∀ b ∈ fp, ∃ o, h.get? b = some o /\ ∀ v, o.data ≠ .cell v
 keep : ∀ i h h', tn i h -> (∀ b ∈ fp, ∀ o, h.get? b = some o -> h'.get? b = some o) -> tn i h'
 item : ∀ (X : Cx), X.prog = P -> X.w = w -> X.K = K -> X.calm = true -> ∀ (i : Nat) (pins : List (Addr × Obj)) (s : Shared) (σ : St) (H : Hp) (E : Value -> Shared -> Prop), Inv X pins σ H s -> (∀ b ∈ fp, FpOk X pins H b) -> tn i s.heap -> J.go i H ->
  wpAny (model P w) X.A (pyNext (.ref it)) (fun r s1 => ∃ u, r = some u /\
   wpAny (model P w) X.A (letOwnedTupleGo tg (.ref it) u) (fun _ s2 => ∃ x H', Inv X pins σ H' s2 /\ RelV x u /\ J.yld i H x H' /\ tn (i + 1) s2.heap /\ ∀ b ∈ fp, H' b = none) E s1) E s
 done : ∀ (X : Cx), X.prog = P -> X.w = w -> X.K = K -> X.calm = true -> ∀ (i : Nat) (pins : List (Addr × Obj)) (s : Shared) (σ : St) (H : Hp) (E : Value -> Shared -> Prop), Inv X pins σ H s -> (∀ b ∈ fp, FpOk X pins H b) -> tn i s.heap -> J.stop i H ->
  wpAny (model P w) X.A (pyNext (.ref it)) (fun r s1 => r = none /\ Inv X pins σ H s1) E s
 self : ∀ (A : Around) (i : Nat) (s : Shared) (Q : Value -> Shared -> Prop) (E : Value -> Shared -> Prop), tn i s.heap -> Q (.ref it) s -> wpAny (model P w) A (pyIter (.ref it)) Q E s
abbrev TI := St -> Hp -> (It -> Hp -> Prop) -> Prop
def PIE (X : Cx) (pins : List (Addr × Obj)) (σ : St) (tg : Expr) (R : It -> Hp -> Prop) (itv : Value) (s2 : Shared) : Prop :=
 ∃ (it : Addr) (fp : List Addr) (tn : Nat -> Heap -> Prop) (J : It) (H' : Hp), itv = .ref it /\ Inv X pins σ H' s2 /\ Turn X.prog X.w X.K tg J fp it tn /\ tn 0 s2.heap /\ (∀ b ∈ fp, FpOk X pins H' b) /\ R J H'
def PI (X : Cx) (tg iter : Expr) (wi : TI) : Prop :=
 ∀ (pins : List (Addr × Obj)) (s : Shared) (σ : St) (H : Hp) (R : It -> Hp -> Prop), Inv X pins σ H s -> wi σ H R ->
  wpAny (model X.prog X.w) X.A (eval iter X.env) (fun v s1 => wpAny (model X.prog X.w) X.A (pyIter v) (PIE X pins σ tg R) X.xe s1) X.xe s
theorem go_of {M : Model} {A : Around} {E : Value -> Shared -> Prop} {s : Shared} {tg : Expr} {it : Addr} {u : Value} {o : Obj} {n : String} {vs : Array Value} {Q : Unit -> Shared -> Prop} (ho : s.heap.get? it = some o) (hc : o.cls = .type n) (hd : o.data = .fields vs)
    (hn : ["enumerate", "zip", "dict_itemiterator", "dict_reverseitemiterator", "odict_iterator", "itertools.zip_longest", "itertools.pairwise"].contains n = false) (hQ : Q () s) : wpAny M A (letOwnedTupleGo tg (.ref it) u) Q E s := by
  unfold letOwnedTupleGo
  cases tg <;> first
    | exact wpAny_pure hQ
    | (cases u <;> first
        | exact wpAny_pure hQ
        | (refine wpAny_bind (wpAny_load ho ?_)
           rw [hc, hd]
           show wpAny M A (if (["enumerate", "zip", "dict_itemiterator", "dict_reverseitemiterator", "odict_iterator", "itertools.zip_longest", "itertools.pairwise"].contains n && vs[0]? == some (rawInt _)) = true then _ else _) Q E s
           rw [if_neg (by intro h; rw [hn, Bool.false_and] at h; cases h)]
           exact wpAny_pure hQ))
def Itl (K : PySem.W.Frag) (a : Addr) : It :=
 ⟨fun i H => ∃ xs x, SqL K H a xs /\ xs[i]? = some x, fun i H x H' => H' = H /\ ∀ xs, SqL K H a xs -> xs[i]? = some x, fun i H => ∃ xs, SqL K H a xs /\ xs.length <= i⟩
def Itt (K : PySem.W.Frag) (a : Addr) : It :=
 ⟨fun i H => ∃ xs x, SqT K H a xs /\ xs[i]? = some x, fun i H x H' => H' = H /\ ∀ xs, SqT K H a xs -> xs[i]? = some x, fun i H => ∃ xs, SqT K H a xs /\ xs.length <= i⟩
def Itr (lo : Int) (n : Nat) : It := ⟨fun i _ => i < n, fun i H x H' => H' = H /\ x = .int (lo + i), fun i _ => n <= i⟩
theorem turn_list {P : Program} {w : World} {K : PySem.W.Frag} {tg : Expr} (a it : Addr) : Turn P w K tg (Itl K a) [it] it (fun i h => h.IsListIter it a i) where
 mem := by simp
 obj := fun i h st b hb => by
  have e : b = it := by simpa using hb
  subst e
  obtain ⟨o, e, c, d⟩ := st
  exact ⟨o, e, fun v z => by rw [d] at z; cases z⟩
 keep := fun i h h' st k => st.at fun o e => k it (by simp) o e
 item := by
  intro X hP hw hK hc i pins s σ H E I hf st hg
  subst hP hw hK
  obtain ⟨xs, x, hq, hx⟩ := hg
  obtain ⟨its, rv, p, hz⟩ := I.list hq
  obtain ⟨u, hu, ru⟩ := rv.get hx
  obtain ⟨f0, f1, f2, f3, f4, f5⟩ := hf it (by simp)
  refine wpAny_pyNext_list_item st p.isList (x := u) (by simpa using hu) fun h' st' sb => ?_
  have I1 : Inv X pins σ H { s with heap := h' } := I.turned (t' := s.toks) (fun b o hb e => (sb.2 b hb).trans e) f0 f1 f3 f4 f5
  obtain ⟨o, e, c, d⟩ := id st'
  exact ⟨u, rfl, go_of (s := { s with heap := h' }) e c d (by decide) ⟨x, H, I1, ru, ⟨rfl, fun ys hy => by rw [I.list_inj hy hq]; exact hx⟩, st', fun b hb => (hf b hb).1⟩⟩
 done := by
  intro X hP hw hK hc i pins s σ H E I hf st hg
  subst hP hw hK
  obtain ⟨xs, hq, hx⟩ := hg
  obtain ⟨its, rv, p, hz⟩ := I.list hq
  obtain ⟨f0, f1, f2, f3, f4, f5⟩ := hf it (by simp)
  have hl := rv.length
  exact wpAny_pyNext_list_end (I.ok.hd hc) st p.isList (by simp; omega) fun h' eb => ⟨rfl, I.turned (t' := s.toks) (fun b o hb e => eb b o hb e) f0 f1 f3 f4 f5⟩
 self := fun _ _ _ _ _ st h => wpAny_pyIter_listiter st h
theorem turn_tuple {P : Program} {w : World} {K : PySem.W.Frag} {tg : Expr} (a it : Addr) : Turn P w K tg (Itt K a) [it] it (fun i h => h.IsTupleIter it a i) where
 mem := by simp
 obj := fun i h st b hb => by
  have e : b = it := by simpa using hb
  subst e
  obtain ⟨o, e, c, d⟩ := st
  exact ⟨o, e, fun v z => by rw [d] at z; cases z⟩
 keep := fun i h h' st k => st.at fun o e => k it (by simp) o e
 item := by
  intro X hP hw hK hc i pins s σ H E I hf st hg
  subst hP hw hK
  obtain ⟨xs, x, hq, hx⟩ := hg
  obtain ⟨its, rv, p, hz⟩ := I.tuple hq
  obtain ⟨u, hu, ru⟩ := rv.get hx
  obtain ⟨f0, f1, f2, f3, f4, f5⟩ := hf it (by simp)
  refine wpAny_pyNext_tuple_item st (show s.heap.IsTuple a its.toArray from p) (x := u) (by simpa using hu) fun h' st' sb => ?_
  have I1 : Inv X pins σ H { s with heap := h' } := I.turned (t' := s.toks) (fun b o hb e => (sb.2 b hb).trans e) f0 f1 f3 f4 f5
  obtain ⟨o, e, c, d⟩ := id st'
  exact ⟨u, rfl, go_of (s := { s with heap := h' }) e c d (by decide) ⟨x, H, I1, ru, ⟨rfl, fun ys hy => by rw [I.tuple_inj hy hq]; exact hx⟩, st', fun b hb => (hf b hb).1⟩⟩
 done := by
  intro X hP hw hK hc i pins s σ H E I hf st hg
  subst hP hw hK
  obtain ⟨xs, hq, hx⟩ := hg
  obtain ⟨its, rv, p, hz⟩ := I.tuple hq
  obtain ⟨f0, f1, f2, f3, f4, f5⟩ := hf it (by simp)
  have hl := rv.length
  exact wpAny_pyNext_tuple_end (I.ok.hd hc) st (show s.heap.IsTuple a its.toArray from p) (by simp; omega) fun h' eb => ⟨rfl, I.turned (t' := s.toks) (fun b o hb e => eb b o hb e) f0 f1 f3 f4 f5⟩
 self := fun _ _ _ _ _ st h => wpAny_pyIter_tupleiter st h
theorem turn_range {P : Program} {w : World} {K : PySem.W.Frag} {tg : Expr} (it : Addr) (lo : Int) (n : Nat) : Turn P w K tg (Itr lo n) [it] it (fun i h => IsRangeIter h it (lo + (i : Nat) * 1) ((n : Int) - (i : Nat)) 1) where
 mem := by simp
 obj := fun i h st b hb => by
  have e : b = it := by simpa using hb
  subst e
  exact ⟨_, st, fun v z => by
   have z' : Data.fields _ = Data.cell v := z
   cases z'⟩
 keep := fun i h h' st k => k it (by simp) _ st
 item := by
  intro X hP hw hK hc i pins s σ H E I hf st hg
  subst hP hw hK
  obtain ⟨f0, f1, f2, f3, f4, f5⟩ := hf it (by simp)
  have W := Walks.range (prog := X.prog) (w := X.w) (I.ok.hd hc) it lo 1 n
  refine W.item i s _ _ hg st fun v h' tk hv st' kk => ?_
  obtain ⟨t, rfl⟩ := hv
  have I1 : Inv X pins σ H { s with heap := h', toks := tk } := I.turned (fun b o hb e => kk b o (by simpa using hb) e) f0 f1 f3 f4 f5
  refine ⟨_, rfl, go_of (s := { s with heap := h', toks := tk }) (n := "range_iterator") st' rfl rfl (by decide) ⟨.int (lo + i), H, I1, ⟨t, ?_⟩, ⟨rfl, rfl⟩, st', fun b hb => (hf b hb).1⟩⟩
  rw [Int.mul_one]
 done := by
  intro X hP hw hK hc i pins s σ H E I hf st hg
  subst hP hw hK
  obtain ⟨f0, f1, f2, f3, f4, f5⟩ := hf it (by simp)
  exact wpAny_pyNext_range_end (I.ok.hd hc) st (by have : n <= i := hg; omega) fun h' eb => ⟨rfl, I.turned (t' := s.toks) (fun b o hb e => eb b o hb e) f0 f1 f3 f4 f5⟩
 self := fun _ _ _ _ _ st h => wpAny_pyIter_rangeiter st h
end L2
namespace L2
open PySem PySem.Spec PyProof.Rows
section
variable {X : Cx} {tg : Expr}
theorem range_it {pins : List (Addr × Obj)} {σ : St} {H : Hp} {s : Shared} {R : It -> Hp -> Prop} {E : Value -> Shared -> Prop} {lo hi : Int} {t u v : Tok} {tk : Nat} (I : Inv X pins σ H s) (h1 : -(2 ^ 62) <= lo) (h2 : lo < 2 ^ 62) (h3 : -(2 ^ 62) <= hi) (h4 : hi < 2 ^ 62)
  (q : R (Itr lo (hi - lo).toNat) H) : wpAny (model X.prog X.w) X.A (pyIter (.ref s.heap.objs.size)) (PIE X pins σ tg R) E { s with heap := s.heap.push { cls := .type "range", data := .fields #[.int lo t, .int hi u, .int 1 v] }, toks := tk } := by
 refine wpAny_pyIter_range (IsRange.new ..) (small_one h1 h2 h3 h4) ?_
 have I1 : Inv X pins σ H { s with heap := s.heap.push { cls := .type "range", data := .fields #[.int lo t, .int hi u, .int 1 v] }, toks := tk } := I.kept fun b o e => Heap.get?_push_of_some _ e
 refine ⟨(s.heap.push { cls := .type "range", data := .fields #[.int lo t, .int hi u, .int 1 v] }).objs.size, [(s.heap.push { cls := .type "range", data := .fields #[.int lo t, .int hi u, .int 1 v] }).objs.size], _, _, H, rfl,
  I1.kept (t' := tk) fun b o e => Heap.get?_push_of_some _ e, turn_range _ lo (hi - lo).toNat, ?_, fun b hb => ?_, q⟩
 ·have e1 : lo + ((0 : Nat) : Int) * 1 = lo := by simp
  have e2 : (((hi - lo).toNat : Nat) : Int) - ((0 : Nat) : Int) = Builtin.Range.rangeSize lo hi 1 := by rw [rangeSize_one]; split <;> omega
  show IsRangeIter _ _ (lo + ((0 : Nat) : Int) * 1) ((((hi - lo).toNat : Nat) : Int) - ((0 : Nat) : Int)) 1
  rw [e1, e2]
  exact Heap.get?_push_size _ rfl
 ·have e : b = (s.heap.push { cls := .type "range", data := .fields #[.int lo t, .int hi u, .int 1 v] }).objs.size := by simpa using hb
  subst e
  exact I1.fpOk (Nat.le_refl _) (I1.hok.fresh (Nat.le_refl _))
def iRng1 (ta : TA) : TI := fun σ H R => ta σ H fun vs H1 => ∃ j : Int, vs = [.int j] /\ -(2 ^ 62) <= j /\ j < 2 ^ 62 /\ R (Itr 0 j.toNat) H1
theorem pi_range1 {a : Expr} {ta : TA} {p pos : Pos} (hg : Gl X "range") (hm : X.mg "range" = none) (ha : PA X [a] ta) (hs : starEach [a] X.env = [(false, eval a X.env)] := by rfl) : PI X tg (.Call (.Name "range" p) [a] [] pos) (iRng1 ta) := by
 intro pins s σ H R I h
 refine Call_ (ld_blt I hg hm boot_range (PyProof.Rows.callWith_type1 (thn (ha pos pins s σ H _ I h) fun us s1 ⟨vs, H1, I1, r1, q1⟩ => ?_) hs rfl))
 obtain ⟨j, e, q1, q2, q⟩ := q1
 subst e
 cases r1 with
 | cons r rr =>
  cases rr
  obtain ⟨t, rfl⟩ := r
  exact call_range_1 (range_it I1 (by omega) (by omega) q1 q2 (by simpa using q))
def tFor (wi : TI) (g : TG) (tb : TS) : TS := fun D σ H => wi σ H fun J H1 => ∃ W : Nat -> Nat -> St -> Hp -> Prop, (∃ m, W 0 m σ H1) /\ ∀ i m σ H, W i m σ H ->
 (J.stop i H /\ D.nx σ H) \/ (J.go i H /\ ∃ N : St -> Hp -> Prop, (∀ σ' H', N σ' H' -> ∃ m', m' < m /\ W (i + 1) m' σ' H') /\ ∀ x H', J.yld i H x H' -> g x σ H' fun σ2 H2 => tb { D with nx := N, ct := N, bk := D.nx } σ2 H2)
def pinsAt (fp : List Addr) (h : Heap) : List (Addr × Obj) := fp.filterMap fun b => (h.get? b).map fun o => (b, o)
theorem mem_pinsAt {fp : List Addr} {h : Heap} {b : Addr} {o : Obj} (hb : b ∈ fp) (e : h.get? b = some o) : (b, o) ∈ pinsAt fp h := List.mem_filterMap.mpr ⟨b, hb, by rw [e]; rfl⟩
theorem of_pinsAt {fp : List Addr} {h : Heap} {p : Addr × Obj} (hp : p ∈ pinsAt fp h) : p.1 ∈ fp /\ h.get? p.1 = some p.2 := by
 obtain ⟨b, hb, e⟩ := List.mem_filterMap.mp hp
 cases q : h.get? b with
 | none => rw [q] at e; cases e
 | some o =>
  rw [q] at e
  have e' : (b, o) = p := Option.some.inj e
  subst e'
  exact ⟨hb, q⟩
theorem Inv.pinned {pins : List (Addr × Obj)} {σ : St} {H : Hp} {s : Shared} {fp : List Addr} (I : Inv X pins σ H s) (hf : ∀ b ∈ fp, FpOk X pins H b) (ho : ∀ b ∈ fp, ∃ o, s.heap.get? b = some o /\ ∀ v, o.data ≠ .cell v) : Inv X (pins ++ pinsAt fp s.heap) σ H s :=
 I.pins_of fun p hp => (List.mem_append.mp hp).elim (fun z => I.pin p (List.mem_append_right _ z)) fun z => by
  obtain ⟨hb, e⟩ := of_pinsAt z
  obtain ⟨f0, f1, f2, _⟩ := hf p.1 hb
  obtain ⟨o, e', d⟩ := ho p.1 hb
  rw [e] at e'; cases e'
  exact ⟨e, f0, f1, f2, d⟩
theorem Inv.unpinned {pins pl : List (Addr × Obj)} {σ : St} {H : Hp} {s : Shared} (I : Inv X (pins ++ pl) σ H s) : Inv X pins σ H s := I.pins_of fun p hp => I.pin p (List.mem_append_right _ (List.mem_append_left _ hp))
theorem ps_for {iter : Expr} {body : List Stmt} {wi : TI} {g : TG} {tb : TS} {pos : Pos} (hp : PassesOwn (model X.prog X.w) X.A X.env X.xe) (hc : X.calm = true) (hi : PI X tg iter wi) (hg : PG X tg g) (hb : PSs X body tb)
  (hs : ∀ x, foldedSetIterable iter X.env x = pure x := by intro _; rfl) : PS X (.For tg iter body [] pos) (tFor wi g tb) := by
 intro pins s σ H D I h
 refine wpAny_For (thn (hi pins s σ H _ I h) fun v s1 h1 => thn h1 fun itv s2 h2 => ?_) hs
 obtain ⟨it, fp, tn, J, H2, e, I2, T, st2, f2, W, ⟨m0, w0⟩, turn⟩ := h2
 subst e
 -- what stays true of the iterator's objects through the loop
 have stat : ∀ {H' : Hp}, (∀ b ∈ fp, H' b = none) -> ∀ b ∈ fp, FpOk X pins H' b := fun hn b hb => ⟨hn b hb, (f2 b hb).2⟩
 refine codeAny_forLoop_any (fun n s' => ∃ i σ' H', Inv X pins σ' H' s' /\ tn i s'.heap /\ (∀ b ∈ fp, H' b = none) /\ W i n σ' H') ?_ m0 ⟨0, σ, H2, I2, st2, fun b hb => (f2 b hb).1, w0⟩
 rintro n s3 ⟨i, σ3, H3, I3, st3, fr3, w3⟩
 rcases turn i n σ3 H3 w3 with ⟨stop, qn⟩ | ⟨go, N, hN, step⟩
 ·refine wpAny_passesOwn hp (thn (T.done X rfl rfl rfl hc i pins s3 σ3 H3 X.xe I3 (stat fr3) st3 stop) fun r s4 ⟨hr, I4⟩ => ?_)
  subst hr
  exact wpAny_execs_nil ⟨σ3, H3, I4, qn⟩
 ·refine wpAny_passesOwn hp (thn (T.item X rfl rfl rfl hc i pins s3 σ3 H3 X.xe I3 (stat fr3) st3 go) fun r s4 ⟨u, hr, h4⟩ => ?_)
  subst hr
  refine wpAny_passesOwn hp (thn h4 fun _ s5 ⟨x, H5, I5, r5, y5, st5, fr5⟩ => ?_)
  have I5' := I5.pinned (stat fr5) (T.obj _ _ st5)
  refine wpAny_passesOwn hp (thn (hg _ s5 σ3 H5 x u _ I5' r5 (step x H5 y5)) fun _ s6 ⟨σ6, H6, I6, q6⟩ => ?_)
  refine wpAny_passesOwn hp (thn (hb _ s6 σ6 H6 _ I6 q6) fun f s7 q7 => ?_)
  have again : ∀ {σ7 : St} {H7 : Hp}, Inv X (pins ++ pinsAt fp s5.heap) σ7 H7 s7 -> N σ7 H7 -> ∃ m, m < n /\ ∃ i σ' H', Inv X pins σ' H' s7 /\ tn i s7.heap /\ (∀ b ∈ fp, H' b = none) /\ W i m σ' H' := fun {σ7 H7} I7 n7 => by
   obtain ⟨m', hm, w7⟩ := hN σ7 H7 n7
   refine ⟨m', hm, i + 1, σ7, H7, I7.unpinned, T.keep _ _ _ st5 fun b hb o e => (I7.pin (b, o) (List.mem_append_right _ (List.mem_append_right _ (mem_pinsAt hb e)))).1, fun b hb => ?_, w7⟩
   obtain ⟨o, e, d⟩ := T.obj _ _ st5 b hb
   exact (I7.pin (b, o) (List.mem_append_right _ (List.mem_append_right _ (mem_pinsAt hb e)))).2.1
  cases f with
  | next => obtain ⟨σ7, H7, I7, n7⟩ := q7; exact again I7 n7
  | cont => obtain ⟨σ7, H7, I7, n7⟩ := q7; exact again I7 n7
  | brk => obtain ⟨σ7, H7, I7, q7⟩ := q7; exact ⟨σ7, H7, I7.unpinned, q7⟩
  | ret v => obtain ⟨x7, σ7, H7, I7, r7, q7⟩ := q7; exact ⟨x7, σ7, H7, I7.unpinned, r7, q7⟩
end
end L2
namespace L2
open PySem PySem.Spec PyProof.Rows
abbrev R2 := V -> V -> Hp -> VK -> Prop
def OpR (X : Cx) (f : Value -> Value -> Sem Value) (r : R2) : Prop :=
 ∀ (pins : List (Addr × Obj)) (s : Shared) (σ : St) (H : Hp) (x y : V) (v u : Value) (Q : VK), Inv X pins σ H s -> RelV x v -> RelV y u -> r x y H Q ->
  wpAny (model X.prog X.w) X.A (f v u) (EP X pins σ Q) X.xe s
def UnR (X : Cx) (f : Value -> Sem Value) (r : V -> Hp -> VK -> Prop) : Prop :=
 ∀ (pins : List (Addr × Obj)) (s : Shared) (σ : St) (H : Hp) (x : V) (v : Value) (Q : VK), Inv X pins σ H s -> RelV x v -> r x H Q ->
  wpAny (model X.prog X.w) X.A (f v) (EP X pins σ Q) X.xe s
def CallR (X : Cx) (f : Value) (r : List V -> Hp -> VK -> Prop) : Prop :=
 ∀ (pins : List (Addr × Obj)) (s : Shared) (σ : St) (H : Hp) (xs : List V) (us : List Value) (Q : VK), Inv X pins σ H s -> Vals xs us -> r xs H Q ->
  wpAny (model X.prog X.w) X.A (call f us) (EP X pins σ Q) X.xe s
def tOp (r : R2) (ta tb : TE) : TE := fun σ H Q => ta σ H fun x H1 => tb σ H1 fun y H2 => r x y H2 Q
def tUn (r : V -> Hp -> VK -> Prop) (ta : TE) : TE := fun σ H Q => ta σ H fun x H1 => r x H1 Q
def rI (C : Int -> Int -> Prop) (g : Int -> Int -> V) : R2 := fun x y H Q => ∃ i j, x = .int i /\ y = .int j /\ C i j /\ Q (g i j) H
def rI0 (g : Int -> Int -> V) : R2 := fun x y H Q => ∃ i j, x = .int i /\ y = .int j /\ Q (g i j) H
def rU (g : Int -> V) : V -> Hp -> VK -> Prop := fun x H Q => ∃ i, x = .int i /\ Q (g i) H
section
variable {X : Cx} {a b c : Expr} {ta tb tc : TE} {pos : Pos}
theorem binT (ha : PE X a ta) (hb : PE X b tb) {pins : List (Addr × Obj)} {s : Shared} {σ : St} {H : Hp} {R : V -> V -> Hp -> Prop} (I : Inv X pins σ H s)
  (h : ta σ H fun x H1 => tb σ H1 fun y H2 => R x y H2) {Q : Value -> Shared -> Prop} {f : Value -> Value -> Sem Value}
  (hf : ∀ v u s2 x y H2, Inv X pins σ H2 s2 -> RelV x v -> RelV y u -> R x y H2 -> wpAny (model X.prog X.w) X.A (f v u) Q X.xe s2) :
  wpAny (model X.prog X.w) X.A (eval a X.env) (fun v s₁ => wpAny (model X.prog X.w) X.A (eval b X.env) (fun u s₂ => wpAny (model X.prog X.w) X.A (f v u) Q X.xe s₂) X.xe s₁) X.xe s := by
 refine thn (ha pins s σ H _ I h) fun v s1 ⟨x, H1, I1, r1, q1⟩ => ?_
 refine thn (hb pins s1 σ H1 _ I1 q1) fun u s2 ⟨y, H2, I2, r2, q2⟩ => ?_
 exact hf v u s2 x y H2 I2 r1 r2 q2
theorem pe_op {op : Operator} {r : R2} (ho : OpR X (binaryOp op) r) (ha : PE X a ta) (hb : PE X b tb) : PE X (.BinOp a op b pos) (tOp r ta tb) := by
 intro pins s σ H Q I h
 exact wpAny_BinOp (binT ha hb I h fun v u s2 x y H2 I2 rx ry q => ho pins s2 σ H2 x y v u Q I2 rx ry q)
theorem pe_un {op : UnaryOp} {r : V -> Hp -> VK -> Prop} (ho : UnR X (unaryOp op) r) (ha : PE X a ta) : PE X (.UnaryOp op a pos) (tUn r ta) := by
 intro pins s σ H Q I h
 exact UnaryOp_ (thn (ha pins s σ H _ I h) fun v s1 ⟨x, H1, I1, r1, q1⟩ => ho pins s1 σ H1 x v Q I1 r1 q1)
theorem opI {f : Value -> Value -> Sem Value} {C : Int -> Int -> Prop} {g : Int -> Int -> Int}
  (rule : ∀ (i j : Int) (t u : Tok) (s : Shared) (Q : Value -> Shared -> Prop) (E : Value -> Shared -> Prop), C i j -> Q (.int (g i j) s.toks) { s with toks := s.toks + 1 } -> wpAny (model X.prog X.w) X.A (f (.int i t) (.int j u)) Q E s) :
  OpR X f (rI C fun i j => .int (g i j)) := by
 intro pins s σ H x y v u Q I rx ry h
 obtain ⟨i, j, rfl, rfl, hc, q⟩ := h
 obtain ⟨t, rfl⟩ := rx
 obtain ⟨t', rfl⟩ := ry
 exact rule i j t t' s _ _ hc ⟨.int (g i j), H, I.tok _, ⟨_, rfl⟩, q⟩
theorem opI0 {f : Value -> Value -> Sem Value} {g : Int -> Int -> Int}
  (rule : ∀ (i j : Int) (t u : Tok) (s : Shared) (Q : Value -> Shared -> Prop) (E : Value -> Shared -> Prop), Q (.int (g i j) s.toks) { s with toks := s.toks + 1 } -> wpAny (model X.prog X.w) X.A (f (.int i t) (.int j u)) Q E s) :
  OpR X f (rI0 fun i j => .int (g i j)) := by
 intro pins s σ H x y v u Q I rx ry h
 obtain ⟨i, j, rfl, rfl, q⟩ := h
 obtain ⟨t, rfl⟩ := rx
 obtain ⟨t', rfl⟩ := ry
 exact rule i j t t' s _ _ ⟨.int (g i j), H, I.tok _, ⟨_, rfl⟩, q⟩
theorem opB0 {f : Value -> Value -> Sem Value} {g : Int -> Int -> Bool}
  (rule : ∀ (i j : Int) (t u : Tok) (s : Shared) (Q : Value -> Shared -> Prop) (E : Value -> Shared -> Prop), Q (.bool (g i j)) s -> wpAny (model X.prog X.w) X.A (f (.int i t) (.int j u)) Q E s) :
  OpR X f (rI0 fun i j => .bl (g i j)) := by
 intro pins s σ H x y v u Q I rx ry h
 obtain ⟨i, j, rfl, rfl, q⟩ := h
 obtain ⟨t, rfl⟩ := rx
 obtain ⟨t', rfl⟩ := ry
 exact rule i j t t' s _ _ ⟨.bl (g i j), H, I, rfl, q⟩
def CDiv (i j : Int) : Prop := 0 < j /\ j < 1073741824
def CPow (i j : Int) : Prop := 0 <= j /\ j <= 1000000 /\ i.natAbs < 2 ^ 64
def CMul (i j : Int) : Prop := (-(2 ^ 64) < i /\ i < 2 ^ 64) \/ (-(2 ^ 64) < j /\ j < 2 ^ 64)
theorem CMul.ok {i j : Int} (h : CMul i j) : IntMulOk i j := by
 rcases h with ⟨h1, h2⟩ | ⟨h1, h2⟩
 ·exact .of_left (intBits_le_64 h1 h2)
 ·exact .of_right (intBits_le_64 h1 h2)
theorem op_add : OpR X (binaryOp .Add) (rI0 fun i j => .int (i + j)) := opI0 fun _ _ _ _ _ _ _ q => add_int q
theorem op_sub : OpR X (binaryOp .Sub) (rI0 fun i j => .int (i - j)) := opI0 fun _ _ _ _ _ _ _ q => sub_int q
theorem op_mul : OpR X (binaryOp .Mult) (rI CMul fun i j => .int (i * j)) := opI fun _ _ _ _ _ _ _ hc q => mul_int q hc.ok
theorem op_fdiv : OpR X (binaryOp .FloorDiv) (rI CDiv fun i j => .int (i / j)) := opI fun i j _ _ _ _ _ hc q => by
 have h1 : (0 : Int) < j := hc.1
 have h2 : j < 1073741824 := hc.2
 exact floordiv_int (by omega) (by rw [Int.fdiv_eq_ediv_of_nonneg i (by omega)]; exact q) (.inl (PyProof.noPylong_small (by omega)))
theorem op_mod : OpR X (binaryOp .Mod) (rI (fun _ j => 0 < j) fun i j => .int (i % j)) := opI fun i j _ _ _ _ _ hc q => by
 have h1 : (0 : Int) < j := hc
 exact mod_int' (by omega) (by rw [Int.fmod_eq_emod_of_nonneg i (by omega)]; exact q)
theorem op_pow : OpR X (binaryOp .Pow) (rI CPow fun i j => .int (i ^ j.toNat)) := opI fun _ _ _ _ _ _ _ hc q => pow_int_small hc.1 hc.2.1 hc.2.2 q
theorem unI {f : Value -> Sem Value} {g : Int -> Int}
  (rule : ∀ (i : Int) (t : Tok) (s : Shared) (Q : Value -> Shared -> Prop) (E : Value -> Shared -> Prop), Q (.int (g i) s.toks) { s with toks := s.toks + 1 } -> wpAny (model X.prog X.w) X.A (f (.int i t)) Q E s) :
  UnR X f (rU fun i => .int (g i)) := by
 intro pins s σ H x v Q I rx h
 obtain ⟨i, rfl, q⟩ := h
 obtain ⟨t, rfl⟩ := rx
 exact rule i t s _ _ ⟨.int (g i), H, I.tok _, ⟨_, rfl⟩, q⟩
theorem un_neg : UnR X (unaryOp .USub) (rU fun i => .int (-i)) := unI fun _ _ _ _ _ q => neg_int q
end
def scal : V -> V -> Bool
 | .non, .non => true | .non, .int _ => true | .int _, .non => true | .non, .bl _ => true | .bl _, .non => true | .non, .str _ => true | .str _, .non => true
 | .int _, .int _ => true | .bl _, .bl _ => true | .str _, .str _ => true | .byt _, .byt _ => true
 | .int _, .str _ => true | .str _, .int _ => true | .bl _, .str _ => true | .str _, .bl _ => true
 | _, _ => false
def rEq : R2 := fun x y H Q => scal x y = true /\ Q (.bl (decide (x = y))) H
theorem dec_int {i j : Int} : decide (V.int i = V.int j) = (i == j) := by
 rw [Bool.eq_iff_iff]
 simp
theorem dec_bl {i j : Bool} : decide (V.bl i = V.bl j) = (i == j) := by
 rw [Bool.eq_iff_iff]
 simp
theorem dec_str {i j : Str} : decide (V.str i = V.str j) = (i == j) := by
 rw [Bool.eq_iff_iff]
 simp
theorem dec_byt {i j : Array UInt8} : decide (V.byt i = V.byt j) = (i.toList == j.toList) := by
 rw [Bool.eq_iff_iff]
 cases i
 cases j
 simp
section
variable {X : Cx} {a b c : Expr} {ta tb tc : TE} {pos : Pos}
theorem fin_bl {pins : List (Addr × Obj)} {σ : St} {H : Hp} {s : Shared} {Q : VK} {k k' : Bool} (I : Inv X pins σ H s) (q : Q (.bl k) H) (e : k = k') : EP X pins σ Q (.bool k') s := by
 subst e
 exact ⟨.bl k, H, I, rfl, q⟩
theorem op_eq : OpR X (compareOp .Eq) rEq := by
 intro pins s σ H x y v u Q I rx ry h
 obtain ⟨hs, q⟩ := h
 cases x with
 | non =>
  cases rx
  cases y with
  | non => cases ry; exact PySem.EqNone.eq_none_none (fin_bl I q (by simp))
  | bl j => cases ry; exact PySem.EqNone.eq_none_bool (fin_bl I q (by simp))
  | int j => obtain ⟨t', rfl⟩ := ry; exact PySem.EqNone.eq_none_int (fin_bl I q (by simp))
  | str j => obtain ⟨t', rfl⟩ := ry; exact PySem.EqNone.eq_none_str (fin_bl I q (by simp))
  | _ => exact absurd (show false = true from hs) Bool.false_ne_true
 | bl i =>
  cases rx
  cases y with
  | non => cases ry; exact PySem.EqNone.eq_bool_none (fin_bl I q (by simp))
  | bl j => cases ry; exact eq_bool (fin_bl I q dec_bl)
  | str j => obtain ⟨t', rfl⟩ := ry; exact PySem.EqMixed.eq_bool_str (fin_bl I q (by simp))
  | _ => exact absurd (show false = true from hs) Bool.false_ne_true
 | int i =>
  obtain ⟨t, rfl⟩ := rx
  cases y with
  | non => cases ry; exact PySem.EqNone.eq_int_none (fin_bl I q (by simp))
  | int j => obtain ⟨t', rfl⟩ := ry; exact eq_int (fin_bl I q dec_int)
  | str j => obtain ⟨t', rfl⟩ := ry; exact PySem.EqMixed.eq_int_str (fin_bl I q (by simp))
  | _ => exact absurd (show false = true from hs) Bool.false_ne_true
 | str i =>
  obtain ⟨t, rfl⟩ := rx
  cases y with
  | non => cases ry; exact PySem.EqNone.eq_str_none (fin_bl I q (by simp))
  | bl j => cases ry; exact PySem.EqMixed.eq_str_bool (fin_bl I q (by simp))
  | int j => obtain ⟨t', rfl⟩ := ry; exact PySem.EqMixed.eq_str_int (fin_bl I q (by simp))
  | str j => obtain ⟨t', rfl⟩ := ry; exact eq_str (fin_bl I q dec_str)
  | _ => exact absurd (show false = true from hs) Bool.false_ne_true
 | byt i =>
  obtain ⟨t, rfl⟩ := rx
  cases y with
  | byt j => obtain ⟨t', rfl⟩ := ry; exact PySem.W.eq_bytes (fin_bl I q dec_byt)
  | _ => exact absurd (show false = true from hs) Bool.false_ne_true
 | _ => cases y <;> exact absurd (show false = true from hs) Bool.false_ne_true
theorem op_lt : OpR X (compareOp .Lt) (rI0 fun i j => .bl (decide (i < j))) := opB0 fun _ _ _ _ _ _ _ q => lt_int q
theorem op_isN : OpR X (compareOp .Is) (fun x y H Q => y = .non /\ Q (.bl (decide (x = .non))) H) := by
 intro pins s σ H x y v u Q I rx ry h
 obtain ⟨rfl, q⟩ := h
 cases ry
 refine is_none_gen (fin_bl I q ?_)
 cases x <;> first
  | (cases rx; rfl)
  | (obtain ⟨t, rfl⟩ := rx; rfl)
theorem OpR.or {f : Value -> Value -> Sem Value} {r r' : R2} (h : OpR X f r) (h' : OpR X f r') : OpR X f (fun x y H Q => r x y H Q \/ r' x y H Q) := by
 intro pins s σ H x y v u Q I rx ry q
 rcases q with q | q
 ·exact h pins s σ H x y v u Q I rx ry q
 ·exact h' pins s σ H x y v u Q I rx ry q
theorem nomark (b : Expr) {op : CmpOp} (h : op ≠ .In := by decide) (h2 : op ≠ .NotIn := by decide) : behindInMarks op b = false := by
 have e1 : (op == CmpOp.In) = false := by cases op <;> first | rfl | exact absurd rfl h
 have e2 : (op == CmpOp.NotIn) = false := by cases op <;> first | rfl | exact absurd rfl h2
 cases b <;> simp [behindInMarks, e1, e2]
def tTest (t : TE) : TT := fun σ H Q => t σ H fun x H' => ∃ k, x = .bl k /\ Q k H'
theorem pt_cmpR {op : CmpOp} {r : R2} (ho : OpR X (compareOp op) r) (ha : PE X a ta) (hb : PE X b tb) (hm : behindInMarks op b = false) : PT X (.Compare a [op] [b] pos) (tTest (tOp r ta tb)) := by
 intro pins s σ H Q I h
 refine wpAny_isTrue_Compare1 (thn (ha pins s σ H _ I h) fun v s1 ⟨x, H1, I1, r1, q1⟩ => thn (hb pins s1 σ H1 _ I1 q1) fun u s2 ⟨y, H2, I2, r2, q2⟩ =>
  thn (ho pins s2 σ H2 x y v u _ I2 r1 r2 q2) fun c s3 ⟨z, H3, I3, r3, k, e, q3⟩ => ?_) hm
 subst e
 cases r3
 exact wpAny_truthy_bool ⟨H3, I3, q3⟩
theorem line63 : (sizeLine : Nat) < 2 ^ 63 := by rw [sizeLine_eq]; decide
theorem op_add_str : OpR X (binaryOp .Add) (fun x y H Q => ∃ i j, x = .str i /\ y = .str j /\ i.length + j.length <= sizeLine /\ Q (.str (i ++ j)) H) := by
 intro pins s σ H x y v u Q I rx ry h
 obtain ⟨i, j, rfl, rfl, hz, q⟩ := h
 obtain ⟨t, rfl⟩ := rx
 obtain ⟨t', rfl⟩ := ry
 exact add_str (fun t' tk => ⟨.str (i ++ j), H, I.tok _, ⟨_, rfl⟩, q⟩) hz
theorem vals1 {x : V} {us : List Value} (r : Vals [x] us) : ∃ u, us = [u] /\ RelV x u := by
 cases r with
 | cons r1 r2 => cases r2; exact ⟨_, rfl, r1⟩
theorem vals2 {x y : V} {us : List Value} (r : Vals [x, y] us) : ∃ u w', us = [u, w'] /\ RelV x u /\ RelV y w' := by
 cases r with
 | cons r1 r2 =>
  cases r2 with
  | cons r3 r4 => cases r4; exact ⟨_, _, rfl, r1, r3⟩
end
end L2
namespace L2
open PySem PySem.Spec PyProof.Rows
theorem lookIn_ns {h : Heap} {dx : Addr} {mA : Str -> Option Value} (n : h.Ns1 dx mA) : ∃ od, h.get? dx = some od /\ ∀ name, PySem.W.lookIn name od = some (mA name) := by
 obtain ⟨o, es, ep, ho, hd, hk, _, hm⟩ := n
 refine ⟨o, ho, fun name => ?_⟩
 have e := hm name
 unfold nsFind findBy at e
 rw [<- Array.find?_toList] at e
 unfold PySem.W.lookIn
 rw [hd]
 dsimp only
 split
 ·rename_i y q
  rw [q] at e
  exact congrArg some e
 ·rename_i q
  rw [q] at e
  have a : es.toList.any (·.refKey) = false := by
   rw [List.any_eq_false]
   intro y hy
   obtain ⟨z, t, hkey⟩ := hk y (Array.mem_toList_iff.mp hy)
   simp [DictEntry.refKey, hkey]
  have a' : ¬ es.toList.any (·.refKey) = true := by rw [a]; exact Bool.false_ne_true
  rw [if_neg a']
  exact congrArg some e
def putF (f : Str) (v : V) : List (Str × V) -> List (Str × V)
 | [] => [(f, v)]
 | (g, x) :: r => if g = f then (g, v) :: r else (g, x) :: putF f v r
theorem lookup_putF (f g : Str) (v : V) : ∀ fs : List (Str × V), (putF f v fs).lookup g = if g = f then some v else fs.lookup g
 | [] => by
  show List.lookup g [(f, v)] = _
  by_cases h : g = f
  ·have hb : (g == f) = true := beq_iff_eq.mpr h
   simp only [List.lookup, hb, if_pos h]
  ·have hb : (g == f) = false := beq_eq_false_iff_ne.mpr h
   simp only [List.lookup, hb, if_neg h]
 | (k, x) :: r => by
  have ih := lookup_putF f g v r
  rw [show putF f v ((k, x) :: r) = (if k = f then (k, v) :: r else (k, x) :: putF f v r) from rfl]
  by_cases hk : k = f
  ·rw [if_pos hk]
   by_cases h : g = k
   ·have hb : (g == k) = true := beq_iff_eq.mpr h
    simp only [List.lookup, hb, if_pos (h.trans hk)]
   ·have hb : (g == k) = false := beq_eq_false_iff_ne.mpr h
    simp only [List.lookup, hb, if_neg (fun e : g = f => h (e.trans hk.symm))]
  ·rw [if_neg hk]
   by_cases h : g = k
   ·have hb : (g == k) = true := beq_iff_eq.mpr h
    simp only [List.lookup, hb, if_neg (fun e : g = f => hk (h.symm.trans e))]
   ·have hb : (g == k) = false := beq_eq_false_iff_ne.mpr h
    simp only [List.lookup, hb]
    exact ih
theorem keys_putF (f : Str) (v : V) : ∀ fs : List (Str × V), f ∈ (putF f v fs).map (·.1) /\ ∀ g, g ∈ fs.map (·.1) -> g ∈ (putF f v fs).map (·.1)
 | [] => ⟨by simp [putF], fun g h => by simp at h⟩
 | (k, x) :: r => by
  obtain ⟨i1, i2⟩ := keys_putF f v r
  rw [show putF f v ((k, x) :: r) = (if k = f then (k, v) :: r else (k, x) :: putF f v r) from rfl]
  by_cases hk : k = f
  ·rw [if_pos hk]
   subst hk
   exact ⟨by simp, fun g h => by simpa using h⟩
  ·rw [if_neg hk]
   refine ⟨?_, fun g h => ?_⟩
   ·rw [List.map_cons]
    exact List.mem_cons_of_mem _ i1
   ·rw [List.map_cons] at h ⊢
    rcases List.mem_cons.mp h with e | e
    ·exact List.mem_cons.mpr (.inl e)
    ·exact List.mem_cons_of_mem _ (i2 g e)
theorem length_putF (f : Str) (v : V) : ∀ fs : List (Str × V), (putF f v fs).length <= fs.length + 1
 | [] => by simp [putF]
 | (k, x) :: r => by
  have ih := length_putF f v r
  rw [show putF f v ((k, x) :: r) = (if k = f then (k, v) :: r else (k, x) :: putF f v r) from rfl]
  by_cases hk : k = f
  ·rw [if_pos hk, List.length_cons, List.length_cons]; omega
  ·rw [if_neg hk, List.length_cons, List.length_cons]; omega
theorem RelO.some_of {v : V} {o : Option Value} (r : RelO (some v) o) : ∃ u, o = some u /\ RelV v u := by
 cases o with
 | none => exact (show False from r).elim
 | some u => exact ⟨u, rfl, r⟩
theorem handed_of {v : V} {u : Value} (r : RelV v u) : PySem.W.handedIn u = true := by
 cases v with
 | non => cases (show u = Value.none from r); rfl
 | bl b => cases (show u = Value.bool b from r); rfl
 | int i => obtain ⟨t, e⟩ := (show ∃ t, u = Value.int i t from r); cases e; rfl
 | str x => obtain ⟨t, e⟩ := (show ∃ t, u = Value.str x t from r); cases e; rfl
 | byt b => obtain ⟨t, e⟩ := (show ∃ t, u = Value.bytes b t from r); cases e; rfl
 | flt b => obtain ⟨t, e⟩ := (show ∃ t, u = Value.float b t from r); cases e; rfl
 | ref a => cases (show u = Value.ref a from r); rfl
 | ty n => cases (show u = Value.type n from r); rfl
def NoAttr (K : PySem.W.Frag) (C : Addr) (f : Str) : Prop := PySem.W.findIn K (.ref C) f = some none
theorem NoAttr.taker {K : PySem.W.Frag} {C : Addr} {f : Str} (n : NoAttr K C f) : PySem.W.takerIn K C f = some none := by
 unfold PySem.W.takerIn
 rw [show PySem.W.findIn K (.ref C) f = some none from n]
 rfl
section
variable {X : Cx} {pins : List (Addr × Obj)} {σ : St} {H : Hp} {s : Shared} {a C dx : Addr} {fs : List (Str × V)} {f : Str} {v : V} {A : Around} {E : Value -> Shared -> Prop}
theorem attr_of {prog : Program} {w : World} {env : Env} {e : Expr} {f : Str} {pos : Pos} {s : Shared} {Q : Value -> Shared -> Prop} (hb : attributeBase e f env (eval e env) = eval e env)
  (h : wpAny (model prog w) A (eval e env) (fun o s₁ => wpAny (model prog w) A (getAttr o f true) Q E s₁) E s) : wpAny (model prog w) A (eval (.Attribute e f pos) env) Q E s :=
 Attribute_any_ h (by rw [arm_eval_Attribute, hb])
end
end L2
namespace L2
open PySem PySem.Spec PyProof.Rows
structure Room (k : Nat) (A : Around) : Prop where
 hd : A.handled = none
 dp : A.depth + 3 * k + 5 < recursionLimit
 un : A.units + 16 * k + 200 < cLine
 gd : A.guards = some []
theorem Room.mono {j k : Nat} {A : Around} (r : Room k A) (h : j <= k) : Room j A := ⟨r.hd, by have := r.dp; omega, by have := r.un; omega, r.gd⟩
theorem Room.deeper {k : Nat} {A : Around} (r : Room (k + 1) A) (env : Env) : Room k (A.deeper env) :=
 ⟨r.hd, by have := r.dp; show A.depth + 1 + 3 * k + 5 < _; omega, by have := r.un; show A.units + 3 + 16 * k + 200 < _; omega, r.gd⟩
theorem make_depth {A : Around} {C : Addr} {us : List Value} {kw : List (Str × Value)} : (A.under (.builtin "type.__call__" ⟨.ref C :: us, kw⟩)).depth = A.depth + 1 := by
 first | rfl | simp [Around.under, Code.weight, Code.isCreation, Code.isGuard, Code.isCaller, Code.frames, Code.isFrame, guardIds]
theorem make_units {A : Around} {C : Addr} {us : List Value} {kw : List (Str × Value)} : (A.under (.builtin "type.__call__" ⟨.ref C :: us, kw⟩)).units = A.units + 1 := by
 first | rfl | simp [Around.under, Code.cUnits, Code.frames, Code.isFrame]
theorem Room.make {k : Nat} {A : Around} (r : Room (k + 1) A) (C : Addr) (us : List Value) (kw : List (Str × Value)) : Room k (A.under (.builtin "type.__call__" ⟨.ref C :: us, kw⟩)) :=
 ⟨r.hd, by have := r.dp; rw [make_depth]; omega, by have := r.un; rw [make_units]; omega, r.gd⟩
theorem Room.depth {k : Nat} {A : Around} (r : Room k A) : A.depth < recursionLimit := by have := r.dp; omega
theorem Room.units {k : Nat} {A : Around} (r : Room k A) : A.units + 64 < cLine := by have := r.un; omega
def tNil : TA := fun _ H Q => Q [] H
def tCons (ta : TE) (tr : TA) : TA := fun σ H Q => ta σ H fun x H1 => tr σ H1 fun xs H2 => Q (x :: xs) H2
section
variable {X : Cx} {e : Expr} {es : List Expr} {te : TE} {t : TA} {pos : Pos}
theorem pa_nil : PA X [] tNil := fun _ _ _ _ H Q I h => Calls.spliced_nil ⟨[], H, I, .nil, h⟩
theorem pa_cons (ha : PE X e te) (hr : PA X es t) (hs : starEach (e :: es) X.env = (false, eval e X.env) :: starEach es X.env := by rfl) : PA X (e :: es) (tCons te t) := by
 intro pos pins s σ H Q I h
 rw [hs]
 show wpAny _ _ (spliced ((false, eval e X.env) :: backTo pos (starEach es X.env))) _ _ s
 refine Calls.spliced_cons (thn (ha pins s σ H _ I h) fun u s1 ⟨x, H1, I1, r1, q1⟩ => ?_)
 exact thn (hr pos pins s1 σ H1 _ I1 q1) fun us s2 ⟨xs, H2, I2, r2, q2⟩ => ⟨x :: xs, H2, I2, .cons r1 r2, q2⟩
def tTup (t : TA) : TE := fun σ H Q => t σ H fun xs H1 => xs.length <= sizeLine /\ ∀ p, H1 p = none -> Q (.ref p) (upd H1 p (.tup xs))
def tLst (t : TA) : TE := fun σ H Q => t σ H fun xs H1 => xs.length <= sizeLine /\ ∀ p, H1 p = none -> Q (.ref p) (upd H1 p (.lst xs))
theorem pe_tup {x1} (h : PA X es t) : PE X (.Tuple es x1 pos) (tTup t) := by
 intro pins s σ H Q I hq
 refine wpAny_Tuple_spliced (thn (h pos pins s σ H _ I hq) fun us s1 ⟨xs, H1, I1, r, z, q⟩ => ⟨by rw [<- r.length]; exact z, ?_⟩)
 have hf : H1 s1.heap.objs.size = none := I1.hok.fresh (Nat.le_refl _)
 refine ⟨.ref s1.heap.objs.size, upd H1 s1.heap.objs.size (.tup xs), I1.laid (t' := s1.toks) (fun b u e => Heap.get?_push_of_some _ e) (Nat.le_refl _) ?_, rfl, q _ hf⟩
 exact ⟨z, us, r, ⟨_, Heap.get?_push_size _ rfl, rfl, _, rfl⟩⟩
theorem pe_lst (h : PA X es t) : PE X (.List es pos) (tLst t) := by
 intro pins s σ H Q I hq
 refine wpAny_List_spliced (thn (h pos pins s σ H _ I hq) fun us s1 ⟨xs, H1, I1, r, z, q⟩ => ⟨by rw [<- r.length]; exact z, ?_⟩)
 have hf : H1 s1.heap.objs.size = none := I1.hok.fresh (Nat.le_refl _)
 refine ⟨.ref s1.heap.objs.size, upd H1 s1.heap.objs.size (.lst xs), I1.laid (t' := s1.toks) (fun b u e => Heap.get?_push_of_some _ e) (Nat.le_refl _) ?_, rfl, q _ hf⟩
 exact ⟨z, us, 0, r, Heap.get?_push_size _ rfl⟩
end
abbrev Sp := List V -> Hp -> VK -> XK -> Prop
abbrev CXT := List Env -> Hp -> Shared -> XK -> Value -> Shared -> Prop
structure Env0 (P : Program) (w : World) (K : PySem.W.Frag) (mg : Str -> Option Value) (base : Heap) (A : Around) (outer : List Env) (s : Shared) (H : Hp) : Prop where
 frames : A.frames = some outer
 mod : Mod K mg base
 bs : ∀ b o, base.get? b = some o -> s.heap.get? b = some o /\ H b = none
 bsz : base.objs.size <= s.heap.objs.size
 funs : s.heap.FunFrames base outer
 frf : ∀ b ∈ frs outer, H b = none
 hok : HOk P w H s.heap
 bare : AllBare s.gens
def CE (outer : List Env) (P : Program) (w : World) (H : Hp) (s : Shared) (Q : VK) (u : Value) (s' : Shared) : Prop :=
 ∃ v H', s'.os = s.os /\ AllBare s'.gens /\ Un (frs outer) [] H H' s.heap s'.heap /\ HOk P w H' s'.heap /\ RelV v u /\ Q v H'
def CR (CX : CXT) (outer : List Env) (P : Program) (w : World) (H : Hp) (s : Shared) (Q : VK) (E : XK) (r : Result) (s' : Shared) : Prop :=
 match r with
 | .ok (.ret u) => CE outer P w H s Q u s'
 | .ok _ => False
 | .error e => CX outer H s E e s'
structure FnOk (P : Program) (w : World) (K : PySem.W.Frag) (mg : Str -> Option Value) (base : Heap) (CX : CXT) (k : Nat) (f : Addr) (fd : FuncData) (ps : List Str) (sp : Sp) : Prop where
 len : ∀ vs H Q E, sp vs H Q E -> vs.length = ps.length
 run : ∀ (A : Around) (outer : List Env) (s : Shared) (H : Hp) (args : Args) (us : List Value) (vs : List V) (Q : VK) (E : XK), Room k A -> Env0 P w K mg base A outer s H -> BindsTo s fd args (ps.zip us) -> Vals vs us -> sp vs H Q E ->
  codeAny (model P w) A (.call (.ref f) args) (CR CX outer P w H s Q E) s
theorem FnOk.imp {P : Program} {w : World} {K : PySem.W.Frag} {mg : Str -> Option Value} {base : Heap} {CX : CXT} {k : Nat} {f : Addr} {fd : FuncData} {ps : List Str} {sp sp' : Sp} (F : FnOk P w K mg base CX k f fd ps sp)
  (h : ∀ vs H Q E, sp' vs H Q E -> sp vs H Q E) : FnOk P w K mg base CX k f fd ps sp' :=
 ⟨fun vs H Q E q => F.len vs H Q E (h _ _ _ _ q), fun A outer s H args us vs Q E hr he hb hv hs => F.run A outer s H args us vs Q E hr he hb hv (h _ _ _ _ hs)⟩
theorem Env0.make {P : Program} {w : World} {K : PySem.W.Frag} {mg : Str -> Option Value} {base : Heap} {A : Around} {outer : List Env} {s : Shared} {H : Hp} (e : Env0 P w K mg base A outer s H) (C : Addr) (us : List Value) (kw : List (Str × Value)) :
  Env0 P w K mg base (A.under (.builtin "type.__call__" ⟨.ref C :: us, kw⟩)) outer s H := ⟨by first | exact e.frames | (simpa [Around.under, Code.envs, Code.isFrame, pushEnvs] using e.frames), e.mod, e.bs, e.bsz, e.funs, e.frf, e.hok, e.bare⟩
section
variable {X : Cx} {pins : List (Addr × Obj)} {σ : St} {H : Hp} {s s' : Shared}
theorem Inv.env0 (I : Inv X pins σ H s) : Env0 X.prog X.w X.K X.mg X.base X.A X.stack s H :=
 ⟨I.ok.frames, I.ok.mod, I.bs, Nat.le_trans I.ok.bsz I.sz, I.stack, I.stkFree, I.hok, I.bare⟩
theorem Inv.after {Q : VK} {u : Value} (I : Inv X pins σ H s) (h : CE X.stack X.prog X.w H s Q u s') : EP X pins σ Q u s' := by
 obtain ⟨v, H', os, bare, un, hok, r, q⟩ := h
 obtain ⟨hh, g, d, t, os'⟩ := s'
 obtain rfl : os' = s.os := os
 exact ⟨v, H', I.call (h' := hh) (g' := g) (d' := d) (t' := t) (ch := []) un hok bare (fun b z => absurd z (by simp)), r, q⟩
end
def tCall (sp : Sp) (dvs : List V) (E : XK) (t : TA) : TE := fun σ H Q => t σ H fun vs H1 => sp (vs ++ dvs) H1 Q E
def Binds (K : PySem.W.Frag) (fd : FuncData) (ps : List Str) (ds : List Value) : Prop :=
 ∀ (s : Shared) (us : List Value), K.In s.heap -> (us ++ ds).length = ps.length -> BindsTo s fd ⟨us, []⟩ (ps.zip (us ++ ds))
theorem Binds.all {K : PySem.W.Frag} {fd : FuncData} {ps : List Str} (h : ∀ us : List Value, us.length = ps.length -> bindArgs fd ⟨us, []⟩ = pure (ps.zip us)) : Binds K fd ps [] := fun s us _ hl => by
 rw [List.append_nil] at hl ⊢
 exact .of_eq (h us hl)
def Passes (CX : CXT) (X : Cx) (E : XK) : Prop := ∀ (pins : List (Addr × Obj)) (σ : St) (H : Hp) (s : Shared) (e : Value) (s' : Shared), Inv X pins σ H s -> CX X.stack H s E e s' -> X.xe e s'
section
variable {X : Cx} {CX : CXT} {k : Nat} {f C : Addr} {fd : FuncData} {ps : List Str} {sp : Sp} {dvs : List V} {ds : List Value} {E : XK} {x m : Str} {p pos apos : Pos} {e o : Expr} {es : List Expr} {ta : TE} {t : TA}
theorem run_fn {pins : List (Addr × Obj)} {σ : St} {H : Hp} {s : Shared} {Q : VK} {us : List Value} {vs : List V} (F : FnOk X.prog X.w X.K X.mg X.base CX k f fd ps sp) (hr : Room k X.A) (hb : Binds X.K fd ps ds) (hd : Vals dvs ds) (hx : Passes CX X E)
  (I : Inv X pins σ H s) (r : Vals vs us) (h : sp (vs ++ dvs) H Q E) : wpAny (model X.prog X.w) X.A (call (.ref f) us) (EP X pins σ Q) X.xe s := by
 have r2 : Vals (vs ++ dvs) (us ++ ds) := r.append hd
 have hl : (us ++ ds).length = ps.length := by rw [<- r2.length]; exact F.len _ _ _ _ h
 refine wpAny_call (codeAny_mono (F.run X.A X.stack s H ⟨us, []⟩ (us ++ ds) (vs ++ dvs) Q E hr I.env0 (hb s us I.kIn hl) r2 h) fun r s' hq => ?_)
 cases r with
 | error e => exact hx pins σ H s e s' I hq
 | ok fl =>
  cases fl with
  | ret u => exact I.after hq
  | next => exact False.elim hq
  | brk => exact False.elim hq
  | cont => exact False.elim hq
theorem pe_call (F : FnOk X.prog X.w X.K X.mg X.base CX k f fd ps sp) (hr : Room k X.A) (hg : Gl X x) (hm : X.mg x = some (.ref f)) (hk : PySem.W.keepIn X.K (.ref f) = true) (hb : Binds X.K fd ps ds) (hd : Vals dvs ds) (hx : Passes CX X E)
  (ha : PA X (e :: es) t) (hdb : (x == ("__debug__" : Str)) = false := by decide) (he : starEach (e :: es) X.env = (false, eval e X.env) :: starEach es X.env := by rfl) (hpl : (backTo pos (starEach es X.env)).any (·.1) = false := by rfl) :
  PE X (.Call (.Name x p) (e :: es) [] pos) (tCall sp dvs E t) := by
 intro pins s σ H Q I h
 refine wpAny_Call_Name_kw (ld_glob I hg hm ?_ hdb)
 refine PySem.W.callWith_K (h₀ := X.base) I.ok.mod.kin hk (thn (ha pos pins s σ H _ I h) fun us s1 ⟨vs, H1, I1, r, q⟩ => ⟨I1.kIn, ?_⟩) he hpl
 exact run_fn F hr hb hd hx I1 r q
theorem pe_call0 (F : FnOk X.prog X.w X.K X.mg X.base CX k f fd ps sp) (hr : Room k X.A) (hg : Gl X x) (hm : X.mg x = some (.ref f)) (hk : PySem.W.keepIn X.K (.ref f) = true) (hb : Binds X.K fd ps ds) (hd : Vals dvs ds) (hx : Passes CX X E)
  (hdb : (x == ("__debug__" : Str)) = false := by decide) : PE X (.Call (.Name x p) [] [] pos) (tCall sp dvs E tNil) := by
 intro pins s σ H Q I h
 refine wpAny_Call_Name_kw (ld_glob I hg hm ?_ hdb)
 exact PySem.W.callWith_K0 I.kIn hk (run_fn (us := []) F hr hb hd hx I .nil h)
end
structure FnScope (N P : List Str) (sc : Scope) : Prop where
 kind : sc.kind = .function
 co : sc.isCoroutine = false
 gen : sc.isGenerator = false
 nd : N.Nodup
 pre : N.take P.length = P
 par : ∀ x ∈ P, sc.names.lookup x = some .local \/ sc.names.lookup x = some .cell
 nofree : ∀ y ∈ sc.names, y.2 ≠ .free
theorem fsc {N P : List Str} {sc : Scope} (h : sc.kind = .function /\ sc.isCoroutine = false /\ sc.isGenerator = false /\ N.Nodup /\ N.take P.length = P /\ (∀ x ∈ P, sc.names.lookup x = some .local \/ sc.names.lookup x = some .cell) /\ ∀ y ∈ sc.names, y.2 ≠ .free) : FnScope N P sc := ⟨h.1, h.2.1, h.2.2.1, h.2.2.2.1, h.2.2.2.2.1, h.2.2.2.2.2.1, h.2.2.2.2.2.2⟩
theorem bindL_out {kindOf : Str -> Option NameKind} {x : Str} : ∀ {binds : List (Str × Value)} {m : Str -> Option Value}, (∀ v, (x, v) ∉ binds) -> bindL kindOf binds m x = m x
 | [], _, _ => rfl
 | (n, v) :: r, m, h => by
  unfold bindL
  rw [bindL_out fun w hw => h w (List.mem_cons_of_mem _ hw)]
  split
  ·have : x ≠ n := by rintro rfl; exact h v List.mem_cons_self
   simp [this]
  ·rfl
theorem bindC_out {kindOf : Str -> Option NameKind} {x : Str} : ∀ {binds : List (Str × Value)} {m : Str -> Option Value}, (∀ v, (x, v) ∉ binds) -> bindC kindOf binds m x = m x
 | [], _, _ => rfl
 | (n, v) :: r, m, h => by
  unfold bindC
  rw [bindC_out fun w hw => h w (List.mem_cons_of_mem _ hw)]
  split
  ·rfl
  ·have : x ≠ n := by rintro rfl; exact h v List.mem_cons_self
   simp [this]
theorem bindL_get {kindOf : Str -> Option NameKind} {x : Str} {v : Value} : ∀ {P : List Str} {vs : List Value} {i : Nat} {m : Str -> Option Value}, P.Nodup -> P[i]? = some x -> vs[i]? = some v -> kindOf x = some .local ->
  bindL kindOf (P.zip vs) m x = some v
 | [], _, _, _, _, h, _, _ => by simp at h
 | _ :: _, [], _, _, _, _, h, _ => by simp at h
 | p :: P, w :: vs, 0, m, nd, h1, h2, hk => by
  simp at h1 h2; subst h1; subst h2
  show bindL kindOf ((p, w) :: P.zip vs) m p = _
  unfold bindL
  rw [bindL_out fun v hv => (List.nodup_cons.mp nd).1 (List.of_mem_zip hv).1, if_pos hk]
  simp
 | p :: P, w :: vs, i + 1, m, nd, h1, h2, hk => by
  show bindL kindOf ((p, w) :: P.zip vs) m x = _
  unfold bindL
  exact bindL_get (i := i) (List.nodup_cons.mp nd).2 (by simpa using h1) (by simpa using h2) hk
theorem bindC_get {kindOf : Str -> Option NameKind} {x : Str} {v : Value} : ∀ {P : List Str} {vs : List Value} {i : Nat} {m : Str -> Option Value}, P.Nodup -> P[i]? = some x -> vs[i]? = some v -> kindOf x ≠ some .local ->
  bindC kindOf (P.zip vs) m x = some v
 | [], _, _, _, _, h, _, _ => by simp at h
 | _ :: _, [], _, _, _, _, h, _ => by simp at h
 | p :: P, w :: vs, 0, m, nd, h1, h2, hk => by
  simp at h1 h2; subst h1; subst h2
  show bindC kindOf ((p, w) :: P.zip vs) m p = _
  unfold bindC
  rw [bindC_out fun v hv => (List.nodup_cons.mp nd).1 (List.of_mem_zip hv).1, if_neg hk]
  simp
 | p :: P, w :: vs, i + 1, m, nd, h1, h2, hk => by
  show bindC kindOf ((p, w) :: P.zip vs) m x = _
  unfold bindC
  exact bindC_get (i := i) (List.nodup_cons.mp nd).2 (by simpa using h1) (by simpa using h2) hk
def start (N : List Str) (vs : List V) : St := vs.map some ++ List.replicate (N.length - vs.length) none
def cxOf (CX : CXT) (P : Program) (w : World) (K : PySem.W.Frag) (mg : Str -> Option Value) (base : Heap) (N : List Str) (qual : Str) (scope : Scope) (f : Addr) (cd : Value) (A : Around) (outer : List Env) (s : Shared) (H : Hp) (E : XK) : Cx where
 prog := P
 w := w
 K := K
 mg := mg
 base := base
 A := A.deeper (envOfC qual scope s.heap.objs.size f cd)
 N := N
 s₀ := s
 H₀ := H
 env := envOfC qual scope s.heap.objs.size f cd
 outer := outer
 stack := envOfC qual scope s.heap.objs.size f cd :: outer
 ex := []
 calm := true
 fn := fun _ => true
 pn := []
 xe := fun e s' => wpAny (model P w) (A.deeper (envOfC qual scope s.heap.objs.size f cd)) (leaving (envOfC qual scope s.heap.objs.size f cd) e) (fun _ s'' => CX outer H s E e s'') (fun e' s'' => CX outer H s E e' s'') s'
theorem cell_has {sc : Scope} {n : Nat} {x : Str} (h : sc.names.lookup x = some .cell) : ∃ c, (cellsFrom n sc.names []).lookup x = some c := by
 have q := PySem.W.cellsFrom_some sc.names n [] (.inl h)
 exact Option.isSome_iff_exists.mp q
theorem inv_start {CX : CXT} {P : Program} {w : World} {K : PySem.W.Frag} {mg : Str -> Option Value} {base : Heap} {N ps : List Str} {qual : Str} {scope : Scope} {f : Addr} {cd : Value} {A : Around} {outer : List Env} {s s1 : Shared} {H : Hp} {E : XK} {us : List Value} {vs : List V}
  (S : FnScope N ps scope) (hd : A.handled = none) (e0 : Env0 P w K mg base A outer s H) (hl : vs.length = ps.length) (r : Vals vs us)
  (x : InCallC s s.heap.objs.size (bindL (envOfC qual scope s.heap.objs.size f cd).kindOf (ps.zip us) fun _ => none) (cellsFrom (s.heap.objs.size + 1) scope.names []) (bindC (envOfC qual scope s.heap.objs.size f cd).kindOf (ps.zip us) fun _ => none) s1) :
  Inv (cxOf CX P w K mg base N qual scope f cd A outer s H E) [] (start N vs) H s1 := by
 have hpl : ps.length <= N.length := by have := congrArg List.length S.pre; rw [List.length_take] at this; omega
 obtain ⟨h1, tk, rfl, hk⟩ := x.done
 have noA : ∀ b : Addr, b ∉ (cxOf CX P w K mg base N qual scope f cd A outer s H E).ex := fun b z => absurd (show b ∈ ([] : List Addr) from z) (by simp)
 refine ⟨⟨e0.mod, S.kind, rfl, rfl, Nat.le_refl _, fun y z c h1 h2 => ?_, fun y hy => ?_, fun y c _ h => ?_, fun _ => hd, Around.frames_deeper e0.frames, .inr ⟨rfl, rfl⟩, fun b z => absurd z (noA b), e0.bs, e0.bsz, fun b _ _ => noA b, fun b z => absurd z (noA b), e0.funs, e0.frf⟩,
  rfl, e0.bare, Un.kept hk, ⟨_, x.toInCall.ns, fun i y v h1 h2 h3 => ?_⟩, fun y c h => ⟨_, x.cell y c h⟩, e0.hok.fresh (Nat.le_refl _), fun y c h => ?_, fun p hp => absurd (show p ∈ ([] : List (Addr × Obj)) from hp) (by simp), e0.hok.kept hk, ?_⟩
 ·exact name_of_addr x.apart (PySem.mem_of_lookup h1) (PySem.mem_of_lookup h2)
 ·have hy : scope.names.lookup y = some .cell \/ scope.names.lookup y = some .free := hy
  rcases hy with hy | hy
  ·exact cell_has hy
  ·exact absurd rfl (S.nofree _ (PySem.mem_of_lookup hy))
 ·exact Nat.le_of_lt (x.above y c (PySem.mem_of_lookup h))
 ·have hi : i < vs.length := by
   unfold start at h2
   by_cases hi : i < vs.length
   ·exact hi
   ·rw [List.getElem?_append_right (by simpa using hi)] at h2
    rw [List.getElem?_replicate] at h2
    split at h2 <;> cases h2
  have ha : vs[i]? = some v := by
   unfold start at h2
   rw [List.getElem?_append_left (by simpa using hi), List.getElem?_map] at h2
   cases e : vs[i]? with
   | none => rw [e] at h2; cases h2
   | some a => rw [e] at h2; cases h2; rfl
  obtain ⟨u, hu, rv⟩ := r.get ha
  have hp : ps[i]? = some y := by
   rw [<- S.pre, List.getElem?_take_of_lt (by omega)]; exact h1
  have ndP : ps.Nodup := by rw [<- S.pre]; exact S.nd.sublist (List.take_sublist _ _)
  refine ⟨u, rv, ?_⟩
  rcases S.par y (List.mem_of_getElem? hp) with k | k
  ·exact .inl ⟨k, bindL_get ndP hp hu k⟩
  ·obtain ⟨c, e⟩ := cell_has (n := s.heap.objs.size + 1) k
   refine .inr ⟨.inl k, c, e, ?_⟩
   have q := x.cell y c e
   rw [bindC_get ndP hp hu (by show scope.names.lookup y ≠ _; rw [k]; decide)] at q
   exact q
 ·exact e0.hok.fresh (Nat.le_of_lt (x.above y c (PySem.mem_of_lookup h)))
 ·unfold start
  show _ = N.length
  rw [List.length_append, List.length_map, List.length_replicate]
  omega
theorem fn_of {CX : CXT} {P : Program} {w : World} {K : PySem.W.Frag} {mg : Str -> Option Value} {base : Heap} {k : Nat} {f : Addr} {name qual : Str} {params : Arguments} {body : List Stmt} {scope : Scope} {dV kV doc pm cdv ct oc : Value} {an od : Option Addr}
  {osl : Array (Option Value)} {N ps : List Str} {sp : Sp} (lk : K.lookup f = some ⟨oc, od, .func (PySem.W.fnOf name qual params body scope dV kV doc pm an cdv ct), osl⟩) (hcd : PySem.W.codeIn K cdv qual = true) (S : FnScope N ps scope)
  (len : ∀ vs H Q E, sp vs H Q E -> vs.length = ps.length)
  (hbody : ∀ (A : Around) (outer : List Env) (s : Shared) (H : Hp) (vs : List V) (Q : VK) (E : XK), Room k (A.deeper (envOfC qual scope s.heap.objs.size f cdv)) -> sp vs H Q E ->
   ∃ t, PSs (cxOf CX P w K mg base N qual scope f cdv A outer s H E) body t /\ t { nx := fun _ H' => Q .non H', rt := Q } (start N vs) H) :
  FnOk P w K mg base CX (k + 1) f (PySem.W.fnOf name qual params body scope dV kV doc pm an cdv ct) ps sp := by
 refine ⟨len, fun A outer s H args us vs Q E hr e0 hb r hsp => ?_⟩
 have hl := len _ _ _ _ hsp
 have KX : K.In s.heap := e0.mod.kin.keeps fun b o e => (e0.bs b o e).1
 have lim : s.heap.NoLimit := e0.mod.nolimit.keeps fun b o e => (e0.bs b o e).1
 have hkind : ∀ y ∈ ps.zip us, scope.names.lookup y.1 = some .local \/ (scope.names.lookup y.1 = some .cell /\ ((cellsFrom (s.heap.objs.size + 1) scope.names []).lookup y.1).isSome = true) := fun ⟨n, v⟩ hy => by
  rcases S.par n (List.of_mem_zip hy).1 with q | q
  ·exact .inl q
  ·exact .inr ⟨q, PySem.W.cellsFrom_some _ _ _ (.inl q)⟩
 refine codeAny_call_function hr.depth (KX _ _ lk) rfl S.co S.gen rfl (PySem.W.codeRec_of KX hcd) (hb _ _ _ _ ?_)
 refine wpAny_newFunctionEnv_cells S.kind hkind fun env he s1 x => ?_
 subst he
 refine ⟨lim.keeps x.toInCall.keep, codeAny_func ?_⟩
 obtain ⟨t, ht, hq⟩ := hbody A outer s H vs Q E (hr.deeper _) hsp
 have I : Inv (cxOf CX P w K mg base N qual scope f cdv A outer s H E) [] (start N vs) H s1 := inv_start S hr.hd e0 hl r x
 refine wpAny_mono (ht [] s1 (start N vs) H _ I hq) (fun fl s' hs => ?_) fun e s' hs => hs
 have fin : ∀ {σ' : St} {H' : Hp} {v : V} {u : Value}, Inv (cxOf CX P w K mg base N qual scope f cdv A outer s H E) [] σ' H' s' -> RelV v u -> Q v H' -> CE outer P w H s Q u s' :=
  fun {σ' H' v u} J rv q => ⟨v, H', J.os, J.bare, J.base, J.hok, rv, q⟩
 cases fl with
 | ret u =>
  obtain ⟨v, σ', H', J, rv, q⟩ := hs
  exact fin J rv q
 | next =>
  obtain ⟨σ', H', J, q⟩ := hs
  exact fin (v := V.non) (u := Value.none) J rfl q
 | brk =>
  obtain ⟨_, _, _, q⟩ := hs
  exact False.elim q
 | cont =>
  obtain ⟨_, _, _, q⟩ := hs
  exact False.elim q
end L2
namespace L2
open PySem PySem.Spec PyProof.Rows
section
variable {X : Cx} {x : Str} {p pos : Pos} {e : Expr} {es : List Expr} {t : TA} {id T : String} {r : List V -> Hp -> VK -> Prop}
def tCB (r : List V -> Hp -> VK -> Prop) (t : TA) : TE := fun σ H Q => t σ H fun vs H1 => r vs H1 Q
theorem pe_callB (hc : CallR X (.builtin id) r) (hg : Gl X x) (hm : X.mg x = none) (hv : bootBuiltins x = some (.builtin id)) (ha : PA X (e :: es) t) (hn : x ≠ "__name__" := by decide) (hdb : (x == ("__debug__" : Str)) = false := by decide)
  (he : starEach (e :: es) X.env = (false, eval e X.env) :: starEach es X.env := by rfl) (hpl : (backTo pos (starEach es X.env)).any (·.1) = false := by rfl) : PE X (.Call (.Name x p) (e :: es) [] pos) (tCB r t) := by
 intro pins s σ H Q I h
 refine wpAny_Call_Name_kw (ld_blt I hg hm hv ?_ hn hdb)
 exact PyProof.Rows.callWith_builtin1 (thn (ha pos pins s σ H _ I h) fun us s1 ⟨vs, H1, I1, r1, q1⟩ => hc pins s1 σ H1 vs us Q I1 r1 q1) he hpl
theorem pe_callTy (hc : CallR X (.type T) r) (hg : Gl X x) (hm : X.mg x = none) (hv : bootBuiltins x = some (.type T)) (ha : PA X (e :: es) t) (hn : x ≠ "__name__" := by decide) (hdb : (x == ("__debug__" : Str)) = false := by decide)
  (he : starEach (e :: es) X.env = (false, eval e X.env) :: starEach es X.env := by rfl) (hpl : (backTo pos (starEach es X.env)).any (·.1) = false := by rfl) : PE X (.Call (.Name x p) (e :: es) [] pos) (tCB r t) := by
 intro pins s σ H Q I h
 refine wpAny_Call_Name_kw (ld_blt I hg hm hv ?_ hn hdb)
 exact PyProof.Rows.callWith_type1 (thn (ha pos pins s σ H _ I h) fun us s1 ⟨vs, H1, I1, r1, q1⟩ => hc pins s1 σ H1 vs us Q I1 r1 q1) he hpl
end
end L2
namespace HT
open PySem PyProof.Rows
section
variable {prog : Program} {w : World} {A : Around} {E : Value -> Shared -> Prop} {s : Shared}
theorem cat_tup {t b : Addr} {vs ws : List Value} {Q : Value -> Shared -> Prop} (ht : IsTup s.heap t vs.toArray) (hb : IsTup s.heap b ws.toArray) (hv : vs ≠ [])
  (h1 : ws = [] -> Q (.ref t) s) (h2 : ws ≠ [] -> Q (.ref s.heap.objs.size) { s with heap := s.heap.push { cls := .type "tuple", data := .seq (vs ++ ws).toArray } })
  (hsz : vs.length + ws.length <= sizeLine) : wpAny (model prog w) A (binaryOp .Add (.ref t) (.ref b)) Q E s := by
 obtain ⟨⟨cls, dd, data, sl⟩, ho, hc, n, hd⟩ := id ht
 obtain ⟨⟨cls2, dd2, data2, sl2⟩, ho2, hc2, n2, hd2⟩ := id hb
 simp only at hc hd hc2 hd2
 subst hc hd hc2 hd2
 have e : vs.toArray ++ ws.toArray = (vs ++ ws).toArray := by simp
 by_cases hw : ws = []
 ·exact concat_meets ⟨_, ho, rfl⟩ ⟨_, ho2, rfl⟩ noFill_tuple_add seq_tuple_add PySem.F.slot_tuple_add PySem.F.entry_tuple_add (PySem.F.args_tuple_add_2 _ _)
   (tuple_addW1 t b vs.toArray ws.toArray n n2 dd dd2 sl sl2 (by simpa using hv) (by simp [hw])) ⟨ho, ho2, h1 hw⟩
 ·refine concat_meets ⟨_, ho, rfl⟩ ⟨_, ho2, rfl⟩ noFill_tuple_add seq_tuple_add PySem.F.slot_tuple_add PySem.F.entry_tuple_add (PySem.F.args_tuple_add_2 _ _)
   (tuple_addW2 t b vs.toArray ws.toArray n n2 dd dd2 sl sl2 (by simpa using hv) (by simpa using hw) (by rw [List.size_toArray, List.size_toArray]; exact hsz)) ⟨ho, ho2, ?_⟩
  rw [e]
  exact h2 hw
def sIx (n d : Nat) : Option Int -> Nat
 | none => d
 | some v => if v < 0 then (v + (n : Int)).toNat else min v.toNat n
theorem sIx_le (n d : Nat) (hd : d <= n) (o : Option Int) : sIx n d o <= n := by
 cases o with
 | none => exact hd
 | some v =>
  show (if v < 0 then (v + (n : Int)).toNat else min v.toNat n) <= n
  by_cases hv : v < 0
  ·rw [if_pos hv]; omega
  ·rw [if_neg hv]; exact Nat.min_le_right _ _
theorem clip_eq (v : Int) (n d : Nat) : (if v < 0 then max (v + (n : Int)) 0 else min v (n : Int)) = ((sIx n d (some v) : Nat) : Int) := by
 show (if v < 0 then max (v + (n : Int)) 0 else min v (n : Int)) = (((if v < 0 then (v + (n : Int)).toNat else min v.toNat n) : Nat) : Int)
 by_cases hv : v < 0
 ·simp only [if_pos hv]; omega
 ·simp only [if_neg hv]; omega
theorem adjust_gen (lo hi : Option Int) (n : Nat) : Builtin.Slice.sliceAdjust lo hi 1 (n : Int) = (((sIx n 0 lo : Nat) : Int), ((sIx n n hi : Nat) : Int)) := by
 have h1 : ¬ ((1 : Int) < 0) := by omega
 unfold Builtin.Slice.sliceAdjust
 simp only [h1, if_false]
 refine Prod.ext ?_ ?_
 ·cases lo with
  | none => rfl
  | some v => exact clip_eq v n 0
 ·cases hi with
  | none => rfl
  | some v => exact clip_eq v n n
theorem places_gen (i j : Nat) : Builtin.Slice.slicePlaces (i : Int) (j : Int) 1 = j - i := by
 unfold Builtin.Slice.slicePlaces
 have h1 : (1 : Int) > 0 := by omega
 simp only [h1, if_true, Int.ediv_one]
 split <;> omega
theorem slicePart_ {v : Value} {o : Option Int} {Q : Option Int -> Shared -> Prop} (p : IsPart v o) (h : Q o s) : wpAny (model prog w) A (Builtin.Slice.slicePartIndex v) Q E s := by
 cases p with
 | none => exact slicePart_none h
 | int i t => exact slicePart_int h
theorem sliceApplied_gen {sl : Addr} {vl vu : Value} {lo hi : Option Int} {n : Nat} {Q : Int × Int × Nat -> Shared -> Prop} (hs : s.heap.IsSliceOf sl vl vu .none) (pl : IsPart vl lo) (pu : IsPart vu hi)
  (h : Q (((sIx n 0 lo : Nat) : Int), 1, sIx n n hi - sIx n 0 lo) s) : wpAny (model prog w) A (Builtin.Slice.sliceApplied (.ref sl) (pure (n : Int))) Q E s := by
 obtain ⟨os, hos, hcs, hds⟩ := id hs
 unfold Builtin.Slice.sliceApplied Builtin.Slice.sliceFields
 refine wpAny_bind (wpAny_bind (wpAny_field hos hds (x := vl) rfl (wpAny_bind (wpAny_field hos hds (x := vu) rfl (wpAny_bind (wpAny_field hos hds (x := .none) rfl (wpAny_pure ?_)))))))
 refine wpAny_bind (slicePart_none ?_)
 show wpAny _ _ (if ((1 : Int) == 0) = true then _ else _) _ _ s
 rw [if_neg (by decide)]
 refine wpAny_bind (slicePart_ pl (wpAny_bind (slicePart_ pu (wpAny_bind (wpAny_pure ?_)))))
 show wpAny _ _ (match Builtin.Slice.sliceAdjust lo hi 1 (n : Int) with | (lo, hi) => pure (lo, (1 : Int), Builtin.Slice.slicePlaces lo hi 1)) _ _ s
 rw [adjust_gen lo hi n]
 show wpAny _ _ (pure (((sIx n 0 lo : Nat) : Int), (1 : Int), Builtin.Slice.slicePlaces ((sIx n 0 lo : Nat) : Int) ((sIx n n hi : Nat) : Int) 1)) _ _ s
 rw [places_gen]
 exact wpAny_pure h
theorem pick_gen (xs : Array Value) (i k : Nat) : ((List.range k).filterMap fun (m : Nat) => xs[((i : Int) + (m : Int) * 1).toNat]?).toArray = ((xs.toList.drop i).take k).toArray := by
 have e : (fun (m : Nat) => xs[((i : Int) + (m : Int) * 1).toNat]?) = fun m => xs[i + m]? := by
  funext m
  have : ((i : Int) + (m : Int) * 1).toNat = i + m := by omega
  rw [this]
 rw [e]
 have := pick_run xs i k
 rw [List.filterMap_map] at this
 have e2 : ((fun x => xs[x]?) ∘ fun x => i + x) = fun m => xs[i + m]? := rfl
 rw [e2] at this
 rw [this]
theorem getItem_tuple_cut {t sl : Addr} {items : Array Value} {vl vu : Value} {lo hi : Option Int} {Q : Value -> Shared -> Prop} (ht : IsTup s.heap t items) (hs : s.heap.IsSliceOf sl vl vu .none) (pl : IsPart vl lo) (pu : IsPart vu hi)
  (hw : ¬ (sIx items.size 0 lo = 0 /\ sIx items.size items.size hi = items.size))
  (h : Q (.ref s.heap.objs.size) { s with heap := s.heap.push { cls := .type "tuple", data := .seq ((items.toList.drop (sIx items.size 0 lo)).take (sIx items.size items.size hi - sIx items.size 0 lo)).toArray } })
  (hsz : items.size <= sizeLine) : wpAny (model prog w) A (getItem (.ref t) (.ref sl)) Q E s := by
 have htake : sizeOk (.seq ((items.toList.drop (sIx items.size 0 lo)).take (sIx items.size items.size hi - sIx items.size 0 lo)).toArray) := by
  show ((items.toList.drop (sIx items.size 0 lo)).take (sIx items.size items.size hi - sIx items.size 0 lo)).toArray.size <= sizeLine
  rw [List.size_toArray, List.length_take, List.length_drop, Array.length_toList]
  omega
 have hj : sIx items.size items.size hi <= items.size := sIx_le _ _ (Nat.le_refl _) hi
 obtain ⟨os, hos, hcs, hds⟩ := id hs
 have hTs : s.TypeIs (.ref sl) "slice" := ⟨os, hos, hcs⟩
 unfold getItem
 try with_reducible refine wpAny_holding ?_
 first | refine wpAny_bind (wpAny_pure ?_) | skip
 refine wpAny_bind (wpAny_sequenceKey ht.typeIs (by decide) ?_)
 refine wpAny_bind (wpAny_callSpecial?_slot (name := Str.ofString "__getitem__") ht.typeIs PyProof.Rows.slot_tuple_getitem
  (wpAny_call_entry PyProof.Rows.slot_tuple_getitem ht.typeIs entry_tuple_getitem ?_ (args_tuple_getitem _ _)))
 show wpAny _ _ (Builtin.Tuple.tupleItemsOf (.ref t) >>= _) _ _ s
 refine wpAny_bind (tupleItemsOf_ ht ?_)
 refine wpAny_bind (wpAny_typeOf hTs ?_)
 rw [if_pos (by decide)]
 refine wpAny_bind (sliceApplied_gen hs pl pu ?_)
 have hno : ¬ ((((sIx items.size 0 lo : Nat) : Int) == 0 && (1 : Int) == 1 && (sIx items.size items.size hi - sIx items.size 0 lo) == items.size) = true) := by
  intro q
  rw [Bool.and_eq_true, Bool.and_eq_true] at q
  have q1 : ((sIx items.size 0 lo : Nat) : Int) = 0 := eq_of_beq q.1.1
  have q2 : sIx items.size items.size hi - sIx items.size 0 lo = items.size := eq_of_beq q.2
  exact hw ⟨by omega, by omega⟩
 show wpAny _ _ (if (((sIx items.size 0 lo : Nat) : Int) == 0 && (1 : Int) == 1 && (sIx items.size items.size hi - sIx items.size 0 lo) == items.size) = true then _ else _) _ _ s
 rw [if_neg hno, pick_gen]
 first
  | exact wpAny_bind (m := Builtin.Tuple.tupleExact _) (wpAny_newObj_type (wpAny_pure ⟨_, rfl, wpAny_pure h⟩) htake)
  | exact wpAny_bind (m := Builtin.Tuple.tupleExact _) (wpAny_newObj_type (wpAny_bind (wpAny_pure (wpAny_pure ⟨_, rfl, wpAny_pure h⟩))) htake)
  | exact wpAny_bind (wpAny_bind (m := Builtin.Tuple.tupleExact _) (wpAny_newObj_type (wpAny_pure (wpAny_pure ⟨_, rfl, wpAny_pure h⟩)) htake))
  | exact wpAny_bind (wpAny_bind (m := Builtin.Tuple.tupleExact _) (wpAny_newObj_type (wpAny_pure ⟨_, rfl, wpAny_pure h⟩) htake))
end
end HT
namespace L2
open PySem PySem.Spec PyProof.Rows
abbrev TO := St -> Hp -> (Option Int -> Hp -> Prop) -> Prop
def PO (X : Cx) (e : Option Expr) (t : TO) : Prop :=
 ∀ (pins : List (Addr × Obj)) (s : Shared) (σ : St) (H : Hp) (Q : Option Int -> Hp -> Prop), Inv X pins σ H s -> t σ H Q ->
  wpAny (model X.prog X.w) X.A (evalPart e X.env) (fun u s' => ∃ o H', Inv X pins σ H' s' /\ IsPart u o /\ Q o H') X.xe s
def tNoPart : TO := fun _ H Q => Q none H
def tPart (t : TE) : TO := fun σ H Q => t σ H fun x H1 => ∃ i, x = .int i /\ Q (some i) H1
theorem intsAre_of {ns : List Int} : ∀ {us : List Value}, Vals (ns.map V.int) us -> IntsAre us ns := by
 induction ns with
 | nil => intro us r; rw [List.map_nil] at r; cases r; exact .nil
 | cons n ns ih =>
  intro us r
  rw [List.map_cons] at r
  cases r with
  | cons r1 r2 =>
   obtain ⟨t, e⟩ := r1
   subst e
   exact .cons n t (ih r2)
section
variable {X : Cx} {e : Expr} {te : TE} {lo hi : Option Expr} {tl th : TO} {pos p2 : Pos}
theorem po_none : PO X none tNoPart := by
 intro pins s σ H Q I h
 rw [evalPart_none]
 exact wpAny_pure ⟨none, H, I, .none, h⟩
theorem po_some (h : PE X e te) : PO X (some e) (tPart te) := by
 intro pins s σ H Q I hw
 rw [evalPart_some]
 refine thn (h pins s σ H _ I hw) fun u s1 ⟨x, H1, I1, r1, q1⟩ => ?_
 obtain ⟨i, rfl, q⟩ := q1
 obtain ⟨t, rfl⟩ := r1
 exact ⟨some i, H1, I1, .int i t, q⟩
def SlR (X : Cx) (r : V -> Option Int -> Option Int -> Hp -> VK -> Prop) : Prop :=
 ∀ (pins : List (Addr × Obj)) (s : Shared) (σ : St) (H : Hp) (x : V) (v vl vu : Value) (lo hi : Option Int) (sl : Addr) (Q : VK), Inv X pins σ H s -> RelV x v -> s.heap.IsSliceOf sl vl vu .none -> IsPart vl lo -> IsPart vu hi -> r x lo hi H Q ->
  ∃ T id, typeLookup (.type T) "__getitem__" = pure (some (.builtin id)) /\ s.TypeIs v T /\ wpAny (model X.prog X.w) X.A (getItem v (.ref sl)) (EP X pins σ Q) X.xe s
theorem SlR.or {r r' : V -> Option Int -> Option Int -> Hp -> VK -> Prop} (h : SlR X r) (h' : SlR X r') : SlR X (fun x lo hi H Q => r x lo hi H Q \/ r' x lo hi H Q) := by
 intro pins s σ H x v vl vu lo hi sl Q I rx hs pl pu q
 rcases q with q | q
 ·exact h pins s σ H x v vl vu lo hi sl Q I rx hs pl pu q
 ·exact h' pins s σ H x v vl vu lo hi sl Q I rx hs pl pu q
def tSl (r : V -> Option Int -> Option Int -> Hp -> VK -> Prop) (te : TE) (tl th : TO) : TE := fun σ H Q => te σ H fun x H1 => tl σ H1 fun l H2 => th σ H2 fun u H3 => r x l u H3 Q
theorem pe_slice {r : V -> Option Int -> Option Int -> Hp -> VK -> Prop} (hr : SlR X r) (he : PE X e te) (hl : PO X lo tl) (hu : PO X hi th) : PE X (.Subscript e (.Slice lo hi none p2) pos) (tSl r te tl th) := by
 intro pins s σ H Q I h
 refine Subscript_ (thn (he pins s σ H _ I h) fun v s1 ⟨x, H1, I1, r1, q1⟩ => ?_)
 refine wpAny_Slice (thn (hl pins s1 σ H1 _ I1 q1) fun vl s2 ⟨l, H2, I2, pl, q2⟩ => thn (hu pins s2 σ H2 _ I2 q2) fun vu s3 ⟨u, H3, I3, pu, q3⟩ => ?_)
 rw [evalPart_none]
 refine wpAny_pure ?_
 have I4 : Inv X pins σ H3 { s3 with heap := s3.heap.push { cls := .type "slice", data := .fields #[vl, vu, .none] } } := I3.kept (t' := s3.toks) fun b ob q => Heap.get?_push_of_some _ q
 obtain ⟨T, id, hT, ht, hg⟩ := hr pins { s3 with heap := s3.heap.push { cls := .type "slice", data := .fields #[vl, vu, .none] } } σ H3 x v vl vu l u s3.heap.objs.size Q I4 r1 (Heap.IsSliceOf.new ..) pl pu q3
 show wpAny (model X.prog X.w) X.A (subscriptTail e (.Slice lo hi none p2) v (.ref s3.heap.objs.size)) (EP X pins σ Q) X.xe { s3 with heap := s3.heap.push { cls := .type "slice", data := .fields #[vl, vu, .none] } }
 exact tail_any (ops := [.ref s3.heap.objs.size, v]) ht hT hg (by with_unfolding_all rfl)
def cutV (xs : List V) (lo hi : Option Int) : List V := (xs.drop (HT.sIx xs.length 0 lo)).take (HT.sIx xs.length xs.length hi - HT.sIx xs.length 0 lo)
theorem cutV_length (xs : List V) (lo hi : Option Int) : (cutV xs lo hi).length <= xs.length := by
 unfold cutV
 rw [List.length_take, List.length_drop]
 omega
def rSlT (K : PySem.W.Frag) : V -> Option Int -> Option Int -> Hp -> VK -> Prop := fun x lo hi H Q => ∃ a xs, x = .ref a /\ SqT K H a xs /\
 ¬ (HT.sIx xs.length 0 lo = 0 /\ HT.sIx xs.length xs.length hi = xs.length) /\ ∀ p, H p = none -> Q (.ref p) (upd H p (.tup (cutV xs lo hi)))
theorem sl_tup : SlR X (rSlT X.K) := by
 intro pins s σ H x v vl vu lo hi sl Q I rx hs pl pu h
 obtain ⟨a, xs, rfl, hx, hw, q⟩ := h
 cases rx
 obtain ⟨its, r, ht, hz⟩ := I.tuple hx
 have hlen : its.toArray.size = xs.length := by rw [List.size_toArray]; exact r.length.symm
 refine ⟨"tuple", _, PyProof.Rows.slot_tuple_getitem.lookup, ht.typeIs, ?_⟩
 refine HT.getItem_tuple_cut ht hs pl pu (by rw [hlen]; exact hw) ?_ (by rw [hlen]; exact hz)
 rw [hlen]
 refine ⟨.ref s.heap.objs.size, _, I.laid (t' := s.toks) (o := .tup (cutV xs lo hi)) (fun b ob q => Heap.get?_push_of_some _ q) (Nat.le_refl _) ?_, rfl, q _ (I.hok.fresh (Nat.le_refl _))⟩
 exact ⟨Nat.le_trans (cutV_length xs lo hi) hz, _, (r.drop (HT.sIx xs.length 0 lo)).take (HT.sIx xs.length xs.length hi - HT.sIx xs.length 0 lo), IsTup.new _ _⟩
def rCatT (K : PySem.W.Frag) : R2 := fun x y H Q => ∃ a b xs ys, x = .ref a /\ y = .ref b /\ SqT K H a xs /\ SqT K H b ys /\ xs ≠ [] /\ xs.length + ys.length <= sizeLine /\
 (ys = [] -> Q (.ref a) H) /\ (ys ≠ [] -> ∀ p, H p = none -> Q (.ref p) (upd H p (.tup (xs ++ ys))))
theorem Vals.nil_iff {xs : List V} {us : List Value} (r : Vals xs us) : us = [] ↔ xs = [] := by
 cases r with
 | nil => simp
 | cons _ _ => simp
theorem op_catT : OpR X (binaryOp .Add) (rCatT X.K) := by
 intro pins s σ H x y v u Q I rx ry h
 obtain ⟨a, b, xs, ys, rfl, rfl, ha, hb, hx, hz, q1, q2⟩ := h
 cases rx
 cases ry
 obtain ⟨its, r1, p1, _⟩ := I.tuple ha
 obtain ⟨its2, r2, p2, _⟩ := I.tuple hb
 refine HT.cat_tup p1 p2 (fun z => hx (r1.nil_iff.mp z)) (fun z => ⟨.ref a, H, I, rfl, q1 (r2.nil_iff.mp z)⟩) (fun z => ?_) (by rw [<- r1.length, <- r2.length]; exact hz)
 refine ⟨.ref s.heap.objs.size, _, I.laid (t' := s.toks) (o := .tup (xs ++ ys)) (fun b ob q => Heap.get?_push_of_some _ q) (Nat.le_refl _) ?_, rfl, q2 (fun w => z (r2.nil_iff.mpr w)) _ (I.hok.fresh (Nat.le_refl _))⟩
 exact ⟨by rw [List.length_append]; exact hz, _, r1.append r2, IsTup.new _ _⟩
end
end L2
namespace L2
open PySem PySem.Spec PyProof.Rows
def ixN (n : Nat) (i : Int) : Option Nat := if 0 <= i then (if i < n then some i.toNat else none) else if -(n : Int) <= i then some (i + n).toNat else none
def atI {α : Type} (xs : List α) (i : Int) : Option α := (ixN xs.length i).bind fun j => xs[j]?
theorem ixN_seq {n : Nat} {i : Int} {j : Nat} (h : ixN n i = some j) : seqIndex? i n = some j /\ j < n /\ -(n : Int) <= i /\ i < n := by
 unfold ixN at h
 by_cases h0 : 0 <= i
 ·rw [if_pos h0] at h
  by_cases h1 : i < n
  ·rw [if_pos h1] at h
   have e : i.toNat = j := Option.some.inj h
   exact ⟨by rw [seqIndex_of h0 h1, e], by omega, by omega, h1⟩
  ·rw [if_neg h1] at h; cases h
 ·rw [if_neg h0] at h
  by_cases h1 : -(n : Int) <= i
  ·rw [if_pos h1] at h
   have e : (i + n).toNat = j := Option.some.inj h
   exact ⟨by rw [seqIndex_neg (by omega) h1, e], by omega, h1, by omega⟩
  ·rw [if_neg h1] at h; cases h
theorem atI_get {α : Type} {xs : List α} {i : Int} {v : α} (h : atI xs i = some v) : ∃ j, seqIndex? i xs.length = some j /\ xs[j]? = some v /\ j < xs.length /\ -(xs.length : Int) <= i /\ i < xs.length := by
 unfold atI at h
 cases e : ixN xs.length i with
 | none => rw [e] at h; cases h
 | some j =>
  rw [e] at h
  obtain ⟨h1, h2, h3, h4⟩ := ixN_seq e
  exact ⟨j, h1, h, h2, h3, h4⟩
theorem atI_nat {α : Type} {xs : List α} {j : Nat} {v : α} (h : xs[j]? = some v) : atI xs (j : Int) = some v := by
 have hj : j < xs.length := (List.getElem?_eq_some_iff.mp h).1
 have e : ixN xs.length (j : Int) = some j := by
  unfold ixN
  rw [if_pos (by omega), if_pos (by omega)]; simp
 unfold atI; rw [e]; exact h
def PlainIx (b : Expr) : Prop := ∀ o i, subscripted b false o i = operate [o, i] (getItem o i)
def IxR (X : Cx) (r : R2) : Prop :=
 ∀ (value slice : Expr) (pins : List (Addr × Obj)) (s : Shared) (σ : St) (H : Hp) (x y : V) (v u : Value) (Q : VK), Inv X pins σ H s -> RelV x v -> RelV y u -> r x y H Q ->
  subscripted slice false v u = operate [v, u] (getItem v u) -> wpAny (model X.prog X.w) X.A (subscriptTail value slice v u) (EP X pins σ Q) X.xe s
def MtR (X : Cx) (id : String) (r : V -> List V -> Hp -> VK -> Prop) : Prop :=
 ∀ (pins : List (Addr × Obj)) (s : Shared) (σ : St) (H : Hp) (x : V) (xs : List V) (v : Value) (us : List Value) (Q : VK), Inv X pins σ H s -> RelV x v -> Vals xs us -> r x xs H Q ->
  wpAny (model X.prog X.w) X.A (call (.builtin id) (v :: us)) (EP X pins σ Q) X.xe s
section
variable {X : Cx} {a b : Expr} {ta tb : TE} {pos : Pos}
theorem IxR.or {r r' : R2} (h : IxR X r) (h' : IxR X r') : IxR X (fun x y H Q => r x y H Q \/ r' x y H Q) := by
 intro value slice pins s σ H x y v u Q I rx ry q hs
 rcases q with q | q
 ·exact h value slice pins s σ H x y v u Q I rx ry q hs
 ·exact h' value slice pins s σ H x y v u Q I rx ry q hs
theorem pe_ix {r : R2} (hr : IxR X r) (ha : PE X a ta) (hb : PE X b tb) (hs : PlainIx b) : PE X (.Subscript a b pos) (tOp r ta tb) := by
 intro pins s σ H Q I h
 exact Subscript_ (binT ha hb I h fun v u s2 x y H2 I2 rx ry q => hr a b pins s2 σ H2 x y v u Q I2 rx ry q (hs _ _))
def rIxL (K : PySem.W.Frag) : R2 := fun x y H Q => ∃ p xs i v, x = .ref p /\ y = .int i /\ SqL K H p xs /\ atI xs i = some v /\ Q v H
def rIxT (K : PySem.W.Frag) : R2 := fun x y H Q => ∃ p xs i v, x = .ref p /\ y = .int i /\ SqT K H p xs /\ atI xs i = some v /\ Q v H
def rIxS : R2 := fun x y H Q => ∃ z i c, x = .str z /\ y = .int i /\ z.length <= sizeLine /\ atI z.cps.toList i = some c /\ Q (.str ⟨#[c]⟩) H
theorem ix_list : IxR X (rIxL X.K) := by
 intro value slice pins s σ H x y v u Q I rx ry h hs
 obtain ⟨p, xs, i, z, rfl, rfl, hq, he, q⟩ := h
 cases rx
 obtain ⟨t, rfl⟩ := ry
 obtain ⟨its, r, pl, hz⟩ := I.list hq
 obtain ⟨j, h1, h2, h3, h4, h5⟩ := atI_get he
 obtain ⟨w, ew, rw'⟩ := r.get h2
 have hl := r.length
 have hn := line63
 have fin : EP X pins σ Q w s := ⟨z, H, I, rw', q⟩
 by_cases h0 : 0 <= i
 ·have hj : i.toNat = j := by
   rw [seqIndex_of h0 h5] at h1
   exact Option.some.inj h1
  exact item_listR pl.isList h0 (by omega) (by rw [hj]; simpa using ew) fin hs
 ·have hj : (i + (its.toArray.size : Int)).toNat = j := by
   rw [seqIndex_neg (by omega) h4] at h1
   rw [List.size_toArray, <- hl]
   exact Option.some.inj h1
  exact subscriptTail_builtinR (x := w) pl.isList.typeIs slot_list_getitem.lookup
   (wpAny_getItem_list_neg (Q := fun r s' => r = w /\ EP X pins σ Q r s') pl.isList (by omega) (by rw [List.size_toArray] <;> omega) (by omega) (by rw [hj]; simpa using ew) ⟨rfl, fin⟩) hs
theorem ix_tup : IxR X (rIxT X.K) := by
 intro value slice pins s σ H x y v u Q I rx ry h hs
 obtain ⟨p, xs, i, z, rfl, rfl, hq, he, q⟩ := h
 cases rx
 obtain ⟨t, rfl⟩ := ry
 obtain ⟨its, r, pl, hz⟩ := I.tuple hq
 obtain ⟨j, h1, h2, h3, h4, h5⟩ := atI_get he
 obtain ⟨w, ew, rw'⟩ := r.get h2
 have hl := r.length
 have hn := line63
 have fin : EP X pins σ Q w s := ⟨z, H, I, rw', q⟩
 exact subscriptTail_builtinR (x := w) pl.typeIs slot_tuple_getitem.lookup
  (getItem_tuple (j := j) (Q := fun r s' => r = w /\ EP X pins σ Q r s') pl (by omega) (by omega) (by rw [List.size_toArray, <- hl]; exact h1) (by simpa using ew) ⟨rfl, fin⟩) hs
theorem ix_str : IxR X rIxS := by
 intro value slice pins s σ H x y v u Q I rx ry h hs
 obtain ⟨z, i, c, rfl, rfl, hz, he, q⟩ := h
 obtain ⟨t, rfl⟩ := rx
 obtain ⟨t', rfl⟩ := ry
 obtain ⟨j, h1, h2, h3, h4, h5⟩ := atI_get he
 have hl : z.cps.toList.length = z.length := by simp [Str.length]
 rw [hl] at h1 h4 h5
 have hn := line63
 exact tail_any (typeIs_str s z t) slot_str_getitem.lookup (getItem_str (c := c) (by
  have e1 : decide (i < -(2 ^ 63 : Int)) = false := decide_eq_false (by omega)
  have e2 : decide (i >= 2 ^ 63) = false := decide_eq_false (by omega)
  rw [e1, e2, Bool.or_false]) (by rw [h1]; simpa using h2) ⟨.str ⟨#[c]⟩, H, I.tok _, ⟨_, rfl⟩, q⟩) hs
def rIx (K : PySem.W.Frag) : R2 := fun x y H Q => rIxL K x y H Q \/ rIxT K x y H Q \/ rIxS x y H Q
theorem ix_seq : IxR X (rIx X.K) := ix_list.or (ix_tup.or ix_str)
theorem mapSeq_set (its : List Value) (n j : Nat) (u : Value) : Obj.mapSeq (·.setIfInBounds j u) { cls := .type "list", data := .seq its.toArray n } = { cls := .type "list", data := .seq (its.set j u).toArray n } := by
 simp [Obj.mapSeq]
theorem Inv.lst {pins : List (Addr × Obj)} {σ : St} {H : Hp} {s : Shared} {p : Addr} {xs : List V} (I : Inv X pins σ H s) (h : H p = some (.lst xs)) :
  ∃ (its : List Value) (n : Nat), Vals xs its /\ s.heap.get? p = some { cls := .type "list", data := .seq its.toArray n } /\ xs.length <= sizeLine := by
 obtain ⟨z, its, n, r, e⟩ := I.hok p _ h
 exact ⟨its, n, r, e, z⟩
theorem Inv.lstUpd {pins : List (Addr × Obj)} {σ : St} {H : Hp} {s : Shared} {p : Addr} {xs ys : List V} {its its' : List Value} {n n' : Nat} {f : Obj -> Obj} (I : Inv X pins σ H s) (h : H p = some (.lst xs))
  (ho : s.heap.get? p = some { cls := .type "list", data := .seq its.toArray n }) (hf : f { cls := .type "list", data := .seq its.toArray n } = { cls := .type "list", data := .seq its'.toArray n' }) (r : Vals ys its') (hz : ys.length <= sizeLine) (t : Nat) :
  Inv X pins σ (upd H p (.lst ys)) { s with heap := s.heap.update p f, toks := t } := by
 have e : (s.heap.update p f).get? p = some { cls := .type "list", data := .seq its'.toArray n' } := by
  rw [Heap.get?_update_self f ho (by rw [hf] <;> rfl), hf]
 refine I.write (x := p) (e := p) (by rw [h]; trivial) (.inl rfl) (fun b u hb q => (Heap.get?_update_other _ _ (Ne.symm hb)).trans q) ⟨_, e⟩ ?_
 exact ⟨hz, its', n', r, e⟩
def rSetL : V -> V -> V -> Hp -> (Hp -> Prop) -> Prop := fun o i v H Q => ∃ p xs k j, o = .ref p /\ i = .int k /\ H p = some (.lst xs) /\ ixN xs.length k = some j /\ Q (upd H p (.lst (xs.set j v)))
theorem set_list : PSet X rSetL := by
 intro pins s σ H o i v ov iv u Q I ro ri rv h
 obtain ⟨p, xs, k, j, rfl, rfl, hp, hj, q⟩ := h
 cases ro
 obtain ⟨t, rfl⟩ := ri
 obtain ⟨its, n, r, ho, hz⟩ := I.lst hp
 obtain ⟨h1, h2, h3, h4⟩ := ixN_seq hj
 have hl := r.length
 have hn := line63
 have I' : Inv X pins σ (upd H p (.lst (xs.set j v))) { s with heap := s.heap.update p (Obj.mapSeq (·.setIfInBounds j u)) } :=
  I.lstUpd hp ho (mapSeq_set its n j u) (r.set rv j) (by rw [List.length_set]; exact hz) s.toks
 by_cases h0 : 0 <= k
 ·have hk : k.toNat = j := by
   rw [seqIndex_of h0 h4] at h1
   exact Option.some.inj h1
  exact PySem.W.ki_setAt ho h0 (by omega) (by rw [List.size_toArray, <- hl]; exact h4) (by rw [hk]; exact ⟨_, I', q⟩)
 ·have hk : (k + (its.toArray.size : Int)).toNat = j := by
   rw [seqIndex_neg (by omega) h3] at h1
   rw [List.size_toArray, <- hl]
   exact Option.some.inj h1
  exact PySem.W.ki_setBack ho (by omega) (by rw [List.size_toArray, <- hl]; exact h3) (by omega) (by rw [hk]; exact ⟨_, I', q⟩)
theorem slice_bounds (lo hi : Option Int) (n : Nat) : (sliceBounds lo hi none n).1 = ((HT.sIx n 0 lo : Nat) : Int) /\ (sliceBounds lo hi none n).2.1 = ((HT.sIx n n hi : Nat) : Int) /\ (sliceBounds lo hi none n).2.2 = 1 := by
 refine ⟨?_, ?_, rfl⟩
 ·cases lo with
  | none => simp [sliceBounds, HT.sIx]
  | some i =>
   simp only [sliceBounds, HT.sIx, Option.getD_none, show (1 : Int) > 0 by decide, if_true]
   by_cases h : i < 0
   ·simp only [h, if_true] <;> omega
   ·simp only [h, if_false] <;> omega
 ·cases hi with
  | none => simp [sliceBounds, HT.sIx]
  | some i =>
   simp only [sliceBounds, HT.sIx, Option.getD_none, show (1 : Int) > 0 by decide, if_true]
   by_cases h : i < 0
   ·simp only [h, if_true] <;> omega
   ·simp only [h, if_false] <;> omega
theorem slicePick_cut (its : List Value) (lo hi : Option Int) : slicePick its.toArray lo hi none = ((its.drop (HT.sIx its.length 0 lo)).take (HT.sIx its.length its.length hi - HT.sIx its.length 0 lo)).toArray := by
 obtain ⟨h1, h2, h3⟩ := slice_bounds lo hi its.toArray.size
 unfold slicePick
 rw [h1, h2, h3]
 simp only [sliceRange_one, pick_run, List.size_toArray] <;> rfl
def rSlL (K : PySem.W.Frag) : V -> Option Int -> Option Int -> Hp -> VK -> Prop := fun x lo hi H Q => ∃ a xs, x = .ref a /\ SqL K H a xs /\ ∀ p, H p = none -> Q (.ref p) (upd H p (.lst (cutV xs lo hi)))
theorem sl_list : SlR X (rSlL X.K) := by
 intro pins s σ H x v vl vu lo hi sl Q I rx hs pl pu h
 obtain ⟨a, xs, rfl, hx, q⟩ := h
 cases rx
 obtain ⟨its, r, ht, hz⟩ := I.list hx
 have hlen := r.length
 refine ⟨"list", _, slot_list_getitem.lookup, ht.isList.typeIs, ?_⟩
 refine wpAny_getItem_list_slice ht.isList hs pl pu .none (by simp) ?_ (by rw [List.size_toArray] <;> omega)
 rw [slicePick_cut, <- hlen]
 refine ⟨.ref s.heap.objs.size, _, I.laid (t' := s.toks) (o := .lst (cutV xs lo hi)) (fun b ob q => Heap.get?_push_of_some _ q) (Nat.le_refl _) ?_, rfl, q _ (I.hok.fresh (Nat.le_refl _))⟩
 exact ⟨Nat.le_trans (cutV_length xs lo hi) hz, _, 0, (r.drop (HT.sIx xs.length 0 lo)).take (HT.sIx xs.length xs.length hi - HT.sIx xs.length 0 lo), Heap.get?_push_size _ rfl⟩
def flatV : V -> Bool
 | .non => true
 | .bl _ => true
 | .int _ => true
 | .str _ => true
 | _ => false
def eqV : V -> V -> Bool
 | .non, .non => true
 | .bl a, .bl b => a == b
 | .bl a, .int b => (if a then 1 else 0) == b
 | .int a, .bl b => a == (if b then 1 else 0)
 | .int a, .int b => a == b
 | .str a, .str b => a == b
 | _, _ => false
theorem eqAt_V {A : Around} {s : Shared} {y x : V} {u v : Value} (ry : RelV y u) (rx : RelV x v) (fy : flatV y = true) (fx : flatV x = true) : SeqAt.EqAt A s u v (eqV y x) := by
 cases y with
 | non =>
  cases ry
  cases x with
  | non => cases rx; exact SeqAt.EqAt.same _
  | bl b => cases rx; exact SeqAt.EqAt.none_bool b
  | int b => obtain ⟨t, rfl⟩ := rx; exact SeqAt.EqAt.none_int b t
  | str b => obtain ⟨t, rfl⟩ := rx; exact SeqAt.EqAt.none_str b t
  | _ => exact absurd (show false = true from fx) Bool.false_ne_true
 | bl a =>
  cases ry
  cases x with
  | non => cases rx; exact SeqAt.EqAt.bool_none a
  | bl b => cases rx; exact SeqAt.EqAt.bool_bool a b
  | int b => obtain ⟨t, rfl⟩ := rx; exact SeqAt.EqAt.bool_int a b t
  | str b => obtain ⟨t, rfl⟩ := rx; exact SeqAt.EqAt.bool_str a b t
  | _ => exact absurd (show false = true from fx) Bool.false_ne_true
 | int a =>
  obtain ⟨t', rfl⟩ := ry
  cases x with
  | non => cases rx; exact SeqAt.EqAt.int_none a t'
  | bl b => cases rx; exact SeqAt.EqAt.int_bool a t' b
  | int b => obtain ⟨t, rfl⟩ := rx; exact SeqAt.EqAt.int_int a t' b t
  | str b => obtain ⟨t, rfl⟩ := rx; exact SeqAt.EqAt.int_str a t' b t
  | _ => exact absurd (show false = true from fx) Bool.false_ne_true
 | str a =>
  obtain ⟨t', rfl⟩ := ry
  cases x with
  | non => cases rx; exact SeqAt.EqAt.str_none a t'
  | bl b => cases rx; exact SeqAt.EqAt.str_bool a t' b
  | int b => obtain ⟨t, rfl⟩ := rx; exact SeqAt.EqAt.str_int a t' b t
  | str b => obtain ⟨t, rfl⟩ := rx; exact SeqAt.EqAt.str_str a t' b t
  | _ => exact absurd (show false = true from fx) Bool.false_ne_true
 | _ => exact absurd (show false = true from fy) Bool.false_ne_true
theorem call_len_seq : CallR X (.builtin "len") (fun xs H Q => ∃ p ys, xs = [.ref p] /\ (SqL X.K H p ys \/ SqT X.K H p ys) /\ Q (.int ys.length) H) := by
 intro pins s σ H xs us Q I r h
 obtain ⟨p, ys, rfl, hq, q⟩ := h
 obtain ⟨u, rfl, rx⟩ := vals1 r
 cases rx
 have hn := line63
 rcases hq with hq | hq
 ·obtain ⟨its, r', pl, hz⟩ := I.list hq
  have hlen := r'.length
  exact Calls.call_len_list pl.isList (by simp only [List.size_toArray] <;> omega) ⟨.int ys.length, H, I.tok _, ⟨s.toks + 1, by rw [List.size_toArray, hlen]⟩, q⟩
 ·obtain ⟨its, r', pl, hz⟩ := I.tuple hq
  have hlen := r'.length
  exact len_tuple pl (by simp only [List.size_toArray] <;> omega) ⟨.int ys.length, H, I.tok _, ⟨s.toks + 1, by rw [List.size_toArray, hlen]⟩, q⟩
theorem call_len_str : CallR X (.builtin "len") (fun xs H Q => ∃ z, xs = [.str z] /\ z.length <= sizeLine /\ Q (.int z.length) H) := by
 intro pins s σ H xs us Q I r h
 obtain ⟨z, rfl, hz, q⟩ := h
 obtain ⟨u, rfl, t, rfl⟩ := vals1 r
 have hn := line63
 exact len_str (by omega) ⟨.int z.length, H, I.tok _, ⟨_, rfl⟩, q⟩
theorem CallR.or {f : Value} {r r' : List V -> Hp -> VK -> Prop} (h : CallR X f r) (h' : CallR X f r') : CallR X f (fun xs H Q => r xs H Q \/ r' xs H Q) := by
 intro pins s σ H xs us Q I rs q
 rcases q with q | q
 ·exact h pins s σ H xs us Q I rs q
 ·exact h' pins s σ H xs us Q I rs q
theorem call_list_of : CallR X (.type "list") (fun xs H Q => ∃ p ys, xs = [.ref p] /\ (SqL X.K H p ys \/ SqT X.K H p ys) /\ ∀ l, H l = none -> Q (.ref l) (upd H l (.lst ys))) := by
 intro pins s σ H xs us Q I r h
 obtain ⟨p, ys, rfl, hq, q⟩ := h
 obtain ⟨u, rfl, rx⟩ := vals1 r
 cases rx
 have fin : ∀ (its : List Value), Vals ys its -> ys.length <= sizeLine -> ∀ (h' : Heap) (c' : Nat), (∀ b o', s.heap.get? b = some o' -> h'.get? b = some o') ->
   h'.get? s.heap.objs.size = some { cls := .type "list", dict := none, data := .seq its.toArray c', slots := #[] } -> EP X pins σ Q (.ref s.heap.objs.size) { s with heap := h' } := fun its r' hz h' c' kp e =>
  ⟨.ref s.heap.objs.size, _, I.laid (t' := s.toks) kp (Nat.le_refl _) (show ObjOk X.prog X.w _ h' _ (.lst ys) from ⟨hz, its, c', r', e⟩), rfl, q _ (I.hok.fresh (Nat.le_refl _))⟩
 rcases hq with hq | hq
 ·obtain ⟨its, r', pl, hz⟩ := I.list hq
  have hlen := r'.length
  obtain ⟨o, ho, hc, n, hd⟩ := pl.isList
  exact call_list_seq p (.inl rfl) ho hc hd (fun h' c' kp e => fin its r' hz h' c' kp e) (by simp only [List.size_toArray] <;> omega)
 ·obtain ⟨its, r', pl, hz⟩ := I.tuple hq
  have hlen := r'.length
  obtain ⟨o, ho, hc, n, hd⟩ := pl
  exact call_list_seq p (.inr rfl) ho hc hd (fun h' c' kp e => fin its r' hz h' c' kp e) (by simp only [List.size_toArray] <;> omega)
def tyV (K : PySem.W.Frag) (T : String) (x : V) (H : Hp) : Prop := match x with
 | .str _ => T = "str"
 | .int _ => T = "int"
 | .ref p => (T = "list" /\ ∃ xs, SqL K H p xs) \/ (T = "tuple" /\ ∃ o, K.lookup p = some o /\ o.cls = .type "tuple" /\ o.dict = none) \/
   (T = "dict" /\ ((∃ kvs, H p = some (.dK kvs)) \/ ∃ kvs, H p = some (.dT kvs))) \/ (T = "set" /\ ∃ S n, H p = some (.set S n))
 | _ => False
theorem tyV_is {pins : List (Addr × Obj)} {σ : St} {H : Hp} {s : Shared} {T : String} {x : V} {v : Value} (I : Inv X pins σ H s) (r : RelV x v) (ty : tyV X.K T x H) :
  s.TypeIs v T /\ ∀ a, v = .ref a -> ∃ ob, s.heap.get? a = some ob /\ ob.dict = none := by
 cases x with
 | str z =>
  obtain ⟨t, rfl⟩ := r
  cases (show T = "str" from ty)
  exact ⟨typeIs_str s z t, fun _ e => nomatch e⟩
 | int i =>
  obtain ⟨t, rfl⟩ := r
  cases (show T = "int" from ty)
  exact ⟨typeIs_int s i t, fun _ e => nomatch e⟩
 | ref p =>
  cases r
  rcases ty with ⟨rfl, xs, hq⟩ | ⟨rfl, o, hk, hc, hd⟩ | ⟨rfl, hk⟩ | ⟨rfl, S, n, hk⟩
  ·obtain ⟨its, _, pl, _⟩ := I.list hq
   refine ⟨pl.isList.typeIs, fun a e => ?_⟩
   cases e
   obtain ⟨o, n, e, c, hd, _⟩ := pl
   exact ⟨o, e, hd⟩
  ·refine ⟨⟨o, I.kIn p o hk, hc⟩, fun a e => ?_⟩
   cases e
   exact ⟨o, I.kIn _ o hk, hd⟩
  ·have z : ∃ o, s.heap.get? p = some o /\ o.ExactDict := by
    rcases hk with ⟨kvs, hk⟩ | ⟨kvs, hk⟩
    ·obtain ⟨_, _, _, _, o, _, _, e, ex, _⟩ := I.hok p _ hk
     exact ⟨o, e, ex⟩
    ·obtain ⟨_, _, _, _, o, _, _, e, ex, _⟩ := I.hok p _ hk
     exact ⟨o, e, ex⟩
   obtain ⟨o, e, ex⟩ := z
   refine ⟨⟨o, e, ex.1⟩, fun a e2 => ?_⟩
   cases e2
   exact ⟨o, e, ex.2.1⟩
  ·obtain ⟨o, _, _, _, e, ex, _⟩ := I.hok p _ hk
   refine ⟨⟨o, e, ex.1⟩, fun a e2 => ?_⟩
   cases e2
   exact ⟨o, e, ex.2.1⟩
 | _ => exact False.elim ty
def tBM0 (K : PySem.W.Frag) (T : String) (r : V -> List V -> Hp -> VK -> Prop) (to : TE) : TE := fun σ H Q => to σ H fun x H1 => tyV K T x H1 /\ r x [] H1 Q
def tBM (K : PySem.W.Frag) (T : String) (r : V -> List V -> Hp -> VK -> Prop) (to : TE) (t : TA) : TE := fun σ H Q => to σ H fun x H1 => tyV K T x H1 /\ t σ H1 fun xs H2 => r x xs H2 Q
variable {o e : Expr} {es : List Expr} {to : TE} {t : TA} {name : Str} {apos cpos : Pos} {T id : String} {r : V -> List V -> Hp -> VK -> Prop}
theorem pe_bm0 (pa : PlainAttrs T) (slot : Slot T name id) (hty : typeOf (.builtin id) = pure (.type "method_descriptor")) (hm : MtR X id r) (ho : PE X o to)
  (hbase : attributeBase o name X.env (eval o X.env) = eval o X.env := by rfl) (hline : (apos.endLine == cpos.line) = true := by rfl) : PE X (.Call (.Attribute o name apos) [] [] cpos) (tBM0 X.K T r to) := by
 intro pins s σ H Q I h
 refine wpAny_Call_method0_late hbase hline (thn (ho pins s σ H _ I h) fun v s1 ⟨x, H1, I1, r1, ty, q1⟩ => ?_)
 obtain ⟨h1, h2⟩ := tyV_is I1 r1 ty
 exact ⟨T, id, pa, slot, hty, h1, h2, Calls.callWith_builtin rfl (PySem.evalArgs_none (hm pins s1 σ H1 x [] v [] Q I1 r1 .nil q1))⟩
theorem pe_bm (pa : PlainAttrs T) (slot : Slot T name id) (hty : typeOf (.builtin id) = pure (.type "method_descriptor")) (hm : MtR X id r) (ho : PE X o to) (ha : PA X (e :: es) t)
  (hbase : attributeBase o name X.env (eval o X.env) = eval o X.env := by rfl)
  (hfew : ((backTo cpos (starEach (e :: es) X.env)).all (fun x => !x.1) && (backToKw cpos (keywordEach [] X.env)).all (fun x => x.1.isSome)
   && decide ((e :: es).length + ([] : List Keyword).length + (if ([] : List Keyword).isEmpty then 0 else 1) < 30)) = true := by rfl)
  (hline : (apos.endLine == cpos.line) = true := by rfl) (hs : starEach (e :: es) X.env = (false, eval e X.env) :: starEach es X.env := by rfl) (hplain : (backTo cpos (starEach es X.env)).any (·.1) = false := by rfl) :
  PE X (.Call (.Attribute o name apos) (e :: es) [] cpos) (tBM X.K T r to t) := by
 intro pins s σ H Q I h
 refine wpAny_Call_method_late hbase hfew hline rfl (thn (ho pins s σ H _ I h) fun v s1 ⟨x, H1, I1, r1, ty, q1⟩ => ?_)
 obtain ⟨h1, h2⟩ := tyV_is I1 r1 ty
 refine ⟨T, id, pa, slot, hty, h1, h2, ?_⟩
 have hA := ha cpos pins s1 σ H1 _ I1 q1
 rw [hs] at hA ⊢
 refine Calls.callWith_builtin (by show (false || (backTo cpos (starEach es X.env)).any (·.1)) = false; rw [hplain] <;> rfl) (Calls.evalArgs_plain ?_)
 exact thn hA fun us s2 ⟨vs, H2, I2, r2, q2⟩ => hm pins s2 σ H2 x vs v us Q I2 r1 r2 q2
end
end L2
namespace L2
open PySem PySem.Spec PyProof.Rows
def MtM (X : Cx) (id : String) (r : V -> List V -> Hp -> VK -> Prop) : Prop :=
 ∀ (pins : List (Addr × Obj)) (s : Shared) (σ : St) (H : Hp) (x : V) (xs : List V) (v : Value) (us : List Value) (Q : VK), Inv X pins σ H s -> RelV x v -> Vals xs us -> r x xs H Q ->
  wpAny (model X.prog X.w) X.A (call (.builtin id) (v :: us)) (EP X pins σ Q) X.xe s
theorem Vals.one : ∀ {x : V} {us : List Value}, Vals [x] us -> ∃ u, us = [u] /\ RelV x u
 | _, _, .cons r .nil => ⟨_, rfl, r⟩
theorem Vals.zero : ∀ {us : List Value}, Vals [] us -> us = []
 | _, .nil => rfl
theorem Vals.dropLast {xs : List V} {us : List Value} (h : Vals xs us) : Vals xs.dropLast us.dropLast := by
 induction h with
 | nil => exact .nil
 | cons r t ih =>
  cases t with
  | nil => exact .nil
  | cons q t' => exact .cons r ih
theorem Vals.reverse {xs : List V} {us : List Value} (h : Vals xs us) : Vals xs.reverse us.reverse := by
 induction h with
 | nil => exact .nil
 | cons r t ih => rw [List.reverse_cons, List.reverse_cons]; exact Vals.append ih (.cons r .nil)
theorem erase_last {α : Type} (l : List α) : l.eraseIdx (l.length - 1) = l.dropLast := by
 induction l with
 | nil => rfl
 | cons a r ih =>
  cases r with
  | nil => rfl
  | cons b r =>
   have e : (a :: b :: r).length - 1 = ((b :: r).length - 1) + 1 := by
    have h1 : (a :: b :: r).length = r.length + 2 := rfl
    have h2 : (b :: r).length = r.length + 1 := rfl
    omega
   rw [e, List.eraseIdx_cons_succ, ih]
   all_goals rfl
section
variable {X : Cx} {pins : List (Addr × Obj)} {σ : St} {H : Hp} {s : Shared} {l b : Addr} {xs ys zs : List V}
theorem Inv.lset {its its' : List Value} {n : Nat} {f : Array Value -> Array Value} {t' : Nat} (I : Inv X pins σ H s) (hH : H l = some (.lst xs))
  (e : s.heap.get? l = some { cls := .type "list", data := .seq its.toArray n }) (hf : f its.toArray = its'.toArray) (hv : Vals ys its') (hz : ys.length <= sizeLine) :
  Inv X pins σ (upd H l (.lst ys)) { s with heap := s.heap.update l (Obj.mapSeq f), toks := t' } := by
 have q := PySem.IsL.update e f
 rw [hf] at q
 refine I.write (x := l) (e := l) (by rw [hH]; exact trivial) (.inl rfl) (fun b' u hb hu => (Heap.get?_update_other s.heap (Obj.mapSeq f) (Ne.symm hb)).trans hu) ⟨_, q⟩ ?_
 exact ⟨hz, its', _, hv, q⟩
theorem Inv.lnew {its : List Value} {t' : Nat} (I : Inv X pins σ H s) (hv : Vals ys its) (hz : ys.length <= sizeLine) :
  Inv X pins σ (upd H s.heap.objs.size (.lst ys)) { s with heap := s.heap.push { cls := .type "list", data := .seq its.toArray }, toks := t' } :=
 I.laid (fun _ _ q => Heap.get?_push_of_some _ q) (Nat.le_refl _) ⟨hz, its, 0, hv, Heap.get?_push_size _ rfl⟩
theorem Inv.fresh (I : Inv X pins σ H s) : H s.heap.objs.size = none := I.hok.fresh (Nat.le_refl _)
theorem Inv.lstM (I : Inv X pins σ H s) (hH : H l = some (.lst xs)) : xs.length <= sizeLine /\ ∃ (its : List Value) (n : Nat), Vals xs its /\ xs.length = its.length /\ s.heap.get? l = some { cls := .type "list", data := .seq its.toArray n } := by
 obtain ⟨z, its, n, r, e⟩ := I.hok l _ hH
 exact ⟨z, its, n, r, r.length, e⟩
end
section
variable {X : Cx}
def rAppend : V -> List V -> Hp -> VK -> Prop := fun x vs H Q => ∃ l xs y, x = .ref l /\ vs = [y] /\ H l = some (.lst xs) /\ xs.length < sizeLine /\ Q .non (upd H l (.lst (xs ++ [y])))
theorem mt_append : MtM X "list.append" rAppend := by
 intro pins s σ H x vs v us Q I rx rv h
 obtain ⟨l, xs, y, rfl, rfl, hH, hz, q⟩ := h
 cases rx
 obtain ⟨u, rfl, ru⟩ := rv.one
 obtain ⟨z, its, n, r, hl, e⟩ := I.lstM hH
 refine call_meets F.slot_list_append ⟨_, e, rfl⟩ F.entry_list_append (F.args_list_append_2 _ _) (PySem.list_append l its.toArray n u (by rw [List.size_toArray]; omega)) ⟨e, ?_⟩
 refine ⟨.non, _, I.lset (its' := its ++ [u]) hH e (by simp) (r.append (.cons ru .nil)) ?_, rfl, q⟩
 rw [List.length_append, List.length_singleton]
 omega
def rPop : V -> List V -> Hp -> VK -> Prop := fun x vs H Q => ∃ l xs y, x = .ref l /\ vs = [] /\ H l = some (.lst xs) /\ xs[xs.length - 1]? = some y /\ Q y (upd H l (.lst xs.dropLast))
theorem mt_pop : MtM X "list.pop" rPop := by
 intro pins s σ H x vs v us Q I rx rv h
 obtain ⟨l, xs, y, rfl, rfl, hH, hy, q⟩ := h
 cases rx
 have hus := rv.zero
 subst hus
 obtain ⟨z, its, n, r, hl, e⟩ := I.lstM hH
 obtain ⟨u, hu, ru⟩ := r.get hy
 have hy' : its.toArray[its.toArray.size - 1]? = some u := by
  show its.toArray[its.length - 1]? = some u
  rw [<- Array.getElem?_toList, <- hl]
  exact hu
 refine call_meets F.slot_list_pop ⟨_, e, rfl⟩ F.entry_list_pop (F.args_list_pop_1 _) (MeetsSeq.list_pop_last l its.toArray n u hy' (by rw [List.size_toArray]; omega)) ⟨e, ?_⟩
 refine ⟨y, _, I.lset (its' := its.dropLast) hH e ?_ r.dropLast ?_, ru, q⟩
 ·show its.toArray.eraseIdxIfInBounds (its.toArray.size - 1) = its.dropLast.toArray
  rw [List.size_toArray, List.eraseIdxIfInBounds_toArray, erase_last]
 ·rw [List.length_dropLast]
  omega
end
end L2
namespace Att
open PySem PySem.W PySem.Calls PyProof.Rows
theorem ints_of_wellAll {P : Params} {h : Heap} : ∀ (ns : List Int) (vs : List Value), WellAll P h vs (ns.map WData.int) -> IntsAre vs ns := by
 intro ns
 induction ns with
 | nil =>
  intro vs w
  rw [List.map_nil] at w
  cases w
  exact .nil
 | cons n ns ih =>
  intro vs w
  rw [List.map_cons] at w
  cases w with
  | cons a b =>
   cases a
   exact .cons _ _ (ih _ b)
theorem script_of {l : OpenLaw} {n : Nat} (hn : l.most = some n) {P : Params} {h : Heap} {args : List WData} {vals : List Value}
  (hpre : l.row.toRowW.claim.pre args = true) (hwl : WellAll P h vals args) :
  ∃ a vs ns, vals = [Value.ref a] /\ args = [WData.list (ns.map WData.int)] /\ h.get? a = some { cls := .type "list", data := .seq vs.toArray } /\ IntsAre vs ns /\ ns.length <= n := by
 have hsh : WShape.hasAll [] args [.list .int] = true := (pre_splitW hpre).1
 have hc : l.pre.holds [] { args := args } = true := (pre_splitW hpre).2
 obtain ⟨d, r, rfl, h1, h2⟩ := hasAllW_cons hsh
 obtain rfl := hasAllW_nil h2
 obtain ⟨xs, rfl, h3⟩ := hasW_list h1
 obtain ⟨ns, rfl⟩ := items_int h3
 have hlen : ns.length <= n := by
  unfold OpenLaw.pre at hc
  have h4 : (WTm.not (.lt (.lit (.int (n : Int))) (.len (.arg 0)))).holds [] { args := [.list (ns.map .int)] } = true := by
   have h4 := (holds_andW hc).1
   rw [hn] at h4
   exact h4
  have h5 := condW_of h4 (w_not (w_lt w_lit (w_len_list (w_arg rfl))))
  rw [List.length_map] at h5
  refine Nat.le_of_not_lt fun q => ?_
  have q' : (n : Int) < ((ns.length : Nat) : Int) := by omega
  first
   | (rw [decide_eq_true q'] at h5; exact absurd h5 (by decide))
   | (simp at h5; omega)
 cases hwl with
 | cons w1 w2 =>
  cases w2
  cases w1 with
  | list ho hall => exact ⟨_, _, ns, rfl, rfl, ho, ints_of_wellAll ns _ hall, hlen⟩
theorem post_true (l : OpenLaw) (args : List WData) : l.row.toRowW.claim.post args (.bool true) args = true :=
 postW_of (r := l.row.toRowW) (X := (true == true))
  (show WShape.has [] (.bool true) .bool = true by first | rfl | decide | simp [WShape.has, WShape.arms, WShape.armsAll])
  (show (WTm.eq .res (.lit (.bool true))).value [] { args := args, res := some (.bool true), after := args } = some (.bool (true == true)) from w_eq_bool (w_res rfl) w_lit) rfl
theorem attach_call {l : OpenLaw} {n : Nat} {q : Program} {loose : List Str} {XP : (Str -> Option Value) -> Heap -> Prop} {YP : World -> Heap -> Prop} {d : DefRec}
  (hn : l.most = some n) (hdf : d.params.defaults = [])
  (call : ∀ (w : World) (s₀ s₁ : Shared) (mg mb : Str -> Option Value) (fa : Addr) (o : Obj) (pm cd doc : Value) (a : Addr) (vs : List Value) (ns : List Int),
   Ground q loose [] XP w s₀ mg mb s₁.heap -> YP w s₁.heap ->
   s₁.heap.get? fa = some o -> o.data = .func (docDef d.name d.params d.body d.scope pm cd doc) -> s₁.heap.CodeRec cd d.name -> mg d.name = some (.ref fa) ->
   s₁.heap.get? a = some { cls := .type "list", data := .seq vs.toArray } -> IntsAre vs ns -> ns.length <= n -> s₁.gens = #[] ->
   codeAny (model l.prog w) callerA (.call (.ref fa) ⟨[.ref a], []⟩) (fun r s' => r = .ok (.ret (.bool true)) /\ OldK s₁.heap s'.heap /\ s'.os = s₁.os /\ AllBare s'.gens) s₁) :
  WalkO q loose XP YP l.row.toRowW d [] (fun f vs => PySem.call f vs) := by
 intro w s₀ s₁ mg mb G Y fa o pm cd doc dV kV ho hd hcd hD hmg hg args vals as hpre hlay hrd hwl hlo
 obtain rfl : dV = .none := Dflts.none hD hdf
 obtain rfl : kV = .none := Dflts.noKw hD
 obtain ⟨a, vs, ns, rfl, rfl, hobj, hints, hlen⟩ := script_of hn hpre hwl
 refine enter_call (codeAny_mono (call w s₀ s₁ mg mb fa o pm cd doc a vs ns G Y ho (fd_plain hd) hcd hmg hobj hints hlen hg) fun r s' hq => ?_)
 obtain ⟨rfl, h2, h3, h4⟩ := hq
 exact ⟨.inl ⟨.bool true, .bool true, [], rfl, fun _ => rfl, .bool true, post_true l _, fun _ => ⟨List.Pairwise.nil, fun _ hm => (nomatch hm)⟩⟩, h2, h3, h4⟩
end Att
namespace L2
open PySem PySem.Spec PyProof.Rows
theorem vals_ints : ∀ {vs : List Value} {ns : List Int}, IntsAre vs ns -> Vals (ns.map V.int) vs
 | _, _, .nil => .nil
 | _, _, .cons n t h => .cons ⟨t, rfl⟩ (vals_ints h)
def Only (H : Hp) : Prop := ∀ b, H b = none \/ ∃ o xs, H b = some (.frz o (.lst xs))
theorem law_call {P : Program} {w : World} {K : PySem.W.Frag} {mg mb : Str -> Option Value} {CX : CXT} {k : Nat} {fa a : Addr} {fd : FuncData} {x : Str} {sp : Sp} {s₁ : Shared} {vs : List Value} {ns : List Int}
  (KX : K.In s₁.heap) (hns : s₁.heap.Ns mainGlobals mg) (hb : s₁.heap.Ns builtinsNs mb) (hbb : ∀ x : Str, x ≠ "__name__" -> mb x = bootBuiltins x) (hlim : s₁.heap.NoLimit) (hg : s₁.gens = #[])
  (ha : s₁.heap.get? a = some { cls := .type "list", data := .seq vs.toArray }) (hi : IntsAre vs ns) (hl : ns.length <= sizeLine) (hr : Room k callerA)
  (F : ∀ base : Heap, K.In base -> base.Ns mainGlobals mg -> FnOk P w K mg base CX k fa fd [x] sp) (hbind : ∀ (s : Shared) (u : Value), BindsTo s fd ⟨[u], []⟩ [(x, u)])
  (hsp : ∀ H : Hp, Only H -> SqL K H a (ns.map V.int) -> sp [.ref a] H (fun v _ => v = .bl true) fun _ _ _ => False)
  (hCX : ∀ H e s', CX [] H s₁ (fun _ _ _ => False) e s' -> False) :
  codeAny (model P w) callerA (.call (.ref fa) ⟨[.ref a], []⟩) (fun r s' => r = .ok (.ret (.bool true)) /\ OldK s₁.heap s'.heap /\ s'.os = s₁.os /\ AllBare s'.gens) s₁ := by
 have rv := vals_ints hi
 have lenV := hi.length
 -- from an abstract heap in which nothing but the script may be tracked
 have core : ∀ H : Hp, Only H -> SqL K H a (ns.map V.int) -> HOk P w H s₁.heap -> (∀ b, H b ≠ none -> b = a) -> (H a ≠ none -> K.lookup a = none) ->
   codeAny (model P w) callerA (.call (.ref fa) ⟨[.ref a], []⟩) (fun r s' => r = .ok (.ret (.bool true)) /\ OldK s₁.heap s'.heap /\ s'.os = s₁.os /\ AllBare s'.gens) s₁ := by
  intro H hO hS hok hA hK
  have base_of : ∀ {b : Addr} {o : Obj}, s₁.heap.get? b = some o -> H b = none -> (hidT s₁.heap H).get? b = some o := fun e n => hidT_get e n
  have noA : ∀ {b : Addr} {o : Obj} {es : Array DictEntry} {ep : Nat}, s₁.heap.get? b = some o -> o.data = .dict es ep -> H b = none := fun {b o es ep} e d => by
   cases q : H b with
   | none => rfl
   | some u =>
    have e' : b = a := hA b (by rw [q]; simp)
    subst e'
    rw [ha] at e; cases e
    have d' : Data.seq vs.toArray _ = Data.dict es ep := d
    cases d'
  have nsK : ∀ {b : Addr} {m : Str -> Option Value}, s₁.heap.Ns b m -> (hidT s₁.heap H).Ns b m := fun {b m} ⟨o, es, ep, e, d, r⟩ => ⟨o, es, ep, base_of e (noA e d), d, r⟩
  have hKb : K.In (hidT s₁.heap H) := fun b o e => base_of (KX b o e) (by
   cases q : H b with
   | none => rfl
   | some u =>
    have e' : b = a := hA b (by rw [q]; simp)
    subst e'
    rw [hK (by rw [q]; simp)] at e; cases e)
  have hM : Mod K mg (hidT s₁.heap H) := ⟨hKb, nsK hns, ⟨mb, nsK hb, hbb⟩, let ⟨mc, h1, h2⟩ := hlim; ⟨mc, nsK h1, h2⟩⟩
  have e0 : Env0 P w K mg (hidT s₁.heap H) callerA [] s₁ H := ⟨rfl, hM, fun b o e => of_hidT e, Nat.le_of_eq (hidT_size _ _), trivial, fun b hb => absurd (show b ∈ ([] : List Addr) from hb) (by simp), hok, .of_eq hg⟩
  refine codeAny_mono ((F _ hKb (nsK hns)).run callerA [] s₁ H ⟨[.ref a], []⟩ [.ref a] [.ref a] _ _ hr e0 (hbind s₁ (.ref a)) (.cons rfl .nil) (hsp H hO hS)) fun r s' h => ?_
  cases r with
  | error e => exact (hCX H e s' h).elim
  | ok fl =>
   cases fl with
   | next => exact False.elim h
   | brk => exact False.elim h
   | cont => exact False.elim h
   | ret u =>
    obtain ⟨v, H', os, bare, un, hok', r', q⟩ := h
    have q' : v = .bl true := q
    subst q'
    obtain rfl : u = Value.bool true := r'
    refine ⟨rfl, OldK.of_keep fun b o e => ?_, os, bare⟩
    cases q : H b with
    | none => exact un.keep b o e q (by intro z; exact absurd (show b ∈ ([] : List Addr) from z) (by simp)) (by simp)
    | some u =>
     rcases hO b with z | ⟨ob, xs, z⟩
     ·rw [q] at z; cases z
     ·have z2 := un.frzs b ob _ z
      obtain ⟨e1, _⟩ := hok b _ z
      obtain ⟨e2, _⟩ := hok' b _ z2
      rw [e] at e1; cases e1
      exact e2
 cases hk : K.lookup a with
 | some o =>
  -- the script is one of the module's own objects
  have e := KX a o hk
  rw [ha] at e
  cases e
  refine core (fun _ => none) (fun _ => .inl rfl) (.inr ⟨_, vs.toArray, _, hk, rfl, rfl, rfl, by rw [List.size_toArray, lenV]; exact hl, by simpa using rv⟩) (fun b u z => by have z' : (none : Option HO) = some u := z; cases z') (fun b z => absurd rfl z) fun z => absurd rfl z
 | none =>
  refine core (fun b => if b = a then some (.frz { cls := .type "list", data := .seq vs.toArray } (.lst (ns.map V.int))) else none) (fun b => ?_) (.inl (.inr ⟨{ cls := .type "list", data := .seq vs.toArray }, if_pos rfl⟩)) (fun b u z => ?_) (fun b z => ?_) fun _ => hk
  ·by_cases hb : b = a
   ·exact .inr ⟨_, _, if_pos hb⟩
   ·exact .inl (if_neg hb)
  ·by_cases hb : b = a
   ·have z' := (if_pos hb).symm.trans z
    cases z'
    subst hb
    exact ⟨ha, by rw [List.length_map]; exact hl, vs, _, rv, ha⟩
   ·have z' := (if_neg hb).symm.trans z
    cases z'
  ·by_cases hb : b = a
   ·exact hb
   ·exact absurd (if_neg hb) z
end L2
namespace L2
open PySem PySem.Spec PyProof.Rows
theorem walk_of {l : PySem.W.OpenLaw} {n k : Nat} {q : Program} {loose : List Str} {XP : (Str -> Option Value) -> Heap -> Prop} {YP : World -> Heap -> Prop} {d : DefRec} {K : Params -> PySem.W.Frag} {CX : World -> CXT} {sp : World -> Sp} {x : Str}
  (hn : l.most = some n) (hn2 : n <= sizeLine) (hdf : d.params.defaults = []) (hr : Room k callerA)
  (hY : ∀ (w : World) (h : Heap), YP w h -> (K w.params).In h)
  (F : ∀ (w : World) (mg : Str -> Option Value) (fa : Addr) (h : Heap), (K w.params).In h -> h.Ns mainGlobals mg -> mg d.name = some (.ref fa) ->
   ∃ fd : FuncData, (∀ (s : Shared) (u : Value), BindsTo s fd ⟨[u], []⟩ [(x, u)]) /\
    ∀ base : Heap, (K w.params).In base -> base.Ns mainGlobals mg -> FnOk l.prog w (K w.params) mg base (CX w) k fa fd [x] (sp w))
  (hsp : ∀ (w : World) (H : Hp) (a : Addr) (ns : List Int), ns.length <= n -> Only H -> SqL (K w.params) H a (ns.map V.int) -> sp w [.ref a] H (fun v _ => v = .bl true) fun _ _ _ => False)
  (hCX : ∀ (w : World) (H : Hp) (s : Shared) (e : Value) (s' : Shared), CX w [] H s (fun _ _ _ => False) e s' -> False) :
  PySem.W.WalkO q loose XP YP l.row.toRowW d [] (fun f vs => PySem.call f vs) := by
 refine Att.attach_call hn hdf fun w s₀ s₁ mg mb fa o pm cd doc a vs ns G Y ho hd hcd hmg hobj hints hlen hg => ?_
 have KX := hY w _ Y
 obtain ⟨fd, hb, hF⟩ := F w mg fa _ KX G.T.g hmg
 exact law_call KX G.T.g G.T.b G.T.builtins G.T.nolimit hg hobj hints (Nat.le_trans hlen hn2) hr hF hb (fun H hO hS => hsp w H a ns hlen hO hS) fun H e s' => hCX w H s₁ e s'
end L2
namespace L2
open PySem PySem.Spec PyProof.Rows
def inClass (s : Stmt) (j : Nat) : Stmt := match s with
 | .ClassDef _ _ _ body _ _ _ _ _ _ _ => body.getD j (.Pass ⟨0, 0, 0, 0⟩)
 | _ => .Pass ⟨0, 0, 0, 0⟩
def defArgs (s : Stmt) : Arguments := match s with
 | .FunctionDef _ a _ _ _ _ _ _ _ _ => a
 | _ => { posonlyargs := [], args := [], vararg := none, kwonlyargs := [], kw_defaults := [], kwarg := none, defaults := [] }
def defBody (s : Stmt) : List Stmt := match s with
 | .FunctionDef _ _ b _ _ _ _ _ _ _ => b
 | _ => []
def defScope (s : Stmt) : Scope := match s with
 | .FunctionDef _ _ _ _ _ _ sc _ _ _ => sc
 | _ => { kind := .function, names := [], isGenerator := false, isCoroutine := false }
abbrev CX0 : CXT := fun _ _ _ _ _ _ => False
abbrev E0 : XK := fun _ _ _ => False
theorem pass0 {X : Cx} : Passes CX0 X E0 := fun _ _ _ _ _ _ _ h => h.elim
structure Fun (K : PySem.W.Frag) (x qual : Str) (st : Stmt) (f : Addr) (fd : FuncData) : Prop where
 ex : ∃ (oc : Value) (od : Option Addr) (kV doc pm : Value) (an : Option Addr) (cdv ct : Value) (osl : Array (Option Value)),
  fd = PySem.W.fnOf x qual (defArgs st) (defBody st) (defScope st) .none kV doc pm an cdv ct /\ K.lookup f = some ⟨oc, od, .func fd, osl⟩ /\ PySem.W.codeIn K cdv qual = true
 kp : PySem.W.keepIn K (.ref f) = true
section
variable {P : Program} {w : World} {K : PySem.W.Frag} {mg : Str -> Option Value} {base : Heap}
theorem Fun.ok {x qual : Str} {st : Stmt} {f : Addr} {fd : FuncData} {N ps : List Str} {k : Nat} {sp : Sp} (F : Fun K x qual st f fd) (S : FnScope N ps (defScope st)) (len : ∀ vs H Q E, sp vs H Q E -> vs.length = ps.length)
  (hbody : ∀ (cdv : Value) (A : Around) (outer : List Env) (s : Shared) (H : Hp) (vs : List V) (Q : VK) (E : XK), Room k (A.deeper (envOfC qual (defScope st) s.heap.objs.size f cdv)) -> sp vs H Q E ->
   ∃ t, PSs (cxOf CX0 P w K mg base N qual (defScope st) f cdv A outer s H E).nox (defBody st) t /\ t { nx := fun _ H' => Q .non H', rt := Q } (start N vs) H) : FnOk P w K mg base CX0 (k + 1) f fd ps sp := by
 obtain ⟨oc, od, kV, doc, pm, an, cdv, ct, osl, rfl, lk, hcd⟩ := F.ex
 refine fn_of lk hcd S len fun A outer s H vs Q E hr hsp => ?_
 obtain ⟨t, h, q⟩ := hbody cdv A outer s H vs Q E hr hsp
 exact ⟨t, h.nox, q⟩
theorem Fun.binds {x qual : Str} {st : Stmt} {f : Addr} {fd : FuncData} {ps : List Str} (F : Fun K x qual st f fd)
  (h : ∀ (kV doc pm : Value) (an : Option Addr) (cdv ct : Value) (us : List Value), us.length = ps.length -> bindArgs (PySem.W.fnOf x qual (defArgs st) (defBody st) (defScope st) .none kV doc pm an cdv ct) ⟨us, []⟩ = pure (ps.zip us)) : Binds K fd ps [] := by
 obtain ⟨oc, od, kV, doc, pm, an, cdv, ct, osl, rfl, lk, hcd⟩ := F.ex
 exact .all (h kV doc pm an cdv ct)
theorem fun_mk {x qual : Str} {st : Stmt} {f : Addr} {oc : Value} {od an : Option Addr} {osl : Array (Option Value)} {kV doc pm cdv ct : Value} (l : K.lookup f = some ⟨oc, od, .func (PySem.W.fnOf x qual (defArgs st) (defBody st) (defScope st) .none kV doc pm an cdv ct), osl⟩)
  (c : PySem.W.codeIn K cdv qual = true) (k : PySem.W.keepIn K (.ref f) = true) : Fun K x qual st f (PySem.W.fnOf x qual (defArgs st) (defBody st) (defScope st) .none kV doc pm an cdv ct) := ⟨⟨oc, od, kV, doc, pm, an, cdv, ct, osl, rfl, l, c⟩, k⟩
end
theorem hu_of {A : Around} {k : Nat} (hr : Room k A) : A.units + 1 < cLine := Nat.lt_of_le_of_lt (Nat.add_le_add_left (by decide : 1 <= 64) _) hr.units
theorem small1000 {n : Nat} (h : n <= 1000) : n < sizeLine := Nat.lt_of_le_of_lt h (by decide)
section
variable {X : Cx}
theorem pv (i : Nat) {x : Str} {pos : Pos} (hN : X.N[i]? = some x := by rfl) (hv : Vis X.env.scope x := by first | exact Or.inl rfl | exact Or.inr (Or.inl rfl) | exact Or.inr (Or.inr rfl)) (hd : (x == ("__debug__" : Str)) = false := by decide)
  (hcd : (x == ("__classdict__" : Str)) = false := by decide) : PE X (.Name x pos) (tVar i) := pe_var hN hv hd hcd
end
theorem iteF {A B : Prop} (h : B) : if false = true then A else B := by
 rw [if_neg Bool.false_ne_true]
 exact h
theorem iteT {A B : Prop} (h : A) : if true = true then A else B := by
 rw [if_pos rfl]
 exact h
theorem ite2 {c A B : Prop} [Decidable c] (h1 : c -> A) (h2 : ¬ c -> B) : if c then A else B := by
 by_cases h : c
 ·rw [if_pos h]
  exact h1 h
 ·rw [if_neg h]
  exact h2 h
def Same (H H' : Hp) : Prop := ∀ b o, H b = some o -> H' b = some o
theorem Same.refl (H : Hp) : Same H H := fun _ _ h => h
theorem Same.free {H H' : Hp} (e : Same H H') {l : Addr} (h : H' l = Option.none) : H l = Option.none := by
 cases q : H l with
 | none => rfl
 | some o =>
  rw [e l o q] at h
  cases h
end L2
namespace L2
open PySem PySem.Spec PyProof.Rows
theorem closure_names {env : Env} : ∀ (names : List (Str × NameKind)) (acc : List (Str × Addr)), (∀ y ∈ names, y.2 = .free -> ∃ c, env.cells.lookup y.1 = some c) ->
  ∃ cl, (forIn names acc (fun (x : Str × NameKind) (cs : List (Str × Addr)) => if (x.2 == NameKind.free) = true then (do let c <- cellOf env x.1; pure (ForInStep.yield ((x.1, c) :: cs))) else pure (ForInStep.yield cs)) : Sem (List (Str × Addr))) = pure cl /\
   (∀ x c, cl.lookup x = some c -> env.cells.lookup x = some c \/ acc.lookup x = some c) /\ (∀ x c, acc.lookup x = some c -> ∃ c', cl.lookup x = some c') /\ ∀ y ∈ names, y.2 = .free -> ∃ c, cl.lookup y.1 = some c
 | [], acc, _ => ⟨acc, rfl, fun _ _ h => .inr h, fun _ c h => ⟨c, h⟩, fun _ h => nomatch h⟩
 | (n, k) :: r, acc, h => by
  rw [List.forIn_cons]
  by_cases hk : k = .free
  ·subst hk
   obtain ⟨c, hc⟩ := h (n, .free) List.mem_cons_self rfl
   obtain ⟨cl, h1, h2, h3, h4⟩ := closure_names r ((n, c) :: acc) fun y hy => h y (List.mem_cons_of_mem _ hy)
   refine ⟨cl, ?_, fun x d e => ?_, fun x d e => ?_, fun y hy e => ?_⟩
   ·have e1 : cellOf env n = pure c := by unfold cellOf; rw [hc]
    simp only [beq_self_eq_true, if_true, e1, pure_bind]
    exact h1
   ·rcases h2 x d e with z | z
    ·exact .inl z
    ·rw [List.lookup_cons] at z
     split at z
     ·rename_i hx
      cases z
      have : x = n := eq_of_beq hx
      subst this
      exact .inl hc
     ·exact .inr z
   ·refine h3 x (if x == n then c else d) ?_
    rw [List.lookup_cons]
    cases hx : x == n with
    | true => simp [hx]
    | false => simp [hx, e]
   ·rcases List.mem_cons.mp hy with z | z
    ·subst z
     exact h3 n c (by simp [List.lookup_cons])
    ·exact h4 y z e
  ·have hb : (k == NameKind.free) = false := by simpa using hk
   obtain ⟨cl, h1, h2, h3, h4⟩ := closure_names r acc fun y hy => h y (List.mem_cons_of_mem _ hy)
   refine ⟨cl, ?_, h2, h3, fun y hy e => ?_⟩
   ·simp only [hb, Bool.false_eq_true, if_false, pure_bind]
    exact h1
   ·rcases List.mem_cons.mp hy with z | z
    ·subst z
     exact absurd e hk
    ·exact h4 y z e
theorem closure_ok {scope : Scope} {env : Env} (h : ∀ y ∈ scope.names, y.2 = .free -> ∃ c, env.cells.lookup y.1 = some c) :
  ∃ cl, closureFor scope env = pure cl /\ (∀ x c, cl.lookup x = some c -> env.cells.lookup x = some c) /\ ∀ y ∈ scope.names, y.2 = .free -> ∃ c, cl.lookup y.1 = some c := by
 obtain ⟨cl, h1, h2, h3, h4⟩ := closure_names scope.names [] h
 refine ⟨cl, ?_, fun x c e => (h2 x c e).elim id fun z => (by cases z), h4⟩
 unfold closureFor
 refine Eq.trans ?_ h1
 refine Eq.trans (bind_pure _) ?_
 rfl
theorem lookup_relabel_free {env : Env} : ∀ {names : List (Str × NameKind)} {x : Str}, names.lookup x = some .free ->
  (names.map fun (n, k) => if (k == NameKind.free && env.scope.kind == .function && env.kindOf n == some .cell) then (n, NameKind.cell) else (n, k)).lookup x = some .cell \/
  (names.map fun (n, k) => if (k == NameKind.free && env.scope.kind == .function && env.kindOf n == some .cell) then (n, NameKind.cell) else (n, k)).lookup x = some .free
 | [], _, h => by simp at h
 | (n, k) :: r, x, h => by
  have ih := @lookup_relabel_free env r x
  show List.lookup x ((if (k == NameKind.free && env.scope.kind == .function && env.kindOf n == some .cell) = true then (n, NameKind.cell) else (n, k)) :: _) = _ \/ List.lookup x ((if (k == NameKind.free && env.scope.kind == .function && env.kindOf n == some .cell) = true then (n, NameKind.cell) else (n, k)) :: _) = _
  by_cases hc : (k == NameKind.free && env.scope.kind == .function && env.kindOf n == some .cell) = true
  ·rw [if_pos hc]
   cases hx : x == n with
   | true => simp only [List.lookup_cons, hx]; exact .inl trivial
   | false =>
    simp only [List.lookup_cons, hx] at h ⊢
    exact ih h
  ·rw [if_neg hc]
   cases hx : x == n with
   | true =>
    simp only [List.lookup_cons, hx] at h ⊢
    exact .inr h
   | false =>
    simp only [List.lookup_cons, hx] at h ⊢
    exact ih h
theorem mem_relabel {env : Env} {names : List (Str × NameKind)} (hn : ∀ y ∈ names, y.2 ≠ .cell) {x : Str} {k : NameKind} (hk : k = .cell \/ k = .free)
  (h : (names.map fun (n, k) => if (k == NameKind.free && env.scope.kind == .function && env.kindOf n == some .cell) then (n, NameKind.cell) else (n, k)).lookup x = some k) : (x, NameKind.free) ∈ names := by
 obtain ⟨⟨n, k'⟩, hm, e⟩ := List.mem_map.mp (PySem.mem_of_lookup h)
 simp only at e
 split at e
 ·rename_i hc
  rw [Bool.and_eq_true, Bool.and_eq_true] at hc
  have : k' = .free := eq_of_beq hc.1.1
  subst this
  injection e with e1 _
  subst e1
  exact hm
 ·injection e with e1 e2
  subst e1 e2
  rcases hk with z | z
  ·exact absurd z (hn _ hm)
  ·subst z; exact hm
def cxComp (X : Cx) (N : List Str) (scope : Scope) (cl : List (Str × Addr)) (C : Addr) (fp : List Addr) (s : Shared) (H : Hp) : Cx where
 prog := X.prog
 w := X.w
 K := X.K
 mg := X.mg
 base := X.base
 A := X.A
 N := N
 s₀ := s
 H₀ := H
 env := compEnvC scope cl C X.env
 outer := X.stack
 stack := X.stack
 ex := fp
 fn := fun _ => false
 calm := X.calm
 pn := []
 xe := fun _ _ => False
structure CompScope (sc : Scope) (XN N : List Str) (own : Nat) (fr : List Nat) (scope : Scope) : Prop where
 kind : scope.kind = .function
 nocell : ∀ y ∈ scope.names, y.2 ≠ .cell
 free : ∀ y ∈ scope.names, y.2 = .free -> sc.names.lookup y.1 = some .cell \/ sc.names.lookup y.1 = some .free
 loc : ∀ y ∈ scope.names, y.2 = .local -> scope.names.lookup y.1 = some .local
 names : N.drop own = fr.filterMap fun i => XN[i]?
 frl : ∀ i ∈ fr, i < XN.length
 len : own <= N.length
 vis : ∀ x ∈ N.drop own, scope.names.lookup x = some .free
def σf (fr : List Nat) (σ : St) : St := fr.map fun i => σ.getD i none
def σc (own : Nat) (fr : List Nat) (σ : St) : St := List.replicate own none ++ σf fr σ
section
variable {X : Cx} {pins : List (Addr × Obj)} {σ : St} {H : Hp} {s : Shared} {N : List Str} {own : Nat} {fr : List Nat} {scope : Scope}
theorem filterMap_all {XN : List Str} : ∀ {fr : List Nat}, (∀ i ∈ fr, i < XN.length) -> ∀ (j : Nat), (fr.filterMap fun i => XN[i]?)[j]? = (fr[j]?).bind fun i => XN[i]?
 | [], _, j => by simp
 | i :: r, h, j => by
  have hi : i < XN.length := h i List.mem_cons_self
  rw [List.filterMap_cons, List.getElem?_eq_getElem hi]
  cases j with
  | zero => simp [hi]
  | succ j => simpa using filterMap_all (fun k hk => h k (List.mem_cons_of_mem _ hk)) j
theorem inv_comp {cl : List (Str × Addr)} {fp : List Addr} {h' : Heap} (I : Inv X pins σ H s) (S : CompScope X.env.scope X.N N own fr scope) (hcl : ∀ x c, cl.lookup x = some c -> X.env.cells.lookup x = some c)
  (hcf : ∀ y ∈ scope.names, y.2 = .free -> ∃ c, cl.lookup y.1 = some c) (hfp : ∀ b ∈ fp, FpOk X pins H b) (hfo : ∀ b ∈ fp, ∃ o, s.heap.get? b = some o)
  (hns : h'.Ns s.heap.objs.size fun _ => none) (hk : ∀ b o, s.heap.get? b = some o -> h'.get? b = some o) :
  Inv (cxComp X N scope cl s.heap.objs.size fp s H) [] (σc own fr σ) H { s with heap := h' } := by
 have kindE : ∀ x, (Env.kindOf (compEnvC scope cl s.heap.objs.size X.env) x) = (relabel scope X.env).names.lookup x := fun x => rfl
 have memF : ∀ x, (Env.kindOf (compEnvC scope cl s.heap.objs.size X.env) x = some .cell \/ Env.kindOf (compEnvC scope cl s.heap.objs.size X.env) x = some .free) -> (x, NameKind.free) ∈ scope.names := fun x hx => by
  rcases hx with z | z
  ·exact mem_relabel (env := X.env) S.nocell (.inl rfl) z
  ·exact mem_relabel (env := X.env) S.nocell (.inr rfl) z
 refine ⟨⟨I.ok.mod, S.kind, I.ok.glob, I.ok.blt, Nat.le_refl _, fun x y c h1 h2 => I.ok.inj x y c (hcl x c h1) (hcl y c h2), fun x hx => hcf (x, .free) (memF x hx) rfl, fun x c h => absurd (show false = true from h) (by decide), I.ok.hd, I.ok.frames, .inl rfl, fun b hb => ?_, I.bs, Nat.le_trans I.ok.bsz I.sz, fun b o e hb => ?_, fun b hb z => ?_, I.stack, I.stkFree⟩,
  rfl, I.bare, Un.kept hk, ⟨_, hns, fun i x v e1 e2 e3 => ?_⟩, fun x c e => ?_, I.hok.fresh (Nat.le_refl _), fun x c e => I.freeC x c (hcl x c e), fun p hp => absurd (show p ∈ ([] : List (Addr × Obj)) from hp) (by simp), I.hok.kept hk, ?_⟩
 ·obtain ⟨o, ho⟩ := hfo b hb
  exact ⟨Nat.ne_of_lt (Heap.lt_size ho), fun x c e => (hfp b hb).2.2.2.2.1 x c (hcl x c e)⟩
 ·rcases (hfp b hb).2.2.2.1 with z | z
  ·exact I.ok.noex b o e z
  ·exact absurd (Nat.lt_of_lt_of_le (Heap.lt_size (I.ok.bs b o e).1) z) (Nat.lt_irrefl _)
 ·rcases List.mem_cons.mp (I.stkSub b z) with q | q
  ·exact (hfp b hb).2.1 q
  ·exact (hfp b hb).2.2.1 q
 ·have hi : own <= i := by
   rcases Nat.lt_or_ge i own with z | z
   ·have e2' : (σc own fr σ)[i]? = some (some v) := e2
    unfold σc at e2'
    rw [List.getElem?_append_left (by simpa using z), List.getElem?_replicate] at e2'
    split at e2' <;> cases e2'
   ·exact z
  have e2' : (σf fr σ)[i - own]? = some (some v) := by
   have e2' : (σc own fr σ)[i]? = some (some v) := e2
   unfold σc at e2'
   rw [List.getElem?_append_right (by simpa using hi)] at e2'
   simpa using e2'
  have e1' : (N.drop own)[i - own]? = some x := by
   have e1' : N[i]? = some x := e1
   rw [List.getElem?_drop]
   rw [show own + (i - own) = i by omega]
   exact e1'
  have hv : scope.names.lookup x = some .free := S.vis x (List.mem_of_getElem? e1')
  have hx : X.env.scope.names.lookup x = some .cell \/ X.env.scope.names.lookup x = some .free := S.free (x, .free) (PySem.mem_of_lookup hv) rfl
  rw [S.names, filterMap_all S.frl] at e1'
  unfold σf at e2'
  rw [List.getElem?_map] at e2'
  cases q : fr[i - own]? with
  | none => rw [q] at e2'; cases e2'
  | some j =>
   rw [q] at e1' e2'
   have e1'' : X.N[j]? = some x := e1'
   have e2'' : σ.getD j none = some v := Option.some.inj e2'
   have e3' : σ[j]? = some (some v) := by
    rw [List.getD_eq_getElem?_getD] at e2''
    cases z : σ[j]? with
    | none => rw [z] at e2''; cases e2''
    | some y => rw [z] at e2''; exact congrArg some e2''
   obtain ⟨m, hn, hl⟩ := I.loc
   obtain ⟨u, r, l⟩ := hl j x v e1'' e3' (.inr hx)
   refine ⟨u, r, .inr ⟨lookup_relabel_free (env := X.env) hv, ?_⟩⟩
   rcases l with ⟨k, _⟩ | ⟨_, c, hc, z⟩
   ·have k' : X.env.scope.names.lookup x = some .local := k
    rw [k'] at hx
    rcases hx with z | z <;> cases z
   ·obtain ⟨c', hc'⟩ := hcf (x, .free) (PySem.mem_of_lookup hv) rfl
    have := hcl x c' hc'
    rw [hc] at this
    cases this
    exact ⟨c, hc', z.keeps hk⟩
 ·obtain ⟨v, z⟩ := I.cell x c (hcl x c e)
  exact ⟨v, z.keeps hk⟩
 ·show (σc own fr σ).length = N.length
  unfold σc σf
  have h1 := congrArg List.length S.names
  have h2 : (fr.filterMap fun i => X.N[i]?).length = fr.length := by
   have : ∀ (l : List Nat), (∀ i ∈ l, i < X.N.length) -> (l.filterMap fun i => X.N[i]?).length = l.length := by
    intro l
    induction l with
    | nil => intro _; rfl
    | cons i r ih =>
     intro h
     rw [List.filterMap_cons, List.getElem?_eq_getElem (h i List.mem_cons_self)]
     simp [ih fun k hk => h k (List.mem_cons_of_mem _ hk)]
   exact this fr S.frl
  rw [List.length_drop, h2] at h1
  rw [List.length_append, List.length_replicate, List.length_map]
  have := S.len
  omega
end
section
variable {prog : Program} {w : World} {A : Around} {R : Result -> Shared -> Prop} {s : Shared}
theorem compLoop_any {elt target iter : Expr} {ifs : List Expr} {scope : Scope} {pos : Pos} {it acc : Value} {env : Env} (I : Nat -> Shared -> Prop)
  (turn : ∀ n s, I n s -> wpAny (model prog w) A (pyNext it) (fun r s₁ => match r with
   | none => R (.ok .next) s₁
   | some v => wpAny (model prog w) A (letOwnedTupleGo target it v) (fun _ s' => wpAny (model prog w) A (assign target env v) (fun _ s₂ =>
     wpAny (model prog w) A (forIn ifs true fun c r => if r = true then do let ok <- isTrue c env (eval c env); pure (ForInStep.yield ok) else pure (ForInStep.yield r)) (fun ok s₃ =>
      if ok = true then wpAny (model prog w) A (eval elt env) (fun x s₄ =>
       wpAny (model prog w) A (call (.builtin "list.append") [acc, x]) (fun _ s₅ => ∃ m, m < n /\ I m s₅) (fun _ _ => False) s₄) (fun _ _ => False) s₃
      else ∃ m, m < n /\ I m s₃) (fun _ _ => False) s₂) (fun _ _ => False) s') (fun _ _ => False) s₁) (fun _ _ => False) s)
  (n : Nat) (h : I n s) : codeAny (model prog w) A (.compLoop (.ListComp elt [⟨target, iter, ifs, 0⟩] scope pos) 0 it acc env) R s := by
 refine codeAny_loop rfl I (fun n s hI => ?_) n h
 show wpAny _ A ((compTurn (.ListComp elt [⟨target, iter, ifs, 0⟩] scope pos) 0 it acc env).onRaise (fun x => do noteFrame x env; theTreesLotGoes x)) _ _ s
 refine wpAny_noted ?_
 rw [compTurn_list]
 refine wpAny_bind (wpAny_standAt (wpAny_bind (wpAny_mono (turn n s hI) (fun r s₁ h₁ => ?_) fun _ _ z => False.elim z)))
 cases r with
 | none => exact wpAny_pure h₁
 | some v =>
  refine wpAny_bind (wpAny_mono h₁ (fun _ s' h' => ?_) fun _ _ z => False.elim z)
  refine wpAny_bind (wpAny_mono h' (fun _ s₂ h₂ => wpAny_bind (wpAny_mono h₂ (fun ok s₃ h₃ => ?_) fun _ _ z => False.elim z)) fun _ _ z => False.elim z)
  cases ok with
  | false => exact wpAny_pure ⟨rfl, h₃⟩
  | true =>
   exact wpAny_bind (wpAny_bind (wpAny_mono h₃ (fun x s₄ h₄ => wpAny_bind (wpAny_mono h₄ (fun _ s₅ h₅ => wpAny_pure (wpAny_pure ⟨rfl, h₅⟩)) fun _ _ z => False.elim z)) fun _ _ z => False.elim z))
end
def CompW (J : It) (a : Addr) (own : Nat) (fr : List Nat) (g : TG) (tf : TT) (te : TE) (σ : St) (H1 : Hp) (Q : VK) : Prop :=
 ∃ (n : Nat) (Pv : Nat -> List V -> Hp -> Prop), Pv 0 [] (upd H1 a (.lst [])) /\ ∀ i ys H2, i <= n -> H2 a = some (.lst ys) -> Pv i ys H2 ->
  (J.stop i H2 /\ Q (.ref a) H2) \/ (i < n /\ J.go i H2 /\ ∀ x H3, J.yld i H2 x H3 -> g x (σc own fr σ) H3 fun σ4 H4 => (∃ ow, ow.length = own /\ σ4 = ow ++ σf fr σ) /\ tf σ4 H4 fun b H5 =>
   if b = true then te σ4 H5 fun y H6 => H6 a = some (.lst ys) /\ ys.length < sizeLine /\ Pv (i + 1) (ys ++ [y]) (upd H6 a (.lst (ys ++ [y])))
   else H5 a = some (.lst ys) /\ Pv (i + 1) ys H5)
def PFs (X : Cx) (ifs : List Expr) (t : TT) : Prop :=
 ∀ (pins : List (Addr × Obj)) (s : Shared) (σ : St) (H : Hp) (Q : Bool -> Hp -> Prop), Inv X pins σ H s -> t σ H Q ->
  wpAny (model X.prog X.w) X.A (forIn ifs true fun c r => if r = true then do let ok <- isTrue c X.env (eval c X.env); pure (ForInStep.yield ok) else pure (ForInStep.yield r)) (TP X pins σ Q) X.xe s
theorem pf_one {X : Cx} {c : Expr} {t : TT} (h : PT X c t) : PFs X [c] t := fun pins s σ H Q I hw => wpAny_tests_one (h pins s σ H Q I hw)
section
variable {X : Cx} {pins : List (Addr × Obj)} {σ : St} {H : Hp} {s : Shared} {N : List Str} {own : Nat} {fr : List Nat} {scope : Scope} {cl : List (Str × Addr)} {elt tg iter : Expr} {ifs : List Expr} {pos : Pos}
 {it : Addr} {fp : List Addr} {tn : Nat -> Heap -> Prop} {J : It} {g : TG} {tf : TT} {te : TE} {Q : VK} {E : Value -> Shared -> Prop}
theorem comp_block {RR : Value -> Addr -> Result -> Shared -> Prop} (hc : X.calm = true) (S : CompScope X.env.scope X.N N own fr scope) (hcl : ∀ x c, cl.lookup x = some c -> X.env.cells.lookup x = some c)
  (hcf : ∀ y ∈ scope.names, y.2 = .free -> ∃ c, cl.lookup y.1 = some c)
  (hg : ∀ C s H, PG (cxComp X N scope cl C fp s H) tg g) (hf : ∀ C s H, PFs (cxComp X N scope cl C fp s H) ifs tf) (he : ∀ C s H, PE (cxComp X N scope cl C fp s H) elt te)
  (I : Inv X pins σ H s) (T : Turn X.prog X.w X.K tg J fp it tn) (st : tn 0 s.heap) (hfp : ∀ b ∈ fp, FpOk X pins H b) (hw : ∀ a, H a = none -> CompW J a own fr g tf te σ H Q)
  (hRR : ∀ a C s' H', Inv X pins σ H' s' -> Q (.ref a) H' -> FpOk X pins H' C -> (∃ m, s'.heap.Ns C m) -> RR (.ref a) C (.ok .next) s') :
  wpAny (model X.prog X.w) X.A (newList []) (fun acc s₃ => wpAny (model X.prog X.w) X.A (newFunctionEnv scope X.env.globals cl [] X.env.qual none .none (some X.env)) (fun cenv s₄ =>
   codeAny (model X.prog X.w) X.A (.compStart (.ListComp elt [⟨tg, iter, ifs, 0⟩] scope pos) 0 (.ref it) acc { cenv with scope := relabel scope X.env }) (RR acc cenv.locals) s₄) E s₃) E s := by
 refine wpAny_newObj_type (wpAny_newFunctionEnv S.nocell (by intro y hy; simp at hy) (fun h₁ hns₁ hsb₁ => ?_) S.kind)
 dsimp only at hns₁ hsb₁ ⊢
 have I3 : Inv X pins σ (upd H s.heap.objs.size (.lst [])) { s with heap := s.heap.push { cls := .type "list", dict := none, data := .seq ([] : List Value).toArray } } := I.lnew (ys := []) (t' := s.toks) .nil (Nat.zero_le _)
 have hfo : ∀ b ∈ fp, ∃ o, s.heap.get? b = some o := fun b hb => let ⟨o, ho, _⟩ := T.obj _ _ st b hb; ⟨o, ho⟩
 have hlt : ∀ b ∈ fp, b < s.heap.objs.size := fun b hb => let ⟨o, ho⟩ := hfo b hb; Heap.lt_size ho
 have fp3 : ∀ b ∈ fp, FpOk X pins (upd H s.heap.objs.size (.lst [])) b := fun b hb => ⟨by rw [upd_ne (Nat.ne_of_lt (hlt b hb))]; exact (hfp b hb).1, (hfp b hb).2⟩
 obtain ⟨n0, W, w0, turn⟩ := hw s.heap.objs.size I.fresh
 generalize hs3 : ({ s with heap := s.heap.push { cls := .type "list", dict := none, data := .seq ([] : List Value).toArray } } : Shared) = s3 at I3
 have eh : s3.heap = s.heap.push { cls := .type "list", dict := none, data := .seq ([] : List Value).toArray } := by rw [<- hs3]
 rw [<- eh] at hns₁ hsb₁ ⊢
 have hk : ∀ b o, s3.heap.get? b = some o -> h₁.get? b = some o := fun b o e => hsb₁.extBut b o (Nat.ne_of_lt (Heap.lt_size e)) (Heap.get?_push_of_some _ e)
 have hk0 : ∀ b o, s.heap.get? b = some o -> s3.heap.get? b = some o := fun b o e => by rw [eh]; exact Heap.get?_push_of_some _ e
 have J0 : Inv (cxComp X N scope cl s3.heap.objs.size fp s3 (upd H s.heap.objs.size (.lst []))) [] (σc own fr σ) (upd H s.heap.objs.size (.lst [])) { s3 with heap := h₁ } :=
  inv_comp I3 S hcl hcf fp3 (fun b hb => let ⟨o, ho⟩ := hfo b hb; ⟨o, hk0 b o ho⟩) hns₁ hk
 have st0 : tn 0 h₁ := T.keep _ _ _ st fun b _ o e => hk b o (hk0 b o e)
 have stat : ∀ {H' : Hp}, (∀ b ∈ fp, H' b = none) -> ∀ b ∈ fp, FpOk (cxComp X N scope cl s3.heap.objs.size fp s3 (upd H s.heap.objs.size (.lst []))) [] H' b := fun hn b hb =>
  ⟨hn b hb, (J0.ok.exf b hb).1, J0.ok.exfs b hb, .inl hb, (J0.ok.exf b hb).2, fun p hp => absurd (show p ∈ ([] : List (Addr × Obj)) from hp) (by simp)⟩
 have loop : ∀ s4 : Shared, s4 = { s3 with heap := h₁ } -> codeAny (model X.prog X.w) X.A (.compLoop (.ListComp elt [⟨tg, iter, ifs, 0⟩] scope pos) 0 (.ref it) (.ref s.heap.objs.size) (compEnvC scope cl s3.heap.objs.size X.env))
   (RR (.ref s.heap.objs.size) s3.heap.objs.size) s4 := by
  rintro s4 rfl
  refine compLoop_any (fun n s' => ∃ i ow H' ys, Inv (cxComp X N scope cl s3.heap.objs.size fp s3 (upd H s.heap.objs.size (.lst []))) [] (ow ++ σf fr σ) H' s' /\ ow.length = own /\ tn i s'.heap /\ (∀ b ∈ fp, H' b = none) /\ H' s.heap.objs.size = some (.lst ys) /\ (n = n0 - i /\ i <= n0) /\ W i ys H') ?_ n0
   ⟨0, List.replicate own none, _, [], J0, by simp, st0, fun b hb => (fp3 b hb).1, upd_same, ⟨rfl, Nat.zero_le _⟩, w0⟩
  rintro n s5 ⟨i, ow, H5, ys, I5, hlo, st5, fr5, ha5, ⟨rfl, hi5⟩, w5⟩
  rcases turn i ys H5 hi5 ha5 w5 with ⟨stop, qn⟩ | ⟨hin, go, step⟩
  ·refine thn (T.done (cxComp X N scope cl s3.heap.objs.size fp s3 (upd H s.heap.objs.size (.lst []))) rfl rfl rfl hc i [] s5 _ H5 (fun _ _ => False) I5 (stat fr5) st5 stop) fun r s6 ⟨hr, I6⟩ => ?_
   subst hr
   have IX : Inv X pins σ H5 s6 := I3.call' I6.os I6.base I6.hok I6.bare fun b hb => let ⟨_, f2, _, f4, f5, f6⟩ := fp3 b hb; ⟨f4, f2, f5, f6⟩
   refine hRR _ _ s6 H5 IX qn (I3.fpOk (Nat.le_refl _) I6.free) ?_
   obtain ⟨m, hn, _⟩ := I6.loc
   exact ⟨m, hn⟩
  ·refine thn (T.item (cxComp X N scope cl s3.heap.objs.size fp s3 (upd H s.heap.objs.size (.lst []))) rfl rfl rfl hc i [] s5 _ H5 (fun _ _ => False) I5 (stat fr5) st5 go) fun r s6 ⟨u, hr, h6⟩ => ?_
   subst hr
   refine thn h6 fun _ s7 ⟨x, H7, I7, r7, y7, st7, fr7⟩ => ?_
   have I7' := (I7.pinned (stat fr7) (T.obj _ _ st7)).weak (σ' := σc own fr σ) (by unfold σc; simp [hlo]) (fun j v e => by
    unfold σc at e
    rcases Nat.lt_or_ge j own with z | z
    ·rw [List.getElem?_append_left (by simpa using z), List.getElem?_replicate] at e
     split at e <;> cases e
    ·rw [List.getElem?_append_right (by simpa using z)] at e
     rw [List.getElem?_append_right (by rw [hlo]; exact z), hlo]
     simpa using e)
   refine thn (hg _ _ _ _ s7 _ H7 x u _ I7' r7 (step x H7 y7)) fun _ s8 ⟨σ8, H8, I8, ⟨ow8, hl8, e8⟩, q8⟩ => ?_
   refine thn (hf _ _ _ _ s8 _ H8 _ I8 q8) fun ok s9 ⟨H9, I9, q9⟩ => ?_
   have again : ∀ {H' : Hp} {s' : Shared}, Inv (cxComp X N scope cl s3.heap.objs.size fp s3 (upd H s.heap.objs.size (.lst []))) ([] ++ pinsAt fp s7.heap) σ8 H' s' -> ∀ {ys' : List V}, H' s.heap.objs.size = some (.lst ys') -> W (i + 1) ys' H' ->
     ∃ m, m < n0 - i /\ ∃ i ow H' ys, Inv (cxComp X N scope cl s3.heap.objs.size fp s3 (upd H s.heap.objs.size (.lst []))) [] (ow ++ σf fr σ) H' s' /\ ow.length = own /\ tn i s'.heap /\ (∀ b ∈ fp, H' b = none) /\ H' s.heap.objs.size = some (.lst ys) /\ (m = n0 - i /\ i <= n0) /\ W i ys H' := fun {H' s'} I' {ys'} ha hw' => by
    refine ⟨n0 - (i + 1), by omega, i + 1, ow8, H', ys', e8 ▸ I'.unpinned, hl8, T.keep _ _ _ st7 fun b hb o e => (I'.pin (b, o) (List.mem_append_right _ (List.mem_append_right _ (mem_pinsAt hb e)))).1, fun b hb => ?_, ha, ⟨rfl, hin⟩, hw'⟩
    obtain ⟨o, e, _⟩ := T.obj _ _ st7 b hb
    exact (I'.pin (b, o) (List.mem_append_right _ (List.mem_append_right _ (mem_pinsAt hb e)))).2.1
   cases ok with
   | false =>
    have q9' : H9 s.heap.objs.size = some (.lst ys) /\ W (i + 1) ys H9 := by simpa using q9
    obtain ⟨ha, hw'⟩ := q9'
    show if false = true then _ else _
    rw [if_neg (by decide)]
    exact again I9 ha hw'
   | true =>
    rw [if_pos rfl] at q9
    show if true = true then _ else _
    rw [if_pos rfl]
    refine thn (he _ _ _ _ s9 _ H9 _ I9 q9) fun y s10 ⟨v10, H10, I10, r10, ha10, hz10, hw'⟩ => ?_
    refine thn (mt_append _ s10 _ H10 (.ref s.heap.objs.size) [v10] (.ref s.heap.objs.size) [y] (fun _ H' => H' = upd H10 s.heap.objs.size (.lst (ys ++ [v10]))) I10 rfl (.cons r10 .nil) ⟨_, ys, v10, rfl, rfl, ha10, hz10, rfl⟩) fun _ s11 ⟨_, H11, I11, _, e11⟩ => ?_
    subst e11
    exact again I11 upd_same hw'
 exact codeAny_compStart_list (loop _ (by rw [<- hs3]; rfl)) (T.self X.A 0 _ _ _ st0 (loop _ (by rw [<- hs3]; rfl)))
end
def tComp (own : Nat) (fr : List Nat) (wi : TI) (g : TG) (tf : TT) (te : TE) : TE := fun σ H Q => wi σ H fun J H1 => ∀ a, H1 a = none -> CompW J a own fr g tf te σ H1 Q
section
variable {X : Cx} {sc : Scope} {XN N : List Str} {own : Nat} {fr : List Nat} {scope : Scope} {elt tg iter : Expr} {ifs : List Expr} {pos : Pos} {wi : TI} {g : TG} {tf : TT} {te : TE}
theorem pe_comp (hc : X.calm = true) (S : CompScope sc XN N own fr scope) (hi : PI X tg iter wi)
  (hg : ∀ cl C fp s H, PG (cxComp X N scope cl C fp s H) tg g) (hf : ∀ cl C fp s H, PFs (cxComp X N scope cl C fp s H) ifs tf) (he : ∀ cl C fp s H, PE (cxComp X N scope cl C fp s H) elt te)
  (hs : ∀ x, foldedSetIterable iter X.env x = pure x := by intro _; rfl) (hsc : X.env.scope = sc := by rfl) (hxn : X.N = XN := by rfl) : PE X (.ListComp elt [⟨tg, iter, ifs, 0⟩] scope pos) (tComp own fr wi g tf te) := by
 subst hsc hxn
 intro pins s σ H Q I h
 obtain ⟨cl, c1, c2, c3⟩ := closure_ok (scope := scope) (env := X.env) fun y hy e => I.ok.has y.1 (S.free y hy e)
 rw [eval_ListComp]
 refine wpAny_comprehension_free (use := none) rfl hs c1 S.kind S.loc (thn (hi pins s σ H _ I h) fun xv s1 h1 => thn h1 fun itv s2 h2 => ?_)
 obtain ⟨it, fp, tn, J, H2, e, I2, T, st2, f2, hw⟩ := h2
 subst e
 refine comp_block hc S c2 c3 (fun C s H => hg cl C fp s H) (fun C s H => hf cl C fp s H) (fun C s H => he cl C fp s H) I2 T st2 f2 hw fun a C s' H' I' q fC ⟨m, hn⟩ => ?_
 refine ⟨m, hn, fun h' hs' => ?_⟩
 obtain ⟨f0, f1, _, f3, f4, f5⟩ := fC
 exact ⟨.ref a, H', I'.turned (t' := s'.toks) (fun b o hb e => hs'.extBut b o hb e) f0 f1 f3 f4 f5, rfl, q⟩
end
end L2
namespace L2
open PySem PySem.Spec PyProof.Rows
section
variable {X : Cx}
theorem call_sumL (hc : X.calm = true) : CallR X (.builtin "sum") (fun xs H Q => ∃ (p : Addr) (ns : List Int), xs = [.ref p] /\ SqL X.K H p (ns.map V.int) /\ Q (.int ns.sum) H) := by
 intro pins s σ H xs us Q I r h
 obtain ⟨p, ns, rfl, hq, q⟩ := h
 obtain ⟨u, rfl, rx⟩ := vals1 r
 cases rx
 obtain ⟨its, rv, pl, hz⟩ := I.list hq
 have hi : IntsAre its ns := intsAre_of rv
 have hall := hi.allInts
 have e0 := hi.numsOf
 obtain ⟨xs, ex⟩ := hall.items
 have e1 : numsOf (intItems xs).toList = ns := by rw [<- ex]; exact e0
 rw [nums_intItems] at e1
 have hl := pl.isList
 rw [ex] at hl
 refine sum_intListG (I.ok.hd hc) hl fun h' tk t' hk => ⟨.int ns.sum, H, I.kept hk, ⟨t', ?_⟩, q⟩
 rw [preSum_eq, List.take_of_length_le (by simp), e1]
def eqVs : List V -> List V -> Bool
 | [], [] => true
 | x :: xs, y :: ys => eqV x y && eqVs xs ys
 | _, _ => false
theorem eqVs_len : ∀ {xs ys : List V}, xs.length ≠ ys.length -> eqVs xs ys = false
 | [], [], h => absurd rfl h
 | [], _ :: _, _ => rfl
 | _ :: _, [], _ => rfl
 | x :: xs, y :: ys, h => by
  have := eqVs_len (xs := xs) (ys := ys) (fun e => h (by simp [e]))
  simp [eqVs, this]
theorem eqVs_range : ∀ {xs ys : List V}, xs.length = ys.length -> (List.range xs.length).all (fun i => eqV (xs.getD i .non) (ys.getD i .non)) = eqVs xs ys
 | [], [], _ => rfl
 | [], _ :: _, h => by simp at h
 | _ :: _, [], h => by simp at h
 | x :: xs, y :: ys, h => by
  have ih := eqVs_range (xs := xs) (ys := ys) (by simpa using h)
  rw [List.length_cons, List.range_succ_eq_map, List.all_cons, List.all_map]
  show (eqV x y && (List.range xs.length).all fun i => eqV (xs.getD i .non) (ys.getD i .non)) = (eqV x y && eqVs xs ys)
  rw [ih]
theorem vals_at {A : Around} {s : Shared} {xs ys : List V} {us ws : List Value} (r : Vals xs us) (r' : Vals ys ws) (fx : xs.all flatV = true) (fy : ys.all flatV = true) (j : Nat) (h1 : j < us.toArray.size) (h2 : j < ws.toArray.size) :
  SeqAt.EqAt A s us.toArray[j] ws.toArray[j] (eqV (xs.getD j .non) (ys.getD j .non)) := by
 have l1 := r.length
 have l2 := r'.length
 have k1 : j < xs.length := by rw [l1]; simpa using h1
 have k2 : j < ys.length := by rw [l2]; simpa using h2
 obtain ⟨u, hu, ru⟩ := r.get (i := j) (x := xs.getD j .non) (by rw [List.getD_eq_getElem?_getD, List.getElem?_eq_getElem k1]; rfl)
 obtain ⟨w', hw, rw'⟩ := r'.get (i := j) (x := ys.getD j .non) (by rw [List.getD_eq_getElem?_getD, List.getElem?_eq_getElem k2]; rfl)
 have e1 : us.toArray[j] = u := by
  obtain ⟨_, e⟩ := List.getElem?_eq_some_iff.mp hu
  simpa using e
 have e2 : ws.toArray[j] = w' := by
  obtain ⟨_, e⟩ := List.getElem?_eq_some_iff.mp hw
  simpa using e
 rw [e1, e2]
 refine eqAt_V ru rw' (List.all_eq_true.mp fx _ ?_) (List.all_eq_true.mp fy _ ?_)
 ·rw [List.getD_eq_getElem?_getD, List.getElem?_eq_getElem k1]; exact List.getElem_mem k1
 ·rw [List.getD_eq_getElem?_getD, List.getElem?_eq_getElem k2]; exact List.getElem_mem k2
def rEqL (K : PySem.W.Frag) (neg : Bool) : R2 := fun x y H Q => ∃ p q xs ys, x = .ref p /\ y = .ref q /\ SqL K H p xs /\ SqL K H q ys /\ xs.all flatV = true /\ ys.all flatV = true /\ Q (.bl (if neg then !eqVs xs ys else eqVs xs ys)) H
theorem op_eqL (hu : X.A.units < cLine) : OpR X (compareOp .Eq) (rEqL X.K false) := by
 intro pins s σ H x y v u Q I rx ry h
 obtain ⟨p, q, xs, ys, rfl, rfl, hx, hy, fx, fy, k⟩ := h
 cases rx
 cases ry
 obtain ⟨us, r1, p1, z1⟩ := I.list hx
 obtain ⟨ws, r2, p2, z2⟩ := I.list hy
 by_cases hl : xs.length = ys.length
 ·refine SeqAt.eq_listAt p1.isList p2.isList (by simp [<- r1.length, <- r2.length, hl]) hu (fun j h1 h2 => vals_at r1 r2 fx fy j h1 h2) ⟨.bl (eqVs xs ys), H, I, ?_, k⟩
  show Value.bool _ = Value.bool _
  rw [List.size_toArray, <- r1.length, eqVs_range hl]
 ·refine SeqAt.eq_list_lengthsAt p1.isList p2.isList (by simp [<- r1.length, <- r2.length, hl]) hu ⟨.bl (eqVs xs ys), H, I, ?_, k⟩
  rw [eqVs_len hl]; rfl
theorem sliceRev (n : Nat) : sliceRange (sliceBounds none none (some (-1)) n).1 (sliceBounds none none (some (-1)) n).2.1 (sliceBounds none none (some (-1)) n).2.2 = (List.range n).map fun k => n - 1 - k := by
 have e : sliceBounds none none (some (-1)) n = ((n : Int) - 1, -1, -1) := by simp [sliceBounds]
 rw [e]
 unfold sliceRange
 simp only [show ¬ ((-1 : Int) > 0) by decide, if_false]
 by_cases hn : n = 0
 ·subst hn; simp
 ·have h1 : (n : Int) - 1 > -1 := by omega
  rw [if_pos h1]
  have h2 : (((n : Int) - 1 - -1 - -1 - 1) / (- -1)).toNat = n := by
   rw [show (n : Int) - 1 - -1 - -1 - 1 = n by omega, show (- -1 : Int) = 1 by decide, Int.ediv_one]
   exact Int.toNat_natCast n
  rw [h2]
  refine List.map_congr_left fun k hk => ?_
  have := List.mem_range.mp hk
  omega
theorem fm_congr {α β : Type} {f g : α -> Option β} : ∀ {l : List α}, (∀ x ∈ l, f x = g x) -> l.filterMap f = l.filterMap g
 | [], _ => rfl
 | x :: r, h => by rw [List.filterMap_cons, List.filterMap_cons, h x List.mem_cons_self, fm_congr fun y hy => h y (List.mem_cons_of_mem _ hy)]
theorem pick_rev' {α : Type} : ∀ zs : List α, (List.range zs.length).filterMap (fun k => zs.reverse[zs.length - 1 - k]?) = zs
 | [] => rfl
 | z :: r => by
  rw [List.length_cons, List.range_succ_eq_map, List.filterMap_cons, List.filterMap_map]
  have h0 : (z :: r).reverse[r.length + 1 - 1 - 0]? = some z := by simp
  rw [h0]
  have h1 : List.filterMap ((fun k => (z :: r).reverse[r.length + 1 - 1 - k]?) ∘ Nat.succ) (List.range r.length) = List.filterMap (fun k => r.reverse[r.length - 1 - k]?) (List.range r.length) := by
   apply fm_congr
   intro k hk
   have hk := List.mem_range.mp hk
   show (z :: r).reverse[r.length + 1 - 1 - (k + 1)]? = r.reverse[r.length - 1 - k]?
   rw [List.reverse_cons, List.getElem?_append_left (by simp; omega)]
   rw [show r.length + 1 - 1 - (k + 1) = r.length - 1 - k by omega]
  rw [h1, pick_rev' r]
theorem pick_rev {α : Type} (xs : List α) : ((List.range xs.length).map fun k => xs.length - 1 - k).filterMap (fun i => xs[i]?) = xs.reverse := by
 have := pick_rev' xs.reverse
 rw [List.length_reverse, List.reverse_reverse] at this
 rw [List.filterMap_map]
 exact this
theorem slicePick_rev (its : List Value) : slicePick its.toArray none none (some (-1)) = its.reverse.toArray := by
 unfold slicePick
 rw [List.size_toArray, sliceRev]
 congr 1
 have := pick_rev its
 simpa using this
def tRev (K : PySem.W.Frag) (te tst : TE) : TE := fun σ H Q => te σ H fun x H1 => tst σ H1 fun y H2 => y = .int (-1) /\ ∃ p xs, x = .ref p /\ SqL K H2 p xs /\ ∀ l, H2 l = none -> Q (.ref l) (upd H2 l (.lst xs.reverse))
theorem pe_rev {e st : Expr} {te tst : TE} {pos p2 : Pos} (he : PE X e te) (hst : PE X st tst) (ht : ∀ o r, letTemporaryGo e o r = pure () := by intro _ _; rfl) : PE X (.Subscript e (.Slice none none (some st) p2) pos) (tRev X.K te tst) := by
 intro pins s σ H Q I h
 refine wpAny_Subscript_Slice_step (T := "list") slot_list_getitem.lookup (thn (he pins s σ H _ I h) fun v s1 ⟨x, H1, I1, r1, q1⟩ => ?_) ht
 refine wpAny_Slice ?_
 rw [evalPart_none, evalPart_some]
 refine wpAny_pure (wpAny_pure (thn (hst pins s1 σ H1 _ I1 q1) fun vs s2 ⟨y, H2, I2, r2, q2⟩ => ?_))
 obtain ⟨rfl, p, xs, rfl, hx, q⟩ := q2
 obtain ⟨t, rfl⟩ := r2
 cases r1
 have I3 : Inv X pins σ H2 { s2 with heap := s2.heap.push { cls := .type "slice", data := .fields #[.none, .none, .int (-1) t] } } := I2.kept (t' := s2.toks) fun b ob q => Heap.get?_push_of_some _ q
 obtain ⟨its, rv, pl, hz⟩ := I3.list hx
 refine ⟨pl.isList.typeIs, ?_⟩
 refine wpAny_getItem_list_slice pl.isList (Heap.IsSliceOf.new ..) .none .none (.int (-1) t) (by decide) ?_ (by rw [List.size_toArray, <- rv.length]; exact hz)
 rw [slicePick_rev]
 refine ⟨.ref _, _, I3.laid (t' := s2.toks) (o := .lst xs.reverse) (fun b ob q => Heap.get?_push_of_some _ q) (Nat.le_refl _) ?_, rfl, q _ (I3.hok.fresh (Nat.le_refl _))⟩
 exact ⟨by rw [List.length_reverse]; exact hz, _, 0, rv.reverse, Heap.get?_push_size _ rfl⟩
def BigOk (j : Int) : Prop := j.natAbs < 2 ^ 1024
theorem BigOk.log {j : Int} (h : BigOk j) : j.natAbs.log2 < 9000 := by
 by_cases h0 : j.natAbs = 0
 ·rw [h0]; decide +kernel
 ·have : j.natAbs.log2 < 1024 := (Nat.log2_lt h0).mpr h
  omega
theorem op_fdivL : OpR X (binaryOp .FloorDiv) (rI (fun _ j => 0 < j /\ BigOk j) fun i j => .int (i / j)) := opI fun i j _ _ _ _ _ hc q => by
 have h1 : (0 : Int) < j := hc.1
 exact floordiv_int (by omega) (by rw [Int.fdiv_eq_ediv_of_nonneg i (by omega)]; exact q) (.inl (PyProof.noPylong_of_log2 hc.2.log))
end
end L2
namespace L2
open PySem PySem.Spec PyProof.Rows
def isStar : Expr -> Bool
 | .Starred .. => true
 | _ => false
theorem star_cons {e : Expr} {rest : List Expr} {env : Env} (h : isStar e = false) : starEach (e :: rest) env = (false, eval e env) :: starEach rest env := by
 cases e <;> first | rfl | exact Bool.noConfusion h
theorem pa_c {X : Cx} {e : Expr} {es : List Expr} {te : TE} {t : TA} (ha : PE X e te) (hr : PA X es t) (h : isStar e = false := by rfl) : PA X (e :: es) (tCons te t) := pa_cons ha hr (star_cons h)
def Good (P : Program) (w : World) (K : PySem.W.Frag) (mg : Str -> Option Value) (base : Heap) (k : Nat) (x : Str) (ps : List Str) (sp : Sp) : Prop :=
 ∃ (f : Addr) (fd : FuncData), FnOk P w K mg base CX0 k f fd ps sp /\ Binds K fd ps [] /\ mg x = some (.ref f) /\ PySem.W.keepIn K (.ref f) = true
section
variable {X : Cx} {k : Nat} {x : Str} {ps : List Str} {sp : Sp} {e : Expr} {es : List Expr} {t : TA} {p pos : Pos}
theorem pe_fn (G : Good X.prog X.w X.K X.mg X.base k x ps sp) (hr : Room k X.A) (hg : Gl X x) (ha : PA X (e :: es) t) (hdb : (x == ("__debug__" : Str)) = false := by decide)
  (hst : isStar e = false := by rfl) (hpl : (backTo pos (starEach es X.env)).any (·.1) = false := by rfl) : PE X (.Call (.Name x p) (e :: es) [] pos) (tCall sp [] E0 t) := by
 obtain ⟨f, fd, F, b, m, kp⟩ := G
 exact pe_call F hr hg m kp b .nil pass0 ha hdb (star_cons hst) hpl
theorem pe_fn0 (G : Good X.prog X.w X.K X.mg X.base k x ps sp) (hr : Room k X.A) (hg : Gl X x) (hdb : (x == ("__debug__" : Str)) = false := by decide) : PE X (.Call (.Name x p) [] [] pos) (tCall sp [] E0 tNil) := by
 obtain ⟨f, fd, F, b, m, kp⟩ := G
 exact pe_call0 F hr hg m kp b .nil pass0 hdb
end
def Has (K : PySem.W.Frag) (mg : Str -> Option Value) (x : Str) (st : Stmt) : Prop := ∃ (f : Addr) (fd : FuncData), Fun K x x st f fd /\ mg x = some (.ref f)
theorem Has.good {P : Program} {w : World} {K : PySem.W.Frag} {mg : Str -> Option Value} {base : Heap} {x : Str} {st : Stmt} {N ps : List Str} {k : Nat} {sp : Sp} (h : Has K mg x st) (S : FnScope N ps (defScope st))
  (hb : ∀ (kV doc pm : Value) (an : Option Addr) (cdv ct : Value) (us : List Value), us.length = ps.length -> bindArgs (PySem.W.fnOf x x (defArgs st) (defBody st) (defScope st) .none kV doc pm an cdv ct) ⟨us, []⟩ = pure (ps.zip us))
  (len : ∀ vs H Q E, sp vs H Q E -> vs.length = ps.length)
  (hbody : ∀ (f : Addr) (cdv : Value) (A : Around) (outer : List Env) (s : Shared) (H : Hp) (vs : List V) (Q : VK) (E : XK), Room k (A.deeper (envOfC x (defScope st) s.heap.objs.size f cdv)) -> sp vs H Q E ->
   ∃ t, PSs (cxOf CX0 P w K mg base N x (defScope st) f cdv A outer s H E).nox (defBody st) t /\ t { nx := fun _ H' => Q .non H', rt := Q } (start N vs) H) : Good P w K mg base (k + 1) x ps sp := by
 obtain ⟨f, fd, F, m⟩ := h
 exact ⟨f, fd, F.ok S len fun cdv A outer s H vs Q E hr q => hbody f cdv A outer s H vs Q E hr q, F.binds hb, m, F.kp⟩
theorem has_mk {K : PySem.W.Frag} {h : Heap} {mg : Str -> Option Value} {x : Str} {st : Stmt} {f : Addr} {oc : Value} {od an : Option Addr} {osl : Array (Option Value)} {kV doc pm cdv ct : Value} (X : K.In h) (G : h.Ns mainGlobals mg)
  (a : PySem.W.nsIn K mainGlobals x = some (some (.ref f))) (l : K.lookup f = some ⟨oc, od, .func (PySem.W.fnOf x x (defArgs st) (defBody st) (defScope st) .none kV doc pm an cdv ct), osl⟩)
  (c : PySem.W.codeIn K cdv x = true) (k : PySem.W.keepIn K (.ref f) = true) : Has K mg x st := ⟨f, _, fun_mk l c k, PySem.W.mg_of X G a⟩
structure Own (mg : Str -> Option Value) : Prop where
 len : mg "len" = none
 range : mg "range" = none
 isinstance : mg "isinstance" = none
 int_ : mg "int" = none
 bool_ : mg "bool" = none
 str_ : mg "str" = none
 list_ : mg "list" = none
 tuple_ : mg "tuple" = none
 dict_ : mg "dict" = none
 sum : mg "sum" = none
 min : mg "min" = none
 max : mg "max" = none
 all : mg "all" = none
 any : mg "any" = none
 abs : mg "abs" = none
 zip : mg "zip" = none
 sorted : mg "sorted" = none
 set_ : mg "set" = none
 enumerate : mg "enumerate" = none
theorem own_mk {K : PySem.W.Frag} {h : Heap} {mg : Str -> Option Value} (X : K.In h) (G : h.Ns mainGlobals mg) (z1 : PySem.W.nsIn K mainGlobals "len" = some none) (z2 : PySem.W.nsIn K mainGlobals "range" = some none)
    (z3 : PySem.W.nsIn K mainGlobals "isinstance" = some none) (z4 : PySem.W.nsIn K mainGlobals "int" = some none) (z5 : PySem.W.nsIn K mainGlobals "bool" = some none) (z6 : PySem.W.nsIn K mainGlobals "str" = some none)
    (z7 : PySem.W.nsIn K mainGlobals "list" = some none) (z8 : PySem.W.nsIn K mainGlobals "tuple" = some none) (z9 : PySem.W.nsIn K mainGlobals "dict" = some none) (z10 : PySem.W.nsIn K mainGlobals "sum" = some none)
    (z11 : PySem.W.nsIn K mainGlobals "min" = some none) (z12 : PySem.W.nsIn K mainGlobals "max" = some none) (z13 : PySem.W.nsIn K mainGlobals "all" = some none) (z14 : PySem.W.nsIn K mainGlobals "any" = some none)
    (z15 : PySem.W.nsIn K mainGlobals "abs" = some none) (z16 : PySem.W.nsIn K mainGlobals "zip" = some none) (z17 : PySem.W.nsIn K mainGlobals "sorted" = some none) (z18 : PySem.W.nsIn K mainGlobals "set" = some none)
    (z19 : PySem.W.nsIn K mainGlobals "enumerate" = some none) : Own mg :=
  ⟨PySem.W.mg_none_of X G z1, PySem.W.mg_none_of X G z2, PySem.W.mg_none_of X G z3, PySem.W.mg_none_of X G z4, PySem.W.mg_none_of X G z5, PySem.W.mg_none_of X G z6, PySem.W.mg_none_of X G z7, PySem.W.mg_none_of X G z8, PySem.W.mg_none_of X G z9, PySem.W.mg_none_of X G z10,
   PySem.W.mg_none_of X G z11, PySem.W.mg_none_of X G z12, PySem.W.mg_none_of X G z13, PySem.W.mg_none_of X G z14, PySem.W.mg_none_of X G z15, PySem.W.mg_none_of X G z16, PySem.W.mg_none_of X G z17, PySem.W.mg_none_of X G z18, PySem.W.mg_none_of X G z19⟩
structure DeckAt (H : Hp) (p c : Addr) : Prop where
 ne : p ≠ c
 dk : ∃ S k : Int, H p = some (.lst [.ref c, .int S, .int k])
 cs : ∃ ns : List Int, H c = some (.lst (ns.map V.int)) /\ ns.length <= 64
structure On (p c : Addr) (H H' : Hp) : Prop where
 d : DeckAt H' p c
 e : ∀ b o, H b = some o -> b ≠ p -> b ≠ c -> H' b = some o
section
variable {p c a : Addr} {H H1 H2 : Hp} {o : HO}
theorem DeckAt.nep (d : DeckAt H p c) (h : H a = none) : a ≠ p := fun z => by
 obtain ⟨S, k, e⟩ := d.dk
 rw [z, e] at h; cases h
theorem DeckAt.nec (d : DeckAt H p c) (h : H a = none) : a ≠ c := fun z => by
 obtain ⟨ns, e, _⟩ := d.cs
 rw [z, e] at h; cases h
theorem DeckAt.alloc (d : DeckAt H p c) (h : H a = none) : DeckAt (upd H a o) p c := by
 obtain ⟨S, k, e⟩ := d.dk
 obtain ⟨ns, e', l⟩ := d.cs
 exact ⟨d.ne, ⟨S, k, by rw [upd_ne (d.nep h).symm]; exact e⟩, ns, by rw [upd_ne (d.nec h).symm]; exact e', l⟩
theorem On.trans (x : On p c H H1) (y : On p c H1 H2) : On p c H H2 := ⟨y.d, fun b o h hp hc => y.e b o (x.e b o h hp hc) hp hc⟩
theorem On.alloc (x : On p c H H1) (h : H1 a = none) : On p c H (upd H1 a o) :=
 ⟨x.d.alloc h, fun b u q hp hc => by rw [upd_ne (ne_of_none (x.e b u q hp hc) h)]; exact x.e b u q hp hc⟩
end
def spMixed : Sp := fun vs H Q _ => ∃ n k : Int, vs = [.int n, .int k] /\ ∀ r : Int, Q (.int r) H
def spDeck (K : PySem.W.Frag) : Sp := fun vs H Q _ => ∃ (a : Addr) (ns : List Int), vs = [.ref a] /\ SqL K H a (ns.map V.int) /\ ∀ (p c : Addr) (H' : Hp), H p = none -> H c = none -> DeckAt H' p c -> Same H H' -> Q (.ref p) H'
def spTake : Sp := fun vs H Q _ => ∃ (p c : Addr) (m : Int), vs = [.ref p, .int m] /\ DeckAt H p c /\ 0 < m /\ BigOk m /\ ∀ (r : Int) (H' : Hp), 0 <= r -> r < m -> On p c H H' -> Q (.int r) H'
end L2
namespace L2
open PySem PySem.Spec PyProof.Rows
def Cx.more (X : Cx) (ch : List Addr) : Cx := { X with ex := ch ++ X.ex }
section
variable {X : Cx} {pins : List (Addr × Obj)} {σ : St} {H H' : Hp} {s : Shared} {ch : List Addr}
theorem Inv.more (I : Inv X pins σ H s) (h : ∀ b ∈ ch, X.s₀.heap.get? b = none /\ b ≠ X.env.locals /\ (∀ x c, X.env.cells.lookup x = some c -> c ≠ b)) : Inv (X.more ch) pins σ H s := by
 have ok := I.ok
 have nb : ∀ b o, X.base.get? b = some o -> b ∉ ch := fun b o e z => by
  have := (ok.bs b o e).1
  rw [(h b z).1] at this; cases this
 have nf : ∀ b ∈ ch, b ∉ X.fs := fun b z hb => by
  obtain ⟨_, o, ho, _⟩ := ok.funs.mem hb
  rw [(h b z).1] at ho; cases ho
 refine ⟨⟨ok.mod, ok.kind, ok.glob, ok.blt, ok.above, ok.inj, ok.has, ok.cab, ok.hd, ok.frames, ok.stk, fun b hb => ?_, ok.bs, ok.bsz, fun b o e hb => ?_, fun b hb => ?_, ok.funs, ok.frf⟩, I.os, I.bare, ?_, I.loc, I.cell, I.free, I.freeC, I.pin, I.hok, I.len⟩
 ·rcases List.mem_append.mp hb with z | z
  ·exact ⟨(h b z).2.1, (h b z).2.2⟩
  ·exact ok.exf b z
 ·rcases List.mem_append.mp hb with z | z
  ·exact nb b o e z
  ·exact ok.noex b o e z
 ·rcases List.mem_append.mp hb with z | z
  ·exact nf b z
  ·exact ok.exfs b z
 ·have r : ∀ {b : Addr}, b ∉ ch ++ X.ex -> b ∉ X.ex := fun n z => n (List.mem_append_right _ z)
  exact ⟨fun b o e n hb hx => I.base.keep b o e n hb (r hx), fun b o e n hb hx => I.base.slot b o e n hb (r hx), fun b o e n hx => I.base.free b o e n (r hx), fun b o e hx => I.base.there b o e (r hx), I.base.tups, I.base.frzs, I.base.tbls⟩
theorem Inv.less (I : Inv (X.more ch) pins σ H s) (h : ∀ b ∈ ch, X.s₀.heap.get? b = none) : Inv X pins σ H s := by
 have ok := I.ok
 have r : ∀ {b : Addr} {o : Obj}, X.s₀.heap.get? b = some o -> b ∉ X.ex -> b ∉ ch ++ X.ex := fun {b o} e n z => by
  rcases List.mem_append.mp z with z | z
  ·rw [h b z] at e; cases e
  ·exact n z
 exact ⟨⟨ok.mod, ok.kind, ok.glob, ok.blt, ok.above, ok.inj, ok.has, ok.cab, ok.hd, ok.frames, ok.stk, fun b hb => ok.exf b (List.mem_append_right _ hb), ok.bs, ok.bsz, fun b o e hb => ok.noex b o e (List.mem_append_right _ hb), fun b hb => ok.exfs b (List.mem_append_right _ hb), ok.funs, ok.frf⟩,
  I.os, I.bare, ⟨fun b o e n hb hx => I.base.keep b o e n hb (r e hx), fun b o e n hb hx => I.base.slot b o e n hb (r e hx), fun b o e n hx => I.base.free b o e n (r e hx), fun b o e hx => I.base.there b o e (r e hx), I.base.tups, I.base.frzs, I.base.tbls⟩, I.loc, I.cell, I.free, I.freeC, I.pin, I.hok, I.len⟩
end
end L2
namespace L2
open PySem PySem.Spec PyProof.Rows
def FlyP (Φ : Obj -> Prop) (fl : Value) (h : Heap) (e T : Addr) : Prop :=
 ∃ oe vs oT ts, h.get? e = some oe /\ Φ oe /\ oe.data = .fields vs /\ vs[1]? = some (Value.ref T) /\ T ≠ e /\ h.get? T = some oT /\ oT.data = .fields ts /\ ts[3]? = some fl
structure Noted (l : List Env) (ch : List Addr) (h h' : Heap) : Prop where
 keep : ∀ b o, b ∉ frs l -> b ∉ ch -> h.get? b = some o -> h'.get? b = some o
 slot : ∀ b o, b ∈ frs l -> b ∉ ch -> h.get? b = some o -> ∃ sl, h'.get? b = some { o with slots := sl }
section
variable {M : Model} {A : Around} {E : Value -> Shared -> Prop} {s : Shared} {Φ : Obj -> Prop} {base : Heap} {env : Env} {outer : List Env} {L e : Addr} {oe : Obj} {vs : Array Value} {Q : Unit -> Shared -> Prop}
theorem entryP {head : Value} {hadNext : Bool} (hfr : A.frames = some (env :: outer)) (hl : s.heap.FunFrames base (env :: outer)) (hf : env.frame = some L)
  (he : s.heap.get? e = some oe) (hd : oe.data = .fields vs) (hsz : 1 < vs.size) (hΦ : ∀ x, Φ (Obj.mapFields (·.setIfInBounds 1 x) oe))
  (h : ∀ h' T, Noted (env :: outer) [e] s.heap h' -> s.heap.get? T = none -> FlyP Φ (rawInt L) h' e T -> Q () { s with heap := h' }) :
  wpAny M A (do let a <- frameOf env; let pl <- entryPlaceOf L hadNext; let b <- EntryCells.newEntry head a .none (rawInt L) .none pl; setField (.ref e) 1 b) Q E s := by
 have en : e ∉ frs (env :: outer) := fun hm => by
  obtain ⟨_, o, ho, hnf⟩ := hl.mem hm
  rw [he] at ho; cases ho; exact hnf vs hd
 refine wpAny_bind (wpAny_frameOf_fun hfr hl hf fun h₁ hs₁ => ?_)
 refine wpAny_bind (wpAny_entryPlaceOf fun pl hpl => ?_)
 unfold EntryCells.newEntry newFields
 refine wpAny_bind (wpAny_newObj_type ?_ (hpl.sizeOk5 _ _ _ _ _))
 have he₁ : h₁.get? e = some oe := (hs₁.2.1 e en).trans he
 generalize ho : ({ cls := .type "traceback", dict := none, data := .fields ([head, .ref L, .none, rawInt L, .none] ++ (if pl.isEmpty then List.replicate 6 Value.none else pl)).toArray } : Obj) = oT
 have hoT : oT.data = .fields ([head, .ref L, .none, rawInt L, .none] ++ (if pl.isEmpty then List.replicate 6 Value.none else pl)).toArray := by rw [<- ho]
 have he₂ := Heap.get?_push_of_some (h := h₁) oT he₁
 refine wpAny_setField he₂ hd hsz ?_
 have hTe : h₁.objs.size ≠ e := Nat.ne_of_gt (Heap.lt_size he₁)
 have hd₃ := Obj.data_mapFields hd (·.setIfInBounds 1 (Value.ref h₁.objs.size))
 refine h _ h₁.objs.size ⟨fun b o nb ne q => ?_, fun b o nb ne q => ?_⟩ ?_ ⟨_, _, oT, _, Heap.get?_update_self _ he₂ (Obj.isFreed_of_fields hd₃), hΦ _, hd₃, ?_, hTe, ?_, hoT, ?_⟩
 ·rw [Heap.get?_update_other _ _ (Ne.symm (fun z => ne (by simp [z])))]
  exact Heap.get?_push_of_some _ ((hs₁.2.1 b nb).trans q)
 ·obtain ⟨sl, r⟩ := hs₁.2.2 b o q
  refine ⟨sl, ?_⟩
  rw [Heap.get?_update_other _ _ (Ne.symm (fun z => ne (by simp [z])))]
  exact Heap.get?_push_of_some _ r
 ·exact Heap.get?_none_of_le (by rw [hs₁.1]; exact Nat.le_refl _)
 ·simp [hsz]
 ·rw [Heap.get?_update_other _ _ (Ne.symm hTe)]
  exact Heap.get?_push_size _ (by rw [<- ho]; rfl)
 ·first | (simp; done) | (rcases hpl with rfl | ⟨_, _, _, _, _, _, _, rfl⟩ <;> simp)
theorem flightP {fl : Value} {T : Addr} (f : FlyP Φ fl s.heap e T) (h : ∀ h', (∀ b o, b ≠ T -> s.heap.get? b = some o -> h'.get? b = some o) -> FlyP Φ .none h' e T -> Q () { s with heap := h' }) : wpAny M A (setFlight (.ref e) none) Q E s := by
 obtain ⟨oe, vs, oT, ts, he, p, hd, h1, hTe, hT, hdT, h3⟩ := f
 have hsz3 : 3 < ts.size := (Array.getElem?_eq_some_iff.mp h3).1
 unfold setFlight
 refine wpAny_bind (wpAny_field he hd h1 ?_)
 rw [if_pos (show (Value.ref T != Value.none) = true from by simp)]
 refine wpAny_setField hT hdT hsz3 (h _ (fun b o nb q => (Heap.get?_update_other _ _ (Ne.symm nb)).trans q) ⟨oe, vs, _, _, (Heap.get?_update_other _ _ hTe).trans he, p, hd, h1, hTe, Heap.get?_update_self _ hT (Obj.isFreed_of_fields (Obj.data_mapFields hdT _)), Obj.data_mapFields hdT _, ?_⟩)
 simp [hsz3]
end
end L2
namespace L2
open PySem PySem.Spec PyProof.Rows
theorem ObjOk.there {P : Program} {w : World} {H : Hp} {h : Heap} {a : Addr} {o : HO} (x : ObjOk P w H h a o) : ∃ ob, h.get? a = some ob := by
 cases o with
 | lst xs => obtain ⟨_, _, _, _, e⟩ := x; exact ⟨_, e⟩
 | tup xs => obtain ⟨_, _, _, ob, e, _⟩ := x; exact ⟨_, e⟩
 | dK kvs => obtain ⟨_, _, _, _, o, _, _, e, _⟩ := x; exact ⟨_, e⟩
 | dT kvs => obtain ⟨_, _, _, _, o, _, _, e, _⟩ := x; exact ⟨_, e⟩
 | set S n => obtain ⟨o, _, _, _, e, _⟩ := x; exact ⟨_, e⟩
 | ins C dx fs => obtain ⟨_, _, _, e, _⟩ := x; exact ⟨_, e⟩
 | own y => obtain ⟨_, e⟩ := x; exact ⟨_, e⟩
 | xd fs => obtain ⟨_, ⟨_, _, _, e, _⟩, _⟩ := x; exact ⟨_, e⟩
 | rng lo hi => obtain ⟨_, _, _, e⟩ := x; exact ⟨_, e⟩
 | frz ob u => obtain ⟨e, _⟩ := x; exact ⟨_, e⟩
 | tbl ps => exact ⟨_, (show h.get? a = some _ from x)⟩
 | met f y => exact ⟨_, (show h.get? a = some _ from x)⟩
 | ext φ => obtain ⟨_, ⟨_, e⟩, _⟩ := x; exact ⟨_, e⟩
theorem HOk.none {P : Program} {w : World} {H : Hp} {h : Heap} {a : Addr} (x : HOk P w H h) (e : h.get? a = none) : H a = none := by
 cases q : H a with
 | none => rfl
 | some u =>
  obtain ⟨ob, z⟩ := (x a u q).there
  rw [e] at z; cases z
def ExP (cls : Value) (o : Obj) : Prop := ∃ (t : Addr) (x : Value), o = { cls := cls, data := .fields #[.ref t, x, .none, .none, .bool false, .none] }
end L2
namespace L2
open PySem PySem.Spec PyProof.Rows
def Cx.tr (X : Cx) (pn : List (Addr × Obj)) (xe : Value -> Shared -> Prop) : Cx := { X with pn := pn, xe := xe }
section
variable {X : Cx} {pins pins' : List (Addr × Obj)} {σ : St} {H H' : Hp} {s : Shared} {ch : List Addr} {xe : Value -> Shared -> Prop} {h' : Heap} {e : Addr}
theorem Inv.tr (I : Inv X pins σ H s) : Inv (X.tr (X.pn ++ pins) xe) [] σ H s :=
 have ok := I.ok
 ⟨⟨ok.mod, ok.kind, ok.glob, ok.blt, ok.above, ok.inj, ok.has, ok.cab, ok.hd, ok.frames, ok.stk, ok.exf, ok.bs, ok.bsz, ok.noex, ok.exfs, ok.funs, ok.frf⟩, I.os, I.bare, I.base, I.loc, I.cell, I.free, I.freeC, fun p hp => I.pin p (by rw [List.append_nil] at hp; exact hp), I.hok, I.len⟩
theorem Inv.untr (I : Inv (X.tr (X.pn ++ pins) xe) pins' σ H s) : Inv X pins σ H s :=
 have ok := I.ok
 ⟨⟨ok.mod, ok.kind, ok.glob, ok.blt, ok.above, ok.inj, ok.has, ok.cab, ok.hd, ok.frames, ok.stk, ok.exf, ok.bs, ok.bsz, ok.noex, ok.exfs, ok.funs, ok.frf⟩, I.os, I.bare, I.base, I.loc, I.cell, I.free, I.freeC, fun p hp => I.pin p (List.mem_append_left _ hp), I.hok, I.len⟩
structure Far (X : Cx) (pins : List (Addr × Obj)) (H : Hp) (b : Addr) : Prop where
 s0 : X.s₀.heap.get? b = none
 un : H b = none
 ne : b ≠ X.env.locals
 nc : ∀ x c, X.env.cells.lookup x = some c -> c ≠ b
 np : ∀ p ∈ X.pn ++ pins, p.1 ≠ b
theorem Inv.noted (I : Inv X pins σ H s) (hch : ∀ b ∈ ch, Far X pins H b) (n : Noted X.stack ch s.heap h') : Inv X pins σ H { s with heap := h' } := by
 have J := I.more (ch := ch) fun b hb => ⟨(hch b hb).s0, (hch b hb).ne, (hch b hb).nc⟩
 have K := J.call (h' := h') (H' := H) (g' := s.gens) (t' := s.toks) (d' := s.drawn) (ch := ch) ⟨fun b o e _ hb hx => n.keep b o hb hx e, fun b o e _ hb hx => n.slot b o hb hx e, fun _ _ _ z _ => z, fun b o e hx => ?_, fun _ _ z => z, fun _ _ _ z => z, fun b ps z => ⟨#[], by rw [z]; simp⟩⟩ ?_ I.bare
  (fun b hb => ⟨.inl (List.mem_append_left _ hb), (hch b hb).ne, (hch b hb).nc, (hch b hb).np⟩)
 ·exact K.less fun b hb => (hch b hb).s0
 ·by_cases z : b ∈ frs X.stack
  ·obtain ⟨sl, q⟩ := n.slot b o z hx e
   exact ⟨_, q⟩
  ·exact ⟨o, n.keep b o z hx e⟩
 ·intro b u z
  refine (I.hok b u z).stay (fun c v hc q => ?_) (fun _ q => q) fun _ _ q => q
  have nn : H c ≠ none := by
   rcases hc with r | r
   ·rw [r, z]; exact fun k => by cases k
   ·rw [r]; exact fun k => by cases k
  exact n.keep c v (fun k => nn (I.stkFree c k)) (fun k => nn (hch c k).un) q
theorem Inv.gone {i : Nat} {n : Str} {t' : Nat} (I : Inv X pins σ H s) (hN : X.N.Nodup) (hi : X.N[i]? = some n) {m' : Str -> Option Value} (hn : ∀ m, s.heap.Ns X.env.locals m -> ∃ v, h'.Ns X.env.locals (fun x => if x = n then v else m x)) (hs : Heap.SameBut X.env.locals s.heap h') :
  Inv X pins (σ.set i none) H { s with heap := h', toks := t' } := by
 obtain ⟨m, hm, hl⟩ := id I.loc
 obtain ⟨v0, hm'⟩ := hn m hm
 have neL : ∀ b o, X.s₀.heap.get? b = some o -> b ≠ X.env.locals := fun b o e => Nat.ne_of_lt (Nat.lt_of_lt_of_le (Heap.lt_size e) I.ok.above)
 refine ⟨I.ok, I.os, I.bare, ⟨fun b o e n hb hx => (hs.2 b (neL b o e)).trans (I.base.keep b o e n hb hx), fun b o e n hb hx => ?_, I.base.free, fun b o e hx => ?_, I.base.tups, I.base.frzs, I.base.tbls⟩, ⟨_, hm', fun j y v e1 e2 e3 => ?_⟩, fun y c e => ?_, I.free, I.freeC, fun p hp => ?_, fun b u z => ?_, by simpa using I.len⟩
 ·obtain ⟨sl, q⟩ := I.base.slot b o e n hb hx
  exact ⟨sl, (hs.2 b (neL b o e)).trans q⟩
 ·obtain ⟨o', q⟩ := I.base.there b o e hx
  exact ⟨o', (hs.2 b (neL b o e)).trans q⟩
 ·by_cases hj : j = i
  ·subst hj
   exfalso
   rw [List.getElem?_set] at e2
   simp at e2
  ·rw [List.getElem?_set_ne (Ne.symm hj)] at e2
   obtain ⟨u, r, q⟩ := hl j y v e1 e2 e3
   refine ⟨u, r, ?_⟩
   rcases q with ⟨k, q⟩ | ⟨k, c, q, z⟩
   ·refine .inl ⟨k, ?_⟩
    have : y ≠ n := fun e => hj (nodup_ix hN e1 (e ▸ hi))
    simp [this, q]
   ·exact .inr ⟨k, c, q, z.sameBut hs (I.cne y c q)⟩
 ·obtain ⟨v, z⟩ := I.cell y c e
  exact ⟨v, z.sameBut hs (I.cne y c e)⟩
 ·obtain ⟨e, n, ne, nf, d⟩ := I.pin p hp
  exact ⟨(hs.2 p.1 ne).trans e, n, ne, nf, d⟩
 ·refine (I.hok b u z).stay (fun c v hc q => (hs.2 c ?_).trans q) (fun _ q => q) fun _ _ q => q
  rintro rfl
  have := I.free
  rcases hc with r | r
  ·rw [r, z] at this; cases this
  ·rw [r] at this; cases this
end
end L2
namespace L2
open PySem PySem.Spec PyProof.Rows
section
variable {X : Cx}
theorem same_new {H : Hp} {a : Addr} {o : HO} (h : H a = none) : Same H (upd H a o) := fun b u q => by rw [upd_ne (ne_of_none q h)]; exact q
def rCatG (K : PySem.W.Frag) : R2 := fun x y H Q => ∃ a b xs ys, x = .ref a /\ y = .ref b /\ SqT K H a xs /\ SqT K H b ys /\ xs.length + ys.length <= sizeLine /\ ∀ r H', SqT K H' r (xs ++ ys) -> Same H H' -> Q (.ref r) H'
theorem op_catG : OpR X (binaryOp .Add) (rCatG X.K) := by
 intro pins s σ H x y v u Q I rx ry h
 obtain ⟨a, b, xs, ys, rfl, rfl, ha, hb, hz, q⟩ := h
 by_cases hx : xs = []
 ·subst hx
  cases rx
  cases ry
  obtain ⟨its, r1, p1, _⟩ := I.tuple ha
  obtain ⟨its2, r2, p2, _⟩ := I.tuple hb
  obtain ⟨⟨cls, dd, data, sl⟩, ho, hc, n, hd⟩ := id p1
  obtain ⟨⟨cls2, dd2, data2, sl2⟩, ho2, hc2, n2, hd2⟩ := id p2
  simp only at hc hd hc2 hd2
  subst hc hd hc2 hd2
  have e1 : its = [] := r1.nil_iff.mpr rfl
  exact concat_meets ⟨_, ho, rfl⟩ ⟨_, ho2, rfl⟩ noFill_tuple_add seq_tuple_add PySem.F.slot_tuple_add PySem.F.entry_tuple_add (PySem.F.args_tuple_add_2 _ _)
   (tuple_addW0 a b its.toArray its2.toArray n n2 dd dd2 sl sl2 (by simp [e1])) ⟨ho, ho2, ⟨.ref b, H, I, rfl, q b H hb (Same.refl H)⟩⟩
 ·refine op_catT pins s σ H (.ref a) (.ref b) v u Q I rx ry ⟨a, b, xs, ys, rfl, rfl, ha, hb, hx, hz, fun e => q a H (by rw [e, List.append_nil]; exact ha) (Same.refl H), fun _ p hp => q p _ (SqT.of upd_same) (same_new hp)⟩
structure QA (X : Cx) (es : List Expr) (t : TA) : Prop where
 p : PA X es t
theorem qa_nil : QA X [] tNil := ⟨pa_nil⟩
theorem qa_c {e : Expr} {es : List Expr} {te : TE} {t : TA} (ha : PE X e te) (hr : QA X es t) (h : isStar e = false := by rfl) : QA X (e :: es) (tCons te t) := ⟨pa_c ha hr.p h⟩
theorem pe_lstQ {es : List Expr} {t : TA} {pos : Pos} (h : QA X es t) : PE X (.List es pos) (tLst t) := pe_lst h.p
end
end L2
namespace L2
open PySem PySem.Spec PyProof.Rows
section
variable {X : Cx} {pins : List (Addr × Obj)} {σ : St} {H : Hp} {s : Shared} {h' : Heap}
theorem Inv.turnedL {t' : Nat} {ch : List Addr} (I : Inv X pins σ H s) (hf : ∀ b ∈ ch, FpOk X pins H b) (k : ∀ b o, b ∉ ch -> s.heap.get? b = some o -> h'.get? b = some o) : Inv X pins σ H { s with heap := h', toks := t' } := by
 have nit : ∀ b u, H b = some u -> b ∉ ch := fun b u e z => by rw [(hf b z).1] at e; cases e
 refine I.step (g' := s.gens) (d' := s.drawn) (ch := ch) (fun b hb => ?_) (fun b o _ _ hc e _ => k b o hc e) (fun b o _ _ hc e _ => ⟨o.slots, k b o hc e⟩) (fun _ _ _ _ n => n)
  (fun b o hc e => ⟨o, k b o hc e⟩) (fun _ _ e => e) (fun _ _ _ e => e) (fun b ps e => ⟨#[], by rw [e]; simp⟩) (fun m hm => ?_) (fun b u e => ?_) I.bare
 ·obtain ⟨_, f1, _, f3, f4, f5⟩ := hf b hb
  exact ⟨f3, f1, f4, f5⟩
 ·obtain ⟨o, es, ep, ho, r⟩ := hm
  exact ⟨o, es, ep, k _ o (fun z => (hf _ z).2.1 rfl) ho, r⟩
 ·refine (I.hok b u e).stay (fun c v hc q => k c v ?_ q) (fun _ q => q) fun _ _ q => q
  rcases hc with z | z
  ·rw [z]; exact nit b u e
  ·exact nit c _ z
end
end L2
namespace L2
open PySem PySem.Spec PyProof.Rows
def Its (x : Str) : It := ⟨fun i _ => i < x.cps.size, fun i H v H' => H' = H /\ ∃ c, x.cps[i]? = some c /\ v = .str ⟨#[c]⟩, fun i _ => x.cps.size <= i⟩
theorem turn_strA {P : Program} {w : World} {K : PySem.W.Frag} {tg : Expr} (it : Addr) (x : Str) (t : Tok) : Turn P w K tg (Its x) [it] it (fun i h => h.IsStrIter it "str_ascii_iterator" x t i) where
 mem := by simp
 obj := fun i h st b hb => by
  have e : b = it := by simpa using hb
  subst e
  obtain ⟨o, e, c, d⟩ := st
  exact ⟨o, e, fun v z => by rw [d] at z; cases z⟩
 keep := fun i h h' st k => let ⟨o, ho, r⟩ := st; ⟨o, k it (by simp) o ho, r⟩
 item := by
  intro X hP hw hK hc i pins s σ H E I hf st hg
  subst hP hw hK
  obtain ⟨f0, f1, f2, f3, f4, f5⟩ := hf it (by simp)
  have W := Walks.strAscii (prog := X.prog) (w := X.w) (I.ok.hd hc) it x t
  refine W.item i s _ _ hg st fun v h' tk hv st' kk => ?_
  obtain ⟨c, u, hc', rfl⟩ := hv
  have I1 : Inv X pins σ H { s with heap := h', toks := tk } := I.turned (fun b o hb e => kk b o (by simpa using hb) e) f0 f1 f3 f4 f5
  obtain ⟨o, e, c1, d⟩ := id st'
  exact ⟨_, rfl, go_of (s := { s with heap := h', toks := tk }) e c1 d (by decide) ⟨.str ⟨#[c]⟩, H, I1, ⟨u, rfl⟩, ⟨rfl, c, hc', rfl⟩, st', fun b hb => (hf b hb).1⟩⟩
 done := by
  intro X hP hw hK hc i pins s σ H E I hf st hg
  subst hP hw hK
  obtain ⟨f0, f1, f2, f3, f4, f5⟩ := hf it (by simp)
  exact wpAny_pyNext_ascii_end (I.ok.hd hc) st (by have : x.cps.size <= i := hg; simp; omega) fun h' eb => ⟨rfl, I.turned (t' := s.toks) (fun b o hb e => eb b o hb e) f0 f1 f3 f4 f5⟩
 self := fun _ _ _ _ _ st h => wpAny_pyIter_striter_ascii st h
theorem turn_strW {P : Program} {w : World} {K : PySem.W.Frag} {tg : Expr} (it : Addr) (x : Str) (t : Tok) : Turn P w K tg (Its x) [it] it (fun i h => h.IsStrIter it "str_iterator" x t i) where
 mem := by simp
 obj := fun i h st b hb => by
  have e : b = it := by simpa using hb
  subst e
  obtain ⟨o, e, c, d⟩ := st
  exact ⟨o, e, fun v z => by rw [d] at z; cases z⟩
 keep := fun i h h' st k => let ⟨o, ho, r⟩ := st; ⟨o, k it (by simp) o ho, r⟩
 item := by
  intro X hP hw hK hc i pins s σ H E I hf st hg
  subst hP hw hK
  obtain ⟨f0, f1, f2, f3, f4, f5⟩ := hf it (by simp)
  have W := Walks.strWide (prog := X.prog) (w := X.w) (I.ok.hd hc) it x t
  refine W.item i s _ _ hg st fun v h' tk hv st' kk => ?_
  obtain ⟨c, u, hc', rfl⟩ := hv
  have I1 : Inv X pins σ H { s with heap := h', toks := tk } := I.turned (fun b o hb e => kk b o (by simpa using hb) e) f0 f1 f3 f4 f5
  obtain ⟨o, e, c1, d⟩ := id st'
  exact ⟨_, rfl, go_of (s := { s with heap := h', toks := tk }) e c1 d (by decide) ⟨.str ⟨#[c]⟩, H, I1, ⟨u, rfl⟩, ⟨rfl, c, hc', rfl⟩, st', fun b hb => (hf b hb).1⟩⟩
 done := by
  intro X hP hw hK hc i pins s σ H E I hf st hg
  subst hP hw hK
  obtain ⟨f0, f1, f2, f3, f4, f5⟩ := hf it (by simp)
  exact wpAny_pyNext_wide_end (I.ok.hd hc) st (by have : x.cps.size <= i := hg; simp; omega) fun h' eb => ⟨rfl, I.turned (t' := s.toks) (fun b o hb e => eb b o hb e) f0 f1 f3 f4 f5⟩
 self := fun _ _ _ _ _ st h => wpAny_pyIter_striter_wide st h
section
variable {X : Cx}
def rSlS : V -> Option Int -> Option Int -> Hp -> VK -> Prop := fun x lo hi H Q => ∃ z, x = .str z /\ z.length <= sizeLine /\ Q (.str (Txt.slice z lo hi)) H
theorem sl_str : SlR X rSlS := by
 intro pins s σ H x v vl vu lo hi sl Q I rx hs pl pu h
 obtain ⟨z, rfl, hz, q⟩ := h
 obtain ⟨t, rfl⟩ := rx
 obtain ⟨o, ho, hc, hd⟩ := hs
 refine ⟨"str", _, F.slot_str_getitem.lookup, typeIs_str _ _ _, ?_⟩
 have fin : ∀ t' k, EP X pins σ Q (.str (Txt.slice z lo hi) t') { s with toks := k } := fun t' k => ⟨.str _, H, I.tok k, ⟨t', rfl⟩, q⟩
 cases pl with
 | none => cases pu with
  | none => exact wpAny_getItem_str_slice (l := none) (u := none) (st := none) ⟨o, ho, hc, hd⟩ rfl (post_val_or_str ⟨Nat.le_trans (Txt.slice_le z _ _) hz, fin⟩)
  | int j uj => exact wpAny_getItem_str_slice (l := none) (u := some (j, uj)) (st := none) ⟨o, ho, hc, hd⟩ rfl (post_val_or_str ⟨Nat.le_trans (Txt.slice_le z _ _) hz, fin⟩)
 | int i ui => cases pu with
  | none => exact wpAny_getItem_str_slice (l := some (i, ui)) (u := none) (st := none) ⟨o, ho, hc, hd⟩ rfl (post_val_or_str ⟨Nat.le_trans (Txt.slice_le z _ _) hz, fin⟩)
  | int j uj => exact wpAny_getItem_str_slice (l := some (i, ui)) (u := some (j, uj)) (st := none) ⟨o, ho, hc, hd⟩ rfl (post_val_or_str ⟨Nat.le_trans (Txt.slice_le z _ _) hz, fin⟩)
end
end L2
namespace L2
open PySem PySem.Spec PyProof.Rows
section
variable {X : Cx}
def rSlW (K : PySem.W.Frag) : V -> Option Int -> Option Int -> Hp -> VK -> Prop := fun x lo hi H Q => ∃ a xs, x = .ref a /\ SqT K H a xs /\ ∀ p H', Same H H' -> SqT K H' p (cutV xs lo hi) -> Q (.ref p) H'
theorem getItem_whole {prog : Program} {w : World} {A : Around} {E : Value -> Shared -> Prop} {s : Shared} {t sl : Addr} {items : Array Value} {vl vu : Value} {lo hi : Option Int} {Q : Value -> Shared -> Prop} (ht : IsTup s.heap t items) (hs : s.heap.IsSliceOf sl vl vu .none) (pl : IsPart vl lo) (pu : IsPart vu hi)
  (hw : HT.sIx items.size 0 lo = 0 /\ HT.sIx items.size items.size hi = items.size) (h : Q (.ref t) s) : wpAny (model prog w) A (getItem (.ref t) (.ref sl)) Q E s := by
 obtain ⟨os, hos, hcs, hds⟩ := id hs
 have hTs : s.TypeIs (.ref sl) "slice" := ⟨os, hos, hcs⟩
 unfold getItem
 try with_reducible refine wpAny_holding ?_
 first | refine wpAny_bind (wpAny_pure ?_) | skip
 refine wpAny_bind (wpAny_sequenceKey ht.typeIs (by decide) ?_)
 refine wpAny_bind (wpAny_callSpecial?_slot (name := Str.ofString "__getitem__") ht.typeIs PyProof.Rows.slot_tuple_getitem (wpAny_call_entry PyProof.Rows.slot_tuple_getitem ht.typeIs entry_tuple_getitem ?_ (args_tuple_getitem _ _)))
 show wpAny _ _ (Builtin.Tuple.tupleItemsOf (.ref t) >>= _) _ _ s
 refine wpAny_bind (tupleItemsOf_ ht (wpAny_bind (wpAny_typeOf hTs ?_)))
 rw [if_pos (by decide)]
 refine wpAny_bind (HT.sliceApplied_gen hs pl pu ?_)
 rw [hw.1, hw.2]
 dsimp only
 rw [if_pos (by simp)]
 unfold Builtin.Tuple.tupleIsExact
 refine wpAny_bind (wpAny_bind (wpAny_typeOf ht.typeIs (wpAny_pure ?_)))
 rw [if_pos (by decide)]
 exact wpAny_bind (wpAny_rule (wpAny_pure ⟨_, rfl, wpAny_pure h⟩))
theorem cut_all {xs : List V} {lo hi : Option Int} (hw : HT.sIx xs.length 0 lo = 0 /\ HT.sIx xs.length xs.length hi = xs.length) : cutV xs lo hi = xs := by
 unfold cutV
 rw [hw.1, hw.2, List.drop_zero, Nat.sub_zero, List.take_length]
theorem sl_tupW : SlR X (rSlW X.K) := by
 intro pins s σ H x v vl vu lo hi sl Q I rx hs pl pu h
 obtain ⟨a, xs, rfl, hx, q⟩ := h
 by_cases hw : HT.sIx xs.length 0 lo = 0 /\ HT.sIx xs.length xs.length hi = xs.length
 ·cases rx
  obtain ⟨its, r, ht, hz⟩ := I.tuple hx
  have hlen : its.toArray.size = xs.length := by rw [List.size_toArray]; exact r.length.symm
  refine ⟨"tuple", _, PyProof.Rows.slot_tuple_getitem.lookup, ht.typeIs, ?_⟩
  exact getItem_whole ht hs pl pu (by rw [hlen]; exact hw) ⟨.ref a, H, I, rfl, q a H (fun _ _ e => e) (by rw [cut_all hw]; exact hx)⟩
 ·exact sl_tup pins s σ H _ v vl vu lo hi sl Q I rx hs pl pu ⟨a, xs, rfl, hx, hw, fun p np => q p _ (fun b o e => by rw [upd_ne (ne_of_none e np)]; exact e) (SqT.of upd_same)⟩
end
end L2
namespace L2
open PySem PySem.Spec PyProof.Rows
inductive Lf where
 | non
 | int (i : Int)
 | str (x : Str)
def Lf.v : Lf -> V
 | .non => .non
 | .int i => .int i
 | .str x => .str x
def Lf.t : Lf -> Str
 | .non => "None"
 | .int i => toString i
 | .str x => reprText x
def Lf.ok : Lf -> Prop
 | .non => True
 | .int i => i.natAbs.log2 < 1920
 | .str x => (reprText x).length <= 100000
inductive Rp where
 | lf (l : Lf)
 | tup (a : Addr) (ls : List Lf)
def Rp.v : Rp -> V
 | .lf l => l.v
 | .tup a _ => .ref a
def Rp.t : Rp -> Str
 | .lf l => l.t
 | .tup _ ls => tupleText (ls.map Lf.t)
def Rp.At (K : PySem.W.Frag) (H : Hp) : Rp -> Prop
 | .lf l => l.ok
 | .tup a ls => SqT K H a (ls.map Lf.v) /\ ∀ l ∈ ls, l.ok
theorem reprIs_lf {prog : Program} {w : World} : ∀ {l : Lf} {u : Value}, l.ok -> RelV l.v u -> ReprIs prog w u l.t
 | .non, u, _, r => by cases r; exact ReprIs.none
 | .int i, u, h, r => by obtain ⟨t, rfl⟩ := r; exact ReprIs.int t h
 | .str x, u, h, r => by obtain ⟨t, rfl⟩ := r; exact ReprIs.str x t (Nat.le_trans h (by decide))
theorem reprAll_lf {prog : Program} {w : World} {as : List Addr} {h₀ : Heap} {d : Nat} : ∀ {ls : List Lf} {us : List Value}, (∀ l ∈ ls, l.ok) -> Vals (ls.map Lf.v) us -> ReprAllK prog w as h₀ d us (ls.map Lf.t)
 | [], us, _, r => by rw [List.map_nil] at r; cases r; exact .nil
 | l :: ls, us, h, r => by
  rw [List.map_cons] at r
  cases r with
  | cons r1 r2 => exact .cons (.of_is (reprIs_lf (h l List.mem_cons_self) r1) as h₀ d) (reprAll_lf (fun x hx => h x (List.mem_cons_of_mem _ hx)) r2)
def Rp.ad : Rp -> List Addr
 | .lf _ => []
 | .tup a _ => [a]
section
variable {X : Cx}
theorem reprAll_it {pins : List (Addr × Obj)} {σ : St} {H : Hp} {s : Shared} (I : Inv X pins σ H s) {as : List Addr} : ∀ {is : List Rp} {us : List Value}, (∀ i ∈ is, i.At X.K H) -> (∀ i ∈ is, ∀ b ∈ i.ad, b ∈ as) -> Vals (is.map Rp.v) us -> ReprAllK X.prog X.w as s.heap 1 us (is.map Rp.t)
  | [], us, _, _, r => by rw [List.map_nil] at r; cases r; exact .nil
  | .lf l :: is, us, h, ha, r => by
    rw [List.map_cons] at r
    cases r with
    | cons r1 r2 => exact .cons (.of_is (reprIs_lf (h _ List.mem_cons_self) r1) as s.heap 1) (reprAll_it I (fun x hx => h x (List.mem_cons_of_mem _ hx)) (fun x hx => ha x (List.mem_cons_of_mem _ hx)) r2)
  | .tup a ls :: is, us, h, ha, r => by
    rw [List.map_cons] at r
    cases r with
    | cons r1 r2 =>
      cases r1
      obtain ⟨hq, hk⟩ := h _ List.mem_cons_self
      obtain ⟨its, rv, ht, hz⟩ := I.tuple hq
      obtain ⟨o, ho, hc, n, hd⟩ := ht
      have T := ReprK.tuple (prog := X.prog) (w := X.w) (as := []) (d := 0) ho hc hd (by simp) (reprAll_lf hk (by simpa using rv))
      exact .cons (T.more (by intro b hb; have : b = a := by simpa using hb
                              subst this; exact ha _ List.mem_cons_self b (by simp [Rp.ad]))) (reprAll_it I (fun x hx => h x (List.mem_cons_of_mem _ hx)) (fun x hx => ha x (List.mem_cons_of_mem _ hx)) r2)
theorem Room.r16 {k : Nat} {A : Around} (r : Room k A) : A.units + 16 < cLine := by
 have := r.un
 omega
theorem tupleText_le {B : Nat} : ∀ {ts : List Str}, (∀ t ∈ ts, t.length <= B) -> (tupleText ts).length <= ts.length * (B + 2) + 4 := by
 intro ts h
 have hp : ∀ (l : List Str), (∀ t ∈ l, t.length <= B) -> piled l <= l.length * (B + 2) := by
  intro l
  induction l with
  | nil => intro _; simp [piled]
  | cons x l ih =>
   intro hl
   have := ih fun t ht => hl t (List.mem_cons_of_mem _ ht)
   have h0 := hl x List.mem_cons_self
   rw [piled_cons, List.length_cons, Nat.add_mul, Nat.one_mul]
   omega
 have hp := hp ts h
 unfold tupleText
 rw [strLen_append, strLen_append]
 have e1 : ((("(" : String) : Str)).length = 1 := rfl
 have e3 : (((if ts.length == 1 then ",)" else ")" : String) : Str)).length <= 2 := by split <;> decide
 rw [e1]
 by_cases z : ts = []
 ·subst z
  have : (Str.join ", " ([] : List Str)).length = 0 := rfl
  omega
 ·have := join_length_add ts z
  omega
end
end L2
namespace L2
open PySem PySem.Spec PySem.Calls PyProof.Rows PySem.W
structure XCls (K : Frag) (D : Addr) : Prop where
 ga : findIn K (.ref D) "__getattribute__" = some (some (.builtin "BaseException.__getattribute__"))
 gt : findIn K (.ref D) "__getattr__" = some none
 cl : findIn K (.ref D) "__class__" = some (some (.builtin "object.__class__"))
 mo : mroIn K D (.type "object") = some true
 mb : mroIn K D (.type "BaseException") = some true
theorem ic_of {K : Frag} {D : Addr} {b : Value} {r : Bool} (h : mroIn K D b = some r) : (clsIn K D).isSome = true := by
 obtain ⟨cd, a, _⟩ := Option.bind_eq_some_iff.mp h
 rw [a]; rfl
theorem XCls.ic {K : Frag} {D : Addr} (x : XCls K D) : (clsIn K D).isSome = true := ic_of x.mo
section
variable {prog : Program} {w : World} {A : Around} {E : Value -> Shared -> Prop} {s : Shared} {K : Frag} {x D : Addr} {ox : Obj}
theorem exc_find (hc : (clsIn K D).isSome = true) {name : Str} {a g : Value} (ha : findIn K (.ref D) name = some (some a)) (hg : specialIn K a "__get__" = some (some g)) (ht : takesIn K a = some true) : findObj K D none name = some (.bind g a) := by
 obtain ⟨cd, hc⟩ := Option.isSome_iff_exists.mp hc
 unfold findObj
 rw [hc, Option.bind_some, ha, Option.bind_some]
 simp [hg, ht]
theorem exc_entry {tk : Tok} {Q : Fin -> Shared -> Prop} (FX : XCls K D) (hn : specialIn K (.builtin "object.__class__") "__get__" = some (some (.builtin "getset_descriptor.__get__"))) (htk : takesIn K (.builtin "object.__class__") = some true)
  (X : K.In s.heap) (I : InstAt s.heap x ox D none) (h : Q (.done (.ret (.ref D))) s) : wpAny (model prog w) A (Builtin.«object.__getattribute__» ⟨[.ref x, .str "__class__" tk], []⟩) Q E s := by
 obtain ⟨hh, g, d, t, os⟩ := s
 have L0 := I.type (M := model prog w)
 have L1 := looks_find (M := model prog w) X I (exc_find FX.ic FX.cl hn htk)
 refine wpAny_bind (wpAny_pure ?_)
 refine wpAny_bind (wpAny_pure ?_)
 refine wpAny_bind (L0.at (wpAny_bind (L1.at ?_)))
 show wpAny _ _ (holding [_] (PySem.call (.builtin "getset_descriptor.__get__") [.builtin "object.__class__", .ref x, .ref D]) >>= ret) _ _ _
 exact wpAny_bind (wpAny_holding (wpAny_call (class_get X I FX.mo (wpAny_pure h))))
theorem exc_check {M : Model} {nameV : Value} {Q : Unit -> Shared -> Prop} (FX : XCls K D) (X : K.In s.heap) (I : InstAt s.heap x ox D none) (hq : Q () s) : wpAny M A (checkBuiltinCall "BaseException.__getattribute__" ⟨[.ref x, nameV], []⟩) Q E s := by
 obtain ⟨hh, g, d, t, os⟩ := s
 have L0 := I.type (M := M)
 have L1 := looks_mroIn (M := M) X FX.mb
 have hk : builtinKind "BaseException.__getattribute__" = some .slot := by decide +kernel
 have hsplit : splitId "BaseException.__getattribute__" = some ("BaseException", "__getattribute__") := by decide +kernel
 have ha := F.args_bexc_ga (.ref x) nameV
 simp only [checkBuiltinCall, hk, hsplit]
 refine wpAny_bind ((L0.andThen L1).at ?_)
 repeat (first | assumption | wp_step)
theorem exc_class {Q : Option Value -> Shared -> Prop} (FX : XCls K D) (hn : specialIn K (.builtin "object.__class__") "__get__" = some (some (.builtin "getset_descriptor.__get__"))) (htk : takesIn K (.builtin "object.__class__") = some true)
  (X : K.In s.heap) (I : InstAt s.heap x ox D none) (h : Q (some (.ref D)) { s with toks := s.toks + 1 }) : wpAny (model prog w) A (getAttr? (.ref x) "__class__") Q E s := by
 obtain ⟨hh, g, d, t, os⟩ := s
 have L0 := I.type (M := model prog w)
 have L1 := looks_findIn (M := model prog w) X FX.ga
 have L2 := looks_findIn (M := model prog w) X FX.gt
 unfold getAttr? getAttrBy? getAttrBy
 refine wpAny_bind (wpAny_mkText (wpAny_bind (wpAny_attempt (wpAny_holding (wpAny_bind (L0.at (wpAny_bind (L1.at ?_))))))))
 show wpAny _ _ (getAttrByItsOwn (.ref x) (.str "__class__" t) (.ref D) (.builtin "BaseException.__getattribute__") false false) _ _ _
 unfold getAttrByItsOwn
 refine wpAny_bind (L2.at ?_)
 refine wpAny_bind (wpAny_attempt (wpAny_holding ?_))
 show wpAny _ _ (boundAndCalled (.builtin "BaseException.__getattribute__") (.ref x) (.str "__class__" t)) _ _ _
 unfold boundAndCalled
 rw [F.excAttr_ValueError.ga.bind (.ref x)]
 refine wpAny_bind (wpAny_pure ?_)
 refine wpAny_call (codeAny_call_builtin F.excAttr_ValueError.ga.plain F.entry_bexc_ga (exc_check FX X I (exc_entry FX hn htk X I ?_)))
 exact handed_on rfl (wpAny_pure h)
end
end L2
namespace L2
open PySem PySem.Spec PySem.Calls PyProof.Rows PySem.W
def ExcAt (x D : Addr) (h : Heap) : Prop := ∃ o, h.get? x = some o /\ ExP (.ref D) o
theorem ExP.inst {h : Heap} {x D : Addr} {o : Obj} (e : h.get? x = some o) (p : ExP (.ref D) o) : InstAt h x o D none := by
 obtain ⟨t, y, rfl⟩ := p
 exact ⟨e, rfl, rfl, trivial⟩
structure XBase (K : Frag) : Prop where
 sp : specialIn K (.builtin "object.__class__") "__get__" = some (some (.builtin "getset_descriptor.__get__"))
 tk : takesIn K (.builtin "object.__class__") = some true
section
variable {K : Frag} {x D CF : Addr}
theorem isType_cls {M : Model} {h : Heap} (X : K.In h) (ic : (clsIn K D).isSome = true) : Looks M h (isType (.ref D)) true := by
 obtain ⟨cdD, hcD⟩ := Option.isSome_iff_exists.mp ic
 unfold clsIn at hcD
 split at hcD
 ·rename_i c' d' cd' sl' ho
  intro A' Q' E' s' k q
  unfold isType loadHead
  exact wpAny_bind (wpAny_loadPart (k _ _ (X _ _ ho)) (wpAny_pure q))
 ·cases hcD
theorem kitx_exc (FB : XBase K) (FX : XCls K D) : KitX K (.ref x) (.ref D) (ExcAt x D) where
 ty := fun _ _ _ ⟨_, e, p⟩ => (p.inst e).type
 it := fun _ _ X _ => isType_cls X FX.ic
 ne := fun h tp dd its n sl X htp => by
  obtain ⟨cdD, hcD⟩ := Option.isSome_iff_exists.mp FX.ic
  refine Bool.eq_false_iff.mpr fun q => ?_
  have e : D = tp := Value.ref.inj (beq_iff_eq.mp q)
  subst e
  unfold clsIn at hcD
  split at hcD
  ·rename_i c' d' cd' sl' ho
   have z := (X _ _ ho).symm.trans htp
   cases z
  ·cases hcD
 ca := fun X ⟨_, e, p⟩ k => exc_class FX FB.sp FB.tk X (p.inst e) k
end
end L2
namespace L2
open PySem PySem.Spec PySem.Calls PyProof.Rows PySem.W
def Cx.sx (X : Cx) (pn : List (Addr × Obj)) (e : Addr) : Cx := { X with A := X.A.mark (some (.ref e)), calm := false, pn := pn, xe := fun _ _ => False }
section
variable {X : Cx} {pins pins' : List (Addr × Obj)} {σ : St} {H H' : Hp} {s : Shared} {ch : List Addr} {xe : Value -> Shared -> Prop} {h' : Heap} {e b : Addr} {o : HO}
theorem Inv.sx (I : Inv X pins σ H s) : Inv (X.sx (X.pn ++ pins) e) [] σ H s :=
 have ok := I.ok
 ⟨⟨ok.mod, ok.kind, ok.glob, ok.blt, ok.above, ok.inj, ok.has, ok.cab, (fun z => Bool.noConfusion z), ok.frames, ok.stk, ok.exf, ok.bs, ok.bsz, ok.noex, ok.exfs, ok.funs, ok.frf⟩, I.os, I.bare, I.base, I.loc, I.cell, I.free, I.freeC, fun p hp => I.pin p (by rw [List.append_nil] at hp; exact hp), I.hok, I.len⟩
theorem Inv.unsx (hd : X.calm = true -> X.A.handled = none) (I : Inv (X.sx (X.pn ++ pins) e) [] σ H s) : Inv X pins σ H s :=
 have ok := I.ok
 ⟨⟨ok.mod, ok.kind, ok.glob, ok.blt, ok.above, ok.inj, ok.has, ok.cab, hd, ok.frames, ok.stk, ok.exf, ok.bs, ok.bsz, ok.noex, ok.exfs, ok.funs, ok.frf⟩, I.os, I.bare, I.base, I.loc, I.cell, I.free, I.freeC, fun p hp => I.pin p (by rw [List.append_nil]; exact hp), I.hok, I.len⟩
theorem Inv.blank (I : Inv X pins σ H s) : Inv X pins (List.replicate X.N.length none) H s := by
 refine ⟨I.ok, I.os, I.bare, I.base, ?_, I.cell, I.free, I.freeC, I.pin, I.hok, by rw [List.length_replicate]⟩
 obtain ⟨m, hm, _⟩ := I.loc
 refine ⟨m, hm, fun i x v _ e2 _ => ?_⟩
 rw [List.getElem?_replicate] at e2
 split at e2 <;> cases e2
theorem Inv.far (I : Inv X pins σ H s) (hex : X.ex = []) (n : s.heap.get? b = none) : Far X pins H b := by
 refine ⟨?_, I.hok.none n, fun z => ?_, fun x c e z => ?_, fun p hp z => ?_⟩
 ·cases k : X.s₀.heap.get? b with
  | none => rfl
  | some o =>
   obtain ⟨o', e'⟩ := I.base.there b o k (by rw [hex]; simp)
   rw [n] at e'; cases e'
 ·obtain ⟨m, ⟨o', es, ep, ho', _⟩, _⟩ := I.loc
  rw [<- z, n] at ho'; cases ho'
 ·obtain ⟨v, o', ho', _⟩ := I.cell x c e
  rw [z, n] at ho'; cases ho'
 ·have := (I.pin p hp).1
  rw [z, n] at this; cases this
theorem Far.now (f : Far X pins H b) (un : H' b = none) : Far X pins H' b := ⟨f.s0, un, f.ne, f.nc, f.np⟩
theorem Inv.know (I : Inv X pins σ H s) (f : Far X pins H e) (ok : ObjOk X.prog X.w (upd H e o) s.heap e o) : Inv X pins σ (upd H e o) s := by
 have sm : ∀ c u, H c = some u -> upd H e o c = some u := same_new f.un
 have ne : ∀ c, c ≠ e -> upd H e o c = H c := fun c hc => upd_ne hc
 refine ⟨I.ok, I.os, I.bare, ⟨I.base.keep, I.base.slot, fun c ob q n hx => ?_, I.base.there, fun c xs q => sm _ _ (I.base.tups c xs q), fun c ob xs q => sm _ _ (I.base.frzs c ob xs q), fun c ps q => ?_⟩, I.loc, I.cell, ?_, fun x c q => ?_, fun p hp => ?_, fun c u q => ?_, I.len⟩
 ·rw [ne c (fun z => by rw [z, f.s0] at q; cases q)]
  exact I.base.free c ob q n hx
 ·obtain ⟨more, r⟩ := I.base.tbls c ps q
  exact ⟨more, sm _ _ r⟩
 ·rw [ne _ (fun z => f.ne z.symm)]
  exact I.free
 ·rw [ne _ (f.nc x c q)]
  exact I.freeC x c q
 ·obtain ⟨p1, p2, p3⟩ := I.pin p hp
  exact ⟨p1, by rw [ne _ (f.np p hp)]; exact p2, p3⟩
 ·by_cases z : c = e
  ·subst z
   rw [upd_same] at q
   cases q
   exact ok
  ·rw [ne c z] at q
   exact (I.hok c u q).stay (fun _ _ _ r => r) (fun d r => sm _ _ r) fun d xs r => sm _ _ r
end
theorem ns_fun {h : Heap} {a : Addr} {m m' : Str -> Option Value} (x : h.Ns a m) (y : h.Ns a m') : m = m' := by
 obtain ⟨o, es, ep, ho, hd, hk, hm⟩ := x
 obtain ⟨o', es', ep', ho', hd', hk', hm'⟩ := y
 rw [ho] at ho'; cases ho'
 rw [hd] at hd'; cases hd'
 funext n
 rw [<- hm n, <- hm' n]
theorem SP.untr {X : Cx} {pins : List (Addr × Obj)} {xe : Value -> Shared -> Prop} {D : Ends} {f : Flow} {s' : Shared} (h : SP (X.tr (X.pn ++ pins) xe) [] D f s') : SP X pins D f s' := by
 cases f with
 | next => obtain ⟨σ', H', I, q⟩ := h; exact ⟨σ', H', I.untr, q⟩
 | brk => obtain ⟨σ', H', I, q⟩ := h; exact ⟨σ', H', I.untr, q⟩
 | cont => obtain ⟨σ', H', I, q⟩ := h; exact ⟨σ', H', I.untr, q⟩
 | ret u => obtain ⟨v, σ', H', I, r, q⟩ := h; exact ⟨v, σ', H', I.untr, r, q⟩
structure Caught (K : Frag) (D CF : Addr) : Prop where
 ty : typeIn K (.ref CF) = some (.type "type")
 mb : mroIn K CF (.type "BaseException") = some true
 md : mroIn K D (.ref CF) = some true
end L2
namespace L2
open PySem PySem.Spec PySem.Calls PyProof.Rows PySem.W
theorem own_mkX {K : Frag} {h : Heap} {mg : Str -> Option Value} {x : Str} {C : Addr} {bmB : List Value} {newId : String} (X : K.In h) (G : h.Ns mainGlobals mg) (e : nsIn K mainGlobals x = some (some (.ref C))) (q : excIn K C bmB newId = true) : OwnCls x C bmB newId mg h := by
 have hb := mg_of X G e
 cases ho : K.lookup C with
 | none => unfold excIn at q; rw [ho] at q; cases q
 | some o =>
  obtain ⟨cl, dd, dt, ⟨sl⟩⟩ := o
  unfold excIn at q
  rw [ho] at q
  split at q
  ·rename_i dd' cd' sl' eo
   injection eo with eo
   injection eo with e1 e2 e3 e4
   subst e1 e2 e3 e4
   split at q
   ·rename_i C' bm k0 k1 k2 k3 nw k5 hm hs
    rcases cd' with ⟨nm, bs, mro, N, qn, hd, sn, sub, ab, col, del⟩
    dsimp only at hm hs q
    simp only [Bool.and_eq_true, beq_iff_eq, Bool.not_eq_true'] at q
    rcases q with ⟨⟨⟨⟨⟨rfl, rfl⟩, rfl⟩, tl⟩, ok⟩, ini⟩
    subst hm hs
    exact ⟨hb, bm, N, nm, qn, bs, hd, sn, sub, ab, col, dd, k0, k1, k2, k3, k5, _, X _ _ ho, .of_isNs (isNs_of_in X ok), nsMap_none_of_in X ok ini, tail_of_in X tl⟩
   ·cases q
  ·cases q
end L2
namespace L2
open PySem PySem.Spec PyProof.Rows
open PySem PySem.Spec PyProof.Rows
section
variable {κ : Type} [DecidableEq κ]
def valV (kvs : List (κ × V)) (k : κ) : Option V := (kvs.find? fun kv => decide (kv.1 = k)).map (·.2)
theorem valV_pos {p : κ × V} {r : List (κ × V)} {k : κ} (e : p.1 = k) : valV (p :: r) k = some p.2 := by simp [valV, List.find?_cons, e]
theorem valV_neg {p : κ × V} {r : List (κ × V)} {k : κ} (e : ¬ p.1 = k) : valV (p :: r) k = valV r k := by simp [valV, List.find?_cons, e]
theorem KV.val {kvs : List (κ × V)} {vs : List (κ × Value)} (r : KV kvs vs) (k : κ) : RelO (valV kvs k) (valueAt vs k) := by
 unfold KV at r
 induction r with
 | nil => exact True.intro
 | @cons p q ps qs h t ih =>
  obtain ⟨h1, h2⟩ := h
  by_cases e : p.1 = k
  ·have e' : q.1 = k := h1.symm.trans e
   have b : valueAt (q :: qs) k = some q.2 := by simp [valueAt, List.find?_cons, e']
   rw [valV_pos e, b]; exact h2
  ·have e' : ¬ q.1 = k := fun z => e (h1.trans z)
   have b : valueAt (q :: qs) k = valueAt qs k := by simp [valueAt, List.find?_cons, e']
   rw [valV_neg e, b]; exact ih
theorem KV.length {kvs : List (κ × V)} {vs : List (κ × Value)} (r : KV kvs vs) : kvs.length = vs.length := Paired.length r
end
theorem kV_is {P : Program} {w : World} {k : Key} {u : Value} (r : RelV (kV k) u) : (mixKind P w).is k u = true := by
 cases k with
 | inl i => obtain ⟨t, e⟩ := (show ∃ t, u = Value.int i t from r); subst e; exact mixKind_int P w i t
 | inr x => obtain ⟨t, e⟩ := (show ∃ t, u = Value.str x t from r); subst e; exact mixKind_str P w x t
theorem items_are {P : Program} {w : World} : ∀ {ks : List Key} {us : List Value}, Vals (ks.map kV) us -> ItemsAre (mixKind P w) ks us
 | [], _, r => by rw [List.map_nil] at r; cases r; exact .nil
 | k :: ks, _, r => by
  rw [List.map_cons] at r
  cases r with
  | cons h t => exact .cons (kV_is h) (items_are t)
abbrev KT (H : Hp) : List (List Key × V) -> List (List Key × Addr × Value) -> Prop := Paired fun p q => p.1 = q.1 /\ H q.2.1 = some (.tup (p.1.map kV)) /\ RelV p.2 q.2.2
theorem KT.val {H : Hp} {kvs : List (List Key × V)} {xs : List (List Key × Addr × Value)} (r : KT H kvs xs) (k : List Key) : RelO (valV kvs k) ((atKey xs k).map (·.2)) := by
 induction r with
 | nil => exact True.intro
 | @cons p q ps qs h t ih =>
  obtain ⟨h1, _, h2⟩ := h
  by_cases e : p.1 = k
  ·have e' : q.1 = k := h1.symm.trans e
   have b : atKey (q :: qs) k = some q.2 := by simp [atKey, List.find?_cons, e']
   rw [valV_pos e, b]; exact h2
  ·have e' : ¬ q.1 = k := fun z => e (h1.trans z)
   have b : atKey (q :: qs) k = atKey qs k := by simp [atKey, List.find?_cons, e']
   rw [valV_neg e, b]; exact ih
section
variable {P : Program} {w : World} {H : Hp} {h : Heap} {a : Addr}
theorem rd_of {u : HO} (ok : HOk P w H h) (e : Rd H a u) : ObjOk P w H h a u := e.ok ok
theorem dk_rd {kvs : List (Key × V)} (ok : HOk P w H h) (e : Rd H a (.dK kvs)) : kvs.length <= sizeLine /\ (a == sysModules) = false /\ ∃ vs, KV kvs vs /\ h.DictOf (mixKind P w) a vs :=
 show ObjOk P w H h a (.dK kvs) from rd_of ok e
theorem key_of {ks : List Key} (ok : HOk P w H h) (e : H a = some (.tup (ks.map kV))) : (tupleKind (mixKind P w)).is h ks a := by
 obtain ⟨_, its, r, o, h1, h2, n, h3⟩ := (show ObjOk P w H h a (.tup (ks.map kV)) from ok a _ e)
 exact ⟨o, its.toArray, n, h1, h2, h3, by simpa using items_are r⟩
theorem dt_rd {kvs : List (List Key × V)} (ok : HOk P w H h) (e : Rd H a (.dT kvs)) : kvs.length <= sizeLine /\ (a == sysModules) = false /\
  ∃ xs, KT H kvs xs /\ h.DictOfH (tupleKind (mixKind P w)) a xs := by
 obtain ⟨z, y, xs, r, o, es, ep, h1, h2, h3, h4, h5⟩ := (show ObjOk P w H h a (.dT kvs) from rd_of ok e)
 refine ⟨z, y, xs, r, o, es, ep, h1, h2, h3, h4, fun x hx => ?_, h5⟩
 have all : ∀ {l : List (List Key × V)} {m : List (List Key × Addr × Value)}, KT H l m -> ∀ x ∈ m, (tupleKind (mixKind P w)).is h x.1 x.2.1 := by
  intro l m q
  induction q with
  | nil => intro x hx; exact nomatch hx
  | @cons p q ps qs hq t ih =>
   intro x hx
   rcases List.mem_cons.mp hx with e | hx
   ·subst e
    exact key_of ok (by rw [<- hq.1]; exact hq.2.1)
   ·exact ih x hx
 exact all r x hx
end
def DGet (H : Hp) (a : Addr) (y : V) (r : Option V) : Prop :=
 (∃ kvs k, Rd H a (.dK kvs) /\ y = kV k /\ r = valV kvs k) \/ ∃ kvs k b, Rd H a (.dT kvs) /\ y = .ref b /\ H b = some (.tup (k.map kV)) /\ r = valV kvs k
section
variable {X : Cx} {pins : List (Addr × Obj)} {σ : St} {H : Hp} {s : Shared} {a : Addr} {y v : V} {u r : Value} {o : Option V} {A : Around} {E : Value -> Shared -> Prop}
theorem d_getItem {Q : Value -> Shared -> Prop} (hu : A.units + 1 < cLine) (I : Inv X pins σ H s) (g : DGet H a y (some v)) (ry : RelV y u) (h : ∀ w' s', Inv X pins σ H s' -> RelV v w' -> Q w' s') :
  wpAny (model X.prog X.w) A (getItem (.ref a) u) Q E s := by
 rcases g with ⟨kvs, k, e, ey, l⟩ | ⟨kvs, k, b, e, ey, eb, l⟩
 ·subst ey
  obtain ⟨z, hd, vs, rel, dd⟩ := dk_rd I.hok e
  obtain ⟨w', hw, rw'⟩ := RelO.some_of (v := v) (o := valueAt vs k) (by rw [l]; exact rel.val k)
  exact wpAny_getItem_of (kV_is ry) dd.mapOf hw (h w' _ (I.tok _) rw')
 ·subst ey
  cases (show u = Value.ref b from ry)
  obtain ⟨z, hd, xs, rel, dd⟩ := dt_rd I.hok e
  obtain ⟨w', hw, rw'⟩ := RelO.some_of (v := v) (o := (atKey xs k).map (·.2)) (by rw [l]; exact rel.val k)
  obtain ⟨p, hp, hp2⟩ := Option.map_eq_some_iff.mp hw
  refine wpAny_getItem_heap (tupleKind_room_in1 hu) (key_of I.hok eb) dd hp ?_
  rw [hp2]
  exact h w' _ (I.tok _) rw'
end
section
variable {X : Cx} {pins : List (Addr × Obj)} {σ : St} {H : Hp} {s : Shared} {a : Addr} {kvs : List (Key × V)} {k : Key} {u : Value} {A : Around} {E : Value -> Shared -> Prop}
theorem d_len {Q : Value -> Shared -> Prop} (I : Inv X pins σ H s) (e : Rd H a (.dK kvs)) (h : ∀ t s', Inv X pins σ H s' -> Q (.int kvs.length t) s') : wpAny (model X.prog X.w) A (call (.builtin "len") [.ref a]) Q E s := by
 obtain ⟨z, hd, vs, rel, dd⟩ := dk_rd I.hok e
 refine call_len_dict hd dd (by rw [<- rel.length]; rw [sizeLine_eq] at z; omega) ?_
 rw [<- rel.length]
 exact h _ _ (I.tok _)
end
theorem dict_typeIs {X : Cx} {pins : List (Addr × Obj)} {σ : St} {H : Hp} {s : Shared} {a : Addr} {y : V} {o : Option V} (I : Inv X pins σ H s) (g : DGet H a y o) : s.TypeIs (.ref a) "dict" := by
 rcases g with ⟨kvs, k, e, _, _⟩ | ⟨kvs, k, b, e, _, _, _⟩
 ·obtain ⟨_, _, vs, _, dd⟩ := dk_rd I.hok e
  exact dd.typeIs
 ·obtain ⟨_, _, xs, _, dd⟩ := dt_rd I.hok e
  exact dd.typeIs
end L2
namespace L2
open PySem PySem.Spec PyProof.Rows
def FzD (H : Hp) (a : Addr) (ob : Obj) (kvs : List (Key × V)) : Prop := H a = some (.frz ob (.dK kvs))
theorem kv_len {kvs : List (Key × V)} {vs : List (Key × Value)} (r : KV kvs vs) : kvs.length = vs.length := Paired.length r
theorem kv_get : ∀ {kvs : List (Key × V)} {vs : List (Key × Value)} {i : Nat} {k : Key} {v : V}, KV kvs vs -> kvs[i]? = some (k, v) -> ∃ u, vs[i]? = some (k, u) /\ RelV v u
 | _, _, 0, _, _, .cons (b := b) r _, h => by
  cases h
  obtain ⟨e, r⟩ := r
  exact ⟨b.2, by show some b = _; rw [show b = (b.1, b.2) from rfl, <- e], r⟩
 | _, _, i + 1, _, _, .cons _ rs, h => kv_get (i := i) rs (by simpa using h)
theorem key_rel {k : Key} {u : Value} (h : keyIs k u = true) : RelV (kV k) u := by
 rcases keyIs_shape h with ⟨i, t, rfl, rfl⟩ | ⟨x, t, rfl, rfl⟩
 ·exact ⟨t, rfl⟩
 ·exact ⟨t, rfl⟩
section
variable {X : Cx} {pins : List (Addr × Obj)} {σ : St} {H : Hp} {s : Shared} {a : Addr} {ob : Obj} {kvs : List (Key × V)}
theorem fz_dict (I : Inv X pins σ H s) (h : FzD H a ob kvs) : s.heap.get? a = some ob /\ (a == sysModules) = false /\ kvs.length <= sizeLine /\ ∃ vs es ep, KV kvs vs /\ s.heap.DictAt (mixKind X.prog X.w) a vs ep /\ ob.data = .dict es ep := by
 obtain ⟨e, hl, hs, vs, r, o, es, ep, e', x1, x2, x3⟩ := (show ObjOk X.prog X.w H s.heap a (.frz ob (.dK kvs)) from I.hok a _ h)
 rw [e] at e'
 cases e'
 exact ⟨e, hs, hl, vs, es, ep, r, ⟨ob, es, e, x1, x2, x3⟩, x2⟩
end
def ItD (a : Addr) (ob : Obj) (kvs : List (Key × V)) : It :=
 ⟨fun i H => FzD H a ob kvs /\ i < kvs.length, fun i H x H' => H' = H /\ ∃ k v, kvs[i]? = some (k, v) /\ x = kV k, fun i H => FzD H a ob kvs /\ kvs.length <= i⟩
theorem turn_dict {P : Program} {w : World} {K : PySem.W.Frag} {tg : Expr} {a it : Addr} {ob : Obj} {kvs : List (Key × V)} {es : Array DictEntry} {ep : Nat} (hep : ob.data = .dict es ep) :
  Turn P w K tg (ItD a ob kvs) [it] it (fun i h => h.IsKeyIter it a i kvs.length ep) where
 mem := by simp
 obj := fun i h st b hb => by
  have e : b = it := by simpa using hb
  subst e
  obtain ⟨o, e, c, d⟩ := st
  exact ⟨o, e, fun v z => by rw [d] at z; cases z⟩
 keep := fun i h h' st k => st.at fun o e => k it (by simp) o e
 item := by
  intro X hP hw hK hc i pins s σ H E I hf st hg
  subst hP hw hK
  obtain ⟨hz, hi⟩ := hg
  obtain ⟨e, hs, hl, vs, es', ep', r, dd, hd'⟩ := fz_dict I hz
  rw [hep] at hd'
  cases hd'
  obtain ⟨f0, f1, f2, f3, f4, f5⟩ := hf it (by simp)
  obtain ⟨⟨k, v⟩, hx⟩ : ∃ p, kvs[i]? = some p := ⟨kvs[i], by simp [hi]⟩
  obtain ⟨u, hu, ru⟩ := kv_get r hx
  have st' : s.heap.IsKeyIter it a i vs.length ep := by rw [<- kv_len r]; exact st
  refine wpAny_pyNext_dict_item st' dd hu fun key h' hkey hit' sb => ?_
  have I1 : Inv X pins σ H { s with heap := h' } := I.turned (t' := s.toks) (fun b o hb e => (sb.2 b hb).trans e) f0 f1 f3 f4 f5
  obtain ⟨o, e, c, d⟩ := id hit'
  exact ⟨key, rfl, go_of (s := { s with heap := h' }) e c d (by decide) ⟨kV k, H, I1, key_rel hkey, ⟨rfl, k, v, hx, rfl⟩, by rw [kv_len r]; exact hit', fun b hb => (hf b hb).1⟩⟩
 done := by
  intro X hP hw hK hc i pins s σ H E I hf st hg
  subst hP hw hK
  obtain ⟨hz, hi⟩ := hg
  obtain ⟨e, hs, hl, vs, es', ep', r, dd, hd'⟩ := fz_dict I hz
  rw [hep] at hd'
  cases hd'
  obtain ⟨f0, f1, f2, f3, f4, f5⟩ := hf it (by simp)
  have st' : s.heap.IsKeyIter it a i vs.length ep := by rw [<- kv_len r]; exact st
  have hn : vs[i]? = none := List.getElem?_eq_none (by rw [<- kv_len r]; exact hi)
  exact wpAny_pyNext_dict_end (I.ok.hd hc) st' dd hn fun h' eb => ⟨rfl, I.turned (t' := s.toks) (fun b o hb e => eb b o hb e) f0 f1 f3 f4 f5⟩
 self := fun _ _ _ _ _ st h => wpAny_pyIter_keyiter st h
end L2
namespace L2
open PySem PySem.Spec PyProof.Rows
section
variable {X : Cx}
def rLenD : List V -> Hp -> VK -> Prop := fun xs H Q => ∃ (a : Addr) (kvs : List (Key × V)), xs = [.ref a] /\ Rd H a (.dK kvs) /\ Q (.int kvs.length) H
theorem call_lenDK : CallR X (.builtin "len") rLenD := by
 intro pins s σ H xs us Q I r h
 obtain ⟨a, kvs, rfl, e, q⟩ := h
 obtain ⟨u, rfl, rx⟩ := vals1 r
 cases rx
 exact d_len I e fun t s' I' => ⟨.int kvs.length, H, I', ⟨t, rfl⟩, q⟩
def rIxD : R2 := fun x y H Q => ∃ a v, x = .ref a /\ DGet H a y (some v) /\ Q v H
theorem ix_dict (hu : X.A.units + 1 < cLine) : IxR X rIxD := by
 intro value slice pins s σ H x y v u Q I rx ry h hs
 obtain ⟨a, z, rfl, g, q⟩ := h
 cases rx
 have hT := dict_typeIs I g
 unfold subscriptTail
 refine wpAny_bind ?_
 rw [getitemInPython_of_ne hT.not_modules]
 refine wpAny_bind (wpAny_specialOf hT PySem.F.slot_dict_getitem.lookup ?_)
 have fin : wpAny (model X.prog X.w) X.A (subscripted slice false (.ref a) u) (fun r s₃ => wpAny (model X.prog X.w) X.A (letTemporaryGo value (.ref a) r >>= fun _ => pure r) (EP X pins σ Q) X.xe s₃) X.xe s := by
  rw [hs]
  exact wpAny_operating (d_getItem hu I g ry fun w' s3 I3 rw' => wpAny_bind (wpAny_letTemporaryGo (wpAny_pure ⟨z, H, I3, rw', q⟩)))
 first
  | exact wpAny_pure (wpAny_bind fin)
  | exact wpAny_bind (wpAny_pure (wpAny_bind fin))
  | exact wpAny_bind fin
end
end L2
namespace L2
open PySem PySem.Spec PyProof.Rows
def fzb : HO -> Bool
 | .lst _ => true
 | .dK _ => true
 | _ => false
theorem Good.imp {P : Program} {w : World} {K : PySem.W.Frag} {mg : Str -> Option Value} {base : Heap} {k : Nat} {x : Str} {ps : List Str} {sp sp' : Sp} (G : Good P w K mg base k x ps sp) (h : ∀ vs H Q E, sp' vs H Q E -> sp vs H Q E) : Good P w K mg base k x ps sp' := by
 obtain ⟨f, fd, F, b, m, kp⟩ := G
 exact ⟨f, fd, F.imp h, b, m, kp⟩
def hardb : HO -> Bool
 | .frz _ _ => true
 | .tup _ => true
 | _ => false
def HS (H H' : Hp) : Prop := ∀ b o, hardb o = true -> H b = some o -> H' b = some o
section
variable {H H1 H2 : Hp} {a p c : Addr} {o : HO}
theorem HS.refl (H : Hp) : HS H H := fun _ _ _ e => e
theorem HS.trans (x : HS H H1) (y : HS H1 H2) : HS H H2 := fun b o h e => y b o h (x b o h e)
theorem Same.hs (s : Same H H1) : HS H H1 := fun b o _ e => s b o e
theorem hs_new (h : H a = none) : HS H (upd H a o) := fun b u _ e => by rw [upd_ne (ne_of_none e h)]; exact e
theorem hs_put {u : HO} (h : H a = some u) (n : hardb u = false) : HS H (upd H a o) := fun b v hv e => by
 by_cases z : b = a
 ·subst z; rw [h] at e; cases e; rw [n] at hv; exact absurd hv Bool.false_ne_true
 ·rw [upd_ne z]; exact e
end
end L2
namespace WordM
open PySem
def sigA : Str := " !\"#$&'()*+,-./0123456789:;<=>?@ABCDEFGHIJKLMNOPQRSTUVWXYZ[\\]^_`"
def sigB : Str := "abcdefghijklmnopqrstuvwxyz{|}~"
def SIG : Str := sigA ++ sigB
abbrev cs (x : Str) : List Nat := x.cps.toList
def Sg (x : Str) : Prop := ∀ c ∈ cs x, c ∈ cs SIG
instance (x : Str) : Decidable (Sg x) := by unfold Sg; infer_instance
theorem app (a b : Str) : cs (a ++ b) = cs a ++ cs b := by
 show (a.cps ++ b.cps).toList = _
 simp
theorem len (a : Str) : a.length = (cs a).length := by simp [Str.length]
theorem Sg.app {a b : Str} (ha : Sg a) (hb : Sg b) : Sg (a ++ b) := fun c hc => by
 rw [WordM.app] at hc
 rcases List.mem_append.mp hc with z | z
 ·exact ha c z
 ·exact hb c z
theorem Sg.one {x : Str} (h : Sg x) {c : Nat} (hc : c ∈ cs x) : Sg ⟨#[c]⟩ := fun d hd => by
 have : d = c := by simpa using hd
 rw [this]
 exact h c hc
theorem sg_nil : Sg ⟨#[]⟩ := fun c hc => by simp at hc
end WordM
namespace L2
open PySem PySem.Spec PyProof.Rows WordM
section
variable {α β : Type} {F G : α -> β -> Prop}
theorem paired_get : ∀ {xs : List α} {ys : List β} {i : Nat} {x : α}, Paired F xs ys -> xs[i]? = some x -> ∃ y, ys[i]? = some y /\ F x y
 | _, _, _, _, .nil, e => by simp at e
 | _, _, 0, _, .cons r _, e => by simp at e; subst e; exact ⟨_, rfl, r⟩
 | _, _, i + 1, x, .cons _ t, e => by
  obtain ⟨u, h1, h2⟩ := paired_get (i := i) (x := x) t (by simpa using e)
  exact ⟨u, by simpa using h1, h2⟩
end
inductive Tv where
 | leaf (v : V)
 | seq (t : Bool) (xs : List Tv)
 | dct (kts : List (Str × Tv))
def VT (S : Bool -> Addr -> List V -> Prop) (D : Addr -> List (Key × V) -> Prop) : Nat -> V -> Tv -> Prop
 | 0, _, _ => False
 | d + 1, x, T => (flatV x = true /\ T = .leaf x) \/ (∃ t a xs Ts, x = .ref a /\ S t a xs /\ T = .seq t Ts /\ Ts.length <= 100000 /\ Paired (VT S D d) xs Ts) \/
   ∃ a kvs kts, x = .ref a /\ D a kvs /\ T = .dct kts /\ (kts.map (·.1)).Nodup /\ kts.length < 64 /\ Paired (fun (kv : Key × V) (kt : Str × Tv) => kv.1 = .inr kt.1 /\ VT S D d kv.2 kt.2) kvs kts
section
variable {S S' : Bool -> Addr -> List V -> Prop} {D D' : Addr -> List (Key × V) -> Prop}
theorem VT.mono (hs : ∀ t a xs, S t a xs -> S' t a xs) (hd : ∀ a kvs, D a kvs -> D' a kvs) : ∀ {d : Nat} {x : V} {T : Tv}, VT S D d x T -> VT S' D' d x T
 | 0, _, _, h => False.elim h
 | d + 1, x, T, h => by
  rcases h with h | ⟨t, a, xs, Ts, h1, h2, h3, hz, h4⟩ | ⟨a, kvs, kts, h1, h2, h3, h4, h5, h6⟩
  ·exact .inl h
  ·exact .inr (.inl ⟨t, a, xs, Ts, h1, hs _ _ _ h2, h3, hz, Paired.mapP h4 fun _ _ q => VT.mono hs hd q⟩)
  ·exact .inr (.inr ⟨a, kvs, kts, h1, hd _ _ h2, h3, h4, h5, Paired.mapP h6 fun _ _ q => ⟨q.1, VT.mono hs hd q.2⟩⟩)
theorem VT.more : ∀ {d : Nat} {x : V} {T : Tv}, VT S D d x T -> VT S D (d + 1) x T
 | 0, _, _, h => False.elim h
 | d + 1, x, T, h => by
  rcases h with h | ⟨t, a, xs, Ts, h1, h2, h3, hz, h4⟩ | ⟨a, kvs, kts, h1, h2, h3, h4, h5, h6⟩
  ·exact .inl h
  ·exact .inr (.inl ⟨t, a, xs, Ts, h1, h2, h3, hz, Paired.mapP h4 fun _ _ q => VT.more q⟩)
  ·exact .inr (.inr ⟨a, kvs, kts, h1, h2, h3, h4, h5, Paired.mapP h6 fun _ _ q => ⟨q.1, VT.more q.2⟩⟩)
theorem VT.le {d e : Nat} (h : d <= e) {x : V} {T : Tv} (q : VT S D d x T) : VT S D e x T := by
 obtain ⟨k, rfl⟩ := Nat.le.dest h
 clear h
 induction k with
 | zero => exact q
 | succ k ih => exact VT.more ih
end
def HDct (H : Hp) (a : Addr) (kvs : List (Key × V)) : Prop := ∃ ob, FzD H a ob kvs
section
variable {K : PySem.W.Frag} {H H' : Hp} {d : Nat} {x : V} {T : Tv}
theorem HDct.hs (e : HS H H') {a : Addr} {kvs : List (Key × V)} (h : HDct H a kvs) : HDct H' a kvs := by
 obtain ⟨ob, h⟩ := h
 exact ⟨ob, e _ _ rfl h⟩
end
def lookD (kts : List (Str × Tv)) (k : Str) : Option Tv := (kts.find? fun kt => decide (kt.1 = k)).map (·.2)
section
variable {S : Bool -> Addr -> List V -> Prop} {D : Addr -> List (Key × V) -> Prop} {d : Nat}
theorem look_at {kvs : List (Key × V)} {kts : List (Str × Tv)} {R : V -> Tv -> Prop} (h : Paired (fun (kv : Key × V) (kt : Str × Tv) => kv.1 = .inr kt.1 /\ R kv.2 kt.2) kvs kts) (k : Str) :
  (lookD kts k = none /\ valV kvs (.inr k) = none) \/ ∃ U v, lookD kts k = some U /\ valV kvs (.inr k) = some v /\ R v U := by
 induction h with
 | nil => exact .inl ⟨rfl, rfl⟩
 | @cons kv kt l1 l2 h _ ih =>
  obtain ⟨e, r⟩ := h
  by_cases z : kt.1 = k
  ·refine .inr ⟨kt.2, kv.2, ?_, valV_pos (by rw [e, z]), r⟩
   unfold lookD
   rw [List.find?_cons, decide_eq_true z]
   rfl
  ·have e2 : lookD (kt :: l2) k = lookD l2 k := by
    unfold lookD
    rw [List.find?_cons, decide_eq_false z]
   have e3 : valV (kv :: l1) (.inr k) = valV l1 (.inr k) := valV_neg (by rw [e]; exact fun q => z (Sum.inr.inj q))
   rw [e2, e3]
   exact ih
end
theorem SqT.hs {K : PySem.W.Frag} {H H' : Hp} {a : Addr} {xs : List V} (e : HS H H') (h : SqT K H a xs) : SqT K H' a xs := by
 rcases h with (h | ⟨o, h⟩) | h
 ·exact .inl (.inl (e _ _ rfl h))
 ·exact .inl (.inr ⟨o, e _ _ rfl h⟩)
 ·exact .inr h
theorem paired_app {α β : Type} {F : α -> β -> Prop} {a c : List α} {b d : List β} (h1 : Paired F a b) (h2 : Paired F c d) : Paired F (a ++ c) (b ++ d) := by
 induction h1 with
 | nil => exact h2
 | cons r _ ih => exact .cons r ih
end L2
namespace L2
open PySem PySem.Spec PyProof.Rows
def ItE (K : PySem.W.Frag) (a : Addr) : It :=
  ⟨fun i H => ∃ xs x, SqL K H a xs /\ xs[i]? = some x,
   fun i H v H' => ∃ p x, v = .ref p /\ H p = none /\ H' = upd H p (.tup [.int (i : Int), x]) /\ ∀ xs, SqL K H a xs -> xs[i]? = some x,
   fun i H => ∃ xs, SqL K H a xs /\ xs.length <= i⟩
theorem turn_enum {P : Program} {w : World} {K : PySem.W.Frag} {es : List Expr} {ek : Nat} {pos : Pos} (a e it : Addr) (hei : e ≠ it) (hae : a ≠ e) (hai : a ≠ it) :
  Turn P w K (.Tuple es ek pos) (ItE K a) [e, it] e (fun i h => (∃ old, IsEnum h e it (i : Int) old) /\ h.IsListIter it a i) where
 mem := by simp
 obj := fun i h st b hb => by
  obtain ⟨⟨old, st⟩, j⟩ := st
  rcases List.mem_cons.mp hb with rfl | hb
  ·exact ⟨_, st, fun v z => by
    have z' : Data.fields _ = Data.cell v := z
    cases z'⟩
  ·have q : b = it := by simpa using hb
   subst q
   obtain ⟨o, e', c, d⟩ := j
   exact ⟨o, e', fun v z => by rw [d] at z; cases z⟩
 keep := fun i h h' ⟨⟨old, st⟩, j⟩ k => ⟨⟨old, k e (by simp) _ st⟩, j.at fun o e' => k it (by simp) o e'⟩
 item := by
  intro X hP hw hK hc i pins s σ H E I hf st hg
  subst hP hw hK
  obtain ⟨xs, x, hx, hi⟩ := hg
  obtain ⟨⟨old, st⟩, j⟩ := st
  obtain ⟨its, r, pl, hz⟩ := I.list hx
  obtain ⟨u, hu, ru⟩ := r.get hi
  refine wpAny_pyNext_enum_item st j pl.isList (x := u) (by simpa using hu) hei fun h' a1 a2 a3 a4 a5 => ⟨_, rfl, ?_⟩
  refine wpAny_letOwnedTupleGo_enum (s := { s with heap := h', toks := s.toks + 1 }) a1 fun h2 b1 b2 => ?_
  have hne : e ≠ s.heap.objs.size := Nat.ne_of_lt (Heap.lt_size st)
  have hni : it ≠ s.heap.objs.size := by obtain ⟨o, e', _⟩ := id j; exact Nat.ne_of_lt (Heap.lt_size e')
  have hn : ∀ c ∈ [e, it], c ≠ s.heap.objs.size := fun c hc' => by
   simp only [List.mem_cons, List.not_mem_nil, or_false] at hc'
   rcases hc' with q | q
   ·rw [q]; exact hne
   ·rw [q]; exact hni
  have I0 : Inv X pins σ (upd H s.heap.objs.size (.tup [.int (i : Int), x])) { s with heap := s.heap.push { cls := .type "tuple", data := .seq #[.int (i : Int) s.toks, u] } } :=
   I.laid (t' := s.toks) (fun c o e => Heap.get?_push_of_some _ e) (Nat.le_refl _) ⟨by show 2 <= sizeLine; decide, [.int (i : Int) s.toks, u], .cons ⟨_, rfl⟩ (.cons ru .nil), IsTup.new _ _⟩
  have hf0 : ∀ c ∈ [e, it], FpOk X pins (upd H s.heap.objs.size (.tup [.int (i : Int), x])) c := fun c hc' => ⟨by rw [upd_ne (hn c hc')]; exact (hf c hc').1, (hf c hc').2⟩
  have I1 : Inv X pins σ (upd H s.heap.objs.size (.tup [.int (i : Int), x])) { s with heap := h2, toks := s.toks + 1 } := Inv.turnedL (s := { s with heap := s.heap.push { cls := .type "tuple", data := .seq #[.int (i : Int) s.toks, u] } }) (t' := s.toks + 1) (ch := [e, it]) I0 hf0 fun c o hc' e' => by
   simp only [List.mem_cons, List.not_mem_nil, or_false, not_or] at hc'
   obtain ⟨c1, c2⟩ := hc'
   by_cases hcn : c = s.heap.objs.size
   ·subst hcn
    have e'' : (s.heap.push { cls := .type "tuple", data := .seq #[.int (i : Int) s.toks, u] }).get? s.heap.objs.size = some o := e'
    rw [Heap.get?_push_size _ rfl] at e''
    cases e''
    exact b2.extBut _ _ c1 a3
   ·refine b2.extBut _ _ c1 (a5 c o c1 c2 ?_)
    have e'' : (s.heap.push { cls := .type "tuple", data := .seq #[.int (i : Int) s.toks, u] }).get? c = some o := e'
    rw [Heap.get?_push_ne _ _ _ hcn] at e''
    exact e''
  refine ⟨.ref s.heap.objs.size, _, I1, rfl, ⟨_, x, rfl, I.hok.fresh (Nat.le_refl _), rfl, fun xs' h => by rw [I.list_inj h hx]; exact hi⟩, ⟨⟨u, by have := b1; push_cast; exact this⟩, a2.at fun o e' => b2.extBut _ _ (Ne.symm hei) e'⟩, fun c hc' => (hf0 c hc').1⟩
 done := by
  intro X hP hw hK hc i pins s σ H E I hf st hg
  subst hP hw hK
  obtain ⟨xs, hx, hi⟩ := hg
  obtain ⟨⟨old, st⟩, j⟩ := st
  obtain ⟨its, r, pl, hz⟩ := I.list hx
  have la := r.length
  refine wpAny_pyNext_enum_end (I.ok.hd hc) st j pl.isList (by simp; omega) fun h' eb => ⟨rfl, I.turnedL (t' := s.toks) hf fun c o hc' e' => ?_⟩
  simp only [List.mem_cons, List.not_mem_nil, or_false, not_or] at hc'
  exact eb c o hc'.2 e'
 self := fun _ _ _ _ _ ⟨⟨_, st⟩, _⟩ h => wpAny_pyIter_enum st h
theorem boot_enumerate : bootBuiltins "enumerate" = some (.type "enumerate") := by decide +kernel
section
variable {X : Cx}
def iEnum (K : PySem.W.Frag) (ta : TA) : TI := fun σ H R => ta σ H fun vs H1 => ∃ a : Addr, vs = [.ref a] /\ (∃ xs, SqL K H1 a xs) /\ R (ItE K a) H1
theorem pi_enum {a : Expr} {ta : TA} {es : List Expr} {ek : Nat} {p pos pos' : Pos} (hg : Gl X "enumerate") (hm : X.mg "enumerate" = none) (ha : PA X [a] ta) (hs : starEach [a] X.env = [(false, eval a X.env)] := by rfl) :
  PI X (.Tuple es ek pos') (.Call (.Name "enumerate" p) [a] [] pos) (iEnum X.K ta) := by
 intro pins s σ H R I h
 refine Call_ (ld_blt I hg hm boot_enumerate (PyProof.Rows.callWith_type1 (thn (ha pos pins s σ H _ I h) fun us s1 ⟨vs, H1, I1, r1, q1⟩ => ?_) (by rw [hs]; rfl) (by rfl)))
 obtain ⟨a, e, ⟨xs, hx⟩, q⟩ := q1
 subst e
 obtain ⟨u, rfl, rx⟩ := vals1 r1
 cases rx
 obtain ⟨its, r, pl, hz⟩ := I1.list hx
 have la : a < s1.heap.objs.size := by obtain ⟨o, e, _⟩ := pl.isList; exact Heap.lt_size e
 refine call_enumerate_list pl.isList fun h' e1 e2 _ k => ?_
 refine wpAny_pyIter_enum e1 ?_
 refine ⟨_, [s1.heap.objs.size + 1, s1.heap.objs.size], _, _, H1, rfl, I1.kept (t' := s1.toks) k, turn_enum a _ _ (by intro (e : (_ : Nat) = _); omega) (Nat.ne_of_lt (Nat.lt_succ_of_lt la)) (Nat.ne_of_lt la), ⟨⟨_, e1⟩, e2⟩, fun c hc => ?_, q⟩
 have : s1.heap.objs.size <= c := by
  simp only [List.mem_cons, List.not_mem_nil, or_false] at hc
  rcases hc with e | e <;> (rw [e]; first | exact Nat.le_refl _ | exact Nat.le_add_right _ _)
 exact I1.fpOk this (I1.hok.fresh this)
end
end L2
namespace L2
open PySem PySem.Spec PyProof.Rows WordM
def PSeq (K : PySem.W.Frag) (H : Hp) (t : Bool) (a : Addr) (xs : List V) : Prop := match t with
 | false => ∃ ob, H a = some (.frz ob (.lst xs))
 | true => SqT K H a xs
abbrev VP (K : PySem.W.Frag) (H : Hp) : Nat -> V -> Tv -> Prop := VT (PSeq K H) (HDct H)
def VA (K : PySem.W.Frag) (H : Hp) (x : V) (T : Tv) : Prop := ∃ d, VP K H d x T
abbrev VAs (K : PySem.W.Frag) (H : Hp) : List V -> List Tv -> Prop := Paired (VA K H)
def VAk (K : PySem.W.Frag) (H : Hp) : List (Key × V) -> List (Str × Tv) -> Prop := Paired fun (kv : Key × V) (kt : Str × Tv) => kv.1 = .inr kt.1 /\ VA K H kv.2 kt.2
section
variable {K : PySem.W.Frag} {H H' H1 H2 : Hp} {x y v : V} {T U : Tv} {a : Addr} {xs : List V} {Ts : List Tv} {t : Bool} {kvs : List (Key × V)} {kts : List (Str × Tv)}
theorem PSeq.hs (e : HS H H') (h : PSeq K H t a xs) : PSeq K H' t a xs := by
 cases t with
 | false => obtain ⟨ob, h⟩ := h; exact ⟨ob, e _ _ rfl h⟩
 | true => exact SqT.hs e h
theorem VA.hs (e : HS H H') (h : VA K H x T) : VA K H' x T := by
 obtain ⟨d, h⟩ := h
 exact ⟨d, h.mono (fun _ _ _ q => q.hs e) fun _ _ q => q.hs e⟩
theorem VAs.hs (e : HS H H') (h : VAs K H xs Ts) : VAs K H' xs Ts := Paired.mapP h fun _ _ q => q.hs e
theorem VAk.hs (e : HS H H') (h : VAk K H kvs kts) : VAk K H' kvs kts := Paired.mapP h fun _ _ q => ⟨q.1, q.2.hs e⟩
theorem VAs.deep (h : VAs K H xs Ts) : ∃ d, Paired (VP K H d) xs Ts := by
 induction h with
 | nil => exact ⟨0, .nil⟩
 | cons r _ ih =>
  obtain ⟨d, r⟩ := r
  obtain ⟨e, ih⟩ := ih
  exact ⟨max d e, .cons (r.le (Nat.le_max_left _ _)) (Paired.mapP ih fun _ _ q => VT.le (Nat.le_max_right _ _) q)⟩
theorem VAk.deep (h : VAk K H kvs kts) : ∃ d, Paired (fun (kv : Key × V) (kt : Str × Tv) => kv.1 = .inr kt.1 /\ VP K H d kv.2 kt.2) kvs kts := by
 unfold VAk at h
 induction h with
 | nil => exact ⟨0, .nil⟩
 | cons r _ ih =>
  obtain ⟨k, d, r⟩ := r
  obtain ⟨e, ih⟩ := ih
  exact ⟨max d e, .cons ⟨k, r.le (Nat.le_max_left _ _)⟩ (Paired.mapP ih fun _ _ q => ⟨q.1, VT.le (Nat.le_max_right _ _) q.2⟩)⟩
theorem VA.flat (h : flatV x = true) : VA K H x (.leaf x) := ⟨1, .inl ⟨h, rfl⟩⟩
theorem VA.seq (h : PSeq K H t a xs) (z : Ts.length <= 100000) (p : VAs K H xs Ts) : VA K H (.ref a) (.seq t Ts) := by
 obtain ⟨d, p⟩ := p.deep
 exact ⟨d + 1, .inr (.inl ⟨t, a, xs, Ts, rfl, h, rfl, z, p⟩)⟩
theorem VA.dct (h : HDct H a kvs) (n : (kts.map (·.1)).Nodup) (z : kts.length < 64) (p : VAk K H kvs kts) : VA K H (.ref a) (.dct kts) := by
 obtain ⟨d, p⟩ := p.deep
 exact ⟨d + 1, .inr (.inr ⟨a, kvs, kts, rfl, h, rfl, n, z, p⟩)⟩
theorem VA.leafI (h : VA K H x (.leaf v)) : x = v /\ flatV v = true := by
 obtain ⟨d, h⟩ := h
 cases d with
 | zero => exact False.elim h
 | succ d =>
  rcases h with ⟨f, e⟩ | ⟨_, _, _, _, _, _, e, _⟩ | ⟨_, _, _, _, _, e, _⟩
  ·cases e; exact ⟨rfl, f⟩
  ·cases e
  ·cases e
theorem VA.seqI (h : VA K H x (.seq t Ts)) : ∃ a xs, x = .ref a /\ PSeq K H t a xs /\ Ts.length <= 100000 /\ VAs K H xs Ts := by
 obtain ⟨d, h⟩ := h
 cases d with
 | zero => exact False.elim h
 | succ d =>
  rcases h with ⟨_, e⟩ | ⟨t', a, xs, Ts', e1, hs, e, z, p⟩ | ⟨_, _, _, _, _, e, _⟩
  ·cases e
  ·cases e; exact ⟨a, xs, e1, hs, z, Paired.mapP p fun _ _ q => ⟨d, q⟩⟩
  ·cases e
theorem VA.dctI (h : VA K H x (.dct kts)) : ∃ a kvs, x = .ref a /\ HDct H a kvs /\ (kts.map (·.1)).Nodup /\ kts.length < 64 /\ VAk K H kvs kts := by
 obtain ⟨d, h⟩ := h
 cases d with
 | zero => exact False.elim h
 | succ d =>
  rcases h with ⟨_, e⟩ | ⟨_, _, _, _, _, _, e, _⟩ | ⟨a, kvs, kts', e1, hd, e, n, z, p⟩
  ·cases e
  ·cases e
  ·cases e; exact ⟨a, kvs, e1, hd, n, z, Paired.mapP p fun _ _ q => ⟨q.1, d, q.2⟩⟩
end
inductive Sl where
 | no
 | va (T : Tv)
 | own (xs : List Tv)
 | dct (kts : List (Str × Tv))
 | dk
 | rd (t : Str) (p : Int)
 | fn (a : Addr)
abbrev PEnv := List Sl
def mutb : Sl -> Bool
 | .own _ => true
 | .dct _ => true
 | .rd _ _ => true
 | _ => false
def isRd : Sl -> Bool
 | .rd _ _ => true
 | _ => false
structure Fm where
 H0 : Hp
 dk : Option (Addr × Addr)
 rd : Option (Addr × Addr) := none
def RdAt (H : Hp) (a C : Addr) (t : Str) (p : Int) : Prop := ∃ dx, H a = some (.ins C dx [("text", .str t), ("place", .int p)])
structure Kp (dk rd : Option (Addr × Addr)) (H H' : Hp) : Prop where
 st : ∀ b o, H b = some o -> (∀ p c, dk = some (p, c) -> b ≠ p /\ b ≠ c) -> (∀ a C, rd = some (a, C) -> b ≠ a) -> H' b = some o
 dkk : ∀ p c, dk = some (p, c) -> DeckAt H' p c
 rdk : ∀ a C, rd = some (a, C) -> ∃ t p, RdAt H' a C t p
theorem Kp.tr {dk rd : Option (Addr × Addr)} {H H' : Hp} (k : Kp dk rd H H') (b : Addr) (o : HO) (e : H b = some o) : ∃ o', H' b = some o' := by
 by_cases z1 : ∃ a C, rd = some (a, C) /\ b = a
 ·obtain ⟨a, C, d, rfl⟩ := z1
  obtain ⟨t, p, dx, e1⟩ := k.rdk b C d
  exact ⟨_, e1⟩
 have n1 : ∀ a C, rd = some (a, C) -> b ≠ a := fun a C d z => z1 ⟨a, C, d, z⟩
 cases d : dk with
 | none => exact ⟨o, k.st b o e (fun p c z => by rw [d] at z; cases z) n1⟩
 | some pc =>
  obtain ⟨p, c⟩ := pc
  obtain ⟨_, ⟨S, i, e1⟩, ns, e2, _⟩ := k.dkk p c d
  by_cases h1 : b = p
  ·subst h1; exact ⟨_, e1⟩
  ·by_cases h2 : b = c
   ·subst h2; exact ⟨_, e2⟩
   ·exact ⟨o, k.st b o e (fun p' c' z => by rw [d] at z; cases z; exact ⟨h1, h2⟩) n1⟩
def SlAt (K : PySem.W.Frag) (F : Fm) (H : Hp) (ox : Option V) : Sl -> Prop
 | .no => True
 | .va T => ∃ x, ox = some x /\ VA K H x T
 | .own Ts => ∃ a xs, ox = some (.ref a) /\ H a = some (.lst xs) /\ F.H0 a = none /\ Ts.length <= 100000 /\ VAs K H xs Ts
 | .dct kts => ∃ a kvs, ox = some (.ref a) /\ H a = some (.dK kvs) /\ F.H0 a = none /\ (kts.map (·.1)).Nodup /\ kts.length < 64 /\ VAk K H kvs kts
 | .dk => ∃ p c, F.dk = some (p, c) /\ ox = some (.ref p)
 | .rd t p => ∃ a C, F.rd = some (a, C) /\ ox = some (.ref a) /\ RdAt H a C t p
 | .fn a => ox = some (.ref a)
def ixv (σ : St) (i : Nat) : Option V := (σ[i]?).join
structure FrOk (K : PySem.W.Frag) (F : Fm) (ρ : PEnv) (σ : St) (H : Hp) : Prop where
 d0 : ∀ p c, F.dk = some (p, c) -> DeckAt F.H0 p c
 r0 : ∀ a C, F.rd = some (a, C) -> ∃ t p, RdAt F.H0 a C t p
 kp : Kp F.dk F.rd F.H0 H
 len : ρ.length = σ.length
 at_ : ∀ (i : Nat) (s : Sl), ρ[i]? = some s -> SlAt K F H (ixv σ i) s
 ap : ∀ (i j : Nat) (a : Addr) (s t : Sl), ρ[i]? = some s -> ρ[j]? = some t -> mutb s = true -> mutb t = true -> ixv σ i = some (.ref a) -> ixv σ j = some (.ref a) -> i = j
def Stay (F : Fm) (ρ : PEnv) (σ : St) (H H' : Hp) : Prop := ∀ b o, H b = some o -> (∀ p c, F.dk = some (p, c) -> b ≠ p /\ b ≠ c) -> (∀ (i : Nat) (s : Sl), ρ[i]? = some s -> mutb s = true -> ixv σ i ≠ some (.ref b)) -> H' b = some o
def Sbv (ρ' ρ : PEnv) : Prop := ∀ (i : Nat) (s' : Sl), ρ'[i]? = some s' -> mutb s' = true -> ∃ s, ρ[i]? = some s /\ mutb s = true
structure Stp (K : PySem.W.Frag) (F : Fm) (σ : St) (ρ : PEnv) (H : Hp) (ρ' : PEnv) (H' : Hp) : Prop where
 fr : FrOk K F ρ' σ H'
 st : Stay F ρ σ H H'
 sub : Sbv ρ' ρ
 tr : ∀ b o, H b = some o -> ∃ o', H' b = some o'
section
variable {K : PySem.W.Frag} {F : Fm} {ρ ρ1 ρ2 : PEnv} {σ : St} {H H' H1 H2 : Hp} {x y v : V} {T U : Tv} {a b : Addr} {o : HO}
theorem Sbv.refl (ρ : PEnv) : Sbv ρ ρ := fun i s e m => ⟨s, e, m⟩
theorem Sbv.trans (h1 : Sbv ρ1 ρ) (h2 : Sbv ρ2 ρ1) : Sbv ρ2 ρ := fun i s e m => by
 obtain ⟨s1, e1, m1⟩ := h2 i s e m
 exact h1 i s1 e1 m1
theorem FrOk.own_at (fr : FrOk K F ρ σ H) {i : Nat} {s : Sl} (e : ρ[i]? = some s) (m : mutb s = true) (q : ixv σ i = some (.ref a)) (nr : isRd s = false) : (∃ o, H a = some o /\ fzb o = true) /\ F.H0 a = none := by
 have h := fr.at_ i s e
 cases s with
 | own Ts => obtain ⟨a', xs, e1, e2, e3, _⟩ := h; rw [q] at e1; cases e1; exact ⟨⟨_, e2, rfl⟩, e3⟩
 | dct kts => obtain ⟨a', xs, e1, e2, e3, _⟩ := h; rw [q] at e1; cases e1; exact ⟨⟨_, e2, rfl⟩, e3⟩
 | no => cases m
 | va _ => cases m
 | dk => cases m
 | rd _ _ => cases nr
 | fn _ => cases m
theorem FrOk.mut_at (fr : FrOk K F ρ σ H) {i : Nat} {s : Sl} (e : ρ[i]? = some s) (m : mutb s = true) (q : ixv σ i = some (.ref a)) : ∃ o, H a = some o /\ (fzb o = true \/ ∃ C dx fs, o = .ins C dx fs) := by
 cases r : isRd s with
 | false => obtain ⟨⟨o, e1, n⟩, _⟩ := fr.own_at e m q r; exact ⟨o, e1, .inl n⟩
 | true =>
  have h := fr.at_ i s e
  cases s with
  | rd t p => obtain ⟨b, C, e1, e2, dx, e3⟩ := h; rw [q] at e2; cases e2; exact ⟨_, e3, .inr ⟨_, _, _, rfl⟩⟩
  | _ => cases r
theorem FrOk.nr_of (fr : FrOk K F ρ σ H) {i : Nat} {s : Sl} (e : ρ[i]? = some s) (q : ixv σ i = some (.ref a)) (h : H a = some o) (n : fzb o = true) : isRd s = false := by
 have x := fr.at_ i s e
 cases s with
 | rd t p =>
  obtain ⟨b, C, e1, e2, dx, e3⟩ := x
  rw [q] at e2
  cases e2
  rw [e3] at h
  cases h
  cases n
 | _ => rfl
theorem FrOk.fresh_nord (fr : FrOk K F ρ σ H) (h : F.H0 a = none) : ∀ b C, F.rd = some (b, C) -> a ≠ b := fun b C e z => by
 obtain ⟨t, p, dx, e1⟩ := fr.r0 b C e
 rw [z, e1] at h; cases h
theorem FrOk.none_nord (fr : FrOk K F ρ σ H) (h : H a = none) : ∀ b C, F.rd = some (b, C) -> a ≠ b := fun b C e z => by
 obtain ⟨t, p, dx, e1⟩ := fr.kp.rdk b C e
 rw [z, e1] at h; cases h
theorem FrOk.fresh_nodk (fr : FrOk K F ρ σ H) (h : F.H0 a = none) : ∀ p c, F.dk = some (p, c) -> a ≠ p /\ a ≠ c := fun p c e => by
 obtain ⟨_, ⟨S, k, e1⟩, ns, e2, _⟩ := fr.d0 p c e
 exact ⟨fun z => (by rw [z, e1] at h; cases h), fun z => (by rw [z, e2] at h; cases h)⟩
theorem FrOk.none_nodk (fr : FrOk K F ρ σ H) (h : H a = none) : ∀ p c, F.dk = some (p, c) -> a ≠ p /\ a ≠ c := fun p c e => by
 obtain ⟨_, ⟨S, k, e1⟩, ns, e2, _⟩ := fr.kp.dkk p c e
 exact ⟨fun z => (by rw [z, e1] at h; cases h), fun z => (by rw [z, e2] at h; cases h)⟩
theorem FrOk.ins_nodk (fr : FrOk K F ρ σ H) {C dx : Addr} {fs : List (Str × V)} (h : H a = some (.ins C dx fs)) : ∀ p c, F.dk = some (p, c) -> a ≠ p /\ a ≠ c := fun p c e => by
 obtain ⟨_, ⟨S, k, e1⟩, ns, e2, _⟩ := fr.kp.dkk p c e
 exact ⟨fun z => (by rw [z, e1] at h; cases h), fun z => (by rw [z, e2] at h; cases h)⟩
theorem FrOk.mut_nodk (fr : FrOk K F ρ σ H) {i : Nat} {s : Sl} (e : ρ[i]? = some s) (m : mutb s = true) (q : ixv σ i = some (.ref a)) : ∀ p c, F.dk = some (p, c) -> a ≠ p /\ a ≠ c := by
 cases r : isRd s with
 | false => exact fr.fresh_nodk (fr.own_at e m q r).2
 | true =>
  have h := fr.at_ i s e
  cases s with
  | rd t p => obtain ⟨b, C, e1, e2, dx, e3⟩ := h; rw [q] at e2; cases e2; exact fr.ins_nodk e3
  | _ => cases r
theorem FrOk.none0 (fr : FrOk K F ρ σ H) (h : H a = none) : F.H0 a = none := by
 cases q : F.H0 a with
 | none => rfl
 | some o => rw [fr.kp.st a o q (fr.none_nodk h) (fr.none_nord h)] at h; cases h
theorem Stay.hs (fr : FrOk K F ρ σ H) (s : Stay F ρ σ H H') : HS H H' := fun b o h e => s b o e
 (fun p c d => by
  obtain ⟨_, ⟨S, k, e1⟩, ns, e2, _⟩ := fr.kp.dkk p c d
  exact ⟨fun z => (by subst z; rw [e1] at e; cases e; cases h), fun z => (by subst z; rw [e2] at e; cases e; cases h)⟩)
 fun i s e1 m q => by
  obtain ⟨o', e2, n⟩ := fr.mut_at e1 m q
  rw [e] at e2; cases e2
  rcases n with n | ⟨C, dx, fs, rfl⟩
  ·cases o <;> first | exact absurd h Bool.false_ne_true | exact absurd n Bool.false_ne_true
  ·exact absurd h Bool.false_ne_true
theorem Stay.trans (s1 : Stay F ρ σ H H1) (sb : Sbv ρ1 ρ) (s2 : Stay F ρ1 σ H1 H2) : Stay F ρ σ H H2 := fun b o e d n =>
 s2 b o (s1 b o e d n) d fun i s e1 m => by
  obtain ⟨s', e2, m'⟩ := sb i s e1 m
  exact n i s' e2 m'
theorem Stp.trans (a : Stp K F σ ρ H ρ1 H1) (b : Stp K F σ ρ1 H1 ρ2 H2) : Stp K F σ ρ H ρ2 H2 := ⟨b.fr, a.st.trans a.sub b.st, a.sub.trans b.sub, fun c o e => let ⟨o1, e1⟩ := a.tr c o e; b.tr c o1 e1⟩
theorem Stp.refl (fr : FrOk K F ρ σ H) : Stp K F σ ρ H ρ H := ⟨fr, fun _ _ e _ _ => e, Sbv.refl _, fun _ o e => ⟨o, e⟩⟩
theorem Stp.hs (a : Stp K F σ ρ H ρ1 H1) (fr : FrOk K F ρ σ H) : HS H H1 := a.st.hs fr
theorem FrOk.call (fr : FrOk K F ρ σ H) (k : Kp F.dk none H H') : FrOk K F ρ σ H' := by
 have nn : ∀ {b : Addr} (a C : Addr), (none : Option (Addr × Addr)) = some (a, C) -> b ≠ a := fun a C z => nomatch z
 have own : ∀ i s a o, ρ[i]? = some s -> mutb s = true -> ixv σ i = some (.ref a) -> H a = some o -> H' a = some o := fun i s a o e m q h =>
  k.st a o h (fr.mut_nodk e m q) nn
 have hs : HS H H' := fun b o h e => k.st b o e (fun p c d => by
  obtain ⟨_, ⟨S, k, e1⟩, ns, e2, _⟩ := fr.kp.dkk p c d
  exact ⟨fun z => (by subst z; rw [e1] at e; cases e; cases h), fun z => (by subst z; rw [e2] at e; cases e; cases h)⟩) nn
 refine ⟨fr.d0, fr.r0, ⟨fun b o e n m => k.st b o (fr.kp.st b o e n m) n nn, k.dkk, fun a C d => ?_⟩, fr.len, fun i s e => ?_, fr.ap⟩
 ·obtain ⟨t, p, dx, q⟩ := fr.kp.rdk a C d
  exact ⟨t, p, dx, k.st a _ q (fr.ins_nodk q) nn⟩
 have h := fr.at_ i s e
 cases s with
 | no => trivial
 | va T => obtain ⟨x, e1, v⟩ := h; exact ⟨x, e1, v.hs hs⟩
 | own Ts => obtain ⟨a, xs, e1, e2, e3, z, p⟩ := h; exact ⟨a, xs, e1, own i _ a _ e rfl e1 e2, e3, z, p.hs hs⟩
 | dct kts => obtain ⟨a, kvs, e1, e2, e3, n, z, p⟩ := h; exact ⟨a, kvs, e1, own i _ a _ e rfl e1 e2, e3, n, z, p.hs hs⟩
 | dk => exact h
 | fn _ => exact h
 | rd t p => obtain ⟨a, C, e1, e2, dx, e3⟩ := h; exact ⟨a, C, e1, e2, dx, own i _ a _ e rfl e2 e3⟩
theorem Kp.of_same (fr : FrOk K F ρ σ H) (s : Same H H') : Kp F.dk none H H' := ⟨fun b o e _ _ => s b o e, fun p c d => by
 obtain ⟨ne, ⟨S, k, e1⟩, ns, e2, l⟩ := fr.kp.dkk p c d
 exact ⟨ne, ⟨S, k, s _ _ e1⟩, ns, s _ _ e2, l⟩, fun _ _ z => nomatch z⟩
theorem Stp.call (fr : FrOk K F ρ σ H) (k : Kp F.dk none H H') : Stp K F σ ρ H ρ H' := ⟨fr.call k, fun b o e d _ => k.st b o e d (fun _ _ z => nomatch z), Sbv.refl _, fun b o e => k.tr b o e⟩
theorem Stp.same (fr : FrOk K F ρ σ H) (s : Same H H') : Stp K F σ ρ H ρ H' := Stp.call fr (Kp.of_same fr s)
end
theorem Stp.non {K : PySem.W.Frag} {F : Fm} {ρ ρ1 : PEnv} {σ : St} {H H1 : Hp} {a : Addr} (s : Stp K F σ ρ H ρ1 H1) (n : H1 a = none) : H a = none := by
 cases e : H a with
 | none => rfl
 | some o =>
  obtain ⟨o', e'⟩ := s.tr a o e
  rw [n] at e'; cases e'
abbrev UT := PEnv -> (Tv -> PEnv -> Prop) -> Prop
abbrev UTt := PEnv -> (Bool -> PEnv -> Prop) -> Prop
abbrev UTl := PEnv -> (List Tv -> PEnv -> Prop) -> Prop
inductive Ar where
 | va (T : Tv)
 | dk
 | fn (a : Addr)
abbrev UTa := PEnv -> (List Ar -> PEnv -> Prop) -> Prop
def ArAt (K : PySem.W.Frag) (dk : Option (Addr × Addr)) (H : Hp) (x : V) : Ar -> Prop
 | .va T => VA K H x T
 | .dk => ∃ p c, dk = some (p, c) /\ x = .ref p
 | .fn a => x = .ref a
def liftE (K : PySem.W.Frag) (F : Fm) (u : UT) : TE := fun σ H QQ => ∃ ρ Q, FrOk K F ρ σ H /\ u ρ Q /\ ∀ x T H' ρ', Stp K F σ ρ H ρ' H' -> VA K H' x T -> Q T ρ' -> QQ x H'
def liftT (K : PySem.W.Frag) (F : Fm) (u : UTt) : TT := fun σ H QQ => ∃ ρ Q, FrOk K F ρ σ H /\ u ρ Q /\ ∀ b H' ρ', Stp K F σ ρ H ρ' H' -> Q b ρ' -> QQ b H'
def liftL (K : PySem.W.Frag) (F : Fm) (u : UTl) : TE := fun σ H QQ => ∃ ρ Q, FrOk K F ρ σ H /\ u ρ Q /\ ∀ a xs Ts H' ρ', Stp K F σ ρ H ρ' H' -> H a = none -> H' a = some (.lst xs) -> Ts.length <= 100000 -> VAs K H' xs Ts -> Q Ts ρ' -> QQ (.ref a) H'
def liftA (K : PySem.W.Frag) (F : Fm) (u : UTa) : TA := fun σ H QQ => ∃ ρ Q, FrOk K F ρ σ H /\ u ρ Q /\ ∀ xs as H' ρ', Stp K F σ ρ H ρ' H' -> Paired (ArAt K F.dk H') xs as -> Q as ρ' -> QQ xs H'
structure UE (X : Cx) (F : Fm) (e : Expr) (u : UT) : Prop where
 pe : PE X e (liftE X.K F u)
structure UB (X : Cx) (F : Fm) (e : Expr) (u : UTt) : Prop where
 pt : PT X e (liftT X.K F u)
structure UW (X : Cx) (F : Fm) (e : Expr) (u : UTt) : Prop where
 pw : PW X e (liftT X.K F u)
structure UL (X : Cx) (F : Fm) (e : Expr) (u : UTl) : Prop where
 pe : PE X e (liftL X.K F u)
structure UA (X : Cx) (F : Fm) (es : List Expr) (u : UTa) : Prop where
 pa : PA X es (liftA X.K F u)
theorem PE.imp {X : Cx} {e : Expr} {t t' : TE} (h : PE X e t) (i : ∀ σ H Q, t' σ H Q -> t σ H Q) : PE X e t' := fun pins s σ H Q I q => h pins s σ H Q I (i σ H Q q)
theorem PT.imp {X : Cx} {e : Expr} {t t' : TT} (h : PT X e t) (i : ∀ σ H Q, t' σ H Q -> t σ H Q) : PT X e t' := fun pins s σ H Q I q => h pins s σ H Q I (i σ H Q q)
theorem PW.imp {X : Cx} {e : Expr} {t t' : TT} (h : PW X e t) (i : ∀ σ H Q, t' σ H Q -> t σ H Q) : PW X e t' := fun wh pins s σ H Q I q => h wh pins s σ H Q I (i σ H Q q)
theorem PA.imp {X : Cx} {es : List Expr} {t t' : TA} (h : PA X es t) (i : ∀ σ H Q, t' σ H Q -> t σ H Q) : PA X es t' := fun pos pins s σ H Q I q => h pos pins s σ H Q I (i σ H Q q)
theorem Inv.fz {X : Cx} {pins : List (Addr × Obj)} {σ : St} {H : Hp} {s : Shared} {a : Addr} {o : HO} (I : Inv X pins σ H s) (h : H a = some o) (n : fzb o = true) : ∃ ob, Inv X pins σ (upd H a (.frz ob o)) s := by
 obtain ⟨ob, eo⟩ := (I.hok a o h).there
 refine ⟨ob, ?_⟩
 have keep : ∀ b u, H b = some u -> fzb u = false -> upd H a (.frz ob o) b = some u := fun b u e m => by
  rw [upd_ne (fun z => by subst z; rw [h] at e; cases e; rw [n] at m; cases m)]; exact e
 have non : ∀ b, H b = none -> upd H a (.frz ob o) b = none := fun b e => by
  rw [upd_ne (fun z => by subst z; rw [h] at e; cases e)]; exact e
 refine ⟨I.ok, I.os, I.bare, ⟨I.base.keep, I.base.slot, fun b o e n hx => non b (I.base.free b o e n hx), I.base.there, fun b xs e => keep b _ (I.base.tups b xs e) rfl, fun b o u e => keep b _ (I.base.frzs b o u e) rfl, fun b ps e => ?_⟩, I.loc, I.cell, non _ I.free, fun x c e => non c (I.freeC x c e), fun p hp => ?_, fun b u e => ?_, I.len⟩
 ·obtain ⟨more, z⟩ := I.base.tbls b ps e
  exact ⟨more, keep b _ z rfl⟩
 ·obtain ⟨p1, p2, p3⟩ := I.pin p hp
  exact ⟨p1, non _ p2, p3⟩
 ·have st : ∀ b u, ObjOk X.prog X.w H s.heap b u -> ObjOk X.prog X.w (upd H a (.frz ob o)) s.heap b u := fun b u x => x.stay (fun _ _ _ r => r) (fun d r => keep d _ r rfl) fun d xs r => keep d _ r rfl
  by_cases z : b = a
  ·subst z
   rw [upd_same] at e
   cases e
   exact ⟨eo, st _ _ (I.hok b o h)⟩
  ·rw [upd_ne z] at e
   exact st _ _ (I.hok b u e)
def FzQ (Q : VK) : VK := fun z H => Q z H \/ ∃ a o, z = .ref a /\ H a = some o /\ fzb o = true /\ ∀ ob, Q z (upd H a (.frz ob o))
def tFz (t : TE) : TE := fun σ H Q => t σ H (FzQ Q)
theorem EP.fz {X : Cx} {pins : List (Addr × Obj)} {σ : St} {Q : VK} {u : Value} {s : Shared} (h : EP X pins σ (FzQ Q) u s) : EP X pins σ Q u s := by
 obtain ⟨x, H', I, r, q⟩ := h
 rcases q with q | ⟨a, o, rfl, e, n, q⟩
 ·exact ⟨x, H', I, r, q⟩
 ·obtain ⟨ob, I'⟩ := I.fz e n
  exact ⟨_, _, I', r, q ob⟩
theorem PE.fz {X : Cx} {e : Expr} {t : TE} (h : PE X e t) : PE X e (tFz t) := fun pins s σ H Q I q => thn (h pins s σ H _ I q) fun _ _ z => z.fz
def Raw (K : PySem.W.Frag) (H H' : Hp) (z : V) (W : Tv) : Prop := Same H H' /\ (VA K H' z W \/ ∃ a, z = .ref a /\ H a = none /\
 ((∃ xs Ts, H' a = some (.lst xs) /\ W = .seq false Ts /\ Ts.length <= 100000 /\ VAs K H' xs Ts) \/ ∃ kvs kts, H' a = some (.dK kvs) /\ W = .dct kts /\ (kts.map (·.1)).Nodup /\ kts.length < 64 /\ VAk K H' kvs kts))
section
variable {K : PySem.W.Frag} {F : Fm} {ρ ρ1 ρ2 : PEnv} {σ : St} {H H' H1 H2 : Hp} {x y v z : V} {T U W : Tv} {a b : Addr} {o : HO}
theorem Raw.va (v : VA K H z W) : Raw K H H z W := ⟨Same.refl _, .inl v⟩
theorem Raw.flat (h : flatV z = true) : Raw K H H z (.leaf z) := .va (.flat h)
theorem Raw.lst {xs : List V} {Ts : List Tv} (n : H a = none) (z : Ts.length <= 100000) (p : VAs K H xs Ts) : Raw K H (upd H a (.lst xs)) (.ref a) (.seq false Ts) :=
 ⟨same_new n, .inr ⟨a, rfl, n, .inl ⟨xs, Ts, upd_same, rfl, z, p.hs (hs_new n)⟩⟩⟩
theorem Raw.tup {xs : List V} {Ts : List Tv} (n : H a = none) (z : Ts.length <= 100000) (p : VAs K H xs Ts) : Raw K H (upd H a (.tup xs)) (.ref a) (.seq true Ts) :=
 ⟨same_new n, .inl (VA.seq (t := true) (SqT.of upd_same) z (p.hs (hs_new n)))⟩
theorem Stp.frz (fr : FrOk K F ρ σ H) (s : Same H H') (n : H a = none) (e : H' a = some o) (m : fzb o = true) (ob : Obj) : Stp K F σ ρ H ρ (upd H' a (.frz ob o)) :=
 Stp.same fr fun b u q => by rw [upd_ne (ne_of_none q n)]; exact s b u q
theorem Raw.fin (fr : FrOk K F ρ σ H) (r : Raw K H H' z W) {QQ : VK} (k : ∀ H'', Stp K F σ ρ H ρ H'' -> VA K H'' z W -> QQ z H'') : FzQ QQ z H' := by
 obtain ⟨s, v | ⟨a, rfl, n, ⟨xs, Ts, e, rfl, l, p⟩ | ⟨kvs, kts, e, rfl, nd, l, p⟩⟩⟩ := r
 ·exact .inl (k H' (Stp.same fr s) v)
 ·refine .inr ⟨a, _, rfl, e, rfl, fun ob => k _ (Stp.frz fr s n e rfl ob) (VA.seq (t := false) ⟨ob, upd_same⟩ l (p.hs (hs_put e rfl)))⟩
 ·refine .inr ⟨a, _, rfl, e, rfl, fun ob => k _ (Stp.frz fr s n e rfl ob) (VA.dct ⟨ob, upd_same⟩ nd l (p.hs (hs_put e rfl)))⟩
end
end L2
namespace L2
open PySem PySem.Spec PyProof.Rows WordM
abbrev iT (i : Int) : Tv := .leaf (.int i)
abbrev sT (x : Str) : Tv := .leaf (.str x)
abbrev bT (b : Bool) : Tv := .leaf (.bl b)
abbrev nT : Tv := .leaf .non
abbrev P2 := Tv -> Tv -> (Tv -> Prop) -> Prop
abbrev Pn := List Tv -> (Tv -> Prop) -> Prop
section
variable {X : Cx} {F : Fm}
def uVar (i : Nat) : UT := fun ρ Q => match ρ[i]? with
 | some (.va T) => Q T ρ
 | some (.own Ts) => Q (.seq false Ts) (ρ.set i (.va (.seq false Ts)))
 | some (.dct kts) => Q (.dct kts) (ρ.set i (.va (.dct kts)))
 | _ => False
theorem ixv_some {σ : St} {i : Nat} {x : V} (h : ixv σ i = some x) : σ[i]? = some (some x) := by
 unfold ixv at h
 cases q : σ[i]? with
 | none => rw [q] at h; cases h
 | some o => rw [q] at h; cases o with
  | none => cases h
  | some y => cases h; rfl
theorem ixv_of {σ : St} {i : Nat} {x : V} (h : σ[i]? = some (some x)) : ixv σ i = some x := by
 unfold ixv; rw [h]; rfl
theorem FrOk.fzs {K : PySem.W.Frag} {ρ : PEnv} {σ : St} {H : Hp} {i : Nat} {s : Sl} {a : Addr} {o : HO} {T : Tv} (fr : FrOk K F ρ σ H) (e : ρ[i]? = some s) (m : mutb s = true) (q : ixv σ i = some (.ref a)) (h : H a = some o) (n : fzb o = true) (ob : Obj)
  (v : VA K (upd H a (.frz ob o)) (.ref a) T) : Stp K F σ ρ H (ρ.set i (.va T)) (upd H a (.frz ob o)) := by
 have hi : i < ρ.length := (List.getElem?_eq_some_iff.mp e).1
 have nr := fr.nr_of e q h n
 have h0 := (fr.own_at e m q nr).2
 have hd := fr.fresh_nodk h0
 have hs : HS H (upd H a (.frz ob o)) := hs_put h (by cases o <;> first | rfl | exact absurd n Bool.false_ne_true)
 have st : ∀ b u, b ≠ a -> H b = some u -> upd H a (.frz ob o) b = some u := fun b u z e => by rw [upd_ne z]; exact e
 have hr := fr.fresh_nord h0
 refine ⟨⟨fr.d0, fr.r0, ⟨fun b u e1 n1 n2 => st b u (fun z => by rw [z, h0] at e1; cases e1) (fr.kp.st b u e1 n1 n2), fun p c d => ?_, fun a' C d => ?_⟩, by rw [List.length_set]; exact fr.len, fun j s' e' => ?_, fun j k b s' t' e1 e2 m1 m2 q1 q2 => ?_⟩, fun b u e1 _ n1 => st b u (fun z => n1 i s e m (by rw [z]; exact q)) e1, fun j s' e' m' => ?_, fun b u e1 => if z : b = a then ⟨.frz ob o, z ▸ upd_same⟩ else ⟨u, st b u z e1⟩⟩
 ·obtain ⟨ne, ⟨S, k, e1⟩, ns, e2, l⟩ := fr.kp.dkk p c d
  exact ⟨ne, ⟨S, k, st _ _ (hd p c d).1.symm e1⟩, ns, st _ _ (hd p c d).2.symm e2, l⟩
 ·obtain ⟨t, p, dx, e1⟩ := fr.kp.rdk a' C d
  exact ⟨t, p, dx, st _ _ (hr a' C d).symm e1⟩
 ·by_cases z : i = j
  ·subst z
   rw [List.getElem?_set_self hi] at e'
   cases e'
   exact ⟨_, q, v⟩
  ·rw [List.getElem?_set_ne z] at e'
   have x := fr.at_ j s' e'
   cases s' with
   | no => trivial
   | va T => obtain ⟨y, e1, v⟩ := x; exact ⟨y, e1, v.hs hs⟩
   | own Ts => obtain ⟨b, xs, e1, e2, e3, z', p⟩ := x; exact ⟨b, xs, e1, st _ _ (fun y => z (fr.ap i j a s _ e e' m rfl q (by rw [e1, y]))) e2, e3, z', p.hs hs⟩
   | dct kts => obtain ⟨b, kvs, e1, e2, e3, n', z', p⟩ := x; exact ⟨b, kvs, e1, st _ _ (fun y => z (fr.ap i j a s _ e e' m rfl q (by rw [e1, y]))) e2, e3, n', z', p.hs hs⟩
   | dk => exact x
   | fn _ => exact x
   | rd t p => obtain ⟨b, C, e1, e2, dx, e3⟩ := x; exact ⟨b, C, e1, e2, dx, st _ _ (hr b C e1).symm e3⟩
 ·by_cases z1 : i = j
  ·subst z1; rw [List.getElem?_set_self hi] at e1; cases e1; cases m1
  ·by_cases z2 : i = k
   ·subst z2; rw [List.getElem?_set_self hi] at e2; cases e2; cases m2
   ·rw [List.getElem?_set_ne z1] at e1
    rw [List.getElem?_set_ne z2] at e2
    exact fr.ap j k b s' t' e1 e2 m1 m2 q1 q2
 ·by_cases z : i = j
  ·subst z; rw [List.getElem?_set_self hi] at e'; cases e'; cases m'
  ·rw [List.getElem?_set_ne z] at e'; exact ⟨s', e', m'⟩
theorem ue_var (i : Nat) {x : Str} {pos : Pos} (hN : X.N[i]? = some x := by rfl) (hv : Vis X.env.scope x := by first | exact Or.inl rfl | exact Or.inr (Or.inl rfl) | exact Or.inr (Or.inr rfl)) (hd : (x == ("__debug__" : Str)) = false := by decide) (hcd : (x == ("__classdict__" : Str)) = false := by decide) :
  UE X F (.Name x pos) (uVar i) := by
 refine ⟨PE.imp (PE.fz (pe_var hN hv hd hcd)) ?_⟩
 rintro σ H QQ ⟨ρ, Q, fr, h, k⟩
 unfold uVar at h
 split at h
 ·rename_i T e
  obtain ⟨y, e1, v⟩ := fr.at_ i _ e
  exact ⟨y, ixv_some e1, .inl (k y T H ρ (Stp.refl fr) v h)⟩
 ·rename_i Ts e
  obtain ⟨a, xs, e1, e2, e3, z, p⟩ := fr.at_ i _ e
  refine ⟨_, ixv_some e1, .inr ⟨a, _, rfl, e2, rfl, fun ob => ?_⟩⟩
  have v : VA X.K (upd H a (.frz ob (.lst xs))) (.ref a) (.seq false Ts) := VA.seq (t := false) ⟨ob, upd_same⟩ z (p.hs (hs_put e2 rfl))
  exact k _ _ _ _ (fr.fzs e rfl e1 e2 rfl ob v) v h
 ·rename_i kts e
  obtain ⟨a, kvs, e1, e2, e3, n, z, p⟩ := fr.at_ i _ e
  refine ⟨_, ixv_some e1, .inr ⟨a, _, rfl, e2, rfl, fun ob => ?_⟩⟩
  have v : VA X.K (upd H a (.frz ob (.dK kvs))) (.ref a) (.dct kts) := VA.dct ⟨ob, upd_same⟩ n z (p.hs (hs_put e2 rfl))
  exact k _ _ _ _ (fr.fzs e rfl e1 e2 rfl ob v) v h
 ·exact False.elim h
def uC (T : Tv) : UT := fun ρ Q => Q T ρ
theorem ue_c {e : Expr} {v : V} (h : PE X e (tC v)) (f : flatV v = true) : UE X F e (uC (.leaf v)) := ⟨PE.imp h fun σ H QQ ⟨ρ, Q, fr, h, k⟩ => k v (.leaf v) H ρ (Stp.refl fr) (.flat f) h⟩
theorem ue_int {i j pos} : UE X F (.Constant (.int i) j pos) (uC (iT i)) := ue_c pe_int rfl
theorem ue_bl {b j pos} : UE X F (.Constant (.bool b) j pos) (uC (bT b)) := ue_c pe_bl rfl
theorem ue_str {x j pos} : UE X F (.Constant (.str x) j pos) (uC (sT x)) := ue_c pe_str rfl
def PuR2 (K : PySem.W.Frag) (r : P2) (r' : R2) : Prop := ∀ x y T U H Q (QQ : VK), VA K H x T -> VA K H y U -> r T U Q -> (∀ z W H', Raw K H H' z W -> Q W -> QQ z H') -> r' x y H QQ
def PuOp (X : Cx) (f : Value -> Value -> Sem Value) (r : P2) : Prop := ∃ r', OpR X f r' /\ PuR2 X.K r r'
def uOp (r : P2) (ua ub : UT) : UT := fun ρ Q => ua ρ fun a ρ1 => ub ρ1 fun b ρ2 => r a b fun c => Q c ρ2
theorem lift_op {r : P2} {r' : R2} {ua ub : UT} (hr : PuR2 X.K r r') (σ : St) (H : Hp) (QQ : VK) (h : liftE X.K F (uOp r ua ub) σ H QQ) : tFz (tOp r' (liftE X.K F ua) (liftE X.K F ub)) σ H QQ := by
 obtain ⟨ρ, Q, fr, h, k⟩ := h
 refine ⟨ρ, _, fr, h, fun x T H1 ρ1 s1 v1 q1 => ⟨ρ1, _, s1.fr, q1, fun y U H2 ρ2 s2 v2 q2 => ?_⟩⟩
 refine hr x y T U H2 _ _ (v1.hs (s2.hs s1.fr)) v2 q2 fun z W H' rw q => rw.fin s2.fr fun H'' s3 v3 => k _ _ _ _ ((s1.trans s2).trans s3) v3 q
variable {a b c : Expr} {ua ub uc : UT} {pos : Pos}
theorem ue_op {op : Operator} {r : P2} (ho : PuOp X (binaryOp op) r) (ha : UE X F a ua) (hb : UE X F b ub) : UE X F (.BinOp a op b pos) (uOp r ua ub) := by
 obtain ⟨r', o, hr⟩ := ho
 exact ⟨PE.imp (PE.fz (pe_op o ha.pe hb.pe)) (lift_op hr)⟩
def uB (u : UT) : UTt := fun ρ Q => u ρ fun T ρ' => ∃ b, T = bT b /\ Q b ρ'
theorem ub_of {e : Expr} {t : TE} {u : UT} (h : PT X e (tTest t)) (i : ∀ σ H QQ, liftE X.K F u σ H QQ -> t σ H QQ) : UB X F e (uB u) := ⟨PT.imp h fun σ H QQ ⟨ρ, Q, fr, h, k⟩ => by
 refine i σ H _ ⟨ρ, _, fr, h, fun x T H' ρ' s v q => ?_⟩
 obtain ⟨b, rfl, q⟩ := q
 obtain ⟨e, _⟩ := v.leafI
 exact ⟨b, e, k b H' ρ' s q⟩⟩
def PuR2f (K : PySem.W.Frag) (r : P2) (r' : R2) : Prop := ∀ x y T U H Q (QQ : VK), VA K H x T -> VA K H y U -> r T U Q -> (∀ z W H', Same H H' -> VA K H' z W -> Q W -> QQ z H') -> r' x y H QQ
def PuCmp (X : Cx) (f : Value -> Value -> Sem Value) (r : P2) : Prop := ∃ r', OpR X f r' /\ PuR2f X.K r r'
theorem lift_opf {r : P2} {r' : R2} {ua ub : UT} (hr : PuR2f X.K r r') (σ : St) (H : Hp) (QQ : VK) (h : liftE X.K F (uOp r ua ub) σ H QQ) : tOp r' (liftE X.K F ua) (liftE X.K F ub) σ H QQ := by
 obtain ⟨ρ, Q, fr, h, k⟩ := h
 refine ⟨ρ, _, fr, h, fun x T H1 ρ1 s1 v1 q1 => ⟨ρ1, _, s1.fr, q1, fun y U H2 ρ2 s2 v2 q2 => ?_⟩⟩
 exact hr x y T U H2 _ _ (v1.hs (s2.hs s1.fr)) v2 q2 fun z W H' s v q => k _ _ _ _ ((s1.trans s2).trans (Stp.same s2.fr s)) v q
theorem ub_cmp {op : CmpOp} {r : P2} (ho : PuCmp X (compareOp op) r) (ha : UE X F a ua) (hb : UE X F b ub) (hm : behindInMarks op b = false) : UB X F (.Compare a [op] [b] pos) (uB (uOp r ua ub)) := by
 obtain ⟨r', o, hr⟩ := ho
 exact ub_of (pt_cmpR o ha.pe hb.pe hm) (lift_opf hr)
def uAnd (t u : UTt) : UTt := fun ρ Q => t ρ fun c ρ1 => if c = true then u ρ1 Q else Q false ρ1
def uOr (t u : UTt) : UTt := fun ρ Q => t ρ fun c ρ1 => if c = true then Q true ρ1 else u ρ1 Q
def uNot (t : UTt) : UTt := fun ρ Q => t ρ fun c ρ1 => Q (!c) ρ1
variable {ta tb : UTt} {rest : List Expr}
theorem uw_and1 (ha : UB X F a ta) : UW X F (.BoolOp .And [a] pos) ta := ⟨pw_and1 ha.pt⟩
theorem uw_or1 (ha : UB X F a ta) : UW X F (.BoolOp .Or [a] pos) ta := ⟨pw_or1 ha.pt⟩
theorem uw_and (ha : UB X F a ta) (hb : UW X F (.BoolOp .And (b :: rest) pos) tb) : UW X F (.BoolOp .And (a :: b :: rest) pos) (uAnd ta tb) := ⟨PW.imp (pw_and ha.pt hb.pw) fun σ H QQ ⟨ρ, Q, fr, h, k⟩ => by
 refine ⟨ρ, _, fr, h, fun c H1 ρ1 s1 q1 => ?_⟩
 cases c with
 | false => rw [if_neg Bool.false_ne_true] at q1 ⊢; exact k _ _ _ s1 q1
 | true => rw [if_pos rfl] at q1 ⊢; exact ⟨ρ1, _, s1.fr, q1, fun y H2 ρ2 s2 q2 => k _ _ _ (s1.trans s2) q2⟩⟩
theorem uw_or (ha : UB X F a ta) (hb : UW X F (.BoolOp .Or (b :: rest) pos) tb) : UW X F (.BoolOp .Or (a :: b :: rest) pos) (uOr ta tb) := ⟨PW.imp (pw_or ha.pt hb.pw) fun σ H QQ ⟨ρ, Q, fr, h, k⟩ => by
 refine ⟨ρ, _, fr, h, fun c H1 ρ1 s1 q1 => ?_⟩
 cases c with
 | true => rw [if_pos rfl] at q1 ⊢; exact k _ _ _ s1 q1
 | false => rw [if_neg Bool.false_ne_true] at q1 ⊢; exact ⟨ρ1, _, s1.fr, q1, fun y H2 ρ2 s2 q2 => k _ _ _ (s1.trans s2) q2⟩⟩
theorem ub_w {e : Expr} {t : UTt} (h : UW X F e t) : UB X F e t := ⟨h.pw.pt⟩
theorem ub_not (ha : UB X F a ta) : UB X F (.UnaryOp .Not a pos) (uNot ta) := ⟨PT.imp (pt_not ha.pt) fun σ H QQ ⟨ρ, Q, fr, h, k⟩ => ⟨ρ, _, fr, h, fun c H1 ρ1 s1 q1 => k _ _ _ s1 q1⟩⟩
theorem ub_val {e : Expr} {u : UT} (h : UE X F e u) (he : ∀ whole, isTrue e X.env whole = (do let v <- whole; standAt e.pos; holding [v] (truthy v)) := by intro _; rfl) : UB X F e (uB u) := ⟨PT.imp (pt_val h.pe he) fun σ H QQ ⟨ρ, Q, fr, h, k⟩ => by
 refine ⟨ρ, _, fr, h, fun x T H' ρ' s v q => ?_⟩
 obtain ⟨b, rfl, q⟩ := q
 obtain ⟨e, _⟩ := v.leafI
 exact ⟨b, e, k b H' ρ' s q⟩⟩
def uNil : UTa := fun ρ Q => Q [] ρ
def uCons (u : UT) (t : UTa) : UTa := fun ρ Q => u ρ fun T ρ1 => t ρ1 fun as ρ2 => Q (.va T :: as) ρ2
def uDk (i : Nat) (t : UTa) : UTa := fun ρ Q => ρ[i]? = some .dk /\ t ρ fun as ρ2 => Q (.dk :: as) ρ2
theorem ua_nil : UA X F [] uNil := ⟨PA.imp pa_nil fun σ H QQ ⟨ρ, Q, fr, h, k⟩ => k [] [] H ρ (Stp.refl fr) .nil h⟩
theorem ua_c {e : Expr} {es : List Expr} {u : UT} {t : UTa} (ha : UE X F e u) (hr : UA X F es t) (h : isStar e = false := by rfl) : UA X F (e :: es) (uCons u t) := ⟨PA.imp (pa_c ha.pe hr.pa h) fun σ H QQ ⟨ρ, Q, fr, h, k⟩ => by
 refine ⟨ρ, _, fr, h, fun x T H1 ρ1 s1 v1 q1 => ⟨ρ1, _, s1.fr, q1, fun xs as H2 ρ2 s2 p2 q2 => ?_⟩⟩
 exact k _ _ _ _ (s1.trans s2) (.cons (b := Ar.va T) (v1.hs (s2.hs s1.fr)) p2) q2⟩
theorem ua_dk (i : Nat) {x : Str} {pos : Pos} {es : List Expr} {t : UTa} (hr : UA X F es t) (hN : X.N[i]? = some x := by rfl) (hv : Vis X.env.scope x := by first | exact Or.inl rfl | exact Or.inr (Or.inl rfl) | exact Or.inr (Or.inr rfl)) (hd : (x == ("__debug__" : Str)) = false := by decide) (hcd : (x == ("__classdict__" : Str)) = false := by decide) :
  UA X F (.Name x pos :: es) (uDk i t) := ⟨PA.imp (pa_c (pe_var hN hv hd hcd) hr.pa rfl) fun σ H QQ ⟨ρ, Q, fr, ⟨e, h⟩, k⟩ => by
 obtain ⟨p, c, ed, ex⟩ := fr.at_ i _ e
 refine ⟨_, ixv_some ex, ρ, _, fr, h, fun xs as H2 ρ2 s2 p2 q2 => ?_⟩
 exact k _ _ _ _ s2 (.cons (b := Ar.dk) ⟨p, c, ed, rfl⟩ p2) q2⟩
def vsK : List Ar -> (List Tv -> Prop) -> Prop
 | [], Q => Q []
 | .va T :: as, Q => vsK as fun Ts => Q (T :: Ts)
 | .dk :: _, _ => False
 | .fn _ :: _, _ => False
theorem vsK_ex : ∀ {as : List Ar} {Q : List Tv -> Prop}, vsK as Q -> ∃ Ts, as = Ts.map Ar.va /\ Q Ts
 | [], _, h => ⟨[], rfl, h⟩
 | .va T :: as, Q, h => by
  obtain ⟨Ts, rfl, q⟩ := vsK_ex (as := as) (Q := fun Ts => Q (T :: Ts)) h
  exact ⟨T :: Ts, rfl, q⟩
 | .dk :: _, _, h => False.elim h
 | .fn _ :: _, _, h => False.elim h
def uVs (ua : UTa) : UTl := fun ρ Q => ua ρ fun as ρ1 => vsK as fun Ts => Q Ts ρ1
theorem vas_of {K : PySem.W.Frag} {dk : Option (Addr × Addr)} {H : Hp} : ∀ {xs : List V} {Ts : List Tv}, Paired (ArAt K dk H) xs (Ts.map Ar.va) -> VAs K H xs Ts
 | [], [], _ => .nil
 | _ :: _, _ :: _, .cons r t => .cons r (vas_of t)
def uTup (ua : UTa) : UT := fun ρ Q => uVs ua ρ fun Ts ρ1 => Ts.length <= 100000 /\ Q (.seq true Ts) ρ1
def uLst (ua : UTa) : UTl := fun ρ Q => uVs ua ρ fun Ts ρ1 => Ts.length <= 100000 /\ Q Ts ρ1
theorem line_of {n : Nat} (h : n <= 100000) : n <= sizeLine := by rw [sizeLine_eq]; omega
theorem line_lt {n : Nat} (h : n < 100000) : n < sizeLine := by rw [sizeLine_eq]; omega
theorem ue_tup {es : List Expr} {t : UTa} {x1} (h : UA X F es t) : UE X F (.Tuple es x1 pos) (uTup t) := ⟨PE.imp (pe_tup h.pa) fun σ H QQ ⟨ρ, Q, fr, h, k⟩ => by
 refine ⟨ρ, _, fr, h, fun xs as H1 ρ1 s1 p1 q1 => ?_⟩
 obtain ⟨Ts, rfl, z, q⟩ := vsK_ex q1
 have p := vas_of p1
 have l : xs.length = Ts.length := Paired.length p
 refine ⟨line_of (by omega), fun a n => ?_⟩
 have r := Raw.tup (K := X.K) n z p
 exact k _ _ _ _ (s1.trans (Stp.same s1.fr r.1)) (VA.seq (t := true) (SqT.of upd_same) z (p.hs (hs_new n))) q⟩
theorem ul_lst {es : List Expr} {t : UTa} (h : UA X F es t) : UL X F (.List es pos) (uLst t) := ⟨PE.imp (pe_lst h.pa) fun σ H QQ ⟨ρ, Q, fr, h, k⟩ => by
 refine ⟨ρ, _, fr, h, fun xs as H1 ρ1 s1 p1 q1 => ?_⟩
 obtain ⟨Ts, rfl, z, q⟩ := vsK_ex q1
 have p := vas_of p1
 have l : xs.length = Ts.length := Paired.length p
 refine ⟨line_of (by omega), fun a n => ?_⟩
 exact k _ _ _ _ _ (s1.trans (Stp.same s1.fr (same_new n))) (s1.non n) upd_same z (p.hs (hs_new n)) q⟩
end
end L2
namespace L2
open PySem PySem.Spec PyProof.Rows WordM
theorem FrOk.fzn {K : PySem.W.Frag} {F : Fm} {ρ : PEnv} {σ : St} {H : Hp} {a : Addr} {o : HO} (fr : FrOk K F ρ σ H) (h : H a = some o) (n : fzb o = true) (h0 : F.H0 a = none) (na : ∀ (i : Nat) (s : Sl), ρ[i]? = some s -> mutb s = true -> ixv σ i ≠ some (.ref a)) (o' : HO) : FrOk K F ρ σ (upd H a o') := by
 have hd := fr.fresh_nodk h0
 have hs : HS H (upd H a o') := hs_put h (by cases o <;> first | rfl | exact absurd n Bool.false_ne_true)
 have st : ∀ b u, b ≠ a -> H b = some u -> upd H a o' b = some u := fun b u z e => by rw [upd_ne z]; exact e
 have hr := fr.fresh_nord h0
 refine ⟨fr.d0, fr.r0, ⟨fun b u e1 n1 n2 => st b u (fun z => by rw [z, h0] at e1; cases e1) (fr.kp.st b u e1 n1 n2), fun p c d => ?_, fun a' C d => ?_⟩, fr.len, fun j s' e' => ?_, fr.ap⟩
 ·obtain ⟨ne, ⟨S, k, e1⟩, ns, e2, l⟩ := fr.kp.dkk p c d
  exact ⟨ne, ⟨S, k, st _ _ (hd p c d).1.symm e1⟩, ns, st _ _ (hd p c d).2.symm e2, l⟩
 ·obtain ⟨t, p, dx, e1⟩ := fr.kp.rdk a' C d
  exact ⟨t, p, dx, st _ _ (hr a' C d).symm e1⟩
 ·have x := fr.at_ j s' e'
  cases s' with
  | no => trivial
  | va T => obtain ⟨y, e1, v⟩ := x; exact ⟨y, e1, v.hs hs⟩
  | own Ts => obtain ⟨b, xs, e1, e2, e3, z', p⟩ := x; exact ⟨b, xs, e1, st _ _ (fun y => na j _ e' rfl (by rw [e1, y])) e2, e3, z', p.hs hs⟩
  | dct kts => obtain ⟨b, kvs, e1, e2, e3, n', z', p⟩ := x; exact ⟨b, kvs, e1, st _ _ (fun y => na j _ e' rfl (by rw [e1, y])) e2, e3, n', z', p.hs hs⟩
  | dk => exact x
  | fn _ => exact x
  | rd t p => obtain ⟨b, C, e1, e2, dx, e3⟩ := x; exact ⟨b, C, e1, e2, dx, st _ _ (hr b C e1).symm e3⟩
theorem Stp.notown {K : PySem.W.Frag} {F : Fm} {ρ ρ1 : PEnv} {σ : St} {H H1 : Hp} {a : Addr} (s : Stp K F σ ρ H ρ1 H1) (fr : FrOk K F ρ σ H) (n : H a = none) : ∀ (i : Nat) (s : Sl), ρ1[i]? = some s -> mutb s = true -> ixv σ i ≠ some (.ref a) := fun i s' e m q => by
 obtain ⟨s0, e0, m0⟩ := s.sub i s' e m
 obtain ⟨o, e1, _⟩ := fr.mut_at e0 m0 q
 rw [n] at e1; cases e1
theorem Stp.put {K : PySem.W.Frag} {F : Fm} {ρ ρ1 : PEnv} {σ : St} {H H1 : Hp} {a : Addr} {o : HO} (s : Stp K F σ ρ H ρ1 H1) (fr : FrOk K F ρ σ H) (n : H a = none) (e : H1 a = some o) (m : fzb o = true) (o' : HO) : Stp K F σ ρ H ρ1 (upd H1 a o') :=
 ⟨s.fr.fzn e m (fr.none0 n) (s.notown fr n) o', fun b u q d n1 => by rw [upd_ne (ne_of_none q n)]; exact s.st b u q d n1, s.sub, fun b u q => by rw [upd_ne (ne_of_none q n)]; exact s.tr b u q⟩
section
variable {X : Cx} {F : Fm} {e : Expr} {pos : Pos}
def uL (u : UTl) : UT := fun ρ Q => u ρ fun Ts ρ1 => Q (.seq false Ts) ρ1
theorem ue_ul {u : UTl} (h : UL X F e u) : UE X F e (uL u) := ⟨PE.imp (PE.fz h.pe) fun σ H QQ ⟨ρ, Q, fr, h, k⟩ => ⟨ρ, _, fr, h, fun a xs Ts H' ρ' s n e z p q =>
 .inr ⟨a, _, rfl, e, rfl, fun ob => k _ _ _ _ (s.put fr n e rfl (.frz ob (.lst xs))) (VA.seq (t := false) ⟨ob, upd_same⟩ z (p.hs (hs_put e rfl))) q⟩⟩⟩
def PuRn (K : PySem.W.Frag) (r : Pn) (r' : List V -> Hp -> VK -> Prop) : Prop := ∀ xs Ts H Q (QQ : VK), VAs K H xs Ts -> r Ts Q -> (∀ z W H', Raw K H H' z W -> Q W -> QQ z H') -> r' xs H QQ
def PuCall (X : Cx) (f : Value) (r : Pn) : Prop := ∃ r', CallR X f r' /\ PuRn X.K r r'
def uCB (r : Pn) (ua : UTa) : UT := fun ρ Q => uVs ua ρ fun Ts ρ1 => r Ts fun W => Q W ρ1
theorem lift_cb {r : Pn} {r' : List V -> Hp -> VK -> Prop} {ua : UTa} (hr : PuRn X.K r r') (σ : St) (H : Hp) (QQ : VK) (h : liftE X.K F (uCB r ua) σ H QQ) : tFz (tCB r' (liftA X.K F ua)) σ H QQ := by
 obtain ⟨ρ, Q, fr, h, k⟩ := h
 refine ⟨ρ, _, fr, h, fun xs as H1 ρ1 s1 p1 q1 => ?_⟩
 obtain ⟨Ts, rfl, q⟩ := vsK_ex q1
 exact hr xs Ts H1 _ _ (vas_of p1) q fun z W H' rw q => rw.fin s1.fr fun H'' s3 v3 => k _ _ _ _ (s1.trans s3) v3 q
variable {es : List Expr} {x : Str} {p : Pos} {ua : UTa}
theorem ue_callB {id : String} {r : Pn} (hc : PuCall X (.builtin id) r) (hg : Gl X x) (hm : X.mg x = none) (hv : bootBuiltins x = some (.builtin id)) (ha : UA X F (e :: es) ua) (hn : x ≠ "__name__" := by decide) (hdb : (x == ("__debug__" : Str)) = false := by decide)
  (he : starEach (e :: es) X.env = (false, eval e X.env) :: starEach es X.env := by rfl) (hpl : (backTo pos (starEach es X.env)).any (·.1) = false := by rfl) : UE X F (.Call (.Name x p) (e :: es) [] pos) (uCB r ua) := by
 obtain ⟨r', o, hr⟩ := hc
 exact ⟨PE.imp (PE.fz (pe_callB o hg hm hv ha.pa hn hdb he hpl)) (lift_cb hr)⟩
abbrev PSp := List Ar -> (Tv -> Prop) -> Prop
def liftP (K : PySem.W.Frag) (psp : PSp) : Sp := fun vs H Q _ => ∃ dk as R, (∀ p c, dk = some (p, c) -> DeckAt H p c) /\ Paired (ArAt K dk H) vs as /\ psp as R /\ ∀ x T H', Kp dk none H H' -> VA K H' x T -> R T -> Q x H'
def PGood (P : Program) (w : World) (K : PySem.W.Frag) (mg : Str -> Option Value) (base : Heap) (k : Nat) (x : Str) (ps : List Str) (psp : PSp) : Prop := Good P w K mg base k x ps (liftP K psp)
def uCall (psp : PSp) (ua : UTa) : UT := fun ρ Q => ua ρ fun as ρ1 => psp as fun W => Q W ρ1
theorem lift_call {psp : PSp} {ua : UTa} (σ : St) (H : Hp) (QQ : VK) (h : liftE X.K F (uCall psp ua) σ H QQ) : tCall (liftP X.K psp) [] E0 (liftA X.K F ua) σ H QQ := by
 obtain ⟨ρ, Q, fr, h, k⟩ := h
 refine ⟨ρ, _, fr, h, fun xs as H1 ρ1 s1 p1 q1 => ?_⟩
 show liftP X.K psp (xs ++ []) H1 QQ E0
 rw [List.append_nil]
 exact ⟨F.dk, as, _, s1.fr.kp.dkk, p1, q1, fun z W H' kp v q => k _ _ _ _ (s1.trans (Stp.call s1.fr kp)) v q⟩
theorem ue_fn {k : Nat} {ps : List Str} {psp : PSp} (G : PGood X.prog X.w X.K X.mg X.base k x ps psp) (hr : Room k X.A) (hg : Gl X x) (ha : UA X F (e :: es) ua) (hdb : (x == ("__debug__" : Str)) = false := by decide)
  (hst : isStar e = false := by rfl) (hpl : (backTo pos (starEach es X.env)).any (·.1) = false := by rfl) : UE X F (.Call (.Name x p) (e :: es) [] pos) (uCall psp ua) :=
 ⟨PE.imp (pe_fn G hr hg ha.pa hdb hst hpl) lift_call⟩
theorem ue_fn0 {k : Nat} {ps : List Str} {psp : PSp} (G : PGood X.prog X.w X.K X.mg X.base k x ps psp) (hr : Room k X.A) (hg : Gl X x) (hdb : (x == ("__debug__" : Str)) = false := by decide) : UE X F (.Call (.Name x p) [] [] pos) (uCall psp uNil) :=
 ⟨PE.imp (pe_fn0 G hr hg hdb) fun σ H QQ ⟨ρ, Q, fr, h, k⟩ => ⟨F.dk, [], _, fr.kp.dkk, .nil, h, fun z W H' kp v q => k _ _ _ _ (Stp.call fr kp) v q⟩⟩
def PuIx (X : Cx) (r : P2) : Prop := ∃ r', IxR X r' /\ PuR2 X.K r r'
variable {a b : Expr} {va vb : UT}
theorem ue_ix {r : P2} (ho : PuIx X r) (ha : UE X F a va) (hb : UE X F b vb) (hs : PlainIx b := by intro _ _; rfl) : UE X F (.Subscript a b pos) (uOp r va vb) := by
 obtain ⟨r', o, hr⟩ := ho
 exact ⟨PE.imp (PE.fz (pe_ix o ha.pe hb.pe hs)) (lift_op hr)⟩
abbrev UTo := PEnv -> (Option Int -> PEnv -> Prop) -> Prop
def liftO (K : PySem.W.Frag) (F : Fm) (u : UTo) : TO := fun σ H QQ => ∃ ρ Q, FrOk K F ρ σ H /\ u ρ Q /\ ∀ o H' ρ', Stp K F σ ρ H ρ' H' -> Q o ρ' -> QQ o H'
structure UO (X : Cx) (F : Fm) (e : Option Expr) (u : UTo) : Prop where
 po : PO X e (liftO X.K F u)
theorem PO.imp {e : Option Expr} {t t' : TO} (h : PO X e t) (i : ∀ σ H Q, t' σ H Q -> t σ H Q) : PO X e t' := fun pins s σ H Q I q => h pins s σ H Q I (i σ H Q q)
def uoN : UTo := fun ρ Q => Q none ρ
def uoS (u : UT) : UTo := fun ρ Q => u ρ fun T ρ1 => ∃ i, T = iT i /\ Q (some i) ρ1
theorem uo_none : UO X F none uoN := ⟨PO.imp po_none fun σ H QQ ⟨ρ, Q, fr, h, k⟩ => k _ _ _ (Stp.refl fr) h⟩
theorem uo_some {u : UT} (h : UE X F e u) : UO X F (some e) (uoS u) := ⟨PO.imp (po_some h.pe) fun σ H QQ ⟨ρ, Q, fr, h, k⟩ => ⟨ρ, _, fr, h, fun x T H1 ρ1 s1 v1 q1 => by
 obtain ⟨i, rfl, q⟩ := q1
 exact ⟨i, v1.leafI.1, k _ _ _ s1 q⟩⟩⟩
abbrev PSl := Tv -> Option Int -> Option Int -> (Tv -> Prop) -> Prop
def PuSl (X : Cx) (r : PSl) : Prop := ∃ r', SlR X r' /\ ∀ x T lo hi H Q (QQ : VK), VA X.K H x T -> r T lo hi Q -> (∀ z W H', Raw X.K H H' z W -> Q W -> QQ z H') -> r' x lo hi H QQ
def uSl (r : PSl) (u : UT) (lo hi : UTo) : UT := fun ρ Q => u ρ fun T ρ1 => lo ρ1 fun l ρ2 => hi ρ2 fun h ρ3 => r T l h fun W => Q W ρ3
theorem ue_slice {r : PSl} {lo hi : Option Expr} {ul uh : UTo} {p2 : Pos} (ho : PuSl X r) (ha : UE X F a va) (hl : UO X F lo ul) (hh : UO X F hi uh) : UE X F (.Subscript a (.Slice lo hi none p2) pos) (uSl r va ul uh) := by
 obtain ⟨r', o, hr⟩ := ho
 refine ⟨PE.imp (PE.fz (pe_slice o ha.pe hl.po hh.po)) ?_⟩
 rintro σ H QQ ⟨ρ, Q, fr, h, k⟩
 refine ⟨ρ, _, fr, h, fun x T H1 ρ1 s1 v1 q1 => ⟨ρ1, _, s1.fr, q1, fun l H2 ρ2 s2 q2 => ⟨ρ2, _, s2.fr, q2, fun u H3 ρ3 s3 q3 => ?_⟩⟩⟩
 exact hr x T l u H3 _ _ ((v1.hs (s2.hs s1.fr)).hs (s3.hs s2.fr)) q3 fun z W H' rw q => rw.fin s3.fr fun H'' s4 v4 => k _ _ _ _ ((s1.trans s2).trans (s3.trans s4)) v4 q
end
structure PEnds where
 nx : PEnv -> Prop
 rt : Tv -> Prop
 bk : PEnv -> Prop := fun _ => False
 ct : PEnv -> Prop := fun _ => False
 rr : Tv -> PEnv -> Prop := fun _ _ => False
def RdS (F : Fm) (ρ : PEnv) (H : Hp) : Prop := ∀ (i : Nat) (t : Str) (p : Int), ρ[i]? = some (.rd t p) -> ∃ a C, F.rd = some (a, C) /\ RdAt H a C t p
theorem FrOk.rds {K : PySem.W.Frag} {F : Fm} {ρ : PEnv} {σ : St} {H : Hp} (fr : FrOk K F ρ σ H) : RdS F ρ H := fun i t p e => by
 obtain ⟨a, C, e1, _, e2⟩ := fr.at_ i _ e
 exact ⟨a, C, e1, e2⟩
abbrev UTs := PEnds -> PEnv -> Prop
def liftS (K : PySem.W.Frag) (F : Fm) (u : UTs) : TS := fun D σ H => ∃ ρ P, FrOk K F ρ σ H /\ u P ρ /\ (∀ σ' H' ρ', FrOk K F ρ' σ' H' -> HS H H' -> P.nx ρ' -> D.nx σ' H') /\ (∀ x T H' ρ', Kp F.dk F.rd F.H0 H' -> RdS F ρ' H' -> VA K H' x T -> (P.rt T \/ P.rr T ρ') -> D.rt x H') /\
 (∀ σ' H' ρ', FrOk K F ρ' σ' H' -> HS H H' -> P.bk ρ' -> D.bk σ' H') /\ ∀ σ' H' ρ', FrOk K F ρ' σ' H' -> HS H H' -> P.ct ρ' -> D.ct σ' H'
structure US (X : Cx) (F : Fm) (st : Stmt) (u : UTs) : Prop where
 ps : PS X st (liftS X.K F u)
structure USs (X : Cx) (F : Fm) (st : List Stmt) (u : UTs) : Prop where
 ps : PSs X st (liftS X.K F u)
theorem PS.imp {X : Cx} {st : Stmt} {t t' : TS} (h : PS X st t) (i : ∀ D σ H, t' D σ H -> t D σ H) : PS X st t' := fun pins s σ H D I q => h pins s σ H D I (i D σ H q)
theorem PSs.imp {X : Cx} {st : List Stmt} {t t' : TS} (h : PSs X st t) (i : ∀ D σ H, t' D σ H -> t D σ H) : PSs X st t' := fun pins s σ H D I q => h pins s σ H D I (i D σ H q)
section
variable {X : Cx} {F : Fm} {e : Expr} {pos : Pos} {st : Stmt} {rest : List Stmt} {u : UT}
def sNil : UTs := fun P ρ => P.nx ρ
def sSeq (s t : UTs) : UTs := fun P ρ => s { P with nx := fun ρ' => t P ρ' } ρ
theorem us_nil : USs X F [] sNil := ⟨PSs.imp pss_nil fun D σ H ⟨ρ, P, fr, h, k1, _⟩ => k1 σ H ρ fr (HS.refl _) h⟩
theorem us_one {s : UTs} (h : US X F st s) : USs X F [st] s := ⟨pss_one h.ps⟩
theorem us_cons {s t : UTs} (h : US X F st s) (hr : USs X F rest t) : USs X F (st :: rest) (sSeq s t) := ⟨PSs.imp (pss_cons h.ps hr.ps) fun D σ H ⟨ρ, P, fr, h, k1, k2, k3, k4⟩ => by
 refine ⟨ρ, _, fr, h, fun σ' H' ρ' fr' hs q => ?_, k2, k3, k4⟩
 exact ⟨ρ', P, fr', q, fun σ2 H2 ρ2 f2 h2 q2 => k1 _ _ _ f2 (hs.trans h2) q2, k2, fun σ2 H2 ρ2 f2 h2 q2 => k3 _ _ _ f2 (hs.trans h2) q2, fun σ2 H2 ρ2 f2 h2 q2 => k4 _ _ _ f2 (hs.trans h2) q2⟩⟩
def sRet (u : UT) : UTs := fun P ρ => u ρ fun T _ => P.rt T
theorem us_ret (h : UE X F e u) : US X F (.Return (some e) pos) (sRet u) := ⟨PS.imp (ps_ret h.pe) fun D σ H ⟨ρ, P, fr, h, _, k2, _⟩ => ⟨ρ, _, fr, h, fun x T H' ρ' s v q => k2 x T H' ρ' s.fr.kp s.fr.rds v (.inl q)⟩⟩
def sIf (t : UTt) (s r : UTs) : UTs := fun P ρ => t ρ fun b ρ1 => if b = true then s P ρ1 else r P ρ1
theorem us_if {c : Expr} {a b : List Stmt} {t : UTt} {s r : UTs} (hc : UB X F c t) (ha : USs X F a s) (hb : USs X F b r) : US X F (.If c a b pos) (sIf t s r) := ⟨PS.imp (ps_if hc.pt ha.ps hb.ps) fun D σ H ⟨ρ, P, fr, h, k1, k2, k3, k4⟩ => by
 refine ⟨ρ, _, fr, h, fun b H1 ρ1 s1 q1 => ?_⟩
 have hs := s1.hs fr
 have fin : ∀ {v : UTs}, v P ρ1 -> liftS X.K F v D σ H1 := fun q => ⟨ρ1, P, s1.fr, q, fun σ2 H2 ρ2 f2 h2 q2 => k1 _ _ _ f2 (hs.trans h2) q2, k2, fun σ2 H2 ρ2 f2 h2 q2 => k3 _ _ _ f2 (hs.trans h2) q2, fun σ2 H2 ρ2 f2 h2 q2 => k4 _ _ _ f2 (hs.trans h2) q2⟩
 cases b with
 | true => exact iteT (fin (by rw [if_pos rfl] at q1; exact q1))
 | false => exact iteF (fin (by rw [if_neg Bool.false_ne_true] at q1; exact q1))⟩
theorem FrOk.set {K : PySem.W.Frag} {ρ : PEnv} {σ : St} {H : Hp} {i : Nat} {s : Sl} {x : V} (fr : FrOk K F ρ σ H) (v : i < ρ.length -> SlAt K F H (some x) s) (na : mutb s = true -> ∀ a, x = .ref a -> ∀ (j : Nat) (t : Sl), ρ[j]? = some t -> mutb t = true -> ixv σ j ≠ some (.ref a)) : FrOk K F (ρ.set i s) (σ.set i (some x)) H := by
 have ne : ∀ j, i ≠ j -> ixv (σ.set i (some x)) j = ixv σ j := fun j z => by unfold ixv; rw [List.getElem?_set_ne z]
 have self : ∀ (h : i < ρ.length), ixv (σ.set i (some x)) i = some x := fun h => by unfold ixv; rw [List.getElem?_set_self (by rw [<- fr.len]; exact h)]; rfl
 have get : ∀ (j : Nat) (t : Sl), (ρ.set i s)[j]? = some t -> (i = j /\ i < ρ.length /\ t = s) \/ (i ≠ j /\ ρ[j]? = some t) := fun j t e => by
  by_cases z : i = j
  ·subst z
   have hi : i < ρ.length := by
    have := (List.getElem?_eq_some_iff.mp e).1
    rwa [List.length_set] at this
   rw [List.getElem?_set_self hi] at e
   exact .inl ⟨rfl, hi, (Option.some.inj e).symm⟩
  ·rw [List.getElem?_set_ne z] at e; exact .inr ⟨z, e⟩
 refine ⟨fr.d0, fr.r0, fr.kp, by rw [List.length_set, List.length_set]; exact fr.len, fun j t e => ?_, fun j k a t t' e1 e2 m1 m2 q1 q2 => ?_⟩
 ·rcases get j t e with ⟨rfl, hi, rfl⟩ | ⟨z, e⟩
  ·rw [self hi]; exact v hi
  ·rw [ne j z]; exact fr.at_ j t e
 ·rcases get j t e1 with ⟨rfl, hi, rfl⟩ | ⟨z1, e1⟩
  ·rcases get k t' e2 with ⟨rfl, _, rfl⟩ | ⟨z2, e2⟩
   ·rfl
   ·rw [self hi] at q1
    rw [ne k z2] at q2
    exact absurd q2 (na m1 a (Option.some.inj q1) k t' e2 m2)
  ·rcases get k t' e2 with ⟨rfl, hi, rfl⟩ | ⟨z2, e2⟩
   ·rw [self hi] at q2
    rw [ne j z1] at q1
    exact absurd q1 (na m2 a (Option.some.inj q2) j t (by first | exact e1 | assumption) m1)
   ·rw [ne j z1] at q1
    rw [ne k z2] at q2
    exact fr.ap j k a t t' e1 e2 m1 m2 q1 q2
def sSet (i : Nat) (u : UT) : UTs := fun P ρ => u ρ fun T ρ1 => P.nx (ρ1.set i (.va T))
theorem us_set {i : Nat} {x : Str} {pos' : Pos} (hN : X.N.Nodup) (hi : X.N[i]? = some x) (hx : Loc X.env.scope x) (he : UE X F e u) (hs : swapsWith e (some (.Name x pos')) pos.line X.env = pure false := by rfl) (hf : X.fn x = true \/ X.env.scope.names.lookup x = some .local := by first | exact .inl rfl | exact .inr rfl | assumption) :
  US X F (.Assign [.Name x pos'] e pos) (sSet i u) := ⟨PS.imp (ps_set hN hi hx he.pe hs hf) fun D σ H ⟨ρ, P, fr, h, k1, _⟩ => by
 refine ⟨ρ, _, fr, h, fun x T H' ρ' s v q => ?_⟩
 exact k1 _ _ _ (s.fr.set (s := .va T) (fun _ => ⟨x, rfl, v⟩) (fun z => absurd z Bool.false_ne_true)) (s.hs fr) q⟩
end
def arSl : Ar -> Sl
 | .va T => .va T
 | .dk => .dk
 | .fn a => .fn a
def startP (n : Nat) (as : List Ar) : PEnv := as.map arSl ++ List.replicate (n - as.length) .no
theorem fr_start {K : PySem.W.Frag} {H : Hp} {dk : Option (Addr × Addr)} {N : List Str} {vs : List V} {as : List Ar} (hd : ∀ p c, dk = some (p, c) -> DeckAt H p c) (p : Paired (ArAt K dk H) vs as) : FrOk K ⟨H, dk, none⟩ (startP N.length as) (start N vs) H := by
 have l : vs.length = as.length := Paired.length p
 refine ⟨hd, (fun _ _ z => nomatch z), ⟨fun _ _ e _ _ => e, hd, (fun _ _ z => nomatch z)⟩, ?_, fun i s e => ?_, fun i j a s t e _ m _ _ _ => ?_⟩
 ·unfold startP start
  rw [List.length_append, List.length_append, List.length_map, List.length_map, List.length_replicate, List.length_replicate, l]
 ·unfold startP at e
  by_cases hi : i < as.length
  ·rw [List.getElem?_append_left (by simpa using hi), List.getElem?_map] at e
   obtain ⟨r, er, rfl⟩ := Option.map_eq_some_iff.mp e
   have hv : i < vs.length := by omega
   obtain ⟨r', er', h⟩ := paired_get p (List.getElem?_eq_getElem hv)
   rw [er] at er'; cases er'
   have ex : ixv (start N vs) i = some vs[i] := by
    refine ixv_of ?_
    unfold start
    rw [List.getElem?_append_left (by simpa using hv), List.getElem?_map, List.getElem?_eq_getElem hv]
    rfl
   rw [ex]
   cases r with
   | va T => exact ⟨_, rfl, h⟩
   | dk => obtain ⟨p, c, e1, e2⟩ := h; exact ⟨p, c, e1, by rw [e2]⟩
   | fn a => exact congrArg some h
  ·rw [List.getElem?_append_right (by simpa using hi), List.getElem?_replicate] at e
   split at e
   ·cases e; trivial
   ·cases e
 ·unfold startP at e
  by_cases hi : i < as.length
  ·rw [List.getElem?_append_left (by simpa using hi), List.getElem?_map] at e
   obtain ⟨r, er, rfl⟩ := Option.map_eq_some_iff.mp e
   cases r <;> cases m
  ·rw [List.getElem?_append_right (by simpa using hi), List.getElem?_replicate] at e
   split at e
   ·cases e; cases m
   ·cases e
theorem Has.pgood {P : Program} {w : World} {K : PySem.W.Frag} {mg : Str -> Option Value} {base : Heap} {x : Str} {st : Stmt} {N ps : List Str} {k : Nat} {psp : PSp} {us : UTs} (h : Has K mg x st) (S : FnScope N ps (defScope st))
  (hb : ∀ (kV doc pm : Value) (an : Option Addr) (cdv ct : Value) (us : List Value), us.length = ps.length -> bindArgs (PySem.W.fnOf x x (defArgs st) (defBody st) (defScope st) .none kV doc pm an cdv ct) ⟨us, []⟩ = pure (ps.zip us))
  (hbody : ∀ (f : Addr) (cdv : Value) (A : Around) (outer : List Env) (s : Shared) (H : Hp) (E : XK) (F : Fm), Room k (A.deeper (envOfC x (defScope st) s.heap.objs.size f cdv)) -> USs (cxOf CX0 P w K mg base N x (defScope st) f cdv A outer s H E).nox F (defBody st) us)
  (hp : ∀ as R, psp as R -> as.length = ps.length /\ us { nx := fun _ => R nT, rt := R } (startP N.length as)) : PGood P w K mg base (k + 1) x ps psp := by
 refine h.good S hb (fun vs H Q E q => ?_) (fun f cdv A outer s H vs Q E hr q => ?_)
 ·obtain ⟨dk, as, R, d, p, q, _⟩ := q
  rw [Paired.length p]
  exact (hp as R q).1
 ·obtain ⟨dk, as, R, d, p, q, k⟩ := q
  refine ⟨_, (hbody f cdv A outer s H E ⟨H, dk, none⟩ hr).ps, startP N.length as, _, fr_start d p, (hp as R q).2, fun σ' H' ρ' fr _ q => k _ _ _ fr.kp (.flat rfl) q, fun x T H' _ kp _ v q => k x T H' kp v (q.elim id False.elim), fun _ _ _ _ _ z => z, fun _ _ _ _ _ z => z⟩
end L2
namespace L2
open PySem PySem.Spec PyProof.Rows WordM
def ItIs (K : PySem.W.Frag) (J : It) (H : Hp) (Ts : List Tv) : Prop := ∀ H1, HS H H1 -> (∀ i, i < Ts.length -> J.go i H1) /\ (∀ i x H2, i < Ts.length -> J.yld i H1 x H2 -> Same H1 H2 /\ ∃ T, Ts[i]? = some T /\ VA K H2 x T) /\ J.stop Ts.length H1
def liftI (K : PySem.W.Frag) (F : Fm) (u : UTl) : TI := fun σ H R => ∃ ρ Q, FrOk K F ρ σ H /\ u ρ Q /\ ∀ J Ts H' ρ', Stp K F σ ρ H ρ' H' -> ItIs K J H' Ts -> Q Ts ρ' -> R J H'
structure UI (X : Cx) (F : Fm) (tg e : Expr) (u : UTl) : Prop where
 pi : PI X tg e (liftI X.K F u)
theorem PI.imp {X : Cx} {tg e : Expr} {t t' : TI} (h : PI X tg e t) (i : ∀ σ H Q, t' σ H Q -> t σ H Q) : PI X tg e t' := fun pins s σ H Q I q => h pins s σ H Q I (i σ H Q q)
def ItR (X : Cx) (tg : Expr) (r : V -> Hp -> (It -> Hp -> Prop) -> Prop) : Prop := ∀ (pins : List (Addr × Obj)) (s : Shared) (σ : St) (H : Hp) (x : V) (v : Value) (R : It -> Hp -> Prop), Inv X pins σ H s -> RelV x v -> r x H R -> wpAny (model X.prog X.w) X.A (pyIter v) (PIE X pins σ tg R) X.xe s
section
variable {X : Cx} {F : Fm} {tg e : Expr}
theorem ItR.or {r r' : V -> Hp -> (It -> Hp -> Prop) -> Prop} (h : ItR X tg r) (h' : ItR X tg r') : ItR X tg (fun x H R => r x H R \/ r' x H R) := fun pins s σ H x v R I rx q => by
 rcases q with q | q
 ·exact h pins s σ H x v R I rx q
 ·exact h' pins s σ H x v R I rx q
theorem fp_one {pins : List (Addr × Obj)} {σ : St} {H : Hp} {s : Shared} (I : Inv X pins σ H s) : ∀ b ∈ [s.heap.objs.size], FpOk X pins H b := fun b hb => by
 rw [List.mem_singleton.mp hb]
 exact I.fpOk (Nat.le_refl _) (I.hok.fresh (Nat.le_refl _))
theorem it_list : ItR X tg (fun x H R => ∃ a xs, x = .ref a /\ SqL X.K H a xs /\ R (Itl X.K a) H) := by
 rintro pins s σ H _ v R I r ⟨a, xs, rfl, hq, q⟩
 cases r
 obtain ⟨its, rv, p, hz⟩ := I.list hq
 exact wpAny_pyIter_list p.isList ⟨_, [s.heap.objs.size], _, _, H, rfl, I.kept (t' := s.toks) fun b o => Heap.get?_push_of_some _, turn_list a _, ⟨_, Heap.get?_push_size _ rfl, rfl, rfl⟩, fp_one I, q⟩
theorem it_tup : ItR X tg (fun x H R => ∃ a xs, x = .ref a /\ SqT X.K H a xs /\ R (Itt X.K a) H) := by
 rintro pins s σ H _ v R I r ⟨a, xs, rfl, hq, q⟩
 cases r
 obtain ⟨its, rv, p, hz⟩ := I.tuple hq
 exact wpAny_pyIter_tuple (show s.heap.IsTuple a its.toArray from p) ⟨_, [s.heap.objs.size], _, _, H, rfl, I.kept (t' := s.toks) fun b o => Heap.get?_push_of_some _, turn_tuple a _, ⟨_, Heap.get?_push_size _ rfl, rfl, rfl⟩, fp_one I, q⟩
theorem it_str : ItR X tg (fun x H R => ∃ z, x = .str z /\ R (Its z) H) := by
 rintro pins s σ H _ v R I r ⟨z, rfl, q⟩
 obtain ⟨t, rfl⟩ := r
 cases ha : z.cps.all (· < 128) with
 | true => exact wpAny_pyIter_ascii ha ⟨_, [s.heap.objs.size], _, _, H, rfl, I.kept (t' := s.toks) fun b o => Heap.get?_push_of_some _, turn_strA _ z t, ⟨_, Heap.get?_push_size _ rfl, rfl, rfl⟩, fp_one I, q⟩
 | false => exact wpAny_pyIter_wide ha ⟨_, [s.heap.objs.size], _, _, H, rfl, I.kept (t' := s.toks) fun b o => Heap.get?_push_of_some _, turn_strW _ z t, ⟨_, Heap.get?_push_size _ rfl, rfl, rfl⟩, fp_one I, q⟩
theorem it_dict : ItR X tg (fun x H R => ∃ a ob kvs, x = .ref a /\ FzD H a ob kvs /\ R (ItD a ob kvs) H) := by
 rintro pins s σ H _ v R I r ⟨a, ob, kvs, rfl, hz, q⟩
 cases r
 obtain ⟨e, hs, hl, vs, es, ep, r, dd, hd⟩ := fz_dict I hz
 exact wpAny_pyIter_dict hs dd ⟨_, [s.heap.objs.size], _, _, H, rfl, I.kept (t' := s.toks) fun b o => Heap.get?_push_of_some _, turn_dict (a := a) (ob := ob) (kvs := kvs) hd, ⟨_, Heap.get?_push_size _ rfl, rfl, by rw [<- kv_len r]; rfl⟩, fp_one I, q⟩
def pIt : Tv -> (List Tv -> Prop) -> Prop
 | .seq _ Ts, Q => Q Ts
 | .leaf (.str z), Q => Q (z.cps.toList.map fun c => sT ⟨#[c]⟩)
 | .dct kts, Q => Q (kts.map fun kt => sT kt.1)
 | _, _ => False
theorem seq_of {K : PySem.W.Frag} {H : Hp} {a : Addr} {xs : List V} (h : PSeq K H false a xs) : SqL K H a xs := by
 obtain ⟨ob, h⟩ := h
 exact .inl (.inr ⟨ob, h⟩)
theorem is_list {K : PySem.W.Frag} {H : Hp} {a : Addr} {xs : List V} {Ts : List Tv} (h : PSeq K H false a xs) (p : VAs K H xs Ts) : ItIs K (Itl K a) H Ts := fun H1 hs => by
 have l : xs.length = Ts.length := Paired.length p
 have q := seq_of (h.hs hs)
 refine ⟨fun i hi => ⟨xs, xs[i]'(by omega), q, List.getElem?_eq_getElem _⟩, fun i x H2 hi ⟨e, y⟩ => ?_, ⟨xs, q, by omega⟩⟩
 subst e
 obtain ⟨T, eT, v⟩ := paired_get (p.hs hs) (y xs q)
 exact ⟨Same.refl _, T, eT, v⟩
theorem is_tup {K : PySem.W.Frag} {H : Hp} {a : Addr} {xs : List V} {Ts : List Tv} (h : PSeq K H true a xs) (p : VAs K H xs Ts) : ItIs K (Itt K a) H Ts := fun H1 hs => by
 have l : xs.length = Ts.length := Paired.length p
 have q : SqT K H1 a xs := h.hs hs
 refine ⟨fun i hi => ⟨xs, xs[i]'(by omega), q, List.getElem?_eq_getElem _⟩, fun i x H2 hi ⟨e, y⟩ => ?_, ⟨xs, q, by omega⟩⟩
 subst e
 obtain ⟨T, eT, v⟩ := paired_get (p.hs hs) (y xs q)
 exact ⟨Same.refl _, T, eT, v⟩
theorem is_str {K : PySem.W.Frag} {H : Hp} {z : Str} : ItIs K (Its z) H (z.cps.toList.map fun c => sT ⟨#[c]⟩) := fun H1 hs => by
 refine ⟨fun i hi => (show i < z.cps.size by simpa using hi), fun i x H2 hi ⟨e, c, ec, ex⟩ => ?_, by simp [Its]⟩
 subst e ex
 refine ⟨Same.refl _, sT ⟨#[c]⟩, ?_, .flat rfl⟩
 rw [List.getElem?_map, Array.getElem?_toList, ec]
 rfl
theorem is_dict {K : PySem.W.Frag} {H : Hp} {a : Addr} {ob : Obj} {kvs : List (Key × V)} {kts : List (Str × Tv)} (h : FzD H a ob kvs) (p : VAk K H kvs kts) : ItIs K (ItD a ob kvs) H (kts.map fun kt => sT kt.1) := fun H1 hs => by
 have l : kvs.length = kts.length := Paired.length p
 have q : FzD H1 a ob kvs := hs _ _ rfl h
 refine ⟨fun i hi => ⟨q, by rw [List.length_map] at hi; omega⟩, fun i x H2 hi ⟨e, k, v, ek, ex⟩ => ?_, ⟨q, by rw [List.length_map]; omega⟩⟩
 subst e ex
 obtain ⟨kt, ekt, e1, _⟩ := paired_get p ek
 refine ⟨Same.refl _, sT kt.1, by rw [List.getElem?_map, ekt]; rfl, ?_⟩
 have e1 : k = .inr kt.1 := e1
 rw [e1]
 exact .flat rfl
def uIt (u : UT) : UTl := fun ρ Q => u ρ fun T ρ1 => pIt T fun Ts => Q Ts ρ1
theorem ui_val {u : UT} (h : UE X F e u) : UI X F tg e (uIt u) := ⟨fun pins s σ H R I ⟨ρ, Q, fr, hu, k⟩ => by
 have IT : ItR X tg _ := it_list.or (it_tup.or (it_str.or it_dict))
 refine thn (h.pe pins s σ H (fun x H1 => _) I ⟨ρ, _, fr, hu, fun x T H' ρ' s v q => ?_⟩) fun v s1 ⟨x, H1, I1, r1, q1⟩ => IT pins s1 σ H1 x v R I1 r1 q1
 unfold pIt at q
 split at q
 ·rename_i t Ts
  obtain ⟨a, xs, rfl, hs, z, p⟩ := v.seqI
  cases t with
  | false => exact .inl ⟨a, xs, rfl, seq_of hs, k _ _ _ _ s (is_list hs p) q⟩
  | true => exact .inr (.inl ⟨a, xs, rfl, hs, k _ _ _ _ s (is_tup hs p) q⟩)
 ·obtain ⟨rfl, _⟩ := v.leafI
  exact .inr (.inr (.inl ⟨_, rfl, k _ _ _ _ s is_str q⟩))
 ·obtain ⟨a, kvs, rfl, ⟨ob, hd⟩, n, z, p⟩ := v.dctI
  exact .inr (.inr (.inr ⟨a, ob, kvs, rfl, hd, k _ _ _ _ s (is_dict hd p) q⟩))
 ·exact False.elim q⟩
def rngT (lo : Int) (n : Nat) : List Tv := (List.range n).map fun (i : Nat) => iT (lo + i)
theorem rngT_len (lo : Int) (n : Nat) : (rngT lo n).length = n := by simp [rngT]
theorem rngT_get {lo : Int} {n i : Nat} {T : Tv} (h : (rngT lo n)[i]? = some T) : i < n /\ T = iT (lo + i) := by
 have l := (List.getElem?_eq_some_iff.mp h).1
 rw [rngT_len] at l
 refine ⟨l, ?_⟩
 simp only [rngT, List.getElem?_map, List.getElem?_range l] at h
 exact (Option.some.inj h).symm
theorem is_range {K : PySem.W.Frag} {H : Hp} {lo : Int} {n : Nat} : ItIs K (Itr lo n) H (rngT lo n) := fun H1 hs => by
 have l : (rngT lo n).length = n := by simp [rngT]
 refine ⟨fun i hi => by rw [l] at hi; exact hi, fun i x H2 hi ⟨e, ex⟩ => ?_, by rw [l]; exact Nat.le_refl _⟩
 subst e ex
 rw [l] at hi
 exact ⟨Same.refl _, iT (lo + i), by simp [rngT, hi], .flat rfl⟩
def uRng1 (ua : UTa) : UTl := fun ρ Q => uVs ua ρ fun Ts ρ1 => ∃ j : Int, Ts = [iT j] /\ -(2 ^ 62) <= j /\ j < 2 ^ 62 /\ Q (rngT 0 j.toNat) ρ1
theorem ui_range1 {a : Expr} {ua : UTa} {p pos : Pos} (hg : Gl X "range") (hm : X.mg "range" = none) (ha : UA X F [a] ua) (hs : starEach [a] X.env = [(false, eval a X.env)] := by rfl) : UI X F tg (.Call (.Name "range" p) [a] [] pos) (uRng1 ua) := ⟨PI.imp (pi_range1 hg hm ha.pa hs) fun σ H R ⟨ρ, Q, fr, hu, k⟩ => by
 refine ⟨ρ, _, fr, hu, fun xs as H1 ρ1 s1 p1 q1 => ?_⟩
 obtain ⟨Ts, rfl, j, rfl, h1, h2, q⟩ := vsK_ex q1
 cases vas_of p1 with
 | cons v t =>
  cases t
  obtain ⟨rfl, _⟩ := v.leafI
  exact ⟨j, rfl, h1, h2, k _ _ _ _ s1 is_range q⟩⟩
theorem is_enum {K : PySem.W.Frag} {H : Hp} {a : Addr} {xs : List V} {Ts : List Tv} (h : PSeq K H false a xs) (p : VAs K H xs Ts) : ItIs K (ItE K a) H (Ts.mapIdx fun i T => .seq true [iT (i : Nat), T]) := fun H1 hs => by
 have l : xs.length = Ts.length := Paired.length p
 have q := seq_of (h.hs hs)
 refine ⟨fun i hi => ⟨xs, xs[i]'(by simpa [l] using hi), q, List.getElem?_eq_getElem _⟩, fun i x H2 hi ⟨b, y, ex, nb, e, hy⟩ => ?_, ⟨xs, q, by simp [l]⟩⟩
 subst e ex
 obtain ⟨T, eT, v⟩ := paired_get (p.hs hs) (hy xs q)
 refine ⟨same_new nb, .seq true [iT (i : Nat), T], by rw [List.getElem?_mapIdx, eT]; rfl, VA.seq (t := true) (SqT.of upd_same) (show 2 <= 100000 by decide) (.cons (.flat rfl) (.cons (v.hs (hs_new nb)) .nil))⟩
def uEnum (ua : UTa) : UTl := fun ρ Q => uVs ua ρ fun Ts ρ1 => ∃ Us, Ts = [.seq false Us] /\ Q (Us.mapIdx fun i T => .seq true [iT (i : Nat), T]) ρ1
theorem ui_enum {a : Expr} {ua : UTa} {es : List Expr} {ek : Nat} {p pos pos' : Pos} (hg : Gl X "enumerate") (hm : X.mg "enumerate" = none) (ha : UA X F [a] ua) (hs : starEach [a] X.env = [(false, eval a X.env)] := by rfl) : UI X F (.Tuple es ek pos') (.Call (.Name "enumerate" p) [a] [] pos) (uEnum ua) := ⟨PI.imp (pi_enum hg hm ha.pa hs) fun σ H R ⟨ρ, Q, fr, hu, k⟩ => by
 refine ⟨ρ, _, fr, hu, fun xs as H1 ρ1 s1 p1 q1 => ?_⟩
 obtain ⟨Ts, rfl, Us, rfl, q⟩ := vsK_ex q1
 cases vas_of p1 with
 | cons v t =>
  cases t
  obtain ⟨a, xs, rfl, hq, z, p⟩ := v.seqI
  exact ⟨a, rfl, ⟨xs, seq_of hq⟩, k _ _ _ _ s1 (is_enum hq p) q⟩⟩
end
abbrev UG := Tv -> PEnv -> (PEnv -> Prop) -> Prop
abbrev UGs := List Tv -> PEnv -> (PEnv -> Prop) -> Prop
def liftG (K : PySem.W.Frag) (F : Fm) (m : Nat) (g : UG) : TG := fun v σ H QQ => ∃ T ρ Q, VA K H v T /\ FrOk K F ρ σ H /\ g T ρ Q /\ ∀ σ' ρ', FrOk K F ρ' σ' H -> σ'.length = σ.length -> σ'.drop m = σ.drop m -> ρ'.drop m = ρ.drop m -> Sbv ρ' ρ -> Q ρ' -> QQ σ' H
def liftGs (K : PySem.W.Frag) (F : Fm) (m : Nat) (g : UGs) : TGs := fun vs σ H QQ => ∃ Ts ρ Q, VAs K H vs Ts /\ FrOk K F ρ σ H /\ g Ts ρ Q /\ ∀ σ' ρ', FrOk K F ρ' σ' H -> σ'.length = σ.length -> σ'.drop m = σ.drop m -> ρ'.drop m = ρ.drop m -> Sbv ρ' ρ -> Q ρ' -> QQ σ' H
structure UGt (X : Cx) (F : Fm) (m : Nat) (tg : Expr) (g : UG) : Prop where
 pg : PG X tg (liftG X.K F m g)
structure UGts (X : Cx) (F : Fm) (m : Nat) (tgs : List Expr) (g : UGs) : Prop where
 pg : PGs X tgs (liftGs X.K F m g)
theorem PG.imp {X : Cx} {tg : Expr} {t t' : TG} (h : PG X tg t) (i : ∀ v σ H Q, t' v σ H Q -> t v σ H Q) : PG X tg t' := fun pins s σ H v u Q I r q => h pins s σ H v u Q I r (i v σ H Q q)
theorem PGs.imp {X : Cx} {tg : List Expr} {t t' : TGs} (h : PGs X tg t) (i : ∀ v σ H Q, t' v σ H Q -> t v σ H Q) : PGs X tg t' := fun pins s σ H v u Q I r q => h pins s σ H v u Q I r (i v σ H Q q)
section
variable {X : Cx} {F : Fm} {pos : Pos} {m : Nat}
def gN (i : Nat) : UG := fun T ρ Q => Q (ρ.set i (.va T))
theorem drop_set {α : Type} {l : List α} {i m : Nat} {x : α} (h : i < m) : (l.set i x).drop m = l.drop m := by
 rw [List.drop_set, if_pos h]
theorem sbv_set {ρ : PEnv} {i : Nat} {T : Tv} : Sbv (ρ.set i (.va T)) ρ := fun j s e mm => by
 by_cases z : i = j
 ·subst z
  have hi : i < ρ.length := by
   have := (List.getElem?_eq_some_iff.mp e).1
   rwa [List.length_set] at this
  rw [List.getElem?_set_self hi] at e
  cases e; cases mm
 ·rw [List.getElem?_set_ne z] at e; exact ⟨s, e, mm⟩
theorem ug_name (i : Nat) {x : Str} (hm : i < m) (hN : X.N.Nodup) (hi : X.N[i]? = some x) (hx : Loc X.env.scope x) (hf : X.fn x = true \/ X.env.scope.names.lookup x = some .local := by first | exact .inl rfl | exact .inr rfl | assumption) : UGt X F m (.Name x pos) (gN i) := ⟨PG.imp (pg_name hN hi hx hf) fun v σ H QQ ⟨T, ρ, Q, vv, fr, h, k⟩ =>
 k _ _ (fr.set (s := .va T) (fun _ => ⟨v, rfl, vv⟩) (fun z => absurd z Bool.false_ne_true)) List.length_set (drop_set hm) (drop_set hm) sbv_set h⟩
def gT (n : Nat) (g : UGs) : UG := fun T ρ Q => ∃ Ts, T = .seq true Ts /\ Ts.length = n /\ g Ts ρ Q
def gNl : UGs := fun Ts ρ Q => Ts = [] /\ Q ρ
def gCn (g : UG) (gs : UGs) : UGs := fun Ts ρ Q => ∃ T r, Ts = T :: r /\ g T ρ fun ρ1 => gs r ρ1 Q
theorem ugs_nil : UGts X F m [] gNl := ⟨PGs.imp pgs_nil fun vs σ H QQ ⟨Ts, ρ, Q, vv, fr, ⟨e, h⟩, k⟩ => by
 subst e
 cases vv
 exact ⟨rfl, k _ _ fr rfl rfl rfl (Sbv.refl _) h⟩⟩
theorem ugs_cons {e : Expr} {es : List Expr} {g : UG} {gs : UGs} (h1 : UGt X F m e g) (h2 : UGts X F m es gs) (hs : (assignEach (e :: es) X.env).map (·.2) = assign e X.env :: (assignEach es X.env).map (·.2) := by rfl) : UGts X F m (e :: es) (gCn g gs) := ⟨PGs.imp (pgs_cons h1.pg h2.pg hs) fun vs σ H QQ ⟨Ts, ρ, Q, vv, fr, ⟨T, r, e, h⟩, k⟩ => by
 subst e
 cases vv with
 | cons v vs' =>
  refine ⟨_, _, rfl, T, ρ, _, v, fr, h, fun σ' ρ' f' l d dr sb q => ⟨r, ρ', Q, vs', f', q, fun σ2 ρ2 f2 l2 d2 dr2 sb2 q2 => ?_⟩⟩
  exact k _ _ f2 (l2.trans l) (d2.trans d) (dr2.trans dr) (sb.trans sb2) q2⟩
theorem ug_tup {es : List Expr} {k : Nat} {g : UGs} (n : Nat) (hc : X.calm = true) (h : UGts X F m es g) (hn : (assignEach es X.env).length = n := by rfl) (hst : (assignEach es X.env).findIdx? (·.1) = none := by rfl) : UGt X F m (.Tuple es k pos) (gT n g) := ⟨PG.imp (pg_tup hc h.pg hn hst) fun v σ H QQ ⟨T, ρ, Q, vv, fr, ⟨Ts, e, el, h⟩, k⟩ => by
 subst e
 obtain ⟨a, xs, rfl, hq, z, p⟩ := vv.seqI
 exact ⟨a, xs, rfl, hq, (Paired.length p).trans el, Ts, ρ, Q, p, fr, h, k⟩⟩
end
def blk (own : Nat) (fr : List Nat) (ρ : PEnv) : PEnv := List.replicate own .no ++ fr.map fun i => ρ.getD i .no
def putBack : List Nat -> List Sl -> PEnv -> PEnv
 | i :: fr, s :: ss, ρ => putBack fr ss (ρ.set i s)
 | _, _, ρ => ρ
def bck (own : Nat) (fr : List Nat) (ρ ρ' : PEnv) : PEnv := putBack fr (ρ'.drop own) ρ
def compT (own : Nat) (fr : List Nat) (g : UG) (tf : UTt) (ue : UT) : List Tv -> PEnv -> (List Tv -> PEnv -> Prop) -> Prop
 | [], ρ, Q => Q [] ρ
 | T :: Ts, ρ, Q => g T (blk own fr ρ) fun ρ1 => tf ρ1 fun b ρ2 => if b = true then ue ρ2 fun U ρ3 => compT own fr g tf ue Ts (bck own fr ρ ρ3) fun Us ρ4 => Q (U :: Us) ρ4 else compT own fr g tf ue Ts (bck own fr ρ ρ2) Q
def uComp (own : Nat) (fr : List Nat) (ui : UTl) (g : UG) (tf : UTt) (ue : UT) : UTl := fun ρ Q => ui ρ fun Ts ρ1 => Ts.length <= 100000 /\ compT own fr g tf ue Ts ρ1 Q
theorem putBack_len : ∀ (fr : List Nat) (ss : List Sl) (ρ : PEnv), (putBack fr ss ρ).length = ρ.length
 | [], _, _ => rfl
 | _ :: _, [], _ => rfl
 | i :: fr, s :: ss, ρ => by show (putBack fr ss _).length = _; rw [putBack_len fr ss, List.length_set]
theorem putBack_get : ∀ (fr : List Nat) (ss : List Sl) (ρ : PEnv) (i : Nat) (s : Sl), fr.length <= ss.length -> (putBack fr ss ρ)[i]? = some s -> (∃ j : Nat, fr[j]? = some i /\ ss[j]? = some s) \/ (i ∉ fr /\ ρ[i]? = some s)
 | [], _, _, i, s, _, h => .inr ⟨by simp, h⟩
 | _ :: _, [], _, _, _, l, _ => by simp at l
 | i0 :: fr, s0 :: ss, ρ, i, s, l, h => by
  rcases putBack_get fr ss (ρ.set i0 s0) i s (by simpa using l) h with ⟨j, e1, e2⟩ | ⟨n, e⟩
  ·exact .inl ⟨j + 1, by simpa using e1, by simpa using e2⟩
  ·by_cases z : i0 = i
   ·subst z
    have hi : i0 < ρ.length := by
     have := (List.getElem?_eq_some_iff.mp e).1
     rwa [List.length_set] at this
    rw [List.getElem?_set_self hi] at e
    exact .inl ⟨0, rfl, by simpa using e⟩
   ·rw [List.getElem?_set_ne z] at e
    exact .inr ⟨by simp [n, Ne.symm z], e⟩
theorem ixv_block {own : Nat} {fr : List Nat} {σ ow : St} (ho : ow.length = own) {j i : Nat} (h : fr[j]? = some i) : ixv (ow ++ σf fr σ) (own + j) = ixv σ i := by
 unfold ixv σf
 rw [List.getElem?_append_right (by omega), show own + j - ow.length = j by omega, List.getElem?_map, h]
 show (some (σ.getD i none)).join = _
 rw [List.getD_eq_getElem?_getD]
 cases σ[i]? with
 | none => rfl
 | some o => rfl
section
variable {K : PySem.W.Frag} {F : Fm} {ρ ρ4 ρ6 : PEnv} {σ ow : St} {H H6 : Hp} {own : Nat} {fr : List Nat}
theorem blk_get {i : Nat} {s : Sl} (h : (blk own fr ρ)[i]? = some s) : (i < own /\ s = .no) \/ ∃ j k, i = own + j /\ fr[j]? = some k /\ s = ρ.getD k .no := by
 unfold blk at h
 by_cases hi : i < own
 ·rw [List.getElem?_append_left (by simpa using hi), List.getElem?_replicate, if_pos hi] at h
  exact .inl ⟨hi, (Option.some.inj h).symm⟩
 ·rw [List.getElem?_append_right (by simpa using hi), List.length_replicate, List.getElem?_map] at h
  obtain ⟨k, e, rfl⟩ := Option.map_eq_some_iff.mp h
  exact .inr ⟨i - own, k, by omega, e, rfl⟩
theorem getD_mut {k : Nat} {s : Sl} (e : s = ρ.getD k .no) (m : s ≠ .no) : ρ[k]? = some s := by
 rw [List.getD_eq_getElem?_getD] at e
 cases q : ρ[k]? with
 | none => rw [q] at e; exact absurd e m
 | some t => rw [q] at e; rw [e]; rfl
theorem FrOk.pick (f : FrOk K F ρ σ H) (nd : fr.Nodup) : FrOk K F (blk own fr ρ) (σc own fr σ) H := by
 have val : ∀ {j k : Nat}, fr[j]? = some k -> ixv (σc own fr σ) (own + j) = ixv σ k := fun h => ixv_block (List.length_replicate) h
 refine ⟨f.d0, f.r0, f.kp, ?_, fun i s e => ?_, fun i i' a s t e e' m m' q q' => ?_⟩
 ·unfold blk σc σf
  simp
 ·rcases blk_get e with ⟨_, rfl⟩ | ⟨j, k, rfl, ek, es⟩
  ·trivial
  ·rw [val ek]
   cases s with
   | no => trivial
   | _ => exact f.at_ k _ (getD_mut es (fun z => by cases z))
 ·rcases blk_get e with ⟨_, rfl⟩ | ⟨j, k, rfl, ek, es⟩
  ·cases m
  ·rcases blk_get e' with ⟨_, rfl⟩ | ⟨j', k', rfl, ek', es'⟩
   ·cases m'
   ·rw [val ek] at q
    rw [val ek'] at q'
    have := f.ap k k' a s t (getD_mut es (fun z => by rw [z] at m; cases m)) (getD_mut es' (fun z => by rw [z] at m'; cases m')) m m' q q'
    subst this
    have h1 := (List.getElem?_eq_some_iff.mp ek).1
    rw [(List.getElem?_inj h1 nd).mp (ek.trans ek'.symm)]
theorem Stp.back (f : FrOk K F ρ σ H) (nd : fr.Nodup) (s : Stp K F (ow ++ σf fr σ) ρ4 H ρ6 H6) (f4 : FrOk K F ρ4 (ow ++ σf fr σ) H) (ho : ow.length = own) (hd : ρ4.drop own = (blk own fr ρ).drop own) (sb : Sbv ρ4 (blk own fr ρ)) : Stp K F σ ρ H (bck own fr ρ ρ6) H6 := by
 -- a slot of the block that is one's own is the def's own
 have dm : ∀ (i : Nat) (t : Sl) (a : Addr), ρ4[i]? = some t -> mutb t = true -> ixv (ow ++ σf fr σ) i = some (.ref a) -> ∃ k u, k ∈ fr /\ ρ[k]? = some u /\ mutb u = true /\ ixv σ k = some (.ref a) := fun i t a e m q => by
  obtain ⟨u, eu, mu⟩ := sb i t e m
  rcases blk_get eu with ⟨_, rfl⟩ | ⟨j, k, rfl, ek, es⟩
  ·cases mu
  ·exact ⟨k, u, List.mem_of_getElem? ek, getD_mut es (fun z => by rw [z] at mu; cases mu), mu, by rw [<- ixv_block ho ek]; exact q⟩
 have st : Stay F ρ σ H H6 := fun b o e d n => s.st b o e d fun i t e1 m q => by
  obtain ⟨k, u, _, eu, mu, qu⟩ := dm i t b e1 m q
  exact n k u eu mu qu
 have l6 : fr.length <= (ρ6.drop own).length := by
  have := s.fr.len
  rw [List.length_append] at this
  rw [List.length_drop, this, ho]
  unfold σf
  rw [List.length_map]
  omega
 have sub : Sbv (bck own fr ρ ρ6) ρ := fun i t e m => by
  rcases putBack_get fr _ ρ i t l6 e with ⟨j, ej, et⟩ | ⟨_, e⟩
  ·rw [List.getElem?_drop] at et
   obtain ⟨u, eu, mu⟩ := s.sub _ t et m
   have : (ρ4.drop own)[j]? = some u := by rw [List.getElem?_drop]; exact eu
   rw [hd, List.getElem?_drop] at this
   rcases blk_get this with ⟨z, _⟩ | ⟨j', k, ejj, ek, es⟩
   ·omega
   ·have : j' = j := by omega
    subst this
    rw [ej] at ek; cases ek
    exact ⟨u, getD_mut es (fun z => by rw [z] at mu; cases mu), mu⟩
  ·exact ⟨t, e, m⟩
 have hs : HS H H6 := s.hs f4
 refine ⟨⟨f.d0, f.r0, s.fr.kp, by unfold bck; rw [putBack_len]; exact f.len, fun i t e => ?_, fun i i' a t t' e e' m m' q q' => ?_⟩, st, sub, s.tr⟩
 ·rcases putBack_get fr _ ρ i t l6 e with ⟨j, ej, et⟩ | ⟨ni, e⟩
  ·rw [List.getElem?_drop] at et
   have := s.fr.at_ _ t et
   rwa [ixv_block ho ej] at this
  ·have h := f.at_ i t e
   have keep : ∀ a o, mutb t = true -> ixv σ i = some (.ref a) -> H a = some o -> H6 a = some o := fun a o m q e1 => s.st a o e1 (f.mut_nodk e m q) fun i' t' e2 m2 q2 => by
    obtain ⟨k, u, hk, eu, mu, qu⟩ := dm i' t' a e2 m2 q2
    have := f.ap k i a u t eu e mu m qu q
    subst this
    exact ni hk
   cases t with
   | no => trivial
   | va T => obtain ⟨y, e1, v⟩ := h; exact ⟨y, e1, v.hs hs⟩
   | own Ts => obtain ⟨a, xs, e1, e2, e3, z, p⟩ := h; exact ⟨a, xs, e1, keep a _ rfl e1 e2, e3, z, p.hs hs⟩
   | dct kts => obtain ⟨a, kvs, e1, e2, e3, n, z, p⟩ := h; exact ⟨a, kvs, e1, keep a _ rfl e1 e2, e3, n, z, p.hs hs⟩
   | dk => exact h
   | fn _ => exact h
   | rd t' p => obtain ⟨a, C, e1, e2, dx, e3⟩ := h; exact ⟨a, C, e1, e2, dx, keep a _ rfl e2 e3⟩
 ·obtain ⟨u, eu, mu⟩ := sub i t e m
  obtain ⟨u', eu', mu'⟩ := sub i' t' e' m'
  exact f.ap i i' a u u' eu eu' mu mu' q q'
end
theorem lift_comp {K : PySem.W.Frag} {F : Fm} {own : Nat} {fr : List Nat} {ui : UTl} {g : UG} {tf : UTt} {ue : UT} (nd : fr.Nodup) (σ : St) (H : Hp) (QQ : VK) (h : liftL K F (uComp own fr ui g tf ue) σ H QQ) : tComp own fr (liftI K F ui) (liftG K F own g) (liftT K F tf) (liftE K F ue) σ H QQ := by
 obtain ⟨ρ, Q, f, h, k⟩ := h
 refine ⟨ρ, _, f, h, fun J Ts H1 ρ1 s1 it q1 a na => ?_⟩
 obtain ⟨len, q1⟩ := q1
 refine ⟨Ts.length, fun i ys H2 => ∃ Us ρi, Stp K F σ ρ1 H1 ρi H2 /\ VAs K H2 ys Us /\ Us.length <= i /\ compT own fr g tf ue (Ts.drop i) ρi (fun Vs ρ' => Q (Us ++ Vs) ρ'), ⟨[], ρ1, Stp.same s1.fr (same_new na), .nil, Nat.le_refl _, q1⟩, ?_⟩
 rintro i ys H2 hi ha ⟨Us, ρi, si, p, hl, q⟩
 have hs1 := si.hs s1.fr
 obtain ⟨go, yld, stop⟩ := it H2 hs1
 by_cases hlt : i < Ts.length
 ·refine .inr ⟨hlt, go i hlt, fun x H3 hy => ?_⟩
  obtain ⟨sm, T, eT, vx⟩ := yld i x H3 hlt hy
  have s3 := si.trans (Stp.same si.fr sm)
  have ha3 := sm _ _ ha
  have ed : Ts.drop i = T :: Ts.drop (i + 1) := by
   rw [List.drop_eq_getElem_cons hlt]
   congr 1
   rw [List.getElem?_eq_getElem hlt] at eT
   exact Option.some.inj eT
  rw [ed] at q
  have nodk := s1.fr.none_nodk na
  have nown := s3.notown s1.fr na
  refine ⟨T, blk own fr ρi, _, vx, s3.fr.pick nd, q, fun σ4 ρ4 f4 l4 d4 dr4 sb4 q4 => ?_⟩
  have e4 : σ4 = σ4.take own ++ σf fr σ := by
   have : σ4.drop own = σf fr σ := by
    rw [d4]
    unfold σc
    rw [List.drop_append_of_le_length (by simp), List.drop_of_length_le (by simp), List.nil_append]
   rw [<- this, List.take_append_drop]
  have lo : (σ4.take own).length = own := by
   rw [List.length_take, l4]
   unfold σc
   simp
  have notin : ∀ (j : Nat) (t : Sl), ρ4[j]? = some t -> mutb t = true -> ixv σ4 j ≠ some (.ref a) := fun j t e m z => by
   obtain ⟨u, eu, mu⟩ := sb4 j t e m
   rcases blk_get eu with ⟨_, rfl⟩ | ⟨j', k, rfl, ek, es⟩
   ·cases mu
   ·rw [e4, ixv_block lo ek] at z
    exact nown k u (getD_mut es (fun z => by rw [z] at mu; cases mu)) mu z
  refine ⟨⟨σ4.take own, lo, e4⟩, ρ4, _, f4, q4, fun b H5 ρ5 s5 q5 => ?_⟩
  have a5 : H5 a = some (.lst ys) := s5.st a _ ha3 nodk notin
  cases b with
  | true =>
   refine iteT ?_
   rw [if_pos rfl] at q5
   refine ⟨ρ5, _, s5.fr, q5, fun y U H6 ρ6 s6 v6 q6 => ?_⟩
   have s46 := s5.trans s6
   have a6 : H6 a = some (.lst ys) := s46.st a _ ha3 nodk notin
   have lys : ys.length = Us.length := Paired.length p
   refine ⟨a6, line_lt (by omega), Us ++ [U], bck own fr ρi ρ6, ?_, ?_, by rw [List.length_append, List.length_singleton]; omega, ?_⟩
   ·rw [e4] at s46 f4
    exact (s3.trans (Stp.back s3.fr nd s46 f4 lo dr4 sb4)).put s1.fr na a6 rfl _
   ·have h36 := s46.hs f4
    exact VAs.hs (hs_put a6 rfl) (Paired.snoc ((p.hs sm.hs).hs h36) v6)
   ·simpa using q6
  | false =>
   refine iteF ?_
   rw [if_neg Bool.false_ne_true] at q5
   refine ⟨a5, Us, bck own fr ρi ρ5, ?_, ?_, by omega, q5⟩
   ·rw [e4] at s5 f4
    exact s3.trans (Stp.back s3.fr nd s5 f4 lo dr4 sb4)
   ·exact (p.hs sm.hs).hs (s5.hs f4)
 ·have e : i = Ts.length := by omega
  subst e
  rw [List.drop_length] at q
  have q : Q (Us ++ []) ρi := q
  rw [List.append_nil] at q
  exact .inl ⟨stop, k a ys Us H2 ρi (s1.trans si) (s1.non na) ha (by omega) p q⟩
section
variable {X : Cx} {F : Fm} {sc : Scope} {XN N : List Str} {own : Nat} {fr : List Nat} {scope : Scope} {elt tg iter : Expr} {ifs : List Expr} {pos : Pos} {ui : UTl} {g : UG} {tf : UTt} {ue : UT}
structure UF (X : Cx) (F : Fm) (ifs : List Expr) (u : UTt) : Prop where
 pf : PFs X ifs (liftT X.K F u)
theorem uf_one {c : Expr} {t : UTt} (h : UB X F c t) : UF X F [c] t := ⟨pf_one h.pt⟩
theorem ul_comp (hc : X.calm = true) (S : CompScope sc XN N own fr scope) (nd : fr.Nodup) (hi : UI X F tg iter ui)
  (hg : ∀ cl C fp s H, UGt (cxComp X N scope cl C fp s H) F own tg g) (hf : ∀ cl C fp s H, UF (cxComp X N scope cl C fp s H) F ifs tf) (he : ∀ cl C fp s H, UE (cxComp X N scope cl C fp s H) F elt ue)
  (hs : ∀ x, foldedSetIterable iter X.env x = pure x := by intro _; rfl) (hsc : X.env.scope = sc := by rfl) (hxn : X.N = XN := by rfl) : UL X F (.ListComp elt [⟨tg, iter, ifs, 0⟩] scope pos) (uComp own fr ui g tf ue) :=
 ⟨PE.imp (pe_comp hc S hi.pi (fun cl C fp s H => (hg cl C fp s H).pg) (fun cl C fp s H => (hf cl C fp s H).pf) (fun cl C fp s H => (he cl C fp s H).pe) hs hsc hxn) (lift_comp nd)⟩
def forT (g : UG) (ub : UTs) : List Tv -> PEnds -> PEnv -> Prop
 | [], P, ρ => P.nx ρ
 | T :: Ts, P, ρ => g T ρ fun ρ1 => ub { P with nx := fun ρ' => forT g ub Ts P ρ', ct := fun ρ' => forT g ub Ts P ρ', bk := P.nx } ρ1
def sFor (ui : UTl) (g : UG) (ub : UTs) : UTs := fun P ρ => ui ρ fun Ts ρ1 => forT g ub Ts P ρ1
theorem us_for {body : List Stmt} {ub : UTs} {m : Nat} (hp : PassesOwn (model X.prog X.w) X.A X.env X.xe) (hc : X.calm = true) (hi : UI X F tg iter ui) (hg : UGt X F m tg g) (hb : USs X F body ub)
  (hs : ∀ x, foldedSetIterable iter X.env x = pure x := by intro _; rfl) : US X F (.For tg iter body [] pos) (sFor ui g ub) := ⟨PS.imp (ps_for hp hc hi.pi hg.pg hb.ps hs) fun D σ H ⟨ρ, P, f, h, k1, k2, k3, k4⟩ => by
 refine ⟨ρ, _, f, h, fun J Ts H1 ρ1 s1 it q1 => ?_⟩
 have h01 := s1.hs f
 refine ⟨fun i m σ' H' => m = Ts.length - i /\ i <= Ts.length /\ HS H1 H' /\ ∃ ρi, FrOk X.K F ρi σ' H' /\ forT g ub (Ts.drop i) P ρi, ⟨_, rfl, Nat.zero_le _, HS.refl _, ρ1, s1.fr, q1⟩, ?_⟩
 rintro i m σ' H' ⟨rfl, hi, hs, ρi, fi, q⟩
 obtain ⟨go, yld, stop⟩ := it H' hs
 by_cases hlt : i < Ts.length
 ·refine .inr ⟨go i hlt, fun σ2 H2 => HS H1 H2 /\ ∃ ρ2, FrOk X.K F ρ2 σ2 H2 /\ forT g ub (Ts.drop (i + 1)) P ρ2, fun σ2 H2 ⟨hs2, ρ2, f2, q2⟩ => ⟨_, by omega, rfl, hlt, hs2, ρ2, f2, q2⟩, fun x H3 hy => ?_⟩
  obtain ⟨sm, T, eT, vx⟩ := yld i x H3 hlt hy
  have ed : Ts.drop i = T :: Ts.drop (i + 1) := by
   rw [List.drop_eq_getElem_cons hlt]
   congr 1
   rw [List.getElem?_eq_getElem hlt] at eT
   exact Option.some.inj eT
  rw [ed] at q
  have f3 := (Stp.same fi sm).fr
  refine ⟨T, ρi, _, vx, f3, q, fun σ4 ρ4 f4 _ _ _ _ q4 => ?_⟩
  have h13 := hs.trans sm.hs
  exact ⟨ρ4, _, f4, q4, fun σ5 H5 ρ5 f5 hs5 q5 => ⟨h13.trans hs5, ρ5, f5, q5⟩, k2, fun σ5 H5 ρ5 f5 hs5 q5 => k1 _ _ _ f5 (h01.trans (h13.trans hs5)) q5, fun σ5 H5 ρ5 f5 hs5 q5 => ⟨h13.trans hs5, ρ5, f5, q5⟩⟩
 ·have e : i = Ts.length := by omega
  subst e
  rw [List.drop_length] at q
  exact .inl ⟨stop, k1 _ _ _ fi (h01.trans hs) q⟩⟩
end
end L2
namespace L2
open PySem PySem.Spec PyProof.Rows WordM
section
variable {X : Cx} {F : Fm} {e : Expr} {u : UT} {x : Str} {p apos cpos pos : Pos}
theorem paired_getR {α β : Type} {R : α -> β -> Prop} : ∀ {l : List α} {m : List β} {n : Nat} {y : β}, Paired R l m -> m[n]? = some y -> ∃ x, l[n]? = some x /\ R x y
 | _, _, _, _, .nil, e => by simp at e
 | _, _, 0, _, .cons r _, e => by simp at e; subst e; exact ⟨_, rfl, r⟩
 | _, _, n + 1, _, .cons _ t, e => by
  obtain ⟨x, h1, h2⟩ := paired_getR (n := n) t (by simpa using e)
  exact ⟨x, by simpa using h1, h2⟩
end
end L2
namespace L2
open PySem PySem.Spec PyProof.Rows WordM
mutual
def eqT : Tv -> Tv -> Bool
 | .leaf v, .leaf w => eqV v w
 | .seq s xs, .seq t ys => s == t && eqTs xs ys
 | _, _ => false
def eqTs : List Tv -> List Tv -> Bool
 | [], [] => true
 | x :: xs, y :: ys => eqT x y && eqTs xs ys
 | _, _ => false
end
def EqD : Nat -> Tv -> Prop
 | 0, _ => False
 | _ + 1, .leaf _ => True
 | n + 1, .seq _ xs => ∀ U ∈ xs, EqD n U
 | _ + 1, .dct _ => False
theorem eqTs_len : ∀ {xs ys : List Tv}, xs.length ≠ ys.length -> eqTs xs ys = false
 | [], [], h => absurd rfl h
 | [], _ :: _, _ => by simp [eqTs]
 | _ :: _, [], _ => by simp [eqTs]
 | x :: xs, y :: ys, h => by
  have := eqTs_len (xs := xs) (ys := ys) (fun e => h (by simp [e]))
  simp [eqTs, this]
theorem eqTs_range : ∀ {xs ys : List Tv}, xs.length = ys.length -> (List.range xs.length).all (fun i => eqT (xs.getD i nT) (ys.getD i nT)) = eqTs xs ys
 | [], [], _ => by simp [eqTs]
 | [], _ :: _, h => by simp at h
 | _ :: _, [], h => by simp at h
 | x :: xs, y :: ys, h => by
  have ih := eqTs_range (xs := xs) (ys := ys) (by simpa using h)
  rw [List.length_cons, List.range_succ_eq_map, List.all_cons, List.all_map]
  show (eqT x y && (List.range xs.length).all fun i => eqT (xs.getD i nT) (ys.getD i nT)) = eqTs (x :: xs) (y :: ys)
  rw [ih]
  simp [eqTs]
theorem EqD.vp {K : PySem.W.Frag} {H : Hp} : ∀ {n d : Nat} {x : V} {T : Tv}, EqD n T -> VP K H d x T -> VP K H n x T
 | 0, _, _, _, h, _ => False.elim h
 | _ + 1, 0, _, _, _, h => False.elim h
 | n + 1, d + 1, x, T, h, v => by
  rcases v with v | ⟨t, a, xs, Ts, e1, e2, rfl, z, p⟩ | ⟨a, kvs, kts, e1, e2, rfl, _⟩
  ·exact .inl v
  ·have g : ∀ U ∈ Ts, EqD n U := h
   refine .inr (.inl ⟨t, a, xs, Ts, e1, e2, rfl, z, ?_⟩)
   clear e2 z h
   induction p with
   | nil => exact .nil
   | cons r _ ih => exact .cons ((g _ (.head _)).vp r) (ih fun U hU => g U (.tail _ hU))
  ·exact False.elim h
section
variable {X : Cx} {pins : List (Addr × Obj)} {σ : St} {H : Hp} {s : Shared}
theorem eqV_refl {v : V} (h : flatV v = true) : eqV v v = true := by
 cases v <;> first | exact absurd h Bool.false_ne_true | simp [eqV]
theorem PSeq.isList {a : Addr} {xs : List V} (I : Inv X pins σ H s) (h : PSeq X.K H false a xs) : ∃ its : List Value, Vals xs its /\ s.heap.IsList a its.toArray := by
 obtain ⟨its, r, p, _⟩ := I.list (seq_of h)
 exact ⟨its, r, p.isList⟩
theorem PSeq.isTup {a : Addr} {xs : List V} (I : Inv X pins σ H s) (h : PSeq X.K H true a xs) : ∃ its : List Value, Vals xs its /\ s.heap.IsTuple a its.toArray := by
 obtain ⟨its, r, p, _⟩ := I.tuple h
 exact ⟨its, r, p⟩
theorem eq_self (I : Inv X pins σ H s) : ∀ {n : Nat} {x : V} {T U : Tv}, VP X.K H n x T -> VP X.K H n x U -> EqD n T -> EqD n U -> eqT T U = true
 | 0, _, _, _, h, _, _, _ => False.elim h
 | n + 1, x, T, U, h, h', d, d' => by
  rcases h with ⟨f, rfl⟩ | ⟨t, a, xs, Ts, rfl, e2, rfl, z, p⟩ | ⟨a, kvs, kts, rfl, e2, rfl, _⟩
  ·rcases h' with ⟨_, rfl⟩ | ⟨t', a', xs', Ts', rfl, _⟩ | ⟨a', kvs', kts', rfl, _⟩
   ·simp [eqT, eqV_refl f]
   ·cases f
   ·cases f
  ·rcases h' with ⟨f, rfl⟩ | ⟨t', a', xs', Ts', e1', e2', rfl, z', p'⟩ | ⟨a', kvs', kts', e1', e2', rfl, _⟩
   ·cases f
   ·cases e1'
    have tt : t = t' := by
     cases t <;> cases t' <;> first | rfl | skip
     ·obtain ⟨_, _, l1⟩ := PSeq.isList I e2
      obtain ⟨_, _, l2⟩ := PSeq.isTup I e2'
      exact absurd rfl (SeqAt.ne_of_list_tuple l1 l2)
     ·obtain ⟨_, _, l1⟩ := PSeq.isList I e2'
      obtain ⟨_, _, l2⟩ := PSeq.isTup I e2
      exact absurd rfl (SeqAt.ne_of_list_tuple l1 l2)
    subst tt
    have ex : xs = xs' := by
     cases t with
     | false => exact I.list_inj (seq_of e2) (seq_of e2')
     | true => exact I.tuple_inj e2 e2'
    subst ex
    have d : ∀ U ∈ Ts, EqD n U := d
    have d' : ∀ U ∈ Ts', EqD n U := d'
    have key : ∀ {xs : List V} {Ts Ts' : List Tv}, Paired (VP X.K H n) xs Ts -> Paired (VP X.K H n) xs Ts' -> (∀ U ∈ Ts, EqD n U) -> (∀ U ∈ Ts', EqD n U) -> eqTs Ts Ts' = true := by
     intro xs Ts Ts' p
     induction p generalizing Ts' with
     | nil => intro p' _ _; cases p'; simp [eqTs]
     | cons r _ ih =>
      intro p' d d'
      cases p' with
      | cons r' t' => simp [eqTs, eq_self I r r' (d _ (.head _)) (d' _ (.head _)), ih t' (fun U hU => d U (.tail _ hU)) (fun U hU => d' U (.tail _ hU))]
    simp [eqT, key p p' d d']
   ·exact False.elim d'
  ·exact False.elim d
theorem flat_cases {x : V} (h : flatV x = true) : x = .non \/ (∃ b, x = .bl b) \/ (∃ i, x = .int i) \/ ∃ z, x = .str z := by
 cases x with
 | non => exact .inl rfl
 | bl b => exact .inr (.inl ⟨b, rfl⟩)
 | int i => exact .inr (.inr (.inl ⟨i, rfl⟩))
 | str z => exact .inr (.inr (.inr ⟨z, rfl⟩))
 | _ => exact absurd (show false = true from h) Bool.false_ne_true
open SeqAt in
theorem eq_leaf_seq (I : Inv X pins σ H s) {A : Around} (hu : A.units < cLine) {x : V} {v : Value} {t : Bool} {a : Addr} {xs : List V} (f : flatV x = true) (r : RelV x v) (h : PSeq X.K H t a xs) :
  EqAt A s v (.ref a) false /\ EqAt A s (.ref a) v false /\ RcAt A s v (.ref a) false /\ RcAt A s (.ref a) v false /\ RcNeAt A s v (.ref a) true /\ RcNeAt A s (.ref a) v true := by
 cases t with
 | false =>
  obtain ⟨_, _, l⟩ := PSeq.isList I h
  rcases flat_cases f with rfl | ⟨b, rfl⟩ | ⟨b, rfl⟩ | ⟨b, rfl⟩
  ·cases r; exact ⟨.none_list l hu, .list_none l hu, .none_list l hu, .list_none l hu, .none_list l hu, .list_none l hu⟩
  ·cases r; exact ⟨.bool_list b l hu, .list_bool b l hu, .bool_list b l hu, .list_bool b l hu, .bool_list b l hu, .list_bool b l hu⟩
  ·obtain ⟨t, rfl⟩ := r; exact ⟨.int_list b t l hu, .list_int b t l hu, .int_list b t l hu, .list_int b t l hu, .int_list b t l hu, .list_int b t l hu⟩
  ·obtain ⟨t, rfl⟩ := r; exact ⟨.str_list b t l hu, .list_str b t l hu, .str_list b t l hu, .list_str b t l hu, .str_list b t l hu, .list_str b t l hu⟩
 | true =>
  obtain ⟨_, _, l⟩ := PSeq.isTup I h
  rcases flat_cases f with rfl | ⟨b, rfl⟩ | ⟨b, rfl⟩ | ⟨b, rfl⟩
  ·cases r; exact ⟨.none_tuple l hu, .tuple_none l hu, .none_tuple l hu, .tuple_none l hu, .none_tuple l hu, .tuple_none l hu⟩
  ·cases r; exact ⟨.bool_tuple b l hu, .tuple_bool b l hu, .bool_tuple b l hu, .tuple_bool b l hu, .bool_tuple b l hu, .tuple_bool b l hu⟩
  ·obtain ⟨t, rfl⟩ := r; exact ⟨.int_tuple b t l hu, .tuple_int b t l hu, .int_tuple b t l hu, .tuple_int b t l hu, .int_tuple b t l hu, .tuple_int b t l hu⟩
  ·obtain ⟨t, rfl⟩ := r; exact ⟨.str_tuple b t l hu, .tuple_str b t l hu, .str_tuple b t l hu, .tuple_str b t l hu, .str_tuple b t l hu, .tuple_str b t l hu⟩
open SeqAt in
theorem rc_leaf {A : Around} {x y : V} {v u : Value} (fx : flatV x = true) (fy : flatV y = true) (rx : RelV x v) (ry : RelV y u) : RcAt A s v u (eqV x y) /\ RcNeAt A s v u (!eqV x y) := by
 rcases flat_cases fx with rfl | ⟨a, rfl⟩ | ⟨a, rfl⟩ | ⟨a, rfl⟩ <;> rcases flat_cases fy with rfl | ⟨b, rfl⟩ | ⟨b, rfl⟩ | ⟨b, rfl⟩
 ·cases rx; cases ry; exact ⟨.none_none, .none_none⟩
 ·cases rx; cases ry; exact ⟨.none_bool b, .none_bool b⟩
 ·cases rx; obtain ⟨t, rfl⟩ := ry; exact ⟨.none_int b t, .none_int b t⟩
 ·cases rx; obtain ⟨t, rfl⟩ := ry; exact ⟨.none_str b t, .none_str b t⟩
 ·cases rx; cases ry; exact ⟨.bool_none a, .bool_none a⟩
 ·cases rx; cases ry; exact ⟨.bool_bool a b, .bool_bool a b⟩
 ·cases rx; obtain ⟨t, rfl⟩ := ry; exact ⟨.bool_int a b t, .bool_int a b t⟩
 ·cases rx; obtain ⟨t, rfl⟩ := ry; exact ⟨.bool_str a b t, .bool_str a b t⟩
 ·obtain ⟨t', rfl⟩ := rx; cases ry; exact ⟨.int_none a t', .int_none a t'⟩
 ·obtain ⟨t', rfl⟩ := rx; cases ry; exact ⟨.int_bool a t' b, .int_bool a t' b⟩
 ·obtain ⟨t', rfl⟩ := rx; obtain ⟨t, rfl⟩ := ry; exact ⟨.int_int a t' b t, .int_int a t' b t⟩
 ·obtain ⟨t', rfl⟩ := rx; obtain ⟨t, rfl⟩ := ry; exact ⟨.int_str a t' b t, .int_str a t' b t⟩
 ·obtain ⟨t', rfl⟩ := rx; cases ry; exact ⟨.str_none a t', .str_none a t'⟩
 ·obtain ⟨t', rfl⟩ := rx; cases ry; exact ⟨.str_bool a t' b, .str_bool a t' b⟩
 ·obtain ⟨t', rfl⟩ := rx; obtain ⟨t, rfl⟩ := ry; exact ⟨.str_int a t' b t, .str_int a t' b t⟩
 ·obtain ⟨t', rfl⟩ := rx; obtain ⟨t, rfl⟩ := ry; exact ⟨.str_str a t' b t, .str_str a t' b t⟩
theorem vals_nth {xs : List V} {us : List Value} (r : Vals xs us) {j : Nat} (h : j < us.toArray.size) : ∃ x, xs[j]? = some x /\ RelV x us.toArray[j] := by
 have l := r.length
 have k : j < xs.length := by rw [l]; simpa using h
 obtain ⟨u, hu, ru⟩ := r.get (i := j) (x := xs[j]) (List.getElem?_eq_getElem k)
 refine ⟨_, List.getElem?_eq_getElem k, ?_⟩
 have e1 : us.toArray[j] = u := by
  obtain ⟨_, e⟩ := List.getElem?_eq_some_iff.mp hu
  simpa using e
 rw [e1]; exact ru
open SeqAt in
theorem rc_seq (I : Inv X pins σ H s) {A : Around} (hu : A.units < cLine) {t : Bool} {a b : Addr} {xs ys : List V} {Ts Us : List Tv} (ha : PSeq X.K H t a xs) (hb : PSeq X.K H t b ys) (lx : xs.length = Ts.length) (ly : ys.length = Us.length)
  (it : ∀ (j : Nat) (x y : V) (T U : Tv) (v u : Value), xs[j]? = some x -> ys[j]? = some y -> Ts[j]? = some T -> Us[j]? = some U -> RelV x v -> RelV y u -> EqAt A.in1 s v u (eqT T U)) : RcAt A s (.ref a) (.ref b) (eqTs Ts Us) /\ RcNeAt A s (.ref a) (.ref b) (!eqTs Ts Us) := by
 have item : ∀ {vs us : List Value}, Vals xs vs -> Vals ys us -> ∀ j (h1 : j < vs.toArray.size) (h2 : j < us.toArray.size), EqAt A.in1 s vs.toArray[j] us.toArray[j] (eqT (Ts.getD j nT) (Us.getD j nT)) := fun {vs us} r1 r2 j h1 h2 => by
  obtain ⟨x, ex, rx⟩ := vals_nth r1 h1
  obtain ⟨y, ey, ry⟩ := vals_nth r2 h2
  have k1 := (List.getElem?_eq_some_iff.mp ex).1
  have k2 := (List.getElem?_eq_some_iff.mp ey).1
  refine it j x y _ _ _ _ ex ey ?_ ?_ rx ry
  ·rw [List.getD_eq_getElem?_getD, List.getElem?_eq_getElem (by omega)]; rfl
  ·rw [List.getD_eq_getElem?_getD, List.getElem?_eq_getElem (by omega)]; rfl
 cases t with
 | false =>
  obtain ⟨vs, r1, l1⟩ := PSeq.isList I ha
  obtain ⟨us, r2, l2⟩ := PSeq.isList I hb
  have n1 := r1.length
  have n2 := r2.length
  by_cases hl : Ts.length = Us.length
  ·have e1 := RcAt.lists l1 l2 (by simp only [List.size_toArray]; omega) hu (item r1 r2)
   have e2 := RcNeAt.lists l1 l2 (by simp only [List.size_toArray]; omega) hu (item r1 r2)
   rw [show vs.toArray.size = Ts.length by rw [List.size_toArray]; omega, eqTs_range hl] at e1 e2
   exact ⟨e1, e2⟩
  ·rw [eqTs_len hl]
   have hne : (vs.toArray.size != us.toArray.size) = true := by
    rw [bne_iff_ne, List.size_toArray, List.size_toArray]; omega
   exact ⟨.lists_lengths l1 l2 hne hu, .lists_lengths l1 l2 hne hu⟩
 | true =>
  obtain ⟨vs, r1, l1⟩ := PSeq.isTup I ha
  obtain ⟨us, r2, l2⟩ := PSeq.isTup I hb
  have n1 := r1.length
  have n2 := r2.length
  have e1 := RcAt.tuples l1 l2 hu (item r1 r2)
  have e2 := RcNeAt.tuples l1 l2 hu (item r1 r2)
  have ee : ((List.range (min vs.toArray.size us.toArray.size)).all (fun i => eqT (Ts.getD i nT) (Us.getD i nT)) && vs.toArray.size == us.toArray.size) = eqTs Ts Us := by
   rw [show vs.toArray.size = Ts.length by rw [List.size_toArray]; omega, show us.toArray.size = Us.length by rw [List.size_toArray]; omega]
   by_cases hl : Ts.length = Us.length
   ·rw [<- hl, Nat.min_self, eqTs_range hl]; simp
   ·rw [eqTs_len hl, beq_eq_false_iff_ne.mpr hl, Bool.and_false]
  rw [ee] at e1 e2
  exact ⟨e1, e2⟩
open SeqAt in
theorem eq_tree (I : Inv X pins σ H s) : ∀ (n : Nat) {A : Around} {x y : V} {T U : Tv} {v u : Value}, A.units + n < cLine -> EqD n T -> EqD n U -> VP X.K H n x T -> VP X.K H n y U -> RelV x v -> RelV y u -> EqAt A s v u (eqT T U)
 | 0, _, _, _, _, _, _, _, _, h, _, _, _, _, _ => False.elim h
 | n + 1, A, x, y, T, U, v, u, hu, d, d', h, h', rx, ry => by
  have hu0 : A.units < cLine := by omega
  have hh := h
  have hh' := h'
  rcases h with ⟨f, rfl⟩ | ⟨t, a, xs, Ts, rfl, e2, rfl, z, p⟩ | ⟨a, kvs, kts, rfl, e2, rfl, _⟩
  ·rcases h' with ⟨f', rfl⟩ | ⟨t', a', xs', Ts', rfl, e2', rfl, z', p'⟩ | ⟨a', kvs', kts', rfl, _, rfl, _⟩
   ·have := eqAt_V (A := A) (s := s) rx ry f f'
    simpa [eqT] using this
   ·cases ry
    have := (eq_leaf_seq I hu0 f rx e2').1
    simpa [eqT] using this
   ·exact False.elim d'
  ·rcases h' with ⟨f', rfl⟩ | ⟨t', b, ys, Us, rfl, e2', rfl, z', p'⟩ | ⟨a', kvs', kts', rfl, _, rfl, _⟩
   ·cases rx
    have := (eq_leaf_seq I hu0 f' ry e2).2.1
    simpa [eqT] using this
   ·cases rx
    cases ry
    by_cases ab : a = b
    ·subst ab
     have := eq_self I hh hh' d d'
     rw [this]
     exact EqAt.same _
    ·by_cases tt : t = t'
     ·subst tt
      have d : ∀ U ∈ Ts, EqD n U := d
      have d' : ∀ U ∈ Us, EqD n U := d'
      have := (rc_seq I hu0 e2 e2' (Paired.length p) (Paired.length p') fun j x y T U v u ex ey eT eU rx ry => by
       obtain ⟨T', eT', vx⟩ := paired_get p ex
       obtain ⟨U', eU', vy⟩ := paired_get p' ey
       rw [eT] at eT'; cases eT'
       rw [eU] at eU'; cases eU'
       exact eq_tree I n (by show A.units + 1 + n < _; omega) (d _ (List.mem_of_getElem? eT)) (d' _ (List.mem_of_getElem? eU)) vx vy rx ry).1
      have r := EqAt.of_refs ab this
      simpa [eqT] using r
     ·have e : eqT (.seq t Ts) (.seq t' Us) = false := by simp [eqT, tt]
      rw [e]
      refine EqAt.of_refs ab ?_
      cases t <;> cases t' <;> first | exact absurd rfl tt | skip
      ·obtain ⟨_, _, l1⟩ := PSeq.isList I e2
       obtain ⟨_, _, l2⟩ := PSeq.isTup I e2'
       exact .list_tuple l1 l2 hu0
      ·obtain ⟨_, _, l1⟩ := PSeq.isTup I e2
       obtain ⟨_, _, l2⟩ := PSeq.isList I e2'
       exact .tuple_list l1 l2 hu0
   ·exact False.elim d'
  ·exact False.elim d
end
def EqOk (Ts Us : List Tv) : Prop := Ts = [] \/ Us = [] \/ ((∀ T ∈ Ts, EqD 40 T) /\ ∀ U ∈ Us, EqD 40 U)
def pEqB (neg : Bool) : P2
 | .leaf v, .leaf w, Q => Q (bT (neg != eqV v w))
 | .leaf _, .seq _ _, Q => Q (bT neg)
 | .seq _ _, .leaf _, Q => Q (bT neg)
 | .seq s xs, .seq t ys, Q => EqOk xs ys /\ Q (bT (neg != (s == t && eqTs xs ys)))
 | _, _, _ => False
section
variable {X : Cx}
open SeqAt in
theorem eq_pure {pins : List (Addr × Obj)} {σ : St} {H : Hp} {s : Shared} (I : Inv X pins σ H s) (hu : X.A.units + 64 < cLine) {neg : Bool} {x y : V} {T U : Tv} {v u : Value} {Q : Tv -> Prop} (vx : VA X.K H x T) (vy : VA X.K H y U) (rx : RelV x v) (ry : RelV y u) (h : pEqB neg T U Q) :
  ∃ b, Q (bT (neg != b)) /\ RcAt X.A s v u b /\ RcNeAt X.A s v u (!b) := by
 have hu0 : X.A.units < cLine := by omega
 unfold pEqB at h
 split at h
 ·obtain ⟨rfl, f⟩ := vx.leafI
  obtain ⟨rfl, f'⟩ := vy.leafI
  exact ⟨_, h, rc_leaf f f' rx ry⟩
 ·obtain ⟨rfl, f⟩ := vx.leafI
  obtain ⟨a, xs, rfl, hs, _⟩ := vy.seqI
  cases ry
  have r := eq_leaf_seq I hu0 f rx hs
  exact ⟨false, by simpa using h, r.2.2.1, r.2.2.2.2.1⟩
 ·obtain ⟨rfl, f⟩ := vy.leafI
  obtain ⟨a, xs, rfl, hs, _⟩ := vx.seqI
  cases rx
  have r := eq_leaf_seq I hu0 f ry hs
  exact ⟨false, by simpa using h, r.2.2.2.1, r.2.2.2.2.2⟩
 ·rename_i t Ts t' Us
  obtain ⟨ok, q⟩ := h
  obtain ⟨a, xs, rfl, hs, z, p⟩ := vx.seqI
  obtain ⟨b, ys, rfl, hs', z', p'⟩ := vy.seqI
  cases rx
  cases ry
  refine ⟨_, q, ?_⟩
  by_cases tt : t = t'
  ·subst tt
   have e : (t == t && eqTs Ts Us) = eqTs Ts Us := by simp
   rw [e]
   refine rc_seq I hu0 hs hs' (Paired.length p) (Paired.length p') fun j x y T U v u ex ey eT eU rx ry => ?_
   rcases ok with rfl | rfl | ⟨o1, o2⟩
   ·cases eT
   ·cases eU
   ·obtain ⟨T', eT', d, vx⟩ := paired_get p ex
    obtain ⟨U', eU', d', vy⟩ := paired_get p' ey
    rw [eT] at eT'; cases eT'
    rw [eU] at eU'; cases eU'
    have k1 := o1 _ (List.mem_of_getElem? eT)
    have k2 := o2 _ (List.mem_of_getElem? eU)
    exact eq_tree I 40 (by show X.A.units + 1 + 40 < _; omega) k1 k2 (k1.vp vx) (k2.vp vy) rx ry
  ·have e : (t == t' && eqTs Ts Us) = false := by simp [tt]
   rw [e]
   cases t <;> cases t' <;> first | exact absurd rfl tt | skip
   ·obtain ⟨_, _, l1⟩ := PSeq.isList I hs
    obtain ⟨_, _, l2⟩ := PSeq.isTup I hs'
    exact ⟨.list_tuple l1 l2 hu0, .list_tuple l1 l2 hu0⟩
   ·obtain ⟨_, _, l1⟩ := PSeq.isTup I hs
    obtain ⟨_, _, l2⟩ := PSeq.isList I hs'
    exact ⟨.tuple_list l1 l2 hu0, .tuple_list l1 l2 hu0⟩
 ·exact False.elim h
def rEqP (K : PySem.W.Frag) (neg : Bool) : R2 := fun x y H Q => ∃ T U, VA K H x T /\ VA K H y U /\ pEqB neg T U fun W => ∃ b, W = bT b /\ Q (.bl b) H
theorem op_eqP (hu : X.A.units + 64 < cLine) : OpR X (compareOp .Eq) (rEqP X.K false) := by
 rintro pins s σ H x y v u Q I rx ry ⟨T, U, vx, vy, h⟩
 obtain ⟨b, ⟨b', e, q⟩, r, _⟩ := eq_pure I hu vx vy rx ry h
 cases e
 exact r X.prog X.w X.xe _ ⟨.bl b, H, I, rfl, by simpa using q⟩
theorem op_neP (hu : X.A.units + 64 < cLine) : OpR X (compareOp .NotEq) (rEqP X.K true) := by
 rintro pins s σ H x y v u Q I rx ry ⟨T, U, vx, vy, h⟩
 obtain ⟨b, ⟨b', e, q⟩, _, r⟩ := eq_pure I hu vx vy rx ry h
 cases e
 exact r X.prog X.w X.xe _ ⟨.bl (!b), H, I, rfl, by simpa using q⟩
theorem pEqB_mono {neg : Bool} {T U : Tv} {Q Q' : Tv -> Prop} (h : pEqB neg T U Q) (i : ∀ b, Q (bT b) -> Q' (bT b)) : pEqB neg T U Q' := by
 unfold pEqB at h ⊢
 split at h
 ·exact i _ h
 ·exact i _ h
 ·exact i _ h
 ·exact ⟨h.1, i _ h.2⟩
 ·exact False.elim h
abbrev pEq : P2 := pEqB false
abbrev pNe : P2 := pEqB true
theorem pu_eq (hu : X.A.units + 64 < cLine) : PuCmp X (compareOp .Eq) pEq := ⟨_, op_eqP hu, fun x y T U H Q QQ vx vy h k => ⟨T, U, vx, vy, pEqB_mono h fun b q => ⟨b, rfl, k _ _ _ (Same.refl _) (.flat rfl) q⟩⟩⟩
theorem pu_ne (hu : X.A.units + 64 < cLine) : PuCmp X (compareOp .NotEq) pNe := ⟨_, op_neP hu, fun x y T U H Q QQ vx vy h k => ⟨T, U, vx, vy, pEqB_mono h fun b q => ⟨b, rfl, k _ _ _ (Same.refl _) (.flat rfl) q⟩⟩⟩
end
end L2
namespace L2
open PySem PySem.Spec PyProof.Rows WordM
section
variable {X : Cx} {F : Fm}
theorem vas1 {K : PySem.W.Frag} {H : Hp} {xs : List V} {T : Tv} (h : VAs K H xs [T]) : ∃ x, xs = [x] /\ VA K H x T := by
 cases h with
 | cons r t => cases t; exact ⟨_, rfl, r⟩
def rCatL (K : PySem.W.Frag) : R2 := fun x y H Q => ∃ l b xs zs, x = .ref l /\ y = .ref b /\ Rd H l (.lst xs) /\ Rd H b (.lst zs) /\ xs.length + zs.length <= sizeLine /\ ∀ p, H p = none -> Q (.ref p) (upd H p (.lst (xs ++ zs)))
theorem op_catL : OpR X (binaryOp .Add) (rCatL X.K) := by
 rintro pins s σ H _ _ v u Q I rx ry ⟨l, b, xs, zs, rfl, rfl, hH, hB, hz, q⟩
 cases rx
 cases ry
 obtain ⟨z, its, n, r, e⟩ := hH.ok I.hok
 obtain ⟨z2, its2, n2, r2, e2⟩ := hB.ok I.hok
 have l1 := r.length
 have l2 := r2.length
 refine PySem.P.add_list e e2 ?_ (by rw [List.size_toArray, List.size_toArray]; omega)
 rw [show its.toArray ++ its2.toArray = (its ++ its2).toArray by simp]
 exact ⟨.ref _, _, I.lnew (t' := s.toks) (r.append r2) (by rw [List.length_append]; omega), rfl, q _ I.fresh⟩
def pAdd : P2
 | .leaf (.int i), .leaf (.int j), Q => Q (iT (i + j))
 | .leaf (.str x), .leaf (.str y), Q => x.length + y.length <= 100000 /\ Q (sT (x ++ y))
 | .seq true xs, .seq true ys, Q => xs.length + ys.length <= 100000 /\ Q (.seq true (xs ++ ys))
 | .seq false xs, .seq false ys, Q => xs.length + ys.length <= 100000 /\ Q (.seq false (xs ++ ys))
 | _, _, _ => False
theorem pu_add : PuOp X (binaryOp .Add) pAdd := ⟨_, op_add.or (op_add_str.or (op_catG.or op_catL)), fun x y T U H Q QQ vx vy h k => by
 unfold pAdd at h
 split at h
 ·obtain ⟨rfl, _⟩ := vx.leafI
  obtain ⟨rfl, _⟩ := vy.leafI
  exact .inl ⟨_, _, rfl, rfl, k _ _ _ (.flat rfl) h⟩
 ·obtain ⟨rfl, _⟩ := vx.leafI
  obtain ⟨rfl, _⟩ := vy.leafI
  exact .inr (.inl ⟨_, _, rfl, rfl, line_of h.1, k _ _ _ (.flat rfl) h.2⟩)
 ·obtain ⟨a, xs, rfl, hs, z, p⟩ := vx.seqI
  obtain ⟨b, ys, rfl, hs', z', p'⟩ := vy.seqI
  have l1 : xs.length = _ := Paired.length p
  have l2 : ys.length = _ := Paired.length p'
  refine .inr (.inr (.inl ⟨a, b, xs, ys, rfl, rfl, hs, hs', line_of (by omega), fun r H' hr sm => k _ _ _ ⟨sm, .inl (VA.seq (t := true) hr (by rw [List.length_append]; exact h.1) (paired_app (p.hs sm.hs) (p'.hs sm.hs)))⟩ h.2⟩))
 ·obtain ⟨a, xs, rfl, ⟨ob, hs⟩, z, p⟩ := vx.seqI
  obtain ⟨b, ys, rfl, ⟨ob', hs'⟩, z', p'⟩ := vy.seqI
  have l1 : xs.length = _ := Paired.length p
  have l2 : ys.length = _ := Paired.length p'
  refine .inr (.inr (.inr ⟨a, b, xs, ys, rfl, rfl, .inr ⟨ob, hs⟩, .inr ⟨ob', hs'⟩, line_of (by omega), fun r n => k _ _ _ (Raw.lst n (by rw [List.length_append]; exact h.1) (paired_app p p')) h.2⟩))
 ·exact False.elim h⟩
def pIx : P2
 | .seq _ Ts, .leaf (.int i), Q => ∃ U, atI Ts i = some U /\ Q U
 | .leaf (.str z), .leaf (.int i), Q => z.length <= 100000 /\ ∃ c, atI z.cps.toList i = some c /\ Q (sT ⟨#[c]⟩)
 | .dct kts, .leaf (.str k), Q => ∃ U, lookD kts k = some U /\ Q U
 | _, _, _ => False
theorem atI_paired {α β : Type} {R : α -> β -> Prop} {xs : List α} {ys : List β} {i : Int} {y : β} (p : Paired R xs ys) (h : atI ys i = some y) : ∃ x, atI xs i = some x /\ R x y := by
 unfold atI at h ⊢
 rw [Paired.length p]
 cases e : ixN ys.length i with
 | none => rw [e] at h; cases h
 | some j =>
  rw [e] at h
  obtain ⟨x, ex, r⟩ := paired_getR p (show ys[j]? = some y from h)
  exact ⟨x, ex, r⟩
theorem pu_ix (hu : X.A.units + 64 < cLine) : PuIx X pIx := ⟨_, ix_seq.or (ix_dict (by omega)), fun x y T U H Q QQ vx vy h k => by
 unfold pIx at h
 split at h
 ·rename_i t Ts i
  obtain ⟨rfl, _⟩ := vy.leafI
  obtain ⟨a, xs, rfl, hs, z, p⟩ := vx.seqI
  obtain ⟨U, e, q⟩ := h
  obtain ⟨x, ex, v⟩ := atI_paired p e
  cases t with
  | false => exact .inl (.inl ⟨a, xs, i, x, rfl, rfl, seq_of hs, ex, k _ _ _ (.va v) q⟩)
  | true => exact .inl (.inr (.inl ⟨a, xs, i, x, rfl, rfl, hs, ex, k _ _ _ (.va v) q⟩))
 ·obtain ⟨rfl, _⟩ := vx.leafI
  obtain ⟨rfl, _⟩ := vy.leafI
  obtain ⟨l, c, e, q⟩ := h
  exact .inl (.inr (.inr ⟨_, _, c, rfl, rfl, line_of l, e, k _ _ _ (.flat rfl) q⟩))
 ·rename_i kts kk
  obtain ⟨rfl, _⟩ := vy.leafI
  obtain ⟨a, kvs, rfl, ⟨ob, hd⟩, n, z, p⟩ := vx.dctI
  obtain ⟨U, e, q⟩ := h
  rcases look_at p kk with ⟨e1, e2⟩ | ⟨U', v, e1, e2, vv⟩
  ·rw [e1] at e; cases e
  ·rw [e1] at e; cases e
   exact .inr ⟨a, v, rfl, .inl ⟨kvs, .inr kk, .inr ⟨ob, hd⟩, rfl, e2.symm⟩, k _ _ _ (.va vv) q⟩
 ·exact False.elim h⟩
def cutT {α : Type} (xs : List α) (lo hi : Option Int) : List α := (xs.drop (HT.sIx xs.length 0 lo)).take (HT.sIx xs.length xs.length hi - HT.sIx xs.length 0 lo)
theorem paired_drop {α β : Type} {R : α -> β -> Prop} : ∀ {l : List α} {m : List β} (n : Nat), Paired R l m -> Paired R (l.drop n) (m.drop n)
 | _, _, 0, p => p
 | _, _, _ + 1, .nil => .nil
 | _, _, n + 1, .cons _ t => paired_drop n t
theorem paired_tk {α β : Type} {R : α -> β -> Prop} : ∀ {l : List α} {m : List β} (n : Nat), Paired R l m -> Paired R (l.take n) (m.take n)
 | _, _, 0, p => by rw [List.take_zero, List.take_zero]; exact .nil
 | _, _, _ + 1, .nil => .nil
 | _, _, n + 1, .cons r t => .cons r (paired_tk n t)
theorem paired_cut {α β : Type} {R : α -> β -> Prop} {l : List α} {m : List β} (lo hi : Option Int) (p : Paired R l m) : Paired R (cutT l lo hi) (cutT m lo hi) := by
 unfold cutT
 rw [Paired.length p]
 exact paired_tk _ (paired_drop _ p)
theorem cutT_len {α : Type} (xs : List α) (lo hi : Option Int) : (cutT xs lo hi).length <= xs.length := by
 unfold cutT
 rw [List.length_take, List.length_drop]
 omega
def pSlc : PSl
 | .seq t Ts, lo, hi, Q => Q (.seq t (cutT Ts lo hi))
 | .leaf (.str z), lo, hi, Q => z.length <= 100000 /\ Q (sT (Txt.slice z lo hi))
 | _, _, _, _ => False
theorem pu_sl : PuSl X pSlc := ⟨_, sl_list.or (sl_tupW.or sl_str), fun x T lo hi H Q QQ vx h k => by
 cases T with
 | seq t Ts =>
  have h : Q (.seq t (cutT Ts lo hi)) := h
  obtain ⟨a, xs, rfl, hs, z, p⟩ := vx.seqI
  have z' : (cutT Ts lo hi).length <= 100000 := Nat.le_trans (cutT_len _ _ _) z
  cases t with
  | false => exact .inl ⟨a, xs, rfl, seq_of hs, fun r n => k _ _ _ (Raw.lst n z' (paired_cut lo hi p)) h⟩
  | true => exact .inr (.inl ⟨a, xs, rfl, hs, fun r H' sm hr => k _ _ _ ⟨sm, .inl (VA.seq (t := true) hr z' (Paired.mapP (paired_cut lo hi p) fun _ _ q => VA.hs sm.hs q))⟩ h⟩)
 | leaf w =>
  cases w with
  | str zz =>
   have h : zz.length <= 100000 /\ Q (sT (Txt.slice zz lo hi)) := h
   obtain ⟨rfl, _⟩ := vx.leafI
   exact .inr (.inr ⟨_, rfl, line_of h.1, k _ _ _ (.flat rfl) h.2⟩)
  | _ => exact False.elim h
 | dct kts => exact False.elim h⟩
def pLen : Pn
 | [.seq _ Ts], Q => Q (iT Ts.length)
 | [.leaf (.str z)], Q => z.length <= 100000 /\ Q (iT z.length)
 | [.dct kts], Q => Q (iT kts.length)
 | _, _ => False
theorem pu_len : PuCall X (.builtin "len") pLen := ⟨_, call_len_seq.or (call_len_str.or call_lenDK), fun xs Ts H Q QQ vx h k => by
 unfold pLen at h
 split at h
 ·rename_i t Ts
  obtain ⟨x, rfl, v⟩ := vas1 vx
  obtain ⟨a, xs, rfl, hs, z, p⟩ := v.seqI
  have l : xs.length = _ := Paired.length p
  refine .inl ⟨a, xs, rfl, ?_, k _ _ _ (.flat rfl) (by rw [l]; exact h)⟩
  cases t with
  | false => exact .inl (seq_of hs)
  | true => exact .inr hs
 ·obtain ⟨x, rfl, v⟩ := vas1 vx
  obtain ⟨rfl, _⟩ := v.leafI
  exact .inr (.inl ⟨_, rfl, line_of h.1, k _ _ _ (.flat rfl) h.2⟩)
 ·obtain ⟨x, rfl, v⟩ := vas1 vx
  obtain ⟨a, kvs, rfl, ⟨ob, hd⟩, n, z, p⟩ := v.dctI
  have l : kvs.length = _ := Paired.length p
  exact .inr (.inr ⟨a, kvs, rfl, .inr ⟨ob, hd⟩, k _ _ _ (.flat rfl) (by rw [l]; exact h)⟩)
 ·exact False.elim h⟩
end
end L2
namespace L2
open PySem PySem.Spec PyProof.Rows WordM
def compS (own : Nat) (fr : List Nat) (g : UG) (tf : UTt) (ue : UT) (T : Tv) (ρ : PEnv) (R : Option Tv -> PEnv -> Prop) : Prop := g T (blk own fr ρ) fun ρ1 => tf ρ1 fun b ρ2 => if b = true then ue ρ2 fun U ρ3 => R (some U) (bck own fr ρ ρ3) else R none (bck own fr ρ ρ2)
section
variable {own : Nat} {fr : List Nat} {g : UG} {tf : UTt} {ue : UT}
def compK (own : Nat) (fr : List Nat) (g : UG) (tf : UTt) (ue : UT) (Ts : List Tv) (Q : List Tv -> PEnv -> Prop) (o : Option Tv) (ρ : PEnv) : Prop := match o with
 | some U => compT own fr g tf ue Ts ρ fun Us ρ4 => Q (U :: Us) ρ4
 | none => compT own fr g tf ue Ts ρ Q
theorem compT_cons (T : Tv) (Ts : List Tv) (ρ : PEnv) (Q : List Tv -> PEnv -> Prop) : compT own fr g tf ue (T :: Ts) ρ Q = compS own fr g tf ue T ρ (compK own fr g tf ue Ts Q) := rfl
theorem forT_inv {g : UG} {ub : UTs} {Ts : List Tv} {P : PEnds} {ρ : PEnv} (J : Nat -> PEnv -> Prop) (h0 : J 0 ρ) (hs : ∀ i T ρ' (N : PEnv -> Prop), Ts[i]? = some T -> J i ρ' -> (∀ ρ'', J (i + 1) ρ'' -> N ρ'') -> g T ρ' fun ρ1 => ub { P with nx := N, ct := N, bk := P.nx } ρ1)
  (hd : ∀ ρ', J Ts.length ρ' -> P.nx ρ') : forT g ub Ts P ρ := by
 have key : ∀ (n i : Nat) (ρ : PEnv), n + i = Ts.length -> J i ρ -> forT g ub (Ts.drop i) P ρ := by
  intro n
  induction n with
  | zero =>
   intro i ρ e j
   have : i = Ts.length := by omega
   subst this
   rw [List.drop_length]
   exact hd ρ j
  | succ n ih =>
   intro i ρ e j
   have hi : i < Ts.length := by omega
   rw [List.drop_eq_getElem_cons hi]
   exact hs i _ ρ (fun ρ' => forT g ub (Ts.drop (i + 1)) P ρ') (List.getElem?_eq_getElem hi) j fun ρ'' j' => ih (i + 1) ρ'' (by omega) j'
 exact key Ts.length 0 ρ (by omega) h0
end
end L2
namespace L2
open PySem PySem.Spec PyProof.Rows WordM
def ptTake : PSp := fun as R => ∃ m : Int, as = [.dk, .va (iT m)] /\ 0 < m /\ BigOk m /\ ∀ r : Int, 0 <= r -> r < m -> R (iT r)
theorem On.kp {p c : Addr} {H H' : Hp} (o : On p c H H') : Kp (some (p, c)) none H H' := ⟨fun b u e n _ => o.e b u e (n p c rfl).1 (n p c rfl).2, fun p' c' e => by cases e; exact o.d, fun _ _ z => (nomatch z)⟩
theorem Good.take {P : Program} {w : World} {K : PySem.W.Frag} {mg : Str -> Option Value} {base : Heap} {k : Nat} {x : Str} {ps : List Str} (G : Good P w K mg base k x ps spTake) : PGood P w K mg base k x ps ptTake := Good.imp G fun vs H Q E ⟨dk, as, R, d, p, ⟨m, e, hm, hb, q⟩, kk⟩ => by
 subst e
 cases p with
 | cons r1 t1 =>
  cases t1 with
  | cons r2 t2 =>
   cases t2
   obtain ⟨p, c, ed, rfl⟩ := r1
   subst ed
   obtain ⟨rfl, _⟩ := VA.leafI r2
   exact ⟨p, c, m, rfl, d p c rfl, hm, hb, fun r H' h1 h2 o => kk _ _ _ o.kp (.flat rfl) (q r h1 h2)⟩
theorem big_of {j : Int} (h1 : -(10 ^ 100) < j) (h2 : j < 10 ^ 100) : BigOk j := by
 unfold BigOk
 have : j.natAbs < 10 ^ 100 := by omega
 exact Nat.lt_trans this (by decide +kernel)
section
variable {own : Nat} {fr : List Nat} {g : UG} {tf : UTt} {ue : UT} {α : Type}
theorem compT_ofm {ρ : PEnv} (c : α -> Tv) (f : α -> Option Tv) : ∀ {l : List α} {Q : List Tv -> PEnv -> Prop}, (∀ a ∈ l, ∀ R : Option Tv -> PEnv -> Prop, R (f a) ρ -> compS own fr g tf ue (c a) ρ R) -> Q (l.filterMap f) ρ -> compT own fr g tf ue (l.map c) ρ Q
 | [], _, _, q => q
 | a :: l, Q, h, q => by
  rw [List.map_cons, compT_cons]
  refine h a (.head _) _ ?_
  rw [List.filterMap_cons] at q
  cases e : f a with
  | none => rw [e] at q; exact compT_ofm c f (fun b hb => h b (.tail _ hb)) q
  | some U => rw [e] at q; exact compT_ofm (Q := fun Us ρ4 => Q (U :: Us) ρ4) c f (fun b hb => h b (.tail _ hb)) q
end
end L2
namespace L2
open PySem PySem.Spec PyProof.Rows WordM
def spLaw (K : PySem.W.Frag) : Sp := fun vs H Q _ => ∃ (a : Addr) (ns : List Int), vs = [.ref a] /\ SqL K H a (ns.map V.int) /\ ns.length <= 63 /\ ∀ H', Q (.bl true) H'
def lawP (n : Nat) : PEnv := .no :: .dk :: List.replicate (n - 2) .no
theorem fr_law {K : PySem.W.Frag} {H : Hp} {p c : Addr} {N : List Str} {x : V} (hN : 2 <= N.length) (d : DeckAt H p c) : FrOk K ⟨H, some (p, c), none⟩ (lawP N.length) ((start N [x]).set 1 (some (.ref p))) H := by
 have nm : ∀ (i : Nat) (s : Sl), (lawP N.length)[i]? = some s -> (s = .dk /\ i = 1) \/ s = .no := fun i s e => by
  unfold lawP at e
  match i, e with
  | 0, e => exact .inr (by simpa using e.symm)
  | 1, e => exact .inl ⟨by simpa using e.symm, rfl⟩
  | i + 2, e =>
   have e : (List.replicate (N.length - 2) Sl.no)[i]? = some s := by simpa using e
   exact .inr (List.eq_of_mem_replicate (List.mem_of_getElem? e))
 refine ⟨fun p' c' e => by cases e; exact d, fun _ _ z => (nomatch z), ⟨fun _ _ e _ _ => e, fun p' c' e => by cases e; exact d, fun _ _ z => (nomatch z)⟩, ?_, fun i s e => ?_, fun i j a s t e _ m _ _ _ => ?_⟩
 ·unfold lawP start
  simp
  omega
 ·rcases nm i s e with ⟨rfl, rfl⟩ | rfl
  ·refine ⟨p, c, rfl, ?_⟩
   unfold ixv start
   rw [List.getElem?_set_self (by simp; omega)]
   rfl
  ·trivial
 ·rcases nm i s e with ⟨rfl, _⟩ | rfl <;> cases m
end L2
namespace L2
open PySem PySem.Spec PyProof.Rows
@[reducible] def sortB : PyProof.Rows.KeyKind where
 α := Bool
 blt a b := !a && b
 irrefl a := by cases a <;> rfl
 trans a b c h1 h2 := by cases a <;> cases b <;> cases c <;> simp_all
 negTrans a b c h := by cases a <;> cases b <;> cases c <;> simp_all
 total a b h1 h2 := by cases a <;> cases b <;> simp_all
 keyOf v := match v with | .bool b => some b | _ => none
 dflt := false
end L2
namespace L2
open PySem PySem.Spec PyProof.Rows
section
variable {X : Cx} {F : Fm}
theorem str_app_len (a b : Str) : (a ++ b).length = a.length + b.length := by
 show (a.cps ++ b.cps).size = _
 rw [Array.size_append]; rfl
end
end L2
namespace L2
open PySem PySem.Spec PyProof.Rows
section
variable {X : Cx} {F : Fm}
def tFmt (t : TE) : TE := fun σ H Q => t σ H fun x H1 => (∃ i : Int, x = .int i /\ i.natAbs.log2 < 1920 /\ Q (.str (toString i)) H1) \/ ∃ s : Str, x = .str s /\ s.length <= sizeLine /\ Q (.str s) H1
theorem pe_fmt {e : Expr} {t : TE} {pos : Pos} (he : PE X e t) : PE X (.FormattedValue e (-1) none pos) (tFmt t) := by
 intro pins s σ H Q I h
 refine FormattedValue_plain (thn (he pins s σ H _ I h) fun v s1 ⟨x, H1, I1, r1, q1⟩ => ?_)
 rcases q1 with ⟨i, rfl, l, q⟩ | ⟨z, rfl, l, q⟩
 ·obtain ⟨t, rfl⟩ := r1
  exact formatField_int_small l ⟨.str (toString i), H1, I1.tok _, ⟨_, rfl⟩, q⟩
 ·obtain ⟨t, rfl⟩ := r1
  exact formatField_str (fun t' tk => ⟨.str z, H1, I1.tok _, ⟨_, rfl⟩, q⟩) l
abbrev TJ := Str -> St -> Hp -> VK -> Prop
def PJ (X : Cx) (es : List Expr) (t : TJ) : Prop := ∀ (out : Str) (pins : List (Addr × Obj)) (s : Shared) (σ : St) (H : Hp) (Q : VK), Inv X pins σ H s -> t out σ H Q -> wpAny (model X.prog X.w) X.A (joinParts out (evalEach es X.env)) (EP X pins σ Q) X.xe s
theorem pj_nil : PJ X [] (fun out σ H Q => out.length <= sizeLine /\ Q (.str out) H) := fun out pins s σ H Q I h =>
 joinParts_nil ⟨.str out, H, I.tok _, ⟨_, rfl⟩, h.2⟩ h.1
theorem pj_cons {e : Expr} {es : List Expr} {t : TE} {r : TJ} (he : PE X e t) (hr : PJ X es r) (hx : evalEach (e :: es) X.env = eval e X.env :: evalEach es X.env := by rfl) :
  PJ X (e :: es) (fun out σ H Q => t σ H fun x H1 => ∃ s : Str, x = .str s /\ (out ++ s).length <= sizeLine /\ r (out ++ s) σ H1 Q) := fun out pins s σ H Q I h => by
 rw [hx]
 refine joinParts_cons (thn (he pins s σ H _ I h) fun v s1 ⟨x, H1, I1, r1, q1⟩ => ?_)
 obtain ⟨z, rfl, l, q⟩ := q1
 obtain ⟨t, rfl⟩ := r1
 exact ⟨l, hr _ pins s1 σ H1 Q I1 q⟩
theorem pe_fstr {a b : Expr} {es : List Expr} {t : TJ} {pos : Pos} (h : PJ X (a :: b :: es) t) (hx : evalEach (a :: b :: es) X.env = eval a X.env :: eval b X.env :: evalEach es X.env := by rfl) : PE X (.JoinedStr (a :: b :: es) pos) (t Str.empty) := fun pins s σ H Q I q => by
 have := h Str.empty pins s σ H Q I q
 rw [hx] at this
 exact JoinedStr_many this
end
end L2
namespace L2
open PySem PySem.Spec PySem.Calls PyProof.Rows PySem.W Builtin Builtin.ObjectAttr
def passX : List Value -> Bool
 | [.type a, .type b, .type c, .type d] => a == "ValueError" && b == "Exception" && c == "BaseException" && d == "object"
 | .ref _ :: r => passX r
 | _ => false
theorem passX_cases : ∀ {l : List Value}, passX l = true -> l = [.type "ValueError", .type "Exception", .type "BaseException", .type "object"] \/ ∃ c r, l = .ref c :: r /\ passX r = true := by
 intro l e
 unfold passX at e
 split at e
 ·rename_i a b c d
  simp only [Bool.and_eq_true, beq_iff_eq] at e
  obtain ⟨⟨⟨rfl, rfl⟩, rfl⟩, rfl⟩ := e
  exact .inl rfl
 ·exact .inr ⟨_, _, rfl, e⟩
 ·cases e
theorem pass_ends (self : Value) : ∀ (n : Nat) {l : List Value}, l.length = n -> passX l = true -> refuseLoop self "__setattr__" l = pure () /\ l.contains (.type "object") = true /\ l.isEmpty = false
 | n, l, ln, e => by
  rcases passX_cases e with rfl | ⟨c, r, rfl, e'⟩
  ·exact ⟨PySem.F.store_ValueError.passes self, by decide +kernel, rfl⟩
  ·cases n with
   | zero => cases ln
   | succ n =>
    obtain ⟨h1, h2, h3⟩ := pass_ends self n (Nat.succ.inj ln) e'
    exact ⟨by rw [refuseLoop_ref]; exact h1, by rw [List.contains_cons, h2, Bool.or_true], rfl⟩
section
variable {prog : Program} {w : World} {A : Around} {E : Value -> Shared -> Prop} {s : Shared} {K : Frag} {x C : Addr} {R : Result -> Shared -> Prop}
structure XSet (K : Frag) (C : Addr) : Prop where
 sa : findIn K (.ref C) "__setattr__" = some (some (.builtin "object.__setattr__"))
 ps : (clsIn K C).any (fun cd => passX cd.mro && cd.hasDict) = true
theorem osa_openX {ox : Obj} {od : Option Obj} {name : Str} {tk : Tok} {v : Value} (X : K.In s.heap) (I : InstAt s.heap x ox C od) (FS : XSet K C) (ht : takerIn K C name = some none)
  (h : ∀ b, wpAny (model prog w) A.in1 (storeInOwnDict (.ref x) (.ref C) (.str name tk) name v b)
   (fun fin s' => match fin with | .done f => R (.ok f) s' | .again c' => c'.quiet = true /\ codeAny (model prog w) A c' R s') (fun e s' => R (.error e) s') s) :
  codeAny (model prog w) A (.call (.builtin "object.__setattr__") ⟨[.ref x, .str name tk, v], []⟩) R s := by
 have SF := PySem.F.store_object
 obtain ⟨cd, hc, ho⟩ := any_some FS.ps
 rw [Bool.and_eq_true] at ho
 obtain ⟨p1, p2, p3⟩ := pass_ends (.ref x) _ rfl ho.1
 have sub : Looks (model prog w) s.heap (isInstance (.ref x) (.type "object")) true := I.type.andThen (looks_mroIn X (by unfold mroIn; rw [hc, Option.bind_some, if_neg (by rw [p3]; decide), p2]))
 refine codeAny_call_builtin SF.slot.plain SF.entry (@check_slot (model prog w) _ _ s "object.__setattr__" "object" "__setattr__" (.ref x) [.str name tk, v] [] _ SF.kind SF.split sub (SF.args (.ref x) (.str name tk) v) ?_)
 obtain ⟨attr, ha, hr⟩ := Option.bind_eq_some_iff.mp ht
 have hm : Looks (model prog w) s.heap (mroOf (.ref C)) cd.mro := (looks_clsIn X hc).andThen .now
 have L3 : Looks (model prog w) s.heap (storeTaker? attr) none := by
  cases attr with
  | none => exact .now
  | some a =>
   obtain ⟨b, hb, hr⟩ := Option.map_eq_some_iff.mp hr
   refine (looks_takesIn X hb).andThen ?_
   cases b
   ·exact .now
   ·cases hr
 rw [osa_eq, refuse_eq]
 refine wpAny_bind (wpAny_bind (I.type.here (wpAny_bind (hm.here ?_))))
 rw [p1]
 refine wpAny_pure (wpAny_bind (I.type.here (wpAny_bind ((looks_findIn X ha).here (wpAny_bind (L3.here ?_))))))
 exact h _
def exObj (C : Addr) (dx : Option Addr) (t : Addr) (y c : Value) (b : Bool) : Obj := { cls := .ref C, dict := dx, data := .fields #[.ref t, y, c, .none, .bool b, .none] }
theorem storeX {name : Str} {tk : Tok} {v : Value} {t : Addr} {y c : Value} {b b' : Bool} {dxo : Option Addr} {Q : Fin -> Shared -> Prop} (X : K.In s.heap) (hx : s.heap.get? x = some (exObj C dxo t y c b)) (FS : XSet K C) {mA : Str -> Option Value} {ns : List Str}
  (hd : (dxo = none /\ ∀ n, mA n = none) \/ ∃ dx, dxo = some dx /\ dx ≠ x /\ s.heap.Ns1 dx mA) (hw : Within mA ns) (hz : ns.length < 1000)
  (h : ∀ h' tk' dx, (dxo = none -> dx = s.heap.objs.size) -> (∀ d, dxo = some d -> dx = d) -> dx ≠ x -> h'.get? x = some (exObj C (some dx) t y c b) -> h'.Ns1 dx (fun n => if n = name then some v else mA n) ->
   (∀ b o, b ≠ x -> b ≠ dx -> s.heap.get? b = some o -> h'.get? b = some o) -> Q (.done (.ret .none)) { s with heap := h', toks := tk' }) :
  wpAny (model prog w) A (storeInOwnDict (.ref x) (.ref C) (.str name tk) name v b') Q E s := by
 obtain ⟨hh, g, dr, to, os⟩ := s
 obtain ⟨cd, hc, ho⟩ := any_some FS.ps
 rw [Bool.and_eq_true] at ho
 dsimp only at X hx hd h
 refine wpAny_bind (wpAny_pure (wpAny_bind (wpAny_bind (wpAny_loadPart hx (wpAny_bind ((looks_clsIn X hc).at ?_))))))
 rw [ho.2]
 rcases hd with ⟨rfl, hmA⟩ | ⟨dx, rfl, hne, hns⟩
 ·have hx₁ : (hh.push { cls := .type "dict", data := .dict #[] }).get? x = some (exObj C none t y c b) := Heap.get?_push_of_some _ hx
  have hxs : x ≠ hh.objs.size := Nat.ne_of_lt (Heap.lt_size hx)
  refine wpAny_bind (wpAny_alloc' ?_)
  refine wpAny_bind (wpAny_update' hx₁ ?_)
  refine wpAny_pure ?_
  generalize hu : ((hh.push { cls := .type "dict", data := .dict #[] }).update x _) = h2
  have g1 : ∀ b, b ≠ x -> h2.get? b = (hh.push { cls := .type "dict", data := .dict #[] }).get? b := fun b hb => by rw [<- hu]; exact Heap.get?_update_ne _ _ _ _ hb
  have g2 : h2.get? x = some (exObj C (some hh.objs.size) t y c b) := by rw [<- hu]; exact Heap.get?_update_self _ hx₁ rfl
  have hgd : h2.get? hh.objs.size = some { cls := .type "dict", data := .dict #[] } := (g1 _ hxs.symm).trans (Heap.get?_push_at rfl rfl)
  have hnd : h2.Ns hh.objs.size (fun _ => none) := ⟨_, #[], _, hgd, rfl, fun e he => absurd he (by simp), fun _ => rfl⟩
  show wpAny _ _ (storeInDict hh.objs.size (.str name tk) name v) _ _ _
  unfold storeInDict newKeyGuard
  refine wpAny_bind (wpAny_pure (wpAny_bind (wpAny_nsSet1 (Heap.Ns1.of_empty hnd) fun h' hn' hs => ?_)))
  obtain ⟨oD, esD, epD, hoD, hdD, hcD⟩ := hn'.count (Within.cons name v Within.nil)
  refine wpAny_bind (wpAny_lookBehind hoD (by rw [hdD]; exact pastItsLine_dict (Nat.le_trans hcD (by rw [List.length_cons, List.length_nil, sizeLine_eq]; omega))) ?_)
  wp_walk
  refine h h' _ hh.objs.size (fun _ => rfl) (fun d z => nomatch z) hxs.symm ((hs.2 x hxs).trans g2) ?_ fun b o n1 n2 q => (hs.2 b n2).trans ((g1 b n1).trans (Heap.get?_push_of_some _ q))
  obtain ⟨o', es, ep, e1, e2, e3, eu, e4⟩ := hn'
  exact ⟨o', es, ep, e1, e2, e3, eu, fun n => by rw [e4 n]; by_cases hy : n = name <;> simp [hy, hmA]⟩
 ·refine wpAny_pure (a := some dx) (wpAny_bind (wpAny_pure ?_))
  show wpAny _ _ (storeInDict dx (.str name tk) name v) _ _ _
  unfold storeInDict newKeyGuard
  refine wpAny_bind (wpAny_pure (wpAny_bind (wpAny_nsSet1 hns fun h' hn' hs => ?_)))
  obtain ⟨oD, esD, epD, hoD, hdD, hcD⟩ := hn'.count (Within.cons name v hw)
  refine wpAny_bind (wpAny_lookBehind hoD (by rw [hdD]; exact pastItsLine_dict (Nat.le_trans hcD (by rw [List.length_cons, sizeLine_eq]; omega))) ?_)
  wp_walk
  exact h h' _ dx (fun z => nomatch z) (fun d z => (Option.some.inj z)) hne ((hs.2 x hne.symm).trans hx) hn' fun b o _ n2 q => (hs.2 b n2).trans q
end
end L2
namespace L2
open PySem PySem.Spec PySem.Calls PyProof.Rows PySem.W
def ExO (e D : Addr) (dxo : Option Addr) (fr : Bool) (h : Heap) : Prop := ∃ t y c b, h.get? e = some (exObj D dxo t y c b) /\ (fr = true -> y = .none)
def exO (e D : Addr) (dxo : Option Addr) (fr : Bool) : HO := .ext (ExO e D dxo fr)
def XdO (dx : Addr) (fs : List (Str × V)) (h : Heap) : Prop := ∃ mA, h.Ns1 dx mA /\ (∀ f, RelO (fs.lookup f) (mA f)) /\ Within mA (fs.map (·.1)) /\ fs.length <= 100
def xdO (dx : Addr) (fs : List (Str × V)) : HO := .ext (XdO dx fs)
theorem exO_ok {P : Program} {w : World} {H : Hp} {h : Heap} {e D : Addr} {dxo : Option Addr} {fr : Bool} (p : ExO e D dxo fr h) : ObjOk P w H h e (exO e D dxo fr) :=
 ⟨p, (let ⟨_, _, _, _, q, _⟩ := p; ⟨_, q⟩), fun h1 h2 ⟨t, y, c, b, q, z⟩ k => ⟨t, y, c, b, k _ q, z⟩⟩
theorem xdO_ok {P : Program} {w : World} {H : Hp} {h : Heap} {dx : Addr} {fs : List (Str × V)} (p : XdO dx fs h) : ObjOk P w H h dx (xdO dx fs) :=
 ⟨p, (let ⟨_, ⟨_, _, _, q, _⟩, _⟩ := p; ⟨_, q⟩), fun h1 h2 ⟨mA, ⟨o, es, ep, q, r⟩, z⟩ k => ⟨mA, ⟨o, es, ep, k _ q, r⟩, z⟩⟩
def XH (H : Hp) (e D : Addr) (fs : List (Str × V)) : Prop := ∃ fr, (fs = [] /\ H e = some (exO e D none fr)) \/ ∃ dx, dx ≠ e /\ H e = some (exO e D (some dx) fr) /\ H dx = some (xdO dx fs)
section
variable {K : Frag} {x D : Addr} {h : Heap} {prog : Program} {w : World} {A : Around} {E : Value -> Shared -> Prop} {s : Shared} {ox : Obj} {od : Option Obj}
theorem exc_findX (hc : (clsIn K D).isSome = true) {name : Str} {a g : Value} (ha : findIn K (.ref D) name = some (some a)) (hg : specialIn K a "__get__" = some (some g)) (ht : takesIn K a = some true) : findObj K D od name = some (.bind g a) := by
 obtain ⟨cd, hc⟩ := Option.isSome_iff_exists.mp hc
 unfold findObj
 rw [hc, Option.bind_some, ha, Option.bind_some]
 simp [hg, ht]
theorem exc_findV {name : Str} {v : Value} {o : Obj} (hc : (clsIn K D).any (·.hasDict) = true) (ha : findIn K (.ref D) name = some none) (hl : lookIn name o = some (some v)) : findObj K D (some o) name = some (.value v) := by
 obtain ⟨cd, hc, hd⟩ := any_some hc
 unfold findObj
 rw [hc, Option.bind_some, ha, Option.bind_some]
 simp [W.ownOf, hd, hl]
theorem exc_checkX {M : Model} {nameV : Value} {Q : Unit -> Shared -> Prop} (FX : XCls K D) (X : K.In s.heap) (I : InstAt s.heap x ox D od) (hq : Q () s) : wpAny M A (checkBuiltinCall "BaseException.__getattribute__" ⟨[.ref x, nameV], []⟩) Q E s := by
 obtain ⟨hh, g, d, t, os⟩ := s
 have L0 := I.type (M := M)
 have L1 := looks_mroIn (M := M) X FX.mb
 have hk : builtinKind "BaseException.__getattribute__" = some .slot := by decide +kernel
 have hsplit : splitId "BaseException.__getattribute__" = some ("BaseException", "__getattribute__") := by decide +kernel
 have ha := F.args_bexc_ga (.ref x) nameV
 simp only [checkBuiltinCall, hk, hsplit]
 refine wpAny_bind ((L0.andThen L1).at ?_)
 repeat (first | assumption | wp_step)
theorem exc_get {name : Str} {v : Value} {o : Obj} {expr : Bool} {Q : Value -> Shared -> Prop} (FX : XCls K D) (hc : (clsIn K D).any (·.hasDict) = true) (ha : findIn K (.ref D) name = some none) (X : K.In s.heap) (I : InstAt s.heap x ox D (some o)) (hl : lookIn name o = some (some v)) (hv : handedIn v = true)
  (h : Q v { s with toks := s.toks + 1 }) : wpAny (model prog w) A (getAttr (.ref x) name expr) Q E s := by
 obtain ⟨hh, g, d, t, os⟩ := s
 have L0 := I.type (M := model prog w)
 have L1 := looks_findIn (M := model prog w) X FX.ga
 have L2 := looks_findIn (M := model prog w) X FX.gt
 have L3 := looks_find (M := model prog w) X I (exc_findV hc ha hl)
 unfold getAttr getAttrBy
 refine wpAny_bind (wpAny_mkText (wpAny_holding (wpAny_bind (L0.at (wpAny_bind (L1.at ?_))))))
 show wpAny _ _ (getAttrByItsOwn (.ref x) (.str name t) (.ref D) (.builtin "BaseException.__getattribute__") true expr) _ _ _
 unfold getAttrByItsOwn
 refine wpAny_bind (L2.at ?_)
 refine wpAny_bind (wpAny_attempt (wpAny_holding ?_))
 unfold callGetattribute
 rw [show (expr && onTheHeap (Value.builtin "BaseException.__getattribute__")) = false from Bool.and_false _, if_neg (by decide)]
 unfold boundAndCalled
 rw [F.excAttr_ValueError.ga.bind (.ref x)]
 refine wpAny_bind (wpAny_pure ?_)
 refine wpAny_call (codeAny_call_builtin F.excAttr_ValueError.ga.plain F.entry_bexc_ga (exc_checkX FX X I ?_))
 refine wpAny_bind (wpAny_pure ?_)
 refine wpAny_bind (wpAny_pure ?_)
 refine wpAny_bind (L0.at (wpAny_bind (L3.at ?_)))
 refine wpAny_pure ?_
 exact handed_on hv h
theorem exc_entryX {tk : Tok} {Q : Fin -> Shared -> Prop} (FB : XBase K) (FX : XCls K D) (X : K.In s.heap) (I : InstAt s.heap x ox D od) (h : Q (.done (.ret (.ref D))) s) : wpAny (model prog w) A (Builtin.«object.__getattribute__» ⟨[.ref x, .str "__class__" tk], []⟩) Q E s := by
 obtain ⟨hh, g, d, t, os⟩ := s
 have L0 := I.type (M := model prog w)
 have L1 := looks_find (M := model prog w) X I (exc_findX FX.ic FX.cl FB.sp FB.tk)
 refine wpAny_bind (wpAny_pure ?_)
 refine wpAny_bind (wpAny_pure ?_)
 refine wpAny_bind (L0.at (wpAny_bind (L1.at ?_)))
 show wpAny _ _ (holding [_] (PySem.call (.builtin "getset_descriptor.__get__") [.builtin "object.__class__", .ref x, .ref D]) >>= ret) _ _ _
 exact wpAny_bind (wpAny_holding (wpAny_call (class_get X I FX.mo (wpAny_pure h))))
theorem exc_classX {Q : Option Value -> Shared -> Prop} (FB : XBase K) (FX : XCls K D) (X : K.In s.heap) (I : InstAt s.heap x ox D od) (h : Q (some (.ref D)) { s with toks := s.toks + 1 }) : wpAny (model prog w) A (getAttr? (.ref x) "__class__") Q E s := by
 obtain ⟨hh, g, d, t, os⟩ := s
 have L0 := I.type (M := model prog w)
 have L1 := looks_findIn (M := model prog w) X FX.ga
 have L2 := looks_findIn (M := model prog w) X FX.gt
 unfold getAttr? getAttrBy? getAttrBy
 refine wpAny_bind (wpAny_mkText (wpAny_bind (wpAny_attempt (wpAny_holding (wpAny_bind (L0.at (wpAny_bind (L1.at ?_))))))))
 show wpAny _ _ (getAttrByItsOwn (.ref x) (.str "__class__" t) (.ref D) (.builtin "BaseException.__getattribute__") false false) _ _ _
 unfold getAttrByItsOwn
 refine wpAny_bind (L2.at ?_)
 refine wpAny_bind (wpAny_attempt (wpAny_holding ?_))
 show wpAny _ _ (boundAndCalled (.builtin "BaseException.__getattribute__") (.ref x) (.str "__class__" t)) _ _ _
 unfold boundAndCalled
 rw [F.excAttr_ValueError.ga.bind (.ref x)]
 refine wpAny_bind (wpAny_pure ?_)
 refine wpAny_call (codeAny_call_builtin F.excAttr_ValueError.ga.plain F.entry_bexc_ga (exc_checkX FX X I (exc_entryX FB FX X I ?_)))
 exact handed_on rfl (wpAny_pure h)
def InX (x D : Addr) (h : Heap) : Prop := ∃ ox od, InstAt h x ox D od
theorem kitx_excX (FB : XBase K) (FX : XCls K D) : KitX K (.ref x) (.ref D) (InX x D) where
 ty := fun _ _ _ ⟨_, _, p⟩ => p.type
 it := fun _ _ X _ => isType_cls X FX.ic
 ne := (kitx_exc (x := x) FB FX).ne
 ca := fun X ⟨_, _, p⟩ k => exc_classX FB FX X p k
theorem XH.inst {P : Program} {H : Hp} {fs : List (Str × V)} (ok : HOk P w H h) (q : XH H x D fs) : ∃ ox od, InstAt h x ox D od /\ ∀ f v, fs.lookup f = some v -> ∃ o u, od = some o /\ lookIn f o = some (some u) /\ RelV v u := by
 obtain ⟨fr, ⟨rfl, q⟩ | ⟨dx, ne, q, r⟩⟩ := q
 ·obtain ⟨⟨t, y, c, b, e, _⟩, _⟩ := ok _ _ q
  exact ⟨_, none, ⟨e, rfl, rfl, trivial⟩, fun f v z => nomatch z⟩
 ·obtain ⟨⟨t, y, c, b, e, _⟩, _⟩ := ok _ _ q
  obtain ⟨⟨mA, n, rl, _⟩, _⟩ := ok _ _ r
  obtain ⟨od, ho, hl⟩ := lookIn_ns n
  refine ⟨_, some od, ⟨e, rfl, rfl, ho⟩, fun f v z => ?_⟩
  obtain ⟨u, hu, ru⟩ := RelO.some_of (v := v) (o := mA f) (by rw [<- z]; exact rl f)
  exact ⟨od, u, rfl, by rw [hl, hu], ru⟩
end
def rIsN (K : Frag) : List V -> Hp -> VK -> Prop := fun xs H Q => ∃ (a C D : Addr) (fs : List (Str × V)) (b : Bool), xs = [.ref a, .ref C] /\ XH H a D fs /\ XBase K /\ XCls K D /\ kitOne K (.ref D) (.ref C) = some b /\ Q (.bl b) H
def rIsNT (K : Frag) : List V -> Hp -> VK -> Prop := fun xs H Q => ∃ (a D : Addr) (T : String) (fs : List (Str × V)) (b : Bool), xs = [.ref a, .ty T] /\ XH H a D fs /\ XBase K /\ XCls K D /\ kitOne K (.ref D) (.type T) = some b /\ Q (.bl b) H
section
variable {X : Cx} {e o : Expr} {ta tv : TE} {f : Str} {pos pos' : Pos}
theorem call_isN : CallR X (.builtin "isinstance") (rIsN X.K) := by
 intro pins s σ H xs us Q I r h
 obtain ⟨a, C, D, fs, b, rfl, ha, FB, FX, hk, q⟩ := h
 obtain ⟨u, w', rfl, rx, ry⟩ := vals2 r
 cases rx; cases ry
 obtain ⟨ox, od, J, _⟩ := ha.inst I.hok
 exact kia_one (kitx_excX FB FX) I.kIn ⟨ox, od, J⟩ hk (by intro z; cases z) fun tk => ⟨.bl _, H, I.tok _, rfl, q⟩
theorem call_isNT : CallR X (.builtin "isinstance") (rIsNT X.K) := by
 intro pins s σ H xs us Q I r h
 obtain ⟨a, D, T, fs, b, rfl, ha, FB, FX, hk, q⟩ := h
 obtain ⟨u, w', rfl, rx, ry⟩ := vals2 r
 cases rx; cases ry
 obtain ⟨ox, od, J, _⟩ := ha.inst I.hok
 exact kia_one (kitx_excX FB FX) I.kIn ⟨ox, od, J⟩ hk (by intro z; cases z) fun tk => ⟨.bl _, H, I.tok _, rfl, q⟩
def tXFld (K : Frag) (ta : TE) (f : Str) : TE := fun σ H Q => ta σ H fun x H1 => ∃ a D fs v, x = .ref a /\ XH H1 a D fs /\ XCls K D /\ XSet K D /\ NoAttr K D f /\ fs.lookup f = some v /\ Q v H1
theorem XSet.hd {K : Frag} {C : Addr} (x : XSet K C) : (clsIn K C).any (·.hasDict) = true := by
 obtain ⟨cd, hc, ho⟩ := any_some x.ps
 rw [Bool.and_eq_true] at ho
 rw [hc]
 exact ho.2
theorem pe_xfld (he : PE X e ta) (hb : attributeBase e f X.env (eval e X.env) = eval e X.env) : PE X (.Attribute e f pos) (tXFld X.K ta f) := by
 intro pins s σ H Q I h
 refine attr_of hb (thn (he pins s σ H _ I h) fun u s1 ⟨x, H1, I1, rx, a, D, fs, v, ex, hx, FX, FS, na, l, q⟩ => ?_)
 subst ex
 obtain rfl : u = Value.ref a := rx
 obtain ⟨ox, od, J, g⟩ := hx.inst I1.hok
 obtain ⟨o, u, rfl, hl, ru⟩ := g f v l
 exact exc_get FX FS.hd na I1.kIn J hl (handed_of ru) ⟨v, H1, I1.tok _, ru, q⟩
def sX1 (K : Frag) (ta tv : TE) (f : Str) : TS := fun D σ H => tv σ H fun y H1 => ta σ H1 fun x H2 => ∃ a C fr, x = .ref a /\ H2 a = some (exO a C none fr) /\ XSet K C /\ NoAttr K C f /\
 ∀ dx, H2 dx = none -> dx ≠ a -> D.nx σ (upd (upd H2 a (exO a C (some dx) fr)) dx (xdO dx [(f, y)]))
theorem ps_x1 (hex : X.ex = []) (ha : PE X o ta) (hv : PE X e tv) (hs : swapsWith e (some (.Attribute o f pos')) pos.line X.env = pure false) : PS X (.Assign [.Attribute o f pos'] e pos) (sX1 X.K ta tv f) := by
 intro pins s σ H D I h
 refine plainObj_wpAny_Assign_Attribute (thn (hv pins s σ H _ I h) fun u s1 ⟨y, H1, I1, ry, q⟩ => thn (ha pins s1 σ H1 _ I1 q) fun ov s2 ⟨x, H2, I2, rx, a, C, fr, ex, hx, FS, na, q2⟩ => ?_) hs
 subst ex
 obtain rfl : ov = Value.ref a := rx
 obtain ⟨⟨t, yy, c, b, g, gy⟩, _⟩ := I2.hok _ _ hx
 have J : InstAt s2.heap a _ C none := ⟨g, rfl, rfl, trivial⟩
 refine set_plain I2.kIn J FS.sa ?_
 refine osa_openX (s := { s2 with toks := s2.toks + 1 }) I2.kIn J FS na.taker fun b' => ?_
 refine storeX (s := { s2 with toks := s2.toks + 1 }) (mA := fun _ => none) (ns := []) I2.kIn g FS (.inl ⟨rfl, fun _ => rfl⟩) Within.nil (by decide) fun h' tk' dx e1 _ ne g1 g2 kp => ?_
 have e1 : dx = s2.heap.objs.size := e1 rfl
 have dn : s2.heap.get? dx = none := by rw [e1]; exact Heap.get?_none_of_le (Nat.le_refl _)
 have f0 := I2.far (b := dx) hex dn
 have kp' : ∀ b u, b ≠ a -> s2.heap.get? b = some u -> h'.get? b = some u := fun b u n q => kp b u n (fun z => by rw [z, dn] at q; cases q) q
 have I3 := I2.write (x := a) (e := a) (o := exO a C (some dx) fr) (h' := h') (t' := tk') (by rw [hx]; exact True.intro) (.inl rfl) kp' ⟨_, g1⟩ (exO_ok ⟨t, yy, c, b, g1, gy⟩)
 have f1 : Far X pins (upd H2 a (exO a C (some dx) fr)) dx := f0.now (by rw [upd_ne ne]; exact f0.un)
 have I4 := I3.know (o := xdO dx [(f, y)]) f1 (xdO_ok ⟨_, g2, fun n => ?_, Within.cons f u Within.nil, Nat.le_of_ble_eq_true rfl⟩)
 ·exact ⟨σ, _, I4, q2 dx f0.un ne⟩
 ·show RelO (List.lookup n [(f, y)]) _
  by_cases z : n = f
  ·subst z
   rw [if_pos rfl]
   simp only [List.lookup_cons_self]
   exact ry
  ·rw [if_neg z]
   have : (n == f) = false := by simpa using z
   simp only [List.lookup, this]
   trivial
def sX2 (K : Frag) (ta tv : TE) (f : Str) : TS := fun D σ H => tv σ H fun y H1 => ta σ H1 fun x H2 => ∃ a C dx fs fr, x = .ref a /\ dx ≠ a /\ H2 a = some (exO a C (some dx) fr) /\ H2 dx = some (xdO dx fs) /\ XSet K C /\ NoAttr K C f /\ fs.length < 100 /\
 D.nx σ (upd H2 dx (xdO dx (putF f y fs)))
theorem ps_x2 (ha : PE X o ta) (hv : PE X e tv) (hs : swapsWith e (some (.Attribute o f pos')) pos.line X.env = pure false) : PS X (.Assign [.Attribute o f pos'] e pos) (sX2 X.K ta tv f) := by
 intro pins s σ H D I h
 refine plainObj_wpAny_Assign_Attribute (thn (hv pins s σ H _ I h) fun u s1 ⟨y, H1, I1, ry, q⟩ => thn (ha pins s1 σ H1 _ I1 q) fun ov s2 ⟨x, H2, I2, rx, a, C, dx, fs, fr, ex, ne, hx, hd, FS, na, l, q2⟩ => ?_) hs
 subst ex
 obtain rfl : ov = Value.ref a := rx
 obtain ⟨⟨t, yy, c, b, g, gy⟩, _⟩ := I2.hok _ _ hx
 obtain ⟨⟨mA, n, rl, wi, l'⟩, _⟩ := I2.hok _ _ hd
 obtain ⟨od, ho, hl⟩ := lookIn_ns n
 have J : InstAt s2.heap a _ C (some od) := ⟨g, rfl, rfl, ho⟩
 refine set_plain I2.kIn J FS.sa ?_
 refine osa_openX (s := { s2 with toks := s2.toks + 1 }) I2.kIn J FS na.taker fun b' => ?_
 refine storeX (s := { s2 with toks := s2.toks + 1 }) (mA := mA) (ns := fs.map (·.1)) I2.kIn g FS (.inr ⟨dx, rfl, ne, n⟩) wi (by rw [List.length_map]; omega) fun h' tk' dx' _ e2 _ g1 g2 kp => ?_
 obtain rfl : dx' = dx := e2 dx rfl
 have kp' : ∀ b u, b ≠ dx' -> s2.heap.get? b = some u -> h'.get? b = some u := fun b u z q => by
  by_cases z2 : b = a
  ·subst z2
   rw [g] at q
   cases q
   exact g1
  ·exact kp b u z2 z q
 refine ⟨σ, _, I2.write (x := dx') (e := dx') (o := xdO dx' (putF f y fs)) (h' := h') (t' := tk') (by rw [hd]; exact True.intro) (.inl rfl) kp' (let ⟨o, _, _, q, _⟩ := g2; ⟨o, q⟩) (xdO_ok ⟨_, g2, fun g => ?_, fun g hg => ?_, ?_⟩), q2⟩
 ·show RelO ((putF f y fs).lookup g) (if g = f then some u else mA g)
  rw [lookup_putF]
  by_cases q : g = f
  ·rw [if_pos q, if_pos q]; exact ry
  ·rw [if_neg q, if_neg q]; exact rl g
 ·by_cases q : g = f
  ·rw [q]; exact (keys_putF f y fs).1
  ·refine (keys_putF f y fs).2 g (wi g fun z => hg ?_)
   show (if g = f then some u else mA g) = none
   rw [if_neg q]; exact z
 ·have := length_putF f y fs; omega
end
end L2
namespace L2
open PySem PySem.Spec PySem.Calls PyProof.Rows PySem.W
structure XInit (K : Frag) (CF : Addr) (i : String) : Prop where
 rd : readsIn K CF (.type "type") = true
 fc : findCls K (.ref CF) (.type "type") "__init__" = some (.val (.builtin i))
 ga : specialIn K (.ref CF) "__getattribute__" = some (some (.builtin "type.__getattribute__"))
 hi : handedIn (.builtin i) = true
section
variable {M : Model} {A : Around} {E : Value -> Shared -> Prop} {h : Heap} {g : Array GenState} {d : Drawn} {t : Nat} {os : OsState} {B newId initId : String} {bm : List Value}
theorem init_check (FB : ExcBaseFacts B newId initId bm) {e : Addr} {rest : List Value} {Q : Unit -> Shared -> Prop} {K : Frag} {D : Addr} {oe : Obj} {cd : ClassData} (X : K.In h) (hc : clsIn K D = some cd) (he : h.get? e = some oe) (hcl : oe.cls = .ref D) (L : Looks M h (isInstance (.ref e) (.type B)) true) (hq : Q () ⟨h, g, d, t, os⟩) :
  wpAny M A (checkBuiltinCall initId ⟨.ref e :: rest, []⟩) Q E ⟨h, g, d, t, os⟩ := by
 have hshort := FB.noStar
 simp only [checkBuiltinCall, FB.initKind, FB.initSplit, FB.initRow]
 refine wpAny_bind (L.at ?_)
 have L2 := looks_clsIn (M := M) X hc
 repeat (first | (with_reducible refine wpAny_loadPart_at he ?_; rw [hcl]) | with_reducible refine L2.at ?_ | wp_step)
 refine wpAny_onRaise ?_
 rw [show ∀ (a b : String) (n : Nat), Bind.check ⟨.positional, "*", B, .self, [⟨"args", .varPos, false⟩]⟩ a b n (List.map (fun x => x.fst) ({ pos := Value.ref e :: rest } : Args).kw) = pure () from
  fun a b n => check_star_args _ _ _ _ _ _]
 exact wpAny_pure hq
end
section
variable {prog : Program} {w : World} {A : Around} {E : Value -> Shared -> Prop} {s : Shared} {B newId initId : String} {bm : List Value}
theorem init_run (FB : ExcBaseFacts B newId initId bm) {e D t : Addr} {y c : Value} {b : Bool} {dxo : Option Addr} {us : List Value} {Q : Value -> Shared -> Prop} (g : s.heap.get? e = some (exObj D dxo t y c b)) {K : Frag} {cd : ClassData} (X : K.In s.heap) (hc : clsIn K D = some cd) (L : Looks (model prog w) s.heap (isInstance (.ref e) (.type B)) true) (hz : us.length <= sizeLine)
  (h : ∀ h' t', h'.get? e = some (exObj D dxo t' y c b) -> (∀ b u, b ≠ e -> s.heap.get? b = some u -> h'.get? b = some u) -> Q .none { s with heap := h' }) :
  wpAny (model prog w) A (call (.builtin initId) (.ref e :: us)) Q E s := by
 obtain ⟨hh, gg, d, tk, os⟩ := s
 dsimp only at g L X
 have hget : hh.get? e = some { cls := .ref D, dict := dxo, data := .fields #[.ref t, y, c, .none, .bool b, .none] } := g
 refine wpAny_call (codeAny_call_builtin FB.init.plain FB.initEntry (init_check FB X hc hget rfl L ?_))
 unfold Builtin.«BaseException.__init__»
 wp_walk
 have lt := Heap.lt_size g
 refine h _ hh.objs.size (Heap.get?_update_self _ (Heap.get?_push_of_some _ g) rfl) fun b u n q => ?_
 rw [Heap.get?_update_other _ _ (Ne.symm n)]
 exact Heap.get?_push_of_some _ q
end
theorem upd_me {H : Hp} {a : Addr} {o : HO} (e : H a = some o) : upd H a o = H := by
 funext b
 by_cases z : b = a
 ·rw [z, upd_same, e]
 ·rw [upd_ne z]
def tBI (K : Frag) (ta : TA) : TE := fun σ H Q => ta σ H fun vs H1 => ∃ (a D : Addr) (dxo : Option Addr) (fr : Bool) (vs' : List V), vs = .ref a :: vs' /\ H1 a = some (exO a D dxo fr) /\ mroIn K D (.type "ValueError") = some true /\ vs'.length <= sizeLine /\ Q .non H1
section
variable {X : Cx} {newId initId : String} {bm : List Value}
theorem pe_bi {x : Str} {CF : Addr} {e : Expr} {es : List Expr} {ta : TA} {np apos pos : Pos} {pl : Sem Bool} (FB : ExcBaseFacts "ValueError" newId initId bm) (FI : XInit X.K CF initId) (hg : Gl X x) (hm : X.mg x = some (.ref CF)) (ha : PA X (e :: es) ta)
  (hd : (x == ("__debug__" : Str)) = false := by decide) (hst : starEach (e :: es) X.env = (false, eval e X.env) :: starEach es X.env := by rfl) (hpl : (backTo pos (starEach es X.env)).any (·.1) = false := by rfl)
  (ht : eval (.Call (.Attribute (.Name x np) "__init__" apos) (e :: es) [] pos) X.env = (do
   let ov <- eval (.Name x np) X.env
   standAt apos.atName
   let (f, first) <- holding [ov] (getMethod ov "__init__" pl)
   callWith pos f first (backTo pos (starEach (e :: es) X.env)) (backToKw pos (keywordEach [] X.env))) := by rfl) : PE X (.Call (.Attribute (.Name x np) "__init__" apos) (e :: es) [] pos) (tBI X.K ta) := by
 intro pins s σ H Q I h
 refine PySem.W.methodCall_KW (pl := pl) (ld_glob I hg hm ?_ hd) ht
 refine method_cls I.kIn FI.ga (cls_value I.kIn FI.rd FI.fc FI.hi ?_)
 refine callWith_method1 (first := []) (thn (ha pos pins _ σ H _ (I.tok _) h) fun us s2 ⟨vs, H2, I2, r, q2⟩ => ?_) hst hpl
 obtain ⟨a, D, dxo, fr, vs', rfl, hx, mv, hz, q⟩ := q2
 cases r with
 | cons r1 r2 =>
  cases r1
  obtain ⟨⟨t, y, c, b, g, gy⟩, _⟩ := I2.hok _ _ hx
  obtain ⟨cd, hc⟩ := Option.isSome_iff_exists.mp (ic_of mv)
  have T : Looks (model X.prog X.w) s2.heap (typeOf (.ref a)) (.ref D) := (Looks.ld (part := none) g).andThen .now
  refine init_run FB g I2.kIn hc (T.andThen (looks_mroIn I2.kIn mv)) (by rw [<- r2.length]; exact hz) fun h' t' g' kp => ?_
  have I3 := I2.write (x := a) (e := a) (o := exO a D dxo fr) (h' := h') (t' := s2.toks) (by rw [hx]; exact True.intro) (.inl rfl) kp ⟨_, g'⟩ (exO_ok ⟨t', y, c, b, g', gy⟩)
  rw [upd_me hx] at I3
  exact ⟨.non, H2, I3, rfl, q⟩
end
def tFmtR (K : Frag) (t : TE) : TE := fun σ H Q => t σ H fun x H1 => ∃ (a : Addr) (ls : List Lf), x = .ref a /\ SqT K H1 a (ls.map Lf.v) /\ (∀ l ∈ ls, l.ok) /\ (tupleText (ls.map Lf.t)).length <= sizeLine /\ Q (.str (tupleText (ls.map Lf.t))) H1
section
variable {X : Cx}
theorem pe_fmtR {e : Expr} {t : TE} {pos : Pos} (he : PE X e t) (hg : X.A.guards = some []) (hu : X.A.units + 16 < cLine) : PE X (.FormattedValue e 114 none pos) (tFmtR X.K t) := by
 intro pins s σ H Q I h
 refine wpAny_FormattedValue_repr (thn (he pins s σ H _ I h) fun v s1 ⟨x, H1, I1, r1, a, ls, ex, hq, hat, hz, q⟩ => ?_)
 subst ex
 cases r1
 obtain ⟨its, rv, ht, hz'⟩ := I1.tuple hq
 obtain ⟨o, ho, hc, n, hd⟩ := id ht
 have hT : s1.TypeIs (.ref a) "tuple" := ⟨o, ho, hc⟩
 have R := reprAll_it I1 (as := []) (is := ls.map Rp.lf) (fun i hi => by
  obtain ⟨l, hl, rfl⟩ := List.mem_map.mp hi
  exact hat l hl) (fun i hi b hb => by
  obtain ⟨l, hl, rfl⟩ := List.mem_map.mp hi
  exact nomatch hb) (by rw [List.map_map]; exact rv)
 rw [List.map_map] at R
 unfold pyReprObj
 refine wpAny_bind (wpAny_cRoomFor (by omega) ?_)
 refine wpAny_bind (wpAny_specialOf (name := Str.ofString "__repr__") hT F.slot_tuple_repr.lookup ?_)
 refine wpAny_bind (m := callSpecialIfBound? _ (Str.ofString "__repr__")) (wpAny_callSpecialIfBound?_slotG (name := Str.ofString "__repr__") hT F.slot_tuple_repr (call_tuple_reprK ho hc hd List.not_mem_nil R (A := X.A) (g := []) hg (fun b _ => Clear.nil b) (by omega) (fun _ _ e => e) (fun h' u tk k => ?_) hz))
 refine wpAny_bind (wpAny_isInstance (T := "str") (b := true) rfl isSubtype_str_str (wpAny_pure ?_))
 exact formatField_str (fun t' tk' => ⟨.str _, H1, I1.kept (t' := tk') k, ⟨t', rfl⟩, q⟩) hz
end
end L2
namespace L2
open PySem PySem.Spec PySem.Calls PyProof.Rows PySem.W
def drp (H : Hp) (a : Addr) : Hp := fun b => if b = a then none else H b
structure OwnClsI (x : Str) (C f : Addr) (bmB : List Value) (newId : String) (mg : Str -> Option Value) (h : Heap) : Prop where
 bound : mg x = some (.ref C)
 obj : ∃ bm N nm q bs hdct sn sub ab col dd k0 k1 k2 k3 k5 mN, h.get? C = some (excClassObj nm q C N bs bm hdct sn sub ab col dd k0 k1 k2 k3 k5 newId) /\ h.Ns N mN /\ mN "__init__" = some (.ref f) /\ OwnTail h bmB bm
section
variable {prog : Program} {w : World} {A : Around} {E : Value -> Shared -> Prop} {h : Heap} {g : Array GenState} {d : Drawn} {t : Nat} {os : OsState}
variable {nm q : Str} {C N : Addr} {bs bm bmB : List Value} {hdct : Bool} {sn : List Str} {sub : List Value} {ab : Bool} {col : Option Bool} {dd : Option Addr} {k0 k1 k2 k3 k5 : Option Value} {B newId initId : String}
theorem type_call_initT (F : ExcBaseFacts B newId initId bmB) (T : OwnTail h bmB bm) {mN : Str -> Option Value} {rest : List Value} {fI : Addr} {oI : Obj} {Q : Fin -> Shared -> Prop}
  (hC : h.get? C = some (excClassObj nm q C N bs bm hdct sn sub ab col dd k0 k1 k2 k3 k5 newId)) (hn : h.Ns N mN) (hi : mN "__init__" = some (.ref fI)) (hfI : h.get? fI = some oI) (hfc : oI.cls = .type "function")
  (hq : ∀ h' e, Heap.MadeExcOf h h' e (.ref C) rest -> wpAny (model prog w) A (call (.ref fI) (.ref e :: rest)) (fun r s' => r = .none /\ Q (.done (.ret (.ref e))) s') E ⟨h', g, d, t, os⟩) (hrest : rest.length <= sizeLine) :
  wpAny (model prog w) A (Builtin.«type.__call__» ⟨.ref C :: rest, []⟩) Q E ⟨h, g, d, t, os⟩ := by
 repeat (first | with_reducible refine wpAny_loadPart_at hC ?_ | with_reducible refine wpAny_madeBy_exc hC ?_ | wp_step)
 refine codeAny_call_builtin_code (Code.quiet_builtin _ F.quiet) (wpAny_check_new_subT F T hC ?_)
 refine codeAny_exc_new_subT F T hC ?_ hrest
 show wpAny _ _ _ _ _ _
 generalize hH : ((h.push { cls := .type "tuple", data := .seq rest.toArray }).push { cls := .ref C, data := .fields #[.ref h.objs.size, .none, .none, .none, .bool false, .none] }) = h2
 have kp : ∀ b o, h.get? b = some o -> h2.get? b = some o := fun b o e => by rw [<- hH]; exact Heap.get?_push_of_some _ (Heap.get?_push_of_some _ e)
 have hget : h2.get? (h.objs.size + 1) = some { cls := .ref C, data := .fields #[.ref h.objs.size, .none, .none, .none, .bool false, .none] } := by rw [<- hH]; heap_get
 have hC₁ := kp _ _ hC
 have hcC : (Value.ref C :: bm).contains (.ref C) = true := by simp
 unfold isInstance
 repeat (first | with_reducible refine wpAny_loadPart_at hget ?_ | (with_reducible refine wpAny_isSubtype_exc hC₁ ?_; rw [hcC]) | wp_step)
 show wpAny _ _ (typeLookup (.ref C) _) _ _ _
 refine wpAny_typeLookup_tail hC₁ (hn.keeps kp) (T.keeps kp) F.mroIs F.init.lookup ?_
 rw [hi]
 refine wpAny_holding (wpAny_bind ?_)
 unfold bindSpecial
 refine wpAny_bind (wpAny_typeOf (T := "function") ⟨_, kp _ _ hfI, hfc⟩ ?_)
 rw [if_pos (by decide)]
 refine wpAny_pure (wpAny_bind (wpAny_mono (hq _ (h.objs.size + 1) ⟨kp, Heap.get?_none_of_le (Nat.le_succ _), h.objs.size, hget, Heap.get?_none_of_le (Nat.le_refl _), ?_⟩) (fun r s' hr => ?_) fun _ _ x => x))
 ·rw [<- hH]; exact Heap.get?_push_of_some _ (Heap.get?_push_at rfl rfl)
 ·obtain ⟨rfl, hQ⟩ := hr
  wp_walk
  exact hQ
theorem call_initT (F : ExcBaseFacts B newId initId bmB) (T : OwnTail h bmB bm) {mN : Str -> Option Value} {rest : List Value} {fI : Addr} {oI : Obj} {Q : Value -> Shared -> Prop}
  (hC : h.get? C = some (excClassObj nm q C N bs bm hdct sn sub ab col dd k0 k1 k2 k3 k5 newId)) (hn : h.Ns N mN) (hi : mN "__init__" = some (.ref fI)) (hfI : h.get? fI = some oI) (hfc : oI.cls = .type "function")
  (hq : ∀ h' e, Heap.MadeExcOf h h' e (.ref C) rest -> wpAny (model prog w) (A.under (.builtin "type.__call__" ⟨.ref C :: rest, []⟩)) (call (.ref fI) (.ref e :: rest)) (fun r s' => r = .none /\ Q (.ref e) s') E ⟨h', g, d, t, os⟩) (hrest : rest.length <= sizeLine) :
  wpAny (model prog w) A (call (.ref C) rest) Q E ⟨h, g, d, t, os⟩ := by
 have f1 := tc_lookup
 have f2 := tc_bind (.ref C)
 have hT : (⟨h, g, d, t, os⟩ : Shared).TypeIs (.ref C) "type" := ⟨_, hC, rfl⟩
 refine wpAny_call (codeAny_of_tree ?_)
 show wpAny _ _ (callAny (.ref C) _) _ _ _
 repeat (any_goals (first | assumption | with_reducible refine wpAny_loadPart_at hC ?_ | wp_step))
 refine ⟨rfl, ?_⟩
 refine codeAny_call_builtin_at (Code.quiet_builtin _ (by decide +kernel)) entry_typeCall (wpAny_check_type_call_sub hC (type_call_initT F T hC hn hi hfI hfc (fun h' e hm => ?_) hrest))
 exact hq h' e hm
end
theorem fn_obj {K : Frag} {f : Addr} (e : typeIn K (.ref f) = some (.type "function")) : ∃ o, K.lookup f = some o /\ o.cls = .type "function" := by
 have e : (K.lookup f).map (·.cls) = some (.type "function") := e
 obtain ⟨o, q, z⟩ := Option.map_eq_some_iff.mp e
 exact ⟨o, q, z⟩
section
variable {X : Cx} {newId initId B : String} {bm : List Value} {pins : List (Addr × Obj)} {σ : St} {H : Hp} {s : Shared} {Q : VK} {us : List Value} {vs : List V} {k : Nat} {x : Str} {C f : Addr} {fd : FuncData} {ps : List Str} {sp : Sp}
theorem Inv.newX {h' : Heap} {e : Addr} {ws : List Value} (I : Inv X pins σ H s) (hex : X.ex = []) (mk : Heap.MadeExcOf s.heap h' e (.ref C) ws) : H e = none /\ Inv X pins σ (upd H e (exO e C none true)) { s with heap := h' } := by
 have f0 := I.far (b := e) hex mk.new
 obtain ⟨t, g, _, _⟩ := mk.there
 refine ⟨f0.un, Inv.know (I.kept (h' := h') (t' := s.toks) mk.keeps) f0 (exO_ok ⟨t, .none, .none, false, g, fun _ => rfl⟩)⟩
theorem run_mkI (O : OwnClsI x C f bm newId X.mg X.base) (FB : ExcBaseFacts B newId initId bm) (hf : typeIn X.K (.ref f) = some (.type "function")) (F : FnOk X.prog X.w X.K X.mg X.base CX0 k f fd ps sp) (hr : Room (k + 1) X.A) (hb : Binds X.K fd ps []) (hex : X.ex = []) (I : Inv X pins σ H s) (r : Vals vs us) (hz : us.length <= sizeLine)
  (h : ∀ e, H e = none -> sp (.ref e :: vs) (upd H e (exO e C none true)) (fun v H2 => v = .non /\ Q (.ref e) H2) E0) : wpAny (model X.prog X.w) X.A (call (.ref C) us) (EP X pins σ Q) X.xe s := by
 obtain ⟨tl, N, nm, q, bs, hdct, sn, sub, ab, col, dd, k0, k1, k2, k3, k5, mN, hC, hN, hni, T⟩ := O.obj
 obtain ⟨oI, lk, hfc⟩ := fn_obj hf
 have I0 := I
 obtain ⟨hh, g, d, t, os⟩ := s
 refine call_initT FB (T.keeps I.bk) (I.bk _ _ hC) (hN.keeps I.bk) hni (I.kIn _ _ lk) hfc (fun h' e mk => ?_) hz
 obtain ⟨hn, I2⟩ := I.newX hex mk
 dsimp only at I2
 have hq := h e hn
 have r2 : Vals (V.ref e :: vs) (Value.ref e :: us ++ []) := by rw [List.append_nil]; exact .cons rfl r
 have hl : (Value.ref e :: us ++ []).length = ps.length := by
  have e1 := r2.length
  rw [F.len _ _ _ _ hq] at e1
  exact e1.symm
 refine wpAny_call (codeAny_mono (F.run _ X.stack _ _ ⟨Value.ref e :: us, []⟩ (Value.ref e :: us ++ []) _ _ E0 (hr.make C us []) (I2.env0.make C us []) (hb _ (Value.ref e :: us) I2.kIn hl) r2 hq) fun r s' hq' => ?_)
 cases r with
 | error v => exact pass0 pins σ _ _ v s' I2 hq'
 | ok fl =>
  cases fl with
  | ret u =>
   obtain ⟨v, H', I3, rv, ev, q3⟩ := I2.after hq'
   subst ev
   exact ⟨rv, ⟨V.ref e, H', I3, rfl, q3⟩⟩
  | next => exact False.elim hq'
  | brk => exact False.elim hq'
  | cont => exact False.elim hq'
def tMkI (C : Addr) (sp : Sp) (t : TA) : TE := fun σ H Q => t σ H fun vs H1 => vs.length <= sizeLine /\ ∀ e, H1 e = none -> sp (.ref e :: vs) (upd H1 e (exO e C none true)) (fun v H2 => v = .non /\ Q (.ref e) H2) E0
def tMk0 (C : Addr) (t : TA) : TE := fun σ H Q => t σ H fun vs H1 => vs.length <= sizeLine /\ ∀ e, H1 e = none -> Q (.ref e) (upd H1 e (exO e C none true))
theorem pe_mkI {e : Expr} {es : List Expr} {t : TA} {p pos : Pos} (O : OwnClsI x C f bm newId X.mg X.base) (FB : ExcBaseFacts B newId initId bm) (hf : typeIn X.K (.ref f) = some (.type "function")) (kp : keepIn X.K (.ref C) = true) (F : FnOk X.prog X.w X.K X.mg X.base CX0 k f fd ps sp) (hr : Room (k + 1) X.A) (hb : Binds X.K fd ps []) (hex : X.ex = []) (hg : Gl X x) (ha : PA X (e :: es) t)
  (hdb : (x == ("__debug__" : Str)) = false := by decide) (he : starEach (e :: es) X.env = (false, eval e X.env) :: starEach es X.env := by rfl) (hpl : (backTo pos (starEach es X.env)).any (·.1) = false := by rfl) : PE X (.Call (.Name x p) (e :: es) [] pos) (tMkI C sp t) := by
 intro pins s σ H Q I h
 refine wpAny_Call_Name_kw (ld_glob I hg O.bound ?_ hdb)
 refine PySem.W.callWith_K (h₀ := X.base) I.ok.mod.kin kp (thn (ha pos pins s σ H _ I h) fun us s1 ⟨vs, H1, I1, r, z, q⟩ => ⟨I1.kIn, ?_⟩) he hpl
 exact run_mkI O FB hf F hr hb hex I1 r (by have := r.length; show us.length <= sizeLine; omega) q
theorem pe_mk0 {e : Expr} {es : List Expr} {t : TA} {p pos : Pos} (O : OwnCls x C bm newId X.mg X.base) (FB : ExcBaseFacts B newId initId bm) (kp : keepIn X.K (.ref C) = true) (hex : X.ex = []) (hg : Gl X x) (ha : PA X (e :: es) t)
  (hdb : (x == ("__debug__" : Str)) = false := by decide) (he : starEach (e :: es) X.env = (false, eval e X.env) :: starEach es X.env := by rfl) (hpl : (backTo pos (starEach es X.env)).any (·.1) = false := by rfl) : PE X (.Call (.Name x p) (e :: es) [] pos) (tMk0 C t) := by
 intro pins s σ H Q I h
 refine wpAny_Call_Name_kw (ld_glob I hg O.bound ?_ hdb)
 refine PySem.W.callWith_K (h₀ := X.base) I.ok.mod.kin kp (thn (ha pos pins s σ H _ I h) fun us s1 ⟨vs, H1, I1, r, z, q⟩ => ⟨I1.kIn, ?_⟩) he hpl
 obtain ⟨tl, N, nm, q', bs, hdct, sn, sub, ab, col, dd, k0, k1, k2, k3, k5, mN, hC, hN, hni, T⟩ := O.obj
 obtain ⟨hh, g, d, t', os⟩ := s1
 refine wpAny_call_exc_subT FB (T.keeps I1.bk) (I1.bk _ _ hC) (hN.keeps I1.bk) hni (fun h' e mk => ?_) (by have := r.length; show us.length <= sizeLine; omega)
 obtain ⟨hn, I2⟩ := I1.newX hex mk
 exact ⟨.ref e, _, I2, rfl, q e hn⟩
end
theorem mg_of_ns {K : Frag} {h : Heap} {N : Addr} {mg : Str -> Option Value} {n : Str} {v : Value} (X : K.In h) (G : h.Ns N mg) (e : nsIn K N n = some (some v)) : mg n = some v := by
 obtain ⟨o, es, ep, ho, hd, _, hf⟩ := G
 unfold nsIn at e
 split at e
 ·rename_i c d es' n' sl q
  have := X _ _ q
  rw [ho] at this
  cases this
  cases hd
  split at e
  ·rename_i en he
   cases e
   rw [<- hf]
   unfold nsFind findBy
   rw [<- Array.find?_toList, he]
   rfl
  ·split at e <;> cases e
 ·cases e
def excInI (K : Frag) (C f : Addr) (bmB : List Value) (newId : String) : Bool := match K.lookup C with
 | some ⟨.type "type", _, .cls cd, sl⟩ => (match cd.mro, sl.toList with
  | .ref C' :: bm, [_, _, _, _, some (.builtin n), _] => C' == C && n == newId && !cd.hasDel && tailIn K bmB bm && nsOkIn K cd.ns && nsIn K cd.ns "__init__" == some (some (.ref f))
  | _, _ => false)
 | _ => false
theorem nsMap_of_in {K : Frag} {h : Heap} {N : Addr} {x : Str} {v : Value} (X : K.In h) (e : nsOkIn K N = true) (q : nsIn K N x = some (some v)) : h.nsMap N x = some v := mg_of_ns X (.of_isNs (isNs_of_in X e)) q
theorem own_mkI {K : Frag} {h : Heap} {mg : Str -> Option Value} {x : Str} {C f : Addr} {bmB : List Value} {newId : String} (X : K.In h) (G : h.Ns mainGlobals mg) (e : nsIn K mainGlobals x = some (some (.ref C))) (q : excInI K C f bmB newId = true) : OwnClsI x C f bmB newId mg h := by
 have hb := mg_of X G e
 cases ho : K.lookup C with
 | none => unfold excInI at q; rw [ho] at q; cases q
 | some o =>
  obtain ⟨cl, dd, dt, ⟨sl⟩⟩ := o
  unfold excInI at q
  rw [ho] at q
  split at q
  ·rename_i dd' cd' sl' eo
   injection eo with eo
   injection eo with e1 e2 e3 e4
   subst e1 e2 e3 e4
   split at q
   ·rename_i C' bm k0 k1 k2 k3 nw k5 hm hs
    rcases cd' with ⟨nm, bs, mro, N, qn, hd, sn, sub, ab, col, del⟩
    dsimp only at hm hs q
    simp only [Bool.and_eq_true, beq_iff_eq, Bool.not_eq_true'] at q
    rcases q with ⟨⟨⟨⟨⟨rfl, rfl⟩, rfl⟩, tl⟩, ok⟩, ini⟩
    subst hm hs
    exact ⟨hb, bm, N, nm, qn, bs, hd, sn, sub, ab, col, dd, k0, k1, k2, k3, k5, _, X _ _ ho, .of_isNs (isNs_of_in X ok), nsMap_of_in X ok ini, tail_of_in X tl⟩
   ·cases q
  ·cases q
end L2
namespace L2
open PySem PySem.Spec PySem.Calls PyProof.Rows PySem.W
section
variable {M : Model} {A : Around} {E : Value -> Shared -> Prop} {s : Shared} {env : Env} {K : Frag}
theorem raise_val {x : Sem Value} {Q : Flow -> Shared -> Prop} (hh : A.handled = none)
  (h : wpAny M A x (fun v s₁ => ∃ e t D dxo c b, v = .ref e /\ K.In s₁.heap /\ mroIn K D (.type "BaseException") = some true /\ typeIn K (.ref D) = some (.type "type") /\ s₁.heap.get? e = some (exObj D dxo t .none c b) /\ E (.ref e) s₁) E s) :
  wpAny M A (raiseStmt env (some x) none) Q E s := by
 unfold raiseStmt
 refine wpAny_bind (wpAny_mono h (fun v s₁ h₁ => ?_) fun _ _ x => x)
 obtain ⟨e, t, D, dxo, c, b, rfl, X, mb, ty, he, hE⟩ := h₁
 obtain ⟨hp, g, d, tk, os⟩ := s₁
 dsimp only at X he
 have he : hp.get? e = some { cls := .ref D, dict := dxo, data := .fields #[.ref t, .none, c, .none, .bool b, .none] } := he
 have L1 := looks_mroIn (M := M) X mb
 obtain ⟨oD, lk, hcl⟩ := Option.map_eq_some_iff.mp (show (K.lookup D).map (·.cls) = some (.type "type") from ty)
 have hD := X _ _ lk
 repeat (first | with_reducible refine wpAny_loadPart_at he ?_ | (with_reducible refine wpAny_loadPart_at hD ?_; rw [hcl]) | with_reducible refine L1.at ?_ | wp_step)
 exact wpAny_raiseNew_none hh hE
end
def RaisesD (X : Cx) (E : XK) : Prop := ∀ (pins : List (Addr × Obj)) (σ : St) (H : Hp) (s : Shared) (e D t : Addr) (dxo : Option Addr) (c : Value) (b : Bool), Inv X pins σ H s -> Far X pins H e -> s.heap.get? e = some (exObj D dxo t .none c b) -> E (.ref D) dxo H -> X.xe (.ref e) s
section
variable {X : Cx} {pins : List (Addr × Obj)} {σ : St} {H : Hp} {s : Shared} {a : Addr}
theorem Inv.drop {φ : Heap -> Prop} (I : Inv X pins σ H s) (e : H a = some (.ext φ)) (n : X.H₀ a = none) : Inv X pins σ (drp H a) s := by
 have s0 : X.s₀.heap.get? a = none \/ a ∈ X.ex := by
  by_cases x : a ∈ X.ex
  ·exact .inr x
  ·cases q : X.s₀.heap.get? a with
   | none => exact .inl rfl
   | some o => rw [I.base.free a o q n x] at e; cases e
 have dn : ∀ b, H b = none -> drp H a b = none := fun b z => by unfold drp; split <;> first | rfl | exact z
 have ds : ∀ b u, H b = some u -> b ≠ a -> drp H a b = some u := fun b u z ne => by unfold drp; rw [if_neg ne]; exact z
 refine ⟨I.ok, I.os, I.bare, ⟨I.base.keep, I.base.slot, fun b o q n hx => dn b (I.base.free b o q n hx), I.base.there, fun b xs q => ds b _ (I.base.tups b xs q) (fun z => by rw [z, n] at q; cases q), fun b o u q => ds b _ (I.base.frzs b o u q) (fun z => by rw [z, n] at q; cases q), fun b ps q => ?_⟩, I.loc, I.cell, dn _ I.free, fun x c q => dn c (I.freeC x c q), fun p hp => ?_, fun b u q => ?_, I.len⟩
 ·obtain ⟨more, r⟩ := I.base.tbls b ps q
  exact ⟨more, ds b _ r (fun z => by rw [z, n] at q; cases q)⟩
 ·obtain ⟨p1, p2, p3⟩ := I.pin p hp
  exact ⟨p1, dn _ p2, p3⟩
 ·have ne : b ≠ a := fun z => by
   rw [z] at q
   unfold drp at q
   rw [if_pos rfl] at q
   cases q
  have q' : H b = some u := by unfold drp at q; rw [if_neg ne] at q; exact q
  exact (I.hok b u q').stay (fun _ _ _ r => r) (fun d r => ds d _ r (fun z => by rw [z, e] at r; cases r)) fun d xs r => ds d _ r (fun z => by rw [z, e] at r; cases r)
theorem Inv.far_drop {φ : Heap -> Prop} (I : Inv X pins σ H s) (hex : X.ex = []) (e : H a = some (.ext φ)) (n : X.H₀ a = none) : Far X pins (drp H a) a := by
 refine ⟨?_, by unfold drp; rw [if_pos rfl], fun z => ?_, fun x c q z => ?_, fun p hp z => ?_⟩
 ·cases q : X.s₀.heap.get? a with
  | none => rfl
  | some o => rw [I.base.free a o q n (by rw [hex]; simp)] at e; cases e
 ·have := I.free
  rw [<- z, e] at this; cases this
 ·have := I.freeC x c q
  rw [z, e] at this; cases this
 ·have := (I.pin p hp).2.1
  rw [z, e] at this; cases this
end
def tRaiseV (K : Frag) (H0 : Hp) (E : XK) (te : TE) : TS := fun _ σ H => te σ H fun x H1 => ∃ a D dxo, x = .ref a /\ H1 a = some (exO a D dxo true) /\ H0 a = none /\ mroIn K D (.type "BaseException") = some true /\ typeIn K (.ref D) = some (.type "type") /\ E (.ref D) dxo (drp H1 a)
theorem ps_raiseV {X : Cx} {E : XK} {e : Expr} {te : TE} {pos : Pos} {K : Frag} {H0 : Hp} (hx : RaisesD X E) (hc : X.calm = true) (hex : X.ex = []) (he : PE X e te) (hK : X.K = K := by rfl) (hH : X.H₀ = H0 := by rfl) : PS X (.Raise (some e) none pos) (tRaiseV K H0 E te) := by
 subst hK hH
 intro pins s σ H D I h
 rw [arm_exec_Raise]
 refine wpAny_bind (wpAny_standAt (raise_val (K := X.K) (I.ok.hd hc) (wpAny_bind (wpAny_mono (he pins s σ H _ I h) (fun v s1 q => ?_) fun _ _ y => y))))
 obtain ⟨x, H1, I1, r, a, C, dxo, ex, hx1, n, mb, ty, q⟩ := q
 subst ex
 cases r
 refine wpAny_bind (wpAny_standAt (wpAny_pure ?_))
 obtain ⟨⟨t, y, c, b, g, gy⟩, _⟩ := I1.hok _ _ hx1
 have := gy rfl
 subst this
 exact ⟨a, t, C, dxo, c, b, rfl, I1.kIn, mb, ty, g, hx pins σ _ s1 a C t dxo c b (I1.drop hx1 n) (I1.far_drop hex hx1 n) g q⟩
section
variable {M : Model} {A : Around} {E : Value -> Shared -> Prop} {s : Shared} {K : Frag} {x D CF : Addr} {ox : Obj}
theorem exc_matchX {Q : Bool -> Shared -> Prop} (X : K.In s.heap) (L0 : Looks M s.heap (typeOf (.ref x)) (.ref D)) (tC : typeIn K (.ref CF) = some (.type "type")) (mb : mroIn K CF (.type "BaseException") = some true) (ic : (clsIn K CF).isSome = true) (mD : mroIn K D (.ref CF) = some true) (hq : Q true s) :
  wpAny M A (excMatches (.ref x) (.ref CF)) Q E s := by
 obtain ⟨hh, g, d, t, os⟩ := s
 have L1 := looks_mroIn (M := M) X mb
 have L2 := looks_mroIn (M := M) X mD
 have L3 := looks_typeIn (M := M) X tC
 have L4 := isType_cls (M := M) X ic
 have f := tc_notTuple
 unfold excMatches
 repeat (first | lk | wp_step)
 exact hq
end
def EXd (K : Frag) (CF : Addr) (n : Nat) (i : Nat) (ts : TS) (Dn : Ends) : XK := fun cls dxo H1 => ∃ D : Addr, cls = .ref D /\ Caught K D CF /\ ∀ e, H1 e = none ->
 ts { nx := fun σ H => Dn.nx (σ.set i none) H, rt := Dn.rt, bk := fun σ H => Dn.bk (σ.set i none) H, ct := fun σ H => Dn.ct (σ.set i none) H } ((List.replicate n none).set i (some (.ref e))) (upd H1 e (exO e D dxo false))
def tTryD (K : Frag) (CF : Addr) (n i : Nat) (tb : XK -> TS) (ts : TS) : TS := fun Dn σ H => tb (EXd K CF n i ts Dn) Dn σ H
section
variable {X : Cx} {body suite : List Stmt} {b₀ : Stmt} {x n : Str} {i : Nat} {CF : Addr} {tb : XK -> TS} {ts : TS} {np pos hp_ : Pos}
theorem ps_tryD (hex : X.ex = []) (hst : X.stack = X.env :: X.outer) (hfr : X.env.frame = some X.env.locals) (hg : Gl X x) (hm : X.mg x = some (.ref CF)) (hN : X.N.Nodup) (hi : X.N[i]? = some n) (hl : X.env.kindOf n = some .local) (hx : Loc X.env.scope n) (hf : X.fn n = true \/ X.env.scope.names.lookup n = some .local)
  (hb : ∀ (E : XK) (pn : List (Addr × Obj)) (xe : Value -> Shared -> Prop), RaisesD (X.tr pn xe) E -> PSs (X.tr pn xe) body (tb E)) (hs : ∀ pn e, PSs (X.sx pn e) (b₀ :: suite) ts)
  (hd : (x == ("__debug__" : Str)) = false := by decide) :
  PS X (.Try body [.ExceptHandler (some (.Name x np)) (some n) (b₀ :: suite) hp_] [] [] pos) (tTryD X.K CF X.N.length i tb ts) := by
 intro pins s σ H Dn I h
 have hcalm := I.ok.hd
 have hps : (X.env.scope.kind == .class || (X.env.scope.kind == .module && X.env.locals != X.env.globals)) = false := by rw [I.ok.kind]; rfl
 let E := EXd X.K CF X.N.length i ts Dn
 let xe : Value -> Shared -> Prop := fun v s' => ∃ (e D t : Addr) (dxo : Option Addr) (c : Value) (b : Bool) (H' : Hp), v = .ref e /\ Inv X pins (List.replicate X.N.length none) H' s' /\ Far X pins H' e /\ s'.heap.get? e = some (exObj D dxo t .none c b) /\ E (.ref D) dxo H'
 have hp : RaisesD (X.tr (X.pn ++ pins) xe) E := fun pins2 σ2 H2 s2 e D t dxo c b I2 fe g q => ⟨e, D, t, dxo, c, b, H2, rfl, I2.untr.blank, ⟨fe.s0, fe.un, fe.ne, fe.nc, fun p hp => fe.np p (List.mem_append_left _ hp)⟩, g, q⟩
 refine wpAny_Try_except (wpAny_mono (hb E _ xe hp [] s σ H Dn I.tr h) (fun f s1 q => ?_) (fun v s1 q => ?_))
 ·have q := SP.untr q
  cases f with
  | next => exact wpAny_execs_nil q
  | brk => exact q
  | cont => exact q
  | ret u => exact q
 ·obtain ⟨e, D, t, dxo, cc, bb, H1, rfl, I1, fe, g, D', eD, CT, q⟩ := q
  cases eD
  have hfs : X.A.frames = some (X.env :: X.outer) := by rw [<- hst]; exact I1.ok.frames
  have hstk : s1.heap.FunFrames X.base (X.env :: X.outer) := by rw [<- hst]; exact I1.stack
  unfold noteFrame
  simp only [hfr]
  refine wpAny_bind (wpAny_field g rfl (x := Value.none) rfl ?_)
  rw [if_neg (by decide)]
  refine entryP (Φ := fun o => ∃ t y c b, o = exObj D dxo t y c b) hfs hstk hfr g rfl (show 1 < 6 by omega) (fun x => ⟨t, x, cc, bb, rfl⟩) fun h2 T2 nt t2 fl2 => ?_
  have I2 : Inv X pins (List.replicate X.N.length none) H1 { s1 with heap := h2 } := I1.noted (ch := [e]) (fun b hb => by rw [show b = e by simpa using hb]; exact fe) (by rw [hst]; exact nt)
  have f2 := I1.far (b := T2) hex t2
  refine flightP (s := { s1 with heap := h2 }) fl2 fun h3 k3 fl3 => ?_
  have toT : ∀ (hh hh' : Heap), (∀ b o, b ≠ T2 -> hh.get? b = some o -> hh'.get? b = some o) -> Noted X.stack [T2] hh hh' := fun hh hh' k => ⟨fun b o _ nb q => k b o (by simpa using nb) q, fun b o _ nb q => ⟨o.slots, k b o (by simpa using nb) q⟩⟩
  have I3 : Inv X pins (List.replicate X.N.length none) H1 { s1 with heap := h3 } := I2.noted (ch := [T2]) (fun b hb => by rw [show b = T2 by simpa using hb]; exact f2) (toT _ _ k3)
  refine wpAny_handleBy_cons (codeAny_handlers_test ?_) (by intro z; cases z)
  refine ld_glob (X := X.sx (X.pn ++ pins) e) I3.sx hg hm ?_ hd
  obtain ⟨oe, vs, oT, tl, g1, ⟨t3, y3, c3, b3, g2⟩, g3⟩ := id fl3
  refine exc_matchX (K := X.K) I3.kIn ((Looks.ld (part := none) g1).andThen (by rw [g2]; exact .now)) CT.ty CT.mb (ic_of CT.mb) CT.md ?_
  show codeAny _ _ _ _ _
  refine codeAny_handlers_suite_as ?_
  refine flightP (s := { s1 with heap := h3 }) fl3 fun h4 k4 fl4 => ?_
  have I4 : Inv X pins (List.replicate X.N.length none) H1 { s1 with heap := h4 } := I3.noted (ch := [T2]) (fun b hb => by rw [show b = T2 by simpa using hb]; exact f2) (toT _ _ k4)
  obtain ⟨oe4, _, _, _, r1, ⟨t4, y4, c4, b4, r2⟩, _⟩ := id fl4
  subst r2
  have I5 := I4.know (o := exO e D dxo false) fe (exO_ok ⟨t4, y4, c4, b4, r1, fun z => nomatch z⟩)
  refine store_ok (X := X.sx (X.pn ++ pins) e) I5.sx hN hi hx (v := .ref e) rfl (fun s6 I6 => ?_) hf
  refine wpAny_mono (hs (X.pn ++ pins) e [] s6 _ _ _ I6 (q e fe.un)) (fun f s7 z => ?_) fun _ _ z => z.elim
  have gone : ∀ (σ7 : St) (H7 : Hp) (R : Unit -> Shared -> Prop) (E7 : Value -> Shared -> Prop), Inv (X.sx (X.pn ++ pins) e) [] σ7 H7 s7 -> (∀ s8, Inv X pins (σ7.set i none) H7 s8 -> R () s8) -> wpAny (model X.prog X.w) X.A (do bindName X.env n .none; unbindBehindTheSuite X.env n hp_) R E7 s7 := fun σ7 H7 R E7 I7 k => by
   have I8 : Inv X pins σ7 H7 s7 := I7.unsx hcalm
   obtain ⟨m, hm7, _⟩ := id I8.loc
   refine wpAny_nameGoes_keeps hl hm7 hps fun h8 v8 n8 sb => k _ (I8.gone hN hi (m' := m) (fun m' hm' => ⟨v8, ?_⟩) sb)
   rw [ns_fun hm' hm7]
   exact n8
  cases f with
  | next => obtain ⟨σ7, H7, I7, q7⟩ := z; exact gone σ7 H7 _ _ I7 fun s8 I8 => ⟨_, _, I8, q7⟩
  | brk => obtain ⟨σ7, H7, I7, q7⟩ := z; exact gone σ7 H7 _ _ I7 fun s8 I8 => ⟨_, _, I8, q7⟩
  | cont => obtain ⟨σ7, H7, I7, q7⟩ := z; exact gone σ7 H7 _ _ I7 fun s8 I8 => ⟨_, _, I8, q7⟩
  | ret u => obtain ⟨v, σ7, H7, I7, r7, q7⟩ := z; exact gone σ7 H7 _ _ I7 fun s8 I8 => ⟨v, _, _, I8, r7, q7⟩
end
end L2
namespace L2
open PySem PySem.Spec WordM
theorem ofS_cps (z : String) : cs (Str.ofString z) = z.toList.map Char.toNat := by
 rw [Str.ofString_eq_toList]
theorem int_chars (i : Int) (h : i.natAbs < 10 ^ 100) : (∀ c ∈ (toString i).toList, c.isDigit = true \/ c = '-') /\ (toString i).toList.length <= 101 := by
 cases i with
 | ofNat m =>
  show (∀ c ∈ m.repr.toList, _) /\ m.repr.toList.length <= 101
  rw [Nat.toList_repr]
  refine ⟨fun c hc => .inl (Nat.isDigit_of_mem_toDigits (by decide) (by decide) hc), ?_⟩
  have := (Nat.length_toDigits_le_iff (b := 10) (n := m) (k := 100) (by decide) (by decide)).mpr h
  omega
 | negSucc m =>
  show (∀ c ∈ ("-" ++ m.succ.repr).toList, _) /\ ("-" ++ m.succ.repr).toList.length <= 101
  rw [String.toList_append, Nat.toList_repr]
  refine ⟨fun c hc => ?_, ?_⟩
  ·rcases List.mem_append.mp hc with z | z
   ·exact .inr (by simpa using z)
   ·exact .inl (Nat.isDigit_of_mem_toDigits (by decide) (by decide) z)
  ·have := (Nat.length_toDigits_le_iff (b := 10) (n := m.succ) (k := 100) (by decide) (by decide)).mpr h
   rw [List.length_append]
   have e : ("-" : String).toList.length = 1 := by decide
   omega
theorem dig_sig : ∀ k : Nat, k < 10 -> (k + 48) ∈ cs SIG := by decide +kernel
theorem int_sg (i : Int) (h : i.natAbs < 10 ^ 100) : Sg (Str.ofString (toString i)) /\ (Str.ofString (toString i)).length <= 101 := by
 obtain ⟨h1, h2⟩ := int_chars i h
 refine ⟨fun c hc => ?_, ?_⟩
 ·rw [ofS_cps] at hc
  obtain ⟨d, hd, rfl⟩ := List.mem_map.mp hc
  rcases h1 d hd with z | rfl
  ·simp only [Char.isDigit, Bool.and_eq_true, decide_eq_true_eq] at z
   have a : 48 <= d.toNat := z.1
   have b : d.toNat <= 57 := z.2
   have := dig_sig (d.toNat - 48) (by omega)
   rw [show d.toNat - 48 + 48 = d.toNat by omega] at this
   exact this
  ·decide +kernel
 ·have : (Str.ofString (toString i)).length = (cs (Str.ofString (toString i))).length := by simp [cs, Str.length]
  rw [this, ofS_cps, List.length_map]
  exact h2
end L2
namespace L2
open PySem PySem.Spec PyProof.Rows WordM
section
variable {X : Cx} {F : Fm} {pos p : Pos} {e a b elt iter : Expr} {es ifs : List Expr} {x : Str} {u ua ub ue : UT} {ut : UTa} {ui : UTl} {tf : UTt} {sc scope : Scope} {XN N : List Str} {fr : List Nat}
theorem ue_fm {k m : Nat} {ps : List Str} {psp : PSp} (G : PGood X.prog X.w X.K X.mg X.base k x ps psp) (hr : Room m X.A) (ha : UA X F (e :: es) ut) (hm : k <= m := by omega) (hg : Gl X x := by exact rfl) (hdb : (x == ("__debug__" : Str)) = false := by decide)
  (hst : isStar e = false := by rfl) (hpl : (backTo pos (starEach es X.env)).any (·.1) = false := by rfl) : UE X F (.Call (.Name x p) (e :: es) [] pos) (uCall psp ut) := ue_fn G (hr.mono hm) hg ha hdb hst hpl
theorem us_s (i : Nat) {pos' : Pos} (hN : X.N.Nodup) (he : UE X F e u) (hi : X.N[i]? = some x := by rfl) (hx : Loc X.env.scope x := by first | exact Or.inl rfl | exact Or.inr rfl) (hs : swapsWith e (some (.Name x pos')) pos.line X.env = pure false := by rfl) (hf : X.fn x = true \/ X.env.scope.names.lookup x = some .local := by first | exact .inl rfl | exact .inr rfl | assumption) :
  US X F (.Assign [.Name x pos'] e pos) (sSet i u) := us_set hN hi hx he hs hf
theorem ue_x {m : Nat} (hr : Room m X.A) (ha : UE X F a ua) (hb : UE X F b ub) (hs : PlainIx b := by intro _ _; rfl) : UE X F (.Subscript a b pos) (uOp pIx ua ub) := ue_ix (pu_ix hr.units) ha hb hs
theorem ub_q {m : Nat} (hr : Room m X.A) (ha : UE X F a ua) (hb : UE X F b ub) : UB X F (.Compare a [.Eq] [b] pos) (uB (uOp pEq ua ub)) := ub_cmp (pu_eq hr.units) ha hb (nomark _)
theorem ub_n {m : Nat} (hr : Room m X.A) (ha : UE X F a ua) (hb : UE X F b ub) : UB X F (.Compare a [.NotEq] [b] pos) (uB (uOp pNe ua ub)) := ub_cmp (pu_ne hr.units) ha hb (nomark _)
end
end L2
namespace L2
open PySem PySem.Spec PyProof.Rows WordM
section
variable {P : Program} {w : World} {K : PySem.W.Frag} {mg : Str -> Option Value} {base : Heap} {x : Str} {st : Stmt} {k : Nat} {psp : PSp} {us : UTs}
theorem Has.pg2 (N : List Str) {a b : Str} (h : Has K mg x st)
  (hbody : ∀ {f : Addr} {cdv : Value} {A : Around} {outer : List Env} {s : Shared} {H : Hp} {E : XK} {F : Fm}, N.Nodup -> Room k (A.deeper (envOfC x (defScope st) s.heap.objs.size f cdv)) -> USs (cxOf CX0 P w K mg base N x (defScope st) f cdv A outer s H E).nox F (defBody st) us)
  (hp : ∀ as R, psp as R -> as.length = [a, b].length /\ us { nx := fun _ => R nT, rt := R } (startP N.length as))
  (S : FnScope N [a, b] (defScope st) := by exact fsc (by decide +kernel))
  (hb : ∀ (kV doc pm : Value) (an : Option Addr) (cdv ct v0 v1 : Value), bindArgs (PySem.W.fnOf x x (defArgs st) (defBody st) (defScope st) .none kV doc pm an cdv ct) ⟨[v0, v1], []⟩ = pure ([a, b].zip [v0, v1]) := by exact fun _ _ _ _ _ _ _ _ => rfl) : PGood P w K mg base (k + 1) x [a, b] psp :=
 h.pgood S (fun kV doc pm an cdv ct us hl => match us, hl with | [v0, v1], _ => hb kV doc pm an cdv ct v0 v1) (fun f cdv A outer s H E F hr => hbody S.nd hr) hp
end
end L2
namespace L2
open PySem PySem.Spec PyProof.Rows WordM
section
variable {X : Cx} {F : Fm} {C : Addr}
def vaS : List Ar -> List Tv -> Prop
 | [], [] => True
 | .va T :: as, U :: Ts => T = U /\ vaS as Ts
 | _, _ => False
theorem vaS_at {K : PySem.W.Frag} {dk : Option (Addr × Addr)} {H : Hp} : ∀ {xs : List V} {as : List Ar} {Ts : List Tv}, Paired (ArAt K dk H) xs as -> vaS as Ts -> VAs K H xs Ts
 | [], [], [], _, _ => .nil
 | x :: xs, .va T :: as, U :: Ts, .cons r t, h => by
  obtain ⟨rfl, h⟩ := h
  exact .cons r (vaS_at t h)
end
end L2
namespace L2
open PySem PySem.Spec PyProof.Rows WordM
def plainS : Sl -> Bool
 | .no => true
 | .va _ => true
 | .dk => true
 | .fn _ => true
 | _ => false
end L2
namespace L2
open PySem PySem.Spec PyProof.Rows WordM
def XHt (K : PySem.W.Frag) (H : Hp) (e D : Addr) (fts : List (Str × Tv)) : Prop := ∃ fs, XH H e D fs /\ Paired (fun (p : Str × V) (q : Str × Tv) => p.1 = q.1 /\ VA K H p.2 q.2) fs fts
theorem XH.up {H H' : Hp} {e D : Addr} {fs : List (Str × V)} (x : XH H e D fs) (k : ∀ b φ, H b = some (.ext φ) -> H' b = some (.ext φ)) : XH H' e D fs := by
 obtain ⟨fr, ⟨a, b⟩ | ⟨dx, n, a, b⟩⟩ := x
 ·exact ⟨fr, .inl ⟨a, k _ _ b⟩⟩
 ·exact ⟨fr, .inr ⟨dx, n, k _ _ a, k _ _ b⟩⟩
theorem XHt.up {K : PySem.W.Frag} {H H' : Hp} {e D : Addr} {fts : List (Str × Tv)} (x : XHt K H e D fts) (k : ∀ b φ, H b = some (.ext φ) -> H' b = some (.ext φ)) (hs : HS H H') : XHt K H' e D fts := by
 obtain ⟨fs, a, p⟩ := x
 exact ⟨fs, a.up k, Paired.mapP p fun _ _ q => ⟨q.1, q.2.hs hs⟩⟩
theorem lookup_t {K : PySem.W.Frag} {H : Hp} {f : Str} {T : Tv} : ∀ {fs : List (Str × V)} {fts : List (Str × Tv)}, Paired (fun (p : Str × V) (q : Str × Tv) => p.1 = q.1 /\ VA K H p.2 q.2) fs fts -> fts.lookup f = some T -> ∃ v, fs.lookup f = some v /\ VA K H v T
 | [], [], _, h => nomatch h
 | (g, v) :: fs, (g', U) :: fts, .cons ⟨e, va⟩ p, h => by
  have e : g = g' := e
  subst e
  rw [List.lookup_cons] at h ⊢
  cases z : (f == g) with
  | true =>
   rw [z] at h
   cases h
   exact ⟨v, rfl, va⟩
  | false =>
   rw [z] at h
   exact lookup_t p h
section
variable {K : PySem.W.Frag} {F : Fm} {ρ : PEnv} {σ : St} {H : Hp}
theorem FrOk.exts (fr : FrOk K F ρ σ H) : ∀ b φ, F.H0 b = some (.ext φ) -> H b = some (.ext φ) := fun b φ e => fr.kp.st b _ e (fun p c d => by
  obtain ⟨_, ⟨S, k, e1⟩, ns, e2, _⟩ := fr.d0 p c d
  exact ⟨fun z => (by rw [z, e1] at e; cases e), fun z => (by rw [z, e2] at e; cases e)⟩) fun a C d z => by
 obtain ⟨t, p, dx, e1⟩ := fr.r0 a C d
 rw [z, e1] at e
 cases e
theorem FrOk.hs0 (fr : FrOk K F ρ σ H) : HS F.H0 H := fun b o h e => fr.kp.st b o e (fun p c d => by
  obtain ⟨_, ⟨S, k, e1⟩, ns, e2, _⟩ := fr.d0 p c d
  exact ⟨fun z => (by rw [z, e1] at e; cases e; cases h), fun z => (by rw [z, e2] at e; cases e; cases h)⟩) fun a C d z => by
 obtain ⟨t, p, dx, e1⟩ := fr.r0 a C d
 rw [z, e1] at e
 cases e
 cases h
theorem FrOk.xht (fr : FrOk K F ρ σ H) {a D : Addr} {fts : List (Str × Tv)} (x : XHt K F.H0 a D fts) : XHt K H a D fts := x.up fr.exts fr.hs0
end
abbrev Kn := Addr -> Addr -> List (Str × Tv) -> Prop
def KnOk (K : PySem.W.Frag) (F : Fm) (kn : Kn) : Prop := ∀ a D fts, kn a D fts -> XHt K F.H0 a D fts
section
variable {X : Cx} {F : Fm} {kn : Kn}
def uIsN (K : PySem.W.Frag) (kn : Kn) (i : Nat) (C : Addr) : UT := fun ρ Q => ∃ a D fts b, ρ[i]? = some (.fn a) /\ kn a D fts /\ XBase K /\ XCls K D /\ PySem.W.kitOne K (.ref D) (.ref C) = some b /\ Q (bT b) ρ
theorem ue_isN (i : Nat) {K : PySem.W.Frag} {x c : Str} {C : Addr} {p p1 p2 pos : Pos} (hk : KnOk K F kn) (hb : X.mg "isinstance" = none) (hm : X.mg c = some (.ref C)) (hg : Gl X "isinstance" := by rfl) (hc : Gl X c := by rfl) (hN : X.N[i]? = some x := by rfl) (hv : Vis X.env.scope x := by first | exact Or.inl rfl | exact Or.inr (Or.inl rfl) | exact Or.inr (Or.inr rfl)) (hd : (x == ("__debug__" : Str)) = false := by decide) (hcd : (x == ("__classdict__" : Str)) = false := by decide) (hdc : (c == ("__debug__" : Str)) = false := by decide) (hK : X.K = K := by rfl) :
  UE X F (.Call (.Name "isinstance" p) [.Name x p1, .Name c p2] [] pos) (uIsN K kn i C) := by
 subst hK
 exact ⟨PE.imp (pe_callB call_isN hg hb boot_isinstance (pa_c (pe_var hN hv hd hcd) (pa_c (pe_glob (v := .ref C) hc hm rfl hdc) pa_nil rfl) rfl)) fun σ H QQ ⟨ρ, Q, fr, ⟨a, D, fts, b, e, kx, XB, XC, kt, q⟩, k⟩ => by
  obtain ⟨fs, xh, _⟩ := fr.xht (hk a D fts kx)
  exact ⟨_, ixv_some (fr.at_ i _ e), a, C, D, fs, b, rfl, xh, XB, XC, kt, k _ _ _ _ (Stp.refl fr) (.flat rfl) q⟩⟩
def uIsNT (K : PySem.W.Frag) (kn : Kn) (i : Nat) (T : String) : UT := fun ρ Q => ∃ a D fts b, ρ[i]? = some (.fn a) /\ kn a D fts /\ XBase K /\ XCls K D /\ PySem.W.kitOne K (.ref D) (.type T) = some b /\ Q (bT b) ρ
theorem ue_isNT (i : Nat) {K : PySem.W.Frag} {x c : Str} {T : String} {p p1 p2 pos : Pos} (hk : KnOk K F kn) (hb : X.mg "isinstance" = none) (hm : X.mg c = none) (bt : bootBuiltins c = some (.type T)) (hg : Gl X "isinstance" := by rfl) (hc : Gl X c := by rfl) (hnn : c ≠ "__name__" := by decide) (hN : X.N[i]? = some x := by rfl) (hv : Vis X.env.scope x := by first | exact Or.inl rfl | exact Or.inr (Or.inl rfl) | exact Or.inr (Or.inr rfl)) (hd : (x == ("__debug__" : Str)) = false := by decide) (hcd : (x == ("__classdict__" : Str)) = false := by decide) (hdc : (c == ("__debug__" : Str)) = false := by decide) (hK : X.K = K := by rfl) :
  UE X F (.Call (.Name "isinstance" p) [.Name x p1, .Name c p2] [] pos) (uIsNT K kn i T) := by
 subst hK
 exact ⟨PE.imp (pe_callB call_isNT hg hb boot_isinstance (pa_c (pe_var hN hv hd hcd) (pa_c (pe_bltn (v := .ty T) hc hm bt rfl hnn hdc) pa_nil rfl) rfl)) fun σ H QQ ⟨ρ, Q, fr, ⟨a, D, fts, b, e, kx, XB, XC, kt, q⟩, k⟩ => by
  obtain ⟨fs, xh, _⟩ := fr.xht (hk a D fts kx)
  exact ⟨_, ixv_some (fr.at_ i _ e), a, D, T, fs, b, rfl, xh, XB, XC, kt, k _ _ _ _ (Stp.refl fr) (.flat rfl) q⟩⟩
def uXFld (K : PySem.W.Frag) (kn : Kn) (i : Nat) (f : Str) : UT := fun ρ Q => ∃ a D fts T, ρ[i]? = some (.fn a) /\ kn a D fts /\ XCls K D /\ XSet K D /\ NoAttr K D f /\ fts.lookup f = some T /\ Q T ρ
theorem ue_xfld (i : Nat) {K : PySem.W.Frag} {x f : Str} {p pos : Pos} (hk : KnOk K F kn) (hN : X.N[i]? = some x := by rfl) (hv : Vis X.env.scope x := by first | exact Or.inl rfl | exact Or.inr (Or.inl rfl) | exact Or.inr (Or.inr rfl)) (hd : (x == ("__debug__" : Str)) = false := by decide) (hcd : (x == ("__classdict__" : Str)) = false := by decide)
  (hb : attributeBase (.Name x p) f X.env (eval (.Name x p) X.env) = eval (.Name x p) X.env := by rfl) (hK : X.K = K := by rfl) : UE X F (.Attribute (.Name x p) f pos) (uXFld K kn i f) := by
 subst hK
 exact ⟨PE.imp (pe_xfld (pe_var hN hv hd hcd) hb) fun σ H QQ ⟨ρ, Q, fr, ⟨a, D, fts, T, e, kx, XC, XS, na, l, q⟩, k⟩ => by
  obtain ⟨fs, xh, pr⟩ := fr.xht (hk a D fts kx)
  obtain ⟨v, lv, va⟩ := lookup_t pr l
  exact ⟨_, ixv_some (fr.at_ i _ e), a, D, fs, v, rfl, xh, XC, XS, na, lv, k _ _ _ _ (Stp.refl fr) va q⟩⟩
end
abbrev PSpX := Addr -> List (Str × Tv) -> (Tv -> Prop) -> Prop
def liftXc (K : PySem.W.Frag) (psp : PSpX) : Sp := fun vs H Q _ => ∃ a D fts R, vs = [.ref a] /\ XHt K H a D fts /\ psp D fts R /\ ∀ x T H', Kp none none H H' -> VA K H' x T -> R T -> Q x H'
def PGoodXc (P : Program) (w : World) (K : PySem.W.Frag) (mg : Str -> Option Value) (base : Heap) (k : Nat) (x : Str) (ps : List Str) (psp : PSpX) : Prop := Good P w K mg base k x ps (liftXc K psp)
theorem Has.pgXc {P : Program} {w : World} {K : PySem.W.Frag} {mg : Str -> Option Value} {base : Heap} {x y : Str} {st : Stmt} {N : List Str} {k : Nat} {psp : PSpX} {us : Kn -> UTs} (h : Has K mg x st) (S : FnScope N [y] (defScope st))
  (hb : ∀ (kV doc pm : Value) (an : Option Addr) (cdv ct : Value) (us : List Value), us.length = ([y] : List Str).length -> bindArgs (PySem.W.fnOf x x (defArgs st) (defBody st) (defScope st) .none kV doc pm an cdv ct) ⟨us, []⟩ = pure (([y] : List Str).zip us))
  (hbody : ∀ (f : Addr) (cdv : Value) (A : Around) (outer : List Env) (s : Shared) (H : Hp) (E : XK) (F : Fm) (kn : Kn), KnOk K F kn -> Room k (A.deeper (envOfC x (defScope st) s.heap.objs.size f cdv)) -> USs (cxOf CX0 P w K mg base N x (defScope st) f cdv A outer s H E).nox F (defBody st) (us kn))
  (hp : ∀ a D fts R, psp D fts R -> us (fun b D' fts' => b = a /\ D' = D /\ fts' = fts) { nx := fun _ => R nT, rt := R } (startP N.length [.fn a])) : PGoodXc P w K mg base (k + 1) x [y] psp := by
 refine h.good S hb (fun vs H Q E q => ?_) (fun f cdv A outer s H vs Q E hr q => ?_)
 ·obtain ⟨a, D, fts, R, rfl, _⟩ := q
  rfl
 ·obtain ⟨a, D, fts, R, rfl, xh, q, k⟩ := q
  refine ⟨_, (hbody f cdv A outer s H E ⟨H, none, none⟩ (fun b D' fts' => b = a /\ D' = D /\ fts' = fts) (fun b D' fts' z => by obtain ⟨rfl, rfl, rfl⟩ := z; exact xh) hr).ps, startP N.length [.fn a], _, fr_start (fun _ _ z => nomatch z) (.cons rfl .nil), hp a D fts R q, fun σ' H' ρ' fr _ q => k _ _ _ fr.kp (.flat rfl) q, fun x T H' _ kp _ v q => k x T H' kp v (q.elim id False.elim), fun _ _ _ _ _ z => z, fun _ _ _ _ _ z => z⟩
section
variable {X : Cx} {F : Fm} {kn : Kn}
def uCallXc (kn : Kn) (i : Nat) (psp : PSpX) : UT := fun ρ Q => ∃ a D fts, ρ[i]? = some (.fn a) /\ kn a D fts /\ psp D fts fun T => Q T ρ
theorem Kp.wk {dk : Option (Addr × Addr)} {H H' : Hp} (k : Kp none none H H') (d : ∀ p c, dk = some (p, c) -> DeckAt H p c) : Kp dk none H H' := by
 have st : ∀ b o, H b = some o -> H' b = some o := fun b o e => k.st b o e (fun _ _ z => nomatch z) fun _ _ z => nomatch z
 refine ⟨fun b o e _ _ => st b o e, fun p c z => ?_, fun _ _ z => nomatch z⟩
 obtain ⟨ne, ⟨S, j, e1⟩, ns, e2, l⟩ := d p c z
 exact ⟨ne, ⟨S, j, st _ _ e1⟩, ns, st _ _ e2, l⟩
theorem ue_callXc (i : Nat) {K : PySem.W.Frag} {k : Nat} {f x : Str} {ps : List Str} {psp : PSpX} {p p' pos : Pos} (hk : KnOk K F kn) (G : PGoodXc X.prog X.w X.K X.mg X.base k f ps psp) (hr : Room k X.A) (hg : Gl X f := by rfl) (hN : X.N[i]? = some x := by rfl) (hv : Vis X.env.scope x := by first | exact Or.inl rfl | exact Or.inr (Or.inl rfl) | exact Or.inr (Or.inr rfl)) (hd : (x == ("__debug__" : Str)) = false := by decide) (hcd : (x == ("__classdict__" : Str)) = false := by decide) (hdb : (f == ("__debug__" : Str)) = false := by decide) (hK : X.K = K := by rfl) :
  UE X F (.Call (.Name f p) [.Name x p'] [] pos) (uCallXc kn i psp) := by
 subst hK
 exact ⟨PE.imp (pe_fn G hr hg (pa_c (pe_var hN hv hd hcd) pa_nil rfl) hdb rfl rfl) fun σ H QQ ⟨ρ, Q, fr, ⟨a, D, fts, e, kx, q⟩, k⟩ => by
  refine ⟨_, ixv_some (fr.at_ i _ e), ?_⟩
  exact ⟨a, D, fts, _, rfl, fr.xht (hk a D fts kx), q, fun x T H' kp v r => k _ _ _ _ (Stp.call fr (kp.wk fr.kp.dkk)) v r⟩⟩
end
abbrev PSpN := List Tv -> Addr -> List (Str × Tv) -> Prop
def liftNX (K : PySem.W.Frag) (psp : PSpN) : Sp := fun vs H Q _ => ∃ Ts D fts, VAs K H vs Ts /\ psp Ts D fts /\ ∀ e H', (∀ b o, H b = some o -> H' b = some o) -> H e = none -> XHt K H' e D fts -> Q (.ref e) H'
def GoodNX (P : Program) (w : World) (K : PySem.W.Frag) (mg : Str -> Option Value) (base : Heap) (k : Nat) (x : Str) (ps : List Str) (psp : PSpN) : Prop := Good P w K mg base k x ps (liftNX K psp)
section
variable {X : Cx} {F : Fm} {kn : Kn}
theorem fr_newX {K : PySem.W.Frag} {ρ : PEnv} {σ : St} {H H2 : Hp} {i : Nat} {e : Addr} (fr : FrOk K F ρ σ H) (hrd : F.rd = none) (hp : ρ.all plainS = true) (hi : i < ρ.length) (st : ∀ b u, H b = some u -> H2 b = some u) :
  FrOk K ⟨H2, F.dk, none⟩ (ρ.set i (.fn e)) (σ.set i (some (.ref e))) H2 := by
 have hs : HS H H2 := fun b u _ e => st b u e
 have pl : ∀ (j : Nat) (s : Sl), ρ[j]? = some s -> plainS s = true := fun j s e => List.all_eq_true.mp hp s (List.mem_of_getElem? e)
 have get : ∀ (j : Nat) (s : Sl), (ρ.set i (.fn e))[j]? = some s -> (i = j /\ s = .fn e) \/ (i ≠ j /\ ρ[j]? = some s) := fun j s e' => by
  by_cases z : i = j
  ·subst z
   rw [List.getElem?_set_self hi] at e'
   exact .inl ⟨rfl, (Option.some.inj e').symm⟩
  ·rw [List.getElem?_set_ne z] at e'; exact .inr ⟨z, e'⟩
 have dk : ∀ p c, F.dk = some (p, c) -> DeckAt H2 p c := fun p c d => by
  obtain ⟨ne, ⟨S, k, e4⟩, ns, e5, l⟩ := fr.kp.dkk p c d
  exact ⟨ne, ⟨S, k, st _ _ e4⟩, ns, st _ _ e5, l⟩
 have im : ∀ (j : Nat) (s : Sl), (ρ.set i (.fn e))[j]? = some s -> mutb s = false := fun j s e' => by
  rcases get j s e' with ⟨_, rfl⟩ | ⟨_, e'⟩
  ·rfl
  ·have := pl j s e'
   cases s <;> first | rfl | exact absurd this Bool.false_ne_true
 refine ⟨dk, fun _ _ z => (nomatch z), ⟨fun _ _ e _ _ => e, dk, fun _ _ z => (nomatch z)⟩, by rw [List.length_set, List.length_set]; exact fr.len, fun j s e' => ?_, fun j k b s s' q1 q2 m1 _ _ _ => (by rw [im j s q1] at m1; cases m1)⟩
 rcases get j s e' with ⟨rfl, rfl⟩ | ⟨z, e'⟩
 ·unfold SlAt ixv
  rw [List.getElem?_set_self (by rw [<- fr.len]; exact hi)]
  rfl
 ·have h := fr.at_ j s e'
  have ix : ixv (σ.set i (some (.ref e))) j = ixv σ j := by
   unfold ixv
   rw [List.getElem?_set_ne z]
  have := pl j s e'
  cases s with
  | no => trivial
  | va T => obtain ⟨y, e4, v⟩ := h; exact ⟨y, ix.trans e4, v.hs hs⟩
  | dk => obtain ⟨p, c, e4, e5⟩ := h; exact ⟨p, c, e4, ix.trans e5⟩
  | fn a => exact ix.trans h
  | own _ => cases this
  | dct _ => cases this
  | rd _ _ => cases this
theorem fr_back {K : PySem.W.Frag} {ρ ρ' : PEnv} {σ σ' : St} {H H2 H' : Hp} (fr : FrOk K F ρ σ H) (hrd : F.rd = none) (st : ∀ b u, H b = some u -> H2 b = some u) (f2 : FrOk K ⟨H2, F.dk, none⟩ ρ' σ' H') (hp : ρ'.all plainS = true) : FrOk K F ρ' σ' H' := by
 have pl : ∀ (j : Nat) (s : Sl), ρ'[j]? = some s -> plainS s = true := fun j s e => List.all_eq_true.mp hp s (List.mem_of_getElem? e)
 refine ⟨fr.d0, fr.r0, ⟨fun b o e n1 n2 => f2.kp.st b o (st _ _ (fr.kp.st b o e n1 n2)) n1 (fun _ _ z => nomatch z), f2.kp.dkk, fun a C z => by rw [hrd] at z; cases z⟩, f2.len, fun j s e => ?_, fun j k b s s' q1 q2 m1 _ _ _ => ?_⟩
 ·have h := f2.at_ j s e
  have := pl j s e
  cases s with
  | no => trivial
  | va T => exact h
  | dk => exact h
  | fn a => exact h
  | own _ => cases this
  | dct _ => cases this
  | rd _ _ => cases this
 ·have := pl j s q1
  cases s <;> first | exact absurd this Bool.false_ne_true | exact absurd m1 Bool.false_ne_true
def sNewX (i : Nat) (psp : PSpN) (ua : UTa) (ub : Kn -> UTs) : UTs := fun P ρ => ua ρ fun as ρ1 => ∃ Ts D fts, vaS as Ts /\ psp Ts D fts /\ ρ1.all plainS = true /\ i < ρ1.length /\
 ∀ a, ub (fun b D' fts' => b = a /\ D' = D /\ fts' = fts) { nx := fun ρ' => ρ'.all plainS = true /\ P.nx ρ', rt := P.rt, bk := fun ρ' => ρ'.all plainS = true /\ P.bk ρ', ct := fun ρ' => ρ'.all plainS = true /\ P.ct ρ', rr := fun T _ => P.rt T } (ρ1.set i (.fn a))
theorem us_newX (i : Nat) {k : Nat} {x f : Str} {ps : List Str} {psp : PSpN} {e : Expr} {es : List Expr} {ua : UTa} {p p1 pos pos' : Pos} {rest : List Stmt} {ub : Kn -> UTs} (hrd : F.rd = none) (G : GoodNX X.prog X.w X.K X.mg X.base k f ps psp) (hr : Room k X.A) (hg : Gl X f) (hN : X.N.Nodup) (hi : X.N[i]? = some x) (hx : Loc X.env.scope x) (ha : UA X F (e :: es) ua)
  (hb : ∀ (F' : Fm) (kn : Kn), F'.dk = F.dk -> F'.rd = none -> KnOk X.K F' kn -> USs X F' rest (ub kn))
  (hdb : (f == ("__debug__" : Str)) = false := by decide) (hst : isStar e = false := by rfl) (hpl : (backTo pos' (starEach es X.env)).any (·.1) = false := by rfl)
  (hs : swapsWith (.Call (.Name f p) (e :: es) [] pos') (some (.Name x p1)) pos.line X.env = pure false := by rfl) (hf : X.fn x = true \/ X.env.scope.names.lookup x = some .local := by first | exact .inl rfl | exact .inr rfl | assumption) :
  USs X F (.Assign [.Name x p1] (.Call (.Name f p) (e :: es) [] pos') pos :: rest) (sNewX i psp ua ub) := by
 have h2 : PSs X rest (fun D σ H => ∃ (F' : Fm) (kn : Kn), F'.dk = F.dk /\ F'.rd = none /\ KnOk X.K F' kn /\ liftS X.K F' (ub kn) D σ H) := fun pins s σ H D I ⟨F', kn, d, r, z, q⟩ => (hb F' kn d r z).ps pins s σ H D I q
 refine ⟨PSs.imp (pss_cons (ps_set hN hi hx (pe_fn G hr hg ha.pa hdb hst hpl) hs hf) h2) fun D σ H ⟨ρ, P, fr, h, k1, k2, k3, k4⟩ => ?_⟩
 refine ⟨ρ, _, fr, h, fun xs as H1 ρ1 s1 p1 q1 => ?_⟩
 obtain ⟨Ts, C, fts, va, hp, pl, hi', q⟩ := q1
 show liftNX X.K psp (xs ++ []) H1 _ _
 rw [List.append_nil]
 refine ⟨Ts, C, fts, vaS_at p1 va, hp, fun a H2 st na xh => ?_⟩
 have f2 := fr_newX (e := a) s1.fr hrd pl hi' st
 refine ⟨⟨H2, F.dk, none⟩, fun b D' fts' => b = a /\ D' = C /\ fts' = fts, rfl, rfl, fun b D' fts' z => (by obtain ⟨rfl, rfl, rfl⟩ := z; exact xh), _, _, f2, q a, ?_, ?_, ?_, ?_⟩
 ·exact fun σ' H' ρ' f3 _ z => k1 σ' H' ρ' (fr_back s1.fr hrd st f3 z.1) ((s1.hs fr).trans (HS.trans (show HS H1 H2 from fun b u _ e => st b u e) f3.hs0)) z.2
 ·exact fun x T H' ρ' kp _ v z => k2 x T H' [] ⟨fun b o e n1 n2 => kp.st b o (st _ _ (s1.fr.kp.st b o e n1 n2)) n1 (fun _ _ z => nomatch z), kp.dkk, fun a C z => by rw [hrd] at z; cases z⟩ (fun i t p z => nomatch z) v (.inl (z.elim id id))
 ·exact fun σ' H' ρ' f3 _ z => k3 σ' H' ρ' (fr_back s1.fr hrd st f3 z.1) ((s1.hs fr).trans (HS.trans (show HS H1 H2 from fun b u _ e => st b u e) f3.hs0)) z.2
 ·exact fun σ' H' ρ' f3 _ z => k4 σ' H' ρ' (fr_back s1.fr hrd st f3 z.1) ((s1.hs fr).trans (HS.trans (show HS H1 H2 from fun b u _ e => st b u e) f3.hs0)) z.2
end
section
variable {X : Cx} {F : Fm}
def uIsX (i : Nat) : UTt := fun ρ Q => ∃ a, ρ[i]? = some (.fn a) /\ Q false ρ
theorem ub_isX (i : Nat) {x : Str} {p p2 pos : Pos} {j : Nat} (hN : X.N[i]? = some x := by rfl) (hv : Vis X.env.scope x := by first | exact Or.inl rfl | exact Or.inr (Or.inl rfl) | exact Or.inr (Or.inr rfl)) (hd : (x == ("__debug__" : Str)) = false := by decide) (hcd : (x == ("__classdict__" : Str)) = false := by decide) :
  UB X F (.Compare (.Name x p) [.Is] [.Constant .none j p2] pos) (uIsX i) :=
 ⟨PT.imp (pt_cmpR op_isN (pe_var hN hv hd hcd) pe_non (nomark _)) fun σ H QQ ⟨ρ, Q, fr, ⟨a, e, q⟩, k⟩ => by
  exact ⟨_, ixv_some (fr.at_ i _ e), rfl, false, rfl, k _ _ _ (Stp.refl fr) q⟩⟩
end
theorem pss_anyN {X : Cx} {st : List Stmt} {us : UTs} (h : ∀ F : Fm, F.rd = none -> USs X F st us) : PSs X st (fun D σ H => ∃ F : Fm, F.rd = none /\ liftS X.K F us D σ H) := fun pins s σ H D I ⟨F, r, q⟩ => (h F r).ps pins s σ H D I q
theorem law_endN {X : Cx} {us : UTs} {D : Ends} {p c : Addr} {H : Hp} {N : List Str} {x : V} (hN : 2 <= N.length) (d : DeckAt H p c) (q : ∀ H', D.rt (.bl true) H') (h : us { nx := fun _ => False, rt := fun T => T = bT true } (lawP N.length)) :
  ∃ F : Fm, F.rd = none /\ liftS X.K F us D ((start N [x]).set 1 (some (.ref p))) H := ⟨⟨H, some (p, c), none⟩, rfl, lawP N.length, _, fr_law hN d, h, fun _ _ _ _ _ z => z.elim, fun x T H' _ _ _ v e => by
 have e : T = bT true := e.elim id False.elim
 subst e
 obtain ⟨rfl, _⟩ := v.leafI
 exact q H', fun _ _ _ _ _ z => z.elim, fun _ _ _ _ _ z => z.elim⟩
end L2
namespace My
open PySem L2 PyProof.Rows WordM
def top (i : Nat) : Stmt := PySem.Challenge.pw_leastform_k35_refusals_made_by_hand.main.body.getD i (.Pass ⟨0, 0, 0, 0⟩)
abbrev s0_ : Stmt := top 12
abbrev s1_ : Stmt := top 13
abbrev s2_ : Stmt := top 14
abbrev s3_ : Stmt := top 15
abbrev s4_ : Stmt := top 16
abbrev s5_ : Stmt := top 18
abbrev s6_ : Stmt := top 19
abbrev s7_ : Stmt := top 20
abbrev s8_ : Stmt := top 21
abbrev sm___init__ : Stmt := inClass (top 10) 0
section
variable {P : Program} {w : World} {K : PySem.W.Frag} {mg : Str -> Option Value} {base : Heap}
theorem _root_.L2.On.put {p c : Addr} {H : Hp} (d : DeckAt H p c) (S k : Int) : On p c H (upd H p (.lst [.ref c, .int S, .int k])) := by
 obtain ⟨ns, e', l⟩ := d.cs
 exact ⟨⟨d.ne, ⟨S, k, upd_same⟩, ns, by rw [upd_ne d.ne.symm]; exact e', l⟩, fun b o h hp _ => by rw [upd_ne hp]; exact h⟩
theorem _root_.L2.On.cut {p c : Addr} {H : Hp} (d : DeckAt H p c) (ns : List Int) (h : ns.length <= 64) : On p c H (upd H c (.lst (ns.map V.int))) := by
 obtain ⟨S, k, e⟩ := d.dk
 exact ⟨⟨d.ne, ⟨S, k, by rw [upd_ne d.ne]; exact e⟩, ns, upd_same, h⟩, fun b o h _ hc => by rw [upd_ne hc]; exact h⟩
theorem flat_ints (ns : List Int) : (ns.map V.int).all flatV = true := by
 rw [List.all_map]
 exact List.all_eq_true.mpr fun _ _ => rfl
theorem eqVs_nil (ns : List Int) : eqVs (ns.map V.int) [] = ns.isEmpty := by cases ns <;> rfl
theorem sc_mixed : FnScope ["_law_number", "_law_k"] ["_law_number", "_law_k"] (defScope s0_) := fsc (by decide +kernel)
theorem g_mixed (h : Has K mg "_law_mixed" s0_) : Good P w K mg base 1 "_law_mixed" ["_law_number", "_law_k"] spMixed := by
 refine h.good sc_mixed (fun|_,_,_,_,_,_,[_,_],_=>rfl) (fun vs H Q E q => ?_) (fun f cdv A outer s H vs Q E hr q => ?_)
 ·obtain ⟨n, k, rfl, _⟩ := q
  rfl
 ·obtain ⟨n, k, rfl, q⟩ := q
  have nd := sc_mixed.nd
  refine ⟨_, (pss_cons (ps_set (i := 0) nd rfl (by first | exact Or.inl rfl | exact Or.inr rfl) (pe_op op_mod (pe_op op_mul (pe_op op_add (pe_op op_add (pe_op op_mod (pv 0) pe_int) (pe_op op_mul pe_int (pv 1))) pe_int) pe_int) pe_int))
   (pss_cons (ps_set (i := 0) nd rfl (by first | exact Or.inl rfl | exact Or.inr rfl) (pe_op op_mod (pe_op op_add (pe_op op_add (pe_op op_mul (pv 0) (pv 0)) (pe_op op_mul pe_int (pv 1))) pe_int) pe_int))
   (pss_one (ps_ret (pe_op op_fdiv (pe_op op_mod (pe_op op_mul (pe_op op_add (pe_op op_mul (pe_op op_mod (pv 0) pe_int) pe_int) (pe_op op_fdiv (pv 0) pe_int)) pe_int) pe_int) pe_int))))), ?_⟩
  refine ⟨_, rfl, _, _, rfl, rfl, (by show (0 : Int) < _; decide), _, rfl, _, _, rfl, rfl, .inl ⟨by decide, by decide⟩, _, _, rfl, rfl, _, _, rfl, rfl, _, _, rfl, rfl, .inr ⟨by decide, by decide⟩, _, _, rfl, rfl, (by show (0 : Int) < _; decide), ?_⟩
  refine ⟨_, rfl, _, rfl, _, _, rfl, rfl, ?c, _, rfl, _, _, rfl, rfl, .inl ⟨by decide, by decide⟩, _, _, rfl, rfl, _, _, rfl, rfl, _, _, rfl, rfl, (by show (0 : Int) < _; decide), ?_⟩
  case c =>
   refine .inl ⟨?_, ?_⟩
   ·exact Int.lt_of_lt_of_le (by decide) (Int.emod_nonneg _ (by decide))
   ·exact Int.lt_trans (Int.emod_lt_of_pos _ (by decide)) (by decide)
  refine ⟨_, rfl, _, _, rfl, rfl, (by show (0 : Int) < _; decide), _, _, rfl, rfl, .inr ⟨by decide, by decide⟩, _, rfl, _, _, rfl, rfl, ⟨by decide, by decide⟩, _, _, rfl, rfl, _, _, rfl, rfl, .inr ⟨by decide, by decide⟩, _, _, rfl, rfl, (by show (0 : Int) < _; decide), _, _, rfl, rfl, ⟨by decide, by decide⟩, ?_⟩
  exact q _
theorem sc_deck : FnScope ["_law_script", "_law_cells"] ["_law_script"] (defScope s1_) := fsc (by decide +kernel)
theorem cut63 (ns : List Int) : cutV (ns.map V.int) none (some 63) = (ns.take 63).map V.int := by
 unfold cutV
 have e1 : HT.sIx (ns.map V.int).length 0 none = 0 := rfl
 rw [e1, List.drop_zero, Nat.sub_zero, List.map_take]
 by_cases h : ns.length <= 63
 ·rw [List.take_of_length_le (by simp [HT.sIx] <;> omega), List.take_of_length_le (by simpa using h)]
 ·congr 1
  simp [HT.sIx] <;> omega
theorem g_deck (h : Has K mg "_law_deck" s1_) (B : Own mg) : Good P w K mg base 1 "_law_deck" ["_law_script"] (spDeck K) := by
 refine h.good sc_deck (fun|_,_,_,_,_,_,[_],_=>rfl) (fun vs H Q E q => ?_) (fun f cdv A outer s H vs Q E hr q => ?_)
 ·obtain ⟨a, ns, rfl, _⟩ := q
  rfl
 ·obtain ⟨a, ns, rfl, hS, q⟩ := q
  have nd := sc_deck.nd
  refine ⟨_, (pss_cons (ps_set (i := 1) nd rfl (by first | exact Or.inl rfl | exact Or.inr rfl) (pe_callTy call_list_of rfl B.list_ boot_list (pa_c (pe_slice sl_list (pv 0) po_none (po_some pe_int)) pa_nil)))
   (pss_one (ps_ret (@pe_lstQ _ _ _ _ (@qa_c _ _ _ _ _ (pe_rev (pv 1) (pe_un un_neg pe_int)) (@qa_c _ _ _ _ _ (pe_op op_add (pe_callB (call_sumL rfl) rfl B.sum boot_sum (pa_c (pv 1) pa_nil)) (pe_op op_mul pe_int (pe_callB call_len_seq rfl B.len PySem.boot_len (pa_c (pv 1) pa_nil)))) (@qa_c _ _ _ _ _ pe_int qa_nil rfl) rfl) rfl))))), ?_⟩
  refine ⟨_, rfl, _, rfl, a, _, rfl, hS, fun l1 h1 => ?_⟩
  have e1 : upd H l1 (.lst (cutV (ns.map V.int) none (some 63))) = upd H l1 (.lst ((ns.take 63).map V.int)) := by rw [cut63]
  rw [e1]
  refine ⟨l1, _, rfl, .inl (SqL.of upd_same), fun l2 h2 => ?_⟩
  refine ⟨_, rfl, _, rfl, rfl, l2, _, rfl, SqL.of upd_same, fun l3 h3 => ?_⟩
  have n23 : l2 ≠ l3 := ne_of_none upd_same h3
  refine ⟨_, rfl, l2, ns.take 63, rfl, SqL.of (by rw [upd_ne n23]; exact upd_same), _, rfl, l2, _, rfl, .inl (SqL.of (by rw [upd_ne n23]; exact upd_same)), _, _, rfl, rfl, .inl ⟨by decide, by decide⟩, _, _, rfl, rfl, (by show 3 <= sizeLine; decide), fun l4 h4 => ?_⟩
  have n34 : l3 ≠ l4 := ne_of_none upd_same h4
  have f1 : ∀ b o, H b = some o -> upd H l1 (.lst ((ns.take 63).map V.int)) b = some o := fun b o e => by rw [upd_ne (ne_of_none e h1)]; exact e
  have s1 : Same H (upd H l1 (.lst ((ns.take 63).map V.int))) := f1
  have s2 : Same H (upd (upd H l1 (.lst ((ns.take 63).map V.int))) l2 (.lst ((ns.take 63).map V.int))) := fun b o e => by rw [upd_ne (ne_of_none (s1 b o e) h2)]; exact s1 b o e
  have s3 : Same H (upd (upd (upd H l1 (.lst ((ns.take 63).map V.int))) l2 (.lst ((ns.take 63).map V.int))) l3 (.lst ((ns.take 63).map V.int).reverse)) := fun b o e => by rw [upd_ne (ne_of_none (s2 b o e) h3)]; exact s2 b o e
  refine q l4 l3 _ (s3.free h4) (s2.free h3) ⟨n34.symm, ⟨_, _, upd_same⟩, (ns.take 63).reverse, ?_, ?_⟩ fun b o e => ?_
  ·rw [upd_ne n34, upd_same, List.map_reverse]
  ·rw [List.length_reverse, List.length_take]; omega
  ·rw [upd_ne (ne_of_none (s3 b o e) h4)]; exact s3 b o e
theorem sc_take : FnScope ["_law_deck_here", "_law_most", "_law_cell"] ["_law_deck_here", "_law_most"] (defScope s2_) := fsc (by decide +kernel)
theorem g_take (h : Has K mg "_law_take" s2_) (G0_ : Good P w K mg base 1 "_law_mixed" ["_law_number", "_law_k"] spMixed) : Good P w K mg base 2 "_law_take" ["_law_deck_here", "_law_most"] spTake := by
 refine h.good sc_take (fun|_,_,_,_,_,_,[_,_],_=>rfl) (fun vs H Q E q => ?_) (fun f cdv A outer s H vs Q E hr q => ?_)
 ·obtain ⟨p, c, m, rfl, _⟩ := q
  rfl
 ·obtain ⟨p, c, m, rfl, d, hm, hB, q⟩ := q
  have nd := sc_take.nd
  have hu := Nat.lt_of_succ_lt (hu_of hr)
  obtain ⟨hne, ⟨S, k, hp⟩, ns, hc, hl⟩ := id d
  refine ⟨_, (pss_cons (ps_asg (pe_op op_add (pe_ix ix_list (pv 0) pe_int (fun _ _ => rfl)) pe_int) (pg_sub (pv 0) pe_int set_list))
   (pss_cons (ps_if (pt_cmpR (op_eqL hu) (pe_ix ix_list (pv 0) pe_int (fun _ _ => rfl)) (@pe_lstQ _ _ _ _ qa_nil) (nomark _))
    (pss_one (ps_ret (pe_op op_mod (pe_fn G0_ (hr.mono (by first | decide | omega)) rfl (pa_c (pe_ix ix_list (pv 0) pe_int (fun _ _ => rfl)) (pa_c (pe_ix ix_list (pv 0) pe_int (fun _ _ => rfl)) pa_nil))) (pv 1))))
    pss_nil)
   (pss_cons (ps_set (i := 2) nd rfl (by first | exact Or.inl rfl | exact Or.inr rfl) (pe_bm0 PySem.F.plainAttrs_list PySem.F.slot_list_pop PySem.F.type_list_pop mt_pop (pe_ix ix_list (pv 0) pe_int (fun _ _ => rfl))))
   (pss_cons (ps_if (pt_cmpR op_lt (pv 2) (pe_op op_pow pe_int pe_int) (nomark _))
    (pss_one (ps_ret (pe_op op_mod (pe_fn G0_ (hr.mono (by first | decide | omega)) rfl (pa_c (pv 2) (pa_c (pe_ix ix_list (pv 0) pe_int (fun _ _ => rfl)) pa_nil))) (pv 1))))
    pss_nil)
   (pss_cons (ps_expr (pe_bm PySem.F.plainAttrs_list PySem.F.slot_list_append PySem.F.type_list_append mt_append (pe_ix ix_list (pv 0) pe_int (fun _ _ => rfl)) (pa_c (pe_op op_fdivL (pv 2) (pv 1)) pa_nil)))
   (pss_one (ps_ret (pe_op op_mod (pv 2) (pv 1))))))))), ?_⟩
  -- deck[2] = deck[2] + 1
  refine ⟨_, rfl, p, _, _, _, rfl, rfl, SqL.of hp, rfl, _, _, rfl, rfl, _, rfl, p, _, _, 2, rfl, rfl, hp, rfl, ?_⟩
  have o1 : On p c H (upd H p (.lst [.ref c, .int S, .int (k + 1)])) := On.put d S (k + 1)
  have hc1 : upd H p (.lst [.ref c, .int S, .int (k + 1)]) c = some (.lst (ns.map V.int)) := by rw [upd_ne hne.symm]; exact hc
  -- if deck[0] == []
  refine ⟨_, rfl, p, _, _, _, rfl, rfl, SqL.of upd_same, rfl, Nat.zero_le _, fun l hfree => ?_⟩
  have npl : p ≠ l := (o1.d.nep hfree).symm
  have ncl : c ≠ l := (o1.d.nec hfree).symm
  have o2 := o1.alloc (o := .lst []) hfree
  have hp2 : upd (upd H p (.lst [.ref c, .int S, .int (k + 1)])) l (.lst []) p = some (.lst [.ref c, .int S, .int (k + 1)]) := by rw [upd_ne npl]; exact upd_same
  have hc2 : upd (upd H p (.lst [.ref c, .int S, .int (k + 1)])) l (.lst []) c = some (.lst (ns.map V.int)) := by rw [upd_ne ncl]; exact hc1
  refine ⟨c, l, _, [], rfl, rfl, SqL.of hc2, SqL.of upd_same, flat_ints ns, rfl, _, rfl, ?_⟩
  rw [show (if false = true then !eqVs (ns.map V.int) [] else eqVs (ns.map V.int) []) = ns.isEmpty from eqVs_nil ns]
  have fin : ∀ r H', On p c H H' -> Q (.int (r % m)) H' := fun r H' o => q (r % m) H' (Int.emod_nonneg _ (by omega)) (Int.emod_lt_of_pos _ hm) o
  rcases List.eq_nil_or_concat ns with e | ⟨init, z, e⟩
  ·subst e
   refine iteT ?_
   refine ⟨_, rfl, p, _, _, _, rfl, rfl, SqL.of hp2, rfl, _, rfl, p, _, _, _, rfl, rfl, SqL.of hp2, rfl, _, _, rfl, fun r => ?_⟩
   exact ⟨_, rfl, _, _, rfl, rfl, hm, fin r _ o2⟩
  ·rw [List.concat_eq_append] at e
   subst e
   rw [show (init ++ [z]).isEmpty = false by simp]
   refine iteF ?_
   have hlast : ((init ++ [z]).map V.int)[((init ++ [z]).map V.int).length - 1]? = some (.int z) := by simp
   have hdrop : ((init ++ [z]).map V.int).dropLast = init.map V.int := by simp
   -- cell = deck[0].pop()
   refine ⟨_, rfl, p, _, _, _, rfl, rfl, SqL.of hp2, rfl, .inl ⟨rfl, _, SqL.of hc2⟩, c, _, _, rfl, rfl, hc2, hlast, ?_⟩
   rw [hdrop]
   have hli : init.length <= 63 := by rw [List.length_append, List.length_singleton] at hl; omega
   have o3 := o2.trans (On.cut o2.d init (by omega))
   have hp3 : upd (upd (upd H p (.lst [.ref c, .int S, .int (k + 1)])) l (.lst [])) c (.lst (init.map V.int)) p = some (.lst [.ref c, .int S, .int (k + 1)]) := by rw [upd_ne hne]; exact hp2
   -- if cell < 10 ** 18
   refine ⟨_, rfl, _, _, rfl, rfl, ⟨by decide, by decide, by decide⟩, _, _, rfl, rfl, _, rfl, ?_⟩
   refine ite2 (fun _ => ?_) (fun _ => ?_)
   ·refine ⟨_, rfl, _, rfl, p, _, _, _, rfl, rfl, SqL.of hp3, rfl, _, _, rfl, fun r => ?_⟩
    exact ⟨_, rfl, _, _, rfl, rfl, hm, fin r _ o3⟩
   ·refine ⟨_, rfl, p, _, _, _, rfl, rfl, SqL.of hp3, rfl, .inl ⟨rfl, _, SqL.of upd_same⟩, _, rfl, _, rfl, _, _, rfl, rfl, ⟨hm, hB⟩, c, _, _, rfl, rfl, upd_same, small1000 (by rw [List.length_map]; omega), ?_⟩
    rw [show init.map V.int ++ [V.int (z / m)] = (init ++ [z / m]).map V.int by simp]
    have o4 := o3.trans (On.cut o3.d (init ++ [z / m]) (by rw [List.length_append, List.length_singleton]; omega))
    exact ⟨_, rfl, _, rfl, _, _, rfl, rfl, hm, fin z _ o4⟩
end
end My
namespace My
open PySem L2 PyProof.Rows WordM
section
variable {P : Program} {w : World} {K : PySem.W.Frag} {mg : Str -> Option Value} {base : Heap}
def ptSigns : PSp := fun as R => as = [] /\ R (sT SIG)
theorem C3_ : FnScope ["_law_signs_here"] [] (defScope s3_) := fsc (by decide +kernel)
theorem g3_ (h : Has K mg "_law_signs" s3_) (B : Own mg)    : PGood P w K mg base 1 "_law_signs" [] ptSigns := by
 have nd := C3_.nd
 refine h.pgood C3_ (fun|_,_,_,_,_,_,[],_=>rfl) (fun f cdv A outer s H E F hr =>
   (us_cons (us_s 0 nd ue_str)
   (us_one (us_ret (ue_op pu_add (ue_var 0) ue_str))))) (fun as R q => ?_)
 obtain ⟨rfl, q⟩ := q
 exact ⟨rfl, show sigA.length + sigB.length <= 100000 by decide +kernel, q⟩
def ptText : PSp := fun as R => ∃ m : Int, as = [.dk, .va (iT m)] /\ 0 <= m /\ m <= 1000 /\ ∀ x : Str, Sg x -> (x.length : Int) <= m -> R (sT x)
theorem at_sgn {z : Str} {r : Int} (h0 : 0 <= r) (h1 : r < z.length) : ∃ c, atI z.cps.toList r = some c /\ c ∈ cs z := by
 have hl : r.toNat < (cs z).length := by rw [<- WordM.len]; omega
 refine ⟨(cs z)[r.toNat], ?_, List.getElem_mem hl⟩
 have := atI_nat (xs := cs z) (j := r.toNat) (List.getElem?_eq_getElem hl)
 rw [show ((r.toNat : Nat) : Int) = r by omega] at this
 exact this
theorem menu {α : Type} {l : List α} {r : Int} (h0 : 0 <= r) (h1 : r < l.length) : ∃ m, atI l r = some m /\ m ∈ l := by
 have hl : r.toNat < l.length := by omega
 refine ⟨l[r.toNat], ?_, List.getElem_mem hl⟩
 have := atI_nat (xs := l) (j := r.toNat) (List.getElem?_eq_getElem hl)
 rw [show ((r.toNat : Nat) : Int) = r by omega] at this
 exact this
theorem g4_ (h : Has K mg "_law_text" s4_) (B : Own mg) (G3_ : PGood P w K mg base 1 "_law_signs" [] ptSigns) (G2_ : PGood P w K mg base 2 "_law_take" ["_law_deck_here", "_law_most"] ptTake)   : PGood P w K mg base 3 "_law_text" ["_law_deck_here", "_law_most"] ptText := by
 refine h.pg2 ["_law_deck_here", "_law_most", "_law_signs_here", "_law_some", "_law_text_here", "_law_k"] (fun nd hr =>
   (us_cons (us_s 2 nd (ue_fn0 G3_ (hr.mono (by omega)) rfl))
   (us_cons (us_s 3 nd (ue_x hr (ue_ul (ul_lst (ua_c (ue_var 2) (ua_c (ue_var 2) (ua_c ue_str (ua_c ue_str (ua_c ue_str (ua_c ue_str ua_nil)))))))) (ue_fm G2_ hr (ua_dk 0 (ua_c ue_int ua_nil)))))
   (us_cons (us_s 4 nd ue_str)
   (us_cons (us_for (m := 6) PassesOwn.never rfl (ui_range1 rfl B.range (ua_c (ue_fm G2_ hr (ua_dk 0 (ua_c (ue_op pu_add (ue_var 1) ue_int) ua_nil))) ua_nil)) (ug_name 5 (by decide) nd rfl (.inl rfl))
    (us_one (us_s 4 nd (ue_op pu_add (ue_var 4) (ue_x hr (ue_var 3) (ue_fm G2_ hr (ua_dk 0 (ua_c (ue_callB pu_len rfl B.len PySem.boot_len (ua_c (ue_var 3) ua_nil)) ua_nil))))))))
   (us_one (us_ret (ue_var 4)))))))) (fun as R q => ?_)
 obtain ⟨m, rfl, m0, m1, q⟩ := q
 refine ⟨rfl, rfl, ?_⟩
 refine ⟨by decide, rfl, 6, rfl, by decide, big_of (by decide) (by decide), fun r r0 r6 => ?_⟩
 obtain ⟨z, hz, hzm⟩ := menu (l := [sT SIG, sT SIG, sT "0123456789", sT "abc", sT "XYZ", sT "a1"]) r0 r6
 refine ⟨z, hz, ?_⟩
 have hzs : ∃ y, z = sT y /\ Sg y /\ 0 < y.length /\ y.length <= 100 := by
  simp only [List.mem_cons, List.not_mem_nil, or_false] at hzm
  rcases hzm with e | e | e | e | e | e <;> subst e
  ·exact ⟨_, rfl, fun _ h => h, by decide +kernel, by decide +kernel⟩
  ·exact ⟨_, rfl, fun _ h => h, by decide +kernel, by decide +kernel⟩
  ·exact ⟨_, rfl, by decide +kernel, by decide +kernel, by decide +kernel⟩
  ·exact ⟨_, rfl, by decide +kernel, by decide +kernel, by decide +kernel⟩
  ·exact ⟨_, rfl, by decide +kernel, by decide +kernel, by decide +kernel⟩
  ·exact ⟨_, rfl, by decide +kernel, by decide +kernel, by decide +kernel⟩
 clear hz hzm
 obtain ⟨y, rfl, y1, y2, y3⟩ := hzs
 refine ⟨rfl, m + 1, rfl, by omega, big_of (by omega) (by omega), fun n n0 n1 => ⟨n, rfl, by omega, by omega, ?_⟩⟩
 refine forT_inv (fun i ρ => ∃ (x : Str) (s : Sl), Sg x /\ x.length = i /\ ρ = [.dk, .va (iT m), .va (sT SIG), .va (sT y), .va (sT x), s]) ⟨⟨#[]⟩, .no, sg_nil, rfl, rfl⟩ ?_ ?_
 ·rintro i T _ N hT ⟨x, s, sx, lx, rfl⟩ hN
  have hi := (rngT_get hT).1
  refine ⟨rfl, by omega, ?_⟩
  refine ⟨y.length, rfl, by omega, big_of (by omega) (by omega), fun k k0 k1 => ⟨by omega, ?_⟩⟩
  obtain ⟨c, hc, hcm⟩ := at_sgn (z := y) k0 k1
  refine ⟨c, hc, by show x.length + 1 <= 100000; omega, hN _ ⟨x ++ ⟨#[c]⟩, _, sx.app (y1.one hcm), ?_, rfl⟩⟩
  rw [WordM.len, WordM.app, List.length_append, <- WordM.len, lx]
  rfl
 ·rintro _ ⟨x, s, sx, lx, rfl⟩
  refine q x sx ?_
  rw [lx, rngT_len]
  omega
end
end My
namespace My
open PySem L2 PyProof.Rows WordM
section
variable {P : Program} {w : World} {K : PySem.W.Frag} {mg : Str -> Option Value} {base : Heap}
theorem boot_ValueError : bootBuiltins ("ValueError" : Str) = some (.type "ValueError") := by decide +kernel
def KtRow (K : PySem.W.Frag) (D : Addr) (i : Nat) : List Addr -> Nat -> Prop
 | [], _ => True
 | c :: r, j => PySem.W.kitOne K (.ref D) (.ref c) = some (decide (i = j)) /\ KtRow K D i r (j + 1)
def XRows (K : PySem.W.Frag) (aF : Addr) (C : List Addr) : List Addr -> Nat -> Prop
 | [], _ => True
 | D :: r, i => (XCls K D /\ PySem.W.kitOne K (.ref D) (.ref aF) = some true /\ PySem.W.kitOne K (.ref D) (.type "ValueError") = some true /\ KtRow K D i C 0) /\ XRows K aF C r (i + 1)
theorem rows_get {K : PySem.W.Frag} {aF : Addr} {C : List Addr} : ∀ {L : List Addr} {n k : Nat} {D : Addr}, XRows K aF C L n -> L[k]? = some D -> XCls K D /\ PySem.W.kitOne K (.ref D) (.ref aF) = some true /\ PySem.W.kitOne K (.ref D) (.type "ValueError") = some true /\ KtRow K D (n + k) C 0
 | D :: r, n, 0, _, h, e => by cases e; exact h.1
 | D :: r, n, k + 1, D', h, e => by
  have := rows_get (n := n + 1) h.2 (show r[k]? = some D' from e)
  rw [show n + 1 + k = n + (k + 1) by omega] at this
  exact this
def ptCls (C : List Addr) : PSpX := fun D fts R => ∃ k : Nat, C[k]? = some D /\ R (.seq false [iT k])
abbrev clsL (aNoPath aNoSamples aNoValue aNoText aNoName aNoDeed aFull aNoRow aNotLet : Addr) : List Addr := [aNoPath, aNoSamples, aNoValue, aNoText, aNoName, aNoDeed, aFull, aNoRow, aNotLet]
theorem C5_ : FnScope ["_law_e", "_law_some"] ["_law_e"] (defScope s5_) := fsc (by decide +kernel)
theorem g5_ (h : Has K mg "_law_classes" s5_) (B : Own mg) (XB : XBase K) (XR : XRows K aFormError (clsL aNoPath aNoSamples aNoValue aNoText aNoName aNoDeed aFull aNoRow aNotLet) (clsL aNoPath aNoSamples aNoValue aNoText aNoName aNoDeed aFull aNoRow aNotLet) 0)
  (mNoPath : mg "NoPath" = some (.ref aNoPath)) (mNoSamples : mg "NoSamples" = some (.ref aNoSamples)) (mNoValue : mg "NoValue" = some (.ref aNoValue)) (mNoText : mg "NoText" = some (.ref aNoText)) (mNoName : mg "NoName" = some (.ref aNoName)) (mNoDeed : mg "NoDeed" = some (.ref aNoDeed)) (mFull : mg "Full" = some (.ref aFull)) (mNoRow : mg "NoRow" = some (.ref aNoRow)) (mNotLet : mg "NotLet" = some (.ref aNotLet)) :
  PGoodXc P w K mg base 1 "_law_classes" ["_law_e"] (ptCls (clsL aNoPath aNoSamples aNoValue aNoText aNoName aNoDeed aFull aNoRow aNotLet)) := by
 have nd := C5_.nd
 refine h.pgXc C5_ (fun|_,_,_,_,_,_,[_],_=>rfl) (fun f cdv A outer s H E F kn hk hr =>
   (us_cons (us_s 1 nd (ue_ul (ul_lst (ua_c (ue_isN 0 hk B.isinstance mNoPath) (ua_c (ue_isN 0 hk B.isinstance mNoSamples) (ua_c (ue_isN 0 hk B.isinstance mNoValue) (ua_c (ue_isN 0 hk B.isinstance mNoText) ua_nil)))))))
   (us_cons (us_s 1 nd (ue_op pu_add (ue_var 1) (ue_ul (ul_lst (ua_c (ue_isN 0 hk B.isinstance mNoName) (ua_c (ue_isN 0 hk B.isinstance mNoDeed) (ua_c (ue_isN 0 hk B.isinstance mFull) (ua_c (ue_isN 0 hk B.isinstance mNoRow) ua_nil))))))))
   (us_one (us_ret (ue_ul (ul_comp (sc := defScope s5_) (XN := ["_law_e", "_law_some"]) (N := ["_law_k", "_law_one"]) (own := 2) (fr := []) rfl ⟨rfl, by decide +kernel, by decide +kernel, by decide +kernel, rfl, by decide +kernel, by decide, by decide +kernel⟩ (by decide) (ui_enum rfl B.enumerate (ua_c (ue_op pu_add (ue_var 1) (ue_ul (ul_lst (ua_c (ue_isN 0 hk B.isinstance mNotLet) ua_nil)))) ua_nil)) (fun _ _ _ _ _ => (ug_tup 2 rfl (ugs_cons (ug_name 0 (by decide) (show (["_law_k", "_law_one"] : List Str).Nodup by decide +kernel) rfl (by first | exact Or.inl rfl | exact Or.inr rfl)) (ugs_cons (ug_name 1 (by decide) (show (["_law_k", "_law_one"] : List Str).Nodup by decide +kernel) rfl (by first | exact Or.inl rfl | exact Or.inr rfl)) ugs_nil)))) (fun _ _ _ _ _ => (uf_one (ub_val (ue_var 1)))) (fun _ _ _ _ _ => (ue_var 0))))))))) (fun a D fts R q => ?_)
 obtain ⟨k, ek, q⟩ := q
 obtain ⟨XC, _, _, k0, k1, k2, k3, k4, k5, k6, k7, k8, _⟩ := rows_get XR ek
 refine ⟨a, D, fts, _, rfl, ⟨rfl, rfl, rfl⟩, XB, XC, k0, a, D, fts, _, rfl, ⟨rfl, rfl, rfl⟩, XB, XC, k1, a, D, fts, _, rfl, ⟨rfl, rfl, rfl⟩, XB, XC, k2, a, D, fts, _, rfl, ⟨rfl, rfl, rfl⟩, XB, XC, k3, by simp, a, D, fts, _, rfl, ⟨rfl, rfl, rfl⟩, XB, XC, k4, a, D, fts, _, rfl, ⟨rfl, rfl, rfl⟩, XB, XC, k5, a, D, fts, _, rfl, ⟨rfl, rfl, rfl⟩, XB, XC, k6, a, D, fts, _, rfl, ⟨rfl, rfl, rfl⟩, XB, XC, k7, by simp, by simp, ?_⟩
 refine ⟨a, D, fts, _, rfl, ⟨rfl, rfl, rfl⟩, XB, XC, k8, by simp, by simp, _, rfl, by simp, ?_⟩
 have hk : k < 9 := (List.getElem?_eq_some_iff.mp ek).1
 refine compT_ofm (fun x : Nat × Bool => .seq true [iT (x.1 : Nat), bT x.2]) (fun x => if x.2 then some (iT (x.1 : Nat)) else none) (l := [(0, decide (0 + k = 0)), (1, decide (0 + k = 0 + 1)), (2, decide (0 + k = 0 + 1 + 1)), (3, decide (0 + k = 0 + 1 + 1 + 1)), (4, decide (0 + k = 0 + 1 + 1 + 1 + 1)), (5, decide (0 + k = 0 + 1 + 1 + 1 + 1 + 1)), (6, decide (0 + k = 0 + 1 + 1 + 1 + 1 + 1 + 1)), (7, decide (0 + k = 0 + 1 + 1 + 1 + 1 + 1 + 1 + 1)), (8, decide (0 + k = 0 + 1 + 1 + 1 + 1 + 1 + 1 + 1 + 1))]) (fun x _ R q => ?_) ?_
 ·obtain ⟨j, b⟩ := x
  cases b with
  | false => exact ⟨_, rfl, rfl, _, _, rfl, _, _, rfl, rfl, false, rfl, iteF q⟩
  | true => exact ⟨_, rfl, rfl, _, _, rfl, _, _, rfl, rfl, true, rfl, iteT q⟩
 ·have e : List.filterMap (fun x : Nat × Bool => if x.2 = true then some (iT (x.1 : Nat)) else none) [(0, decide (0 + k = 0)), (1, decide (0 + k = 0 + 1)), (2, decide (0 + k = 0 + 1 + 1)), (3, decide (0 + k = 0 + 1 + 1 + 1)), (4, decide (0 + k = 0 + 1 + 1 + 1 + 1)), (5, decide (0 + k = 0 + 1 + 1 + 1 + 1 + 1)), (6, decide (0 + k = 0 + 1 + 1 + 1 + 1 + 1 + 1)), (7, decide (0 + k = 0 + 1 + 1 + 1 + 1 + 1 + 1 + 1)), (8, decide (0 + k = 0 + 1 + 1 + 1 + 1 + 1 + 1 + 1 + 1))] = [iT (k : Nat)] := by
   clear ek q k0 k1 k2 k3 k4 k5 k6 k7 k8
   match k, hk with
   | 0, _ => rfl
   | 1, _ => rfl
   | 2, _ => rfl
   | 3, _ => rfl
   | 4, _ => rfl
   | 5, _ => rfl
   | 6, _ => rfl
   | 7, _ => rfl
   | 8, _ => rfl
  show R (.seq false _)
  rw [e]
  exact q
end
end My
namespace My
open PySem L2 PyProof.Rows WordM
section
variable {P : Program} {w : World} {K : PySem.W.Frag} {mg : Str -> Option Value} {base : Heap}
def spInitX (K : PySem.W.Frag) (C : Addr) : Sp := fun vs H Q _ => ∃ (e p : Addr) (w : Str) (ls : List Lf), vs = [.ref e, .ref p, .str w] /\ w.length <= 1000 /\ H e = some (exO e C none true) /\ SqT K H p (ls.map Lf.v) /\ (∀ l ∈ ls, l.ok) /\ (tupleText (ls.map Lf.t)).length <= 10000 /\
 ∀ dx, H dx = none -> dx ≠ e -> Q .non (upd (upd (upd H e (exO e C (some dx) true)) dx (xdO dx [("path", .ref p)])) dx (xdO dx (putF "word" (.str w) [("path", .ref p)])))
theorem sc_init : FnScope ["self", "path", "word"] ["self", "path", "word"] (defScope sm___init__) := fsc (by decide +kernel)
theorem init_ok {f : Addr} {fd : FuncData} (FU : Fun K "__init__" "NotLet.__init__" sm___init__ f fd) (FV : ExcBaseFacts "ValueError" newV initV bmV) (FI : XInit K aFormError initV) (mFormError : mg "FormError" = some (.ref aFormError))
  (mv : PySem.W.mroIn K aNotLet (.type "ValueError") = some true) (XS : XSet K aNotLet) (NAp : NoAttr K aNotLet "path") (NAw : NoAttr K aNotLet "word") : FnOk P w K mg base CX0 1 f fd ["self", "path", "word"] (spInitX K aNotLet) := by
 refine FU.ok sc_init (fun vs H Q E q => ?_) (fun cdv A outer s H vs Q E hr q => ?_)
 ·obtain ⟨_, _, _, _, rfl, _⟩ := q
  rfl
 ·obtain ⟨e, p, x, ls, rfl, hx, he, hp, hl, hz, q⟩ := q
  refine ⟨_, (pss_cons (ps_expr (pe_bi FV FI rfl mFormError (pa_c (pv 0) (pa_c (pe_fstr (pj_cons pe_str (pj_cons (pe_fmtR (pv 1) hr.gd (Room.r16 hr)) (pj_cons pe_str (pj_cons (pe_fmt (pv 2)) pj_nil))))) pa_nil))))
   (pss_cons (ps_x1 rfl (pv 0) (pv 1) rfl) (pss_one (ps_x2 (pv 0) (pv 2) rfl)))), ?_⟩
  have l0 : (Str.empty ++ Str.ofString "not let by at ").length = 14 := by decide +kernel
  have l2 : (Str.ofString ": ").length = 2 := by decide +kernel
  have l1 : (Str.empty ++ Str.ofString "not let by at " ++ tupleText (ls.map Lf.t)).length <= 10014 := by rw [str_app_len, l0]; omega
  have l3 : (Str.empty ++ Str.ofString "not let by at " ++ tupleText (ls.map Lf.t) ++ Str.ofString ": ").length <= 10016 := by rw [str_app_len, l2]; omega
  have l4 : (Str.empty ++ Str.ofString "not let by at " ++ tupleText (ls.map Lf.t) ++ Str.ofString ": " ++ x).length <= sizeLine := by rw [str_app_len, sizeLine_eq]; omega
  refine ⟨_, rfl, _, rfl, by rw [sizeLine_eq]; omega, _, rfl, p, ls, rfl, hp, hl, by rw [sizeLine_eq]; omega, _, rfl, by rw [sizeLine_eq]; omega, _, rfl, by rw [sizeLine_eq]; omega, _, rfl, .inr ⟨x, rfl, by rw [sizeLine_eq]; omega, _, rfl, l4, l4, ?_⟩⟩
  refine ⟨e, aNotLet, none, true, _, rfl, he, mv, by rw [sizeLine_eq]; show 1 <= _; omega, ?_⟩
  refine ⟨_, rfl, _, rfl, e, aNotLet, true, rfl, he, XS, NAp, fun dx nx ne => ?_⟩
  refine ⟨_, rfl, _, rfl, e, aNotLet, dx, _, true, rfl, ne, ?_, upd_same, XS, NAw, by simp, ?_⟩
  ·rw [upd_ne ne.symm, upd_same]
  ·exact q dx nx ne
end
end My
namespace My
open PySem L2 PyProof.Rows WordM
section
variable {P : Program} {w : World} {K : PySem.W.Frag} {mg : Str -> Option Value} {base : Heap}
theorem vas_lf {K : PySem.W.Frag} {H : Hp} : ∀ {ls : List Lf} {xs : List V}, VAs K H xs (ls.map fun l => .leaf l.v) -> xs = ls.map Lf.v
 | [], [], _ => rfl
 | l :: ls, x :: xs, .cons r p => by
  obtain ⟨rfl, _⟩ := r.leafI
  rw [List.map_cons, vas_lf p]
def LfS (l : Lf) : Prop := l.ok /\ l.t.length <= 1000
def pnMade (C : List Addr) : PSpN := fun Ts D fts => ∃ (k : Nat) (t : Str) (ls : List Lf), Ts = [iT k, sT t, .seq true (ls.map fun l => .leaf l.v)] /\ t.length <= 1000 /\ ls.length <= 2 /\ (∀ l ∈ ls, LfS l) /\ C[k]? = some D /\
 fts = (if k = 8 then [("path", .seq true (ls.map fun l => .leaf l.v)), ("word", sT t)] else [] : List (Str × Tv))
theorem tt_len {ls : List Lf} (h : ls.length <= 2) (hl : ∀ l ∈ ls, LfS l) : (tupleText (ls.map Lf.t)).length <= 10000 := by
 have := tupleText_le (B := 1000) (ts := ls.map Lf.t) fun t ht => by
  obtain ⟨l, hl', rfl⟩ := List.mem_map.mp ht
  exact (hl l hl').2
 rw [List.length_map] at this
 have m : ls.length * (1000 + 2) <= 2 * 1002 := Nat.mul_le_mul_right _ h
 omega
theorem if_ret {D : Ends} {σ : L2.St} {H : Hp} {k : Nat} {j : Int} {te : TE} {B : TS} (e : σ[0]? = some (some (V.int (k : Int)))) (h1 : (k : Int) = j -> te σ H D.rt) (h2 : (k : Int) ≠ j -> B D σ H) : tSeq (tIfS (tTest (tOp rEq (tVar 0) (tC (V.int j)))) (tRet te) tNext) B D σ H := by
 refine ⟨_, e, rfl, _, rfl, ?_⟩
 show if decide (V.int (k : Int) = V.int j) = true then te σ H D.rt else B D σ H
 by_cases z : (k : Int) = j
 ·rw [if_pos (by rw [z]; simp)]
  exact h1 z
 ·rw [if_neg (by simpa using z)]
  exact h2 z
theorem mk_ret {D : Ends} {σ : L2.St} {H : Hp} {C : Addr} {t : Str} (e : σ[1]? = some (some (V.str t))) (q : ∀ a, H a = none -> D.rt (.ref a) (upd H a (exO a C none true))) : tMk0 C (tCons (tVar 1) tNil) σ H D.rt := by
 refine ⟨_, e, by rw [sizeLine_eq]; show 1 <= _; omega, fun a n => q a n⟩
variable {fI : Addr} {fdI : FuncData}
theorem C6_ : FnScope ["_law_which", "_law_text_here", "_law_path"] ["_law_which", "_law_text_here", "_law_path"] (defScope s6_) := fsc (by decide +kernel)
theorem g6_ (h : Has K mg "_law_made" s6_) (B : Own mg) (FV : ExcBaseFacts "ValueError" newV initV bmV)
  (ONoPath : OwnCls "NoPath" aNoPath bmV newV mg base) (ONoSamples : OwnCls "NoSamples" aNoSamples bmV newV mg base) (ONoValue : OwnCls "NoValue" aNoValue bmV newV mg base) (ONoText : OwnCls "NoText" aNoText bmV newV mg base) (ONoName : OwnCls "NoName" aNoName bmV newV mg base) (ONoDeed : OwnCls "NoDeed" aNoDeed bmV newV mg base) (OFull : OwnCls "Full" aFull bmV newV mg base) (ONoRow : OwnCls "NoRow" aNoRow bmV newV mg base)
  (ONotLet : OwnClsI "NotLet" aNotLet fI bmV newV mg base) (FI : FnOk P w K mg base CX0 1 fI fdI ["self", "path", "word"] (spInitX K aNotLet)) (BI : Binds K fdI ["self", "path", "word"] []) (tI : PySem.W.typeIn K (.ref fI) = some (.type "function"))
  (kp : ∀ D ∈ clsL aNoPath aNoSamples aNoValue aNoText aNoName aNoDeed aFull aNoRow aNotLet, PySem.W.keepIn K (.ref D) = true) :
  GoodNX P w K mg base 3 "_law_made" ["_law_which", "_law_text_here", "_law_path"] (pnMade (clsL aNoPath aNoSamples aNoValue aNoText aNoName aNoDeed aFull aNoRow aNotLet)) := by
 have hk : ∀ {j : Nat} {D : Addr}, (clsL aNoPath aNoSamples aNoValue aNoText aNoName aNoDeed aFull aNoRow aNotLet)[j]? = some D -> PySem.W.keepIn K (.ref D) = true := fun e => kp _ (List.mem_of_getElem? e)
 refine h.good C6_ (fun|_,_,_,_,_,_,[_,_,_],_=>rfl) (fun vs H Q E q => ?_) (fun f cdv A outer s H vs Q E hr q => ?_)
 ·obtain ⟨Ts, D, fts, p, ⟨k, t, ls, rfl, _⟩, _⟩ := q
  rw [Paired.length p]; rfl
 ·obtain ⟨Ts, D, fts, p, ⟨k, t, ls, rfl, ht, h2, hl, ek, rfl⟩, q⟩ := q
  have nd := C6_.nd
  have hk9 : k < 9 := (List.getElem?_eq_some_iff.mp ek).1
  cases p with
  | @cons x1 _ _ _ v1 p1 =>
  cases p1 with
  | @cons x2 _ _ _ v2 p2 =>
  cases p2 with
  | @cons x3 _ _ _ v3 p3 =>
  cases p3
  obtain ⟨rfl, _⟩ := v1.leafI
  obtain ⟨rfl, _⟩ := v2.leafI
  obtain ⟨a, xs, rfl, hs, _, px⟩ := v3.seqI
  have := vas_lf px
  subst this
  have hs : SqT K H a (ls.map Lf.v) := hs
  refine ⟨_, (pss_cons (ps_if (pt_cmpR op_eq (pv 0) pe_int (nomark _)) (pss_one (ps_ret (pe_mk0 ONoPath FV (hk (j := 0) rfl) rfl rfl (pa_c (pv 1) pa_nil)))) pss_nil)
   (pss_cons (ps_if (pt_cmpR op_eq (pv 0) pe_int (nomark _)) (pss_one (ps_ret (pe_mk0 ONoSamples FV (hk (j := 1) rfl) rfl rfl (pa_c (pv 1) pa_nil)))) pss_nil)
   (pss_cons (ps_if (pt_cmpR op_eq (pv 0) pe_int (nomark _)) (pss_one (ps_ret (pe_mk0 ONoValue FV (hk (j := 2) rfl) rfl rfl (pa_c (pv 1) pa_nil)))) pss_nil)
   (pss_cons (ps_if (pt_cmpR op_eq (pv 0) pe_int (nomark _)) (pss_one (ps_ret (pe_mk0 ONoText FV (hk (j := 3) rfl) rfl rfl (pa_c (pv 1) pa_nil)))) pss_nil)
   (pss_cons (ps_if (pt_cmpR op_eq (pv 0) pe_int (nomark _)) (pss_one (ps_ret (pe_mk0 ONoName FV (hk (j := 4) rfl) rfl rfl (pa_c (pv 1) pa_nil)))) pss_nil)
   (pss_cons (ps_if (pt_cmpR op_eq (pv 0) pe_int (nomark _)) (pss_one (ps_ret (pe_mk0 ONoDeed FV (hk (j := 5) rfl) rfl rfl (pa_c (pv 1) pa_nil)))) pss_nil)
   (pss_cons (ps_if (pt_cmpR op_eq (pv 0) pe_int (nomark _)) (pss_one (ps_ret (pe_mk0 OFull FV (hk (j := 6) rfl) rfl rfl (pa_c (pv 1) pa_nil)))) pss_nil)
   (pss_one (ps_ret (pe_ix ix_list (@pe_lstQ _ _ _ _ (@qa_c _ _ _ _ _ (pe_mk0 ONoRow FV (hk (j := 7) rfl) rfl rfl (pa_c (pv 1) pa_nil)) (@qa_c _ _ _ _ _ (pe_mkI ONotLet FV tI (hk (j := 8) rfl) FI (hr.mono (by omega)) BI rfl rfl (pa_c (pv 2) (pa_c (pv 1) pa_nil))) qa_nil rfl) rfl)) (pe_op op_sub (pv 0) pe_int) (fun _ _ => rfl))))))))))), ?_⟩
  have fin : ∀ j : Nat, k = j -> j < 8 -> ∀ b, H b = none -> Q (.ref b) (upd H b (exO b D none true)) := fun j e l b n => by
   refine q b _ (same_new n) n ⟨[], ⟨true, .inl ⟨rfl, upd_same⟩⟩, ?_⟩
   rw [if_neg (by omega)]
   exact .nil
  refine if_ret rfl (fun z => mk_ret rfl fun b n => ?_) (fun z0 => ?_)
  ·obtain rfl : k = 0 := by omega
   cases ek
   exact fin 0 rfl (by omega) b n
  refine if_ret rfl (fun z => mk_ret rfl fun b n => ?_) (fun z1 => ?_)
  ·obtain rfl : k = 1 := by omega
   cases ek
   exact fin 1 rfl (by omega) b n
  refine if_ret rfl (fun z => mk_ret rfl fun b n => ?_) (fun z2 => ?_)
  ·obtain rfl : k = 2 := by omega
   cases ek
   exact fin 2 rfl (by omega) b n
  refine if_ret rfl (fun z => mk_ret rfl fun b n => ?_) (fun z3 => ?_)
  ·obtain rfl : k = 3 := by omega
   cases ek
   exact fin 3 rfl (by omega) b n
  refine if_ret rfl (fun z => mk_ret rfl fun b n => ?_) (fun z4 => ?_)
  ·obtain rfl : k = 4 := by omega
   cases ek
   exact fin 4 rfl (by omega) b n
  refine if_ret rfl (fun z => mk_ret rfl fun b n => ?_) (fun z5 => ?_)
  ·obtain rfl : k = 5 := by omega
   cases ek
   exact fin 5 rfl (by omega) b n
  refine if_ret rfl (fun z => mk_ret rfl fun b n => ?_) (fun z6 => ?_)
  ·obtain rfl : k = 6 := by omega
   cases ek
   exact fin 6 rfl (by omega) b n
  refine ⟨_, rfl, by rw [sizeLine_eq]; show 1 <= _; omega, fun e1 n1 => ⟨_, rfl, _, rfl, by rw [sizeLine_eq]; show 2 <= _; omega, fun e2 n2 => ?_⟩⟩
  have n12 : e2 ≠ e1 := fun z => by rw [z, upd_same] at n2; cases n2
  have n2' : H e2 = none := by rw [upd_ne n12] at n2; exact n2
  refine ⟨e2, a, t, ls, rfl, ht, upd_same, SqT.hs (HS.trans (hs_new n1) (hs_new n2)) hs, fun l hl' => (hl l hl').1, tt_len h2 hl, fun dx nd ne => ⟨rfl, by rw [sizeLine_eq]; show 2 <= _; omega, fun l nl => ?_⟩⟩
  have nd1 : dx ≠ e1 := fun z => by rw [z, upd_ne n12.symm, upd_same] at nd; cases nd
  have nd' : H dx = none := by rw [upd_ne ne, upd_ne nd1] at nd; exact nd
  generalize hH3 : upd (upd (upd (upd (upd H e1 (exO e1 aNoRow none true)) e2 (exO e2 aNotLet none true)) e2 (exO e2 aNotLet (some dx) true)) dx (xdO dx [("path", .ref a)])) dx (xdO dx (putF "word" (.str t) [("path", .ref a)])) = H3 at nl ⊢
  have g1 : H3 e1 = some (exO e1 aNoRow none true) := by rw [<- hH3, upd_ne nd1.symm, upd_ne nd1.symm, upd_ne n12.symm, upd_ne n12.symm, upd_same]
  have g2 : H3 e2 = some (exO e2 aNotLet (some dx) true) := by rw [<- hH3, upd_ne ne.symm, upd_ne ne.symm, upd_same]
  have g3 : H3 dx = some (xdO dx (putF "word" (.str t) [("path", .ref a)])) := by rw [<- hH3, upd_same]
  have g0 : ∀ b o, H b = some o -> H3 b = some o := fun b o e => by
   have z1 : b ≠ e1 := fun z => by rw [z, n1] at e; cases e
   have z2 : b ≠ e2 := fun z => by rw [z, n2'] at e; cases e
   have z3 : b ≠ dx := fun z => by rw [z, nd'] at e; cases e
   rw [<- hH3, upd_ne z3, upd_ne z3, upd_ne z2, upd_ne z2, upd_ne z1]
   exact e
  clear hH3
  have s4 := same_new (o := .lst [.ref e1, .ref e2]) nl
  refine ⟨_, rfl, _, _, rfl, rfl, ?_⟩
  have k78 : k = 7 \/ k = 8 := by omega
  rcases k78 with rfl | rfl
  ·cases ek
   refine ⟨l, [.ref e1, .ref e2], _, .ref e1, rfl, rfl, .inl (.inl upd_same), rfl, ?_⟩
   exact q e1 _ (fun b o e => s4 _ _ (g0 b o e)) n1 ⟨[], ⟨true, .inl ⟨rfl, s4 _ _ g1⟩⟩, by rw [if_neg (by decide)]; exact .nil⟩
  ·cases ek
   refine ⟨l, [.ref e1, .ref e2], _, .ref e2, rfl, rfl, .inl (.inl upd_same), rfl, ?_⟩
   refine q e2 _ (fun b o e => s4 _ _ (g0 b o e)) n2' ⟨_, ⟨true, .inr ⟨dx, ne, s4 _ _ g2, s4 _ _ g3⟩⟩, ?_⟩
   rw [if_pos rfl]
   refine .cons ⟨rfl, v3.hs fun b o _ e => s4 _ _ (g0 b o e)⟩ (.cons ⟨rfl, .flat rfl⟩ .nil)
end
end My
namespace My
open PySem L2 PyProof.Rows WordM
section
variable {P : Program} {w : World} {K : PySem.W.Frag} {mg : Str -> Option Value} {base : Heap}
variable {fI : Addr} {fdI : FuncData}
def raiK : Nat -> Nat
 | 0 => 0
 | 2 => 2
 | 5 => 5
 | 8 => 8
 | _ => 3
def pnRai (C : List Addr) : PSpN := fun Ts D fts => ∃ (k : Nat) (t : Str), Ts = [iT k, sT t] /\ t.length <= 900 /\ (reprText t).length <= 1000 /\ C[raiK k]? = some D /\
 fts = (if k = 8 then [("path", .seq true [sT t, iT 3]), ("word", sT t)] else [] : List (Str × Tv))
theorem if_rai {D : Ends} {σ : L2.St} {H H0 : Hp} {k : Nat} {j : Int} {te : TE} {B : TS} {E : XK} {K : PySem.W.Frag} (e : σ[0]? = some (some (V.int (k : Int)))) (h1 : (k : Int) = j -> ∀ D', tRaiseV K H0 E te D' σ H) (h2 : (k : Int) ≠ j -> B D σ H) : tSeq (tIfS (tTest (tOp rEq (tVar 0) (tC (V.int j)))) (tRaiseV K H0 E te) tNext) B D σ H := by
 refine ⟨_, e, rfl, _, rfl, ?_⟩
 show if decide (V.int (k : Int) = V.int j) = true then tRaiseV K H0 E te _ σ H else B D σ H
 by_cases z : (k : Int) = j
 ·rw [if_pos (by rw [z]; simp)]
  exact h1 z _
 ·rw [if_neg (by simpa using z)]
  exact h2 z
theorem C7_ : FnScope ["_law_which", "_law_text_here", "_law_found", "_law_e"] ["_law_which", "_law_text_here"] (defScope s7_) := fsc (by decide +kernel)
theorem g7_ (h : Has K mg "_law_raised" s7_) (B : Own mg) (FV : ExcBaseFacts "ValueError" newV initV bmV)
  (ONoPath : OwnCls "NoPath" aNoPath bmV newV mg base) (ONoValue : OwnCls "NoValue" aNoValue bmV newV mg base) (ONoText : OwnCls "NoText" aNoText bmV newV mg base) (ONoDeed : OwnCls "NoDeed" aNoDeed bmV newV mg base)
  (ONotLet : OwnClsI "NotLet" aNotLet fI bmV newV mg base) (FI : FnOk P w K mg base CX0 1 fI fdI ["self", "path", "word"] (spInitX K aNotLet)) (BI : Binds K fdI ["self", "path", "word"] []) (tI : PySem.W.typeIn K (.ref fI) = some (.type "function")) (mFormError : mg "FormError" = some (.ref aFormError))
  (kp : ∀ D ∈ clsL aNoPath aNoSamples aNoValue aNoText aNoName aNoDeed aFull aNoRow aNotLet, PySem.W.keepIn K (.ref D) = true) (cx : ∀ D ∈ clsL aNoPath aNoSamples aNoValue aNoText aNoName aNoDeed aFull aNoRow aNotLet, Caught K D aFormError /\ PySem.W.mroIn K D (.type "BaseException") = some true /\ PySem.W.typeIn K (.ref D) = some (.type "type")) :
  GoodNX P w K mg base 3 "_law_raised" ["_law_which", "_law_text_here"] (pnRai (clsL aNoPath aNoSamples aNoValue aNoText aNoName aNoDeed aFull aNoRow aNotLet)) := by
 have hk : ∀ {j : Nat} {D : Addr}, (clsL aNoPath aNoSamples aNoValue aNoText aNoName aNoDeed aFull aNoRow aNotLet)[j]? = some D -> PySem.W.keepIn K (.ref D) = true := fun e => kp _ (List.mem_of_getElem? e)
 refine h.good C7_ (fun|_,_,_,_,_,_,[_,_],_=>rfl) (fun vs H Q E q => ?_) (fun f cdv A outer s H vs Q E hr q => ?_)
 ·obtain ⟨Ts, D, fts, p, ⟨k, t, rfl, _⟩, _⟩ := q
  rw [Paired.length p]; rfl
 ·obtain ⟨Ts, D, fts, p, ⟨k, t, rfl, ht, hz, ek, rfl⟩, q⟩ := q
  have nd := C7_.nd
  obtain ⟨CT, mb, ty⟩ := cx D (List.mem_of_getElem? ek)
  cases p with
  | @cons x1 _ _ _ v1 p1 =>
  cases p1 with
  | @cons x2 _ _ _ v2 p2 =>
  cases p2
  obtain ⟨rfl, _⟩ := v1.leafI
  obtain ⟨rfl, _⟩ := v2.leafI
  refine ⟨_, (pss_cons (ps_set (i := 2) nd rfl (by first | exact Or.inl rfl | exact Or.inr rfl) pe_non)
   (pss_cons (ps_tryD (i := 3) rfl rfl rfl rfl mFormError nd rfl rfl (by first | exact Or.inl rfl | exact Or.inr rfl) (by first | exact Or.inl rfl | exact Or.inr rfl) (fun E pn xe hx => (pss_cons (ps_if (pt_cmpR op_eq (pv 0) pe_int (nomark _)) (pss_one (ps_raiseV (K := K) (H0 := H) hx rfl rfl (pe_mk0 ONoPath FV (hk (j := 0) rfl) rfl rfl (pa_c (pv 1) pa_nil)))) pss_nil)
    (pss_cons (ps_if (pt_cmpR op_eq (pv 0) pe_int (nomark _)) (pss_one (ps_raiseV (K := K) (H0 := H) hx rfl rfl (pe_mk0 ONoValue FV (hk (j := 2) rfl) rfl rfl (pa_c (pv 1) pa_nil)))) pss_nil)
    (pss_cons (ps_if (pt_cmpR op_eq (pv 0) pe_int (nomark _)) (pss_one (ps_raiseV (K := K) (H0 := H) hx rfl rfl (pe_mk0 ONoDeed FV (hk (j := 5) rfl) rfl rfl (pa_c (pv 1) pa_nil)))) pss_nil)
    (pss_cons (ps_if (pt_cmpR op_eq (pv 0) pe_int (nomark _)) (pss_one (ps_raiseV (K := K) (H0 := H) hx rfl rfl (pe_mkI ONotLet FV tI (hk (j := 8) rfl) FI (hr.mono (by omega)) BI rfl rfl (pa_c (pe_tup (pa_c (pv 1) (pa_c pe_int pa_nil))) (pa_c (pv 1) pa_nil))))) pss_nil)
    (pss_one (ps_raiseV (K := K) (H0 := H) hx rfl rfl (pe_mk0 ONoText FV (hk (j := 3) rfl) rfl rfl (pa_c (pv 1) pa_nil)))))))))
    (fun pn e => (pss_one (ps_set (i := 2) nd rfl (by first | exact Or.inl rfl | exact Or.inr rfl) (pv 3)))))
   (pss_one (ps_ret (pv 2))))), ?_⟩
  have fin : ∀ (a e : Addr) (dxo : Option Addr) (H1 : Hp) (fs : List (Str × V)), H a = none -> (∀ b o, H b = some o -> H1 b = some o) -> H1 a = some (exO a D dxo true) -> drp H1 a e = none ->
    (dxo = none /\ fs = [] \/ ∃ dx, dxo = some dx /\ dx ≠ a /\ H1 dx = some (xdO dx fs)) -> Paired (fun (p : Str × V) (q : Str × Tv) => p.1 = q.1 /\ VA K H1 p.2 q.2) fs (if k = 8 then [("path", .seq true [sT t, iT 3]), ("word", sT t)] else []) ->
    Q (.ref e) (upd (drp H1 a) e (exO e D dxo false)) := fun a e dxo H1 fs n g0 ga ne xx pr => by
   have kp0 : ∀ b o, b ≠ a -> b ≠ e -> H1 b = some o -> upd (drp H1 a) e (exO e D dxo false) b = some o := fun b o z1 z2 r => by
    rw [upd_ne z2]
    unfold drp
    rw [if_neg z1]
    exact r
   have hn : H e = none := by
    cases r : H e with
    | none => rfl
    | some o =>
     have z : e ≠ a := fun z => by rw [z, n] at r; cases r
     have := g0 e o r
     unfold drp at ne
     rw [if_neg z, this] at ne
     cases ne
   have ne1 : ∀ b o, H1 b = some o -> b ≠ a -> b ≠ e := fun b o r z y => by
    subst y
    unfold drp at ne
    rw [if_neg z, r] at ne
    cases ne
   have up : HS H1 (upd (drp H1 a) e (exO e D dxo false)) := fun b o hb r => by
    have z : b ≠ a := fun z => by rw [z, ga] at r; cases r; cases hb
    exact kp0 b o z (ne1 b o r z) r
   refine q e _ (fun b o r => kp0 b o (fun z => by rw [z, n] at r; cases r) (fun z => by rw [z, hn] at r; cases r) (g0 b o r)) hn ⟨fs, ⟨false, ?_⟩, Paired.mapP pr fun _ _ z => ⟨z.1, z.2.hs up⟩⟩
   rcases xx with ⟨rfl, rfl⟩ | ⟨dx, rfl, nd, gd⟩
   ·exact .inl ⟨rfl, upd_same⟩
   ·exact .inr ⟨dx, ne1 dx _ gd nd, upd_same, kp0 dx _ nd (ne1 dx _ gd nd) gd⟩
  have pl : ∀ j : Nat, k = j -> j ≠ 8 -> ∀ (a e : Addr), H a = none -> drp (upd H a (exO a D none true)) a e = none -> Q (.ref e) (upd (drp (upd H a (exO a D none true)) a) e (exO e D none false)) := fun j ej j8 a e n ne =>
   fin a e none _ [] n (same_new n) upd_same ne (.inl ⟨rfl, rfl⟩) (by rw [if_neg (by omega)]; exact .nil)
  refine if_rai rfl (fun z D' => ⟨_, rfl, by rw [sizeLine_eq]; show 1 <= _; omega, fun a n => ?_⟩) (fun z0 => ?_)
  ·obtain rfl : k = 0 := by omega
   cases ek
   exact ⟨a, _, none, rfl, upd_same, n, mb, ty, _, rfl, CT, fun e ne => ⟨_, rfl, _, rfl, pl 0 rfl (by decide) a e n ne⟩⟩
  refine if_rai rfl (fun z D' => ⟨_, rfl, by rw [sizeLine_eq]; show 1 <= _; omega, fun a n => ?_⟩) (fun z2 => ?_)
  ·obtain rfl : k = 2 := by omega
   cases ek
   exact ⟨a, _, none, rfl, upd_same, n, mb, ty, _, rfl, CT, fun e ne => ⟨_, rfl, _, rfl, pl 2 rfl (by decide) a e n ne⟩⟩
  refine if_rai rfl (fun z D' => ⟨_, rfl, by rw [sizeLine_eq]; show 1 <= _; omega, fun a n => ?_⟩) (fun z5 => ?_)
  ·obtain rfl : k = 5 := by omega
   cases ek
   exact ⟨a, _, none, rfl, upd_same, n, mb, ty, _, rfl, CT, fun e ne => ⟨_, rfl, _, rfl, pl 5 rfl (by decide) a e n ne⟩⟩
  refine if_rai rfl (fun z D' => ⟨_, rfl, by rw [sizeLine_eq]; show 2 <= _; omega, fun p np => ⟨_, rfl, by rw [sizeLine_eq]; show 2 <= _; omega, fun a n => ?_⟩⟩) (fun z8 => ?_)
  ·obtain rfl : k = 8 := by omega
   cases ek
   have na : a ≠ p := fun z => by rw [z, upd_same] at n; cases n
   have n' : H a = none := by rw [upd_ne na] at n; exact n
   have gp : upd (upd H p (.tup [.str t, .int 3])) a (exO a aNotLet none true) p = some (.tup [.str t, .int 3]) := by rw [upd_ne na.symm, upd_same]
   refine ⟨a, p, t, [.str t, .int 3], rfl, by omega, upd_same, SqT.of gp, ?_, ?_, fun dx nd ne => ⟨rfl, ?_⟩⟩
   ·intro l hl
    rcases List.mem_cons.mp hl with rfl | hl
    ·exact Nat.le_trans hz (by decide)
    ·rw [List.mem_singleton.mp hl]
     show (3 : Int).natAbs.log2 < 1920
     decide
   ·refine tt_len (by simp) fun l hl => ?_
    rcases List.mem_cons.mp hl with rfl | hl
    ·exact ⟨Nat.le_trans hz (by decide), hz⟩
    ·rw [List.mem_singleton.mp hl]
     exact ⟨by show (3 : Int).natAbs.log2 < 1920; decide, by decide +kernel⟩
   have ndp : dx ≠ p := fun z => by rw [z, gp] at nd; cases nd
   have nd' : H dx = none := by rw [upd_ne ne, upd_ne ndp] at nd; exact nd
   generalize hH3 : upd (upd (upd (upd (upd H p (.tup [.str t, .int 3])) a (exO a aNotLet none true)) a (exO a aNotLet (some dx) true)) dx (xdO dx [("path", .ref p)])) dx (xdO dx (putF "word" (.str t) [("path", .ref p)])) = H3
   have g1 : H3 a = some (exO a aNotLet (some dx) true) := by rw [<- hH3, upd_ne ne.symm, upd_ne ne.symm, upd_same]
   have g2 : H3 dx = some (xdO dx (putF "word" (.str t) [("path", .ref p)])) := by rw [<- hH3, upd_same]
   have g3 : H3 p = some (.tup [.str t, .int 3]) := by rw [<- hH3, upd_ne ndp.symm, upd_ne ndp.symm, upd_ne na.symm, upd_ne na.symm, upd_same]
   have g0 : ∀ b o, H b = some o -> H3 b = some o := fun b o e => by
    have z1 : b ≠ p := fun z => by rw [z, np] at e; cases e
    have z2 : b ≠ a := fun z => by rw [z, n'] at e; cases e
    have z3 : b ≠ dx := fun z => by rw [z, nd'] at e; cases e
    rw [<- hH3, upd_ne z3, upd_ne z3, upd_ne z2, upd_ne z2, upd_ne z1]
    exact e
   exact ⟨a, _, some dx, rfl, g1, n', mb, ty, _, rfl, CT, fun e ne' => ⟨_, rfl, _, rfl, fin a e (some dx) _ _ n' g0 g1 ne' (.inr ⟨dx, rfl, ne, g2⟩) (by
    rw [if_pos rfl]
    exact .cons ⟨rfl, VA.seq (t := true) (SqT.of g3) (by simp) (.cons (.flat rfl) (.cons (.flat rfl) .nil))⟩ (.cons ⟨rfl, .flat rfl⟩ .nil))⟩⟩
  ·refine ⟨_, rfl, by rw [sizeLine_eq]; show 1 <= _; omega, fun a n => ?_⟩
   have e3 : raiK k = 3 := by
    unfold raiK
    split <;> first | rfl | omega
   rw [e3] at ek
   cases ek
   exact ⟨a, _, none, rfl, upd_same, n, mb, ty, _, rfl, CT, fun e ne => ⟨_, rfl, _, rfl, pl k rfl (by omega) a e n ne⟩⟩
end
end My
namespace My
open PySem L2 PyProof.Rows WordM
section
variable {P : Program} {w : World} {K : PySem.W.Frag} {mg : Str -> Option Value} {base : Heap}
theorem sig_small35 : ∀ c ∈ cs SIG, c < 16 ^ 8 := by decide +kernel
theorem sg_small35 {x : Str} (h : Sg x) : ∀ c ∈ x.cps.toList, c < 16 ^ 8 := fun c hc => sig_small35 c (h c hc)
theorem lf_flat : ∀ l : Lf, flatV l.v = true
 | .non => rfl
 | .int _ => rfl
 | .str _ => rfl
theorem eqs_lf : ∀ ls : List Lf, eqTs (ls.map fun l => Tv.leaf l.v) (ls.map fun l => Tv.leaf l.v) = true
 | [] => rfl
 | l :: ls => by
  rw [List.map_cons, eqTs, eqs_lf ls, Bool.and_true]
  exact eqV_refl (lf_flat l)
theorem eqo_lf (ls : List Lf) : EqOk (ls.map fun l => Tv.leaf l.v) (ls.map fun l => Tv.leaf l.v) := by
 have h : ∀ T ∈ ls.map (fun l => Tv.leaf l.v), EqD 40 T := fun T h => by
  obtain ⟨l, _, rfl⟩ := List.mem_map.mp h
  trivial
 exact .inr (.inr ⟨h, h⟩)
theorem C8_ : FnScope ["_law_script", "_law_deck_here", "_law_text_here", "_law_path", "_law_which", "_law_e", "_law_due"] ["_law_script"] (defScope s8_) := fsc (by decide +kernel)
theorem ok_law {f : Addr} {fd : FuncData} (F : Fun K "law" "law" s8_ f fd) (B : Own mg) (G1_ : Good P w K mg base 1 "_law_deck" ["_law_script"] (spDeck K)) (G4_ : PGood P w K mg base 3 "_law_text" ["_law_deck_here", "_law_most"] ptText) (G2_ : PGood P w K mg base 2 "_law_take" ["_law_deck_here", "_law_most"] ptTake) (G6_ : GoodNX P w K mg base 3 "_law_made" ["_law_which", "_law_text_here", "_law_path"] (pnMade (clsL aNoPath aNoSamples aNoValue aNoText aNoName aNoDeed aFull aNoRow aNotLet))) (G5_ : PGoodXc P w K mg base 1 "_law_classes" ["_law_e"] (ptCls (clsL aNoPath aNoSamples aNoValue aNoText aNoName aNoDeed aFull aNoRow aNotLet))) (G7_ : GoodNX P w K mg base 3 "_law_raised" ["_law_which", "_law_text_here"] (pnRai (clsL aNoPath aNoSamples aNoValue aNoText aNoName aNoDeed aFull aNoRow aNotLet)))  (XB : XBase K) (XR : XRows K aFormError (clsL aNoPath aNoSamples aNoValue aNoText aNoName aNoDeed aFull aNoRow aNotLet) (clsL aNoPath aNoSamples aNoValue aNoText aNoName aNoDeed aFull aNoRow aNotLet) 0) (mFormError : mg "FormError" = some (.ref aFormError)) (mValueError : mg "ValueError" = none) (XS : XSet K aNotLet) (NAp : NoAttr K aNotLet "path") (NAw : NoAttr K aNotLet "word") : FnOk P w K mg base CX0 6 f fd ["_law_script"] (spLaw K) := by
 refine F.ok C8_ (fun vs H Q E q => ?_) (fun cdv A outer s H vs Q E hr q => ?_)
 ·obtain ⟨a, ns, rfl, _⟩ := q
  rfl
 ·obtain ⟨aa, ns, rfl, hS, hlen, q⟩ := q
  have nd := C8_.nd
  refine ⟨_, (pss_cons (ps_set (i := 1) nd rfl (by first | exact Or.inl rfl | exact Or.inr rfl) (pe_fn G1_ (hr.mono (by omega)) rfl (pa_c (pv 0) pa_nil)))
   (pss_anyN fun F hrd => (us_cons (us_s 2 nd (ue_fm G4_ hr (ua_dk 1 (ua_c ue_int ua_nil))))
   (us_cons (us_s 3 nd (ue_slice pu_sl (ue_tup (ua_c (ue_fm G2_ hr (ua_dk 1 (ua_c ue_int ua_nil))) (ua_c (ue_fm G4_ hr (ua_dk 1 (ua_c ue_int ua_nil))) ua_nil))) uo_none (uo_some (ue_fm G2_ hr (ua_dk 1 (ua_c ue_int ua_nil))))))
   (us_cons (us_for (m := 7) PassesOwn.never rfl (ui_range1 rfl B.range (ua_c ue_int ua_nil)) (ug_name 4 (by decide) nd rfl (.inl rfl))
    (us_newX 5 hrd G6_ (hr.mono (by omega)) rfl nd rfl (.inl rfl) (ua_c (ue_var 4) (ua_c (ue_var 2) (ua_c (ue_var 3) ua_nil))) (fun F kn hd hrd hk =>
    (us_cons (us_if (ub_w (uw_or (ub_n hr (ue_callXc 5 hk G5_ (hr.mono (by omega))) (ue_ul (ul_lst (ua_c (ue_var 4) ua_nil)))) (uw_or (ub_not (ub_val (ue_isN 5 hk B.isinstance mFormError))) (uw_or1 (ub_not (ub_val (ue_isNT 5 hk B.isinstance mValueError boot_ValueError)))))))
     (us_one (us_ret ue_bl))
     us_nil)
    (us_one (us_if (ub_w (uw_and (ub_q hr (ue_var 4) ue_int) (uw_and1 (ub_w (uw_or (ub_n hr (ue_xfld 5 hk) (ue_var 3)) (uw_or1 (ub_n hr (ue_xfld 5 hk) (ue_var 2))))))))
     (us_one (us_ret ue_bl))
     us_nil))))))
   (us_cons (us_for (m := 7) PassesOwn.never rfl (ui_val (ue_ul (ul_lst (ua_c (ue_tup (ua_c ue_int (ua_c ue_int ua_nil))) (ua_c (ue_tup (ua_c ue_int (ua_c ue_int ua_nil))) (ua_c (ue_tup (ua_c ue_int (ua_c ue_int ua_nil))) (ua_c (ue_tup (ua_c ue_int (ua_c ue_int ua_nil))) (ua_c (ue_tup (ua_c ue_int (ua_c ue_int ua_nil))) ua_nil)))))))) (ug_tup 2 rfl (ugs_cons (ug_name 4 (by decide) nd rfl (.inl rfl)) (ugs_cons (ug_name 6 (by decide) nd rfl (.inl rfl)) ugs_nil)))
    (us_newX 5 hrd G7_ (hr.mono (by omega)) rfl nd rfl (.inl rfl) (ua_c (ue_var 4) (ua_c (ue_var 2) ua_nil)) (fun F kn hd hrd hk =>
    (us_cons (us_if (ub_w (uw_or (ub_isX 5) (uw_or (ub_n hr (ue_callXc 5 hk G5_ (hr.mono (by omega))) (ue_ul (ul_lst (ua_c (ue_var 6) ua_nil)))) (uw_or1 (ub_not (ub_val (ue_isNT 5 hk B.isinstance mValueError boot_ValueError)))))))
     (us_one (us_ret ue_bl))
     us_nil)
    (us_one (us_if (ub_w (uw_and (ub_q hr (ue_var 4) ue_int) (uw_and1 (ub_w (uw_or (ub_n hr (ue_xfld 5 hk) (ue_tup (ua_c (ue_var 2) (ua_c ue_int ua_nil)))) (uw_or1 (ub_n hr (ue_xfld 5 hk) (ue_var 2))))))))
     (us_one (us_ret ue_bl))
     us_nil))))))
   (us_one (us_ret ue_bl)))))))), ?_⟩
  refine ⟨_, rfl, aa, ns, rfl, hS, fun p c H1 np nc d1 s1 => ?_⟩
  refine law_endN (N := ["_law_script", "_law_deck_here", "_law_text_here", "_law_path", "_law_which", "_law_e", "_law_due"]) (by decide) d1 q ?_
  clear q hS hlen hr d1 s1 np nc
  refine ⟨rfl, 30, rfl, by decide, by decide, fun t st lt => ?_⟩
  refine ⟨rfl, 60, rfl, by decide, big_of (by decide) (by decide), fun n n0 n1 => ⟨rfl, 8, rfl, by decide, by decide, fun u su lu => ⟨by simp, rfl, 3, rfl, by decide, big_of (by decide) (by decide), fun c c0 c1 => ⟨c, rfl, ?_⟩⟩⟩⟩
  have sm : ∀ x : Str, Sg x -> (x.length : Int) <= 30 -> (reprText x).length <= 1000 := fun x h l => Nat.le_trans (PySem.StrLaws.reprText_len x (sg_small35 h)) (by omega)
  have hls : ∃ ls : List Lf, cutT [iT n, sT u] none (some c) = ls.map (fun l => Tv.leaf l.v) /\ ls.length <= 2 /\ ∀ l ∈ ls, LfS l := by
   have f1 : LfS (.int n) := by
    have hn : n.natAbs < 100 := by omega
    refine ⟨?_, ?_⟩
    ·show n.natAbs.log2 < 1920
     exact Nat.lt_of_le_of_lt (Nat.log2_le_self _) (by omega)
    ·have := (int_sg n (by omega)).2
     show (Str.ofString (toString n)).length <= 1000
     omega
   have f2 : LfS (.str u) := ⟨Nat.le_trans (sm u su (by omega)) (by decide), sm u su (by omega)⟩
   rcases (by omega : c = 0 \/ c = 1 \/ c = 2) with rfl | rfl | rfl
   ·exact ⟨[], rfl, by simp, fun l h => nomatch h⟩
   ·exact ⟨[.int n], rfl, by simp, fun l h => by rw [List.mem_singleton.mp h]; exact f1⟩
   ·exact ⟨[.int n, .str u], rfl, by simp, fun l h => by
     rcases List.mem_cons.mp h with rfl | h
     ·exact f1
     ·rw [List.mem_singleton.mp h]; exact f2⟩
  obtain ⟨ls, e, l2, lf⟩ := hls
  unfold pSlc
  dsimp only
  rw [e]
  clear e
  have h9 : ∀ i : Nat, i < 9 -> ∃ D, (clsL aNoPath aNoSamples aNoValue aNoText aNoName aNoDeed aFull aNoRow aNotLet)[i]? = some D := fun i hi => ⟨_, List.getElem?_eq_getElem (show i < (clsL aNoPath aNoSamples aNoValue aNoText aNoName aNoDeed aFull aNoRow aNotLet).length from hi)⟩
  have ne1 : ∀ i : Nat, (true != (false == false && eqTs [iT i] [iT i])) = false := fun i => by simp [eqTs, L2.eqT, eqV]
  have eq1 : ∀ i : Nat, EqOk [iT i] [iT i] := fun i => .inr (.inr ⟨fun T h => by rw [List.mem_singleton.mp h]; trivial, fun T h => by rw [List.mem_singleton.mp h]; trivial⟩)
  refine ⟨9, rfl, by decide, by decide, ?_⟩
  refine forT_inv (fun i ρ => ∃ s4 s5 s6 : Sl, plainS s4 = true /\ plainS s5 = true /\ plainS s6 = true /\ ρ = [.no, .dk, .va (sT t), .va (.seq true (ls.map fun l => Tv.leaf l.v)), s4, s5, s6]) ⟨_, _, _, rfl, rfl, rfl, rfl⟩ ?_ ?_
  ·rintro i T _ N hT ⟨s4, s5, s6, p4, p5, p6, rfl⟩ hN
   obtain ⟨hi, rfl⟩ := rngT_get hT
   have hi : i < 9 := hi
   rw [show (0 : Int) + (i : Int) = (i : Int) by omega]
   obtain ⟨D, eD⟩ := h9 i hi
   obtain ⟨XC, kF, kV, _⟩ := rows_get XR eD
   refine ⟨[iT i, sT t, .seq true (ls.map fun l => Tv.leaf l.v)], D, _, ⟨rfl, rfl, rfl, trivial⟩, ⟨i, t, ls, rfl, by omega, l2, lf, eD, rfl⟩, ?_, by simp, fun a => ?_⟩
   ·show (true && (true && (true && (true && (plainS (.va (iT i)) && (plainS s5 && (plainS s6 && true))))))) = true
    rw [p5, p6]
    rfl
   refine ⟨a, D, _, rfl, ⟨rfl, rfl, rfl⟩, i, eD, by simp, eq1 i, false, congrArg bT (ne1 i), iteF ?_⟩
   refine ⟨a, D, _, true, rfl, ⟨rfl, rfl, rfl⟩, XB, XC, kF, true, rfl, iteF ⟨a, D, _, true, rfl, ⟨rfl, rfl, rfl⟩, XB, XC, kV, true, rfl, iteF ?_⟩⟩
   have pl : (true && (true && (true && (true && (plainS (.va (iT i)) && (plainS (.fn a) && (plainS s6 && true))))))) = true := by
    rw [p6]
    rfl
   by_cases z : i = 8
   ·subst z
    cases eD
    refine ⟨true, rfl, iteT ?_⟩
    have e1 : (true != (true == true && eqTs (ls.map fun l => Tv.leaf l.v) (ls.map fun l => Tv.leaf l.v))) = false := by rw [eqs_lf]; rfl
    have e2 : (true != eqV (.str t) (.str t)) = false := by rw [eqV_refl rfl]; rfl
    refine ⟨a, _, _, _, rfl, ⟨rfl, rfl, rfl⟩, XC, XS, NAp, rfl, eqo_lf ls, false, congrArg bT e1, iteF ?_⟩
    refine ⟨a, _, _, _, rfl, ⟨rfl, rfl, rfl⟩, XC, XS, NAw, rfl, false, congrArg bT e2, iteF ?_⟩
    exact ⟨pl, hN _ ⟨_, _, _, rfl, rfl, p6, rfl⟩⟩
   ·have e3 : (false != eqV (.int (i : Int)) (.int 8)) = false := by simp [eqV]; omega
    refine ⟨false, congrArg bT e3, iteF (iteF ⟨pl, hN _ ⟨_, _, _, rfl, rfl, p6, rfl⟩⟩)⟩
  ·rintro _ ⟨s4, s5, s6, p4, p5, p6, rfl⟩
   refine ⟨by simp, by simp, by simp, by simp, by simp, by simp, ?_⟩
   have h9' : ∀ k : Nat, ∃ D, (clsL aNoPath aNoSamples aNoValue aNoText aNoName aNoDeed aFull aNoRow aNotLet)[raiK k]? = some D := fun k => h9 _ (by unfold raiK; split <;> omega)
   refine forT_inv (fun i ρ => ∃ s4 s5 s6 : Sl, plainS s4 = true /\ plainS s5 = true /\ plainS s6 = true /\ ρ = [.no, .dk, .va (sT t), .va (.seq true (ls.map fun l => Tv.leaf l.v)), s4, s5, s6]) ⟨_, _, _, p4, p5, p6, rfl⟩ ?_ ?_
   ·rintro i T _ N hT ⟨s4, s5, s6, p4, p5, p6, rfl⟩ hN
    have hk : ∃ k : Nat, T = .seq true [iT k, iT (raiK k : Nat)] := by
     have m := List.mem_of_getElem? hT
     simp only [List.mem_cons, List.not_mem_nil, or_false] at m
     rcases m with rfl | rfl | rfl | rfl | rfl
     ·exact ⟨0, rfl⟩
     ·exact ⟨2, rfl⟩
     ·exact ⟨5, rfl⟩
     ·exact ⟨8, rfl⟩
     ·exact ⟨1, rfl⟩
    obtain ⟨k, rfl⟩ := hk
    obtain ⟨D, eD⟩ := h9' k
    obtain ⟨XC, kF, kV, _⟩ := rows_get XR eD
    refine ⟨_, rfl, rfl, _, _, rfl, _, _, rfl, rfl, ?_⟩
    refine ⟨[iT k, sT t], D, _, ⟨rfl, rfl, trivial⟩, ⟨k, t, rfl, by omega, sm t st (by omega), eD, rfl⟩, ?_, by simp, fun a => ?_⟩
    ·show (true && (true && (true && (true && (plainS (.va (iT k)) && (plainS s5 && (plainS (.va (iT (raiK k : Nat))) && true))))))) = true
     rw [p5]
     rfl
    refine ⟨a, rfl, iteF ⟨a, D, _, rfl, ⟨rfl, rfl, rfl⟩, raiK k, eD, by simp, eq1 _, false, congrArg bT (ne1 _), iteF ⟨a, D, _, true, rfl, ⟨rfl, rfl, rfl⟩, XB, XC, kV, true, rfl, iteF ?_⟩⟩⟩
    by_cases z : k = 8
    ·subst z
     cases eD
     refine ⟨true, rfl, iteT ?_⟩
     have e1 : (true != (true == true && eqTs [sT t, iT 3] [sT t, iT 3])) = false := by
      rw [show eqTs [sT t, iT 3] [sT t, iT 3] = true from eqs_lf [.str t, .int 3]]
      rfl
     have e2 : (true != eqV (.str t) (.str t)) = false := by rw [eqV_refl rfl]; rfl
     refine ⟨a, _, _, _, rfl, ⟨rfl, rfl, rfl⟩, XC, XS, NAp, rfl, by simp, eqo_lf [.str t, .int 3], false, congrArg bT e1, iteF ?_⟩
     refine ⟨a, _, _, _, rfl, ⟨rfl, rfl, rfl⟩, XC, XS, NAw, rfl, false, congrArg bT e2, iteF ?_⟩
     exact ⟨rfl, hN _ ⟨_, _, _, rfl, rfl, rfl, rfl⟩⟩
    ·have e3 : (false != eqV (.int (k : Int)) (.int 8)) = false := by simp [eqV]; omega
     exact ⟨false, congrArg bT e3, iteF (iteF ⟨rfl, hN _ ⟨_, _, _, rfl, rfl, rfl, rfl⟩⟩)⟩
   ·rintro _ ⟨s4, s5, s6, p4, p5, p6, rfl⟩
    rfl
end
end My
namespace My
open PySem L2 PyProof.Rows
open WordM
open PySem
theorem all_mk {l : PySem.W.OpenLaw} {w : World} {K : PySem.W.Frag} {h : Heap} {mg : Str -> Option Value} {fa : Addr} (X : K.In h) (G : h.Ns mainGlobals mg) (hfa : mg "law" = some (.ref fa)) {f8 : Addr} {v_8 t_8 : Option Addr} {p_8 : Array (Option Value)} {u_8 w_8 x_8 y_8 r_8 q_8 : Value}
 (h0_ : Has K mg "_law_mixed" s0_)
 (h1_ : Has K mg "_law_deck" s1_)
 (h2_ : Has K mg "_law_take" s2_)
 (h3_ : Has K mg "_law_signs" s3_)
 (h4_ : Has K mg "_law_text" s4_)
 (h5_ : Has K mg "_law_classes" s5_)
 (h6_ : Has K mg "_law_made" s6_)
 (h7_ : Has K mg "_law_raised" s7_)
 (a8 : PySem.W.nsIn K mainGlobals "law" = some (some (.ref f8))) (l8 : K.lookup f8 = some ⟨u_8, v_8, .func (PySem.W.fnOf "law" "law" (defArgs s8_) (defBody s8_) (defScope s8_) .none w_8 x_8 y_8 t_8 r_8 q_8), p_8⟩) (c8 : PySem.W.codeIn K r_8 "law" = true) (k8 : PySem.W.keepIn K (.ref f8) = true)
    (z0 : PySem.W.nsIn K mainGlobals "len" = some none) (z1 : PySem.W.nsIn K mainGlobals "range" = some none) (z2 : PySem.W.nsIn K mainGlobals "isinstance" = some none) (z3 : PySem.W.nsIn K mainGlobals "int" = some none) (z4 : PySem.W.nsIn K mainGlobals "bool" = some none) (z5 : PySem.W.nsIn K mainGlobals "str" = some none) (z6 : PySem.W.nsIn K mainGlobals "list" = some none) (z7 : PySem.W.nsIn K mainGlobals "tuple" = some none) (z8 : PySem.W.nsIn K mainGlobals "dict" = some none) (z9 : PySem.W.nsIn K mainGlobals "sum" = some none) (z10 : PySem.W.nsIn K mainGlobals "min" = some none) (z11 : PySem.W.nsIn K mainGlobals "max" = some none) (z12 : PySem.W.nsIn K mainGlobals "all" = some none) (z13 : PySem.W.nsIn K mainGlobals "any" = some none) (z14 : PySem.W.nsIn K mainGlobals "abs" = some none) (z15 : PySem.W.nsIn K mainGlobals "zip" = some none) (z16 : PySem.W.nsIn K mainGlobals "sorted" = some none) (z17 : PySem.W.nsIn K mainGlobals "set" = some none) (z18 : PySem.W.nsIn K mainGlobals "enumerate" = some none) {aFormError aNoPath aNoSamples aNoValue aNoText aNoName aNoDeed aFull aNoRow aNotLet fI : Addr} {odI anI : Option Addr} {slI : Array (Option Value)} {ocI kVI dcI pmI cdI ctI : Value}
    (nFormError : PySem.W.nsIn K mainGlobals "FormError" = some (some (.ref aFormError)))
    (nNoPath : PySem.W.nsIn K mainGlobals "NoPath" = some (some (.ref aNoPath)))
    (nNoSamples : PySem.W.nsIn K mainGlobals "NoSamples" = some (some (.ref aNoSamples)))
    (nNoValue : PySem.W.nsIn K mainGlobals "NoValue" = some (some (.ref aNoValue)))
    (nNoText : PySem.W.nsIn K mainGlobals "NoText" = some (some (.ref aNoText)))
    (nNoName : PySem.W.nsIn K mainGlobals "NoName" = some (some (.ref aNoName)))
    (nNoDeed : PySem.W.nsIn K mainGlobals "NoDeed" = some (some (.ref aNoDeed)))
    (nFull : PySem.W.nsIn K mainGlobals "Full" = some (some (.ref aFull)))
    (nNoRow : PySem.W.nsIn K mainGlobals "NoRow" = some (some (.ref aNoRow)))
    (nNotLet : PySem.W.nsIn K mainGlobals "NotLet" = some (some (.ref aNotLet)))
    (zV : PySem.W.nsIn K mainGlobals "ValueError" = some none)
    (xsp : PySem.W.specialIn K (.builtin "object.__class__") "__get__" = some (some (.builtin "getset_descriptor.__get__")))
    (xtk : PySem.W.takesIn K (.builtin "object.__class__") = some true)
    (xty : PySem.W.typeIn K (.ref aFormError) = some (.type "type"))
    (xfb : PySem.W.mroIn K aFormError (.type "BaseException") = some true)
    (fI0 : PySem.W.findIn K (.ref aNotLet) "__init__" = some (some (.ref fI)))
    (fI1 : PySem.W.typeIn K (.ref fI) = some (.type "function"))
    (fI2 : K.lookup fI = some ⟨ocI, odI, .func (PySem.W.fnOf "__init__" "NotLet.__init__" (defArgs sm___init__) (defBody sm___init__) (defScope sm___init__) .none kVI dcI pmI anI cdI ctI), slI⟩)
    (fI3 : PySem.W.codeIn K cdI "NotLet.__init__" = true)
    (fI4 : PySem.W.keepIn K (.ref fI) = true)
    (qI : L2.excInI K aNotLet fI [.type "ValueError", .type "Exception", .type "BaseException", .type "object"] "ValueError.__new__" = true)
    (xr : PySem.W.readsIn K aFormError (.type "type") = true)
    (xf : PySem.W.findCls K (.ref aFormError) (.type "type") "__init__" = some (.val (.builtin "ValueError.__init__")))
    (xg : PySem.W.specialIn K (.ref aFormError) "__getattribute__" = some (some (.builtin "type.__getattribute__")))
    (mv : PySem.W.mroIn K aNotLet (.type "ValueError") = some true)
    (sa : PySem.W.findIn K (.ref aNotLet) "__setattr__" = some (some (.builtin "object.__setattr__")))
    (sp : (PySem.W.clsIn K aNotLet).any (fun cd => L2.passX cd.mro && cd.hasDict) = true)
    (na : PySem.W.findIn K (.ref aNotLet) "path" = some none)
    (nw : PySem.W.findIn K (.ref aNotLet) "word" = some none)
    (q0 : PySem.W.excIn K aNoPath [.type "ValueError", .type "Exception", .type "BaseException", .type "object"] "ValueError.__new__" = true)
    (kp0 : PySem.W.keepIn K (.ref aNoPath) = true)
    (ga0 : PySem.W.findIn K (.ref aNoPath) "__getattribute__" = some (some (.builtin "BaseException.__getattribute__")))
    (gt0 : PySem.W.findIn K (.ref aNoPath) "__getattr__" = some none)
    (cl0 : PySem.W.findIn K (.ref aNoPath) "__class__" = some (some (.builtin "object.__class__")))
    (mo0 : PySem.W.mroIn K aNoPath (.type "object") = some true)
    (mb0 : PySem.W.mroIn K aNoPath (.type "BaseException") = some true)
    (ty0 : PySem.W.typeIn K (.ref aNoPath) = some (.type "type"))
    (md0 : PySem.W.mroIn K aNoPath (.ref aFormError) = some true)
    (hF0 : PySem.W.kitOne K (.ref aNoPath) (.ref aFormError) = some true)
    (hV0 : PySem.W.kitOne K (.ref aNoPath) (.type "ValueError") = some true)
    (k0_0 : PySem.W.kitOne K (.ref aNoPath) (.ref aNoPath) = some true)
    (k0_1 : PySem.W.kitOne K (.ref aNoPath) (.ref aNoSamples) = some false)
    (k0_2 : PySem.W.kitOne K (.ref aNoPath) (.ref aNoValue) = some false)
    (k0_3 : PySem.W.kitOne K (.ref aNoPath) (.ref aNoText) = some false)
    (k0_4 : PySem.W.kitOne K (.ref aNoPath) (.ref aNoName) = some false)
    (k0_5 : PySem.W.kitOne K (.ref aNoPath) (.ref aNoDeed) = some false)
    (k0_6 : PySem.W.kitOne K (.ref aNoPath) (.ref aFull) = some false)
    (k0_7 : PySem.W.kitOne K (.ref aNoPath) (.ref aNoRow) = some false)
    (k0_8 : PySem.W.kitOne K (.ref aNoPath) (.ref aNotLet) = some false)
    (q1 : PySem.W.excIn K aNoSamples [.type "ValueError", .type "Exception", .type "BaseException", .type "object"] "ValueError.__new__" = true)
    (kp1 : PySem.W.keepIn K (.ref aNoSamples) = true)
    (ga1 : PySem.W.findIn K (.ref aNoSamples) "__getattribute__" = some (some (.builtin "BaseException.__getattribute__")))
    (gt1 : PySem.W.findIn K (.ref aNoSamples) "__getattr__" = some none)
    (cl1 : PySem.W.findIn K (.ref aNoSamples) "__class__" = some (some (.builtin "object.__class__")))
    (mo1 : PySem.W.mroIn K aNoSamples (.type "object") = some true)
    (mb1 : PySem.W.mroIn K aNoSamples (.type "BaseException") = some true)
    (ty1 : PySem.W.typeIn K (.ref aNoSamples) = some (.type "type"))
    (md1 : PySem.W.mroIn K aNoSamples (.ref aFormError) = some true)
    (hF1 : PySem.W.kitOne K (.ref aNoSamples) (.ref aFormError) = some true)
    (hV1 : PySem.W.kitOne K (.ref aNoSamples) (.type "ValueError") = some true)
    (k1_0 : PySem.W.kitOne K (.ref aNoSamples) (.ref aNoPath) = some false)
    (k1_1 : PySem.W.kitOne K (.ref aNoSamples) (.ref aNoSamples) = some true)
    (k1_2 : PySem.W.kitOne K (.ref aNoSamples) (.ref aNoValue) = some false)
    (k1_3 : PySem.W.kitOne K (.ref aNoSamples) (.ref aNoText) = some false)
    (k1_4 : PySem.W.kitOne K (.ref aNoSamples) (.ref aNoName) = some false)
    (k1_5 : PySem.W.kitOne K (.ref aNoSamples) (.ref aNoDeed) = some false)
    (k1_6 : PySem.W.kitOne K (.ref aNoSamples) (.ref aFull) = some false)
    (k1_7 : PySem.W.kitOne K (.ref aNoSamples) (.ref aNoRow) = some false)
    (k1_8 : PySem.W.kitOne K (.ref aNoSamples) (.ref aNotLet) = some false)
    (q2 : PySem.W.excIn K aNoValue [.type "ValueError", .type "Exception", .type "BaseException", .type "object"] "ValueError.__new__" = true)
    (kp2 : PySem.W.keepIn K (.ref aNoValue) = true)
    (ga2 : PySem.W.findIn K (.ref aNoValue) "__getattribute__" = some (some (.builtin "BaseException.__getattribute__")))
    (gt2 : PySem.W.findIn K (.ref aNoValue) "__getattr__" = some none)
    (cl2 : PySem.W.findIn K (.ref aNoValue) "__class__" = some (some (.builtin "object.__class__")))
    (mo2 : PySem.W.mroIn K aNoValue (.type "object") = some true)
    (mb2 : PySem.W.mroIn K aNoValue (.type "BaseException") = some true)
    (ty2 : PySem.W.typeIn K (.ref aNoValue) = some (.type "type"))
    (md2 : PySem.W.mroIn K aNoValue (.ref aFormError) = some true)
    (hF2 : PySem.W.kitOne K (.ref aNoValue) (.ref aFormError) = some true)
    (hV2 : PySem.W.kitOne K (.ref aNoValue) (.type "ValueError") = some true)
    (k2_0 : PySem.W.kitOne K (.ref aNoValue) (.ref aNoPath) = some false)
    (k2_1 : PySem.W.kitOne K (.ref aNoValue) (.ref aNoSamples) = some false)
    (k2_2 : PySem.W.kitOne K (.ref aNoValue) (.ref aNoValue) = some true)
    (k2_3 : PySem.W.kitOne K (.ref aNoValue) (.ref aNoText) = some false)
    (k2_4 : PySem.W.kitOne K (.ref aNoValue) (.ref aNoName) = some false)
    (k2_5 : PySem.W.kitOne K (.ref aNoValue) (.ref aNoDeed) = some false)
    (k2_6 : PySem.W.kitOne K (.ref aNoValue) (.ref aFull) = some false)
    (k2_7 : PySem.W.kitOne K (.ref aNoValue) (.ref aNoRow) = some false)
    (k2_8 : PySem.W.kitOne K (.ref aNoValue) (.ref aNotLet) = some false)
    (q3 : PySem.W.excIn K aNoText [.type "ValueError", .type "Exception", .type "BaseException", .type "object"] "ValueError.__new__" = true)
    (kp3 : PySem.W.keepIn K (.ref aNoText) = true)
    (ga3 : PySem.W.findIn K (.ref aNoText) "__getattribute__" = some (some (.builtin "BaseException.__getattribute__")))
    (gt3 : PySem.W.findIn K (.ref aNoText) "__getattr__" = some none)
    (cl3 : PySem.W.findIn K (.ref aNoText) "__class__" = some (some (.builtin "object.__class__")))
    (mo3 : PySem.W.mroIn K aNoText (.type "object") = some true)
    (mb3 : PySem.W.mroIn K aNoText (.type "BaseException") = some true)
    (ty3 : PySem.W.typeIn K (.ref aNoText) = some (.type "type"))
    (md3 : PySem.W.mroIn K aNoText (.ref aFormError) = some true)
    (hF3 : PySem.W.kitOne K (.ref aNoText) (.ref aFormError) = some true)
    (hV3 : PySem.W.kitOne K (.ref aNoText) (.type "ValueError") = some true)
    (k3_0 : PySem.W.kitOne K (.ref aNoText) (.ref aNoPath) = some false)
    (k3_1 : PySem.W.kitOne K (.ref aNoText) (.ref aNoSamples) = some false)
    (k3_2 : PySem.W.kitOne K (.ref aNoText) (.ref aNoValue) = some false)
    (k3_3 : PySem.W.kitOne K (.ref aNoText) (.ref aNoText) = some true)
    (k3_4 : PySem.W.kitOne K (.ref aNoText) (.ref aNoName) = some false)
    (k3_5 : PySem.W.kitOne K (.ref aNoText) (.ref aNoDeed) = some false)
    (k3_6 : PySem.W.kitOne K (.ref aNoText) (.ref aFull) = some false)
    (k3_7 : PySem.W.kitOne K (.ref aNoText) (.ref aNoRow) = some false)
    (k3_8 : PySem.W.kitOne K (.ref aNoText) (.ref aNotLet) = some false)
    (q4 : PySem.W.excIn K aNoName [.type "ValueError", .type "Exception", .type "BaseException", .type "object"] "ValueError.__new__" = true)
    (kp4 : PySem.W.keepIn K (.ref aNoName) = true)
    (ga4 : PySem.W.findIn K (.ref aNoName) "__getattribute__" = some (some (.builtin "BaseException.__getattribute__")))
    (gt4 : PySem.W.findIn K (.ref aNoName) "__getattr__" = some none)
    (cl4 : PySem.W.findIn K (.ref aNoName) "__class__" = some (some (.builtin "object.__class__")))
    (mo4 : PySem.W.mroIn K aNoName (.type "object") = some true)
    (mb4 : PySem.W.mroIn K aNoName (.type "BaseException") = some true)
    (ty4 : PySem.W.typeIn K (.ref aNoName) = some (.type "type"))
    (md4 : PySem.W.mroIn K aNoName (.ref aFormError) = some true)
    (hF4 : PySem.W.kitOne K (.ref aNoName) (.ref aFormError) = some true)
    (hV4 : PySem.W.kitOne K (.ref aNoName) (.type "ValueError") = some true)
    (k4_0 : PySem.W.kitOne K (.ref aNoName) (.ref aNoPath) = some false)
    (k4_1 : PySem.W.kitOne K (.ref aNoName) (.ref aNoSamples) = some false)
    (k4_2 : PySem.W.kitOne K (.ref aNoName) (.ref aNoValue) = some false)
    (k4_3 : PySem.W.kitOne K (.ref aNoName) (.ref aNoText) = some false)
    (k4_4 : PySem.W.kitOne K (.ref aNoName) (.ref aNoName) = some true)
    (k4_5 : PySem.W.kitOne K (.ref aNoName) (.ref aNoDeed) = some false)
    (k4_6 : PySem.W.kitOne K (.ref aNoName) (.ref aFull) = some false)
    (k4_7 : PySem.W.kitOne K (.ref aNoName) (.ref aNoRow) = some false)
    (k4_8 : PySem.W.kitOne K (.ref aNoName) (.ref aNotLet) = some false)
    (q5 : PySem.W.excIn K aNoDeed [.type "ValueError", .type "Exception", .type "BaseException", .type "object"] "ValueError.__new__" = true)
    (kp5 : PySem.W.keepIn K (.ref aNoDeed) = true)
    (ga5 : PySem.W.findIn K (.ref aNoDeed) "__getattribute__" = some (some (.builtin "BaseException.__getattribute__")))
    (gt5 : PySem.W.findIn K (.ref aNoDeed) "__getattr__" = some none)
    (cl5 : PySem.W.findIn K (.ref aNoDeed) "__class__" = some (some (.builtin "object.__class__")))
    (mo5 : PySem.W.mroIn K aNoDeed (.type "object") = some true)
    (mb5 : PySem.W.mroIn K aNoDeed (.type "BaseException") = some true)
    (ty5 : PySem.W.typeIn K (.ref aNoDeed) = some (.type "type"))
    (md5 : PySem.W.mroIn K aNoDeed (.ref aFormError) = some true)
    (hF5 : PySem.W.kitOne K (.ref aNoDeed) (.ref aFormError) = some true)
    (hV5 : PySem.W.kitOne K (.ref aNoDeed) (.type "ValueError") = some true)
    (k5_0 : PySem.W.kitOne K (.ref aNoDeed) (.ref aNoPath) = some false)
    (k5_1 : PySem.W.kitOne K (.ref aNoDeed) (.ref aNoSamples) = some false)
    (k5_2 : PySem.W.kitOne K (.ref aNoDeed) (.ref aNoValue) = some false)
    (k5_3 : PySem.W.kitOne K (.ref aNoDeed) (.ref aNoText) = some false)
    (k5_4 : PySem.W.kitOne K (.ref aNoDeed) (.ref aNoName) = some false)
    (k5_5 : PySem.W.kitOne K (.ref aNoDeed) (.ref aNoDeed) = some true)
    (k5_6 : PySem.W.kitOne K (.ref aNoDeed) (.ref aFull) = some false)
    (k5_7 : PySem.W.kitOne K (.ref aNoDeed) (.ref aNoRow) = some false)
    (k5_8 : PySem.W.kitOne K (.ref aNoDeed) (.ref aNotLet) = some false)
    (q6 : PySem.W.excIn K aFull [.type "ValueError", .type "Exception", .type "BaseException", .type "object"] "ValueError.__new__" = true)
    (kp6 : PySem.W.keepIn K (.ref aFull) = true)
    (ga6 : PySem.W.findIn K (.ref aFull) "__getattribute__" = some (some (.builtin "BaseException.__getattribute__")))
    (gt6 : PySem.W.findIn K (.ref aFull) "__getattr__" = some none)
    (cl6 : PySem.W.findIn K (.ref aFull) "__class__" = some (some (.builtin "object.__class__")))
    (mo6 : PySem.W.mroIn K aFull (.type "object") = some true)
    (mb6 : PySem.W.mroIn K aFull (.type "BaseException") = some true)
    (ty6 : PySem.W.typeIn K (.ref aFull) = some (.type "type"))
    (md6 : PySem.W.mroIn K aFull (.ref aFormError) = some true)
    (hF6 : PySem.W.kitOne K (.ref aFull) (.ref aFormError) = some true)
    (hV6 : PySem.W.kitOne K (.ref aFull) (.type "ValueError") = some true)
    (k6_0 : PySem.W.kitOne K (.ref aFull) (.ref aNoPath) = some false)
    (k6_1 : PySem.W.kitOne K (.ref aFull) (.ref aNoSamples) = some false)
    (k6_2 : PySem.W.kitOne K (.ref aFull) (.ref aNoValue) = some false)
    (k6_3 : PySem.W.kitOne K (.ref aFull) (.ref aNoText) = some false)
    (k6_4 : PySem.W.kitOne K (.ref aFull) (.ref aNoName) = some false)
    (k6_5 : PySem.W.kitOne K (.ref aFull) (.ref aNoDeed) = some false)
    (k6_6 : PySem.W.kitOne K (.ref aFull) (.ref aFull) = some true)
    (k6_7 : PySem.W.kitOne K (.ref aFull) (.ref aNoRow) = some false)
    (k6_8 : PySem.W.kitOne K (.ref aFull) (.ref aNotLet) = some false)
    (q7 : PySem.W.excIn K aNoRow [.type "ValueError", .type "Exception", .type "BaseException", .type "object"] "ValueError.__new__" = true)
    (kp7 : PySem.W.keepIn K (.ref aNoRow) = true)
    (ga7 : PySem.W.findIn K (.ref aNoRow) "__getattribute__" = some (some (.builtin "BaseException.__getattribute__")))
    (gt7 : PySem.W.findIn K (.ref aNoRow) "__getattr__" = some none)
    (cl7 : PySem.W.findIn K (.ref aNoRow) "__class__" = some (some (.builtin "object.__class__")))
    (mo7 : PySem.W.mroIn K aNoRow (.type "object") = some true)
    (mb7 : PySem.W.mroIn K aNoRow (.type "BaseException") = some true)
    (ty7 : PySem.W.typeIn K (.ref aNoRow) = some (.type "type"))
    (md7 : PySem.W.mroIn K aNoRow (.ref aFormError) = some true)
    (hF7 : PySem.W.kitOne K (.ref aNoRow) (.ref aFormError) = some true)
    (hV7 : PySem.W.kitOne K (.ref aNoRow) (.type "ValueError") = some true)
    (k7_0 : PySem.W.kitOne K (.ref aNoRow) (.ref aNoPath) = some false)
    (k7_1 : PySem.W.kitOne K (.ref aNoRow) (.ref aNoSamples) = some false)
    (k7_2 : PySem.W.kitOne K (.ref aNoRow) (.ref aNoValue) = some false)
    (k7_3 : PySem.W.kitOne K (.ref aNoRow) (.ref aNoText) = some false)
    (k7_4 : PySem.W.kitOne K (.ref aNoRow) (.ref aNoName) = some false)
    (k7_5 : PySem.W.kitOne K (.ref aNoRow) (.ref aNoDeed) = some false)
    (k7_6 : PySem.W.kitOne K (.ref aNoRow) (.ref aFull) = some false)
    (k7_7 : PySem.W.kitOne K (.ref aNoRow) (.ref aNoRow) = some true)
    (k7_8 : PySem.W.kitOne K (.ref aNoRow) (.ref aNotLet) = some false)
    (kp8 : PySem.W.keepIn K (.ref aNotLet) = true)
    (ga8 : PySem.W.findIn K (.ref aNotLet) "__getattribute__" = some (some (.builtin "BaseException.__getattribute__")))
    (gt8 : PySem.W.findIn K (.ref aNotLet) "__getattr__" = some none)
    (cl8 : PySem.W.findIn K (.ref aNotLet) "__class__" = some (some (.builtin "object.__class__")))
    (mo8 : PySem.W.mroIn K aNotLet (.type "object") = some true)
    (mb8 : PySem.W.mroIn K aNotLet (.type "BaseException") = some true)
    (ty8 : PySem.W.typeIn K (.ref aNotLet) = some (.type "type"))
    (md8 : PySem.W.mroIn K aNotLet (.ref aFormError) = some true)
    (hF8 : PySem.W.kitOne K (.ref aNotLet) (.ref aFormError) = some true)
    (hV8 : PySem.W.kitOne K (.ref aNotLet) (.type "ValueError") = some true)
    (k8_0 : PySem.W.kitOne K (.ref aNotLet) (.ref aNoPath) = some false)
    (k8_1 : PySem.W.kitOne K (.ref aNotLet) (.ref aNoSamples) = some false)
    (k8_2 : PySem.W.kitOne K (.ref aNotLet) (.ref aNoValue) = some false)
    (k8_3 : PySem.W.kitOne K (.ref aNotLet) (.ref aNoText) = some false)
    (k8_4 : PySem.W.kitOne K (.ref aNotLet) (.ref aNoName) = some false)
    (k8_5 : PySem.W.kitOne K (.ref aNotLet) (.ref aNoDeed) = some false)
    (k8_6 : PySem.W.kitOne K (.ref aNotLet) (.ref aFull) = some false)
    (k8_7 : PySem.W.kitOne K (.ref aNotLet) (.ref aNoRow) = some false)
    (k8_8 : PySem.W.kitOne K (.ref aNotLet) (.ref aNotLet) = some true) :
    ∃ fd : FuncData, (∀ (s : Shared) (v : Value), BindsTo s fd ⟨[v], []⟩ [("_law_script", v)]) /\ ∀ base : Heap, K.In base -> base.Ns mainGlobals mg -> FnOk l.prog w K mg base CX0 6 fa fd ["_law_script"] (spLaw K) := by
  have e := hfa.symm.trans (PySem.W.mg_of X G a8)
  cases e
  have B : Own mg := own_mk X G z0 z1 z2 z3 z4 z5 z6 z7 z8 z9 z10 z11 z12 z13 z14 z15 z16 z17 z18
  refine ⟨PySem.W.fnOf "law" "law" (defArgs s8_) (defBody s8_) (defScope s8_) .none w_8 x_8 y_8 t_8 r_8 q_8, fun s v => .of_eq rfl, fun base KB GB => ?_⟩
  have G2_ : PGood l.prog w K mg base 2 "_law_take" ["_law_deck_here", "_law_most"] ptTake := Good.take (g_take h2_ (g_mixed h0_))
  have G3_ : PGood l.prog w K mg base 1 "_law_signs" [] ptSigns := g3_ h3_ B 
  have G4_ : PGood l.prog w K mg base 3 "_law_text" ["_law_deck_here", "_law_most"] ptText := g4_ h4_ B G3_ G2_
  have XB : XBase K := ⟨xsp, xtk⟩
  have XR : XRows K aFormError (clsL aNoPath aNoSamples aNoValue aNoText aNoName aNoDeed aFull aNoRow aNotLet) (clsL aNoPath aNoSamples aNoValue aNoText aNoName aNoDeed aFull aNoRow aNotLet) 0 := ⟨⟨⟨ga0, gt0, cl0, mo0, mb0⟩, hF0, hV0, k0_0, k0_1, k0_2, k0_3, k0_4, k0_5, k0_6, k0_7, k0_8, trivial⟩, ⟨⟨ga1, gt1, cl1, mo1, mb1⟩, hF1, hV1, k1_0, k1_1, k1_2, k1_3, k1_4, k1_5, k1_6, k1_7, k1_8, trivial⟩, ⟨⟨ga2, gt2, cl2, mo2, mb2⟩, hF2, hV2, k2_0, k2_1, k2_2, k2_3, k2_4, k2_5, k2_6, k2_7, k2_8, trivial⟩, ⟨⟨ga3, gt3, cl3, mo3, mb3⟩, hF3, hV3, k3_0, k3_1, k3_2, k3_3, k3_4, k3_5, k3_6, k3_7, k3_8, trivial⟩, ⟨⟨ga4, gt4, cl4, mo4, mb4⟩, hF4, hV4, k4_0, k4_1, k4_2, k4_3, k4_4, k4_5, k4_6, k4_7, k4_8, trivial⟩, ⟨⟨ga5, gt5, cl5, mo5, mb5⟩, hF5, hV5, k5_0, k5_1, k5_2, k5_3, k5_4, k5_5, k5_6, k5_7, k5_8, trivial⟩, ⟨⟨ga6, gt6, cl6, mo6, mb6⟩, hF6, hV6, k6_0, k6_1, k6_2, k6_3, k6_4, k6_5, k6_6, k6_7, k6_8, trivial⟩, ⟨⟨ga7, gt7, cl7, mo7, mb7⟩, hF7, hV7, k7_0, k7_1, k7_2, k7_3, k7_4, k7_5, k7_6, k7_7, k7_8, trivial⟩, ⟨⟨ga8, gt8, cl8, mo8, mb8⟩, hF8, hV8, k8_0, k8_1, k8_2, k8_3, k8_4, k8_5, k8_6, k8_7, k8_8, trivial⟩, trivial⟩
  have mFormError := PySem.W.mg_of X G nFormError
  have mValueError := PySem.W.mg_none_of X G zV
  have XS : XSet K aNotLet := ⟨sa, sp⟩
  have FI := init_ok (P := l.prog) (w := w) (mg := mg) (base := base) (fun_mk (st := sm___init__) fI2 fI3 fI4) PySem.F.excBase_ValueError ⟨xr, xf, xg, rfl⟩ mFormError mv XS na nw
  have BI := (fun_mk (st := sm___init__) fI2 fI3 fI4).binds (ps := ["self", "path", "word"]) (fun|_,_,_,_,_,_,[_,_,_],_=>rfl)
  have kp : ∀ D ∈ (clsL aNoPath aNoSamples aNoValue aNoText aNoName aNoDeed aFull aNoRow aNotLet), PySem.W.keepIn K (.ref D) = true := fun D h => by simp only [List.mem_cons, List.not_mem_nil, or_false] at h; rcases h with rfl | rfl | rfl | rfl | rfl | rfl | rfl | rfl | rfl <;> assumption
  have cx : ∀ D ∈ (clsL aNoPath aNoSamples aNoValue aNoText aNoName aNoDeed aFull aNoRow aNotLet), Caught K D aFormError /\ PySem.W.mroIn K D (.type "BaseException") = some true /\ PySem.W.typeIn K (.ref D) = some (.type "type") := fun D h => by simp only [List.mem_cons, List.not_mem_nil, or_false] at h; rcases h with rfl | rfl | rfl | rfl | rfl | rfl | rfl | rfl | rfl <;> exact ⟨⟨xty, xfb, by assumption⟩, by assumption, by assumption⟩
  have G5_ : PGoodXc l.prog w K mg base 1 "_law_classes" ["_law_e"] (ptCls (clsL aNoPath aNoSamples aNoValue aNoText aNoName aNoDeed aFull aNoRow aNotLet)) := g5_ h5_ B XB XR (PySem.W.mg_of X G nNoPath) (PySem.W.mg_of X G nNoSamples) (PySem.W.mg_of X G nNoValue) (PySem.W.mg_of X G nNoText) (PySem.W.mg_of X G nNoName) (PySem.W.mg_of X G nNoDeed) (PySem.W.mg_of X G nFull) (PySem.W.mg_of X G nNoRow) (PySem.W.mg_of X G nNotLet)
  have G6_ : GoodNX l.prog w K mg base 3 "_law_made" ["_law_which", "_law_text_here", "_law_path"] (pnMade (clsL aNoPath aNoSamples aNoValue aNoText aNoName aNoDeed aFull aNoRow aNotLet)) := g6_ h6_ B PySem.F.excBase_ValueError (own_mkX KB GB nNoPath q0) (own_mkX KB GB nNoSamples q1) (own_mkX KB GB nNoValue q2) (own_mkX KB GB nNoText q3) (own_mkX KB GB nNoName q4) (own_mkX KB GB nNoDeed q5) (own_mkX KB GB nFull q6) (own_mkX KB GB nNoRow q7) (own_mkI KB GB nNotLet qI) FI BI fI1 kp
  have G7_ : GoodNX l.prog w K mg base 3 "_law_raised" ["_law_which", "_law_text_here"] (pnRai (clsL aNoPath aNoSamples aNoValue aNoText aNoName aNoDeed aFull aNoRow aNotLet)) := g7_ h7_ B PySem.F.excBase_ValueError (own_mkX KB GB nNoPath q0) (own_mkX KB GB nNoValue q2) (own_mkX KB GB nNoText q3) (own_mkX KB GB nNoDeed q5) (own_mkI KB GB nNotLet qI) FI BI fI1 mFormError kp cx
  exact ok_law (fun_mk (st := s8_) l8 c8 k8) B (g_deck h1_ B) G4_ G2_ G6_ G5_ G7_ XB XR mFormError mValueError XS na nw
theorem walk {l : PySem.W.OpenLaw} {q : Program} {loose : List Str} {XP : (Str -> Option Value) -> Heap -> Prop} {YP : World -> Heap -> Prop} {d : DefRec} {K : Params -> PySem.W.Frag} (hn : l.most = some 63) (hdf : d.params.defaults = [])
  (hY : ∀ (w : World) (h : Heap), YP w h -> (K w.params).In h)
  (F : ∀ (w : World) (mg : Str -> Option Value) (fa : Addr) (h : Heap), (K w.params).In h -> h.Ns mainGlobals mg -> mg d.name = some (.ref fa) ->
   ∃ fd : FuncData, (∀ (s : Shared) (u : Value), BindsTo s fd ⟨[u], []⟩ [("_law_script", u)]) /\ ∀ base : Heap, (K w.params).In base -> base.Ns mainGlobals mg -> FnOk l.prog w (K w.params) mg base CX0 6 fa fd ["_law_script"] (spLaw (K w.params))) :
  PySem.W.WalkO q loose XP YP l.row.toRowW d [] (fun f vs => PySem.call f vs) :=
 L2.walk_of (n := 63) (k := 6) (x := "_law_script") (CX := fun _ => CX0) (sp := fun w => spLaw (K w.params)) hn (by decide) hdf ⟨rfl, by decide, by decide, rfl⟩ hY F (fun _ _ a ns hl _ hS => ⟨a, ns, rfl, hS, hl, fun _ => rfl⟩) fun _ _ _ _ _ z => z
end My
inductive PySem.W.Fast : Prop
|tw4716646278036666358
|tw10932467382605175936
|tw13499221255756410784
|tw7507958575925344192
|tw5928111605704582337
|tw1429940267780874625
|tw1139340230280353185
|tw2810531851677567906
|tw11709771057732950946
|tw9599457887724342371
|tw14680345882599752355
|tw18425932252434271332
|tw3294728522037900709
|tw16966389421561361798
|tw1684072224739957734
|tw4236410836135759655
|tw15772662114678980616
|tw3978829471673316873
|tw17669937548668072521
|tw11355184434501247147
|tw2701659875736094123
|tw8246576386623897133
|tw4055772477567583502
|tw9899582786118620207
|tw6605529395074374127
|tw12557143916035244176
|tw12515863555459386992
|tw8529990140371698865
|tw13189136148031188561
|tw7472844667867142898
|tw11826645803172262738
|tw8393552843310939923
|tw8986417054846549939
|tw15824174177100450900
|tw854964694485381141
|tw2268291864576189557
|tw1211645522678126070
|tw5395211089145903734
|tw13908393645235683030
|tw17962627962147076311
|tw2713295932267611511
|tw13308186445099969496
|tw4830383676185339864
|tw16009651935798952345
|tw10668695435692883769
|tw16258190367339088410
|tw15779589153058642746
|tw8641693208567053242
|tw7716838213362940922
|tw16630805665468352859
|tw5992081384570517083
|tw14356125572769708859
|tw14956224868656708636
|tw11614533384139048188
|tw2124375434818702780
|tw1969926834510121468
|tw6161860941213810460
|tw8905690443902903421
|tw7823405383126772125
|tw12099113986054859198
|tw8380112447984222174
|tw13693556906400266335
|tw4538710230378170847
|tw9085934303847233215
open PySem PySem.W PyProof.Rows
set_option maxRecDepth 100000 in
set_option maxHeartbeats 0 in
theorem PySem.Challenge.cw_leastform_k35_refusals_made_by_hand_holds : PySem.Challenge.rw_leastform_k35_refusals_made_by_hand.Holds := by
 w_on; o_law; k_head; (case hw => w_witness2)
 k_fill
 refine My.walk (l := PySem.Challenge.rw_leastform_k35_refusals_made_by_hand) rfl rfl (fun w h Y => PySem.W.kIn_of Y) ?F
 case F =>
  intro w mg fa h KX G hmg
  refine' My.all_mk KX G hmg (L2.has_mk KX G ?a0 ?l0 ?c0 ?k0) (L2.has_mk KX G ?a1 ?l1 ?c1 ?k1) (L2.has_mk KX G ?a2 ?l2 ?c2 ?k2) (L2.has_mk KX G ?a3 ?l3 ?c3 ?k3) (L2.has_mk KX G ?a4 ?l4 ?c4 ?k4) (L2.has_mk KX G ?a5 ?l5 ?c5 ?k5) (L2.has_mk KX G ?a6 ?l6 ?c6 ?k6) (L2.has_mk KX G ?a7 ?l7 ?c7 ?k7) ?a8 ?l8 ?c8 ?k8 ?z0 ?z1 ?z2 ?z3 ?z4 ?z5 ?z6 ?z7 ?z8 ?z9 ?z10 ?z11 ?z12 ?z13 ?z14 ?z15 ?z16 ?z17 ?z18 ?nFormError ?nNoPath ?nNoSamples ?nNoValue ?nNoText ?nNoName ?nNoDeed ?nFull ?nNoRow ?nNotLet ?zV ?xsp ?xtk ?xty ?xfb ?fI0 ?fI1 ?fI2 ?fI3 ?fI4 ?qI ?xr ?xf ?xg ?mv ?sa ?sp ?na ?nw ?q0 ?kp0 ?ga0 ?gt0 ?cl0 ?mo0 ?mb0 ?ty0 ?md0 ?hF0 ?hV0 ?k0_0 ?k0_1 ?k0_2 ?k0_3 ?k0_4 ?k0_5 ?k0_6 ?k0_7 ?k0_8 ?q1 ?kp1 ?ga1 ?gt1 ?cl1 ?mo1 ?mb1 ?ty1 ?md1 ?hF1 ?hV1 ?k1_0 ?k1_1 ?k1_2 ?k1_3 ?k1_4 ?k1_5 ?k1_6 ?k1_7 ?k1_8 ?q2 ?kp2 ?ga2 ?gt2 ?cl2 ?mo2 ?mb2 ?ty2 ?md2 ?hF2 ?hV2 ?k2_0 ?k2_1 ?k2_2 ?k2_3 ?k2_4 ?k2_5 ?k2_6 ?k2_7 ?k2_8 ?q3 ?kp3 ?ga3 ?gt3 ?cl3 ?mo3 ?mb3 ?ty3 ?md3 ?hF3 ?hV3 ?k3_0 ?k3_1 ?k3_2 ?k3_3 ?k3_4 ?k3_5 ?k3_6 ?k3_7 ?k3_8 ?q4 ?kp4 ?ga4 ?gt4 ?cl4 ?mo4 ?mb4 ?ty4 ?md4 ?hF4 ?hV4 ?k4_0 ?k4_1 ?k4_2 ?k4_3 ?k4_4 ?k4_5 ?k4_6 ?k4_7 ?k4_8 ?q5 ?kp5 ?ga5 ?gt5 ?cl5 ?mo5 ?mb5 ?ty5 ?md5 ?hF5 ?hV5 ?k5_0 ?k5_1 ?k5_2 ?k5_3 ?k5_4 ?k5_5 ?k5_6 ?k5_7 ?k5_8 ?q6 ?kp6 ?ga6 ?gt6 ?cl6 ?mo6 ?mb6 ?ty6 ?md6 ?hF6 ?hV6 ?k6_0 ?k6_1 ?k6_2 ?k6_3 ?k6_4 ?k6_5 ?k6_6 ?k6_7 ?k6_8 ?q7 ?kp7 ?ga7 ?gt7 ?cl7 ?mo7 ?mb7 ?ty7 ?md7 ?hF7 ?hV7 ?k7_0 ?k7_1 ?k7_2 ?k7_3 ?k7_4 ?k7_5 ?k7_6 ?k7_7 ?k7_8 ?kp8 ?ga8 ?gt8 ?cl8 ?mo8 ?mb8 ?ty8 ?md8 ?hF8 ?hV8 ?k8_0 ?k8_1 ?k8_2 ?k8_3 ?k8_4 ?k8_5 ?k8_6 ?k8_7 ?k8_8
  (case a0 => k_is)
  (case l0 => k_is)
  (case c0 => k_is)
  (case k0 => k_is)
  (case a1 => k_is)
  (case l1 => k_is)
  (case c1 => k_is)
  (case k1 => k_is)
  (case a2 => k_is)
  (case l2 => k_is)
  (case c2 => k_is)
  (case k2 => k_is)
  (case a3 => k_is)
  (case l3 => k_is)
  (case c3 => k_is)
  (case k3 => k_is)
  (case a4 => k_is)
  (case l4 => k_is)
  (case c4 => k_is)
  (case k4 => k_is)
  (case a5 => k_is)
  (case l5 => k_is)
  (case c5 => k_is)
  (case k5 => k_is)
  (case a6 => k_is)
  (case l6 => k_is)
  (case c6 => k_is)
  (case k6 => k_is)
  (case a7 => k_is)
  (case l7 => k_is)
  (case c7 => k_is)
  (case k7 => k_is)
  (case a8 => k_is)
  (case l8 => k_is)
  (case c8 => k_is)
  (case k8 => k_is)
  (case z0 => k_is)
  (case z1 => k_is)
  (case z2 => k_is)
  (case z3 => k_is)
  (case z4 => k_is)
  (case z5 => k_is)
  (case z6 => k_is)
  (case z7 => k_is)
  (case z8 => k_is)
  (case z9 => k_is)
  (case z10 => k_is)
  (case z11 => k_is)
  (case z12 => k_is)
  (case z13 => k_is)
  (case z14 => k_is)
  (case z15 => k_is)
  (case z16 => k_is)
  (case z17 => k_is)
  (case z18 => k_is)
  (case nFormError => k_is)
  (case nNoPath => k_is)
  (case nNoSamples => k_is)
  (case nNoValue => k_is)
  (case nNoText => k_is)
  (case nNoName => k_is)
  (case nNoDeed => k_is)
  (case nFull => k_is)
  (case nNoRow => k_is)
  (case nNotLet => k_is)
  (case zV => k_is)
  (case xsp => k_is)
  (case xtk => k_is)
  (case xty => k_is)
  (case xfb => k_is)
  (case fI0 => k_is)
  (case fI1 => k_is)
  (case fI2 => k_is)
  (case fI3 => k_is)
  (case fI4 => k_is)
  (case qI => (first | kernel_rfl | decide +kernel))
  (case xr => k_is)
  (case xf => k_is)
  (case xg => k_is)
  (case mv => k_is)
  (case sa => k_is)
  (case sp => (first | kernel_rfl | decide +kernel))
  (case na => k_is)
  (case nw => k_is)
  (case q0 => k_exc)
  (case kp0 => k_is)
  (case ga0 => k_is)
  (case gt0 => k_is)
  (case cl0 => k_is)
  (case mo0 => k_is)
  (case mb0 => k_is)
  (case ty0 => k_is)
  (case md0 => k_is)
  (case hF0 => kit_is)
  (case hV0 => kit_is)
  (case k0_0 => kit_is)
  (case k0_1 => kit_is)
  (case k0_2 => kit_is)
  (case k0_3 => kit_is)
  (case k0_4 => kit_is)
  (case k0_5 => kit_is)
  (case k0_6 => kit_is)
  (case k0_7 => kit_is)
  (case k0_8 => kit_is)
  (case q1 => k_exc)
  (case kp1 => k_is)
  (case ga1 => k_is)
  (case gt1 => k_is)
  (case cl1 => k_is)
  (case mo1 => k_is)
  (case mb1 => k_is)
  (case ty1 => k_is)
  (case md1 => k_is)
  (case hF1 => kit_is)
  (case hV1 => kit_is)
  (case k1_0 => kit_is)
  (case k1_1 => kit_is)
  (case k1_2 => kit_is)
  (case k1_3 => kit_is)
  (case k1_4 => kit_is)
  (case k1_5 => kit_is)
  (case k1_6 => kit_is)
  (case k1_7 => kit_is)
  (case k1_8 => kit_is)
  (case q2 => k_exc)
  (case kp2 => k_is)
  (case ga2 => k_is)
  (case gt2 => k_is)
  (case cl2 => k_is)
  (case mo2 => k_is)
  (case mb2 => k_is)
  (case ty2 => k_is)
  (case md2 => k_is)
  (case hF2 => kit_is)
  (case hV2 => kit_is)
  (case k2_0 => kit_is)
  (case k2_1 => kit_is)
  (case k2_2 => kit_is)
  (case k2_3 => kit_is)
  (case k2_4 => kit_is)
  (case k2_5 => kit_is)
  (case k2_6 => kit_is)
  (case k2_7 => kit_is)
  (case k2_8 => kit_is)
  (case q3 => k_exc)
  (case kp3 => k_is)
  (case ga3 => k_is)
  (case gt3 => k_is)
  (case cl3 => k_is)
  (case mo3 => k_is)
  (case mb3 => k_is)
  (case ty3 => k_is)
  (case md3 => k_is)
  (case hF3 => kit_is)
  (case hV3 => kit_is)
  (case k3_0 => kit_is)
  (case k3_1 => kit_is)
  (case k3_2 => kit_is)
  (case k3_3 => kit_is)
  (case k3_4 => kit_is)
  (case k3_5 => kit_is)
  (case k3_6 => kit_is)
  (case k3_7 => kit_is)
  (case k3_8 => kit_is)
  (case q4 => k_exc)
  (case kp4 => k_is)
  (case ga4 => k_is)
  (case gt4 => k_is)
  (case cl4 => k_is)
  (case mo4 => k_is)
  (case mb4 => k_is)
  (case ty4 => k_is)
  (case md4 => k_is)
  (case hF4 => kit_is)
  (case hV4 => kit_is)
  (case k4_0 => kit_is)
  (case k4_1 => kit_is)
  (case k4_2 => kit_is)
  (case k4_3 => kit_is)
  (case k4_4 => kit_is)
  (case k4_5 => kit_is)
  (case k4_6 => kit_is)
  (case k4_7 => kit_is)
  (case k4_8 => kit_is)
  (case q5 => k_exc)
  (case kp5 => k_is)
  (case ga5 => k_is)
  (case gt5 => k_is)
  (case cl5 => k_is)
  (case mo5 => k_is)
  (case mb5 => k_is)
  (case ty5 => k_is)
  (case md5 => k_is)
  (case hF5 => kit_is)
  (case hV5 => kit_is)
  (case k5_0 => kit_is)
  (case k5_1 => kit_is)
  (case k5_2 => kit_is)
  (case k5_3 => kit_is)
  (case k5_4 => kit_is)
  (case k5_5 => kit_is)
  (case k5_6 => kit_is)
  (case k5_7 => kit_is)
  (case k5_8 => kit_is)
  (case q6 => k_exc)
  (case kp6 => k_is)
  (case ga6 => k_is)
  (case gt6 => k_is)
  (case cl6 => k_is)
  (case mo6 => k_is)
  (case mb6 => k_is)
  (case ty6 => k_is)
  (case md6 => k_is)
  (case hF6 => kit_is)
  (case hV6 => kit_is)
  (case k6_0 => kit_is)
  (case k6_1 => kit_is)
  (case k6_2 => kit_is)
  (case k6_3 => kit_is)
  (case k6_4 => kit_is)
  (case k6_5 => kit_is)
  (case k6_6 => kit_is)
  (case k6_7 => kit_is)
  (case k6_8 => kit_is)
  (case q7 => k_exc)
  (case kp7 => k_is)
  (case ga7 => k_is)
  (case gt7 => k_is)
  (case cl7 => k_is)
  (case mo7 => k_is)
  (case mb7 => k_is)
  (case ty7 => k_is)
  (case md7 => k_is)
  (case hF7 => kit_is)
  (case hV7 => kit_is)
  (case k7_0 => kit_is)
  (case k7_1 => kit_is)
  (case k7_2 => kit_is)
  (case k7_3 => kit_is)
  (case k7_4 => kit_is)
  (case k7_5 => kit_is)
  (case k7_6 => kit_is)
  (case k7_7 => kit_is)
  (case k7_8 => kit_is)
  (case kp8 => k_is)
  (case ga8 => k_is)
  (case gt8 => k_is)
  (case cl8 => k_is)
  (case mo8 => k_is)
  (case mb8 => k_is)
  (case ty8 => k_is)
  (case md8 => k_is)
  (case hF8 => kit_is)
  (case hV8 => kit_is)
  (case k8_0 => kit_is)
  (case k8_1 => kit_is)
  (case k8_2 => kit_is)
  (case k8_3 => kit_is)
  (case k8_4 => kit_is)
  (case k8_5 => kit_is)
  (case k8_6 => kit_is)
  (case k8_7 => kit_is)
  (case k8_8 => kit_is)
